/- A slice of bytes that came in, as the walks want it: its bytes lie behind its address. -/
import Derived.Test.YtpbokgeaolpiaabGreatKA
import Derived.ProofKit
import Derived.OpenShut
import Derived.ShutString
import Derived.ChangeOld
import Derived.Below
import Derived.SizedLaws
namespace Go.Proofs.YtpbokgeaolpiaabGreat
open Go.ChangeShapes Go.WideShapes Go.ChangeAt Go.RowKit

theorem Tryz.bytes5 : Tryz.prog.bytesOf 5 = 1 := by kernel_rfl
theorem Tryz.cells5 : Tryz.prog.cellsOf 5 = 1 := by kernel_rfl

theorem wf_u8 (n : Int) (h : (Lit.int .u8 n).wf = true) : 0 ≤ n ∧ n ≤ 255 := bounds_u8 h
def bytesOfInts (zs : List Int) : List UInt8 := zs.map fun n => UInt8.ofNat n.toNat
theorem bat_bytesOfInts (zs : List Int) (hw : ∀ n ∈ zs, (Lit.int .u8 n).wf = true) (len j : Nat) (hj : j < len) (hl : len ≤ zs.length) : bat (bytesOfInts (zs.take len)) j = zs.getD j 0 := by
  have hj2 : j < zs.length := by omega
  have hb := wf_u8 (zs[j]) (hw _ (List.getElem_mem hj2))
  simp [bat, bn, bytesOfInts, List.getD, hj, hj2]
  omega

theorem open_bytes2 {H : Type} {enc : TypeId × Value → H} {W : World} {a : Option Addr} {len cap : Nat} {d : DataW H} {p : List MemPlace} (h : DataW.Trod enc Tryz.prog W 0 (fun _ => true) true 22 (.slice a len cap) d p)
    (hreach : ∀ elems spare, d = .slice elems spare → (elems.length + spare.length) * Tryz.prog.bytesOf 5 ≤ reachBytes) : ∃ l : List UInt8, len = l.length ∧ len ≤ cap ∧ Bs W a l ∧ len ≤ 140737488351232 := by
  obtain ⟨fuel, hf⟩ := h
  rcases open_ints Tryz.underlying22 Tryz.underlying5 Tryz.cells5 hf with ⟨hcs, _⟩ | ⟨x, l, c, zs, hcs, _, hl, hm, hz, hx, hcell, hwz⟩
  · simp [Value.cells] at hcs
    obtain ⟨rfl, rfl, rfl⟩ := hcs
    exact ⟨[], rfl, Nat.le_refl _, ⟨by simp, fun h => absurd rfl h⟩, by omega⟩
  · simp [Value.cells] at hcs
    obtain ⟨rfl, rfl, rfl⟩ := hcs
    simp only [Prod.mk.injEq] at hx
    simp only [if_true] at hz
    have hr := hreach _ _ hx.1
    rw [Tryz.bytes5] at hr
    simp only [lits, List.length_map, List.length_take, List.length_drop, reachBytes] at hr
    refine ⟨bytesOfInts (zs.take len), by simp [bytesOfInts]; omega, hl, ⟨by simp [bytesOfInts]; omega, fun hne => ?_⟩, by omega⟩
    have hlen : 0 < len := by
      rcases Nat.eq_zero_or_pos len with h0 | h0
      · subst h0; simp [bytesOfInts] at hne
      · exact h0
    obtain ⟨b, off, spot⟩ := x
    have hc0 := hcell 0 (by omega)
    have hspot : spot = none := by simpa [Addr.add] using World.cell?_spot hc0
    subst hspot
    refine ⟨b, off, rfl, World.block_lt_of_cell? W _ (by simpa [Addr.add] using hc0), fun j hj => ?_⟩
    have hj2 : j < len := by simp [bytesOfInts] at hj; omega
    rw [bat_bytesOfInts zs hwz len j hj2 (by omega), ← hcell j (by omega), Addr.add_lit]
theorem open_bytes {H : Type} {enc : TypeId × Value → H} {W : World} {a : Option Addr} {len cap : Nat} {d : DataW H} {p : List MemPlace} (h : DataW.Trod enc Tryz.prog W 0 (fun _ => true) true 22 (.slice a len cap) d p)
    (hreach : ∀ elems spare, d = .slice elems spare → (elems.length + spare.length) * Tryz.prog.bytesOf 5 ≤ reachBytes) : ∃ l : List UInt8, len = l.length ∧ len ≤ cap ∧ Bs W a l := by
  obtain ⟨l, h1, h2, h3, _⟩ := open_bytes2 h hreach
  exact ⟨l, h1, h2, h3⟩
end Go.Proofs.YtpbokgeaolpiaabGreat
