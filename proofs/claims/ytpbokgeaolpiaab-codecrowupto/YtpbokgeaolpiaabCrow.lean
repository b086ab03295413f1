/- Proved: frames that stand one behind the other are taken one by one, each with its kind and place, and nothing is left over; for every slice of slices of bytes and every number, where what comes in holds together at most 1048576 values. -/
import Derived.Test.YtpbokgeaolpiaabRows
import Derived.Test.YtpbokgeaolpiaabLrow
import Derived.Test.YtpbokgeaolpiaabOpen
import Derived.Deep.Matrix
import Derived.JoinedCond
namespace Go.Proofs.Ytpbokgeaolpiaab.codecRow
open Go.ChangeShapes Go.WideShapes Go.ChangeAt Go.RowKit Go.Deep

theorem own : ownKnob Try.prog.godebug = none := by kernel_rfl
theorem laidOut : laidOutB Try.prog = true := by kernel_rfl

/- what the bound on values gives -/
theorem bulk_pos {H : Type} (d : DataW H) : 0 < Rows.uptoBulk d := by
  cases d with
  | lit l => cases l <;> simp [Rows.uptoBulk]
  | _ => simp [Rows.uptoBulk]
theorem bulk_count {H : Type} (l : List (DataW H)) : l.length ≤ Rows.uptoBulkAll l := by
  induction l with
  | nil => simp
  | cons x r ih => have := bulk_pos x; simp only [Rows.uptoBulkAll, List.length_cons]; omega
theorem bulk_mem {H : Type} {d : DataW H} {l : List (DataW H)} (h : d ∈ l) : Rows.uptoBulk d ≤ Rows.uptoBulkAll l := by
  induction l with
  | nil => cases h
  | cons x r ih =>
    simp only [Rows.uptoBulkAll]
    rcases List.mem_cons.1 h with e | e
    · subst e; omega
    · have := ih e; omega

set_option maxRecDepth 100000 in
theorem upto_le {H : Type} {l : List (DataW H)} (hk : Rows.uptoSmall H l = true) : Rows.uptoBulkAll l ≤ 1048576 := by
  unfold Rows.uptoSmall at hk
  exact of_decide_eq_true hk

theorem open_bodies {H : Type} {enc : TypeId × Value → H} {W : World} {a : Option Addr} {len cap : Nat} {d : DataW H} {p : List MemPlace} (h : DataW.Trod enc Try.prog W 0 (fun _ => true) true 47 (.slice a len cap) d p)
    (hk : Rows.uptoBulk d ≤ 1048576) : ∃ (A : Nat → Option Addr) (C : Nat → Nat) (L : Nat → List UInt8), Bodies W a len A C L := by
  obtain ⟨fuel, hf⟩ := h
  rcases open_int_rows Try.underlying47 Try.underlying33 Try.underlying5 (by kernel_rfl) Try.cells5 hf with ⟨hcs, _⟩ | ⟨x, len', cap', A, L, C, Z, hcs, _, hl, hm, hx, hrow⟩
  · simp [Value.cells] at hcs
    obtain ⟨rfl, rfl, rfl⟩ := hcs
    exact ⟨fun _ => none, fun _ => 0, fun _ => [], by omega, fun r hr => absurd hr (by omega), fun h => absurd h (by omega), fun r hr => absurd hr (by omega)⟩
  · simp [Value.cells] at hcs
    obtain ⟨rfl, rfl, rfl⟩ := hcs
    simp only [Prod.mk.injEq] at hx
    rw [hx.1] at hk
    simp only [Rows.uptoBulk] at hk
    have hc1 := bulk_count ((List.range len).map fun r => intRow (H := H) .u8 (A r) (L r) (Z r))
    rw [List.length_map, List.length_range] at hc1
    obtain ⟨T, hT⟩ : ∃ T, T = Rows.uptoBulkAll ((List.range len).map fun r => intRow (H := H) .u8 (A r) (L r) (Z r)) := ⟨_, rfl⟩
    rw [← hT] at hc1 hk
    have hZ : ∀ r, r < len → (Z r).length ≤ 1048576 := by
      intro r hr
      obtain ⟨_, hLC, _, hZl, _, hnone, _⟩ := hrow r (by omega)
      cases hA : A r with
      | none => have := hnone hA; omega
      | some y =>
        have hmem : intRow (H := H) .u8 (A r) (L r) (Z r) ∈ (List.range len).map fun r => intRow (H := H) .u8 (A r) (L r) (Z r) := List.mem_map.2 ⟨r, List.mem_range.2 hr, rfl⟩
        have h1 := bulk_mem hmem
        rw [← hT, hA] at h1
        simp only [intRow, Rows.uptoBulk] at h1
        have h2 := bulk_count (lits (H := H) .u8 ((Z r).take (L r)))
        have h3 := bulk_count (lits (H := H) .u8 ((Z r).drop (L r)))
        simp only [lits, List.length_map, List.length_take, List.length_drop] at h1 h2 h3
        omega
    refine ⟨A, C, fun r => bytesOfInts ((Z r).take (L r)), by omega, fun r hr => ?_, fun hpos => ?_, fun r hr => ?_⟩
    · have := hZ r hr
      simp only [bytesOfInts, List.length_map, List.length_take]; omega
    · obtain ⟨b, off, spot⟩ := x
      have hc0 := (hrow 0 (by omega)).1
      have hspot : spot = none := by simpa [Addr.add] using World.cell?_spot hc0
      subst hspot
      refine ⟨b, off, rfl, World.block_lt_of_cell? W _ (by simpa [Addr.add] using hc0), fun r hr => ?_⟩
      obtain ⟨hc, hLC, _, hZl, _, _, _⟩ := hrow r (by omega)
      rw [Addr.add_lit] at hc
      have : (bytesOfInts ((Z r).take (L r))).length = L r := by simp only [bytesOfInts, List.length_map, List.length_take]; omega
      rw [hc, this]
    · obtain ⟨_, hLC, _, hZl, hwz, hnone, hsome⟩ := hrow r (by omega)
      have hz := hZ r hr
      refine ⟨by simp only [bytesOfInts, List.length_map, List.length_take]; omega, fun hne => ?_⟩
      have hL0 : 0 < L r := by
        rcases Nat.eq_zero_or_pos (L r) with h0 | h0
        · rw [h0] at hne; simp [bytesOfInts] at hne
        · exact h0
      cases hA : A r with
      | none => have := hnone hA; omega
      | some y =>
        obtain ⟨_, hcell⟩ := hsome y hA
        obtain ⟨b, off, spot⟩ := y
        have hc0 := hcell 0 (by omega)
        have hspot : spot = none := by simpa [Addr.add] using World.cell?_spot hc0
        subst hspot
        refine ⟨b, off, rfl, World.block_lt_of_cell? W _ (by simpa [Addr.add] using hc0), fun j hj => ?_⟩
        have hj2 : j < L r := by simp only [bytesOfInts, List.length_map, List.length_take] at hj; omega
        rw [bat_bytesOfInts (Z r) hwz (L r) j hj2 (by omega), ← hcell j (by omega), Addr.add_lit]

set_option maxRecDepth 100000 in
theorem contract (H : Type) (enc : TypeId × Value → H) (W : World) (base : Nat) (args : Array Value) (ds gs : List (DataW H)) (before : List MemPlace)
    (hval : ∀ (j : Nat) t v, Try.f4.params[j]? = some t → args[j]? = some v → Value.okWide Try.prog W .any base t v)
    (hW : DataW.Whole enc Try.prog Try.f4.params.toList Rows.codecRowSpec.vars false W args.toList ds gs before) (hk : Rows.uptoSmall H (ds ++ gs) = true) :
    Calls Try.prog 4 args W fun e W' => ∃ v, e = .returned v ∧ Rows.codecRowSpec.post enc Try.prog Try.f4 false true false false W args v W' := by
  have hW' := hW
  obtain ⟨p, q, hA0, hV, rfl, hfz, hnd⟩ := hW
  have hA : DataW.TrodAll enc Try.prog W 0 (fun _ => true) true Try.f4.params.toList args.toList ds p := hA0
  rw [Try.params4] at hA hval
  obtain ⟨v0, vs0, d0, ds0, p0, q0, hargs, rfl, rfl, h0, r0⟩ := trodAll_cons hA
  obtain ⟨v1, vs1, d1, ds1, p1, q1, rfl, rfl, rfl, h1, r1⟩ := trodAll_cons r0
  obtain ⟨rfl, rfl, rfl⟩ := trodAll_nil r1
  obtain rfl : args = #[v0, v1] := by cases args; simp_all
  obtain ⟨rfl, rfl⟩ := trodVars_none hV
  obtain ⟨a0, len0, cap0, rfl⟩ := okWide_slice Try.underlying47 (hval 0 47 v0 rfl rfl)
  have k0 := h0
  have lt0 : ∀ x ∈ p0, x.block < W.heap.size := by obtain ⟨m, hm⟩ := k0; exact DataW.trod_lt m _ _ _ hm
  have hb0 : Rows.uptoBulk d0 ≤ 1048576 := by
    have h := upto_le hk
    have := bulk_mem (d := d0) (l := [d0, d1] ++ []) (by simp)
    omega
  obtain ⟨A, C, L, hB⟩ := open_bodies h0 hb0
  obtain ⟨x1, rfl, rfl, rfl, w1⟩ := open_int Try.underlying3 (hval 1 3 v1 rfl rfl) h1
  clear hA0 hk
  refine (lawRow W a0 len0 cap0 A C L hB x1).mono fun e W' ⟨he, bel⟩ => ?_
  subst he
  exact ⟨_, rfl, _, _, _, [], _, [], hW', trodAll_mk1 (shut_bool Try.underlying4 _), (trodAll_cons_mk (Below.trod laidOut (by kernel_rfl) (of_decide_eq_true (by kernel_rfl)) k0 bel lt0) (trodAll_cons_mk (shut_int Try.underlying3 w1) trodAll_mk0)), rfl, bel.frame _, fun h => by cases h⟩

set_option maxRecDepth 100000 in
theorem lifted (os : Os) (started : os.Started) (H : Type) (enc : TypeId × Value → H) (F : Stop.Interp) :
    ReturnsInHanded {} Try.checked os 4 .any ((Rows.OpenSpec.upto Rows.codecRowSpec).pre6 enc Try.prog Try.f4 Rows.codecRowUptoRow.domain false) (((Rows.OpenSpec.upto Rows.codecRowSpec).at F).post enc Try.prog Try.f4 false true false false) := by
  refine returnsInHanded_of_cond (C := Try.checked) (s := Rows.OpenSpec.upto Rows.codecRowSpec) (k := Rows.uptoSmall) rfl own started (by kernel_rfl) Try.func4
    (OpenSpec.witness (enc := enc) (C := Try.checked) (s := Rows.OpenSpec.upto Rows.codecRowSpec) (k := Rows.uptoSmall) rfl false ⟨#[], #[.slice none 0 0, .int .i64 0], []⟩ 8 (by kernel_rfl) (by kernel_rfl) (by kernel_rfl)
      (x := ([.nil, .lit (.int .i64 0)], [], [])) (by kernel_rfl) rfl (by kernel_rfl)) ?_
  intro W base args ds gs before hval hW _ hk _
  exact contract H enc W base args ds gs before hval hW hk

theorem over : Rows.CodecRowUptoSaid :=
  OpenClaim.holds_of_cond 4 Try.f4 rfl rfl rfl rfl rfl rfl rfl ⟨rfl, rfl, rfl, rfl, rfl⟩ rfl rfl rfl rfl rfl (by kernel_rfl) Try.func4 (by kernel_rfl)
    (of_decide_eq_true (by kernel_rfl)) (by unfold Func.isWrapper; first | (rw [if_pos (by decide +kernel)]; kernel_rfl) | (rw [if_neg (by decide +kernel)]; exact ⟨rfl, rfl⟩))
    (fun os started H enc _ F => lifted os started H enc F)
end Go.Proofs.Ytpbokgeaolpiaab.codecRow

namespace Go.Proofs.Ytpbokgeaolpiaab
theorem codecRow_holds : Rows.CodecRowUptoSaid := codecRow.over
#print axioms codecRow_holds
end Go.Proofs.Ytpbokgeaolpiaab
