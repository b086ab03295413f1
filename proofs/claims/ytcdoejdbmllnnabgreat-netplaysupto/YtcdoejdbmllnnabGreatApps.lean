/- What the functions that append bytes return: a row of their own with the bytes behind those that were there; and the head of a frame read apart. -/
import Derived.Test.YtcdoejdbmllnnabGreatSums
import Derived.Deep.RegionWith
namespace Go.Proofs.YtcdoejdbmllnnabGreat
open Go.RowKit

theorem src_one (w : World) (b : UInt8) (x : Int) (hx : x = (b.toNat : Int)) (cs : Array Value) (hcs : cs = #[.int .u8 x]) : Src Tryz.prog 1 32 (.slice (some ⟨w.heap.size, 0, none⟩) 1 1) 1 (vals [b]) (w.alloc (.cells cs 5)) := by
  subst hx; subst hcs
  refine Src.ofSlice _ Tryz.underlying32 _ 1 1 (vals [b]) rfl (fun j u hu => ?_) (vals_one _)
  match j, hu with
  | 0, hu => simp [vals] at hu; subst hu; simp [Addr.add]

theorem hb_byte (n s : Nat) : ((UInt8.ofNat (n / 256 ^ s)).toNat : Int) = (n : Int) / 2 ^ (8 * s) % 256 := lob_toNat n s

set_option maxHeartbeats 400000 in
theorem copyBytes_any (a : Option Addr) (n cap : Nat) (l : List UInt8) (w : World) (hn : n = l.length) (h : Bs w a l) :
    Calls Tryz.prog 95 #[.slice a n cap] w fun e w' => ∃ v', e = .returned v' ∧ Own w' v' l ∧ Stp w w' none v'.ownBlock := by
  subst hn
  go_enter Tryz.func95, Tryz.ntmps95
  go_wp2_with (at_builtin; refine wpList_append_b _ rfl (.const (.slice none 0 0)) (.tmp 3) rfl _ [] rfl (.inl ⟨rfl, rfl⟩) _ l rfl (h.src Tryz.underlying32 cap) ?len ?k)
  case len => have := h.1; simp only [List.length_nil]; omega
  case k =>
    intro v' w1 hown1 hst1
    go_wp2
    go_ret
    exact ⟨_, rfl, by simpa using hown1, hst1⟩

theorem src_four (w : World) (b0 b1 b2 b3 : UInt8) (x0 x1 x2 x3 : Int) (h0 : x0 = (b0.toNat : Int)) (h1 : x1 = (b1.toNat : Int)) (h2 : x2 = (b2.toNat : Int)) (h3 : x3 = (b3.toNat : Int)) (cs : Array Value) (hcs : cs = #[.int .u8 x0, .int .u8 x1, .int .u8 x2, .int .u8 x3]) :
    Src Tryz.prog 1 32 (.slice (some ⟨w.heap.size, 0, none⟩) 4 4) 4 (vals [b0, b1, b2, b3]) (w.alloc (.cells cs 5)) := by
  subst h0; subst h1; subst h2; subst h3; subst hcs
  refine Src.ofSlice _ Tryz.underlying32 _ 4 4 (vals [b0, b1, b2, b3]) rfl (fun j u hu => ?_) (vals_one _)
  match j, hu with
  | 0, hu => simp [vals] at hu; subst hu; simp [Addr.add]
  | 1, hu => simp [vals] at hu; subst hu; simp [Addr.add]
  | 2, hu => simp [vals] at hu; subst hu; simp [Addr.add]
  | 3, hu => simp [vals] at hu; subst hu; simp [Addr.add]

theorem lob_n0 (n : Nat) : (n : Int) % 256 = ((lob n 0).toNat : Int) := by have := lob_toNat n 0; simpa using this.symm
theorem lob_n1 (n : Nat) : (n : Int) / 256 % 256 = ((lob n 1).toNat : Int) := by have := lob_toNat n 1; simpa using this.symm
theorem lob_n2 (n : Nat) : (n : Int) / 65536 % 256 = ((lob n 2).toNat : Int) := by have := lob_toNat n 2; simpa using this.symm
theorem lob_n3 (n : Nat) (h : n < 4294967296) : (n : Int) / 16777216 = ((lob n 3).toNat : Int) := by
  have := lob_toNat n 3
  have e : (n : Int) / 16777216 = (n : Int) / 16777216 % 256 := by omega
  rw [e]; simpa using this.symm

theorem Bs.drewN {w : World} {a : Option Addr} {l : List UInt8} (h : Bs w a l) (n : Nat) : Bs (w.drewN n) a l := h
theorem Bs.part {w : World} {b off : Nat} {l : List UInt8} (h : Bs w (some ⟨b, off, none⟩) l) (p q : Nat) : Bs w (some ⟨b, off + p, none⟩) ((l.drop p).take q) := by
  refine ⟨?_, fun hne => ?_⟩
  · have := h.1; simp only [List.length_take, List.length_drop]; omega
  · obtain ⟨b', off', e, hb, hc⟩ := h.2 (by rintro rfl; simp at hne)
    cases e
    refine ⟨b, off + p, rfl, hb, fun j hj => ?_⟩
    simp only [List.length_take, List.length_drop] at hj
    have := hc (p + j) (by omega)
    rw [Nat.add_assoc, this]
    congr 2
    have hj2 : p + j < l.length := by omega
    have hj3 : j < l.length - p := by omega
    simp [bat, bn, List.getD, hj2, hj3, show j < q by omega]
theorem Bs.first {w : World} {b off : Nat} {l : List UInt8} (h : Bs w (some ⟨b, off, none⟩) l) (q : Nat) : Bs w (some ⟨b, off, none⟩) (l.take q) := by
  have := h.part 0 q
  simpa using this

end Go.Proofs.YtcdoejdbmllnnabGreat
