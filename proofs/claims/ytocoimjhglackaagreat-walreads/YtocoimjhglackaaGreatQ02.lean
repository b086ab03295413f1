/- Wnum, Wzer, Putz, Rnum, Rzer, Getz -/
import Derived.Test.YtocoimjhglackaaGreatQ01
set_option maxHeartbeats 8000000
set_option maxRecDepth 100000
namespace Go.Proofs.YtocoimjhglackaaGreat
section
open Go.RowKit
def zI9 (u : Nat) : UInt8 := UInt8.ofNat u
def zH6 (u : Nat) : UInt8 := UInt8.ofNat (u % 128 + 128)
theorem zT4 (u : Nat) (h : u < 128) : (u : Int) = ((zI9 u).toNat : Int) := by unfold zI9; simp; omega
theorem yA7 (u : Nat) : (u : Int) % 128 + 128 = ((zH6 u).toNat : Int) := by unfold zH6; rw [UInt8.toNat_ofNat']; omega
def encF : Nat -> Nat -> List UInt8
 | 0, u => [zI9 u]
 | k + 1, u => if u < 128 then [zI9 u] else zH6 u :: encF k (u / 128)
def encU (u : Nat) : List UInt8 := encF u u
theorem xE2 (k u : Nat) (h : u <= k) : encF (k + 1) u = encF k u := by
 induction k generalizing u with
 | zero =>
  have : u = 0 := by omega
  subst this; rfl
 | succ k ih =>
  rw [encF]
  conv => rhs; rw [encF]
  by_cases hu : u < 128
  · rw [if_pos hu, if_pos hu]
  · rw [if_neg hu, if_neg hu, ih (u / 128) (by omega)]
theorem xU8 (d u : Nat) : encF (u + d) u = encF u u := by
 induction d with
 | zero => rfl
 | succ d ih => rw [<- ih]; exact xE2 (u + d) u (by omega)
def zG0 (n : Int) : Int := if n < 0 then -2 * n - 1 else 2 * n
def enc (n : Int) : List UInt8 := encU (zG0 n).toNat
theorem zE5 (u : Nat) (h : u < 128) : encU u = [zI9 u] := by
 unfold encU
 cases u with
 | zero => rfl
 | succ u => rw [encF, if_pos h]
theorem zH4 (u : Nat) (h : ¬ u < 128) : encU u = zH6 u :: encU (u / 128) := by
 unfold encU
 cases u with
 | zero => exact absurd (by omega) h
 | succ u =>
  rw [encF, if_neg h]
  have := xU8 (u - (u + 1) / 128) ((u + 1) / 128)
  rw [show (u + 1) / 128 + (u - (u + 1) / 128) = u by omega] at this
  rw [this]
theorem zI8 (u k : Nat) (h : u < 128 ^ (k + 1)) : (encU u).length <= k + 1 := by
 induction k generalizing u with
 | zero => rw [zE5 u (by simpa using h)]; simp
 | succ k ih =>
  by_cases hu : u < 128
  · rw [zE5 u hu]; simp
  · rw [zH4 u hu, List.length_cons]
    have := ih (u / 128) (by rw [Nat.pow_succ] at h; omega)
    omega
theorem zD7 (n : Int) (h0 : -1099511627776 <= n) (h1 : n <= 1099511627776) : (enc n).length <= 6 := by
 unfold enc
 exact zI8 _ 5 (by unfold zG0; split <;> omega)
def WR (w : World) (p : Nat) (l : List UInt8) (bad : Bool) (prot : Nat -> Prop) : Prop :=
 (¬ prot p) /\ (∀ b, prot b -> b < w.heap.size) /\ p < w.heap.size /\ ∃ v, w.cell? ⟨p, 0, none⟩ = some v /\ w.cell? ⟨p, 1, none⟩ = some (.bool bad) /\ w.frozen? ⟨p, 0, none⟩ = false /\ w.frozen? ⟨p, 1, none⟩ = false /\
  Own w v l /\ (∀ r, v.ownBlock = some r -> r ≠ p /\ ¬ prot r)
structure Kp (w w' : World) (prot : Nat -> Prop) : Prop where
 os : w'.os = w.os
 tape : w'.tape = w.tape
 output : w'.output = w.output
 size : w.heap.size <= w'.heap.size
 block : ∀ k, prot k -> w'.heap[k]? = w.heap[k]?
theorem Kp.refl (w : World) (prot : Nat -> Prop) : Kp w w prot := ⟨rfl, rfl, rfl, Nat.le_refl _, fun _ _ => rfl⟩
theorem Kp.trans {a b c : World} {prot : Nat -> Prop} (h : Kp a b prot) (k : Kp b c prot) : Kp a c prot :=
 ⟨k.os.trans h.os, k.tape.trans h.tape, k.output.trans h.output, Nat.le_trans h.size k.size, fun i hi => (k.block i hi).trans (h.block i hi)⟩
theorem Kp.mono {a b : World} {prot prot' : Nat -> Prop} (h : Kp a b prot) (hp : ∀ k, prot' k -> prot k) : Kp a b prot' := ⟨h.os, h.tape, h.output, h.size, fun k hk => h.block k (hp k hk)⟩
theorem Kp.alloc (w : World) (o : Obj) (prot : Nat -> Prop) (h : ∀ b, prot b -> b < w.heap.size) : Kp w (w.alloc o) prot := ⟨rfl, rfl, rfl, by simp, fun k hk => Below.heap_alloc w o k (h k hk)⟩
theorem Kp.cell {w w' : World} {prot : Nat -> Prop} (h : Kp w w' prot) {a : Addr} (ha : prot a.block) : w'.cell? a = w.cell? a := World.cell?_of_block (h.block _ ha)
theorem WR.mono {w : World} {p : Nat} {l : List UInt8} {bad : Bool} {prot prot' : Nat -> Prop} (h : WR w p l bad prot) (hp : ∀ k, prot' k -> prot k) : WR w p l bad prot' := by
 obtain ⟨h1, h2, h3, v, h4, h5, h6, h7, h8, h9⟩ := h
 exact ⟨fun x => h1 (hp _ x), fun b hb => h2 b (hp b hb), h3, v, h4, h5, h6, h7, h8, fun r hr => ⟨(h9 r hr).1, fun x => (h9 r hr).2 (hp _ x)⟩⟩
theorem WR.box {w : World} {p : Nat} {l : List UInt8} {bad : Bool} {prot : Nat -> Prop} (h : WR w p l bad prot) (o : Obj) : WR (w.alloc o) p l bad (fun b => prot b \/ b = w.heap.size) := by
 obtain ⟨h1, h2, h3, v, h4, h5, h6, h7, h8, h9⟩ := h
 refine ⟨fun x => ?_, fun b hb => ?_, by simp; omega, v, ?_, ?_, ?_, ?_, h8.alloc o, fun r hr => ⟨(h9 r hr).1, fun x => ?_⟩⟩
 · rcases x with x | x
   · exact h1 x
   · omega
 · rcases hb with hb | hb
   · have := h2 b hb; simp; omega
   · simp; omega
 · rw [World.cell?_alloc_past _ _ _ h3]; exact h4
 · rw [World.cell?_alloc_past _ _ _ h3]; exact h5
 · rw [World.frozen?_alloc_past _ _ _ h3]; exact h6
 · rw [World.frozen?_alloc_past _ _ _ h3]; exact h7
 · rcases x with x | x
   · exact (h9 r hr).2 x
   · have := h8.lt r hr; omega
theorem WR.store {w w1 : World} {p : Nat} {l' : List UInt8} {bad : Bool} {prot : Nat -> Prop} {v v' : Value} (o : Obj) (h1 : ¬ prot p) (h2 : ∀ b, prot b -> b < w.heap.size) (h3 : p < w.heap.size)
    (h5 : w.cell? ⟨p, 1, none⟩ = some (.bool bad)) (h6 : w.frozen? ⟨p, 0, none⟩ = false) (h7 : w.frozen? ⟨p, 1, none⟩ = false) (h9 : ∀ r, v.ownBlock = some r -> r ≠ p /\ ¬ prot r) (h4 : w.cell? ⟨p, 0, none⟩ = some v)
    (o1 : Own w1 v' l') (s1 : Stp (w.alloc o) w1 v.ownBlock v'.ownBlock) : WR (w1.setCell ⟨p, 0, none⟩ v') p l' bad prot /\ Kp w (w1.setCell ⟨p, 0, none⟩ v') prot /\ w1.cell? ⟨p, 0, none⟩ = some v /\ w1.frozen? ⟨p, 0, none⟩ = false := by
 have hv : ∀ r, v'.ownBlock = some r -> r ≠ p /\ ¬ prot r := by
  intro r hr
  rcases s1.row with e | ⟨k, e, hk⟩
  · exact h9 r (by rw [<- e]; exact hr)
  · rw [hr] at e; cases e
    simp at hk
    exact ⟨by omega, fun x => by have := h2 r x; omega⟩
 have hold : ∀ k, k < w.heap.size -> some k ≠ v.ownBlock -> w1.heap[k]? = w.heap[k]? := fun k hk hne => (s1.block k (by simp; omega) hne).trans (Below.heap_alloc w o k hk)
 have hp := hold p h3 (fun e => (h9 p e.symm).1 rfl)
 have c0 : w1.cell? ⟨p, 0, none⟩ = some v := (World.cell?_of_block hp).trans h4
 have hsz : w.heap.size <= w1.heap.size := by have := s1.size; rw [World.size_alloc] at this; omega
 have hk : ∀ k, k ≠ p -> (w1.setCell ⟨p, 0, none⟩ v').heap[k]? = w1.heap[k]? := fun k hk => Below.heap_setCell w1 ⟨p, 0, none⟩ v' k hk
 refine ⟨⟨h1, fun b hb => by have := h2 b hb; simp; omega, by simp; omega, v', ?_, ?_, ?_, ?_, o1.kept (fun k e => hk k (hv k e).1), hv⟩, ⟨s1.os, s1.tape, s1.output, by simp; omega, fun k x => ?_⟩, c0, (World.frozen?_of_block hp).trans h6⟩
 · exact World.cell?_setCell_same w1 _ _ c0
 · rw [World.cell?_setCell_other w1 _ _ _ (by simp)]; exact (World.cell?_of_block hp).trans h5
 · rw [World.frozen?_setCell]; exact (World.frozen?_of_block hp).trans h6
 · rw [World.frozen?_setCell]; exact (World.frozen?_of_block hp).trans h7
 · rw [hk k (fun e => h1 (e ▸ x))]
   exact hold k (h2 k x) (fun e => (h9 k e.symm).2 x)
theorem zH8 (n : Int) (w : World) (h0 : -1099511627776 <= n) (h1 : n <= 1099511627776) : Calls Tryz.prog 166 #[.int .i64 n] w fun e w' => e = .returned (.int .i64 (zG0 n)) /\ w' = w := by
 by_cases h : n < 0
 · have H : Hid (zG0 n = -2 * n - 1) := by show zG0 n = _; unfold zG0; rw [if_pos h]
   go_enter Tryz.func166, Tryz.ntmps166
   go_wp2
   go_ret
   exact ⟨by rw [H.out]; rfl, rfl⟩
 · have H : Hid (zG0 n = 2 * n) := by show zG0 n = _; unfold zG0; rw [if_neg h]
   go_enter Tryz.func166, Tryz.ntmps166
   go_wp2
   go_ret
   exact ⟨by rw [H.out]; rfl, rfl⟩
theorem zY3 (p : Nat) (l : List UInt8) (bad : Bool) (prot : Nat -> Prop) (n : Int) (w : World) (h0 : -1099511627776 <= n) (h1 : n <= 1099511627776) (hl : l.length <= 137438953472) (h : WR w p l bad prot) :
    Calls Tryz.prog 138 #[.pointer (some ⟨p, 0, none⟩), .int .i64 n] w fun e w' => e = .returned (.tuple #[]) /\ WR w' p (l ++ enc n) bad prot /\ Kp w w' prot := by
 have HE : Hid (enc n = encU (zG0 n).toNat) := rfl
 have f0 : 0 <= zG0 n := by unfold zG0; split <;> omega
 have f1 : zG0 n <= 2199023255552 := by unfold zG0; split <;> omega
 go_enter Tryz.func138, Tryz.ntmps138
 go_wp2_with fail
 refine (zH8 n w h0 h1).mono ?_
 rintro e w' ⟨rfl, hw⟩
 subst hw
 obtain ⟨u0, hu0⟩ := Int.eq_ofNat_of_zero_le f0
 rw [hu0] at f1
 rw [hu0]
 have HE2 : Hid (enc n = encU u0) := by show enc n = _; rw [HE.out, hu0]; rfl
 clear HE hu0 f0
 go_wp2
 go_loopw [4] (fun t wr => ∃ u : Nat, ∃ m : List UInt8, u <= u0 /\ t = .int .i64 u /\ Hid (m ++ encU u = l ++ encU u0) /\ WR wr p m bad prot /\ Kp w' wr prot) (fun t _ => (intOf t).toNat)
 case atStart => exact ⟨u0, l, Nat.le_refl _, rfl, rfl, h, Kp.refl _ _⟩
 case round =>
  obtain ⟨u, m, hu, rfl, hpre, hW, hK⟩ := hrel
  obtain ⟨q1, q2, q3, v, q4, q5, q6, q7, q8, q9⟩ := hW
  obtain ⟨a, c, hv, hbs⟩ := q8.form
  subst hv
  have H2 : Hid _ := q2
  have H9 : Hid _ := q9
  have H1 : Hid _ := q1
  clear q1 q2 q9 hbs
  have hml : Hid (m.length <= 137438953482) := by
   have e := congrArg List.length hpre.out
   rw [List.length_append, List.length_append] at e
   have := zI8 u0 5 (by omega)
   show m.length <= _
   omega
  by_cases hub : u < 128
  · have hpu : Hid (encU u = [zI9 u]) := zE5 u hub
    go_wp2_with (at_builtin; refine zB6 _ rfl (.tmp 37) (.tmp 40) rfl _ m rfl (q8.alloc _) _ [zI9 u] rfl ?src ?len ?next)
    case src => exact zI4 _ _ _ (zT4 u hub) _ rfl
    case len => have := hml.out; simp only [List.length_cons, List.length_nil]; omega
    case next =>
     intro v' w1 o1 s1
     obtain ⟨hW1, hK1, c1, d1⟩ := WR.store _ H1.out H2.out q3 q5 q6 q7 H9.out q4 o1 s1
     obtain ⟨a', c', hv', _⟩ := o1.form
     subst hv'
     rw [show (m ++ [zI9 u]).length = m.length + 1 from by simp] at hW1 hK1
     go_wp2
     go_end0
     refine ⟨rfl, ?_, hK.trans hK1⟩
     have e : l ++ enc n = m ++ [zI9 u] := by rw [HE2.out, <- hpre.out, hpu.out]
     rw [e]
     exact hW1
  · have hpu : Hid (encU u = zH6 u :: encU (u / 128)) := zH4 u hub
    go_wp2_with (at_builtin; refine zB6 _ rfl (.tmp 22) (.tmp 27) rfl _ m rfl (q8.alloc _) _ [zH6 u] rfl ?src ?len ?next)
    case src => exact zI4 _ _ _ (yA7 u) _ rfl
    case len => have := hml.out; simp only [List.length_cons, List.length_nil]; omega
    case next =>
     intro v' w1 o1 s1
     obtain ⟨hW1, hK1, c1, d1⟩ := WR.store _ H1.out H2.out q3 q5 q6 q7 H9.out q4 o1 s1
     obtain ⟨a', c', hv', _⟩ := o1.form
     subst hv'
     rw [show (m ++ [zH6 u]).length = m.length + 1 from by simp] at hW1 hK1
     go_wp2
     refine ⟨⟨u / 128, m ++ [zH6 u], by omega, by go_num, ?_, hW1, hK.trans hK1⟩, by simp [intOf]; omega⟩
     show m ++ [zH6 u] ++ encU (u / 128) = _
     rw [<- hpre.out, hpu.out, List.append_assoc]; rfl
end
section
open Go.RowKit
def zs (k : Nat) : List UInt8 := List.replicate k 0
end
section
open Go.RowKit
theorem Kp.below {w w' : World} {B : Nat} (h : Kp w w' (fun b => b < B)) : Below B w w' := ⟨h.os, h.tape, h.output, h.size, h.block⟩
def kH0 (cs : Array Value) (l : List UInt8) : Prop := ∀ (w : World) (p : Nat), WR w p [] false (fun b => b < p) ->
 Calls Tryz.prog 159 #[.pointer (some ⟨p, 0, none⟩), .agg cs] w fun e w' => e = .returned (.tuple #[]) /\ WR w' p l false (fun b => b < p) /\ Kp w w' (fun b => b < p)
def Zcmd : Array Value := #[.int .i64 0, .int .i64 0, .int .i64 0, .int .i64 0, .int .i64 0, .int .i64 0, .int .i64 0, .slice none 0 0, .int .i64 0, .bool false, .int .i64 0, .int .i64 0, .int .i64 0, .bool false, .bool false, .int .i64 0, .int .i64 0, .int .i64 0, .slice none 0 0, .int .i64 0, .int .i64 0, .int .i64 0, .slice none 0 0, .slice none 0 0, .bool false, .slice none 0 0, .slice none 0 0]
end
section
open Go.RowKit
def RD (w : World) (p b k : Nat) : Prop :=
 p < w.heap.size /\ b ≠ p /\ b < w.heap.size /\ ∃ a cap, w.cell? ⟨p, 0, none⟩ = some (.slice a k cap) /\ w.cell? ⟨p, 1, none⟩ = some (.bool false) /\ w.frozen? ⟨p, 0, none⟩ = false /\ w.frozen? ⟨p, 1, none⟩ = false /\
  k <= cap /\ k <= 1000 /\ (0 < k -> ∃ off, a = some ⟨b, off, none⟩ /\ ∀ j, j < k -> w.cell? ⟨b, off + j, none⟩ = some (.int .u8 0))
structure RS (w w' : World) (p : Nat) : Prop where
 os : w'.os = w.os
 tape : w'.tape = w.tape
 output : w'.output = w.output
 size : w.heap.size <= w'.heap.size
 block : ∀ k, k < w.heap.size -> k ≠ p -> w'.heap[k]? = w.heap[k]?
theorem RS.refl (w : World) (p : Nat) : RS w w p := ⟨rfl, rfl, rfl, Nat.le_refl _, fun _ _ _ => rfl⟩
theorem RS.trans {a b c : World} {p : Nat} (h : RS a b p) (k : RS b c p) : RS a c p :=
 ⟨k.os.trans h.os, k.tape.trans h.tape, k.output.trans h.output, Nat.le_trans h.size k.size, fun i hi hp => (k.block i (Nat.lt_of_lt_of_le hi h.size) hp).trans (h.block i hi hp)⟩
theorem RS.alloc {a w : World} {p : Nat} (h : RS a w p) (o : Obj) : RS a (w.alloc o) p := h.trans ⟨rfl, rfl, rfl, by simp, fun k hk _ => Below.heap_alloc w o k hk⟩
theorem RS.setRow {a w : World} {p g : Nat} (h : RS a w p) (hg : a.heap.size <= g) (cs : Array Value) : RS a (w.setRow g cs) p :=
 ⟨h.os, h.tape, h.output, by simp [World.setRow]; exact h.size, fun k hk hp => (setRow_other w g k cs (by omega)).trans (h.block k hk hp)⟩
end
section
open Go.RowKit
end
section
open Go.RowKit
theorem zA7 {ops : Array Oper} {rest : List Oper} {o : Oper} {a : Act} {w : World} {Q : Exit -> Act -> World -> Prop} (hgd : o.guard = none) (ty : TypeId) (x y : Operand) (ho : o.op = .store ty x y)
    (g : Nat) (cells : Array Value) (hx : a.eval x = .pointer (some ⟨g, 0, none⟩)) (hy : a.eval y = .agg cells)
    (t : TypeId) (old : Array Value) (hg : w.heap[g]? = some (.cells old t (0, 0))) (hi : (Tryz.prog.info? ty).map (·.size) = some cells.size)
    (hold : old.size = cells.size) (h1 : cells.all (·.oneCell') = true)
    (h : ∀ w2, Hid (w2 = w.setRow g cells) -> wpList Tryz.prog ops Q rest (a.put o.dst undef) w2) : wpList Tryz.prog ops Q (o :: rest) a w :=
 wpList_store_row hgd ty x y ho g cells hx hy t old hg hi hold h1 (h _ rfl)
end
end Go.Proofs.YtocoimjhglackaaGreat
