/- Apps, Fram, Unfr, Read, Ufr, Torn, Decm -/
import Derived.Test.YtocoimjhglackaaGreatQ00
import Derived.Deep.RegionWith
set_option maxHeartbeats 8000000
set_option maxRecDepth 100000
namespace Go.Proofs.YtocoimjhglackaaGreat
section
open Go.RowKit
theorem zI4 (w : World) (b : UInt8) (x : Int) (hx : x = (b.toNat : Int)) (cs : Array Value) (hcs : cs = #[.int .u8 x]) : Src Tryz.prog 1 22 (.slice (some ⟨w.heap.size, 0, none⟩) 1 1) 1 (vals [b]) (w.alloc (.cells cs 5)) := by
 subst hx; subst hcs
 refine Src.ofSlice _ Tryz.underlying22 _ 1 1 (vals [b]) rfl (fun j u hu => ?_) (zN5 _)
 match j, hu with
 | 0, hu => simp [vals] at hu; subst hu; simp [Addr.add]
theorem xD8 (n s : Nat) : ((UInt8.ofNat (n / 256 ^ s)).toNat : Int) = (n : Int) / 2 ^ (8 * s) % 256 := zI5 n s
theorem zJ5 (v : Value) (l : List UInt8) (n size : Int) (w : World) (hn : 0 <= n) (hs0 : 0 <= size) (hs6 : size <= 6) (hl : l.length <= 281474976710) (hown : Own w v l) :
    Calls Tryz.prog 168 #[v, .int .i64 n, .int .i64 size] w fun e w' => ∃ v', e = .returned v' /\ Own w' v' (l ++ hb n.toNat size.toNat) /\ Stp w w' v.ownBlock v'.ownBlock := by
 obtain ⟨p, rfl⟩ := Int.eq_ofNat_of_zero_le hn
 obtain ⟨q, rfl⟩ := Int.eq_ofNat_of_zero_le hs0
 go_enter Tryz.func168, Tryz.ntmps168
 go_wp2
 go_loopw [0, 7] (fun v' i wr => ∃ k : Nat, ∃ pre : List UInt8, k <= q /\ i = .int .i64 ((k : Int) - 1) /\ Hid (pre.length = q - k) /\ Hid (pre ++ hb p k = hb p q) /\ Own wr v' (l ++ pre) /\ Stp w wr v.ownBlock v'.ownBlock) (fun _ i _ => (intOf i + 1).toNat)
 case atStart => exact ⟨q, [], Nat.le_refl _, rfl, by show 0 = q - q; omega, rfl, by rw [List.append_nil]; exact hown, Stp.refl _ _⟩
 case round =>
  obtain ⟨k, pre, hk, rfl, hpl, hpre, hown', hstp⟩ := hrel
  by_cases hlt : 0 < k
  · obtain ⟨m, rfl⟩ : ∃ m, k = m + 1 := ⟨k - 1, by omega⟩
    go_wp2_with (at_builtin; refine zB6 _ rfl (.tmp 14) (.tmp 20) rfl _ (l ++ pre) rfl (hown'.alloc _) _ [UInt8.ofNat (p / 256 ^ m)] rfl ?src ?len ?k)
    case src => exact zI4 _ _ _ (xD8 p m).symm _ rfl
    case len => have := hpl.out; simp only [List.length_append, List.length_cons, List.length_nil]; omega
    case k =>
     intro v' w1 hown1 hst1
     go_wp2
     refine ⟨⟨m, pre ++ [UInt8.ofNat (p / 256 ^ m)], by omega, by go_num, ?_, ?_, by exact hown1, ?_⟩, by simp [intOf]⟩
     · have := hpl.out; show (pre ++ [_]).length = q - m; simp only [List.length_append, List.length_cons, List.length_nil]; omega
     · have := hpre.out; show pre ++ [_] ++ hb p m = hb p q; rw [<- this, List.append_assoc]; rfl
     · exact (hstp.alloc _).trans hst1
  · have hk0 : k = 0 := by omega
    subst hk0
    have hfin := hpre.out
    go_wp2
    go_ret
    refine ⟨_, rfl, ?_, hstp⟩
    have : hb p q = pre := by rw [<- hfin]; simp [hb]
    simpa [this] using hown'
theorem yN8 (v : Value) (l : List UInt8) (n size : Int) (w : World) (hn : 0 <= n) (hs0 : 0 <= size) (hs6 : size <= 6) (hl : l.length <= 281474976710) (hown : Own w v l) :
    Calls Tryz.prog 100 #[v, .int .i64 n, .int .i64 size] w fun e w' => ∃ v', e = .returned v' /\ Own w' v' (l ++ hb n.toNat size.toNat) /\ Stp w w' v.ownBlock v'.ownBlock := by
 obtain ⟨p, rfl⟩ := Int.eq_ofNat_of_zero_le hn
 obtain ⟨q, rfl⟩ := Int.eq_ofNat_of_zero_le hs0
 go_enter Tryz.func100, Tryz.ntmps100
 go_wp2
 go_loopw [0, 7] (fun v' i wr => ∃ k : Nat, ∃ pre : List UInt8, k <= q /\ i = .int .i64 ((k : Int) - 1) /\ Hid (pre.length = q - k) /\ Hid (pre ++ hb p k = hb p q) /\ Own wr v' (l ++ pre) /\ Stp w wr v.ownBlock v'.ownBlock) (fun _ i _ => (intOf i + 1).toNat)
 case atStart => exact ⟨q, [], Nat.le_refl _, rfl, by show 0 = q - q; omega, rfl, by rw [List.append_nil]; exact hown, Stp.refl _ _⟩
 case round =>
  obtain ⟨k, pre, hk, rfl, hpl, hpre, hown', hstp⟩ := hrel
  by_cases hlt : 0 < k
  · obtain ⟨m, rfl⟩ : ∃ m, k = m + 1 := ⟨k - 1, by omega⟩
    go_wp2_with (at_builtin; refine zB6 _ rfl (.tmp 14) (.tmp 20) rfl _ (l ++ pre) rfl (hown'.alloc _) _ [UInt8.ofNat (p / 256 ^ m)] rfl ?src ?len ?k)
    case src => exact zI4 _ _ _ (xD8 p m).symm _ rfl
    case len => have := hpl.out; simp only [List.length_append, List.length_cons, List.length_nil]; omega
    case k =>
     intro v' w1 hown1 hst1
     go_wp2
     refine ⟨⟨m, pre ++ [UInt8.ofNat (p / 256 ^ m)], by omega, by go_num, ?_, ?_, by exact hown1, ?_⟩, by simp [intOf]⟩
     · have := hpl.out; show (pre ++ [_]).length = q - m; simp only [List.length_append, List.length_cons, List.length_nil]; omega
     · have := hpre.out; show pre ++ [_] ++ hb p m = hb p q; rw [<- this, List.append_assoc]; rfl
     · exact (hstp.alloc _).trans hst1
  · have hk0 : k = 0 := by omega
    subst hk0
    have hfin := hpre.out
    go_wp2
    go_ret
    refine ⟨_, rfl, ?_, hstp⟩
    have : hb p q = pre := by rw [<- hfin]; simp [hb]
    simpa [this] using hown'
theorem zL6 (a : Option Addr) (n cap : Nat) (l : List UInt8) (w : World) (hn : n = l.length) (h : Bs w a l) :
    Calls Tryz.prog 96 #[.slice a n cap] w fun e w' => ∃ v', e = .returned v' /\ Own w' v' l /\ Stp w w' none v'.ownBlock := by
 subst hn
 go_enter Tryz.func96, Tryz.ntmps96
 go_wp2_with (at_builtin; refine zB6 _ rfl (.const (.slice none 0 0)) (.tmp 3) rfl _ [] rfl (.inl ⟨rfl, rfl⟩) _ l rfl (h.src Tryz.underlying22 cap) ?len ?k)
 case len => have := h.1; simp only [List.length_nil]; omega
 case k =>
  intro v' w1 hown1 hst1
  go_wp2
  go_ret
  exact ⟨_, rfl, by simpa using hown1, hst1⟩
theorem xH5 (w : World) (b0 b1 b2 b3 : UInt8) (x0 x1 x2 x3 : Int) (h0 : x0 = (b0.toNat : Int)) (h1 : x1 = (b1.toNat : Int)) (h2 : x2 = (b2.toNat : Int)) (h3 : x3 = (b3.toNat : Int)) (cs : Array Value) (hcs : cs = #[.int .u8 x0, .int .u8 x1, .int .u8 x2, .int .u8 x3]) :
    Src Tryz.prog 1 22 (.slice (some ⟨w.heap.size, 0, none⟩) 4 4) 4 (vals [b0, b1, b2, b3]) (w.alloc (.cells cs 5)) := by
 subst h0; subst h1; subst h2; subst h3; subst hcs
 refine Src.ofSlice _ Tryz.underlying22 _ 4 4 (vals [b0, b1, b2, b3]) rfl (fun j u hu => ?_) (zN5 _)
 match j, hu with
 | 0, hu => simp [vals] at hu; subst hu; simp [Addr.add]
 | 1, hu => simp [vals] at hu; subst hu; simp [Addr.add]
 | 2, hu => simp [vals] at hu; subst hu; simp [Addr.add]
 | 3, hu => simp [vals] at hu; subst hu; simp [Addr.add]
theorem xZ9 (n : Nat) : (n : Int) % 256 = ((lob n 0).toNat : Int) := by have := zI5 n 0; simpa using this.symm
theorem xZ8 (n : Nat) : (n : Int) / 256 % 256 = ((lob n 1).toNat : Int) := by have := zI5 n 1; simpa using this.symm
theorem xZ7 (n : Nat) : (n : Int) / 65536 % 256 = ((lob n 2).toNat : Int) := by have := zI5 n 2; simpa using this.symm
theorem xZ6 (n : Nat) (h : n < 4294967296) : (n : Int) / 16777216 = ((lob n 3).toNat : Int) := by
 have := zI5 n 3
 have e : (n : Int) / 16777216 = (n : Int) / 16777216 % 256 := by omega
 rw [e]; simpa using this.symm
theorem yH2 (v : Value) (l : List UInt8) (w : World) (hl : l.length <= 281474976710) (hown : Own w v l) :
    Calls Tryz.prog 169 #[v] w fun e w' => ∃ v', e = .returned v' /\ Own w' v' (l ++ lo4 (nsum l)) /\ Stp w w' v.ownBlock v'.ownBlock := by
 obtain ⟨a, cap, rfl, hbs⟩ := hown.form
 have hs := yO5 l
 go_enter Tryz.func169, Tryz.ntmps169
 go_wp2_with fail
 refine (xA1 a _ cap l w rfl (hbs (by omega))).mono ?_
 rintro e w' ⟨rfl, hw⟩
 subst hw
 go_wp2_with (at_builtin; refine zB6 _ rfl (.tmp 6) (.tmp 18) rfl _ l rfl (hown.alloc _) _ (lo4 (nsum l)) rfl ?src ?len ?k)
 case src => exact xH5 _ _ _ _ _ _ _ _ _ (xZ9 _) (xZ8 _) (xZ7 _) (xZ6 _ hs) _ rfl
 case len => simp [lo4]; omega
 case k =>
  intro v' w1 hown1 hst1
  go_wp2
  go_ret
  exact ⟨_, rfl, hown1, ((Stp.refl _ _).alloc _).trans hst1⟩
theorem Bs.drewN {w : World} {a : Option Addr} {l : List UInt8} (h : Bs w a l) (n : Nat) : Bs (w.drewN n) a l := h
theorem Bs.part {w : World} {b off : Nat} {l : List UInt8} (h : Bs w (some ⟨b, off, none⟩) l) (p q : Nat) : Bs w (some ⟨b, off + p, none⟩) ((l.drop p).take q) := by
 refine ⟨?_, fun hne => ?_⟩
 · have := h.1; simp only [List.length_take, List.length_drop]; omega
 · obtain ⟨b', off', e, hb, hc⟩ := h.2 (by rintro rfl; simp at hne)
   cases e
   refine ⟨b, off + p, rfl, hb, fun j hj => ?_⟩
   simp only [List.length_take, List.length_drop] at hj
   have := hc (p + j) (by omega)
   rw [Nat.add_assoc, this]
   congr 2
   have hj2 : p + j < l.length := by omega
   have hj3 : j < l.length - p := by omega
   simp [bat, bn, List.getD, hj2, hj3, show j < q by omega]
theorem Bs.first {w : World} {b off : Nat} {l : List UInt8} (h : Bs w (some ⟨b, off, none⟩) l) (q : Nat) : Bs w (some ⟨b, off, none⟩) (l.take q) := by
 have := h.part 0 q
 simpa using this
theorem yI7 (a : Option Addr) (n cap : Nat) (l : List UInt8) (w : World) (hn : n = l.length) (h11 : 11 <= n) (hcap : n <= cap) (h : Bs w a l) :
    Calls Tryz.prog 94 #[.slice a n cap] w fun e w' => e = .returned (.tuple #[.int .i64 ((hi (l.take 4) : Nat) : Int), .int .i64 ((hi ((l.drop 4).take 1) : Nat) : Int), .int .i64 ((hi ((l.drop 5).take 6) : Nat) : Int)]) /\ ∃ nq, w' = w.drewN nq := by
 obtain ⟨b, off, rfl, hb, hc⟩ := h.2 (by intro e; simp [e] at hn; omega)
 have hl11 : 11 <= l.length := by omega
 have h4 : (l.take 4).length = 4 := by simp; omega
 have h1 : ((l.drop 4).take 1).length = 1 := by simp; omega
 have h6 : ((l.drop 5).take 6).length = 6 := by simp; omega
 have k4 : (4 : Int) <= (cap : Int) := by omega
 have k5 : (5 : Int) <= (cap : Int) := by omega
 have k11 : (11 : Int) <= (cap : Int) := by omega
 have n4 : ¬ cap = 4 := by omega
 have n5 : ¬ cap = 5 := by omega
 have H4 : Hid _ := h4
 have H1 : Hid _ := h1
 have H6 : Hid _ := h6
 clear h4 h1 h6 hn hc
 go_enter Tryz.func94, Tryz.ntmps94
 go_wp2
 go_quiet (first
  | (go_at_call 126; refine Calls.quiet_of_same (zM4 _ _ _ (l.take 4) _ ?_ ?_ ?_); exact H4.out.symm; omega; exact (h.first 4).drewN _)
  | (go_at_call 126; refine Calls.quiet_of_same (zM4 _ _ _ ((l.drop 4).take 1) _ ?_ ?_ ?_); exact H1.out.symm; omega; exact (h.part 4 1).drewN _)
  | (go_at_call 126; refine Calls.quiet_of_same (zM4 _ _ _ ((l.drop 5).take 6) _ ?_ ?_ ?_); exact H6.out.symm; omega; exact (h.part 5 6).drewN _))
 go_wp2
 go_ret3
 exact ⟨rfl, _, rfl⟩
end
section
open Go.RowKit
def fr0 (k p : Nat) (b : List UInt8) : List UInt8 := hb b.length 4 ++ (hb k 1 ++ (hb p 6 ++ b))
def fr (k p : Nat) (b : List UInt8) : List UInt8 := fr0 k p b ++ lo4 (nsum (fr0 k p b))
theorem zK2 (k p : Nat) (b : List UInt8) : (fr0 k p b).length = b.length + 11 := by simp only [fr0, List.length_append, zD4]; omega
theorem zC3 (k p : Nat) (b : List UInt8) : (fr k p b).length = b.length + 15 := by simp only [fr, List.length_append, zK2]; rfl
theorem made (n : Nat) (h : n <= 1048576) : ∃ cs : Array Value, cs.size = n + 15 /\ ∀ w : World, (Instr.makeSlice 22 (.int .i64 0) (.int .i64 (11 + (n : Int) + 4))).run Tryz.prog w = .ok (.slice (some ⟨w.heap.size, 0, none⟩) 0 (n + 15)) (w.alloc (.cells cs 5)) := by
 obtain ⟨i, hi, hz0, hz1, hz2⟩ := info_parts Tryz.info5
 refine ⟨madeCells (Value.int .u8 0).cells ((11 + (n : Int) + 4).toNat * i.size), ?_, fun w => ?_⟩
 · rw [size_madeCells, hz1]; omega
 · have := run_make (P := Tryz.prog) w 22 5 i (.int .u8 0) Tryz.underlying22 hi hz0 .i64 .i64 0 (11 + (n : Int) + 4) (by omega) (by omega) (by rw [hz2]; omega) (by omega)
   rw [this]
   have e : (11 + (n : Int) + 4).toNat = n + 15 := by omega
   rw [e]; rfl
theorem xJ3 (w : World) (cs : Array Value) (n : Nat) (h : n <= 1048576) (hs : cs.size = n + 15) : Own (w.alloc (.cells cs 5)) (.slice (some ⟨w.heap.size, 0, none⟩) 0 (n + 15)) [] :=
 .inr ⟨w.heap.size, n + 15, cs, rfl, heap_alloc_new w _, by simp, by unfold maxLen; omega, hs, by simp [vals]⟩
def okF (kind place : Int) (n : Nat) : Prop := 0 <= kind /\ kind <= 255 /\ 0 <= place /\ place <= 1099511627776 /\ n <= 1048576
theorem xK7 (kind place : Int) (a : Option Addr) (n cap : Nat) (l : List UInt8) (w : World) (hn : n = l.length) (h : Bs w a l) (hok : okF kind place n) :
    Calls Tryz.prog 141 #[.int .i64 kind, .int .i64 place, .slice a n cap] w fun e w' => ∃ v', e = .returned (.tuple #[v', .int .i64 0]) /\ Own w' v' (fr kind.toNat place.toNat l) /\ Stp w w' none v'.ownBlock := by
 obtain ⟨k0, k1, p0, p1, n1⟩ := hok
 obtain ⟨cs, hcs, hmk⟩ := made n n1
 have HN : Hid (n = l.length) := hn
 clear hn
 go_enter Tryz.func141, Tryz.ntmps141
 have st0 : Stp w (w.alloc (.cells cs 5)) none (some w.heap.size) := ⟨rfl, rfl, rfl, by simp, fun k hk _ => Below.heap_alloc w _ k hk, .inr ⟨_, rfl, Nat.le_refl _⟩⟩
 go_wp2_with fail
 refine (zJ5 _ [] _ _ _ (by omega) (by omega) (by omega) (by simp) (xJ3 w cs n n1 hcs)).mono ?_
 rintro e w1 ⟨v1, rfl, o1, s1⟩
 have st1 := st0.trans s1
 rw [Int.toNat_natCast] at o1
 go_wp2_with fail
 refine (zJ5 v1 _ _ _ _ k0 (by omega) (by omega) (by simp [zD4]) o1).mono ?_
 rintro e w2 ⟨v2, rfl, o2, s2⟩
 have st2 := st1.trans s2
 go_wp2_with fail
 refine (zJ5 v2 _ _ _ _ p0 (by omega) (by omega) (by simp [zD4]) o2).mono ?_
 rintro e w3 ⟨v3, rfl, o3, s3⟩
 have st3 := st2.trans s3
 have hbs : Bs w3 a l := h.grow (st3.below _ (Nat.le_refl _) (fun k hk => by cases hk))
 have hsrc := hbs.src (P := Tryz.prog) Tryz.underlying22 cap
 rw [<- HN.out] at hsrc
 go_wp2_with (at_builtin; refine zB6 _ rfl (.tmp 43) (.tmp 44) rfl _ _ rfl o3 _ l rfl ?src ?len ?k)
 case src => rw [<- HN.out]; exact hsrc
 case len => have := HN.out; simp only [List.length_append, zD4, List.length_nil]; omega
 case k =>
  intro v4 w4 o4 s4
  have st4 := st3.trans s4
  have hfr : hb n 4 ++ (hb kind.toNat 1 ++ (hb place.toNat 6 ++ l)) = fr0 kind.toNat place.toNat l := by rw [HN.out]; rfl
  rw [hfr] at o4
  clear hfr
  go_wp2_with fail
  refine (yH2 v4 _ _ (by rw [zK2, <- HN.out]; omega) o4).mono ?_
  rintro e w5 ⟨v5, rfl, o5, s5⟩
  have st5 := st4.trans s5
  go_wp2
  go_ret2
  exact ⟨v5, rfl, o5, st5⟩
end
section
open Go.RowKit
structure Five where
 kind : Int
 place : Int
 body : List UInt8
 used : Int
 err : Int
def uK (l : List UInt8) : Nat := hi ((l.drop 4).take 1)
def uP (l : List UInt8) : Nat := hi ((l.drop 5).take 6)
def uN (l : List UInt8) : Nat := hi (l.take 4)
def unf (l : List UInt8) : Five :=
 if l.length < 11 then ⟨0, 0, [], 0, 0⟩
 else if 1048576 < uN l \/ 1099511627776 < uP l then ⟨0, 0, [], 0, 10⟩
 else if l.length < 11 + uN l + 4 then ⟨0, 0, [], 0, 0⟩
 else if (l.drop (11 + uN l)).take 4 ≠ lo4 (nsum (l.take (11 + uN l))) then ⟨0, 0, [], 0, 10⟩
 else ⟨uK l, uP l, (l.drop 11).take (uN l), ((11 + uN l + 4 : Nat) : Int), 0⟩
def xX0 (w w' : World) (e : Ending) (r : Five) : Prop :=
 ∃ v, e = .returned (.tuple #[.int .i64 r.kind, .int .i64 r.place, v, .int .i64 r.used, .int .i64 r.err]) /\ Own w' v r.body /\ Stp w w' none v.ownBlock
theorem zH5 (w : World) (x : Int) (n : Nat) : xX0 w (w.drewN n) (.returned (.tuple #[.int .i64 0, .int .i64 0, .slice none 0 0, .int .i64 0, .int .i64 x])) ⟨0, 0, [], 0, x⟩ :=
 ⟨_, rfl, .inl ⟨rfl, rfl⟩, (Stp.refl _ _).drewN n⟩
theorem zS4 (a : Option Addr) (n cap : Nat) (l : List UInt8) (w : World) (hn : n = l.length) (h11 : 11 <= n) (hcap : n <= cap) (h : Bs w a l) :
    Calls Tryz.prog 94 #[.slice a n cap] w fun e w' => e = .returned (.tuple #[.int .i64 ((uN l : Nat) : Int), .int .i64 ((uK l : Nat) : Int), .int .i64 ((uP l : Nat) : Int)]) /\ ∃ nq, w' = w.drewN nq :=
 yI7 a n cap l w hn h11 hcap h
theorem xX3 (l : List UInt8) : uN l < 281474976710656 := xO0 _ (by simp; omega)
theorem xX2 (l : List UInt8) : uP l < 281474976710656 := xO0 _ (by simp; omega)
theorem xQ3 (l : List UInt8) : uK l < 256 := yF7 _ 1 (by simp; omega)
theorem Tryz.elem22 : Tryz.prog.underlying 22 = some (.slice (Tryz.prog.elem 22)) := by kernel_rfl
theorem Tryz.size5 (w : World) : (sizeOf (Tryz.prog.elem 22)).run Tryz.prog w = .ok 1 w := by
 obtain ⟨i, hi, hz0, hz1, hz2⟩ := info_parts Tryz.info5
 have e : Tryz.prog.elem 22 = 5 := by kernel_rfl
 rw [e]
 simp [sizeOf, typeInfo, hi, hz1]
theorem yE1 (b off n cap lo hi' m : Nat) (x y : Int) (hx : x = lo) (hy : y = hi') (h1 : lo <= hi') (h2 : hi' <= cap) (h3 : lo < cap) (hm : m = hi' - lo) (w : World) :
    (Instr.slice 22 (.slice (some ⟨b, off, none⟩) n cap) (some (.int .i64 x)) (some (.int .i64 y)) none).run Tryz.prog w = .ok (.slice (some ⟨b, off + lo, none⟩) m (cap - lo)) w := by
 subst hx; subst hy; subst hm
 rw [run_slice_lh (P := Tryz.prog) w 22 _ n cap Tryz.elem22 .i64 .i64 lo hi' (by omega) (by omega) (by omega), Tryz.size5]
 simp only [Result.andThen_ok, sliced, Int.toNat_natCast]
 rw [if_neg (by omega)]
 simp [Addr.add_lit]
theorem zS1 (a : Option Addr) (n cap hi' : Nat) (y : Int) (hy : y = hi') (h2 : hi' <= cap) (w : World) :
    (Instr.slice 22 (.slice a n cap) none (some (.int .i64 y)) none).run Tryz.prog w = .ok (.slice a hi' cap) w := by
 subst hy
 rw [run_slice_h (P := Tryz.prog) w 22 _ n cap Tryz.elem22 .i64 hi' (by omega) (by omega), Tryz.size5]
 simp only [Result.andThen_ok, sliced, Int.toNat_natCast]
 cases a with
 | none => simp
 | some a => simp; cases a; simp [Addr.add]
theorem yM3 (a : Option Addr) (n cap : Nat) (l : List UInt8) (w : World) (hn : n = l.length) (hcap : n <= cap) (h : Bs w a l) :
    Calls Tryz.prog 61 #[.slice a n cap] w fun e w' => xX0 w w' e (unf l) := by
 have hlen := h.1
 rw [<- hn] at hlen
 by_cases h11 : n < 11
 · have HU : Hid (unf l = ⟨0, 0, [], 0, 0⟩) := by show unf l = _; unfold unf; rw [if_pos (by omega)]
   clear hn h
   go_enter Tryz.func61, Tryz.ntmps61
   go_wp2
   refine bodyPost_ret (v := .tuple #[.int .i64 0, .int .i64 0, .slice none 0 0, .int .i64 0, .int .i64 0]) (by simp [results, Tryz.results61, go_sem]) rfl ?_
   rw [HU.out]
   exact zH5 w 0 0
 · have HN : Hid (n = l.length) := hn
   obtain ⟨b, off, rfl, hb, hc⟩ := h.2 (by intro e; simp [e] at hn; omega)
   have hNlt := xX3 l
   have hPlt := xX2 l
   have hKlt := xQ3 l
   by_cases hbig : 1048576 < uN l \/ 1099511627776 < uP l
   · have HU : Hid (unf l = ⟨0, 0, [], 0, 10⟩) := by show unf l = _; unfold unf; rw [if_neg (by omega), if_pos hbig]
     clear hn hc
     go_enter Tryz.func61, Tryz.ntmps61
     go_wp2_with fail
     refine (zS4 _ n cap l _ HN.out (by omega) hcap h).mono ?_
     rintro e w1 ⟨rfl, nq, rfl⟩
     by_cases hb1 : 1048576 < uN l
     · go_wp2
       refine bodyPost_ret (v := .tuple #[.int .i64 0, .int .i64 0, .slice none 0 0, .int .i64 0, .int .i64 10]) (by simp [results, Tryz.results61, go_sem]) rfl ?_
       rw [HU.out]
       exact zH5 w 10 nq
     · have hb2 : 1099511627776 < uP l := by omega
       go_wp2
       refine bodyPost_ret (v := .tuple #[.int .i64 0, .int .i64 0, .slice none 0 0, .int .i64 0, .int .i64 10]) (by simp [results, Tryz.results61, go_sem]) rfl ?_
       rw [HU.out]
       exact zH5 w 10 nq
   · have hN1 : uN l <= 1048576 := by omega
     have hP1 : uP l <= 1099511627776 := by omega
     by_cases hsh : n < 11 + uN l + 4
     · have HU : Hid (unf l = ⟨0, 0, [], 0, 0⟩) := by show unf l = _; unfold unf; rw [if_neg (by omega), if_neg hbig, if_pos (by omega)]
       clear hn hc hbig
       go_enter Tryz.func61, Tryz.ntmps61
       go_wp2_with fail
       refine (zS4 _ n cap l _ HN.out (by omega) hcap h).mono ?_
       rintro e w1 ⟨rfl, nq, rfl⟩
       go_wp2
       refine bodyPost_ret (v := .tuple #[.int .i64 0, .int .i64 0, .slice none 0 0, .int .i64 0, .int .i64 0]) (by simp [results, Tryz.results61, go_sem]) rfl ?_
       rw [HU.out]
       exact zH5 w 0 nq
     · have HL4 : Hid (((l.drop (11 + uN l)).take 4).length = 4) := by show _ = _; simp only [List.length_take, List.length_drop]; omega
       have HL1 : Hid (11 + uN l = (l.take (11 + uN l)).length) := by show _ = _; simp only [List.length_take]; omega
       have HUd : Hid (unf l = if (l.drop (11 + uN l)).take 4 ≠ lo4 (nsum (l.take (11 + uN l))) then ⟨0, 0, [], 0, 10⟩ else ⟨uK l, uP l, (l.drop 11).take (uN l), ((11 + uN l + 4 : Nat) : Int), 0⟩) := by
        show unf l = _; conv => lhs; unfold unf
        rw [if_neg (by omega), if_neg hbig, if_neg (by omega)]
       have HB3 : Hid (uN l = ((l.drop 11).take (uN l)).length) := by show _ = _; simp only [List.length_take, List.length_drop]; omega
       clear hn hc hbig
       go_enter Tryz.func61, Tryz.ntmps61
       go_wp2_with fail
       refine (zS4 _ n cap l _ HN.out (by omega) hcap h).mono ?_
       rintro e w1 ⟨rfl, n0, hw⟩
       have HW : Hid (w1 = w.drewN n0) := hw
       have h1 : Bs w1 (some ⟨b, off, none⟩) l := by rw [hw]; exact h.drewN _
       clear hw h
       have e1 := zS1 (some ⟨b, off, none⟩) n cap (11 + uN l) (11 + (uN l : Int)) (by omega) (by omega)
       have e2 := yE1 b off n cap (11 + uN l) (11 + uN l + 4) 4 (11 + (uN l : Int)) (11 + (uN l : Int) + 4) (by omega) (by omega) (by omega) (by omega) (by omega) (by omega)
       have e3 := yE1 b off n cap 11 (11 + uN l) (uN l) 11 (11 + (uN l : Int)) (by omega) (by omega) (by omega) (by omega) (by omega) (by omega)
       go_wp2
       go_quiet ((go_at_call 95; refine Calls.quiet_of_same (yB3 _ _ _ _ _ (l.take (11 + uN l)) ((l.drop (11 + uN l)).take 4) _ ?_ ?_ ?_ ?_); exact HL1.out; exact HL4.out; exact ((h1.first (11 + uN l)).drewN _); exact ((h1.part (11 + uN l) 4).drewN _)))
       have hst : Stp w (w1.drewN nq) none none := by rw [HW.out]; exact ((Stp.refl _ _).drewN _).drewN _
       have h2 : Bs (w1.drewN nq) (some ⟨b, off, none⟩) l := h1.drewN _
       generalize w1.drewN nq = w2 at *
       clear h1 HW
       generalize hdd : decide ((l.drop (11 + uN l)).take 4 = lo4 (nsum (l.take (11 + uN l)))) = d at *
       have HD : Hid (decide ((l.drop (11 + uN l)).take 4 = lo4 (nsum (l.take (11 + uN l)))) = d) := hdd
       clear hdd
       cases d with
       | false =>
        go_wp2
        refine bodyPost_ret (v := .tuple #[.int .i64 0, .int .i64 0, .slice none 0 0, .int .i64 0, .int .i64 10]) (by simp [results, Tryz.results61, go_sem]) rfl ?_
        rw [HUd.out, if_pos (of_decide_eq_false HD.out)]
        exact ⟨_, rfl, .inl ⟨rfl, rfl⟩, hst⟩
       | true =>
        go_wp2_with fail
        refine (zL6 _ _ _ ((l.drop 11).take (uN l)) _ HB3.out (h2.part 11 (uN l))).mono ?_
        rintro e w3 ⟨v3, rfl, o3, s3⟩
        go_wp2
        refine bodyPost_ret (v := .tuple #[.int .i64 (uK l), .int .i64 (uP l), v3, .int .i64 (11 + (uN l : Int) + 4), .int .i64 0]) (by simp [results, Tryz.results61, go_sem]) rfl ?_
        rw [HUd.out, if_neg (not_not_intro (of_decide_eq_true HD.out))]
        exact ⟨v3, by go_num, o3, hst.trans s3⟩
end
section
open Go.RowKit
theorem xK3 (l : List UInt8) (m : Nat) : l.foldl (fun n b => 256 * n + b.toNat) m = m * 256 ^ l.length + hi l := by
 induction l generalizing m with
 | nil => simp [hi]
 | cons x r ih =>
  have e : hi (x :: r) = r.foldl (fun n b => 256 * n + b.toNat) (256 * 0 + x.toNat) := rfl
  rw [e, List.foldl_cons, ih, ih, List.length_cons, Nat.pow_succ]
  have : (256 * m + x.toNat) * 256 ^ r.length = m * (256 ^ r.length * 256) + x.toNat * 256 ^ r.length := by
   rw [Nat.add_mul, Nat.mul_comm 256 m, Nat.mul_assoc, Nat.mul_comm 256]
  rw [this, Nat.mul_zero, Nat.zero_add, Nat.add_assoc]
theorem xD7 (x : UInt8) (r : List UInt8) : hi (x :: r) = x.toNat * 256 ^ r.length + hi r := by
 have e : hi (x :: r) = r.foldl (fun n b => 256 * n + b.toNat) (256 * 0 + x.toNat) := rfl
 rw [e, xK3]; simp
theorem kB0 (x k m j : Nat) (h : j <= k) : hb (x * 256 ^ k + m) j = hb m j := by
 induction j with
 | zero => rfl
 | succ j ih =>
  rw [hb, hb, ih (by omega)]
  congr 1
  have e : x * 256 ^ k = 256 ^ j * (256 * (x * 256 ^ (k - j - 1))) := by
   have hk : 256 ^ k = 256 ^ j * (256 * 256 ^ (k - j - 1)) := by
    conv => lhs; rw [show k = j + 1 + (k - j - 1) by omega, Nat.pow_add, Nat.pow_succ, Nat.mul_assoc]
   rw [hk, Nat.mul_left_comm]
   congr 1
   rw [Nat.mul_left_comm]
  rw [e, Nat.mul_add_div (Nat.pow_pos (by omega))]
  apply UInt8.toNat.inj
  simp
theorem xT8 (l : List UInt8) : hb (hi l) l.length = l := by
 induction l with
 | nil => rfl
 | cons x r ih =>
  rw [List.length_cons, hb, xD7, kB0 _ _ _ _ (Nat.le_refl _), ih]
  congr 1
  have hlt := kA9 r
  have : (x.toNat * 256 ^ r.length + hi r) / 256 ^ r.length = x.toNat := by
   rw [Nat.mul_comm, Nat.mul_add_div (Nat.pow_pos (by omega)), Nat.div_eq_of_lt hlt]; rfl
  rw [this]; simp
theorem yR7 (l : List UInt8) (a b c : Nat) (h : c = a + b) : l.take a ++ (l.drop a).take b = l.take c := by rw [h, List.take_add]
theorem yU8 (l : List UInt8) (p q a b c : Nat) (hq : q = p + a) (h : c = a + b) : (l.drop p).take a ++ (l.drop q).take b = (l.drop p).take c := by
 rw [h, hq, List.take_add, List.drop_drop]
theorem kB2 (l : List UInt8) (h : 11 + uN l <= l.length) : fr0 (uK l) (uP l) ((l.drop 11).take (uN l)) = l.take (11 + uN l) := by
 have hl : ((l.drop 11).take (uN l)).length = uN l := by simp only [List.length_take, List.length_drop]; omega
 unfold fr0
 rw [hl]
 have e4 : hb (uN l) 4 = l.take 4 := by
  have := xT8 (l.take 4)
  rw [List.length_take, Nat.min_eq_left (by omega)] at this; exact this
 have e1 : hb (uK l) 1 = (l.drop 4).take 1 := by
  have := xT8 ((l.drop 4).take 1)
  rw [List.length_take, List.length_drop, Nat.min_eq_left (by omega)] at this; exact this
 have e6 : hb (uP l) 6 = (l.drop 5).take 6 := by
  have := xT8 ((l.drop 5).take 6)
  rw [List.length_take, List.length_drop, Nat.min_eq_left (by omega)] at this; exact this
 rw [e4, e1, e6, yU8 l 5 11 6 (uN l) (6 + uN l) (by omega) (by omega), yU8 l 4 5 1 (6 + uN l) (7 + uN l) (by omega) (by omega), yR7 l 4 (7 + uN l) (11 + uN l) (by omega)]
theorem kB1 (l : List UInt8) (h : 11 + uN l + 4 <= l.length) : fr (uK l) (uP l) ((l.drop 11).take (uN l)) = l.take (11 + uN l + 4) ↔ (l.drop (11 + uN l)).take 4 = lo4 (nsum (l.take (11 + uN l))) := by
 unfold fr
 rw [kB2 l (by omega), <- yR7 l (11 + uN l) 4 (11 + uN l + 4) rfl, List.append_cancel_left_eq]
 exact eq_comm
theorem xX4 (l : List UInt8) (h : 11 <= l.length) : bat l 4 = ((uK l : Nat) : Int) := by
 unfold uK
 have h4 : 4 < l.length := by omega
 have : (l.drop 4).take 1 = [l.getD 4 0] := by
  rw [List.drop_eq_getElem_cons h4, List.take_succ_cons, List.take_zero]; simp [List.getD, h4]
 rw [this]; simp [bat, bn, hi]
end
section
open Go.RowKit
theorem kE8 (n s : Nat) : hi (hb n s) = n % 256 ^ s := by
 induction s with
 | zero => simp [hb, hi, Nat.mod_one]
 | succ s ih =>
  rw [hb, xD7, ih, zD4, Nat.pow_succ, Nat.mod_mul]
  have : (UInt8.ofNat (n / 256 ^ s)).toNat = n / 256 ^ s % 256 := by simp
  rw [this, Nat.mul_comm, Nat.add_comm]
theorem yF8 (n s : Nat) (h : n < 256 ^ s) : hi (hb n s) = n := by rw [kE8, Nat.mod_eq_of_lt h]
theorem zN8 (a b : List UInt8) (n : Nat) (h : a.length = n) : (a ++ b).take n = a := by rw [<- h]; exact List.take_left
theorem zL4 (a b : List UInt8) (n : Nat) (h : a.length = n) : (a ++ b).drop n = b := by rw [<- h]; exact List.drop_left
theorem yA1 (a b : List UInt8) (n m : Nat) (h : a.length = n) : (a ++ b).drop (n + m) = b.drop m := by rw [<- List.drop_drop, zL4 a b n h]
theorem yG3 (k p : Nat) (b x : List UInt8) : fr k p b ++ x = hb b.length 4 ++ (hb k 1 ++ (hb p 6 ++ (b ++ (lo4 (nsum (fr0 k p b)) ++ x)))) := by
 unfold fr
 have : fr0 k p b = hb b.length 4 ++ (hb k 1 ++ (hb p 6 ++ b)) := rfl
 generalize nsum (fr0 k p b) = s
 rw [this]
 simp only [List.append_assoc]
theorem kD7 (k p : Nat) (b x : List UInt8) (h : b.length <= 1048576) : uN (fr k p b ++ x) = b.length := by
 unfold uN
 rw [yG3, zN8 _ _ 4 (zD4 _ _), yF8 _ _ (by omega)]
theorem kD8 (k p : Nat) (b x : List UInt8) (h : k <= 255) : uK (fr k p b ++ x) = k := by
 unfold uK
 rw [yG3, zL4 _ _ 4 (zD4 _ _), zN8 _ _ 1 (zD4 _ _), yF8 _ _ (by omega)]
theorem kD6 (k p : Nat) (b x : List UInt8) (h : p <= 1099511627776) : uP (fr k p b ++ x) = p := by
 unfold uP
 rw [yG3, show (5 : Nat) = 4 + 1 from rfl, yA1 _ _ 4 1 (zD4 _ _), zL4 _ _ 1 (zD4 _ _), zN8 _ _ 6 (zD4 _ _), yF8 _ _ (by omega)]
theorem xW1 (k p : Nat) (b x : List UInt8) : ((fr k p b ++ x).drop 11).take b.length = b := by
 rw [yG3, show (11 : Nat) = 4 + (1 + 6) from rfl, yA1 _ _ 4 _ (zD4 _ _), yA1 _ _ 1 6 (zD4 _ _), zL4 _ _ 6 (zD4 _ _), zN8 _ _ _ rfl]
theorem xQ4 (k p : Nat) (b x : List UInt8) : (fr k p b ++ x).take (11 + b.length) = fr0 k p b := by
 unfold fr
 rw [List.append_assoc, zN8 _ _ _ (by rw [zK2]; omega)]
theorem xX5 (k p : Nat) (b x : List UInt8) : ((fr k p b ++ x).drop (11 + b.length)).take 4 = lo4 (nsum (fr0 k p b)) := by
 unfold fr
 rw [List.append_assoc, zL4 _ _ _ (by rw [zK2]; omega), zN8 _ _ 4 rfl]
theorem xM8 (k p : Nat) (b x : List UInt8) (hk : k <= 255) (hp : p <= 1099511627776) (hb : b.length <= 1048576) : unf (fr k p b ++ x) = ⟨k, p, b, ((b.length + 15 : Nat) : Int), 0⟩ := by
 have hl : (fr k p b ++ x).length = b.length + 15 + x.length := by rw [List.length_append, zC3]
 unfold unf
 rw [kD7 k p b x hb, kD8 k p b x hk, kD6 k p b x hp, xW1, xQ4, xX5]
 rw [if_neg (by omega), if_neg (by omega), if_neg (by omega), if_neg (by simp)]
 congr 2
 omega
end
section
open Go.RowKit
theorem take_take (l : List UInt8) (a b : Nat) (h : a <= b) : (l.take b).take a = l.take a := by rw [List.take_take, Nat.min_eq_left h]
end
section
open Go.RowKit
def decA : Nat -> Nat -> Nat -> List UInt8 -> Option (Nat × List UInt8)
 | 0, _, _, _ => none
 | _ + 1, _, _, [] => none
 | k + 1, i, acc, b :: r =>
  if 128 <= b.toNat then decA k (i + 1) (acc + b.toNat % 128 * 128 ^ i) r
  else if 2199023255552 < acc + b.toNat % 128 * 128 ^ i \/ (b.toNat = 0 /\ 0 < i) then none
  else some (acc + b.toNat % 128 * 128 ^ i, r)
def zE3 (u : Nat) : Int := if u % 2 = 1 then -(((u : Int) + 1) / 2) else (u : Int) / 2
def numS (s : Option (List UInt8)) : Option (List UInt8) := s.bind fun l => (decA 6 0 0 l).map (·.2)
def numV (s : Option (List UInt8)) : Int := match s.bind fun l => decA 6 0 0 l with
 | none => 0
 | some x => zE3 x.1
theorem yA4 (k i acc : Nat) (b : UInt8) (r : List UInt8) (hb : 128 <= b.toNat) : decA (k + 1) i acc (b :: r) = decA k (i + 1) (acc + b.toNat % 128 * 128 ^ i) r := by rw [decA, if_pos hb]
theorem yS7 (i : Nat) : 128 ^ i = 2 ^ (7 * i) := by rw [show (128 : Nat) = 2 ^ 7 from rfl, <- Nat.pow_mul]
end
end Go.Proofs.YtocoimjhglackaaGreat
