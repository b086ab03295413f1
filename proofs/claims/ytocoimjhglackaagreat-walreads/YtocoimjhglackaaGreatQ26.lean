/- Wfh -/
import Derived.Test.YtocoimjhglackaaGreatQ25
set_option maxHeartbeats 8000000
set_option maxRecDepth 100000
namespace Go.Proofs.YtocoimjhglackaaGreat
section
open Go.RowKit Go.Maps
theorem RowB.xs {w : World} {S : Nat -> Prop} {v : Value} {bs : List (List UInt8)} (h : RowB w S v bs) (hl : bs.length <= 2199023255552) : ∃ a cap xs, v = .slice a bs.length cap /\ bs.length <= cap /\ cap <= maxLen /\ xs.length = bs.length /\ VsR w a xs /\ (bs ≠ [] -> ∀ y, a = some y -> S y.block) /\ ∀ (i : Nat) (x : Value) (b : List UInt8), xs[i]? = some x -> bs[i]? = some b -> BodV w S x b := by
 obtain ⟨a, cap, h1, h2, h3, h4⟩ := h
 by_cases hne : bs = []
 · subst hne
   exact ⟨a, cap, [], h1, h2, h3, rfl, VsR.nil _ _, fun h => absurd rfl h, fun i x b hx => by simp at hx⟩
 · obtain ⟨g, off, rfl, h5, h6, h7⟩ := h4 hne
   have hf : ∀ i : Fin bs.length, ∃ x, w.cell? ⟨g, off + i.1, none⟩ = some x /\ BodV w S x bs[i.1] := fun i => h7 i.1 i.2
   refine ⟨_, cap, List.ofFn (fun i => Classical.choose (hf i)), h1, h2, h3, by simp, ⟨by simpa using hl, fun u hu => ?_, fun _ => ⟨g, off, rfl, h5, fun j u hu => ?_⟩⟩, fun _ y hy => by cases hy; exact h6, fun i x b hx hb => ?_⟩
   · obtain ⟨i, rfl⟩ := List.mem_ofFn.1 hu
     obtain ⟨_, _, e, _⟩ := (Classical.choose_spec (hf i)).2.1.form
     rw [e]; rfl
   · rw [List.getElem?_ofFn] at hu
     split at hu
     · rename_i hj
       cases hu
       exact (Classical.choose_spec (hf ⟨j, hj⟩)).1
     · cases hu
   · rw [List.getElem?_ofFn] at hx
     split at hx
     · rename_i hj
       cases hx
       have := (Classical.choose_spec (hf ⟨i, hj⟩)).2
       rw [List.getElem?_eq_getElem hj] at hb
       cases hb
       exact this
     · cases hx
theorem xQ2 {w : World} {a : Option Addr} {xs : List Value} (h : VsR w a xs) (k : Nat) : VsR w a (xs.take k) := by
 refine ⟨by rw [List.length_take]; have := h.1; omega, fun u hu => h.2.1 u (List.mem_of_mem_take hu), fun hne => ?_⟩
 obtain ⟨b, off, e, hb, hc⟩ := h.2.2 (by intro e; rw [e] at hne; simp at hne)
 refine ⟨b, off, e, hb, fun j u hj => hc j u ?_⟩
 rw [List.getElem?_take] at hj
 split at hj
 · exact hj
 · cases hj
theorem xR6 {w0 w : World} {S : Nat -> Prop} {D : Nat} {v : Value} {xs : List Value} {bs : List (List UInt8)} (h : w.ownsRow D 22 1 v xs.length xs) (hl : xs.length = bs.length) (hb : ∀ (i : Nat) (x : Value) (b : List UInt8), xs[i]? = some x -> bs[i]? = some b -> BodV w0 S x b) (hk : ∀ k, S k -> w.heap[k]? = w0.heap[k]?) : RowB w (fun k => S k \/ D <= k) v bs := by
 rcases h.2 with ⟨rfl, e⟩ | ⟨g, cap, cur, rfl, h4, h5, h6, h7, h8, h9⟩
 · have hl0 : bs = [] := List.length_eq_zero_iff.1 (by omega)
   exact ⟨none, 0, by rw [hl0]; rfl, by rw [hl0]; exact Nat.le_refl _, by unfold maxLen; omega, fun hne => absurd hl0 hne⟩
 · refine ⟨_, cap, by rw [hl], by omega, h7, fun _ => ⟨g, 0, rfl, zA4 h5, .inr h4, fun i hi => ?_⟩⟩
   obtain ⟨x, hxx⟩ : ∃ x, xs[i]? = some x := ⟨_, List.getElem?_eq_getElem (by omega)⟩
   refine ⟨x, ?_, (hb i _ _ hxx (List.getElem?_eq_getElem hi)).kept hk (fun k hk => .inl hk)⟩
   rw [Nat.zero_add, cell_of_row w g i cur 22 (0, 0) h5]
   rw [<- h9, List.getElem?_take, if_pos (by omega)] at hxx
   simpa using hxx
def WiP (w : World) (S : Nat -> Prop) (bs : List (List UInt8)) (e : Ending) (w' : World) : Prop := ∃ v, e = .returned v /\ RowB w' (fun k => S k \/ w.heap.size <= k) v bs /\ Below w.heap.size w w'
theorem yR3 (S : Nat -> Prop) (p o : Nat) (s : Sd) (first : Int) (a : Option Addr) (n cap : Nat) (os : List (List UInt8)) (w : World) (hs : zG1 w S p o s) (hSS : ∀ k, S k -> k < w.heap.size) (hpl : p < w.heap.size) (hb : okN s.base) (hbl : s.bs.length <= 1099511627776) (ho : RowB w S (.slice a n cap) os) (hol : os.length <= 1099511627776) (hf : s.base < first /\ first <= s.base + s.bs.length + 1) :
    Calls Tryz.prog 59 #[.pointer (some ⟨p, o, none⟩), .int .i64 first, .slice a n cap] w (WiP w S (s.bs.take (first - s.base - 1).toNat ++ os)) := by
 obtain ⟨sv, ev, _, hrow, c0, c1, c2, c3, c4⟩ := hs.cells
 obtain ⟨ea, ec, xs, rfl, e1, e2, e3, e4, e5, e6⟩ := hrow.xs (by omega)
 obtain ⟨oa, oc, ys, q0, q1, q2, q3, q4, q5, q6⟩ := ho.xs (by omega)
 cases q0
 obtain ⟨kk, hkk⟩ : ∃ kk, kk = (first - s.base - 1).toNat := ⟨_, rfl⟩
 rw [<- hkk]
 have hki : first - s.base - 1 = (kk : Int) := by omega
 have hkl : kk <= s.bs.length := by omega
 have hsl := yR9 ea s.bs.length ec kk (first - s.base - 1) hki (by omega)
 obtain ⟨b1, b2⟩ := hb
 obtain ⟨f1, f2⟩ := hf
 have hpair : yB0 (w.drew.alloc (.cells #[.slice ea kk ec, .slice a os.length cap] 92)) w.heap.size (.slice ea kk ec) (.slice a os.length cap) := heap_alloc_new w.drew _
 have hB : Below w.heap.size w (w.drew.alloc (.cells #[.slice ea kk ec, .slice a os.length cap] 92)) := (Below.refl _ w).drew.alloc (Nat.le_refl _) _
 have HCC := zA0 (yY3 (w.drew.alloc (.cells #[.slice ea kk ec, .slice a os.length cap] 92)) w.heap.size ea a (xs.take kk) ys kk os.length ec cap (by rw [List.length_take]; omega) q3.symm ((xQ2 e4 kk).grow hB) (q4.grow hB) hpair (by rw [List.length_take]; omega))
 have HE6 := zA0 e6
 have HQ6 := zA0 q6
 have HSS := zA0 hSS
 have HLEN : Hid (kk <= xs.length /\ ys.length = os.length) := zA0 ⟨by omega, q3⟩
 have HL2 := zA0 e3
 have HB := zA0 hB
 have HKI := zA0 hki
 clear hs ho c0 c1 c2 e4 e5 e6 q4 q5 q6 hrow hSS hpair hkk hB e3 q3
 have C4 := zA0 c4
 have C3 := zA0 c3
 have HPL := zA0 hpl
 clear hpl
 go_enter Tryz.func59, Tryz.ntmps59
 go_wp2
 refine wp_region_held_drew (S := fun wz : World => wz.cell? ⟨p, o + 4, none⟩ = some (.slice ea s.bs.length ec) /\ wz.cell? ⟨p, o + 3, none⟩ = some (.int .i64 s.base)) (by kernel_rfl) ⟨C4.out, C3.out⟩ (fun hHeld => ?_)
 refine wpAnyH_take (i := 0) (oi := { dst := some 7, op := Op.move (Operand.tmp 0), type := 147, pos := "said.go:100", after := #[], guard := none }) (v := .pointer (some ⟨p, o, none⟩)) rfl (by kernel_rfl) (by kernel_rfl) (by kernel_rfl) (fun _ _ _ h => h) (Or.inl ⟨by rfl, ?_⟩) hHeld ?_
 · (intro w hSw; (try dsimp only at hSw); go_simp)
 try simp only [Act.put, List.setIfInBounds_toArray, List.set_cons_zero, List.set_cons_succ]
 refine wpAnyH_take (i := 1) (oi := { dst := some 8, op := Op.nilCheck (Operand.tmp 7), type := 0, pos := "said.go:100", after := #[{ on := 0, ground := Ground.data }], guard := none }) (v := .pointer (some ⟨p, o, none⟩)) rfl (by kernel_rfl) (by kernel_rfl) (by kernel_rfl) (fun _ _ _ h => h) (Or.inl ⟨by rfl, ?_⟩) hHeld ?_
 · (intro w hSw; (try dsimp only at hSw); go_simp)
 try simp only [Act.put, List.setIfInBounds_toArray, List.set_cons_zero, List.set_cons_succ]
 refine wpAnyH_take (i := 2) (oi := { dst := some 9, op := Op.fieldAddr 94 (Operand.tmp 8) 3, type := 0, pos := "said.go:100", after := #[{ on := 1, ground := Ground.data }], guard := none }) (v := .pointer (some ⟨p, o + 4, none⟩)) rfl (by kernel_rfl) (by kernel_rfl) (by kernel_rfl) (fun _ _ _ h => h) (Or.inl ⟨by rfl, ?_⟩) hHeld ?_
 · (intro w hSw; (try dsimp only at hSw); go_simp)
 try simp only [Act.put, List.setIfInBounds_toArray, List.set_cons_zero, List.set_cons_succ]
 refine wpAnyH_take (i := 3) (oi := { dst := some 10, op := Op.load 92 (Operand.tmp 9), type := 92, pos := "said.go:100", after := #[{ on := 2, ground := Ground.data }], guard := none }) (v := .slice ea s.bs.length ec) rfl (by kernel_rfl) (by kernel_rfl) (by kernel_rfl) (fun _ _ _ h => h) (Or.inl ⟨by rfl, ?_⟩) hHeld ?_
 · (intro w hSw; obtain ⟨s1, s2⟩ := hSw; go_simp)
 try simp only [Act.put, List.setIfInBounds_toArray, List.set_cons_zero, List.set_cons_succ]
 refine wpAnyH_take (i := 4) (oi := { dst := some 11, op := Op.move (Operand.tmp 1), type := 3, pos := "said.go:100", after := #[], guard := none }) (v := .int .i64 first) rfl (by kernel_rfl) (by kernel_rfl) (by kernel_rfl) (fun _ _ _ h => h) (Or.inl ⟨by rfl, ?_⟩) hHeld ?_
 · (intro w hSw; (try dsimp only at hSw); go_simp)
 try simp only [Act.put, List.setIfInBounds_toArray, List.set_cons_zero, List.set_cons_succ]
 refine wpAnyH_take (i := 5) (oi := { dst := some 12, op := Op.move (Operand.tmp 0), type := 147, pos := "said.go:100", after := #[], guard := none }) (v := .pointer (some ⟨p, o, none⟩)) rfl (by kernel_rfl) (by kernel_rfl) (by kernel_rfl) (fun _ _ _ h => h) (Or.inl ⟨by rfl, ?_⟩) hHeld ?_
 · (intro w hSw; (try dsimp only at hSw); go_simp)
 try simp only [Act.put, List.setIfInBounds_toArray, List.set_cons_zero, List.set_cons_succ]
 refine wpAnyH_take (i := 6) (oi := { dst := some 13, op := Op.nilCheck (Operand.tmp 12), type := 0, pos := "said.go:100", after := #[{ on := 5, ground := Ground.data }], guard := none }) (v := .pointer (some ⟨p, o, none⟩)) rfl (by kernel_rfl) (by kernel_rfl) (by kernel_rfl) (fun _ _ _ h => h) (Or.inl ⟨by rfl, ?_⟩) hHeld ?_
 · (intro w hSw; (try dsimp only at hSw); go_simp)
 try simp only [Act.put, List.setIfInBounds_toArray, List.set_cons_zero, List.set_cons_succ]
 refine wpAnyH_take (i := 7) (oi := { dst := some 14, op := Op.fieldAddr 94 (Operand.tmp 13) 2, type := 0, pos := "said.go:100", after := #[{ on := 6, ground := Ground.data }], guard := none }) (v := .pointer (some ⟨p, o + 3, none⟩)) rfl (by kernel_rfl) (by kernel_rfl) (by kernel_rfl) (fun _ _ _ h => h) (Or.inl ⟨by rfl, ?_⟩) hHeld ?_
 · (intro w hSw; (try dsimp only at hSw); go_simp)
 try simp only [Act.put, List.setIfInBounds_toArray, List.set_cons_zero, List.set_cons_succ]
 refine wpAnyH_take (i := 8) (oi := { dst := some 15, op := Op.load 3 (Operand.tmp 14), type := 3, pos := "said.go:100", after := #[{ on := 7, ground := Ground.data }], guard := none }) (v := .int .i64 s.base) rfl (by kernel_rfl) (by kernel_rfl) (by kernel_rfl) (fun _ _ _ h => h) (Or.inl ⟨by rfl, ?_⟩) hHeld ?_
 · (intro w hSw; obtain ⟨s1, s2⟩ := hSw; go_simp)
 try simp only [Act.put, List.setIfInBounds_toArray, List.set_cons_zero, List.set_cons_succ]
 refine wpAnyH_take (i := 9) (oi := { dst := some 16, op := Op.binOp BinOp.sub 3 (Operand.tmp 11) (Operand.tmp 15) 3, type := 3, pos := "said.go:100", after := #[{ on := 4, ground := Ground.data }, { on := 8, ground := Ground.data }], guard := none }) (v := .int .i64 (first - s.base)) rfl (by kernel_rfl) (by kernel_rfl) (by kernel_rfl) (fun _ _ _ h => h) (Or.inl ⟨by rfl, ?_⟩) hHeld ?_
 · (intro w hSw; clear hSw; go_simp; (rw [IntKind.wrap_i64]; omega))
 try simp only [Act.put, List.setIfInBounds_toArray, List.set_cons_zero, List.set_cons_succ]
 refine wpAnyH_take (i := 10) (oi := { dst := some 17, op := Op.binOp BinOp.sub 3 (Operand.tmp 16) (Operand.const (Value.int IntKind.i64 1)) 3, type := 3, pos := "said.go:100", after := #[{ on := 9, ground := Ground.data }], guard := none }) (v := .int .i64 (first - s.base - 1)) rfl (by kernel_rfl) (by kernel_rfl) (by kernel_rfl) (fun _ _ _ h => h) (Or.inl ⟨by rfl, ?_⟩) hHeld ?_
 · (intro w hSw; clear hSw; go_simp; (rw [IntKind.wrap_i64]; omega))
 try simp only [Act.put, List.setIfInBounds_toArray, List.set_cons_zero, List.set_cons_succ]
 refine wpAnyH_take (i := 11) (oi := { dst := some 18, op := Op.slice 92 (Operand.tmp 10) none (some (Operand.tmp 17)) none, type := 92, pos := "said.go:100", after := #[{ on := 3, ground := Ground.data }, { on := 10, ground := Ground.data }], guard := none }) (v := .slice ea kk ec) rfl (by kernel_rfl) (by kernel_rfl) (by kernel_rfl) (fun _ _ _ h => h) (Or.inl ⟨by rfl, ?_⟩) hHeld ?_
 · (intro w hSw; clear hSw; go_simp; intro hh; omega)
 try simp only [Act.put, List.setIfInBounds_toArray, List.set_cons_zero, List.set_cons_succ]
 refine wpAnyH_take (i := 12) (oi := { dst := some 19, op := Op.move (Operand.tmp 2), type := 92, pos := "said.go:100", after := #[], guard := none }) (v := .slice a os.length cap) rfl (by kernel_rfl) (by kernel_rfl) (by kernel_rfl) (fun _ _ _ h => h) (Or.inl ⟨by rfl, ?_⟩) hHeld ?_
 · (intro w hSw; (try dsimp only at hSw); go_simp)
 try simp only [Act.put, List.setIfInBounds_toArray, List.set_cons_zero, List.set_cons_succ]
 refine wpAnyH_ready (rs := [13]) (by kernel_rfl) (by simp) ?_
 refine AllReadyH.cons (o := { dst := some 20, op := Op.buildSlice 180 2 #[(0, Operand.tmp 18), (1, Operand.tmp 19)], type := 180, pos := "said.go:100", after := #[{ on := 11, ground := Ground.data }, { on := 12, ground := Ground.data }], guard := none }) rfl (fun K hK => ?_) AllReadyH.nil
 go_simp
 have s1 : (fun wz : World => wz.cell? ⟨p, o + 4, none⟩ = some (.slice ea s.bs.length ec) /\ wz.cell? ⟨p, o + 3, none⟩ = some (.int .i64 s.base)) (w.drew.alloc (.cells #[.slice ea kk ec, .slice a os.length cap] 92)) := ⟨(HB.out.cell (p := ⟨p, o + 4, none⟩) HPL.out).trans C4.out, (HB.out.cell (p := ⟨p, o + 3, none⟩) HPL.out).trans C3.out⟩
 refine hK.out _ _ s1 (fun hHeld1 => ?_)
 clear hK K
 try simp only [Act.put, List.setIfInBounds_toArray, List.set_cons_zero, List.set_cons_succ]
 refine wpAnyH_ready (rs := [14]) (by kernel_rfl) (by simp) ?_
 refine AllReadyH.cons (o := { dst := some 21, op := Op.call { callee := Callee.value (Operand.func 91), args := #[Operand.tmp 20], argTypes := #[180] }, type := 92, pos := "said.go:100", after := #[{ on := 13, ground := Ground.data }], guard := none }) rfl (fun K hK => ?_) AllReadyH.nil
 go_simp
 refine HCC.out.mono ?_
 rintro e w1 ⟨v1, rfl, hr1, hb1⟩
 obtain ⟨va, vn, vc, hvv⟩ := yE3 hr1
 subst hvv
 have HR1 := zA0 hr1
 have HB1 := zA0 hb1
 have s2 : (fun wz : World => wz.cell? ⟨p, o + 4, none⟩ = some (.slice ea s.bs.length ec) /\ wz.cell? ⟨p, o + 3, none⟩ = some (.int .i64 s.base)) w1 := ⟨(hb1.cell (p := ⟨p, o + 4, none⟩) (Nat.lt_of_lt_of_le HPL.out HB.out.size)).trans s1.1, (hb1.cell (p := ⟨p, o + 3, none⟩) (Nat.lt_of_lt_of_le HPL.out HB.out.size)).trans s1.2⟩
 clear hr1 hb1
 refine hK.out _ _ s2 (fun hHeld2 => ?_)
 clear hK K
 try simp only [Act.put, List.setIfInBounds_toArray, List.set_cons_zero, List.set_cons_succ]
 refine wpAnyH_take (i := 15) (oi := { dst := some 6, op := Op.assign (Operand.tmp 21), type := 92, pos := "said.go:100", after := #[{ on := 14, ground := Ground.data }, { on := 14, ground := Ground.chain }, { on := 0, ground := Ground.phase }, { on := 1, ground := Ground.phase }, { on := 2, ground := Ground.phase }, { on := 3, ground := Ground.phase }, { on := 4, ground := Ground.phase }, { on := 5, ground := Ground.phase }, { on := 6, ground := Ground.phase }, { on := 7, ground := Ground.phase }, { on := 8, ground := Ground.phase }, { on := 9, ground := Ground.phase }, { on := 10, ground := Ground.phase }, { on := 11, ground := Ground.phase }, { on := 12, ground := Ground.phase }, { on := 13, ground := Ground.phase }, { on := 14, ground := Ground.phase }], guard := none }) (v := .slice va vn vc) rfl (by kernel_rfl) (by kernel_rfl) (by kernel_rfl) (fun _ _ _ h => h) (Or.inl ⟨by rfl, ?_⟩) hHeld2 ?_
 · (intro w hSw; (try dsimp only at hSw); go_simp)
 try simp only [Act.put, List.setIfInBounds_toArray, List.set_cons_zero, List.set_cons_succ]
 refine wpAnyH_done (by kernel_rfl) ?_ _
 go_wp2
 go_ret
 refine ⟨_, rfl, ?_, HB.out.trans (HB1.out.mono HB.out.size)⟩
 have hlt : (xs.take kk).length = kk := by rw [List.length_take]; have := HLEN.out.1; omega
 have hrn := xR6 (w0 := w) (S := S) (bs := s.bs.take kk ++ os) HR1.out (by rw [List.length_append, List.length_append, hlt, List.length_take, HLEN.out.2]; have := HLEN.out.1; have := HL2.out; omega) (fun i x b hx hb => ?_) (fun k hk => (HB1.out.block k (Nat.lt_of_lt_of_le (HSS.out k hk) HB.out.size)).trans (HB.out.block k (HSS.out k hk)))
 · obtain ⟨a1, c1, g1, g2, g3, g4⟩ := hrn
   refine ⟨a1, c1, g1, g2, g3, fun hne => ?_⟩
   obtain ⟨g, off, q1, q2, q3, q4⟩ := g4 hne
   refine ⟨g, off, q1, q2, q3.imp id (fun h => Nat.le_trans HB.out.size h), fun i hi => ?_⟩
   obtain ⟨x, q5, q6, q7⟩ := q4 i hi
   exact ⟨x, q5, q6, fun k hk => (q7 k hk).imp id (fun h => Nat.le_trans HB.out.size h)⟩
 · by_cases hi : i < kk
   · rw [List.getElem?_append_left (by omega), List.getElem?_take, if_pos hi] at hx
     rw [List.getElem?_append_left (by rw [List.length_take]; have := HLEN.out.1; have := HL2.out; omega), List.getElem?_take, if_pos hi] at hb
     exact HE6.out i x b hx hb
   · rw [List.getElem?_append_right (by omega), hlt] at hx
     rw [List.getElem?_append_right (by rw [List.length_take]; omega), List.length_take, Nat.min_eq_left (by have := HLEN.out.1; have := HL2.out; omega)] at hb
     exact HQ6.out _ x b hx hb
end
end Go.Proofs.YtocoimjhglackaaGreat
