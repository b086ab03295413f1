/- A job's slots, one by one: the code's iterator. -/
import Derived.Test.YtblofbdncolikaaGq
import Derived.Test.YtblofbdncolikaaSl
namespace Go.Proofs.Ytblofbdncolikaa
open Go.RowKit Go.Shelf
attribute [local go_sem] Oper.semAt_some
theorem gd3 (G : List Gp) (k : Nat) (h : k < G.length) : G[k]?.getD default = G[k] := getD_at G k h
def slK (ixs : Gp → List Int) (G : List Gp) : Nat → List (Int × Int)
 | 0 => []
 | k + 1 => slK ixs G k ++ (ixs (G[k]?.getD default)).map (fun i => ((k : Int), i))
theorem slK_le (ixs : Gp → List Int) (G : List Gp) {k n : Nat} (h : k ≤ n) : slK ixs G k <+: slK ixs G n := by
 obtain ⟨d, rfl⟩ := Nat.exists_eq_add_of_le h
 clear h
 induction d with
 | zero => exact List.prefix_refl _
 | succ d ih => rw [← Nat.add_assoc, slK]; exact ih.trans (List.prefix_append _ _)
def eS (x : Int × Int) : Array Value := #[.agg #[.int .i64 x.1, .int .i64 x.2]]
theorem c39 (g : Gp) (w : World) : Calls Try.prog 62 #[.agg #[.int .i64 g.n, .int .i64 g.c, .int .i64 g.m]] w fun e w' => e = .returned (.func (.func 72) #[] #[.pointer (some ⟨w.heap.size, 0, none⟩)]) ∧ w' = w.alloc (.cells #[.int .i64 g.n, .int .i64 g.c, .int .i64 g.m] 48) := by
 have hmf : ∀ (fn : Fn) (first cap : Array Value) (w : World), (Instr.makeFunc fn first cap).run Try.prog w = .ok (.func fn first cap) w := fun _ _ _ _ => rfl
 go_enter Try.func62, Try.ntmps62
 go_wp2
 go_ret
 exact ⟨rfl, rfl⟩
theorem c42 (a : Option Addr) (len cap : Nat) (w : World) : Calls Try.prog 65 #[.slice a len cap] w fun e w' => e = .returned (.func (.func 73) #[] #[.pointer (some ⟨w.heap.size, 0, none⟩)]) ∧ w' = w.alloc (.cells #[.slice a len cap] 33) := by
 have hmf : ∀ (fn : Fn) (first cap : Array Value) (w : World), (Instr.makeFunc fn first cap).run Try.prog w = .ok (.func fn first cap) w := fun _ _ _ _ => rfl
 go_enter Try.func65, Try.ntmps65
 go_wp2
 go_ret
 exact ⟨rfl, rfl⟩
theorem c41 (g : Gp) (Bo : Nat) (a : Option Addr) (len cap : Nat) (w : World) (hB : Bo < w.heap.size) (hc : w.cell? ⟨Bo, 0, none⟩ = some (.slice a len cap)) : Calls Try.prog 64 #[.agg #[.int .i64 g.n, .int .i64 g.c, .int .i64 g.m], .pointer (some ⟨Bo, 0, none⟩)] w fun e w' => e = .returned (.func (.func 73) #[] #[.pointer (some ⟨w.heap.size + 1, 0, none⟩)]) ∧ w' = (w.alloc (.cells #[.int .i64 g.n, .int .i64 g.c, .int .i64 g.m] 48)).alloc (.cells #[.slice a len cap] 33) := by
 go_enter Try.func64, Try.ntmps64
 go_wp2_with (go_at_call 65; refine (c42 _ _ _ _).mono ?_; rintro e w' ⟨rfl, rfl⟩)
 go_ret
 exact ⟨by simp, rfl⟩
set_option maxRecDepth 100000 in
set_option maxHeartbeats 4000000 in
theorem it43c (n Bj Bi : Nat) (d : Jb) (ga : Option Addr) (gc : Nat) (Q : Nat → Prop) (w : World) (hQ : ∀ k, Q k → k < w.heap.size) (hBj : Q Bj) (hBi : Q Bi)
  (hj : w.rangeAt Bj 0 (d.sh ga gc).cs) (hi : w.cell? ⟨Bi, 0, none⟩ = some (.func (.func 62) #[] #[])) (hG : Fl w Q 3 24 Gp.cs ga d.gs) :
  SeqY n 66 #[.pointer (some ⟨Bj, 0, none⟩), .pointer (some ⟨Bi, 0, none⟩)] eS Q (if d.sd = true then [] else slK (fun g => ups (cnN g.n)) d.gs d.gs.length) w := fun l f fx O W hW hf hfx hO hQO hY h0 => by
 have hsb : ∀ b, Q b → W.heap[b]? = w.heap[b]? := fun b hb => hW.block b hb
 have hlt : ∀ b, Q b → b < W.heap.size := fun b hb => Nat.lt_of_lt_of_le (hQ b hb) hW.size
 have hjW := range_of hj (hsb _ hBj)
 have j4 : W.cell? ⟨Bj, 4, none⟩ = some (.slice ga d.gs.length gc) := hjW 4 _ rfl
 have j6 : W.cell? ⟨Bj, 6, none⟩ = some (.bool d.sd) := hjW 6 _ rfl
 have hiW := (World.cell?_of_block (hsb _ hBi)).trans hi
 have lj := hlt _ hBj
 have li := hlt _ hBi
 have hlen : d.gs.length ≤ 140737488355328 := by have := hG.bd; omega
 refine callsIn_of_wp_marks Try.func66 rfl trivial ?_ rfl
 simp only [Try.ntmps66, List.size_toArray, List.length_cons, List.length_nil, Nat.reduceAdd, Nat.reduceSub, Array.replicate_succ, Array.replicate_zero, List.push_toArray, List.append_toArray, List.nil_append, List.cons_append]
 have hb1 : Below W.heap.size W (W.alloc (.cells #[.func (.yield l) #[] #[]] 112)) := below1 _ _
 have hy0 := (Boxed.new W 112 (.func (.yield l) #[] #[])).cell
 cases hsd : d.sd with
 | true =>
  rw [hsd] at j6
  rw [hsd] at hY
  clear hY
  gi_wp2
  refine ⟨_, results_none rfl _ _ _, ⟨_, rfl⟩, O, Frm.bel hO hb1, .inl (hf _ _ _ _ h0 (fun k hk => hb1.block k (hO k hk)) hb1.size)⟩
 | false =>
  rw [hsd] at j6
  rw [hsd] at hY
  simp only [Bool.false_eq_true, if_false] at hY
  have HY := hidOf hY
  have HG := hidOf hG
  clear hY hG
  simp only [Bool.false_eq_true, if_false]
  gi_wp2
  obtain ⟨W0, hW0⟩ : ∃ W0, W.alloc (.cells #[.func (.yield l) #[] #[]] 112) = W0 := ⟨_, rfl⟩
  have hz0 : W0.heap.size = W.heap.size + 1 := by rw [← hW0]; simp
  rw [hW0] at hb1 hy0 ⊢
  obtain ⟨Y, hYY⟩ : ∃ Y, W.heap.size = Y := ⟨_, rfl⟩
  rw [hYY] at hy0 hz0 ⊢
  have hF0 : Frm O O W W0 := Frm.bel hO hb1
  have hf0 : f O [] W0 := hf _ _ _ _ h0 (fun k hk => hb1.block k (hO k hk)) hb1.size
  refine wpIn_loop (fun a' wr => ∃ (g : Nat) (Ds : List Nat) (O1 : Nat → Prop) (u4 u5 u6 u13 u14 u15 u16 u17 u18 u19 u20 u21 u22 u23 u24 u25 u26 u27 : Value), a' = { tmps := #[.func (.yield l) #[] #[], .pointer (some ⟨Bj, 0, none⟩), .pointer (some ⟨Bi, 0, none⟩), .pointer (some ⟨Y, 0, none⟩), u4, u5, u6, .pointer (some ⟨Bj, 6, none⟩), .bool false, .pointer (some ⟨Bj, 4, none⟩), .slice ga d.gs.length gc, .int .i64 d.gs.length, .int .i64 g, u13, u14, u15, u16, u17, u18, u19, u20, u21, u22, u23, u24, u25, u26, u27], defers := Ds.map fun D => { target := .collected D, args := #[] } } ∧ g ≤ d.gs.length ∧ f O1 (slK (fun g : Gp => ups (cnN g.n)) d.gs g) wr ∧ Frm O O1 W0 wr ∧ Ds.Nodup ∧ ∀ D ∈ Ds, wr.heap[D]? = some (.deferred (some [])) ∧ W0.heap.size ≤ D ∧ ¬ O1 D) (fun a' _ => d.gs.length - (intOf (a'.tmps.getD 12 undef)).toNat) ?_ ?_
  ·exact ⟨0, [], O, _, _, _, _, _, _, _, _, _, _, _, _, _, _, _, _, _, _, rfl, Nat.zero_le _, hf0, Frm.refl (fun k hk => hF0.lt k hk), List.nodup_nil, fun D hD => by cases hD⟩
  ·rintro _ wr ⟨g, Ds, O1, u4, u5, u6, u13, u14, u15, u16, u17, u18, u19, u20, u21, u22, u23, u24, u25, u26, u27, rfl, hg, hf1, hF1, hnd, hDs⟩
   have hOY : ¬ O Y := fun h => by have := hO Y h; omega
   have hKr : ∀ b, Q b → wr.heap[b]? = w.heap[b]? := fun b hb => (hF1.same b (by have := hlt b hb; omega) (hQO b hb)).trans ((hb1.block b (hlt b hb)).trans (hsb b hb))
   have hsr : W0.heap.size ≤ wr.heap.size := hF1.size
   have hyr : wr.cell? ⟨Y, 0, none⟩ = some (.func (.yield l) #[] #[]) := (World.cell?_of_block (hF1.same Y (by omega) hOY)).trans hy0
   have hir : wr.cell? ⟨Bi, 0, none⟩ = some (.func (.func 62) #[] #[]) := (World.cell?_of_block (hKr Bi hBi)).trans hi
   have hlr : Bi < wr.heap.size := by have := hlt _ hBi; omega
   by_cases hgl : g < d.gs.length
   ·obtain ⟨b, off, ha, hQb, hcc⟩ := HG.out.at g hgl
    have hx := gd3 d.gs g hgl
    have HSL := hidOf (show slK (fun g : Gp => ups (cnN g.n)) d.gs (g + 1) = slK (fun g : Gp => ups (cnN g.n)) d.gs g ++ ((fun g : Gp => ups (cnN g.n)) (d.gs[g]?.getD default)).map (fun i => ((g : Int), i)) from rfl)
    have HSP := hidOf (slK_le (fun g : Gp => ups (cnN g.n)) d.gs (show g + 1 ≤ d.gs.length from hgl))
    rw [hx] at HSL
    obtain ⟨x, hxx⟩ : ∃ x, d.gs[g] = x := ⟨_, rfl⟩
    rw [hxx] at hcc HSL
    subst ha
    have hbl : b < wr.heap.size := by have := hlt b hQb; omega
    have hcr := range_of hcc (hKr b hQb)
    have c0 : wr.cell? ⟨b, off + g * 3, none⟩ = some (.int .i64 x.n) := hcr 0 _ rfl
    have c1 : wr.cell? ⟨b, off + g * 3 + 1, none⟩ = some (.int .i64 x.c) := hcr 1 _ rfl
    have c2 : wr.cell? ⟨b, off + g * 3 + 2, none⟩ = some (.int .i64 x.m) := hcr 2 _ rfl
    clear hxx hx hcc hcr
    have HF1 := hidOf hF1
    have HDS := hidOf hDs
    have Hf1 := hidOf hf1
    have HND := hidOf hnd
    clear hF1 hDs hf1 hnd hf0 h0 HG
    have HKR := hidOf hKr
    gi_wp2
    refine ⟨trivial, fun h => (by cases h), (callsIn_wide.2 (c39 x _)).mono ?_⟩
    rintro e w1 ⟨rfl, rfl⟩
    gi_wp2
    obtain ⟨X, hX⟩ : ∃ X, ((wr.alloc (.cells #[.int .i64 g] 3)).alloc (.cells #[.int .i64 x.n, .int .i64 x.c, .int .i64 x.m] 48)).alloc (.cells #[.int .i64 x.n, .int .i64 x.c, .int .i64 x.m] 48) = X := ⟨_, rfl⟩
    have hzX : X.heap.size = wr.heap.size + 3 := by rw [← hX]; simp
    have hbX : Below wr.heap.size wr X := by rw [← hX]; exact (below2 wr _ _).alloc (by simp; omega) _
    have hatX : X.cell? ⟨wr.heap.size, 0, none⟩ = some (.int .i64 g) := by rw [← hX]; exact (((Boxed.new wr 3 (.int .i64 g)).alloc _).alloc _).cell
    obtain ⟨Bg, hBg⟩ : ∃ Bg, wr.heap.size + 1 + 1 = Bg := ⟨_, rfl⟩
    have hBgX : X.cell? ⟨wr.heap.size + 1 + 1, 0, none⟩ = some (.int .i64 x.n) := by
     have := box_new (wr := ((wr.alloc (.cells #[.int .i64 g] 3)).alloc (.cells #[.int .i64 x.n, .int .i64 x.c, .int .i64 x.m] 48))) (cs := [.int .i64 x.n, .int .i64 x.c, .int .i64 x.m]) (t := 48) (Below.refl _ _) 0 _ rfl
     rw [← hX]; simpa using this
    rw [hX]
    clear hX
    rw [hBg] at hBgX ⊢
    have hQO1 : ∀ k, Q k → ¬ O1 k := fun k hk => HF1.out.out (by have := hlt k hk; omega) (hQO k hk)
    have hlt1 : ∀ k, O1 k → k < wr.heap.size := HF1.out.lt
    have hKQ : ∀ k, (k = Bg ∨ Q k) → k < X.heap.size := fun k hk => hk.elim (fun h => by omega) (fun h => by have := hlt k h; omega)
    obtain ⟨M, hM⟩ : ∃ M : Nat → Prop, ∀ k, M k ↔ (k < X.heap.size ∧ ¬ O1 k ∧ ¬ (k = Bg ∨ Q k)) := ⟨_, fun _ => Iff.rfl⟩
    obtain ⟨GI, hGI⟩ : ∃ GI : ((Nat → Prop) → List (Int × Int) → World → Prop) → (Nat → Prop) → List Int → World → Prop, ∀ H O' pre W', GI H O' pre W' ↔ ∃ Oo, (∀ k, O' k ↔ Oo k ∨ M k) ∧ (∀ k, Oo k → ¬ M k) ∧ H Oo (slK (fun g : Gp => ups (cnN g.n)) d.gs g ++ pre.map (fun i => ((g : Int), i))) W' ∧ (∀ k, M k → W'.heap[k]? = X.heap[k]?) ∧ X.heap.size ≤ W'.heap.size := ⟨_, fun _ _ _ _ => Iff.rfl⟩
    have hSup : ∀ H, Sup H → Sup (GI H) := fun H hH O' pre A C hs hk hsz => by
     rw [hGI] at hs ⊢
     obtain ⟨Oo, h1, h2, h3, h4, h5⟩ := hs
     exact ⟨Oo, h1, h2, hH _ _ _ _ h3 (fun k hk1 => hk k ((h1 k).2 (.inl hk1))) hsz, fun k hk1 => (hk k ((h1 k).2 (.inr hk1))).trans (h4 k hk1), Nat.le_trans h5 hsz⟩
    have hMY : M Y := (hM Y).2 ⟨by omega, HF1.out.out (by omega) hOY, fun h => h.elim (fun h => by omega) (fun h => by have := hlt Y h; omega)⟩
    have hMa : M wr.heap.size := (hM _).2 ⟨by omega, fun h => by have := hlt1 _ h; omega, fun h => h.elim (fun h => by omega) (fun h => by have := hlt _ h; omega)⟩
    have hML : ∀ k, M k → k < X.heap.size := fun k hk => ((hM k).1 hk).1
    have HSUP := hidOf hSup
    have HM := hidOf hM
    have HGI := hidOf hGI
    have HKR2 := hidOf hKr
    have HbX := hidOf hbX
    have hyX := (hb_cell hbX (o := 0) (show Y < wr.heap.size by omega)).trans hyr
    clear hSup hM hGI hKr hbX c0 c1 c2 hir
    have hfr : ∀ H O' pre W', Frm (fun k => O1 k ∨ M k) O' X W' → GI H O' pre W' → ∃ Oo, Frm O1 Oo X W' ∧ (∀ k, Oo k → O' k) ∧ H Oo (slK (fun g : Gp => ups (cnN g.n)) d.gs g ++ pre.map (fun i => ((g : Int), i))) W' := fun H O' pre W' hF hG => by
     obtain ⟨Oo, h1, h2, h3, h4, h5⟩ := (HGI.out _ _ _ _).1 hG
     refine ⟨Oo, ⟨fun k hk => ?_, fun k hk ho => ?_, h5, fun k hk => hF.lt k ((h1 k).2 (.inl hk)), hF.ex⟩, fun k hk => (h1 k).2 (.inl hk), h3⟩
     ·rcases hF.sub k ((h1 k).2 (.inl hk)) with (h | h) | h
      ·exact .inl h
      ·exact absurd h (h2 k hk)
      ·exact .inr h
     ·by_cases hm : M k
      ·exact h4 k hm
      ·exact hF.same k hk (fun h => h.elim ho hm)
    have HFR := hidOf hfr
    clear hfr
    refine wp_seqY (n := n) (gf := 72) (lb := #[.pointer (some ⟨Bg, 0, none⟩)]) rfl (enters_of Try.func72 (by kernel_rfl) rfl) (encs := fun i : Int => #[.int .i64 i]) (K := fun k => k = Bg ∨ Q k) (S := ups (cnN x.n)) (w0 := X) (it45 _ Bg x.n _ X hKQ (.inl rfl) hBgX) (Kq.refl _ _) (fun _ => rfl)
     (GI f) (GI fx) (HSUP.out f hf) (HSUP.out fx hfx) (fun k => O1 k ∨ M k) (fun k hk => hk.elim (fun h => by have := hlt1 k h; omega) (fun h => hML k h))
     (fun k hk => ⟨fun h => by
      rcases h with h | h
      ·rcases hk with e | e
       ·have := hlt1 k h; omega
       ·exact hQO1 k e h
      ·exact ((HM.out k).1 h).2.2 hk, hKQ k hk⟩)
     ((HGI.out _ _ _ _).2 ⟨O1, fun _ => Iff.rfl, fun k h1 h2 => ((HM.out k).1 h2).2.1 h1, by simp only [List.map_nil, List.append_nil]; exact hf _ _ _ _ Hf1.out (fun k hk => HbX.out.block k (hlt1 k hk)) HbX.out.size, fun _ _ => rfl, Nat.le_refl _⟩)
     ?round ?done ?stop
    case round =>
     intro l' O2 pre y Wr C hlt2 hI2 hp2 hsz2 hC
     gi_wp2
     refine hC _ _ (Below.refl _ _) (fun W2 hsm hs2 hrec hl1 hl2 hnl hF2 hI3 => ?_)
     clear hC hsm hrec
     obtain ⟨Oo, hO2, hdis, hfo, hMk, hsX⟩ := (HGI.out _ _ _ _).1 hI3
     have hy2 : W2.cell? ⟨Y, 0, none⟩ = some (.func (.yield l) #[] #[]) := (World.cell?_of_block (hMk Y hMY)).trans hyX
     have ha2 : W2.cell? ⟨wr.heap.size, 0, none⟩ = some (.int .i64 g) := (World.cell?_of_block (hMk _ hMa)).trans hatX
     have lY : Y < W2.heap.size := by omega
     have la : wr.heap.size < W2.heap.size := by omega
     have hpre : (slK (fun g : Gp => ups (cnN g.n)) d.gs g ++ pre.map (fun i => ((g : Int), i))) ++ [((g : Int), y)] <+: slK (fun g : Gp => ups (cnN g.n)) d.gs d.gs.length := by
      refine List.IsPrefix.trans ?_ HSP.out
      rw [HSL.out, List.append_assoc]
      obtain ⟨r, hr⟩ := hp2
      exact ⟨r.map (fun i => ((g : Int), i)), by (try dsimp only); rw [← hr]; simp⟩
     have hlo : ∀ k, Oo k → k < W2.heap.size := fun k hk => by have := hlt2 k ((hO2 k).2 (.inl hk)); omega
     have hFo2 : Frm O1 Oo X W2 := ⟨fun k hk => by
       rcases hF2.sub k ((hO2 k).2 (.inl hk)) with (h | h) | h
       ·exact .inl h
       ·exact absurd h (hdis k hk)
       ·exact .inr h,
      fun k hk ho => by
       by_cases hm : M k
       ·exact hMk k hm
       ·exact hF2.same k hk (fun h => h.elim ho hm),
      hsX, fun k hk => hF2.lt k ((hO2 k).2 (.inl hk)), hF2.ex⟩
     obtain ⟨fn, tmps, assign, body, hy, hR⟩ := HY.out Oo _ ((g : Int), y) W2 hfo hlo (hF0.trans (HF1.out.trans ((Frm.bel hlt1 HbX.out).trans hFo2))) hpre
     clear hFo2 hF2
     dsimp only [eS] at hy
     have fin : ∀ (O3 : Nat → Prop) (W3 : World) (H : (Nat → Prop) → List (Int × Int) → World → Prop), Frm Oo O3 W2 W3 → H O3 ((slK (fun g : Gp => ups (cnN g.n)) d.gs g ++ pre.map (fun i => ((g : Int), i))) ++ [((g : Int), y)]) W3 → ∃ O', Frm O2 O' W2 W3 ∧ GI H O' (pre ++ [y]) W3 := fun O3 W3 H hF3 h3 => by
      have hs3 := hF3.size
      have hMO : ∀ k, M k → ¬ O3 k := fun k hk => hF3.out (by have := hML k hk; omega) (fun h => hdis k h hk)
      refine ⟨fun k => O3 k ∨ M k, ⟨fun k hk => ?_, fun k hk ho => hF3.same k hk (fun h => ho ((hO2 k).2 (.inl h))), hF3.size, fun k hk => ?_, hF3.ex⟩, (HGI.out _ _ _ _).2 ⟨O3, fun _ => Iff.rfl, fun k h1 h2 => hMO k h2 h1, by rw [List.map_append, ← List.append_assoc]; exact h3, fun k hk => (hF3.same k (by have := hML k hk; omega) (fun h => hdis k h hk)).trans (hMk k hk), by omega⟩⟩
      ·rcases hk with h | h
       ·rcases hF3.sub k h with h | h
        ·exact .inl ((hO2 k).2 (.inl h))
        ·exact .inr h
       ·exact .inl ((hO2 k).2 (.inr h))
      ·rcases hk with h | h
       ·exact hF3.lt k h
       ·have := hML k h; omega
     have HFIN := hidOf fin
     clear fin hpre hlo hfo hMk hdis hO2 hI3 hI2 hlt2
     gi_wp2
     refine ⟨fun h => (by cases h), (roundIn_any hR).mono ?_⟩
     rintro e W3 ⟨O3, hF3, (⟨rfl, hf3⟩ | ⟨rfl, hx3⟩)⟩
     ·gi_wp2
      exact HFIN.out O3 W3 _ hF3 hf3
     ·gi_wp2
      exact HFIN.out O3 W3 _ hF3 hx3
    case done =>
     intro D O' W' hD hnD hFr hI hdef
     obtain ⟨Oo, hFo, hsub, hfo⟩ := HFR.out _ _ _ _ hFr hI
     have hFb : Frm O1 O1 wr X := Frm.bel hlt1 HbX.out
     have HDO := hidOf hdef
     clear hdef
     gi_wp2
     have he1 : (Value.int .i64 ((g : Int) + 1)) = .int .i64 ((g + 1 : Nat) : Int) := by simp
     refine ⟨⟨g + 1, D :: Ds, Oo, _, _, _, _, _, _, _, _, _, _, _, _, _, _, _, _, _, _, by rw [he1]; rfl, hgl, by rw [HSL.out]; exact hfo, HF1.out.trans (hFb.trans hFo), ?_, fun E hE => ?_⟩, ?_⟩
     ·refine List.nodup_cons.2 ⟨fun h => ?_, HND.out⟩
      have := heap_lt (HDS.out D h).1
      omega
     ·rcases List.mem_cons.1 hE with rfl | h
      ·exact ⟨HDO.out, by omega, fun h => hnD (hsub _ h)⟩
      ·obtain ⟨e1, e2, e3⟩ := HDS.out E h
       have := heap_lt e1
       exact ⟨(hFo.same E (by omega) e3).trans ((HbX.out.block E this).trans e1), e2, hFo.out (by omega) e3⟩
     ·simp [intOf]; omega
    case stop =>
     intro D O' pre W' hD hnD hFr hp hI hdef
     obtain ⟨Oo, hFo, hsub, hfo⟩ := HFR.out _ _ _ _ hFr hI
     have hFb : Frm O1 O1 wr X := Frm.bel hlt1 HbX.out
     have hall : ∀ E ∈ D :: Ds, W'.heap[E]? = some (.deferred (some [])) ∧ W.heap.size ≤ E ∧ ¬ Oo E := fun E hE => by
      rcases List.mem_cons.1 hE with rfl | h
      ·exact ⟨hdef, by omega, fun h => hnD (hsub _ h)⟩
      ·obtain ⟨e1, e2, e3⟩ := HDS.out E h
       have := heap_lt e1
       exact ⟨(hFo.same E (by omega) e3).trans ((HbX.out.block E this).trans e1), by omega, hFo.out (by omega) e3⟩
     have hpre : (slK (fun g : Gp => ups (cnN g.n)) d.gs g ++ pre.map (fun i => ((g : Int), i))) <+: slK (fun g : Gp => ups (cnN g.n)) d.gs d.gs.length := by
      refine List.IsPrefix.trans ?_ HSP.out
      rw [HSL.out]
      obtain ⟨r, hr⟩ := hp
      exact ⟨r.map (fun i => ((g : Int), i)), by (try dsimp only); rw [← hr]; simp⟩
     have hnd2 : (D :: Ds).Nodup := List.nodup_cons.2 ⟨fun h => by have := heap_lt (HDS.out D h).1; omega, HND.out⟩
     have hFF : Frm O Oo W W' := hF0.trans (HF1.out.trans (hFb.trans hFo))
     have HALL := hidOf hall
     have HPRE := hidOf hpre
     have HND2 := hidOf hnd2
     have HFF := hidOf hFF
     have HFO := hidOf hfo
     clear hall hpre hnd2 hFF hfo hdef
     gi_wp2
     refine leaves_all (fun W' => ∃ O', Frm O O' W W' ∧ fx O' (slK (fun g : Gp => ups (cnN g.n)) d.gs g ++ pre.map (fun i => ((g : Int), i))) W' ∧ ∀ D' ∈ D :: Ds, ¬ O' D') _ (fun _ => results_none rfl _ _ _) (fun W' h => ?_) (D :: Ds) W' HND2.out (fun D hD => (HALL.out D hD).1) (fun W' E hE h => ?_) ⟨Oo, HFF.out, HFO.out, fun E hE => (HALL.out E hE).2.2⟩
     ·obtain ⟨O', h1, h2, _⟩ := h
      exact ⟨⟨_, rfl⟩, O', h1, .inr ⟨_, HPRE.out, h2⟩⟩
     ·obtain ⟨O', h1, h2, h3⟩ := h
      exact ⟨O', h1.put _ (HALL.out E hE).2.1, hfx _ _ _ _ h2 (fun k hk => put_same _ (fun e => h3 E hE (e ▸ hk))) (by rw [put_size]; exact Nat.le_refl _), h3⟩
   ·have hge : g = d.gs.length := by omega
    subst hge
    gi_wp2
    refine leaves_all (fun W' => ∃ O', Frm O O' W W' ∧ f O' (slK (fun g : Gp => ups (cnN g.n)) d.gs d.gs.length) W' ∧ ∀ D ∈ Ds, ¬ O' D) _ (fun _ => results_none rfl _ _ _) (fun W' h => ?_) Ds wr hnd (fun D hD => (hDs D hD).1) (fun W' D hD h => ?_) ⟨O1, hF0.trans hF1, hf1, fun D hD => (hDs D hD).2.2⟩
    ·obtain ⟨O', h1, h2, _⟩ := h
     exact ⟨⟨_, rfl⟩, O', h1, .inl h2⟩
    ·obtain ⟨O', h1, h2, h3⟩ := h
     exact ⟨O', h1.put _ (by have := (hDs D hD).2.1; omega), hf _ _ _ _ h2 (fun k hk => put_same _ (fun e => h3 D hD (e ▸ hk))) (by rw [put_size]; exact Nat.le_refl _), h3⟩
set_option maxRecDepth 100000 in
set_option maxHeartbeats 4000000 in
theorem it43o (n Bj Bi Bo : Nat) (oa : Option Addr) (oc : Nat) (Lo : List Int) (d : Jb) (ga : Option Addr) (gc : Nat) (Q : Nat → Prop) (w : World) (hQ : ∀ k, Q k → k < w.heap.size) (hBj : Q Bj) (hBi : Q Bi) (hBo : Q Bo)
  (hj : w.rangeAt Bj 0 (d.sh ga gc).cs) (hi : w.cell? ⟨Bi, 0, none⟩ = some (.func (.func 64) #[] #[.pointer (some ⟨Bo, 0, none⟩)])) (ho : w.cell? ⟨Bo, 0, none⟩ = some (.slice oa Lo.length oc)) (hL : Fl w Q 1 8 iC oa Lo) (hG : Fl w Q 3 24 Gp.cs ga d.gs) :
  SeqY n 66 #[.pointer (some ⟨Bj, 0, none⟩), .pointer (some ⟨Bi, 0, none⟩)] eS Q (if d.sd = true then [] else slK (fun _ => Lo) d.gs d.gs.length) w := fun l f fx O W hW hf hfx hO hQO hY h0 => by
 have HL := hidOf hL
 clear hL
 have hsb : ∀ b, Q b → W.heap[b]? = w.heap[b]? := fun b hb => hW.block b hb
 have hlt : ∀ b, Q b → b < W.heap.size := fun b hb => Nat.lt_of_lt_of_le (hQ b hb) hW.size
 have hjW := range_of hj (hsb _ hBj)
 have j4 : W.cell? ⟨Bj, 4, none⟩ = some (.slice ga d.gs.length gc) := hjW 4 _ rfl
 have j6 : W.cell? ⟨Bj, 6, none⟩ = some (.bool d.sd) := hjW 6 _ rfl
 have hiW := (World.cell?_of_block (hsb _ hBi)).trans hi
 have lj := hlt _ hBj
 have li := hlt _ hBi
 have hlen : d.gs.length ≤ 140737488355328 := by have := hG.bd; omega
 refine callsIn_of_wp_marks Try.func66 rfl trivial ?_ rfl
 simp only [Try.ntmps66, List.size_toArray, List.length_cons, List.length_nil, Nat.reduceAdd, Nat.reduceSub, Array.replicate_succ, Array.replicate_zero, List.push_toArray, List.append_toArray, List.nil_append, List.cons_append]
 have hb1 : Below W.heap.size W (W.alloc (.cells #[.func (.yield l) #[] #[]] 112)) := below1 _ _
 have hy0 := (Boxed.new W 112 (.func (.yield l) #[] #[])).cell
 cases hsd : d.sd with
 | true =>
  rw [hsd] at j6
  rw [hsd] at hY
  clear hY
  gi_wp2
  refine ⟨_, results_none rfl _ _ _, ⟨_, rfl⟩, O, Frm.bel hO hb1, .inl (hf _ _ _ _ h0 (fun k hk => hb1.block k (hO k hk)) hb1.size)⟩
 | false =>
  rw [hsd] at j6
  rw [hsd] at hY
  simp only [Bool.false_eq_true, if_false] at hY
  have HY := hidOf hY
  have HG := hidOf hG
  clear hY hG
  simp only [Bool.false_eq_true, if_false]
  gi_wp2
  obtain ⟨W0, hW0⟩ : ∃ W0, W.alloc (.cells #[.func (.yield l) #[] #[]] 112) = W0 := ⟨_, rfl⟩
  have hz0 : W0.heap.size = W.heap.size + 1 := by rw [← hW0]; simp
  rw [hW0] at hb1 hy0 ⊢
  obtain ⟨Y, hYY⟩ : ∃ Y, W.heap.size = Y := ⟨_, rfl⟩
  rw [hYY] at hy0 hz0 ⊢
  have hF0 : Frm O O W W0 := Frm.bel hO hb1
  have hf0 : f O [] W0 := hf _ _ _ _ h0 (fun k hk => hb1.block k (hO k hk)) hb1.size
  refine wpIn_loop (fun a' wr => ∃ (g : Nat) (Ds : List Nat) (O1 : Nat → Prop) (u4 u5 u6 u13 u14 u15 u16 u17 u18 u19 u20 u21 u22 u23 u24 u25 u26 u27 : Value), a' = { tmps := #[.func (.yield l) #[] #[], .pointer (some ⟨Bj, 0, none⟩), .pointer (some ⟨Bi, 0, none⟩), .pointer (some ⟨Y, 0, none⟩), u4, u5, u6, .pointer (some ⟨Bj, 6, none⟩), .bool false, .pointer (some ⟨Bj, 4, none⟩), .slice ga d.gs.length gc, .int .i64 d.gs.length, .int .i64 g, u13, u14, u15, u16, u17, u18, u19, u20, u21, u22, u23, u24, u25, u26, u27], defers := Ds.map fun D => { target := .collected D, args := #[] } } ∧ g ≤ d.gs.length ∧ f O1 (slK (fun _ : Gp => Lo) d.gs g) wr ∧ Frm O O1 W0 wr ∧ Ds.Nodup ∧ ∀ D ∈ Ds, wr.heap[D]? = some (.deferred (some [])) ∧ W0.heap.size ≤ D ∧ ¬ O1 D) (fun a' _ => d.gs.length - (intOf (a'.tmps.getD 12 undef)).toNat) ?_ ?_
  ·exact ⟨0, [], O, _, _, _, _, _, _, _, _, _, _, _, _, _, _, _, _, _, _, rfl, Nat.zero_le _, hf0, Frm.refl (fun k hk => hF0.lt k hk), List.nodup_nil, fun D hD => by cases hD⟩
  ·rintro _ wr ⟨g, Ds, O1, u4, u5, u6, u13, u14, u15, u16, u17, u18, u19, u20, u21, u22, u23, u24, u25, u26, u27, rfl, hg, hf1, hF1, hnd, hDs⟩
   have hOY : ¬ O Y := fun h => by have := hO Y h; omega
   have hKr : ∀ b, Q b → wr.heap[b]? = w.heap[b]? := fun b hb => (hF1.same b (by have := hlt b hb; omega) (hQO b hb)).trans ((hb1.block b (hlt b hb)).trans (hsb b hb))
   have hsr : W0.heap.size ≤ wr.heap.size := hF1.size
   have hyr : wr.cell? ⟨Y, 0, none⟩ = some (.func (.yield l) #[] #[]) := (World.cell?_of_block (hF1.same Y (by omega) hOY)).trans hy0
   have hir : wr.cell? ⟨Bi, 0, none⟩ = some (.func (.func 64) #[] #[.pointer (some ⟨Bo, 0, none⟩)]) := (World.cell?_of_block (hKr Bi hBi)).trans hi
   have hlr : Bi < wr.heap.size := by have := hlt _ hBi; omega
   have hor : wr.cell? ⟨Bo, 0, none⟩ = some (.slice oa Lo.length oc) := (World.cell?_of_block (hKr Bo hBo)).trans ho
   have hol : Bo < wr.heap.size := by have := hlt _ hBo; omega
   by_cases hgl : g < d.gs.length
   ·obtain ⟨b, off, ha, hQb, hcc⟩ := HG.out.at g hgl
    have hx := gd3 d.gs g hgl
    have HSL := hidOf (show slK (fun _ : Gp => Lo) d.gs (g + 1) = slK (fun _ : Gp => Lo) d.gs g ++ ((fun _ : Gp => Lo) (d.gs[g]?.getD default)).map (fun i => ((g : Int), i)) from rfl)
    have HSP := hidOf (slK_le (fun _ : Gp => Lo) d.gs (show g + 1 ≤ d.gs.length from hgl))
    rw [hx] at HSL
    obtain ⟨x, hxx⟩ : ∃ x, d.gs[g] = x := ⟨_, rfl⟩
    rw [hxx] at hcc HSL
    subst ha
    have hbl : b < wr.heap.size := by have := hlt b hQb; omega
    have hcr := range_of hcc (hKr b hQb)
    have c0 : wr.cell? ⟨b, off + g * 3, none⟩ = some (.int .i64 x.n) := hcr 0 _ rfl
    have c1 : wr.cell? ⟨b, off + g * 3 + 1, none⟩ = some (.int .i64 x.c) := hcr 1 _ rfl
    have c2 : wr.cell? ⟨b, off + g * 3 + 2, none⟩ = some (.int .i64 x.m) := hcr 2 _ rfl
    clear hxx hx hcc hcr
    have HF1 := hidOf hF1
    have HDS := hidOf hDs
    have Hf1 := hidOf hf1
    have HND := hidOf hnd
    clear hF1 hDs hf1 hnd hf0 h0 HG
    have HKR := hidOf hKr
    gi_wp2
    refine ⟨trivial, fun h => (by cases h), (callsIn_wide.2 (c41 x Bo oa Lo.length oc _ (by simp; omega) ((hb_cell (below2 wr _ _) (by omega)).trans hor))).mono ?_⟩
    rintro e w1 ⟨rfl, rfl⟩
    gi_wp2
    obtain ⟨X, hX⟩ : ∃ X, (((wr.alloc (.cells #[.int .i64 g] 3)).alloc (.cells #[.int .i64 x.n, .int .i64 x.c, .int .i64 x.m] 48)).alloc (.cells #[.int .i64 x.n, .int .i64 x.c, .int .i64 x.m] 48)).alloc (.cells #[.slice oa Lo.length oc] 33) = X := ⟨_, rfl⟩
    have hzX : X.heap.size = wr.heap.size + 4 := by rw [← hX]; simp
    have hbX : Below wr.heap.size wr X := by rw [← hX]; exact ((below2 wr _ _).alloc (by simp; omega) _).alloc (by simp; omega) _
    have hatX : X.cell? ⟨wr.heap.size, 0, none⟩ = some (.int .i64 g) := by rw [← hX]; exact ((((Boxed.new wr 3 (.int .i64 g)).alloc _).alloc _).alloc _).cell
    obtain ⟨Bg, hBg⟩ : ∃ Bg, wr.heap.size + 1 + 1 + 1 = Bg := ⟨_, rfl⟩
    have hBgX : X.cell? ⟨wr.heap.size + 1 + 1 + 1, 0, none⟩ = some (.slice oa Lo.length oc) := by
     have := (Boxed.new (((wr.alloc (.cells #[.int .i64 g] 3)).alloc (.cells #[.int .i64 x.n, .int .i64 x.c, .int .i64 x.m] 48)).alloc (.cells #[.int .i64 x.n, .int .i64 x.c, .int .i64 x.m] 48)) 33 (.slice oa Lo.length oc)).cell
     rw [← hX]; simpa using this
    have hLX : Fl X (fun k => k = Bg ∨ Q k) 1 8 iC oa Lo := HL.out.kept (fun b hb => (hbX.block b (by have := hlt b hb; omega)).trans (HKR.out b hb)) (fun _ h => .inr h)
    rw [hX]
    clear hX
    rw [hBg] at hBgX ⊢
    have hQO1 : ∀ k, Q k → ¬ O1 k := fun k hk => HF1.out.out (by have := hlt k hk; omega) (hQO k hk)
    have hlt1 : ∀ k, O1 k → k < wr.heap.size := HF1.out.lt
    have hKQ : ∀ k, (k = Bg ∨ Q k) → k < X.heap.size := fun k hk => hk.elim (fun h => by omega) (fun h => by have := hlt k h; omega)
    obtain ⟨M, hM⟩ : ∃ M : Nat → Prop, ∀ k, M k ↔ (k < X.heap.size ∧ ¬ O1 k ∧ ¬ (k = Bg ∨ Q k)) := ⟨_, fun _ => Iff.rfl⟩
    obtain ⟨GI, hGI⟩ : ∃ GI : ((Nat → Prop) → List (Int × Int) → World → Prop) → (Nat → Prop) → List Int → World → Prop, ∀ H O' pre W', GI H O' pre W' ↔ ∃ Oo, (∀ k, O' k ↔ Oo k ∨ M k) ∧ (∀ k, Oo k → ¬ M k) ∧ H Oo (slK (fun _ : Gp => Lo) d.gs g ++ pre.map (fun i => ((g : Int), i))) W' ∧ (∀ k, M k → W'.heap[k]? = X.heap[k]?) ∧ X.heap.size ≤ W'.heap.size := ⟨_, fun _ _ _ _ => Iff.rfl⟩
    have hSup : ∀ H, Sup H → Sup (GI H) := fun H hH O' pre A C hs hk hsz => by
     rw [hGI] at hs ⊢
     obtain ⟨Oo, h1, h2, h3, h4, h5⟩ := hs
     exact ⟨Oo, h1, h2, hH _ _ _ _ h3 (fun k hk1 => hk k ((h1 k).2 (.inl hk1))) hsz, fun k hk1 => (hk k ((h1 k).2 (.inr hk1))).trans (h4 k hk1), Nat.le_trans h5 hsz⟩
    have hMY : M Y := (hM Y).2 ⟨by omega, HF1.out.out (by omega) hOY, fun h => h.elim (fun h => by omega) (fun h => by have := hlt Y h; omega)⟩
    have hMa : M wr.heap.size := (hM _).2 ⟨by omega, fun h => by have := hlt1 _ h; omega, fun h => h.elim (fun h => by omega) (fun h => by have := hlt _ h; omega)⟩
    have hML : ∀ k, M k → k < X.heap.size := fun k hk => ((hM k).1 hk).1
    have HSUP := hidOf hSup
    have HM := hidOf hM
    have HGI := hidOf hGI
    have HKR2 := hidOf hKr
    have HbX := hidOf hbX
    have hyX := (hb_cell hbX (o := 0) (show Y < wr.heap.size by omega)).trans hyr
    clear hSup hM hGI hKr hbX c0 c1 c2 hir
    have hfr : ∀ H O' pre W', Frm (fun k => O1 k ∨ M k) O' X W' → GI H O' pre W' → ∃ Oo, Frm O1 Oo X W' ∧ (∀ k, Oo k → O' k) ∧ H Oo (slK (fun _ : Gp => Lo) d.gs g ++ pre.map (fun i => ((g : Int), i))) W' := fun H O' pre W' hF hG => by
     obtain ⟨Oo, h1, h2, h3, h4, h5⟩ := (HGI.out _ _ _ _).1 hG
     refine ⟨Oo, ⟨fun k hk => ?_, fun k hk ho => ?_, h5, fun k hk => hF.lt k ((h1 k).2 (.inl hk)), hF.ex⟩, fun k hk => (h1 k).2 (.inl hk), h3⟩
     ·rcases hF.sub k ((h1 k).2 (.inl hk)) with (h | h) | h
      ·exact .inl h
      ·exact absurd h (h2 k hk)
      ·exact .inr h
     ·by_cases hm : M k
      ·exact h4 k hm
      ·exact hF.same k hk (fun h => h.elim ho hm)
    have HFR := hidOf hfr
    clear hfr
    refine wp_seqY (n := n) (gf := 73) (lb := #[.pointer (some ⟨Bg, 0, none⟩)]) rfl (enters_of Try.func73 (by kernel_rfl) rfl) (encs := fun i : Int => #[.int .i64 i]) (K := fun k => k = Bg ∨ Q k) (S := Lo) (w0 := X) (it46 _ Bg oa oc Lo _ X hKQ (.inl rfl) hBgX hLX) (Kq.refl _ _) (fun _ => rfl)
     (GI f) (GI fx) (HSUP.out f hf) (HSUP.out fx hfx) (fun k => O1 k ∨ M k) (fun k hk => hk.elim (fun h => by have := hlt1 k h; omega) (fun h => hML k h))
     (fun k hk => ⟨fun h => by
      rcases h with h | h
      ·rcases hk with e | e
       ·have := hlt1 k h; omega
       ·exact hQO1 k e h
      ·exact ((HM.out k).1 h).2.2 hk, hKQ k hk⟩)
     ((HGI.out _ _ _ _).2 ⟨O1, fun _ => Iff.rfl, fun k h1 h2 => ((HM.out k).1 h2).2.1 h1, by simp only [List.map_nil, List.append_nil]; exact hf _ _ _ _ Hf1.out (fun k hk => HbX.out.block k (hlt1 k hk)) HbX.out.size, fun _ _ => rfl, Nat.le_refl _⟩)
     ?round ?done ?stop
    case round =>
     intro l' O2 pre y Wr C hlt2 hI2 hp2 hsz2 hC
     gi_wp2
     refine hC _ _ (Below.refl _ _) (fun W2 hsm hs2 hrec hl1 hl2 hnl hF2 hI3 => ?_)
     clear hC hsm hrec
     obtain ⟨Oo, hO2, hdis, hfo, hMk, hsX⟩ := (HGI.out _ _ _ _).1 hI3
     have hy2 : W2.cell? ⟨Y, 0, none⟩ = some (.func (.yield l) #[] #[]) := (World.cell?_of_block (hMk Y hMY)).trans hyX
     have ha2 : W2.cell? ⟨wr.heap.size, 0, none⟩ = some (.int .i64 g) := (World.cell?_of_block (hMk _ hMa)).trans hatX
     have lY : Y < W2.heap.size := by omega
     have la : wr.heap.size < W2.heap.size := by omega
     have hpre : (slK (fun _ : Gp => Lo) d.gs g ++ pre.map (fun i => ((g : Int), i))) ++ [((g : Int), y)] <+: slK (fun _ : Gp => Lo) d.gs d.gs.length := by
      refine List.IsPrefix.trans ?_ HSP.out
      rw [HSL.out, List.append_assoc]
      obtain ⟨r, hr⟩ := hp2
      exact ⟨r.map (fun i => ((g : Int), i)), by (try dsimp only); rw [← hr]; simp⟩
     have hlo : ∀ k, Oo k → k < W2.heap.size := fun k hk => by have := hlt2 k ((hO2 k).2 (.inl hk)); omega
     have hFo2 : Frm O1 Oo X W2 := ⟨fun k hk => by
       rcases hF2.sub k ((hO2 k).2 (.inl hk)) with (h | h) | h
       ·exact .inl h
       ·exact absurd h (hdis k hk)
       ·exact .inr h,
      fun k hk ho => by
       by_cases hm : M k
       ·exact hMk k hm
       ·exact hF2.same k hk (fun h => h.elim ho hm),
      hsX, fun k hk => hF2.lt k ((hO2 k).2 (.inl hk)), hF2.ex⟩
     obtain ⟨fn, tmps, assign, body, hy, hR⟩ := HY.out Oo _ ((g : Int), y) W2 hfo hlo (hF0.trans (HF1.out.trans ((Frm.bel hlt1 HbX.out).trans hFo2))) hpre
     clear hFo2 hF2
     dsimp only [eS] at hy
     have fin : ∀ (O3 : Nat → Prop) (W3 : World) (H : (Nat → Prop) → List (Int × Int) → World → Prop), Frm Oo O3 W2 W3 → H O3 ((slK (fun _ : Gp => Lo) d.gs g ++ pre.map (fun i => ((g : Int), i))) ++ [((g : Int), y)]) W3 → ∃ O', Frm O2 O' W2 W3 ∧ GI H O' (pre ++ [y]) W3 := fun O3 W3 H hF3 h3 => by
      have hs3 := hF3.size
      have hMO : ∀ k, M k → ¬ O3 k := fun k hk => hF3.out (by have := hML k hk; omega) (fun h => hdis k h hk)
      refine ⟨fun k => O3 k ∨ M k, ⟨fun k hk => ?_, fun k hk ho => hF3.same k hk (fun h => ho ((hO2 k).2 (.inl h))), hF3.size, fun k hk => ?_, hF3.ex⟩, (HGI.out _ _ _ _).2 ⟨O3, fun _ => Iff.rfl, fun k h1 h2 => hMO k h2 h1, by rw [List.map_append, ← List.append_assoc]; exact h3, fun k hk => (hF3.same k (by have := hML k hk; omega) (fun h => hdis k h hk)).trans (hMk k hk), by omega⟩⟩
      ·rcases hk with h | h
       ·rcases hF3.sub k h with h | h
        ·exact .inl ((hO2 k).2 (.inl h))
        ·exact .inr h
       ·exact .inl ((hO2 k).2 (.inr h))
      ·rcases hk with h | h
       ·exact hF3.lt k h
       ·have := hML k h; omega
     have HFIN := hidOf fin
     clear fin hpre hlo hfo hMk hdis hO2 hI3 hI2 hlt2
     gi_wp2
     refine ⟨fun h => (by cases h), (roundIn_any hR).mono ?_⟩
     rintro e W3 ⟨O3, hF3, (⟨rfl, hf3⟩ | ⟨rfl, hx3⟩)⟩
     ·gi_wp2
      exact HFIN.out O3 W3 _ hF3 hf3
     ·gi_wp2
      exact HFIN.out O3 W3 _ hF3 hx3
    case done =>
     intro D O' W' hD hnD hFr hI hdef
     obtain ⟨Oo, hFo, hsub, hfo⟩ := HFR.out _ _ _ _ hFr hI
     have hFb : Frm O1 O1 wr X := Frm.bel hlt1 HbX.out
     have HDO := hidOf hdef
     clear hdef
     gi_wp2
     have he1 : (Value.int .i64 ((g : Int) + 1)) = .int .i64 ((g + 1 : Nat) : Int) := by simp
     refine ⟨⟨g + 1, D :: Ds, Oo, _, _, _, _, _, _, _, _, _, _, _, _, _, _, _, _, _, _, by rw [he1]; rfl, hgl, by rw [HSL.out]; exact hfo, HF1.out.trans (hFb.trans hFo), ?_, fun E hE => ?_⟩, ?_⟩
     ·refine List.nodup_cons.2 ⟨fun h => ?_, HND.out⟩
      have := heap_lt (HDS.out D h).1
      omega
     ·rcases List.mem_cons.1 hE with rfl | h
      ·exact ⟨HDO.out, by omega, fun h => hnD (hsub _ h)⟩
      ·obtain ⟨e1, e2, e3⟩ := HDS.out E h
       have := heap_lt e1
       exact ⟨(hFo.same E (by omega) e3).trans ((HbX.out.block E this).trans e1), e2, hFo.out (by omega) e3⟩
     ·simp [intOf]; omega
    case stop =>
     intro D O' pre W' hD hnD hFr hp hI hdef
     obtain ⟨Oo, hFo, hsub, hfo⟩ := HFR.out _ _ _ _ hFr hI
     have hFb : Frm O1 O1 wr X := Frm.bel hlt1 HbX.out
     have hall : ∀ E ∈ D :: Ds, W'.heap[E]? = some (.deferred (some [])) ∧ W.heap.size ≤ E ∧ ¬ Oo E := fun E hE => by
      rcases List.mem_cons.1 hE with rfl | h
      ·exact ⟨hdef, by omega, fun h => hnD (hsub _ h)⟩
      ·obtain ⟨e1, e2, e3⟩ := HDS.out E h
       have := heap_lt e1
       exact ⟨(hFo.same E (by omega) e3).trans ((HbX.out.block E this).trans e1), by omega, hFo.out (by omega) e3⟩
     have hpre : (slK (fun _ : Gp => Lo) d.gs g ++ pre.map (fun i => ((g : Int), i))) <+: slK (fun _ : Gp => Lo) d.gs d.gs.length := by
      refine List.IsPrefix.trans ?_ HSP.out
      rw [HSL.out]
      obtain ⟨r, hr⟩ := hp
      exact ⟨r.map (fun i => ((g : Int), i)), by (try dsimp only); rw [← hr]; simp⟩
     have hnd2 : (D :: Ds).Nodup := List.nodup_cons.2 ⟨fun h => by have := heap_lt (HDS.out D h).1; omega, HND.out⟩
     have hFF : Frm O Oo W W' := hF0.trans (HF1.out.trans (hFb.trans hFo))
     have HALL := hidOf hall
     have HPRE := hidOf hpre
     have HND2 := hidOf hnd2
     have HFF := hidOf hFF
     have HFO := hidOf hfo
     clear hall hpre hnd2 hFF hfo hdef
     gi_wp2
     refine leaves_all (fun W' => ∃ O', Frm O O' W W' ∧ fx O' (slK (fun _ : Gp => Lo) d.gs g ++ pre.map (fun i => ((g : Int), i))) W' ∧ ∀ D' ∈ D :: Ds, ¬ O' D') _ (fun _ => results_none rfl _ _ _) (fun W' h => ?_) (D :: Ds) W' HND2.out (fun D hD => (HALL.out D hD).1) (fun W' E hE h => ?_) ⟨Oo, HFF.out, HFO.out, fun E hE => (HALL.out E hE).2.2⟩
     ·obtain ⟨O', h1, h2, _⟩ := h
      exact ⟨⟨_, rfl⟩, O', h1, .inr ⟨_, HPRE.out, h2⟩⟩
     ·obtain ⟨O', h1, h2, h3⟩ := h
      exact ⟨O', h1.put _ (HALL.out E hE).2.1, hfx _ _ _ _ h2 (fun k hk => put_same _ (fun e => h3 E hE (e ▸ hk))) (by rw [put_size]; exact Nat.le_refl _), h3⟩
   ·have hge : g = d.gs.length := by omega
    subst hge
    gi_wp2
    refine leaves_all (fun W' => ∃ O', Frm O O' W W' ∧ f O' (slK (fun _ : Gp => Lo) d.gs d.gs.length) W' ∧ ∀ D ∈ Ds, ¬ O' D) _ (fun _ => results_none rfl _ _ _) (fun W' h => ?_) Ds wr hnd (fun D hD => (hDs D hD).1) (fun W' D hD h => ?_) ⟨O1, hF0.trans hF1, hf1, fun D hD => (hDs D hD).2.2⟩
    ·obtain ⟨O', h1, h2, _⟩ := h
     exact ⟨⟨_, rfl⟩, O', h1, .inl h2⟩
    ·obtain ⟨O', h1, h2, h3⟩ := h
     exact ⟨O', h1.put _ (by have := (hDs D hD).2.1; omega), hf _ _ _ _ h2 (fun k hk => put_same _ (fun e => h3 D hD (e ▸ hk))) (by rw [put_size]; exact Nat.le_refl _), h3⟩
end Go.Proofs.Ytblofbdncolikaa
