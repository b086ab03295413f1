/- renew. -/
import Derived.Test.YtkienmncifonnaaDoorRu
import Derived.Test.YtkienmncifonnaaDoorAx
namespace Go.Proofs.YtkienmncifonnaaDoor
open Go.RowKit Go.Maps
variable {D : Nat} {w w' : World} {p : Nat} {s : Sg} {n c pd : Nat} {mv : Value} {G : Nat → Prop}

theorem AgR.moreN (h : AgR D w p s n c pd mv G) {N : Nat} (hN : n ≤ N) : AgR D w p s N c pd mv G := by
  refine ⟨h.b, ?_, h.k, h.hp, h.hG, h.hm, h.np⟩
  rcases h.t with e | ⟨b, D0, e, h1, h2⟩
  · exact .inl e
  · exact .inr ⟨b, D0, e, World.ownsMap.mono h1 hN, h2⟩
theorem AgS.moreN (h : AgS D w p s n c) {N : Nat} (hN : n ≤ N) : AgS D w p s N c := by
  obtain ⟨pd, mv, G, h⟩ := h
  exact ⟨pd, mv, G, h.moreN hN⟩
theorem AgS.moreC (h : AgS D w p s n c) {c' : Nat} (hc : c ≤ c') (hc2 : c' ≤ 4398046511104) : AgS D w p s n c' := by
  obtain ⟨pd, mv, G, h⟩ := h
  exact ⟨pd, mv, G, h.more hc hc2⟩
def rwA (a : Ag) (b : Int) : Ag := { tkA a b with le := max a.le (tkV a b + 8) }
def rwS (s : Sg) (b : Int) (L : List Al) : Sg :=
  if tkB s.a b = true then (if s.a.ck ≤ max s.a.le (tkV s.a b + 8) then { s with a := rwA s.a b, T := runT s.T s.a.id s.a.ep L } else { s with a := rwA s.a b }) else s
theorem tkA_else (a : Ag) (b : Int) : (tkA a b).le = a.le ∧ (tkA a b).ck = a.ck ∧ (tkA a b).id = a.id ∧ (tkA a b).ep = a.ep := by unfold tkA; split <;> exact ⟨rfl, rfl, rfl, rfl⟩
set_option maxHeartbeats 4000000 in
set_option maxRecDepth 100000 in
theorem renew_any (b : Int) (L : List Al) (la : Option Addr) (lc N : Nat) (h : AgS D w p s n c) (hL : RdR D 67 11 alC w la L) (hll : L.length ≤ 1099511627776) (hwfL : ∀ x ∈ L, wf64 x.id) (hN : n ≤ N) (hLN : L.length ≤ N)
    (h1 : 0 ≤ s.a.bs ∧ s.a.bs ≤ 1099511627776) (h2 : 0 ≤ s.a.tk) (h3 : 0 ≤ tkV s.a b ∧ tkV s.a b ≤ 1099511627776) :
    Calls Tryd.prog 25 #[.pointer (some ⟨p, 0, none⟩), .int .i64 b, .slice la L.length lc] w fun e w' => e = .returned (.tuple #[]) ∧ AgS D w' p (rwS s b L) N c ∧ FrA D w w' := by
  have HT := hidOf (take_any h b h1 h2)
  have hD : D ≤ w.heap.size := by
    obtain ⟨pd, mv, G, h⟩ := h
    exact Nat.le_trans h.hp (Nat.le_of_lt h.b.lt)
  have HD := hidOf hD
  have HL := hidOf hL
  have hlp : p < w.heap.size := by obtain ⟨pd, mv, G, h⟩ := h; exact h.b.lt
  have HR := fun W (hW : AgS D W p { s with a := rwA s.a b } n c) (hr : RdR D 67 11 alC W la L) => run_any L la lc hW hr hll hwfL
  have HR := hidOf HR
  obtain ⟨v, hv⟩ : ∃ v, v = tkV s.a b := ⟨_, rfl⟩
  obtain ⟨y, hy⟩ : ∃ y, y = tkB s.a b := ⟨_, rfl⟩
  obtain ⟨r, hr⟩ : ∃ r, r = rwS s b L := ⟨_, rfl⟩
  have HV := hidOf hv
  have HY := hidOf hy
  have HRS := hidOf hr
  rw [← hv] at h3
  rw [← hv, ← hy] at HT
  rw [← hr]
  obtain ⟨h30, h31⟩ := h3
  clear h hL hv hy hr hD h1
  cases y with
  | false =>
    have er : r = s := by rw [HRS.out]; unfold rwS; rw [← HY.out]; rfl
    have ea : tkA s.a b = s.a := by unfold tkA; rw [← HY.out]; rfl
    subst er
    rw [ea] at HT
    go_enter Tryd.func25, Tryd.ntmps25
    go_wp2_with (go_at_call 36; refine HT.out.mono ?_; rintro e w1 ⟨rfl, ha, hf⟩; have HA := hidOf ha; have HF := hidOf hf; clear ha hf)
    (try simp only [Exit.inBlock, Exit.then]); refine bodyPost_ret (results_none rfl _ _ _) rfl ?_
    exact ⟨rfl, HA.out.moreN hN, HF.out⟩
  | true =>
    obtain ⟨m, hm⟩ : ∃ m, m = max s.a.le (v + 8) := ⟨_, rfl⟩
    by_cases hck : s.a.ck ≤ m
    · have er : r = { s with a := rwA s.a b, T := runT s.T s.a.id s.a.ep L } := by rw [HRS.out]; unfold rwS; rw [← HY.out, ← HV.out, ← hm, if_pos rfl, if_pos hck]
      have ei : (rwA s.a b).id = s.a.id ∧ (rwA s.a b).ep = s.a.ep := ⟨by unfold rwA; exact (tkA_else _ _).2.2.1, by unfold rwA; exact (tkA_else _ _).2.2.2⟩
      have er2 : r = { ({ s with a := rwA s.a b } : Sg) with T := runT ({ s with a := rwA s.a b } : Sg).T ({ s with a := rwA s.a b } : Sg).a.id ({ s with a := rwA s.a b } : Sg).a.ep L } := by rw [er]; show _ = Sg.mk _ (runT s.T (rwA s.a b).id (rwA s.a b).ep L) _ _ _ _; rw [ei.1, ei.2]
      rw [er2]
      clear er er2 ei
      go_enter Tryd.func25, Tryd.ntmps25
      go_wp2_with (go_at_call 36; refine HT.out.mono ?_; rintro e w1 ⟨rfl, ha, hf⟩; obtain ⟨pd, mv, G, hg⟩ := ha; have HA := hidOf hg; have HF := hidOf hf; have lp1 := hg.b.lt; have c10 : w1.cell? ⟨p, 10, none⟩ = some (.int .i64 s.a.le) := (hg.b.at_ 10).trans (by show some (Value.int .i64 (tkA s.a b).le) = _; rw [(tkA_else _ _).1]); have c6 : w1.cell? ⟨p, 6, none⟩ = some (.int .i64 s.a.ck) := (hg.b.at_ 6).trans (by show some (Value.int .i64 (tkA s.a b).ck) = _; rw [(tkA_else _ _).2.1]); have f10 := hg.b.fr 10; have HK := hidOf (hg.set1 (a' := rwA s.a b) 10 (.int .i64 (max s.a.le (v + 8))) (by unfold rwA; rw [← HV.out]; rfl)); clear hg hf)
      have HF2 := hidOf (HF.out.trans (FrA.setp HA.out.b HA.out.hp 10 (.int .i64 (max s.a.le (v + 8)))))
      have HM := hidOf hm
      rw [← hm] at HK HF2 ⊢
      obtain ⟨W, hW⟩ : ∃ y, y = w1.setCell ⟨p, 10, none⟩ (.int .i64 m) := ⟨_, rfl⟩
      rw [← hW] at HK HF2 ⊢
      have d10 : W.cell? ⟨p, 10, none⟩ = some (.int .i64 m) := (HK.out.b.at_ 10).trans (by show some (Value.int .i64 (rwA s.a b).le) = _; unfold rwA; rw [← HV.out, ← HM.out])
      have d6 : W.cell? ⟨p, 6, none⟩ = some (.int .i64 s.a.ck) := (HK.out.b.at_ 6).trans (by show some (Value.int .i64 (rwA s.a b).ck) = _; unfold rwA; show some (Value.int .i64 (tkA s.a b).ck) = _; rw [(tkA_else _ _).2.1])
      have lpW := HK.out.b.lt
      have HKd := hidOf (HK.out.below (w' := W.drew) ⟨rfl, rfl, rfl, Nat.le_refl _, fun _ _ => rfl⟩)
      have HFd := hidOf (HF2.out.trans (FrA.of_below (w' := W.drew) ⟨rfl, rfl, rfl, Nat.le_refl _, fun _ _ => rfl⟩))
      have HLd := hidOf (HL.out.keepB HFd.out.size (fun k hk hk2 => HFd.out.block k _ (Array.getElem?_eq_getElem hk2) (.inr hk)) (fun k cs hk => HFd.out.block k _ hk (.inl (by simp [okA]))))
      clear hW hm c10 c6 f10 lp1
      go_region
      go_wp2_with (go_at_call 37; refine (HR.out _ ⟨pd, mv, G, HKd.out⟩ HLd.out).mono ?_; rintro e w4 ⟨rfl, ha4, hf4⟩; have HA4 := hidOf ha4; have HF4 := hidOf hf4; clear ha4 hf4)
      go_end0
      exact ⟨rfl, HA4.out.moreN hLN, HFd.out.trans HF4.out⟩
    · have er : r = { s with a := rwA s.a b } := by rw [HRS.out]; unfold rwS; rw [← HY.out, ← HV.out, ← hm, if_pos rfl, if_neg hck]
      subst er
      go_enter Tryd.func25, Tryd.ntmps25
      go_wp2_with (go_at_call 36; refine HT.out.mono ?_; rintro e w1 ⟨rfl, ha, hf⟩; obtain ⟨pd, mv, G, hg⟩ := ha; have HA := hidOf hg; have HF := hidOf hf; have lp1 := hg.b.lt; have c10 : w1.cell? ⟨p, 10, none⟩ = some (.int .i64 s.a.le) := (hg.b.at_ 10).trans (by show some (Value.int .i64 (tkA s.a b).le) = _; rw [(tkA_else _ _).1]); have c6 : w1.cell? ⟨p, 6, none⟩ = some (.int .i64 s.a.ck) := (hg.b.at_ 6).trans (by show some (Value.int .i64 (tkA s.a b).ck) = _; rw [(tkA_else _ _).2.1]); have f10 := hg.b.fr 10; have HK := hidOf (hg.set1 (a' := rwA s.a b) 10 (.int .i64 (max s.a.le (v + 8))) (by unfold rwA; rw [← HV.out]; rfl)); clear hg hf)
      have HF2 := hidOf (HF.out.trans (FrA.setp HA.out.b HA.out.hp 10 (.int .i64 (max s.a.le (v + 8)))))
      have HM := hidOf hm
      rw [← hm] at HK HF2 ⊢
      obtain ⟨W, hW⟩ : ∃ y, y = w1.setCell ⟨p, 10, none⟩ (.int .i64 m) := ⟨_, rfl⟩
      rw [← hW] at HK HF2 ⊢
      have d10 : W.cell? ⟨p, 10, none⟩ = some (.int .i64 m) := (HK.out.b.at_ 10).trans (by show some (Value.int .i64 (rwA s.a b).le) = _; unfold rwA; rw [← HV.out, ← HM.out])
      have d6 : W.cell? ⟨p, 6, none⟩ = some (.int .i64 s.a.ck) := (HK.out.b.at_ 6).trans (by show some (Value.int .i64 (rwA s.a b).ck) = _; unfold rwA; show some (Value.int .i64 (tkA s.a b).ck) = _; rw [(tkA_else _ _).2.1])
      have lpW := HK.out.b.lt
      have HKd := hidOf (HK.out.below (w' := W.drew) ⟨rfl, rfl, rfl, Nat.le_refl _, fun _ _ => rfl⟩)
      have HFd := hidOf (HF2.out.trans (FrA.of_below (w' := W.drew) ⟨rfl, rfl, rfl, Nat.le_refl _, fun _ _ => rfl⟩))
      have HLd := hidOf (HL.out.keepB HFd.out.size (fun k hk hk2 => HFd.out.block k _ (Array.getElem?_eq_getElem hk2) (.inr hk)) (fun k cs hk => HFd.out.block k _ hk (.inl (by simp [okA]))))
      clear hW hm c10 c6 f10 lp1
      go_region
      go_wp2
      go_end0
      exact ⟨rfl, ⟨pd, mv, G, HKd.out.moreN hN⟩, HFd.out⟩
end Go.Proofs.YtkienmncifonnaaDoor
