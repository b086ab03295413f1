/- giveUp, keepUp, server. -/
import Derived.Test.YtkienmncifonnaaDoorAv
namespace Go.Proofs.YtkienmncifonnaaDoor
open Go.RowKit Go.Maps Go.Lib
variable {D : Nat} {w w' : World} {p : Nat} {s : Sg} {n c pd : Nat} {mv : Value} {G : Nat → Prop}

def gvS (s : Sg) : Sg := begS { s with a := { s.a with bt := 0, ep := 0 }, T := tk0 }
def gvE (s : Sg) : Int := begE s
set_option maxHeartbeats 2000000 in
set_option maxRecDepth 100000 in
theorem giveUp_any (h : AgS D w p s n c) (ht : Tb D w) (hf : s.f ≤ 1099511627776) (hc : c + 1 ≤ 2199023255552) :
    Calls Tryd.prog 24 #[.pointer (some ⟨p, 0, none⟩)] w fun e w' => e = .returned (.int .i64 (gvE s)) ∧ AgS D w' p (gvS s) n (c + 1) ∧ FrA D w w' := by
  obtain ⟨pd, mv, G, h⟩ := h
  have hD : D ≤ w.heap.size := Nat.le_trans h.hp (Nat.le_of_lt h.b.lt)
  have h1 := h.set1 (a' := { s.a with bt := 0 }) 5 (.int .i64 0) rfl
  have h2 := h1.set1 (a' := { s.a with bt := 0, ep := 0 }) 9 (.int .i64 0) rfl
  have h3 := h2.set (s' := { s with a := { s.a with bt := 0, ep := 0 }, T := tk0 }) (mv' := .map none) (n' := n) 21 (.map none) rfl ⟨rfl, rfl, rfl, rfl⟩ (.inl ⟨rfl, rfl⟩) (fun b e => by cases e)
  have hfr := ((FrA.setp (D := D) h.b h.hp 5 (.int .i64 0)).trans (FrA.setp h1.b h1.hp 9 (.int .i64 0))).trans (FrA.setp h2.b h2.hp 21 (.map none))
  have HC := hidOf (begin_any ⟨pd, .map none, G, h3⟩ (ht.below (hfr.below hD)) hf hc)
  have HF := hidOf hfr
  have lp := h.b.lt
  have f5 := h.b.fr 5
  have f9 := h.b.fr 9
  have f21 := h.b.fr 21
  have c5 : w.cell? ⟨p, 5, none⟩ = some (.int .i64 s.a.bt) := h.b.at_ 5
  have c9 : w.cell? ⟨p, 9, none⟩ = some (.int .i64 s.a.ep) := h.b.at_ 9
  have c21 : w.cell? ⟨p, 21, none⟩ = some mv := h.b.at_ 21
  clear h h1 h2 h3 hfr ht
  go_enter Tryd.func24, Tryd.ntmps24
  go_wp2_with (go_at_call 18; refine HC.out.mono ?_; rintro e w1 ⟨rfl, h1, h2⟩)
  go_ret
  exact ⟨rfl, h1, HF.out.trans h2⟩
def kuB (s : Sg) : Bool := decide (s.a.ep ≠ 0) && decide (s.a.le < s.a.ck)
def kuS (s : Sg) : Sg := if kuB s then gvS s else if s.a.bt = 0 then begS s else s
def kuE (s : Sg) : Int := if kuB s then gvE s else if s.a.bt = 0 then begE s else 0
set_option maxHeartbeats 2000000 in
set_option maxRecDepth 100000 in
theorem keepUp_any (h : AgS D w p s n c) (ht : Tb D w) (hf : s.f ≤ 1099511627776) (hc : c + 1 ≤ 2199023255552) :
    Calls Tryd.prog 19 #[.pointer (some ⟨p, 0, none⟩)] w fun e w' => e = .returned (.int .i64 (kuE s)) ∧ AgS D w' p (kuS s) n (c + 1) ∧ FrA D w w' := by
  have HG := hidOf (fun W (hW : AgS D W p s n c) (hT : Tb D W) => giveUp_any hW hT hf hc)
  have HB := hidOf (fun W (hW : AgS D W p s n c) (hT : Tb D W) => begin_any hW hT hf hc)
  have HH := hidOf h
  obtain ⟨pd, mv, G, h⟩ := h
  have hD : D ≤ w.heap.size := Nat.le_trans h.hp (Nat.le_of_lt h.b.lt)
  have lp := h.b.lt
  have c5 : w.cell? ⟨p, 5, none⟩ = some (.int .i64 s.a.bt) := h.b.at_ 5
  have c6 : w.cell? ⟨p, 6, none⟩ = some (.int .i64 s.a.ck) := h.b.at_ 6
  have c9 : w.cell? ⟨p, 9, none⟩ = some (.int .i64 s.a.ep) := h.b.at_ 9
  have c10 : w.cell? ⟨p, 10, none⟩ = some (.int .i64 s.a.le) := h.b.at_ 10
  have HT : Hid (Tb D w.drew) := hidOf (ht.below ⟨rfl, rfl, rfl, Nat.le_refl _, fun _ _ => rfl⟩)
  have HK : Hid (AgS D w.drew p s n c) := hidOf (HH.out.keepA (.below ⟨rfl, rfl, rfl, Nat.le_refl _, fun _ _ => rfl⟩))
  have HX : Hid (FrA D w w.drew) := hidOf (.of_below ⟨rfl, rfl, rfl, Nat.le_refl _, fun _ _ => rfl⟩)
  have HM : Hid (AgS D w.drew p s n (c + 1)) := hidOf (by
    obtain ⟨pd, mv, G, h⟩ := HK.out
    exact ⟨pd, mv, G, h.more (Nat.le_succ c) (by omega)⟩)
  have bne0 : (s.a.ep != 0) = decide (s.a.ep ≠ 0) := by by_cases e : s.a.ep = 0 <;> simp [e]
  obtain ⟨x, hx⟩ : ∃ x, x = kuS s := ⟨_, rfl⟩
  obtain ⟨y, hy⟩ : ∃ y, y = kuE s := ⟨_, rfl⟩
  have hx' := hidOf hx
  have hy' := hidOf hy
  rw [← hx, ← hy]
  clear hx hy h ht
  by_cases h1 : s.a.ep = 0
  · have e0 : decide (s.a.ep ≠ 0) = false := by simp [h1]
    rw [e0] at bne0
    have hz : (s.a.ep == 0) = true := by simp [h1]
    by_cases h3 : s.a.bt = 0
    · have ex : x = begS s := by rw [hx'.out]; unfold kuS; rw [if_neg (by simp [kuB, h1]), if_pos h3]
      have ey : y = begE s := by rw [hy'.out]; unfold kuE; rw [if_neg (by simp [kuB, h1]), if_pos h3]
      have h3z : (s.a.bt == 0) = true := by simp [h3]
      rw [ex, ey]
      clear h1 h3 ex ey hx' hy'
      go_enter Tryd.func19, Tryd.ntmps19
      go_wp2
      go_region
      go_wp2_with (go_at_call 18; refine (HB.out _ HK.out HT.out).mono ?_; rintro e w1 ⟨rfl, h1, h2⟩)
      go_ret
      exact ⟨rfl, h1, HX.out.trans h2⟩
    · have ex : x = s := by rw [hx'.out]; unfold kuS; rw [if_neg (by simp [kuB, h1]), if_neg h3]
      have ey : y = 0 := by rw [hy'.out]; unfold kuE; rw [if_neg (by simp [kuB, h1]), if_neg h3]
      have h3z : (s.a.bt == 0) = false := by simp [h3]
      rw [ex, ey]
      clear h1 h3 ex ey hx' hy'
      go_enter Tryd.func19, Tryd.ntmps19
      go_wp2
      go_region
      go_wp2
      go_ret
      exact ⟨rfl, HM.out, HX.out⟩
  · have e0 : decide (s.a.ep ≠ 0) = true := by simp [h1]
    rw [e0] at bne0
    by_cases h2 : s.a.le < s.a.ck
    · have ex : x = gvS s := by rw [hx'.out]; unfold kuS; rw [if_pos (by simp [kuB, h1, h2])]
      have ey : y = gvE s := by rw [hy'.out]; unfold kuE; rw [if_pos (by simp [kuB, h1, h2])]
      rw [ex, ey]
      clear h1 ex ey hx' hy'
      go_enter Tryd.func19, Tryd.ntmps19
      go_wp2
      go_region
      go_wp2_with (go_at_call 24; refine (HG.out _ HK.out HT.out).mono ?_; rintro e w1 ⟨rfl, h1, h2⟩)
      go_ret
      exact ⟨rfl, h1, HX.out.trans h2⟩
    · by_cases h3 : s.a.bt = 0
      · have ex : x = begS s := by rw [hx'.out]; unfold kuS; rw [if_neg (by simp [kuB, h2]), if_pos h3]
        have ey : y = begE s := by rw [hy'.out]; unfold kuE; rw [if_neg (by simp [kuB, h2]), if_pos h3]
        have h3z : (s.a.bt == 0) = true := by simp [h3]
        rw [ex, ey]
        clear h1 h3 ex ey hx' hy'
        go_enter Tryd.func19, Tryd.ntmps19
        go_wp2
        go_region
        go_wp2_with (go_at_call 18; refine (HB.out _ HK.out HT.out).mono ?_; rintro e w1 ⟨rfl, h1, h2⟩)
        go_ret
        exact ⟨rfl, h1, HX.out.trans h2⟩
      · have ex : x = s := by rw [hx'.out]; unfold kuS; rw [if_neg (by simp [kuB, h2]), if_neg h3]
        have ey : y = 0 := by rw [hy'.out]; unfold kuE; rw [if_neg (by simp [kuB, h2]), if_neg h3]
        have h3z : (s.a.bt == 0) = false := by simp [h3]
        rw [ex, ey]
        clear h1 h3 ex ey hx' hy'
        go_enter Tryd.func19, Tryd.ntmps19
        go_wp2
        go_region
        go_wp2
        go_ret
        exact ⟨rfl, HM.out, HX.out⟩
def srT (a : Ag) : Int := if 1 ≤ a.hi ∧ a.hi ≤ a.sv then a.hi else a.sn % a.sv + 1
def srA (a : Ag) : Ag := { a with hi := 0, sn := a.sn + 1 }
set_option maxHeartbeats 2000000 in
set_option maxRecDepth 100000 in
theorem server_any (h : AgS D w p s n c) (h1 : 1 ≤ s.a.sv ∧ s.a.sv ≤ 5) (h2 : 0 ≤ s.a.sn ∧ s.a.sn ≤ 1099511627776) :
    Calls Tryd.prog 31 #[.pointer (some ⟨p, 0, none⟩)] w fun e w' => e = .returned (.int .i64 (srT s.a)) ∧ AgS D w' p { s with a := srA s.a } n c ∧ FrA D w w' := by
  obtain ⟨pd, mv, G, h⟩ := h
  have lp := h.b.lt
  have c3 : w.cell? ⟨p, 3, none⟩ = some (.int .i64 s.a.sv) := h.b.at_ 3
  have c7 : w.cell? ⟨p, 7, none⟩ = some (.int .i64 s.a.sn) := h.b.at_ 7
  have c8 : w.cell? ⟨p, 8, none⟩ = some (.int .i64 s.a.hi) := h.b.at_ 8
  have f7 := h.b.fr 7
  have f8 := h.b.fr 8
  have q : AgR D w.drew.drew p s n c pd mv G := h.below ⟨rfl, rfl, rfl, Nat.le_refl _, fun _ _ => rfl⟩
  have k1 := q.set1 (a' := { s.a with hi := 0 }) 8 (.int .i64 0) rfl
  have k2 := k1.set1 (a' := srA s.a) 7 (.int .i64 (s.a.sn + 1)) rfl
  have hfr := ((FrA.of_below (D := D) (w := w) (w' := w.drew.drew) ⟨rfl, rfl, rfl, Nat.le_refl _, fun _ _ => rfl⟩).trans (FrA.setp q.b q.hp 8 (.int .i64 0))).trans (FrA.setp k1.b k1.hp 7 (.int .i64 (s.a.sn + 1)))
  have K2 := hidOf k2
  have HF := hidOf hfr
  obtain ⟨x, hx⟩ : ∃ x, x = srT s.a := ⟨_, rfl⟩
  have HX := hidOf hx
  have hm0 : 0 ≤ s.a.sn % s.a.sv := Int.emod_nonneg _ (by omega)
  have hm1 : s.a.sn % s.a.sv < 5 := Int.lt_of_lt_of_le (Int.emod_lt_of_pos _ (by omega)) h1.2
  have hr2 : IntKind.i64.wrap (s.a.sn + 1) = s.a.sn + 1 := IntWalk.i64_in _ (by omega)
  obtain ⟨hs1, hs2⟩ := h1
  obtain ⟨hn1, hn2⟩ := h2
  have hs0 : s.a.sv ≠ 0 := by omega
  rw [← hx]
  clear hx h q k1 k2 hfr
  by_cases e1 : 1 ≤ s.a.hi
  · by_cases e2 : s.a.hi ≤ s.a.sv
    · have ex : x = s.a.hi := by rw [HX.out]; unfold srT; rw [if_pos ⟨e1, e2⟩]
      rw [ex]
      clear ex
      go_enter Tryd.func31, Tryd.ntmps31
      go_wp2
      go_region
      go_wp2
      go_region
      go_wp2
      go_ret
      exact ⟨rfl, ⟨pd, mv, G, K2.out⟩, HF.out⟩
    · have ex : x = s.a.sn % s.a.sv + 1 := by rw [HX.out]; unfold srT; rw [if_neg (by omega)]
      rw [ex]
      clear ex
      go_enter Tryd.func31, Tryd.ntmps31
      go_wp2
      go_region
      go_wp2
      go_region
      go_wp2
      go_ret
      exact ⟨rfl, ⟨pd, mv, G, K2.out⟩, HF.out⟩
  · have ex : x = s.a.sn % s.a.sv + 1 := by rw [HX.out]; unfold srT; rw [if_neg (by omega)]
    rw [ex]
    have e1' : decide (1 ≤ s.a.hi) = false := by simpa using e1
    clear ex
    go_enter Tryd.func31, Tryd.ntmps31
    go_wp2
    go_region
    go_wp2
    go_region
    go_wp2
    go_ret
    exact ⟨rfl, ⟨pd, mv, G, K2.out⟩, HF.out⟩
end Go.Proofs.YtkienmncifonnaaDoor
