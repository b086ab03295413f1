/- Take. -/
import Derived.Test.YtkienmncifonnaaDoorMs
namespace Go.Proofs.YtkienmncifonnaaDoor
open Go.RowKit Go.Maps
variable {D : Nat} {w w' : World} {p : Nat} {s : Sg} {n c pd : Nat} {mv : Value} {G : Nat → Prop}

def tkP (s : Sg) (m : Ms) : Bool := decide (m.kd = 10) && decide (m.to = 100 + s.a.id) && decide (s.a.bt ≠ 0)
def tk2 (s : Sg) (m : Ms) : Sg := { s with a := { s.a with hi := m.hi } }
def tkeS (s : Sg) (m : Ms) : Sg :=
  if tkP s m = false then s else if s.a.ep = 0 then rgS (tk2 s m) m else if ¬ (m.op = 6 ∧ m.ep = s.a.ep) then tk2 s m
  else if m.cd = 31 ∨ m.cd = 32 then gvS (tk2 s m) else if m.cd = 0 then rwS (tk2 s m) m.cx m.al else tk2 s m
def tkeE (s : Sg) (m : Ms) : Int :=
  if tkP s m = false then 0 else if s.a.ep = 0 then 0 else if ¬ (m.op = 6 ∧ m.ep = s.a.ep) then 0 else if m.cd = 31 ∨ m.cd = 32 then gvE (tk2 s m) else 0
structure TkB (s : Sg) (m : Ms) (n c N : Nat) : Prop where
  id : 0 ≤ s.a.id ∧ s.a.id ≤ 4
  ck : 0 ≤ s.a.ck ∧ s.a.ck ≤ 1099511627776
  bs : 0 ≤ s.a.bs ∧ s.a.bs ≤ 1099511627776
  tk : 0 ≤ s.a.tk
  tv : 0 ≤ tkV s.a m.cx ∧ tkV s.a m.cx ≤ 1099511627776
  f : s.f ≤ 1099511627776
  c : c + 1 ≤ 2199023255552
  l : m.al.length ≤ 1099511627776
  wf : ∀ x ∈ m.al, wf64 x.id
  N : n ≤ N ∧ m.al.length ≤ N
set_option maxHeartbeats 8000000 in
set_option maxRecDepth 100000 in
theorem takeM_any (X : Array Value) (m : Ms) (N : Nat) (h : AgS D w p s n c) (hX : MsR X m) (hL : RdR D 67 11 alC w m.aa m.al) (ht : Tb D w) (hB : TkB s m n c N) :
    Calls Tryd.prog 13 #[.pointer (some ⟨p, 0, none⟩), .agg X] w fun e w' => e = .returned (.int .i64 (tkeE s m)) ∧ AgS D w' p (tkeS s m) N (c + 1) ∧ FrA D w w' := by
  obtain ⟨pd, mv, G, h⟩ := h
  obtain ⟨W0, hW0⟩ : ∃ y, y = w.alloc (.cells X 51) := ⟨_, rfl⟩
  have hb : Below w.heap.size w W0 := by rw [hW0]; exact (Below.refl _ w).alloc (Nat.le_refl _) _
  have hq : W0.heap[w.heap.size]? = some (.cells X 51 (0, 0)) := by rw [hW0]; exact heap_alloc_new w _
  have hA := h.below hb
  have hD : D ≤ w.heap.size := Nat.le_trans h.hp (Nat.le_of_lt h.b.lt)
  have q := fun j => cell_of_row W0 w.heap.size j X 51 (0, 0) hq
  have r0 := (q 0).trans hX.f0
  have r2 := (q 2).trans hX.f2
  have r11 := (q 11).trans hX.f11
  have c0 : W0.cell? ⟨p, 0, none⟩ = some (.int .i64 s.a.id) := hA.b.at_ 0
  have c5 : W0.cell? ⟨p, 5, none⟩ = some (.int .i64 s.a.bt) := hA.b.at_ 5
  have c8 : W0.cell? ⟨p, 8, none⟩ = some (.int .i64 s.a.hi) := hA.b.at_ 8
  have f8 : W0.frozen? ⟨p, 8, none⟩ = false := hA.b.fr 8
  have lp := hA.b.lt
  have lpw := h.b.lt
  have hsz : w.heap.size < W0.heap.size := heap_lt hq
  have HX := hidOf hX
  have HBB := hidOf hB
  obtain ⟨hi0, hi1⟩ := hB.id
  obtain ⟨r, hr⟩ : ∃ r, r = tkeS s m := ⟨_, rfl⟩
  obtain ⟨u, hu⟩ : ∃ u, u = tkeE s m := ⟨_, rfl⟩
  have HR := hidOf hr
  have HU := hidOf hu
  have HA := hidOf (hA.below (w' := W0.drew) ⟨rfl, rfl, rfl, Nat.le_refl _, fun _ _ => rfl⟩)
  have HF : Hid (FrA D w W0.drew) := hidOf (.of_below hb.drew)
  obtain ⟨W1, hW1⟩ : ∃ y, y = (W0.setCell ⟨p, 8, none⟩ (.int .i64 m.hi)).drew := ⟨_, rfl⟩
  have HK : Hid (AgR D W1 p (tk2 s m) n c pd mv G) := hidOf (by rw [hW1]; exact (hA.set1 (a' := { s.a with hi := m.hi }) 8 (.int .i64 m.hi) rfl).below ⟨rfl, rfl, rfl, Nat.le_refl _, fun _ _ => rfl⟩)
  have hfr : FrA D w W1 := by rw [hW1]; exact ((FrA.of_below hb).trans (FrA.setp hA.b hA.hp 8 (.int .i64 m.hi))).trans (.of_below ⟨rfl, rfl, rfl, Nat.le_refl _, fun _ _ => rfl⟩)
  have HF1 := hidOf hfr
  have hq1 : W1.heap[w.heap.size]? = some (.cells X 51 (0, 0)) := by
    rw [hW1]
    exact (Below.heap_setCell W0 ⟨p, 8, none⟩ (.int .i64 m.hi) w.heap.size (fun e => by have e : w.heap.size = p := e; omega)).trans hq
  have HQ1 := hidOf hq1
  have HL : Hid (∀ W, FrA D w W → RdR D 67 11 alC W m.aa m.al) := hidOf (fun W hf => hL.keepB hf.size (fun k hk hk2 => hf.block k _ (Array.getElem?_eq_getElem hk2) (.inr hk)) (fun k cs hk => hf.block k _ hk (.inl (by simp [okA]))))
  have HT : Hid (∀ W, FrA D w W → Tb D W) := hidOf (fun W hf => ht.below (hf.below hD))
  have hne : p ≠ w.heap.size := by omega
  rw [← hr, ← hu]
  clear hb hq hA q hr hu h hX hfr hq1 hL ht hD hB
  have no : tkP s m = false → r = s ∧ u = 0 := fun e => by rw [HR.out, HU.out]; unfold tkeS tkeE; rw [if_pos e, if_pos e]; exact ⟨rfl, rfl⟩
  have HN : Hid (∀ W, FrA D w W → AgR D W p s n c pd mv G → AgS D W p s N (c + 1) ∧ FrA D w W) := hidOf (fun W hf ha => ⟨⟨pd, mv, G, (ha.moreN HBB.out.N.1).more (Nat.le_succ c) (by have := HBB.out.c; omega)⟩, hf⟩)
  by_cases e1 : m.kd = 10
  · have e1b : (m.kd != 10) = false := by simp [e1]
    by_cases e2 : m.to = 100 + s.a.id
    · have e2b : (m.to != 100 + s.a.id) = false := by simp [e2]
      by_cases e3 : s.a.bt = 0
      · have e3b : (s.a.bt == 0) = true := by simp [e3]
        obtain ⟨rfl, rfl⟩ := no (by simp [tkP, e3])
        clear no HR HU hW1 HK HF1 HQ1 HL HT e1 e2 e3
        go_enter Tryd.func13, Tryd.ntmps13
        go_upto_region 1 with (fail)
        rw [← hW0]
        clear hW0
        go_region
        go_wp2
        go_ret
        exact ⟨rfl, HN.out _ HF.out HA.out⟩
      · have e3b : (s.a.bt == 0) = false := by simp [e3]
        have yes : tkP s m = true := by simp [tkP, e1, e2, e3]
        have r8 := (cell_of_row W1 w.heap.size 8 X 51 (0, 0) HQ1.out).trans HX.out.f8
        have r16 := (cell_of_row W1 w.heap.size 16 X 51 (0, 0) HQ1.out).trans HX.out.f16
        have r32 := (cell_of_row W1 w.heap.size 32 X 51 (0, 0) HQ1.out).trans HX.out.f32
        have r43 := (cell_of_row W1 w.heap.size 43 X 51 (0, 0) HQ1.out).trans HX.out.f43
        have r45 := (cell_of_row W1 w.heap.size 45 X 51 (0, 0) HQ1.out).trans HX.out.f45
        have c9 : W1.cell? ⟨p, 9, none⟩ = some (.int .i64 s.a.ep) := HK.out.b.at_ 9
        have lp1 := HK.out.b.lt
        have ls1 : w.heap.size < W1.heap.size := heap_lt HQ1.out
        clear no e1 e2 e3
        have er : r = (if s.a.ep = 0 then rgS (tk2 s m) m else if ¬ (m.op = 6 ∧ m.ep = s.a.ep) then tk2 s m else if m.cd = 31 ∨ m.cd = 32 then gvS (tk2 s m) else if m.cd = 0 then rwS (tk2 s m) m.cx m.al else tk2 s m) := by rw [HR.out]; unfold tkeS; rw [if_neg (by simp [yes])]
        have eu : u = (if s.a.ep = 0 then 0 else if ¬ (m.op = 6 ∧ m.ep = s.a.ep) then 0 else if m.cd = 31 ∨ m.cd = 32 then gvE (tk2 s m) else 0) := by rw [HU.out]; unfold tkeE; rw [if_neg (by simp [yes])]
        have HI : Hid ((Tryd.prog.info? 51).map (·.size) = some 46) := hidOf (by kernel_rfl)
        have HIX : Hid ((Tryd.prog.info? 51).map (·.size) = some X.size) := hidOf (by rw [HX.out.sz]; exact HI.out)
        by_cases e4 : s.a.ep = 0
        · have e4b : (s.a.ep == 0) = true := by simp [e4]
          rw [if_pos e4] at er eu
          have HG := hidOf (register_any (s := tk2 s m) X m ⟨pd, mv, G, HK.out⟩ HX.out HBB.out.ck)
          rw [er, eu]
          clear e4 er eu
          go_enter Tryd.func13, Tryd.ntmps13
          go_upto_region 1 with (fail)
          rw [← hW0]
          clear hW0
          go_region
          go_upto_region 4 with (fail)
          rw [← hW1]
          clear hW1 r0 r2 r11 c0 c5 c8 f8 lp hsz
          go_wp2_with (first
            | (refine wpList_load_row rfl 51 (.tmp 3) rfl w.heap.size rfl 51 X (0, 0) _ HQ1.out Tryd.underlying51 rfl HIX.out ?_)
            | (go_at_call 23; refine HG.out.mono ?_; rintro e w2 ⟨rfl, ha, hf⟩; have HA2 := hidOf ha; have HF2 := hidOf hf; clear ha hf))
          go_ret
          exact ⟨rfl, (HA2.out.moreN HBB.out.N.1).moreC (Nat.le_succ c) (by have := HBB.out.c; omega), HF1.out.trans HF2.out⟩
        · have e4b : (s.a.ep == 0) = false := by simp [e4]
          rw [if_neg e4] at er eu
          have HN1 : Hid (∀ W, FrA D w W → AgR D W p (tk2 s m) n c pd mv G → AgS D W p (tk2 s m) N (c + 1) ∧ FrA D w W) := hidOf (fun W hf ha => ⟨⟨pd, mv, G, (ha.moreN HBB.out.N.1).more (Nat.le_succ c) (by have := HBB.out.c; omega)⟩, hf⟩)
          have HKd := hidOf (HK.out.below (w' := W1.drew) ⟨rfl, rfl, rfl, Nat.le_refl _, fun _ _ => rfl⟩)
          have HFd := hidOf (HF1.out.trans (.of_below (w' := W1.drew) ⟨rfl, rfl, rfl, Nat.le_refl _, fun _ _ => rfl⟩))
          by_cases e5 : m.op = 6
          · have e5b : (m.op != 6) = false := by simp [e5]
            by_cases e6 : m.ep = s.a.ep
            · have e6b : (m.ep != s.a.ep) = false := by simp [e6]
              rw [if_neg (fun e => e ⟨e5, e6⟩)] at er eu
              by_cases e7 : m.cd = 31 ∨ m.cd = 32
              · rw [if_pos e7] at er eu
                have HG := hidOf (giveUp_any (s := tk2 s m) ⟨pd, mv, G, HKd.out⟩ (HT.out _ HFd.out) HBB.out.f HBB.out.c)
                rw [er, eu]
                clear er eu e4 e5 e6 HR HU
                rcases e7 with e7 | e7
                · have e7b : (m.cd == 31) = true := by simp [e7]
                  clear e7
                  go_enter Tryd.func13, Tryd.ntmps13
                  go_upto_region 1 with (fail)
                  rw [← hW0]
                  clear hW0
                  go_region
                  go_upto_region 4 with (fail)
                  rw [← hW1]
                  clear hW1 r0 r2 r11 c0 c5 c8 f8 lp hsz
                  go_upto_region 7 with (fail)
                  go_region
                  go_wp2_with (go_at_call 24; refine HG.out.mono ?_; rintro e w2 ⟨rfl, ha, hf⟩; have HA2 := hidOf ha; have HF2 := hidOf hf; clear ha hf)
                  go_ret
                  exact ⟨rfl, HA2.out.moreN HBB.out.N.1, HFd.out.trans HF2.out⟩
                · have e7b : (m.cd == 31) = false := by simp [e7]
                  have e7c : (m.cd == 32) = true := by simp [e7]
                  clear e7
                  go_enter Tryd.func13, Tryd.ntmps13
                  go_upto_region 1 with (fail)
                  rw [← hW0]
                  clear hW0
                  go_region
                  go_upto_region 4 with (fail)
                  rw [← hW1]
                  clear hW1 r0 r2 r11 c0 c5 c8 f8 lp hsz
                  go_upto_region 7 with (fail)
                  go_region
                  go_wp2_with (go_at_call 24; refine HG.out.mono ?_; rintro e w2 ⟨rfl, ha, hf⟩; have HA2 := hidOf ha; have HF2 := hidOf hf; clear ha hf)
                  go_ret
                  exact ⟨rfl, HA2.out.moreN HBB.out.N.1, HFd.out.trans HF2.out⟩
              · have e7b : (m.cd == 31) = false := by simp; omega
                have e7c : (m.cd == 32) = false := by simp; omega
                rw [if_neg e7] at er eu
                by_cases e8 : m.cd = 0
                · have e8b : (m.cd == 0) = true := by simp [e8]
                  rw [if_pos e8] at er
                  have HG := hidOf (renew_any (s := tk2 s m) m.cx m.al m.aa m.ac N ⟨pd, mv, G, HKd.out⟩ (HL.out _ HFd.out) HBB.out.l HBB.out.wf HBB.out.N.1 HBB.out.N.2 HBB.out.bs HBB.out.tk HBB.out.tv)
                  rw [er, eu]
                  clear er eu e4 e5 e6 e7 e8 HR HU
                  go_enter Tryd.func13, Tryd.ntmps13
                  go_upto_region 1 with (fail)
                  rw [← hW0]
                  clear hW0
                  go_region
                  go_upto_region 4 with (fail)
                  rw [← hW1]
                  clear hW1 r0 r2 r11 c0 c5 c8 f8 lp hsz
                  go_upto_region 7 with (fail)
                  go_region
                  go_wp2_with (go_at_call 25; refine HG.out.mono ?_; rintro e w2 ⟨rfl, ha, hf⟩; have HA2 := hidOf ha; have HF2 := hidOf hf; clear ha hf)
                  go_ret
                  exact ⟨rfl, HA2.out.moreC (Nat.le_succ c) (by have := HBB.out.c; omega), HFd.out.trans HF2.out⟩
                · have e8b : (m.cd == 0) = false := by simp [e8]
                  rw [if_neg e8] at er
                  rw [er, eu]
                  clear er eu e4 e5 e6 e7 e8 HR HU
                  go_enter Tryd.func13, Tryd.ntmps13
                  go_upto_region 1 with (fail)
                  rw [← hW0]
                  clear hW0
                  go_region
                  go_upto_region 4 with (fail)
                  rw [← hW1]
                  clear hW1 r0 r2 r11 c0 c5 c8 f8 lp hsz
                  go_upto_region 7 with (fail)
                  go_region
                  go_wp2
                  go_ret
                  exact ⟨rfl, HN1.out _ HFd.out HKd.out⟩
            · have e6b : (m.ep != s.a.ep) = true := by simp [e6]
              rw [if_pos (fun e => e6 e.2)] at er eu
              rw [er, eu]
              clear er eu e4 e5 e6 HR HU
              go_enter Tryd.func13, Tryd.ntmps13
              go_upto_region 1 with (fail)
              rw [← hW0]
              clear hW0
              go_region
              go_upto_region 4 with (fail)
              rw [← hW1]
              clear hW1 r0 r2 r11 c0 c5 c8 f8 lp hsz
              go_upto_region 7 with (fail)
              go_region
              go_wp2
              go_ret
              exact ⟨rfl, HN1.out _ HFd.out HKd.out⟩
          · have e5b : (m.op != 6) = true := by simp [e5]
            rw [if_pos (fun e => e5 e.1)] at er eu
            rw [er, eu]
            clear er eu e4 e5 HR HU
            go_enter Tryd.func13, Tryd.ntmps13
            go_upto_region 1 with (fail)
            rw [← hW0]
            clear hW0
            go_region
            go_upto_region 4 with (fail)
            rw [← hW1]
            clear hW1 r0 r2 r11 c0 c5 c8 f8 lp hsz
            go_upto_region 7 with (fail)
            go_region
            go_wp2
            go_ret
            exact ⟨rfl, HN1.out _ HFd.out HKd.out⟩
    · have e2b : (m.to != 100 + s.a.id) = true := by simp [e2]
      obtain ⟨rfl, rfl⟩ := no (by simp [tkP, e2])
      clear no HR HU hW1 HK HF1 HQ1 HL HT e1 e2
      go_enter Tryd.func13, Tryd.ntmps13
      go_upto_region 1 with (fail)
      rw [← hW0]
      clear hW0
      go_region
      go_wp2
      go_ret
      exact ⟨rfl, HN.out _ HF.out HA.out⟩
  · have e1b : (m.kd != 10) = true := by simp [e1]
    obtain ⟨rfl, rfl⟩ := no (by simp [tkP, e1])
    clear no HR HU hW1 HK HF1 HQ1 HL HT e1
    go_enter Tryd.func13, Tryd.ntmps13
    go_upto_region 1 with (fail)
    rw [← hW0]
    clear hW0
    go_region
    go_wp2
    go_ret
    exact ⟨rfl, HN.out _ HF.out HA.out⟩
end Go.Proofs.YtkienmncifonnaaDoor
