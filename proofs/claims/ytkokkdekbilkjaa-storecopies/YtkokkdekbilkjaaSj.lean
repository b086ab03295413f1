/- Two jobs, two seen are compared. -/
import Derived.Test.YtkokkdekbilkjaaEq
import Derived.Test.YtkokkdekbilkjaaDp
import Derived.Test.YtkokkdekbilkjaaHo
namespace Go.Proofs.Ytkokkdekbilkjaa
open Go.RowKit Go.Shelf
attribute [local go_sem] Oper.semAt_some
set_option maxRecDepth 100000 in
set_option maxHeartbeats 4000000 in
theorem sameJob_any (d e : Jb) (ga gb : Option Addr) (gc gd : Nat) (S : Nat → Prop) (w : World) (hS : ∀ b, S b → b < w.heap.size) (hG : Fl w S 3 24 Gp.cs ga d.gs) (hH : Fl w S 3 24 Gp.cs gb e.gs) :
    Calls Try.prog 54 #[.agg #[.int .i64 d.id, .int .i64 d.ty, .int .i64 d.pr, .int .i64 d.pa, .slice ga d.gs.length gc, .int .i64 d.ve, .bool d.sd], .agg #[.int .i64 e.id, .int .i64 e.ty, .int .i64 e.pr, .int .i64 e.pa, .slice gb e.gs.length gd, .int .i64 e.ve, .bool e.sd]] w fun r w' => r = .returned (.bool (decide (d = e))) ∧ Below w.heap.size w w' := by
  obtain ⟨id, ty, pr, pa, gs, ve, sd⟩ := d
  obtain ⟨id', ty', pr', pa', gs', ve', sd'⟩ := e
  dsimp only at hG hH ⊢
  have HE := hidOf (fun (W : World) (hW : Below w.heap.size w W) => eq81_any ga gb gc gd gs gs' S W (hG.kept (fun b hb => hW.block b (hS b hb)) (fun _ h => h)) (hH.kept (fun b hb => hW.block b (hS b hb)) (fun _ h => h)))
  clear hG hH
  generalize hB : decide ((⟨id, ty, pr, pa, gs, ve, sd⟩ : Jb) = ⟨id', ty', pr', pa', gs', ve', sd'⟩) = Bv
  by_cases h0 : id = id'
  · subst h0
    by_cases h1 : ty = ty'
    · subst h1
      by_cases h2 : pr = pr'
      · subst h2
        by_cases h3 : pa = pa'
        · subst h3
          by_cases hg : gs = gs'
          · have HD : Hid (decide (gs = gs') = true) := hidOf (decide_eq_true hg)
            by_cases h5 : ve = ve'
            · subst h5
              by_cases h6 : sd = sd'
              · subst h6
                have HB : Hid (Bv = true) := hidOf (by rw [← hB]; simp [hg])
                clear hB hg
                go_enter Try.func54, Try.ntmps54
                go_wp2_with (go_at_call 81; refine (HE.out _ (below2 w _ _)).mono ?_; rintro e w1 ⟨rfl, hb⟩; obtain ⟨hp, hq, hbw, hz⟩ := two_boxes (cs := [.int .i64 id, .int .i64 ty, .int .i64 pr, .int .i64 pa, .slice ga gs.length gc, .int .i64 ve, .bool sd]) (ds := [.int .i64 id, .int .i64 ty, .int .i64 pr, .int .i64 pa, .slice gb gs'.length gd, .int .i64 ve, .bool sd]) hb; have HBW := hidOf hbw; have p5 : w1.cell? ⟨w.heap.size, 5, none⟩ = some (.int .i64 ve) := hp 5 _ rfl; have q5 : w1.cell? ⟨w.heap.size + 1, 5, none⟩ = some (.int .i64 ve) := hq 5 _ rfl; have p6 : w1.cell? ⟨w.heap.size, 6, none⟩ = some (.bool sd) := hp 6 _ rfl; have q6 : w1.cell? ⟨w.heap.size + 1, 6, none⟩ = some (.bool sd) := hq 6 _ rfl; clear hb hbw hp hq; rw [HD.out])
                go_ret
                exact ⟨by rw [HB.out]; rfl, HBW.out⟩
              · have HB : Hid (Bv = false) := hidOf (by rw [← hB]; simp [h6])
                have hb6 : (sd == sd') = false := by simp [h6]
                clear hB hg
                go_enter Try.func54, Try.ntmps54
                go_wp2_with (go_at_call 81; refine (HE.out _ (below2 w _ _)).mono ?_; rintro e w1 ⟨rfl, hb⟩; obtain ⟨hp, hq, hbw, hz⟩ := two_boxes (cs := [.int .i64 id, .int .i64 ty, .int .i64 pr, .int .i64 pa, .slice ga gs.length gc, .int .i64 ve, .bool sd]) (ds := [.int .i64 id, .int .i64 ty, .int .i64 pr, .int .i64 pa, .slice gb gs'.length gd, .int .i64 ve, .bool sd']) hb; have HBW := hidOf hbw; have p5 : w1.cell? ⟨w.heap.size, 5, none⟩ = some (.int .i64 ve) := hp 5 _ rfl; have q5 : w1.cell? ⟨w.heap.size + 1, 5, none⟩ = some (.int .i64 ve) := hq 5 _ rfl; have p6 : w1.cell? ⟨w.heap.size, 6, none⟩ = some (.bool sd) := hp 6 _ rfl; have q6 : w1.cell? ⟨w.heap.size + 1, 6, none⟩ = some (.bool sd') := hq 6 _ rfl; clear hb hbw hp hq; rw [HD.out])
                go_ret
                exact ⟨by rw [HB.out]; rfl, HBW.out⟩
            · have HB : Hid (Bv = false) := hidOf (by rw [← hB]; simp [h5])
              clear hB hg
              go_enter Try.func54, Try.ntmps54
              go_wp2_with (go_at_call 81; refine (HE.out _ (below2 w _ _)).mono ?_; rintro e w1 ⟨rfl, hb⟩; obtain ⟨hp, hq, hbw, hz⟩ := two_boxes (cs := [.int .i64 id, .int .i64 ty, .int .i64 pr, .int .i64 pa, .slice ga gs.length gc, .int .i64 ve, .bool sd]) (ds := [.int .i64 id, .int .i64 ty, .int .i64 pr, .int .i64 pa, .slice gb gs'.length gd, .int .i64 ve', .bool sd']) hb; have HBW := hidOf hbw; have p5 : w1.cell? ⟨w.heap.size, 5, none⟩ = some (.int .i64 ve) := hp 5 _ rfl; have q5 : w1.cell? ⟨w.heap.size + 1, 5, none⟩ = some (.int .i64 ve') := hq 5 _ rfl; have p6 : w1.cell? ⟨w.heap.size, 6, none⟩ = some (.bool sd) := hp 6 _ rfl; have q6 : w1.cell? ⟨w.heap.size + 1, 6, none⟩ = some (.bool sd') := hq 6 _ rfl; clear hb hbw hp hq; rw [HD.out])
              go_ret
              exact ⟨by rw [HB.out]; rfl, HBW.out⟩
          · have HD : Hid (decide (gs = gs') = false) := hidOf (decide_eq_false hg)
            have HB : Hid (Bv = false) := hidOf (by rw [← hB]; simp [hg])
            clear hB hg
            go_enter Try.func54, Try.ntmps54
            go_wp2_with (go_at_call 81; refine (HE.out _ (below2 w _ _)).mono ?_; rintro e w1 ⟨rfl, hb⟩; obtain ⟨hp, hq, hbw, hz⟩ := two_boxes (cs := [.int .i64 id, .int .i64 ty, .int .i64 pr, .int .i64 pa, .slice ga gs.length gc, .int .i64 ve, .bool sd]) (ds := [.int .i64 id, .int .i64 ty, .int .i64 pr, .int .i64 pa, .slice gb gs'.length gd, .int .i64 ve', .bool sd']) hb; have HBW := hidOf hbw; have p5 : w1.cell? ⟨w.heap.size, 5, none⟩ = some (.int .i64 ve) := hp 5 _ rfl; have q5 : w1.cell? ⟨w.heap.size + 1, 5, none⟩ = some (.int .i64 ve') := hq 5 _ rfl; have p6 : w1.cell? ⟨w.heap.size, 6, none⟩ = some (.bool sd) := hp 6 _ rfl; have q6 : w1.cell? ⟨w.heap.size + 1, 6, none⟩ = some (.bool sd') := hq 6 _ rfl; clear hb hbw hp hq; rw [HD.out])
            go_ret
            exact ⟨by rw [HB.out]; rfl, HBW.out⟩
        · have HB : Hid (Bv = false) := hidOf (by rw [← hB]; simp [h3])
          clear hB
          go_enter Try.func54, Try.ntmps54
          go_wp2
          go_ret
          exact ⟨by rw [HB.out]; rfl, below2 w _ _⟩
      · have HB : Hid (Bv = false) := hidOf (by rw [← hB]; simp [h2])
        clear hB
        go_enter Try.func54, Try.ntmps54
        go_wp2
        go_ret
        exact ⟨by rw [HB.out]; rfl, below2 w _ _⟩
    · have HB : Hid (Bv = false) := hidOf (by rw [← hB]; simp [h1])
      clear hB
      go_enter Try.func54, Try.ntmps54
      go_wp2
      go_ret
      exact ⟨by rw [HB.out]; rfl, below2 w _ _⟩
  · have HB : Hid (Bv = false) := hidOf (by rw [← hB]; simp [h0])
    clear hB
    go_enter Try.func54, Try.ntmps54
    go_wp2
    go_ret
    exact ⟨by rw [HB.out]; rfl, below2 w _ _⟩

set_option maxRecDepth 100000 in
set_option maxHeartbeats 4000000 in
theorem sameSeen_any (d e : Sn) (ga gb : Option Addr) (gc gd : Nat) (S : Nat → Prop) (w : World) (hS : ∀ b, S b → b < w.heap.size) (hG : Fl w S 11 88 Al.cs ga d.al) (hH : Fl w S 11 88 Al.cs gb e.al) :
    Calls Try.prog 60 #[.agg #[.int .i64 d.cl, .int .i64 d.rq, .int .i64 d.co, .int .i64 d.va, .slice ga d.al.length gc], .agg #[.int .i64 e.cl, .int .i64 e.rq, .int .i64 e.co, .int .i64 e.va, .slice gb e.al.length gd]] w fun r w' => r = .returned (.bool (decide (d = e))) ∧ Below w.heap.size w w' := by
  obtain ⟨cl, rq, co, va, al⟩ := d
  obtain ⟨cl', rq', co', va', al'⟩ := e
  dsimp only at hG hH ⊢
  have HE := hidOf (fun (W : World) (hW : Below w.heap.size w W) => eq56_any ga gb gc gd al al' S W (hG.kept (fun b hb => hW.block b (hS b hb)) (fun _ h => h)) (hH.kept (fun b hb => hW.block b (hS b hb)) (fun _ h => h)))
  clear hG hH
  generalize hB : decide ((⟨cl, rq, co, va, al⟩ : Sn) = ⟨cl', rq', co', va', al'⟩) = Bv
  by_cases h0 : cl = cl'
  · subst h0
    by_cases h1 : rq = rq'
    · subst h1
      by_cases h2 : co = co'
      · subst h2
        by_cases h3 : va = va'
        · subst h3
          by_cases hg : al = al'
          · have HD : Hid (decide (al = al') = true) := hidOf (decide_eq_true hg)
            have HB : Hid (Bv = true) := hidOf (by rw [← hB]; simp [hg])
            clear hB hg
            go_enter Try.func60, Try.ntmps60
            go_wp2_with (go_at_call 56; refine (HE.out _ (below2 w _ _)).mono ?_; rintro e w1 ⟨rfl, hb⟩; obtain ⟨hp, hq, hbw, hz⟩ := two_boxes (cs := [.int .i64 cl, .int .i64 rq, .int .i64 co, .int .i64 va, .slice ga al.length gc]) (ds := [.int .i64 cl, .int .i64 rq, .int .i64 co, .int .i64 va, .slice gb al'.length gd]) hb; have HBW := hidOf hbw;  clear hb hbw hp hq; rw [HD.out])
            go_ret
            exact ⟨by rw [HB.out]; rfl, HBW.out⟩
          · have HD : Hid (decide (al = al') = false) := hidOf (decide_eq_false hg)
            have HB : Hid (Bv = false) := hidOf (by rw [← hB]; simp [hg])
            clear hB hg
            go_enter Try.func60, Try.ntmps60
            go_wp2_with (go_at_call 56; refine (HE.out _ (below2 w _ _)).mono ?_; rintro e w1 ⟨rfl, hb⟩; obtain ⟨hp, hq, hbw, hz⟩ := two_boxes (cs := [.int .i64 cl, .int .i64 rq, .int .i64 co, .int .i64 va, .slice ga al.length gc]) (ds := [.int .i64 cl, .int .i64 rq, .int .i64 co, .int .i64 va, .slice gb al'.length gd]) hb; have HBW := hidOf hbw;  clear hb hbw hp hq; rw [HD.out])
            go_ret
            exact ⟨by rw [HB.out]; rfl, HBW.out⟩
        · have HB : Hid (Bv = false) := hidOf (by rw [← hB]; simp [h3])
          clear hB
          go_enter Try.func60, Try.ntmps60
          go_wp2
          go_ret
          exact ⟨by rw [HB.out]; rfl, below2 w _ _⟩
      · have HB : Hid (Bv = false) := hidOf (by rw [← hB]; simp [h2])
        clear hB
        go_enter Try.func60, Try.ntmps60
        go_wp2
        go_ret
        exact ⟨by rw [HB.out]; rfl, below2 w _ _⟩
    · have HB : Hid (Bv = false) := hidOf (by rw [← hB]; simp [h1])
      clear hB
      go_enter Try.func60, Try.ntmps60
      go_wp2
      go_ret
      exact ⟨by rw [HB.out]; rfl, below2 w _ _⟩
  · have HB : Hid (Bv = false) := hidOf (by rw [← hB]; simp [h0])
    clear hB
    go_enter Try.func60, Try.ntmps60
    go_wp2
    go_ret
    exact ⟨by rw [HB.out]; rfl, below2 w _ _⟩
end Go.Proofs.Ytkokkdekbilkjaa
