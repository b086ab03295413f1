/- Two jobs are compared by the document. -/
import Derived.Test.YtkokkdekbilkjaaEf
namespace Go.Proofs.Ytkokkdekbilkjaa
open Go.RowKit Go.Shelf
attribute [local go_sem] Oper.semAt_some
set_option maxRecDepth 100000 in
set_option maxHeartbeats 4000000 in
theorem refSameJob_any (d e : Jb) (ga gb : Option Addr) (gc gd : Nat) (S : Nat → Prop) (w : World) (hS : ∀ b, S b → b < w.heap.size) (hG : Fl w S 3 24 Gp.cs ga d.gs) (hH : Fl w S 3 24 Gp.cs gb e.gs) :
    Calls Try.prog 82 #[.agg #[.int .i64 d.id, .int .i64 d.ty, .int .i64 d.pr, .int .i64 d.pa, .slice ga d.gs.length gc, .int .i64 d.ve, .bool d.sd], .agg #[.int .i64 e.id, .int .i64 e.ty, .int .i64 e.pr, .int .i64 e.pa, .slice gb e.gs.length gd, .int .i64 e.ve, .bool e.sd]] w fun r w' => r = .returned (.bool (decide (d = e))) ∧ Below w.heap.size w w' := by
  obtain ⟨id, ty, pr, pa, gs, ve, sd⟩ := d
  obtain ⟨id', ty', pr', pa', gs', ve', sd'⟩ := e
  dsimp only at hG hH ⊢
  have hll : gs.length ≤ 140737488355328 := by have := hG.bd; omega
  have hml : gs'.length ≤ 140737488355328 := by have := hH.bd; omega
  have HG := hidOf (fun (W : World) (hW : Below w.heap.size w W) => hG.kept (w' := W) (S' := S) (fun b hb => hW.block b (hS b hb)) (fun _ h => h))
  have HH := hidOf (fun (W : World) (hW : Below w.heap.size w W) => hH.kept (w' := W) (S' := S) (fun b hb => hW.block b (hS b hb)) (fun _ h => h))
  clear hG hH
  generalize hB : decide ((⟨id, ty, pr, pa, gs, ve, sd⟩ : Jb) = ⟨id', ty', pr', pa', gs', ve', sd'⟩) = Bv
  by_cases h0 : id = id'
  · subst h0
    by_cases h1 : ty = ty'
    · subst h1
      by_cases h2 : pr = pr'
      · subst h2
        by_cases h3 : pa = pa'
        · subst h3
          by_cases h4 : ve = ve'
          · subst h4
            by_cases h5 : sd = sd'
            · subst h5
              by_cases hlen : gs.length = gs'.length
              · have HLE := hidOf hlen
                have HEL : Hid (gs.take gs.length = gs'.take gs.length → Bv = true) := hidOf (fun h => by rw [List.take_of_length_le (Nat.le_refl _), List.take_of_length_le (by omega)] at h; rw [← hB]; simp [h])
                have HNB : Hid (gs ≠ gs' → Bv = false) := hidOf (fun h => by rw [← hB]; simp [h])
                have b2 : ((gs.length : Int) != (gs'.length : Int)) = false := by simp [hlen]
                clear hlen hB
                go_enter Try.func82, Try.ntmps82
                go_wp2
                have Z := FdS.begin w [.int .i64 id, .int .i64 ty, .int .i64 pr, .int .i64 pa, .slice ga gs.length gc, .int .i64 ve, .bool sd] [.int .i64 id, .int .i64 ty, .int .i64 pr, .int .i64 pa, .slice gb gs'.length gd, .int .i64 ve, .bool sd] 55 55
                obtain ⟨W, hW⟩ : ∃ x, x = (w.alloc (.cells #[.int .i64 id, .int .i64 ty, .int .i64 pr, .int .i64 pa, .slice ga gs.length gc, .int .i64 ve, .bool sd] 55)).alloc (.cells #[.int .i64 id, .int .i64 ty, .int .i64 pr, .int .i64 pa, .slice gb gs'.length gd, .int .i64 ve, .bool sd] 55) := ⟨_, rfl⟩
                rw [← hW]
                have Z0 : FdS w W [.int .i64 id, .int .i64 ty, .int .i64 pr, .int .i64 pa, .slice ga gs.length gc, .int .i64 ve, .bool sd] [.int .i64 id, .int .i64 ty, .int .i64 pr, .int .i64 pa, .slice gb gs'.length gd, .int .i64 ve, .bool sd] := by rw [hW]; exact Z
                have p4 : W.cell? ⟨w.heap.size, 4, none⟩ = some (.slice ga gs.length gc) := Z0.s 4 _ rfl
                have q4 : W.cell? ⟨w.heap.size + 1, 4, none⟩ = some (.slice gb gs'.length gd) := Z0.a 4 _ rfl
                have HBW := hidOf Z0.b
                clear Z Z0 hW
                go_loopw [5] (fun i wr => ∃ k n : Nat, k ≤ gs.length ∧ i = .int .i64 (k : Int) ∧ Hid (gs.take k = gs'.take k) ∧ wr = W.drewN n) (fun i _ => gs.length - (intOf i).toNat)
                case atStart => exact ⟨0, 0, Nat.zero_le _, rfl, hidOf rfl, rfl⟩
                case round =>
                  obtain ⟨k, n, hk, rfl, HT, hwr⟩ := hrel
                  subst hwr
                  by_cases hlt : k < gs.length
                  · have hlt2 : k < gs'.length := by rw [← HLE.out]; exact hlt
                    obtain ⟨p, o, ha, hSp, hcc⟩ := (HG.out W HBW.out).at k hlt
                    obtain ⟨q, o2, hb, hSq, hcd⟩ := (HH.out W HBW.out).at k hlt2
                    subst ha
                    subst hb
                    have h64 : (k : Int) < (gs.length : Int) := by omega
                    have h65 : (k : Int) < (gs'.length : Int) := by omega
                    have HN : Hid (gs[k] = gs'[k] → gs.take (k + 1) = gs'.take (k + 1)) := hidOf (fun h => by rw [List.take_succ_eq_append_getElem hlt, List.take_succ_eq_append_getElem hlt2, HT.out, h])
                    have HNE : Hid (gs[k] ≠ gs'[k] → Bv = false) := hidOf (fun h => HNB.out (fun e => h (by subst e; rfl)))
                    generalize gs[k] = x at *
                    generalize gs'[k] = y at *
                    have c0 : W.cell? ⟨p, o + k * 3, none⟩ = some (.int .i64 x.n) := hcc 0 _ rfl
                    have d0 : W.cell? ⟨q, o2 + k * 3, none⟩ = some (.int .i64 y.n) := hcd 0 _ rfl
                    have c1 : W.cell? ⟨p, o + k * 3 + 1, none⟩ = some (.int .i64 x.c) := hcc 1 _ rfl
                    have d1 : W.cell? ⟨q, o2 + k * 3 + 1, none⟩ = some (.int .i64 y.c) := hcd 1 _ rfl
                    have c2 : W.cell? ⟨p, o + k * 3 + 2, none⟩ = some (.int .i64 x.m) := hcc 2 _ rfl
                    have d2 : W.cell? ⟨q, o2 + k * 3 + 2, none⟩ = some (.int .i64 y.m) := hcd 2 _ rfl
                    clear hcc hcd
                    by_cases hxy : x = y
                    · have hne : ∀ wz : World, (binOp .neq 57 (.agg #[.int .i64 x.n, .int .i64 x.c, .int .i64 x.m]) (.agg #[.int .i64 y.n, .int .i64 y.c, .int .i64 y.m])).run Try.prog wz = .ok (.bool false) wz := fun wz => by rw [ne57]; simp [hxy]
                      have HXY := hidOf hxy
                      clear hxy
                      go_wp2
                      go_quiet (fail)
                      go_wp2
                      go_roundw
                      case rel => exact ⟨k + 1, n + nq, by omega, by go_num, hidOf (HN.out HXY.out), rfl⟩
                      case measure => simp [intOf]; omega
                    · have hne : ∀ wz : World, (binOp .neq 57 (.agg #[.int .i64 x.n, .int .i64 x.c, .int .i64 x.m]) (.agg #[.int .i64 y.n, .int .i64 y.c, .int .i64 y.m])).run Try.prog wz = .ok (.bool true) wz := fun wz => by rw [ne57]; simp [hxy]
                      have HXY := hidOf hxy
                      clear hxy
                      go_wp2
                      go_quiet (fail)
                      go_wp2
                      go_ret
                      exact ⟨by rw [HNE.out HXY.out]; rfl, below_drewN (below_drewN HBW.out _) _⟩
                  · have hke : k = gs.length := by omega
                    subst hke
                    go_wp2
                    go_ret
                    exact ⟨by rw [HEL.out HT.out]; rfl, below_drewN HBW.out _⟩
              · have HB : Hid (Bv = false) := hidOf (by rw [← hB]; simp; intro e; exact absurd (congrArg List.length e) hlen)
                have b2 : ((gs.length : Int) != (gs'.length : Int)) = true := by simp; omega
                clear hB
                go_enter Try.func82, Try.ntmps82
                go_wp2
                go_ret
                exact ⟨by rw [HB.out]; rfl, below2 w _ _⟩
            · have HB : Hid (Bv = false) := hidOf (by rw [← hB]; simp [h5])
              have hb5 : (sd != sd') = true := by simp [h5]
              clear hB
              go_enter Try.func82, Try.ntmps82
              go_wp2
              go_ret
              exact ⟨by rw [HB.out]; rfl, below2 w _ _⟩
          · have HB : Hid (Bv = false) := hidOf (by rw [← hB]; simp [h4])
            clear hB
            go_enter Try.func82, Try.ntmps82
            go_wp2
            go_ret
            exact ⟨by rw [HB.out]; rfl, below2 w _ _⟩
        · have HB : Hid (Bv = false) := hidOf (by rw [← hB]; simp [h3])
          clear hB
          go_enter Try.func82, Try.ntmps82
          go_wp2
          go_ret
          exact ⟨by rw [HB.out]; rfl, below2 w _ _⟩
      · have HB : Hid (Bv = false) := hidOf (by rw [← hB]; simp [h2])
        clear hB
        go_enter Try.func82, Try.ntmps82
        go_wp2
        go_ret
        exact ⟨by rw [HB.out]; rfl, below2 w _ _⟩
    · have HB : Hid (Bv = false) := hidOf (by rw [← hB]; simp [h1])
      clear hB
      go_enter Try.func82, Try.ntmps82
      go_wp2
      go_ret
      exact ⟨by rw [HB.out]; rfl, below2 w _ _⟩
  · have HB : Hid (Bv = false) := hidOf (by rw [← hB]; simp [h0])
    clear hB
    go_enter Try.func82, Try.ntmps82
    go_wp2
    go_ret
    exact ⟨by rw [HB.out]; rfl, below2 w _ _⟩
end Go.Proofs.Ytkokkdekbilkjaa
