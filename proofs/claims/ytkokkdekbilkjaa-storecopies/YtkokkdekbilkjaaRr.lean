/- Two answers are compared by the document. -/
import Derived.Test.YtkokkdekbilkjaaRk2
namespace Go.Proofs.Ytkokkdekbilkjaa
open Go.RowKit Go.Shelf
attribute [local go_sem] Oper.semAt_some
set_option maxRecDepth 100000 in
set_option maxHeartbeats 4000000 in
theorem refResults_any (co va co' va' : Int) (al al' : List Al) (ga gb : Option Addr) (gc gd : Nat) (S : Nat → Prop) (w : World) (hS : ∀ b, S b → b < w.heap.size) (hG : Fl w S 11 88 Al.cs ga al) (hH : Fl w S 11 88 Al.cs gb al') :
    Calls Try.prog 63 #[.agg #[.int .i64 co, .int .i64 va, .slice ga al.length gc], .agg #[.int .i64 co', .int .i64 va', .slice gb al'.length gd]] w fun r w' => r = .returned (.bool (decide (al = al' ∧ co = co' ∧ va = va'))) ∧ Below w.heap.size w w' := by
  have HE := hidOf (fun (W : World) (hW : Below w.heap.size w W) => eq62_any ga gb gc gd al al' S W (hG.kept (fun b hb => hW.block b (hS b hb)) (fun _ h => h)) (hH.kept (fun b hb => hW.block b (hS b hb)) (fun _ h => h)))
  clear hG hH hS
  generalize hB : decide (al = al' ∧ co = co' ∧ va = va') = Bv
  by_cases hg : al = al'
  · have HD := hidOf (decide_eq_true hg)
    by_cases h1 : co = co'
    · subst h1
      by_cases h2 : va = va'
      · subst h2
        have HB : Hid (Bv = true) := hidOf (by rw [← hB]; simp [hg])
        clear hB hg
        go_enter Try.func63, Try.ntmps63
        go_wp2_with (go_at_call 62; refine (HE.out _ (below2 w _ _)).mono ?_; rintro e w1 ⟨rfl, hb⟩; obtain ⟨hp, hq, hbw, hz⟩ := two_boxes (cs := [.int .i64 co, .int .i64 va, .slice ga al.length gc]) (ds := [.int .i64 co, .int .i64 va, .slice gb al'.length gd]) hb; have HBW := hidOf hbw; have p0 : w1.cell? ⟨w.heap.size, 0, none⟩ = some (.int .i64 co) := hp 0 _ rfl; have q0 : w1.cell? ⟨w.heap.size + 1, 0, none⟩ = some (.int .i64 co) := hq 0 _ rfl; have p1 : w1.cell? ⟨w.heap.size, 1, none⟩ = some (.int .i64 va) := hp 1 _ rfl; have q1 : w1.cell? ⟨w.heap.size + 1, 1, none⟩ = some (.int .i64 va) := hq 1 _ rfl; clear hb hbw hp hq; rw [HD.out])
        go_ret
        exact ⟨by rw [HB.out]; rfl, HBW.out⟩
      · have HB : Hid (Bv = false) := hidOf (by rw [← hB]; simp [h2])
        have b2 : (va == va') = false := by simp [h2]
        clear hB hg
        go_enter Try.func63, Try.ntmps63
        go_wp2_with (go_at_call 62; refine (HE.out _ (below2 w _ _)).mono ?_; rintro e w1 ⟨rfl, hb⟩; obtain ⟨hp, hq, hbw, hz⟩ := two_boxes (cs := [.int .i64 co, .int .i64 va, .slice ga al.length gc]) (ds := [.int .i64 co, .int .i64 va', .slice gb al'.length gd]) hb; have HBW := hidOf hbw; have p0 : w1.cell? ⟨w.heap.size, 0, none⟩ = some (.int .i64 co) := hp 0 _ rfl; have q0 : w1.cell? ⟨w.heap.size + 1, 0, none⟩ = some (.int .i64 co) := hq 0 _ rfl; have p1 : w1.cell? ⟨w.heap.size, 1, none⟩ = some (.int .i64 va) := hp 1 _ rfl; have q1 : w1.cell? ⟨w.heap.size + 1, 1, none⟩ = some (.int .i64 va') := hq 1 _ rfl; clear hb hbw hp hq; rw [HD.out])
        go_ret
        exact ⟨by rw [HB.out]; rfl, HBW.out⟩
    · have HB : Hid (Bv = false) := hidOf (by rw [← hB]; simp [h1])
      have b1 : (co == co') = false := by simp [h1]
      clear hB hg
      go_enter Try.func63, Try.ntmps63
      go_wp2_with (go_at_call 62; refine (HE.out _ (below2 w _ _)).mono ?_; rintro e w1 ⟨rfl, hb⟩; obtain ⟨hp, hq, hbw, hz⟩ := two_boxes (cs := [.int .i64 co, .int .i64 va, .slice ga al.length gc]) (ds := [.int .i64 co', .int .i64 va', .slice gb al'.length gd]) hb; have HBW := hidOf hbw; have p0 : w1.cell? ⟨w.heap.size, 0, none⟩ = some (.int .i64 co) := hp 0 _ rfl; have q0 : w1.cell? ⟨w.heap.size + 1, 0, none⟩ = some (.int .i64 co') := hq 0 _ rfl; have p1 : w1.cell? ⟨w.heap.size, 1, none⟩ = some (.int .i64 va) := hp 1 _ rfl; have q1 : w1.cell? ⟨w.heap.size + 1, 1, none⟩ = some (.int .i64 va') := hq 1 _ rfl; clear hb hbw hp hq; rw [HD.out])
      go_ret
      exact ⟨by rw [HB.out]; rfl, HBW.out⟩
  · have HD := hidOf (decide_eq_false hg)
    have HB : Hid (Bv = false) := hidOf (by rw [← hB]; simp [hg])
    clear hB hg
    go_enter Try.func63, Try.ntmps63
    go_wp2_with (go_at_call 62; refine (HE.out _ (below2 w _ _)).mono ?_; rintro e w1 ⟨rfl, hb⟩; obtain ⟨hp, hq, hbw, hz⟩ := two_boxes (cs := [.int .i64 co, .int .i64 va, .slice ga al.length gc]) (ds := [.int .i64 co', .int .i64 va', .slice gb al'.length gd]) hb; have HBW := hidOf hbw; have p0 : w1.cell? ⟨w.heap.size, 0, none⟩ = some (.int .i64 co) := hp 0 _ rfl; have q0 : w1.cell? ⟨w.heap.size + 1, 0, none⟩ = some (.int .i64 co') := hq 0 _ rfl; have p1 : w1.cell? ⟨w.heap.size, 1, none⟩ = some (.int .i64 va) := hp 1 _ rfl; have q1 : w1.cell? ⟨w.heap.size + 1, 1, none⟩ = some (.int .i64 va') := hq 1 _ rfl; clear hb hbw hp hq; rw [HD.out])
    go_ret
    exact ⟨by rw [HB.out]; rfl, HBW.out⟩
end Go.Proofs.Ytkokkdekbilkjaa
