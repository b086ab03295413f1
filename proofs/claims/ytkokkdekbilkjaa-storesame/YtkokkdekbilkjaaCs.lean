/- Two stores are compared, by the code. -/
import Derived.Test.YtkokkdekbilkjaaEf
namespace Go.Proofs.Ytkokkdekbilkjaa
open Go.RowKit Go.Shelf
attribute [local go_sem] Oper.semAt_some
set_option maxRecDepth 100000 in
set_option maxHeartbeats 8000000 in
theorem same_any (s t : Sc) (J B J' B' : List Js) (X X' : List Ss) (d e : St) (S : Nat → Prop) (w : World) (hS : ∀ b, S b → b < w.heap.size) (hs : StR w S s J B X d) (ht : StR w S t J' B' X' e) :
    Calls Try.prog 29 #[.agg #[.int .i64 s.ix, .int .i64 s.nx, .slice s.a2 s.n2 s.c2, .slice s.a3 s.n3 s.c3, .slice s.a4 s.n4 s.c4, .slice s.a5 s.n5 s.c5, .slice s.a6 s.n6 s.c6, .slice s.a7 s.n7 s.c7, .slice s.a8 s.n8 s.c8], .agg #[.int .i64 t.ix, .int .i64 t.nx, .slice t.a2 t.n2 t.c2, .slice t.a3 t.n3 t.c3, .slice t.a4 t.n4 t.c4, .slice t.a5 t.n5 t.c5, .slice t.a6 t.n6 t.c6, .slice t.a7 t.n7 t.c7, .slice t.a8 t.n8 t.c8]] w fun r w' => r = .returned (.bool (decide (d = e))) ∧ Below w.heap.size w w' := by
  obtain ⟨ix, nx, a2, n2, c2, a3, n3, c3, a4, n4, c4, a5, n5, c5, a6, n6, c6, a7, n7, c7, a8, n8, c8⟩ := s
  obtain ⟨eix, enx, dj, db, dn, da, de, dd, dx⟩ := d
  obtain ⟨h0, h1, h2, h3, h4, h5, h6, h7, h8⟩ : ix = eix ∧ nx = enx ∧ n2 = J.length ∧ n3 = B.length ∧ n4 = dn.length ∧ n5 = da.length ∧ n6 = de.length ∧ n7 = dd.length ∧ n8 = X.length := ⟨hs.ix, hs.nx, hs.f.n2, hs.f.n3, hs.f.n4, hs.f.n5, hs.f.n6, hs.f.n7, hs.f.n8⟩
  subst h0 h1 h2 h3 h4 h5 h6 h7 h8
  obtain ⟨ix', nx', a2', n2', c2', a3', n3', c3', a4', n4', c4', a5', n5', c5', a6', n6', c6', a7', n7', c7', a8', n8', c8'⟩ := t
  obtain ⟨eix', enx', dj', db', dn', da', de', dd', dx'⟩ := e
  obtain ⟨h0, h1, h2, h3, h4, h5, h6, h7, h8⟩ : ix' = eix' ∧ nx' = enx' ∧ n2' = J'.length ∧ n3' = B'.length ∧ n4' = dn'.length ∧ n5' = da'.length ∧ n6' = de'.length ∧ n7' = dd'.length ∧ n8' = X'.length := ⟨ht.ix, ht.nx, ht.f.n2, ht.f.n3, ht.f.n4, ht.f.n5, ht.f.n6, ht.f.n7, ht.f.n8⟩
  subst h0 h1 h2 h3 h4 h5 h6 h7 h8
  have E0 := hidOf (fun (W : World) (hW : Below w.heap.size w W) => eq53_any a2 a2' c2 c2' J J' dj dj' S W (fun b hb => Nat.lt_of_lt_of_le (hS b hb) hW.size) (hs.j.kept (fun b hb => hW.block b (hS b hb)) (fun b (hb : S b) => hb)) (ht.j.kept (fun b hb => hW.block b (hS b hb)) (fun b (hb : S b) => hb)))
  have E1 := hidOf (fun (W : World) (hW : Below w.heap.size w W) => eq53_any a3 a3' c3 c3' B B' db db' S W (fun b hb => Nat.lt_of_lt_of_le (hS b hb) hW.size) (hs.b.kept (fun b hb => hW.block b (hS b hb)) (fun b (hb : S b) => hb)) (ht.b.kept (fun b hb => hW.block b (hS b hb)) (fun b (hb : S b) => hb)))
  have E2 := hidOf (fun (W : World) (hW : Below w.heap.size w W) => eq55_any a4 a4' c4 c4' dn dn' S W (hs.f.f4.kept (fun b hb => hW.block b (hS b hb)) (fun b (hb : S b) => hb)) (ht.f.f4.kept (fun b hb => hW.block b (hS b hb)) (fun b (hb : S b) => hb)))
  have E3 := hidOf (fun (W : World) (hW : Below w.heap.size w W) => eq56_any a5 a5' c5 c5' da da' S W (hs.f.f5.kept (fun b hb => hW.block b (hS b hb)) (fun b (hb : S b) => hb)) (ht.f.f5.kept (fun b hb => hW.block b (hS b hb)) (fun b (hb : S b) => hb)))
  have E4 := hidOf (fun (W : World) (hW : Below w.heap.size w W) => eq57_any a6 a6' c6 c6' de de' S W (hs.f.f6.kept (fun b hb => hW.block b (hS b hb)) (fun b (hb : S b) => hb)) (ht.f.f6.kept (fun b hb => hW.block b (hS b hb)) (fun b (hb : S b) => hb)))
  have E5 := hidOf (fun (W : World) (hW : Below w.heap.size w W) => eq58_any a7 a7' c7 c7' dd dd' S W (hs.f.f7.kept (fun b hb => hW.block b (hS b hb)) (fun b (hb : S b) => hb)) (ht.f.f7.kept (fun b hb => hW.block b (hS b hb)) (fun b (hb : S b) => hb)))
  have E6 := hidOf (fun (W : World) (hW : Below w.heap.size w W) => eq59_any a8 a8' c8 c8' X X' dx dx' S W (fun b hb => Nat.lt_of_lt_of_le (hS b hb) hW.size) (hs.x.kept (fun b hb => hW.block b (hS b hb)) (fun b (hb : S b) => hb)) (ht.x.kept (fun b hb => hW.block b (hS b hb)) (fun b (hb : S b) => hb)))
  clear hs ht hS
  dsimp only
  generalize hB : decide ((⟨ix, nx, dj, db, dn, da, de, dd, dx⟩ : St) = ⟨ix', nx', dj', db', dn', da', de', dd', dx'⟩) = Bv
  by_cases h0 : ix = ix'
  · subst h0
    by_cases h1 : nx = nx'
    · subst h1
      by_cases g0 : dj = dj'
      · have D0 := hidOf (decide_eq_true g0)
        by_cases g1 : db = db'
        · have D1 := hidOf (decide_eq_true g1)
          by_cases g2 : dn = dn'
          · have D2 := hidOf (decide_eq_true g2)
            by_cases g3 : da = da'
            · have D3 := hidOf (decide_eq_true g3)
              by_cases g4 : de = de'
              · have D4 := hidOf (decide_eq_true g4)
                by_cases g5 : dd = dd'
                · have D5 := hidOf (decide_eq_true g5)
                  by_cases g6 : dx = dx'
                  · have D6 := hidOf (decide_eq_true g6)
                    have HB : Hid (Bv = true) := hidOf (by rw [← hB]; simp [g0, g1, g2, g3, g4, g5, g6])
                    clear hB g0 g1 g2 g3 g4 g5 g6
                    have Z0 := hidOf (FdS.begin w [.int .i64 ix, .int .i64 nx, .slice a2 J.length c2, .slice a3 B.length c3, .slice a4 dn.length c4, .slice a5 da.length c5, .slice a6 de.length c6, .slice a7 dd.length c7, .slice a8 X.length c8] [.int .i64 ix, .int .i64 nx, .slice a2' J'.length c2', .slice a3' B'.length c3', .slice a4' dn'.length c4', .slice a5' da'.length c5', .slice a6' de'.length c6', .slice a7' dd'.length c7', .slice a8' X'.length c8'] 29 29)
                    go_enter Try.func29, Try.ntmps29
                    go_wp2_with (first
                      | (go_at_call 53; refine (E0.out _ Z0.out.b).mono ?_; rintro e z1 ⟨rfl, hb⟩; have Z1 := hidOf (Z0.out.grow hb); clear hb E0; rw [D0.out]; have sj : z1.cell? ⟨w.heap.size, 3, none⟩ = some (.slice a3 B.length c3) := Z1.out.s 3 _ rfl; have tj : z1.cell? ⟨w.heap.size + 1, 3, none⟩ = some (.slice a3' B'.length c3') := Z1.out.a 3 _ rfl; have ll : w.heap.size + 1 < z1.heap.size := Z1.out.l; have ll0 : w.heap.size < z1.heap.size := by omega)
                      | (go_at_call 53; refine (E1.out _ Z1.out.b).mono ?_; rintro e z2 ⟨rfl, hb⟩; have Z2 := hidOf (Z1.out.grow hb); clear hb E1 sj tj ll ll0; rw [D1.out]; have sj : z2.cell? ⟨w.heap.size, 4, none⟩ = some (.slice a4 dn.length c4) := Z2.out.s 4 _ rfl; have tj : z2.cell? ⟨w.heap.size + 1, 4, none⟩ = some (.slice a4' dn'.length c4') := Z2.out.a 4 _ rfl; have ll : w.heap.size + 1 < z2.heap.size := Z2.out.l; have ll0 : w.heap.size < z2.heap.size := by omega)
                      | (go_at_call 55; refine (E2.out _ Z2.out.b).mono ?_; rintro e z3 ⟨rfl, hb⟩; have Z3 := hidOf (Z2.out.grow hb); clear hb E2 sj tj ll ll0; rw [D2.out]; have sj : z3.cell? ⟨w.heap.size, 5, none⟩ = some (.slice a5 da.length c5) := Z3.out.s 5 _ rfl; have tj : z3.cell? ⟨w.heap.size + 1, 5, none⟩ = some (.slice a5' da'.length c5') := Z3.out.a 5 _ rfl; have ll : w.heap.size + 1 < z3.heap.size := Z3.out.l; have ll0 : w.heap.size < z3.heap.size := by omega)
                      | (go_at_call 56; refine (E3.out _ Z3.out.b).mono ?_; rintro e z4 ⟨rfl, hb⟩; have Z4 := hidOf (Z3.out.grow hb); clear hb E3 sj tj ll ll0; rw [D3.out]; have sj : z4.cell? ⟨w.heap.size, 6, none⟩ = some (.slice a6 de.length c6) := Z4.out.s 6 _ rfl; have tj : z4.cell? ⟨w.heap.size + 1, 6, none⟩ = some (.slice a6' de'.length c6') := Z4.out.a 6 _ rfl; have ll : w.heap.size + 1 < z4.heap.size := Z4.out.l; have ll0 : w.heap.size < z4.heap.size := by omega)
                      | (go_at_call 57; refine (E4.out _ Z4.out.b).mono ?_; rintro e z5 ⟨rfl, hb⟩; have Z5 := hidOf (Z4.out.grow hb); clear hb E4 sj tj ll ll0; rw [D4.out]; have sj : z5.cell? ⟨w.heap.size, 7, none⟩ = some (.slice a7 dd.length c7) := Z5.out.s 7 _ rfl; have tj : z5.cell? ⟨w.heap.size + 1, 7, none⟩ = some (.slice a7' dd'.length c7') := Z5.out.a 7 _ rfl; have ll : w.heap.size + 1 < z5.heap.size := Z5.out.l; have ll0 : w.heap.size < z5.heap.size := by omega)
                      | (go_at_call 58; refine (E5.out _ Z5.out.b).mono ?_; rintro e z6 ⟨rfl, hb⟩; have Z6 := hidOf (Z5.out.grow hb); clear hb E5 sj tj ll ll0; rw [D5.out]; have sj : z6.cell? ⟨w.heap.size, 8, none⟩ = some (.slice a8 X.length c8) := Z6.out.s 8 _ rfl; have tj : z6.cell? ⟨w.heap.size + 1, 8, none⟩ = some (.slice a8' X'.length c8') := Z6.out.a 8 _ rfl; have ll : w.heap.size + 1 < z6.heap.size := Z6.out.l; have ll0 : w.heap.size < z6.heap.size := by omega)
                      | (go_at_call 59; refine (E6.out _ Z6.out.b).mono ?_; rintro e z7 ⟨rfl, hb⟩; have Z7 := hidOf (Z6.out.grow hb); clear hb E6 sj tj ll ll0; rw [D6.out]))
                    go_ret
                    exact ⟨by rw [HB.out]; rfl, Z7.out.b⟩
                  · have D6 := hidOf (decide_eq_false g6)
                    have HB : Hid (Bv = false) := hidOf (by rw [← hB]; simp [g6])
                    clear hB g0 g1 g2 g3 g4 g5 g6
                    have Z0 := hidOf (FdS.begin w [.int .i64 ix, .int .i64 nx, .slice a2 J.length c2, .slice a3 B.length c3, .slice a4 dn.length c4, .slice a5 da.length c5, .slice a6 de.length c6, .slice a7 dd.length c7, .slice a8 X.length c8] [.int .i64 ix, .int .i64 nx, .slice a2' J'.length c2', .slice a3' B'.length c3', .slice a4' dn'.length c4', .slice a5' da'.length c5', .slice a6' de'.length c6', .slice a7' dd'.length c7', .slice a8' X'.length c8'] 29 29)
                    go_enter Try.func29, Try.ntmps29
                    go_wp2_with (first
                      | (go_at_call 53; refine (E0.out _ Z0.out.b).mono ?_; rintro e z1 ⟨rfl, hb⟩; have Z1 := hidOf (Z0.out.grow hb); clear hb E0; rw [D0.out]; have sj : z1.cell? ⟨w.heap.size, 3, none⟩ = some (.slice a3 B.length c3) := Z1.out.s 3 _ rfl; have tj : z1.cell? ⟨w.heap.size + 1, 3, none⟩ = some (.slice a3' B'.length c3') := Z1.out.a 3 _ rfl; have ll : w.heap.size + 1 < z1.heap.size := Z1.out.l; have ll0 : w.heap.size < z1.heap.size := by omega)
                      | (go_at_call 53; refine (E1.out _ Z1.out.b).mono ?_; rintro e z2 ⟨rfl, hb⟩; have Z2 := hidOf (Z1.out.grow hb); clear hb E1 sj tj ll ll0; rw [D1.out]; have sj : z2.cell? ⟨w.heap.size, 4, none⟩ = some (.slice a4 dn.length c4) := Z2.out.s 4 _ rfl; have tj : z2.cell? ⟨w.heap.size + 1, 4, none⟩ = some (.slice a4' dn'.length c4') := Z2.out.a 4 _ rfl; have ll : w.heap.size + 1 < z2.heap.size := Z2.out.l; have ll0 : w.heap.size < z2.heap.size := by omega)
                      | (go_at_call 55; refine (E2.out _ Z2.out.b).mono ?_; rintro e z3 ⟨rfl, hb⟩; have Z3 := hidOf (Z2.out.grow hb); clear hb E2 sj tj ll ll0; rw [D2.out]; have sj : z3.cell? ⟨w.heap.size, 5, none⟩ = some (.slice a5 da.length c5) := Z3.out.s 5 _ rfl; have tj : z3.cell? ⟨w.heap.size + 1, 5, none⟩ = some (.slice a5' da'.length c5') := Z3.out.a 5 _ rfl; have ll : w.heap.size + 1 < z3.heap.size := Z3.out.l; have ll0 : w.heap.size < z3.heap.size := by omega)
                      | (go_at_call 56; refine (E3.out _ Z3.out.b).mono ?_; rintro e z4 ⟨rfl, hb⟩; have Z4 := hidOf (Z3.out.grow hb); clear hb E3 sj tj ll ll0; rw [D3.out]; have sj : z4.cell? ⟨w.heap.size, 6, none⟩ = some (.slice a6 de.length c6) := Z4.out.s 6 _ rfl; have tj : z4.cell? ⟨w.heap.size + 1, 6, none⟩ = some (.slice a6' de'.length c6') := Z4.out.a 6 _ rfl; have ll : w.heap.size + 1 < z4.heap.size := Z4.out.l; have ll0 : w.heap.size < z4.heap.size := by omega)
                      | (go_at_call 57; refine (E4.out _ Z4.out.b).mono ?_; rintro e z5 ⟨rfl, hb⟩; have Z5 := hidOf (Z4.out.grow hb); clear hb E4 sj tj ll ll0; rw [D4.out]; have sj : z5.cell? ⟨w.heap.size, 7, none⟩ = some (.slice a7 dd.length c7) := Z5.out.s 7 _ rfl; have tj : z5.cell? ⟨w.heap.size + 1, 7, none⟩ = some (.slice a7' dd'.length c7') := Z5.out.a 7 _ rfl; have ll : w.heap.size + 1 < z5.heap.size := Z5.out.l; have ll0 : w.heap.size < z5.heap.size := by omega)
                      | (go_at_call 58; refine (E5.out _ Z5.out.b).mono ?_; rintro e z6 ⟨rfl, hb⟩; have Z6 := hidOf (Z5.out.grow hb); clear hb E5 sj tj ll ll0; rw [D5.out]; have sj : z6.cell? ⟨w.heap.size, 8, none⟩ = some (.slice a8 X.length c8) := Z6.out.s 8 _ rfl; have tj : z6.cell? ⟨w.heap.size + 1, 8, none⟩ = some (.slice a8' X'.length c8') := Z6.out.a 8 _ rfl; have ll : w.heap.size + 1 < z6.heap.size := Z6.out.l; have ll0 : w.heap.size < z6.heap.size := by omega)
                      | (go_at_call 59; refine (E6.out _ Z6.out.b).mono ?_; rintro e z7 ⟨rfl, hb⟩; have Z7 := hidOf (Z6.out.grow hb); clear hb E6 sj tj ll ll0; rw [D6.out]))
                    go_ret
                    exact ⟨by rw [HB.out]; rfl, Z7.out.b⟩
                · have D5 := hidOf (decide_eq_false g5)
                  have HB : Hid (Bv = false) := hidOf (by rw [← hB]; simp [g5])
                  clear hB g0 g1 g2 g3 g4 g5
                  have Z0 := hidOf (FdS.begin w [.int .i64 ix, .int .i64 nx, .slice a2 J.length c2, .slice a3 B.length c3, .slice a4 dn.length c4, .slice a5 da.length c5, .slice a6 de.length c6, .slice a7 dd.length c7, .slice a8 X.length c8] [.int .i64 ix, .int .i64 nx, .slice a2' J'.length c2', .slice a3' B'.length c3', .slice a4' dn'.length c4', .slice a5' da'.length c5', .slice a6' de'.length c6', .slice a7' dd'.length c7', .slice a8' X'.length c8'] 29 29)
                  go_enter Try.func29, Try.ntmps29
                  go_wp2_with (first
                    | (go_at_call 53; refine (E0.out _ Z0.out.b).mono ?_; rintro e z1 ⟨rfl, hb⟩; have Z1 := hidOf (Z0.out.grow hb); clear hb E0; rw [D0.out]; have sj : z1.cell? ⟨w.heap.size, 3, none⟩ = some (.slice a3 B.length c3) := Z1.out.s 3 _ rfl; have tj : z1.cell? ⟨w.heap.size + 1, 3, none⟩ = some (.slice a3' B'.length c3') := Z1.out.a 3 _ rfl; have ll : w.heap.size + 1 < z1.heap.size := Z1.out.l; have ll0 : w.heap.size < z1.heap.size := by omega)
                    | (go_at_call 53; refine (E1.out _ Z1.out.b).mono ?_; rintro e z2 ⟨rfl, hb⟩; have Z2 := hidOf (Z1.out.grow hb); clear hb E1 sj tj ll ll0; rw [D1.out]; have sj : z2.cell? ⟨w.heap.size, 4, none⟩ = some (.slice a4 dn.length c4) := Z2.out.s 4 _ rfl; have tj : z2.cell? ⟨w.heap.size + 1, 4, none⟩ = some (.slice a4' dn'.length c4') := Z2.out.a 4 _ rfl; have ll : w.heap.size + 1 < z2.heap.size := Z2.out.l; have ll0 : w.heap.size < z2.heap.size := by omega)
                    | (go_at_call 55; refine (E2.out _ Z2.out.b).mono ?_; rintro e z3 ⟨rfl, hb⟩; have Z3 := hidOf (Z2.out.grow hb); clear hb E2 sj tj ll ll0; rw [D2.out]; have sj : z3.cell? ⟨w.heap.size, 5, none⟩ = some (.slice a5 da.length c5) := Z3.out.s 5 _ rfl; have tj : z3.cell? ⟨w.heap.size + 1, 5, none⟩ = some (.slice a5' da'.length c5') := Z3.out.a 5 _ rfl; have ll : w.heap.size + 1 < z3.heap.size := Z3.out.l; have ll0 : w.heap.size < z3.heap.size := by omega)
                    | (go_at_call 56; refine (E3.out _ Z3.out.b).mono ?_; rintro e z4 ⟨rfl, hb⟩; have Z4 := hidOf (Z3.out.grow hb); clear hb E3 sj tj ll ll0; rw [D3.out]; have sj : z4.cell? ⟨w.heap.size, 6, none⟩ = some (.slice a6 de.length c6) := Z4.out.s 6 _ rfl; have tj : z4.cell? ⟨w.heap.size + 1, 6, none⟩ = some (.slice a6' de'.length c6') := Z4.out.a 6 _ rfl; have ll : w.heap.size + 1 < z4.heap.size := Z4.out.l; have ll0 : w.heap.size < z4.heap.size := by omega)
                    | (go_at_call 57; refine (E4.out _ Z4.out.b).mono ?_; rintro e z5 ⟨rfl, hb⟩; have Z5 := hidOf (Z4.out.grow hb); clear hb E4 sj tj ll ll0; rw [D4.out]; have sj : z5.cell? ⟨w.heap.size, 7, none⟩ = some (.slice a7 dd.length c7) := Z5.out.s 7 _ rfl; have tj : z5.cell? ⟨w.heap.size + 1, 7, none⟩ = some (.slice a7' dd'.length c7') := Z5.out.a 7 _ rfl; have ll : w.heap.size + 1 < z5.heap.size := Z5.out.l; have ll0 : w.heap.size < z5.heap.size := by omega)
                    | (go_at_call 58; refine (E5.out _ Z5.out.b).mono ?_; rintro e z6 ⟨rfl, hb⟩; have Z6 := hidOf (Z5.out.grow hb); clear hb E5 sj tj ll ll0; rw [D5.out]))
                  go_ret
                  exact ⟨by rw [HB.out]; rfl, Z6.out.b⟩
              · have D4 := hidOf (decide_eq_false g4)
                have HB : Hid (Bv = false) := hidOf (by rw [← hB]; simp [g4])
                clear hB g0 g1 g2 g3 g4
                have Z0 := hidOf (FdS.begin w [.int .i64 ix, .int .i64 nx, .slice a2 J.length c2, .slice a3 B.length c3, .slice a4 dn.length c4, .slice a5 da.length c5, .slice a6 de.length c6, .slice a7 dd.length c7, .slice a8 X.length c8] [.int .i64 ix, .int .i64 nx, .slice a2' J'.length c2', .slice a3' B'.length c3', .slice a4' dn'.length c4', .slice a5' da'.length c5', .slice a6' de'.length c6', .slice a7' dd'.length c7', .slice a8' X'.length c8'] 29 29)
                go_enter Try.func29, Try.ntmps29
                go_wp2_with (first
                  | (go_at_call 53; refine (E0.out _ Z0.out.b).mono ?_; rintro e z1 ⟨rfl, hb⟩; have Z1 := hidOf (Z0.out.grow hb); clear hb E0; rw [D0.out]; have sj : z1.cell? ⟨w.heap.size, 3, none⟩ = some (.slice a3 B.length c3) := Z1.out.s 3 _ rfl; have tj : z1.cell? ⟨w.heap.size + 1, 3, none⟩ = some (.slice a3' B'.length c3') := Z1.out.a 3 _ rfl; have ll : w.heap.size + 1 < z1.heap.size := Z1.out.l; have ll0 : w.heap.size < z1.heap.size := by omega)
                  | (go_at_call 53; refine (E1.out _ Z1.out.b).mono ?_; rintro e z2 ⟨rfl, hb⟩; have Z2 := hidOf (Z1.out.grow hb); clear hb E1 sj tj ll ll0; rw [D1.out]; have sj : z2.cell? ⟨w.heap.size, 4, none⟩ = some (.slice a4 dn.length c4) := Z2.out.s 4 _ rfl; have tj : z2.cell? ⟨w.heap.size + 1, 4, none⟩ = some (.slice a4' dn'.length c4') := Z2.out.a 4 _ rfl; have ll : w.heap.size + 1 < z2.heap.size := Z2.out.l; have ll0 : w.heap.size < z2.heap.size := by omega)
                  | (go_at_call 55; refine (E2.out _ Z2.out.b).mono ?_; rintro e z3 ⟨rfl, hb⟩; have Z3 := hidOf (Z2.out.grow hb); clear hb E2 sj tj ll ll0; rw [D2.out]; have sj : z3.cell? ⟨w.heap.size, 5, none⟩ = some (.slice a5 da.length c5) := Z3.out.s 5 _ rfl; have tj : z3.cell? ⟨w.heap.size + 1, 5, none⟩ = some (.slice a5' da'.length c5') := Z3.out.a 5 _ rfl; have ll : w.heap.size + 1 < z3.heap.size := Z3.out.l; have ll0 : w.heap.size < z3.heap.size := by omega)
                  | (go_at_call 56; refine (E3.out _ Z3.out.b).mono ?_; rintro e z4 ⟨rfl, hb⟩; have Z4 := hidOf (Z3.out.grow hb); clear hb E3 sj tj ll ll0; rw [D3.out]; have sj : z4.cell? ⟨w.heap.size, 6, none⟩ = some (.slice a6 de.length c6) := Z4.out.s 6 _ rfl; have tj : z4.cell? ⟨w.heap.size + 1, 6, none⟩ = some (.slice a6' de'.length c6') := Z4.out.a 6 _ rfl; have ll : w.heap.size + 1 < z4.heap.size := Z4.out.l; have ll0 : w.heap.size < z4.heap.size := by omega)
                  | (go_at_call 57; refine (E4.out _ Z4.out.b).mono ?_; rintro e z5 ⟨rfl, hb⟩; have Z5 := hidOf (Z4.out.grow hb); clear hb E4 sj tj ll ll0; rw [D4.out]))
                go_ret
                exact ⟨by rw [HB.out]; rfl, Z5.out.b⟩
            · have D3 := hidOf (decide_eq_false g3)
              have HB : Hid (Bv = false) := hidOf (by rw [← hB]; simp [g3])
              clear hB g0 g1 g2 g3
              have Z0 := hidOf (FdS.begin w [.int .i64 ix, .int .i64 nx, .slice a2 J.length c2, .slice a3 B.length c3, .slice a4 dn.length c4, .slice a5 da.length c5, .slice a6 de.length c6, .slice a7 dd.length c7, .slice a8 X.length c8] [.int .i64 ix, .int .i64 nx, .slice a2' J'.length c2', .slice a3' B'.length c3', .slice a4' dn'.length c4', .slice a5' da'.length c5', .slice a6' de'.length c6', .slice a7' dd'.length c7', .slice a8' X'.length c8'] 29 29)
              go_enter Try.func29, Try.ntmps29
              go_wp2_with (first
                | (go_at_call 53; refine (E0.out _ Z0.out.b).mono ?_; rintro e z1 ⟨rfl, hb⟩; have Z1 := hidOf (Z0.out.grow hb); clear hb E0; rw [D0.out]; have sj : z1.cell? ⟨w.heap.size, 3, none⟩ = some (.slice a3 B.length c3) := Z1.out.s 3 _ rfl; have tj : z1.cell? ⟨w.heap.size + 1, 3, none⟩ = some (.slice a3' B'.length c3') := Z1.out.a 3 _ rfl; have ll : w.heap.size + 1 < z1.heap.size := Z1.out.l; have ll0 : w.heap.size < z1.heap.size := by omega)
                | (go_at_call 53; refine (E1.out _ Z1.out.b).mono ?_; rintro e z2 ⟨rfl, hb⟩; have Z2 := hidOf (Z1.out.grow hb); clear hb E1 sj tj ll ll0; rw [D1.out]; have sj : z2.cell? ⟨w.heap.size, 4, none⟩ = some (.slice a4 dn.length c4) := Z2.out.s 4 _ rfl; have tj : z2.cell? ⟨w.heap.size + 1, 4, none⟩ = some (.slice a4' dn'.length c4') := Z2.out.a 4 _ rfl; have ll : w.heap.size + 1 < z2.heap.size := Z2.out.l; have ll0 : w.heap.size < z2.heap.size := by omega)
                | (go_at_call 55; refine (E2.out _ Z2.out.b).mono ?_; rintro e z3 ⟨rfl, hb⟩; have Z3 := hidOf (Z2.out.grow hb); clear hb E2 sj tj ll ll0; rw [D2.out]; have sj : z3.cell? ⟨w.heap.size, 5, none⟩ = some (.slice a5 da.length c5) := Z3.out.s 5 _ rfl; have tj : z3.cell? ⟨w.heap.size + 1, 5, none⟩ = some (.slice a5' da'.length c5') := Z3.out.a 5 _ rfl; have ll : w.heap.size + 1 < z3.heap.size := Z3.out.l; have ll0 : w.heap.size < z3.heap.size := by omega)
                | (go_at_call 56; refine (E3.out _ Z3.out.b).mono ?_; rintro e z4 ⟨rfl, hb⟩; have Z4 := hidOf (Z3.out.grow hb); clear hb E3 sj tj ll ll0; rw [D3.out]))
              go_ret
              exact ⟨by rw [HB.out]; rfl, Z4.out.b⟩
          · have D2 := hidOf (decide_eq_false g2)
            have HB : Hid (Bv = false) := hidOf (by rw [← hB]; simp [g2])
            clear hB g0 g1 g2
            have Z0 := hidOf (FdS.begin w [.int .i64 ix, .int .i64 nx, .slice a2 J.length c2, .slice a3 B.length c3, .slice a4 dn.length c4, .slice a5 da.length c5, .slice a6 de.length c6, .slice a7 dd.length c7, .slice a8 X.length c8] [.int .i64 ix, .int .i64 nx, .slice a2' J'.length c2', .slice a3' B'.length c3', .slice a4' dn'.length c4', .slice a5' da'.length c5', .slice a6' de'.length c6', .slice a7' dd'.length c7', .slice a8' X'.length c8'] 29 29)
            go_enter Try.func29, Try.ntmps29
            go_wp2_with (first
              | (go_at_call 53; refine (E0.out _ Z0.out.b).mono ?_; rintro e z1 ⟨rfl, hb⟩; have Z1 := hidOf (Z0.out.grow hb); clear hb E0; rw [D0.out]; have sj : z1.cell? ⟨w.heap.size, 3, none⟩ = some (.slice a3 B.length c3) := Z1.out.s 3 _ rfl; have tj : z1.cell? ⟨w.heap.size + 1, 3, none⟩ = some (.slice a3' B'.length c3') := Z1.out.a 3 _ rfl; have ll : w.heap.size + 1 < z1.heap.size := Z1.out.l; have ll0 : w.heap.size < z1.heap.size := by omega)
              | (go_at_call 53; refine (E1.out _ Z1.out.b).mono ?_; rintro e z2 ⟨rfl, hb⟩; have Z2 := hidOf (Z1.out.grow hb); clear hb E1 sj tj ll ll0; rw [D1.out]; have sj : z2.cell? ⟨w.heap.size, 4, none⟩ = some (.slice a4 dn.length c4) := Z2.out.s 4 _ rfl; have tj : z2.cell? ⟨w.heap.size + 1, 4, none⟩ = some (.slice a4' dn'.length c4') := Z2.out.a 4 _ rfl; have ll : w.heap.size + 1 < z2.heap.size := Z2.out.l; have ll0 : w.heap.size < z2.heap.size := by omega)
              | (go_at_call 55; refine (E2.out _ Z2.out.b).mono ?_; rintro e z3 ⟨rfl, hb⟩; have Z3 := hidOf (Z2.out.grow hb); clear hb E2 sj tj ll ll0; rw [D2.out]))
            go_ret
            exact ⟨by rw [HB.out]; rfl, Z3.out.b⟩
        · have D1 := hidOf (decide_eq_false g1)
          have HB : Hid (Bv = false) := hidOf (by rw [← hB]; simp [g1])
          clear hB g0 g1
          have Z0 := hidOf (FdS.begin w [.int .i64 ix, .int .i64 nx, .slice a2 J.length c2, .slice a3 B.length c3, .slice a4 dn.length c4, .slice a5 da.length c5, .slice a6 de.length c6, .slice a7 dd.length c7, .slice a8 X.length c8] [.int .i64 ix, .int .i64 nx, .slice a2' J'.length c2', .slice a3' B'.length c3', .slice a4' dn'.length c4', .slice a5' da'.length c5', .slice a6' de'.length c6', .slice a7' dd'.length c7', .slice a8' X'.length c8'] 29 29)
          go_enter Try.func29, Try.ntmps29
          go_wp2_with (first
            | (go_at_call 53; refine (E0.out _ Z0.out.b).mono ?_; rintro e z1 ⟨rfl, hb⟩; have Z1 := hidOf (Z0.out.grow hb); clear hb E0; rw [D0.out]; have sj : z1.cell? ⟨w.heap.size, 3, none⟩ = some (.slice a3 B.length c3) := Z1.out.s 3 _ rfl; have tj : z1.cell? ⟨w.heap.size + 1, 3, none⟩ = some (.slice a3' B'.length c3') := Z1.out.a 3 _ rfl; have ll : w.heap.size + 1 < z1.heap.size := Z1.out.l; have ll0 : w.heap.size < z1.heap.size := by omega)
            | (go_at_call 53; refine (E1.out _ Z1.out.b).mono ?_; rintro e z2 ⟨rfl, hb⟩; have Z2 := hidOf (Z1.out.grow hb); clear hb E1 sj tj ll ll0; rw [D1.out]))
          go_ret
          exact ⟨by rw [HB.out]; rfl, Z2.out.b⟩
      · have D0 := hidOf (decide_eq_false g0)
        have HB : Hid (Bv = false) := hidOf (by rw [← hB]; simp [g0])
        clear hB g0
        have Z0 := hidOf (FdS.begin w [.int .i64 ix, .int .i64 nx, .slice a2 J.length c2, .slice a3 B.length c3, .slice a4 dn.length c4, .slice a5 da.length c5, .slice a6 de.length c6, .slice a7 dd.length c7, .slice a8 X.length c8] [.int .i64 ix, .int .i64 nx, .slice a2' J'.length c2', .slice a3' B'.length c3', .slice a4' dn'.length c4', .slice a5' da'.length c5', .slice a6' de'.length c6', .slice a7' dd'.length c7', .slice a8' X'.length c8'] 29 29)
        go_enter Try.func29, Try.ntmps29
        go_wp2_with (first
          | (go_at_call 53; refine (E0.out _ Z0.out.b).mono ?_; rintro e z1 ⟨rfl, hb⟩; have Z1 := hidOf (Z0.out.grow hb); clear hb E0; rw [D0.out]))
        go_ret
        exact ⟨by rw [HB.out]; rfl, Z1.out.b⟩
    · have HB : Hid (Bv = false) := hidOf (by rw [← hB]; simp [h1])
      clear hB
      go_enter Try.func29, Try.ntmps29
      go_wp2
      go_ret
      exact ⟨by rw [HB.out]; rfl, below2 w _ _⟩
  · have HB : Hid (Bv = false) := hidOf (by rw [← hB]; simp [h0])
    clear hB
    go_enter Try.func29, Try.ntmps29
    go_wp2
    go_ret
    exact ⟨by rw [HB.out]; rfl, below2 w _ _⟩
end Go.Proofs.Ytkokkdekbilkjaa
