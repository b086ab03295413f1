/- The code's Copy: a store in memory of its own. -/
import Derived.Test.YtkokkdekbilkjaaOw
import Derived.Test.YtkokkdekbilkjaaRgm
import Derived.Deep.Cut
namespace Go.Proofs.Ytkokkdekbilkjaa
open Go.RowKit Go.Shelf
attribute [local go_sem] Oper.semAt_some
/- a store in memory of one's own -/
structure OwS (lo : Nat) (w : World) (s : Sc) (J B : List Js) (X : List Ss) (d : St) : Prop where
  ix : s.ix = d.ix
  nx : s.nx = d.nx
  n2 : s.n2 = J.length
  n3 : s.n3 = B.length
  n4 : s.n4 = d.nodes.length
  n5 : s.n5 = d.allocs.length
  n6 : s.n6 = d.evals.length
  n7 : s.n7 = d.deps.length
  n8 : s.n8 = X.length
  lj : J.length = d.jobs.length
  lb : B.length = d.stab.length
  lx : X.length = d.seen.length
  j : CpR 55 7 Js.cs 57 3 24 Gp.cs Jb.gs Jb.sh lo w s.a2 s.c2 J d.jobs
  b : CpR 55 7 Js.cs 57 3 24 Gp.cs Jb.gs Jb.sh lo w s.a3 s.c3 B d.stab
  n : w.ownsRow lo 64 8 (.slice s.a4 d.nodes.length s.c4) d.nodes.length (fl Nd.cs d.nodes)
  a : w.ownsRow lo 33 11 (.slice s.a5 d.allocs.length s.c5) d.allocs.length (fl Al.cs d.allocs)
  e : w.ownsRow lo 69 4 (.slice s.a6 d.evals.length s.c6) d.evals.length (fl Qd.cs d.evals)
  p : w.ownsRow lo 73 4 (.slice s.a7 d.deps.length s.c7) d.deps.length (fl Qd.cs d.deps)
  x : CpR 52 5 Ss.cs 33 11 88 Al.cs Sn.al Sn.sh lo w s.a8 s.c8 X d.seen
  df : ∀ g, s.a2 = some ⟨g, 0, none⟩ → s.a3 ≠ some ⟨g, 0, none⟩
  bj : J.length * 72 ≤ 140737488355328
  bb : B.length * 72 ≤ 140737488355328
  bn : d.nodes.length * 56 ≤ 140737488355328
  ba : d.allocs.length * 88 ≤ 140737488355328
  be : d.evals.length * 32 ≤ 140737488355328
  bp : d.deps.length * 32 ≤ 140737488355328
  bx : X.length * 56 ≤ 140737488355328
theorem OwS.str {lo : Nat} {w : World} {s : Sc} {J B : List Js} {X : List Ss} {d : St} (h : OwS lo w s J B X d) : StR w (NBr lo w) s J B X d := by
  have j2 := cp_jb h.j h.lj h.bj (Nat.le_refl _)
  have j3 := cp_jb h.b h.lb h.bb (Nat.le_refl _)
  have j8 := cp_sn h.x h.lx h.bx (Nat.le_refl _)
  exact ⟨h.ix, h.nx, ⟨h.n2, h.n3, h.n4, h.n5, h.n6, h.n7, h.n8, j2.row, j3.row, nb_fl (own_fl Nd.len h.n h.bn) (Nat.le_refl _), nb_fl (own_fl Al.len h.a h.ba) (Nat.le_refl _), nb_fl (own_fl Qd.len h.e h.be) (Nat.le_refl _), nb_fl (own_fl Qd.len h.p h.bp) (Nat.le_refl _), j8.row⟩, j2, j3, j8⟩
def CcP (w : World) (r : Ending) (w' : World) (d : St) : Prop := ∃ (s : Sc) (J B : List Js) (X : List Ss), r = .returned (.agg #[.int .i64 s.ix, .int .i64 s.nx, .slice s.a2 s.n2 s.c2, .slice s.a3 s.n3 s.c3, .slice s.a4 s.n4 s.c4, .slice s.a5 s.n5 s.c5, .slice s.a6 s.n6 s.c6, .slice s.a7 s.n7 s.c7, .slice s.a8 s.n8 s.c8]) ∧ OwS w.heap.size w' s J B X d ∧ Below w.heap.size w w'
/- the boxes: what is copied, the result -/
structure Bx2 (w W : World) (st : List Value) : Prop where
  s : W.heap[w.heap.size]? = some (.cells st.toArray 29 (0, 0))
  r : W.heap[w.heap.size + 1]? = some (.cells #[.int .i64 0, .int .i64 0, .slice none 0 0, .slice none 0 0, .slice none 0 0, .slice none 0 0, .slice none 0 0, .slice none 0 0, .slice none 0 0] 29 (0, 0))
  b : Below w.heap.size w W
theorem Bx2.z {w W : World} {st : List Value} (h : Bx2 w W st) : w.heap.size + 2 ≤ W.heap.size := heap_lt h.r
theorem Bx2.grow {w W W' : World} {st : List Value} (h : Bx2 w W st) (hb : Below W.heap.size W W') : Bx2 w W' st :=
  ⟨(hb.block _ (heap_lt h.s)).trans h.s, (hb.block _ (heap_lt h.r)).trans h.r, h.b.trans (hb.mono h.b.size)⟩
theorem Bx2.keep {w W W' : World} {st : List Value} (h : Bx2 w W st) (hb : Below (w.heap.size + 2) W W') : Bx2 w W' st :=
  ⟨(hb.block _ (by omega)).trans h.s, (hb.block _ (by omega)).trans h.r, h.b.trans (hb.mono (by omega))⟩
theorem Bx2.set {w W : World} {st : List Value} (h : Bx2 w W st) (j : Nat) (v : Value) : Bx2 w (W.setCell ⟨w.heap.size, j, none⟩ v) (st.set j v) := by
  refine ⟨?_, (heap_setCell_other W ⟨w.heap.size, j, none⟩ _ v (by show w.heap.size + 1 ≠ w.heap.size; omega)).trans h.r, h.b.setCell (p := ⟨w.heap.size, j, none⟩) (Nat.le_refl _) v⟩
  have := heap_setCell_same W w.heap.size j st.toArray 29 v h.s
  rw [List.setIfInBounds_toArray] at this
  exact this
theorem Bx2.cs {w W : World} {st : List Value} (h : Bx2 w W st) : W.rangeAt w.heap.size 0 st := fun j v hj => by
  rw [cell_of_row W _ _ _ 29 (0, 0) h.s, Nat.zero_add]; simpa using hj
theorem Bx2.fs {w W : World} {st : List Value} (h : Bx2 w W st) (j : Nat) : W.frozen? ⟨w.heap.size, j, none⟩ = false := frozen_of_row W _ j _ 29 h.s
theorem Bx2.fr {w W : World} {st : List Value} (h : Bx2 w W st) (j : Nat) : W.frozen? ⟨w.heap.size + 1, j, none⟩ = false := frozen_of_row W _ j _ 29 h.r
theorem Bx2.begin (w : World) (st : List Value) : Bx2 w ((w.alloc (.cells st.toArray 29)).alloc (.cells #[.int .i64 0, .int .i64 0, .slice none 0 0, .slice none 0 0, .slice none 0 0, .slice none 0 0, .slice none 0 0, .slice none 0 0, .slice none 0 0] 29)) st := by
  refine ⟨alloc_at (heap_alloc_new w _) _, ?_, below2 w _ _⟩
  have := heap_alloc_new (w.alloc (.cells st.toArray 29)) (.cells #[.int .i64 0, .int .i64 0, .slice none 0 0, .slice none 0 0, .slice none 0 0, .slice none 0 0, .slice none 0 0, .slice none 0 0, .slice none 0 0] 29)
  rw [World.size_alloc] at this
  exact this
theorem Kq.bset {lo hi N j : Nat} {W : World} (h : N < lo) (v : Value) : Kq (Qr lo hi) W (W.setCell ⟨N, j, none⟩ v) := kq_set h v
/- the copy of Seen so far -/
structure CxI (lo : Nat) (k : Nat) (Ls : List Ss) (D : List Sn) (wr : World) (a : Option Addr) (c : Nat) (J : List Ss) : Prop where
  len : J.length = D.length
  own : wr.ownsRow lo 52 5 (.slice a J.length c) J.length (fl Ss.cs J)
  dn : ∀ j (h1 : j < J.length) (h2 : j < D.length), j < k → ∃ ga gc, J[j] = D[j].sh ga gc ∧ Fl wr (NB lo 33 wr) 11 88 Al.cs ga D[j].al
  re : ∀ j (h1 : j < J.length) (h2 : j < Ls.length), k ≤ j → J[j] = Ls[j]
theorem CxI.step {lo k : Nat} {Ls : List Ss} {D : List Sn} {wr w2 : World} {c : Nat} {J : List Ss} {g : Nat} (h : CxI lo k Ls D wr (some ⟨g, 0, none⟩) c J) (hkJ : k < J.length) (hkD : k < D.length) {ga : Option Addr} {gc : Nat} (hsh : J[k] = D[k].sh ga gc) {a2 : Option Addr} {c2 : Nat} (hb : Below wr.heap.size wr w2) (hlo : lo ≤ wr.heap.size) (ho2 : w2.ownsRow wr.heap.size 33 11 (.slice a2 D[k].al.length c2) D[k].al.length (fl Al.cs D[k].al)) (hbd : D[k].al.length * 88 ≤ 140737488355328) :
    CxI lo (k + 1) Ls D (w2.setCell ⟨g, k * 5 + 4, none⟩ (.slice a2 D[k].al.length c2)) (some ⟨g, 0, none⟩) c (J.set k (D[k].sh a2 c2)) ∧ lo ≤ g ∧ g < wr.heap.size := by
  have hO : w2.ownsRow lo 52 5 (.slice (some ⟨g, 0, none⟩) J.length c) J.length (fl Ss.cs J) := own_kept h.own (fun b _ h2 => hb.block b h2)
  obtain ⟨g', hA2⟩ := own_at Ss.len hO (by omega)
  have eg : g' = g := by have := hA2.ad; cases this; rfl
  subst eg
  obtain ⟨g2, hA1⟩ := own_at Ss.len h.own (by omega)
  have eg : g2 = g' := by have := hA1.ad; cases this; rfl
  subst eg
  have hset := hA2.set k hkJ 4 (by decide) (.slice a2 D[k].al.length c2) (D[k].sh a2 c2) (by rw [hsh]; rfl)
  have hoth : ∀ b, b ≠ g2 → (w2.setCell ⟨g2, k * 5 + 4, none⟩ (.slice a2 D[k].al.length c2)).heap[b]? = w2.heap[b]? := fun b hb => heap_setCell_other w2 ⟨g2, k * 5 + 4, none⟩ b _ hb
  have hne : ∀ b t, t ≠ 52 → NB lo t w2 b → b ≠ g2 := fun b t ht hb e => by
    subst e
    obtain ⟨c, hc⟩ := hb.2
    obtain ⟨cur, hq⟩ := hA2.ty
    rw [hq] at hc
    cases hc
    exact ht rfl
  refine ⟨⟨by rw [List.length_set]; exact h.len, by rw [List.length_set] at hset ⊢; exact hset, fun j h1 h2 hj => ?_, fun j h1 h2 hj => ?_⟩, hA2.ge, hA1.lt⟩
  · by_cases hjk : j = k
    · subst hjk
      refine ⟨a2, c2, by simp, ?_⟩
      have f2 := own_fl (y := 88) Al.len ho2 hbd
      have hn2 : ∀ b, NB wr.heap.size 33 w2 b → b ≠ g2 := fun b hb => hne b 33 (by decide) (nb_lo hb hlo)
      exact f2.kept (fun b hb => hoth b (hn2 b hb)) (fun b hb => (nb_lo hb hlo).to (hoth b (hn2 b hb)) (nb_lo hb hlo).1)
    · obtain ⟨ga', gc', e1, f⟩ := h.dn j (by rw [List.length_set] at h1; exact h1) h2 (by omega)
      refine ⟨ga', gc', by rw [List.getElem_set_ne (by omega)]; exact e1, ?_⟩
      have hw2 : ∀ b, NB lo 33 wr b → w2.heap[b]? = wr.heap[b]? := fun b hq => hb.block b hq.lt
      have hn2 : ∀ b, NB lo 33 wr b → b ≠ g2 := fun b hb => hne b 33 (by decide) (hb.to (hw2 b hb) hb.1)
      exact f.kept (fun b hb => (hoth b (hn2 b hb)).trans (hw2 b hb)) (fun b hb => hb.to ((hoth b (hn2 b hb)).trans (hw2 b hb)) hb.1)
  · rw [List.getElem_set_ne (by omega)]
    exact h.re j (by rw [List.length_set] at h1; exact h1) h2 (by omega)
set_option maxRecDepth 100000 in
set_option maxHeartbeats 16000000 in
theorem copy_any (s : Sc) (J B : List Js) (X : List Ss) (d : St) (w : World) (hS : StR w (fun b => b < w.heap.size) s J B X d) :
    Calls Try.prog 33 #[.agg #[.int .i64 s.ix, .int .i64 s.nx, .slice s.a2 s.n2 s.c2, .slice s.a3 s.n3 s.c3, .slice s.a4 s.n4 s.c4, .slice s.a5 s.n5 s.c5, .slice s.a6 s.n6 s.c6, .slice s.a7 s.n7 s.c7, .slice s.a8 s.n8 s.c8]] w fun r w' => CcP w r w' d := by
  obtain ⟨ix, nx, a2, n2, c2, a3, n3, c3, a4, n4, c4, a5, n5, c5, a6, n6, c6, a7, n7, c7, a8, n8, c8⟩ := s
  obtain ⟨h2, h3, h4, h5, h6, h7, h8⟩ : n2 = J.length ∧ n3 = B.length ∧ n4 = d.nodes.length ∧ n5 = d.allocs.length ∧ n6 = d.evals.length ∧ n7 = d.deps.length ∧ n8 = X.length := ⟨hS.f.n2, hS.f.n3, hS.f.n4, hS.f.n5, hS.f.n6, hS.f.n7, hS.f.n8⟩
  subst h2 h3 h4 h5 h6 h7 h8
  have HST := hidOf (fun (W : World) (hW : Below w.heap.size w W) => hS.kept (w' := W) (S' := fun b => b < w.heap.size) (fun b hb => hW.block b hb) (fun _ h => h))
  have HST0 := hidOf hS
  clear hS
  dsimp only
  have HC := hidOf (Bx2.begin w [.int .i64 ix, .int .i64 nx, .slice a2 J.length c2, .slice a3 B.length c3, .slice a4 d.nodes.length c4, .slice a5 d.allocs.length c5, .slice a6 d.evals.length c6, .slice a7 d.deps.length c7, .slice a8 X.length c8])
  go_enter Try.func33, Try.ntmps33
  go_upto_region 1 with (fail)
  obtain ⟨W, hW⟩ : ∃ yy, yy = (w.alloc (.cells #[.int .i64 ix, .int .i64 nx, .slice a2 J.length c2, .slice a3 B.length c3, .slice a4 d.nodes.length c4, .slice a5 d.allocs.length c5, .slice a6 d.evals.length c6, .slice a7 d.deps.length c7, .slice a8 X.length c8] 29)).alloc (.cells #[.int .i64 0, .int .i64 0, .slice none 0 0, .slice none 0 0, .slice none 0 0, .slice none 0 0, .slice none 0 0, .slice none 0 0, .slice none 0 0] 29) := ⟨_, rfl⟩
  rw [← hW]
  replace HC : Hid (Bx2 w W [.int .i64 ix, .int .i64 nx, .slice a2 J.length c2, .slice a3 B.length c3, .slice a4 d.nodes.length c4, .slice a5 d.allocs.length c5, .slice a6 d.evals.length c6, .slice a7 d.deps.length c7, .slice a8 X.length c8]) := hidOf (by rw [hW]; exact HC.out)
  clear hW
  have hz := HC.out.z
  have x2 : W.cell? ⟨w.heap.size, 2, none⟩ = some (.slice a2 J.length c2) := HC.out.cs 2 _ rfl
  have x3 : W.cell? ⟨w.heap.size, 3, none⟩ = some (.slice a3 B.length c3) := HC.out.cs 3 _ rfl
  refine wp_region_M (fun (wz : World) => wz.cell? ⟨w.heap.size, 2, none⟩ = some (.slice a2 J.length c2) ∧ wz.cell? ⟨w.heap.size, 3, none⟩ = some (.slice a3 B.length c3)) 7 (by kernel_rfl) ?_
  have hHeld : (fun (wz : World) => wz.cell? ⟨w.heap.size, 2, none⟩ = some (.slice a2 J.length c2) ∧ wz.cell? ⟨w.heap.size, 3, none⟩ = some (.slice a3 B.length c3)) _ := ⟨x2, x3⟩
  refine wpAnyM_take (i := 0) (oi := { dst := some 5, op := Op.fieldAddr 29 (Operand.tmp 1) 2, type := 0, pos := "whole.go:11", after := #[], guard := none }) (v := .pointer (some ⟨w.heap.size, 2, none⟩)) rfl (by kernel_rfl) (by kernel_rfl) (by kernel_rfl) (by kernel_rfl) (by kernel_rfl) (fun _ _ _ h => h) (Or.inl ⟨by rfl, ?_⟩) hHeld ?_
  · (intro w hSw; (try dsimp only at hSw); go_simp)
  try simp only [Act.put, List.setIfInBounds_toArray, List.set_cons_zero, List.set_cons_succ]
  refine wpAnyM_take (i := 1) (oi := { dst := some 6, op := Op.load 22 (Operand.tmp 5), type := 22, pos := "whole.go:11", after := #[{ on := 0, ground := Ground.data }], guard := none }) (v := .slice a2 J.length c2) rfl (by kernel_rfl) (by kernel_rfl) (by kernel_rfl) (by kernel_rfl) (by kernel_rfl) (fun _ _ _ h => h) (Or.inl ⟨by rfl, ?_⟩) hHeld ?_
  · (intro w hSw; (try dsimp only at hSw); go_simp)
  try simp only [Act.put, List.setIfInBounds_toArray, List.set_cons_zero, List.set_cons_succ]
  refine wpAnyM_take (i := 3) (oi := { dst := some 8, op := Op.fieldAddr 29 (Operand.tmp 1) 3, type := 0, pos := "whole.go:11", after := #[], guard := none }) (v := .pointer (some ⟨w.heap.size, 3, none⟩)) rfl (by kernel_rfl) (by kernel_rfl) (by kernel_rfl) (by kernel_rfl) (by kernel_rfl) (fun _ _ _ h => h) (Or.inl ⟨by rfl, ?_⟩) hHeld ?_
  · (intro w hSw; (try dsimp only at hSw); go_simp)
  try simp only [Act.put, List.setIfInBounds_toArray, List.set_cons_zero, List.set_cons_succ]
  refine wpAnyM_take (i := 4) (oi := { dst := some 9, op := Op.load 22 (Operand.tmp 8), type := 22, pos := "whole.go:11", after := #[{ on := 3, ground := Ground.data }], guard := none }) (v := .slice a3 B.length c3) rfl (by kernel_rfl) (by kernel_rfl) (by kernel_rfl) (by kernel_rfl) (by kernel_rfl) (fun _ _ _ h => h) (Or.inl ⟨by rfl, ?_⟩) hHeld ?_
  · (intro w hSw; (try dsimp only at hSw); go_simp)
  try simp only [Act.put, List.setIfInBounds_toArray, List.set_cons_zero, List.set_cons_succ]
  refine wpAnyM_one (i := 2) (o := { dst := some 7, op := Op.call { callee := Callee.value (Operand.func 65), args := #[Operand.tmp 6], argTypes := #[22] }, type := 22, pos := "whole.go:11", after := #[{ on := 1, ground := Ground.data }], guard := none }) (by kernel_rfl) rfl (fun K hK => ?_)
  rw [if_pos (by rfl)]
  go_simp
  refine (copyJobs_any a2 c2 J d.jobs (fun b => b < w.heap.size) W.drew (fun b hb => by show b < W.heap.size; have hb2 : b < w.heap.size := hb; omega) (HST.out W.drew (HC.out.b.trans ((bdrew W).mono HC.out.b.size))).j).mono ?_
  rintro e w1 ⟨b2, k2, J1, rfl, hl1, hc1, hb0⟩
  have hb : Below W.heap.size W w1 := (bdrew W).trans hb0
  have HC1 := hidOf (HC.out.grow hb)
  have y2 : w1.cell? ⟨w.heap.size, 2, none⟩ = some (.slice a2 J.length c2) := HC1.out.cs 2 _ rfl
  have y3 : w1.cell? ⟨w.heap.size, 3, none⟩ = some (.slice a3 B.length c3) := HC1.out.cs 3 _ rfl
  have H1 := hidOf hc1
  have HL1 := hidOf hl1
  have hs1 : W.heap.size ≤ w1.heap.size := hb.size
  clear hb hb0 hc1 hl1 x2 x3
  replace hHeld : (fun (wz : World) => wz.cell? ⟨w.heap.size, 2, none⟩ = some (.slice a2 J.length c2) ∧ wz.cell? ⟨w.heap.size, 3, none⟩ = some (.slice a3 B.length c3)) w1 := ⟨y2, y3⟩
  refine hK.out _ _ (fun _ => hHeld) ?_
  clear hK K
  try simp only [Act.put, List.setIfInBounds_toArray, List.set_cons_zero, List.set_cons_succ]
  refine wpAnyM_take (i := 6) (oi := { dst := some 11, op := Op.fieldAddr 29 (Operand.tmp 1) 2, type := 0, pos := "whole.go:11", after := #[{ on := 0, ground := Ground.phase }, { on := 1, ground := Ground.phase }, { on := 2, ground := Ground.phase }, { on := 3, ground := Ground.phase }, { on := 4, ground := Ground.phase }, { on := 5, ground := Ground.textOnly Departure.lateStoresUnsure }], guard := none }) (v := .pointer (some ⟨w.heap.size, 2, none⟩)) rfl (by kernel_rfl) (by kernel_rfl) (by kernel_rfl) (by kernel_rfl) (by kernel_rfl) (fun _ _ _ h => h) (Or.inl ⟨by rfl, ?_⟩) hHeld ?_
  · (intro w hSw; (try dsimp only at hSw); go_simp)
  try simp only [Act.put, List.setIfInBounds_toArray, List.set_cons_zero, List.set_cons_succ]
  refine wpAnyM_one (i := 5) (o := { dst := some 10, op := Op.call { callee := Callee.value (Operand.func 65), args := #[Operand.tmp 9], argTypes := #[22] }, type := 22, pos := "whole.go:11", after := #[{ on := 4, ground := Ground.data }, { on := 2, ground := Ground.chain }], guard := none }) (by kernel_rfl) rfl (fun K hK => ?_)
  rw [if_pos (by rfl)]
  go_simp
  refine (copyJobs_any a3 c3 B d.stab (fun b => b < w.heap.size) w1 (fun b hb => by have hb2 : b < w.heap.size := hb; omega) (HST.out w1 HC1.out.b).b).mono ?_
  rintro e w2 ⟨b3, k3, B1, rfl, hl2, hc2, hb⟩
  have HC2 := hidOf (HC1.out.grow hb)
  have u2 : w2.cell? ⟨w.heap.size, 2, none⟩ = some (.slice a2 J.length c2) := HC2.out.cs 2 _ rfl
  have u3 : w2.cell? ⟨w.heap.size, 3, none⟩ = some (.slice a3 B.length c3) := HC2.out.cs 3 _ rfl
  have H2 := hidOf hc2
  have HL2 := hidOf hl2
  have HB2 := hidOf hb
  have hs2 : w1.heap.size ≤ w2.heap.size := hb.size
  clear hb hc2 hl2 y2 y3
  replace hHeld : (fun (wz : World) => wz.cell? ⟨w.heap.size, 2, none⟩ = some (.slice a2 J.length c2) ∧ wz.cell? ⟨w.heap.size, 3, none⟩ = some (.slice a3 B.length c3)) w2 := ⟨u2, u3⟩
  refine hK.out _ _ (fun _ => hHeld) ?_
  clear hK K
  try simp only [Act.put, List.setIfInBounds_toArray, List.set_cons_zero, List.set_cons_succ]
  refine wpAnyM_one (i := 7) (o := { dst := none, op := Op.store 22 (Operand.tmp 11) (Operand.tmp 7), type := 0, pos := "whole.go:11", after := #[{ on := 6, ground := Ground.data }, { on := 2, ground := Ground.data }, { on := 5, ground := Ground.chain }, { on := 0, ground := Ground.phase }, { on := 1, ground := Ground.phase }, { on := 2, ground := Ground.phase }, { on := 3, ground := Ground.phase }, { on := 4, ground := Ground.phase }, { on := 5, ground := Ground.textOnly Departure.lateStoresUnsure }], guard := none }) (by kernel_rfl) rfl (fun K hK => ?_)
  rw [if_pos (by rfl)]
  have f2 := HC2.out.fs
  have l2 : w.heap.size < w2.heap.size := by have := HC2.out.z; omega
  go_simp
  refine hK.out _ _ (fun h => absurd h (of_decide_eq_false (by kernel_rfl))) ?_
  clear hK K
  try simp only [Act.put, List.setIfInBounds_toArray, List.set_cons_zero, List.set_cons_succ]
  refine wpAnyM_one (i := 8) (o := { dst := some 12, op := Op.fieldAddr 29 (Operand.tmp 1) 3, type := 0, pos := "whole.go:11", after := #[{ on := 0, ground := Ground.phase }, { on := 1, ground := Ground.phase }, { on := 2, ground := Ground.phase }, { on := 3, ground := Ground.phase }, { on := 4, ground := Ground.phase }, { on := 5, ground := Ground.phase }, { on := 6, ground := Ground.phase }, { on := 7, ground := Ground.phase }], guard := none }) (by kernel_rfl) rfl (fun K hK => ?_)
  rw [if_pos (by rfl)]
  go_simp
  refine hK.out _ _ (fun h => absurd h (of_decide_eq_false (by kernel_rfl))) ?_
  clear hK K
  try simp only [Act.put, List.setIfInBounds_toArray, List.set_cons_zero, List.set_cons_succ]
  refine wpAnyM_one (i := 9) (o := { dst := none, op := Op.store 22 (Operand.tmp 12) (Operand.tmp 10), type := 0, pos := "whole.go:11", after := #[{ on := 8, ground := Ground.data }, { on := 5, ground := Ground.data }, { on := 7, ground := Ground.chain }, { on := 0, ground := Ground.phase }, { on := 1, ground := Ground.phase }, { on := 2, ground := Ground.phase }, { on := 3, ground := Ground.phase }, { on := 4, ground := Ground.phase }, { on := 5, ground := Ground.phase }, { on := 6, ground := Ground.phase }, { on := 7, ground := Ground.phase }], guard := none }) (by kernel_rfl) rfl (fun K hK => ?_)
  rw [if_pos (by rfl)]
  go_simp
  refine hK.out _ _ (fun h => absurd h (of_decide_eq_false (by kernel_rfl))) ?_
  clear hK K
  try simp only [Act.put, List.setIfInBounds_toArray, List.set_cons_zero, List.set_cons_succ]
  refine wpAnyM_done (by kernel_rfl) ?_ _
  obtain ⟨z1, hz1⟩ : ∃ yy, yy = (w2.setCell ⟨w.heap.size, 2, none⟩ (.slice b2 J1.length k2)).setCell ⟨w.heap.size, 3, none⟩ (.slice b3 B1.length k3) := ⟨_, rfl⟩
  rw [← hz1]
  have HCz : Hid (Bx2 w z1 [.int .i64 ix, .int .i64 nx, .slice b2 J1.length k2, .slice b3 B1.length k3, .slice a4 d.nodes.length c4, .slice a5 d.allocs.length c5, .slice a6 d.evals.length c6, .slice a7 d.deps.length c7, .slice a8 X.length c8]) := hidOf (by rw [hz1]; exact (HC2.out.set 2 _).set 3 _)
  have hkz : Kq (Qr (w.heap.size + 2) w2.heap.size) w2 z1 := by rw [hz1]; exact (kq_set (by omega) _).trans (kq_set (by omega) _)
  have hsz1 : w2.heap.size = z1.heap.size := by rw [hz1]; simp
  have G1 : CpR 55 7 Js.cs 57 3 24 Gp.cs Jb.gs Jb.sh (w.heap.size + 2) w2 b2 k2 J1 d.jobs := (H1.out.kept (Kq.bel HB2.out (fun b hb => hb.2))).lo (show w.heap.size + 2 ≤ W.drew.heap.size from hz)
  have G2 : CpR 55 7 Js.cs 57 3 24 Gp.cs Jb.gs Jb.sh (w.heap.size + 2) w2 b3 k3 B1 d.stab := H2.out.lo (by omega)
  have HD : Hid (∀ W', Kq (Qr (w.heap.size + 2) z1.heap.size) z1 W' → (CpR 55 7 Js.cs 57 3 24 Gp.cs Jb.gs Jb.sh (w.heap.size + 2) W' b2 k2 J1 d.jobs ∧ CpR 55 7 Js.cs 57 3 24 Gp.cs Jb.gs Jb.sh (w.heap.size + 2) W' b3 k3 B1 d.stab)) := hidOf (fun W' hk => by
    have hk2 := hkz.trans (hk.sub (fun b hb => ⟨hb.1, by have := hb.2; omega⟩))
    exact ⟨G1.kept hk2, G2.kept hk2⟩)
  have HDF : Hid (∀ g, b2 = some ⟨g, 0, none⟩ → b3 ≠ some ⟨g, 0, none⟩) := hidOf (fun g e1 e2 => by
    have q1 : g < w1.heap.size := by
      rcases H1.out.own.2 with ⟨e3, _⟩ | ⟨g', _, _, e3, _, hg, _⟩
      · have := (Value.slice.inj e3).1; rw [e1] at this; cases this
      · have := (Value.slice.inj e3).1; rw [e1] at this; cases this; exact heap_lt hg
    have q2 : w1.heap.size ≤ g := by
      rcases H2.out.own.2 with ⟨e3, _⟩ | ⟨g', _, _, e3, hl, hg, _⟩
      · have := (Value.slice.inj e3).1; rw [e2] at this; cases this
      · have := (Value.slice.inj e3).1; rw [e2] at this; cases this; exact hl
    omega)
  clear hz1 hkz G1 G2 H1 H2 HB2 HC1 HC2 HC u2 u3
  have hzz1 := HCz.out.z
  have eS : z1.cell? ⟨w.heap.size, 4, none⟩ = some (.slice a4 d.nodes.length c4) := HCz.out.cs 4 _ rfl
  have lN : w.heap.size < z1.heap.size := by omega
  have HCL := hidOf (clone66_any a4 c4 d.nodes (fun b => b < w.heap.size) z1 (HST.out z1 HCz.out.b).f.f4)
  have HBD4 : Hid (d.nodes.length * 56 ≤ 140737488355328) := hidOf HST0.out.f.f4.bd
  go_upto_region 3 with (go_at_call 66; refine HCL.out.mono ?_; rintro e w4 ⟨b4, k4, rfl, hown, hb⟩; have HO4 := hidOf hown; have HB4 := hidOf hb; have HC4 := hidOf (HCz.out.grow hb); have hs4 := hb.size; clear hown hb eS lN; have fO := HC4.out.fs; have eS : w4.cell? ⟨w.heap.size, 4, none⟩ = some (.slice a4 d.nodes.length c4) := HC4.out.cs 4 _ rfl; have lN : w.heap.size < w4.heap.size := (by omega))
  obtain ⟨z4, hzn⟩ : ∃ yy, yy = w4.setCell ⟨w.heap.size, 4, none⟩ (.slice b4 d.nodes.length k4) := ⟨_, rfl⟩
  rw [← hzn]
  have hkz : Kq (Qr (w.heap.size + 2) z1.heap.size) z1 z4 := by rw [hzn]; exact (Kq.bel HB4.out (fun b hb => hb.2)).trans (kq_set (by omega) _)
  have hon : z4.ownsRow (w.heap.size + 2) 64 8 (.slice b4 d.nodes.length k4) d.nodes.length (fl Nd.cs d.nodes) := by rw [hzn]; exact own_kept (own_lo HO4.out (by omega)) (fun b h1 h2 => heap_setCell_other w4 ⟨w.heap.size, 4, none⟩ b _ (by show b ≠ w.heap.size; omega))
  have HCn4 : Hid (Bx2 w z4 [.int .i64 ix, .int .i64 nx, .slice b2 J1.length k2, .slice b3 B1.length k3, .slice b4 d.nodes.length k4, .slice a5 d.allocs.length c5, .slice a6 d.evals.length c6, .slice a7 d.deps.length c7, .slice a8 X.length c8]) := hidOf (by rw [hzn]; exact HC4.out.set 4 _)
  have hsz4 : z1.heap.size ≤ z4.heap.size := hkz.size
  replace HD : Hid (∀ W', Kq (Qr (w.heap.size + 2) z4.heap.size) z4 W' → (CpR 55 7 Js.cs 57 3 24 Gp.cs Jb.gs Jb.sh (w.heap.size + 2) W' b2 k2 J1 d.jobs ∧ CpR 55 7 Js.cs 57 3 24 Gp.cs Jb.gs Jb.sh (w.heap.size + 2) W' b3 k3 B1 d.stab ∧ World.ownsRow W' (w.heap.size + 2) 64 8 (.slice b4 d.nodes.length k4) d.nodes.length (fl Nd.cs d.nodes))) := hidOf (fun W' hk => by
    have hh := HD.out W' (hkz.trans (hk.sub (fun b hb => ⟨hb.1, by have := hb.2; omega⟩)))
    exact ⟨hh.1, hh.2, own_kept hon (fun b h1 h2 => hk.block b ⟨h1, h2⟩)⟩)
  clear hzn hkz hon HO4 HB4 HC4 eS lN fO HCL HCz
  have hzz4 := HCn4.out.z
  have eS : z4.cell? ⟨w.heap.size, 5, none⟩ = some (.slice a5 d.allocs.length c5) := HCn4.out.cs 5 _ rfl
  have lN : w.heap.size < z4.heap.size := by omega
  have HCL := hidOf (clone67_any a5 c5 d.allocs (fun b => b < w.heap.size) z4 (HST.out z4 HCn4.out.b).f.f5)
  have HBD5 : Hid (d.allocs.length * 88 ≤ 140737488355328) := hidOf HST0.out.f.f5.bd
  go_upto_region 4 with (go_at_call 67; refine HCL.out.mono ?_; rintro e w5 ⟨b5, k5, rfl, hown, hb⟩; have HO5 := hidOf hown; have HB5 := hidOf hb; have HC5 := hidOf (HCn4.out.grow hb); have hs5 := hb.size; clear hown hb eS lN; have fO := HC5.out.fs; have eS : w5.cell? ⟨w.heap.size, 5, none⟩ = some (.slice a5 d.allocs.length c5) := HC5.out.cs 5 _ rfl; have lN : w.heap.size < w5.heap.size := (by omega))
  obtain ⟨z5, hzn⟩ : ∃ yy, yy = w5.setCell ⟨w.heap.size, 5, none⟩ (.slice b5 d.allocs.length k5) := ⟨_, rfl⟩
  rw [← hzn]
  have hkz : Kq (Qr (w.heap.size + 2) z4.heap.size) z4 z5 := by rw [hzn]; exact (Kq.bel HB5.out (fun b hb => hb.2)).trans (kq_set (by omega) _)
  have hon : z5.ownsRow (w.heap.size + 2) 33 11 (.slice b5 d.allocs.length k5) d.allocs.length (fl Al.cs d.allocs) := by rw [hzn]; exact own_kept (own_lo HO5.out (by omega)) (fun b h1 h2 => heap_setCell_other w5 ⟨w.heap.size, 5, none⟩ b _ (by show b ≠ w.heap.size; omega))
  have HCn5 : Hid (Bx2 w z5 [.int .i64 ix, .int .i64 nx, .slice b2 J1.length k2, .slice b3 B1.length k3, .slice b4 d.nodes.length k4, .slice b5 d.allocs.length k5, .slice a6 d.evals.length c6, .slice a7 d.deps.length c7, .slice a8 X.length c8]) := hidOf (by rw [hzn]; exact HC5.out.set 5 _)
  have hsz5 : z4.heap.size ≤ z5.heap.size := hkz.size
  replace HD : Hid (∀ W', Kq (Qr (w.heap.size + 2) z5.heap.size) z5 W' → (CpR 55 7 Js.cs 57 3 24 Gp.cs Jb.gs Jb.sh (w.heap.size + 2) W' b2 k2 J1 d.jobs ∧ CpR 55 7 Js.cs 57 3 24 Gp.cs Jb.gs Jb.sh (w.heap.size + 2) W' b3 k3 B1 d.stab ∧ World.ownsRow W' (w.heap.size + 2) 64 8 (.slice b4 d.nodes.length k4) d.nodes.length (fl Nd.cs d.nodes) ∧ World.ownsRow W' (w.heap.size + 2) 33 11 (.slice b5 d.allocs.length k5) d.allocs.length (fl Al.cs d.allocs))) := hidOf (fun W' hk => by
    have hh := HD.out W' (hkz.trans (hk.sub (fun b hb => ⟨hb.1, by have := hb.2; omega⟩)))
    exact ⟨hh.1, hh.2.1, hh.2.2, own_kept hon (fun b h1 h2 => hk.block b ⟨h1, h2⟩)⟩)
  clear hzn hkz hon HO5 HB5 HC5 eS lN fO HCL HCn4
  have hzz5 := HCn5.out.z
  have eS : z5.cell? ⟨w.heap.size, 6, none⟩ = some (.slice a6 d.evals.length c6) := HCn5.out.cs 6 _ rfl
  have lN : w.heap.size < z5.heap.size := by omega
  have HCL := hidOf (clone68_any a6 c6 d.evals (fun b => b < w.heap.size) z5 (HST.out z5 HCn5.out.b).f.f6)
  have HBD6 : Hid (d.evals.length * 32 ≤ 140737488355328) := hidOf HST0.out.f.f6.bd
  go_upto_region 5 with (go_at_call 68; refine HCL.out.mono ?_; rintro e w6 ⟨b6, k6, rfl, hown, hb⟩; have HO6 := hidOf hown; have HB6 := hidOf hb; have HC6 := hidOf (HCn5.out.grow hb); have hs6 := hb.size; clear hown hb eS lN; have fO := HC6.out.fs; have eS : w6.cell? ⟨w.heap.size, 6, none⟩ = some (.slice a6 d.evals.length c6) := HC6.out.cs 6 _ rfl; have lN : w.heap.size < w6.heap.size := (by omega))
  obtain ⟨z6, hzn⟩ : ∃ yy, yy = w6.setCell ⟨w.heap.size, 6, none⟩ (.slice b6 d.evals.length k6) := ⟨_, rfl⟩
  rw [← hzn]
  have hkz : Kq (Qr (w.heap.size + 2) z5.heap.size) z5 z6 := by rw [hzn]; exact (Kq.bel HB6.out (fun b hb => hb.2)).trans (kq_set (by omega) _)
  have hon : z6.ownsRow (w.heap.size + 2) 69 4 (.slice b6 d.evals.length k6) d.evals.length (fl Qd.cs d.evals) := by rw [hzn]; exact own_kept (own_lo HO6.out (by omega)) (fun b h1 h2 => heap_setCell_other w6 ⟨w.heap.size, 6, none⟩ b _ (by show b ≠ w.heap.size; omega))
  have HCn6 : Hid (Bx2 w z6 [.int .i64 ix, .int .i64 nx, .slice b2 J1.length k2, .slice b3 B1.length k3, .slice b4 d.nodes.length k4, .slice b5 d.allocs.length k5, .slice b6 d.evals.length k6, .slice a7 d.deps.length c7, .slice a8 X.length c8]) := hidOf (by rw [hzn]; exact HC6.out.set 6 _)
  have hsz6 : z5.heap.size ≤ z6.heap.size := hkz.size
  replace HD : Hid (∀ W', Kq (Qr (w.heap.size + 2) z6.heap.size) z6 W' → (CpR 55 7 Js.cs 57 3 24 Gp.cs Jb.gs Jb.sh (w.heap.size + 2) W' b2 k2 J1 d.jobs ∧ CpR 55 7 Js.cs 57 3 24 Gp.cs Jb.gs Jb.sh (w.heap.size + 2) W' b3 k3 B1 d.stab ∧ World.ownsRow W' (w.heap.size + 2) 64 8 (.slice b4 d.nodes.length k4) d.nodes.length (fl Nd.cs d.nodes) ∧ World.ownsRow W' (w.heap.size + 2) 33 11 (.slice b5 d.allocs.length k5) d.allocs.length (fl Al.cs d.allocs) ∧ World.ownsRow W' (w.heap.size + 2) 69 4 (.slice b6 d.evals.length k6) d.evals.length (fl Qd.cs d.evals))) := hidOf (fun W' hk => by
    have hh := HD.out W' (hkz.trans (hk.sub (fun b hb => ⟨hb.1, by have := hb.2; omega⟩)))
    exact ⟨hh.1, hh.2.1, hh.2.2.1, hh.2.2.2, own_kept hon (fun b h1 h2 => hk.block b ⟨h1, h2⟩)⟩)
  clear hzn hkz hon HO6 HB6 HC6 eS lN fO HCL HCn5
  have hzz6 := HCn6.out.z
  have eS : z6.cell? ⟨w.heap.size, 7, none⟩ = some (.slice a7 d.deps.length c7) := HCn6.out.cs 7 _ rfl
  have lN : w.heap.size < z6.heap.size := by omega
  have HCL := hidOf (clone69_any a7 c7 d.deps (fun b => b < w.heap.size) z6 (HST.out z6 HCn6.out.b).f.f7)
  have HBD7 : Hid (d.deps.length * 32 ≤ 140737488355328) := hidOf HST0.out.f.f7.bd
  go_upto_region 6 with (go_at_call 69; refine HCL.out.mono ?_; rintro e w7 ⟨b7, k7, rfl, hown, hb⟩; have HO7 := hidOf hown; have HB7 := hidOf hb; have HC7 := hidOf (HCn6.out.grow hb); have hs7 := hb.size; clear hown hb eS lN; have fO := HC7.out.fs; have eS : w7.cell? ⟨w.heap.size, 7, none⟩ = some (.slice a7 d.deps.length c7) := HC7.out.cs 7 _ rfl; have lN : w.heap.size < w7.heap.size := (by omega))
  obtain ⟨z7, hzn⟩ : ∃ yy, yy = w7.setCell ⟨w.heap.size, 7, none⟩ (.slice b7 d.deps.length k7) := ⟨_, rfl⟩
  rw [← hzn]
  have hkz : Kq (Qr (w.heap.size + 2) z6.heap.size) z6 z7 := by rw [hzn]; exact (Kq.bel HB7.out (fun b hb => hb.2)).trans (kq_set (by omega) _)
  have hon : z7.ownsRow (w.heap.size + 2) 73 4 (.slice b7 d.deps.length k7) d.deps.length (fl Qd.cs d.deps) := by rw [hzn]; exact own_kept (own_lo HO7.out (by omega)) (fun b h1 h2 => heap_setCell_other w7 ⟨w.heap.size, 7, none⟩ b _ (by show b ≠ w.heap.size; omega))
  have HCn7 : Hid (Bx2 w z7 [.int .i64 ix, .int .i64 nx, .slice b2 J1.length k2, .slice b3 B1.length k3, .slice b4 d.nodes.length k4, .slice b5 d.allocs.length k5, .slice b6 d.evals.length k6, .slice b7 d.deps.length k7, .slice a8 X.length c8]) := hidOf (by rw [hzn]; exact HC7.out.set 7 _)
  have hsz7 : z6.heap.size ≤ z7.heap.size := hkz.size
  replace HD : Hid (∀ W', Kq (Qr (w.heap.size + 2) z7.heap.size) z7 W' → (CpR 55 7 Js.cs 57 3 24 Gp.cs Jb.gs Jb.sh (w.heap.size + 2) W' b2 k2 J1 d.jobs ∧ CpR 55 7 Js.cs 57 3 24 Gp.cs Jb.gs Jb.sh (w.heap.size + 2) W' b3 k3 B1 d.stab ∧ World.ownsRow W' (w.heap.size + 2) 64 8 (.slice b4 d.nodes.length k4) d.nodes.length (fl Nd.cs d.nodes) ∧ World.ownsRow W' (w.heap.size + 2) 33 11 (.slice b5 d.allocs.length k5) d.allocs.length (fl Al.cs d.allocs) ∧ World.ownsRow W' (w.heap.size + 2) 69 4 (.slice b6 d.evals.length k6) d.evals.length (fl Qd.cs d.evals) ∧ World.ownsRow W' (w.heap.size + 2) 73 4 (.slice b7 d.deps.length k7) d.deps.length (fl Qd.cs d.deps))) := hidOf (fun W' hk => by
    have hh := HD.out W' (hkz.trans (hk.sub (fun b hb => ⟨hb.1, by have := hb.2; omega⟩)))
    exact ⟨hh.1, hh.2.1, hh.2.2.1, hh.2.2.2.1, hh.2.2.2.2, own_kept hon (fun b h1 h2 => hk.block b ⟨h1, h2⟩)⟩)
  clear hzn hkz hon HO7 HB7 HC7 eS lN fO HCL HCn6
  have hz7b := HCn7.out.z
  have eS : z7.cell? ⟨w.heap.size, 8, none⟩ = some (.slice a8 X.length c8) := HCn7.out.cs 8 _ rfl
  have lN : w.heap.size < z7.heap.size := by omega
  have HCL := hidOf (clone70_any a8 c8 X (fun b => b < w.heap.size) z7 (HST.out z7 HCn7.out.b).f.f8)
  have HXL : Hid (X.length = d.seen.length) := hidOf HST0.out.x.len
  have hxl : X.length * 56 ≤ 140737488355328 := HST0.out.x.row.bd
  go_upto_region 7 with (go_at_call 70; refine HCL.out.mono ?_; rintro e w8 ⟨b8, k8, rfl, hown, hb⟩; have HO8 := hidOf hown; have HB8 := hidOf hb; have HC8 := hidOf (HCn7.out.grow hb); have hs8 := hb.size; clear hown hb eS lN; have fO := HC8.out.fs; have eS : w8.cell? ⟨w.heap.size, 8, none⟩ = some (.slice a8 X.length c8) := HC8.out.cs 8 _ rfl; have lN : w.heap.size < w8.heap.size := (by omega))
  obtain ⟨z8, hzn⟩ : ∃ yy, yy = w8.setCell ⟨w.heap.size, 8, none⟩ (.slice b8 X.length k8) := ⟨_, rfl⟩
  rw [← hzn]
  have hkz : Kq (Qr (w.heap.size + 2) z7.heap.size) z7 z8 := by rw [hzn]; exact (Kq.bel HB8.out (fun b hb => hb.2)).trans (kq_set (by omega) _)
  have HON : Hid (z8.ownsRow z7.heap.size 52 5 (.slice b8 X.length k8) X.length (fl Ss.cs X)) := hidOf (by rw [hzn]; exact own_kept HO8.out (fun b h1 h2 => heap_setCell_other w8 ⟨w.heap.size, 8, none⟩ b _ (by show b ≠ w.heap.size; omega)))
  have HCn8 : Hid (Bx2 w z8 [.int .i64 ix, .int .i64 nx, .slice b2 J1.length k2, .slice b3 B1.length k3, .slice b4 d.nodes.length k4, .slice b5 d.allocs.length k5, .slice b6 d.evals.length k6, .slice b7 d.deps.length k7, .slice b8 X.length k8]) := hidOf (by rw [hzn]; exact HC8.out.set 8 _)
  have HKZ := hidOf hkz
  have hsz8 : z7.heap.size ≤ z8.heap.size := hkz.size
  clear hzn hkz HO8 HB8 HC8 eS lN fO HCL HCn7
  have eS : z8.cell? ⟨w.heap.size, 8, none⟩ = some (.slice b8 X.length k8) := HCn8.out.cs 8 _ rfl
  have lN : w.heap.size < z8.heap.size := by omega
  have hxl2 : X.length ≤ 140737488355328 := by omega
  go_wp2
  clear eS lN
  go_loopw [36, 3, 4] (fun i _ _ wr => ∃ (k : Nat) (X1 : List Ss), k ≤ X.length ∧ i = .int .i64 (k : Int) ∧ Hid (X1.length = X.length) ∧ Hid (CxI z7.heap.size k X d.seen wr b8 k8 X1) ∧ Hid (Bx2 w wr [.int .i64 ix, .int .i64 nx, .slice b2 J1.length k2, .slice b3 B1.length k3, .slice b4 d.nodes.length k4, .slice b5 d.allocs.length k5, .slice b6 d.evals.length k6, .slice b7 d.deps.length k7, .slice b8 X.length k8]) ∧ Hid (Kq (Qr (w.heap.size + 2) z7.heap.size) z7 wr)) (fun i _ _ _ => X.length - (intOf i).toNat)
  case atStart => exact ⟨0, X, Nat.zero_le _, rfl, hidOf rfl, hidOf ⟨HXL.out, HON.out, fun j _ _ h => absurd h (Nat.not_lt_zero _), fun j _ _ _ => rfl⟩, HCn8, HKZ⟩
  case round =>
    clear HCn8 HON HKZ
    obtain ⟨k, X1, hk, rfl, HJL, HI, HCr, HK⟩ := hrel
    have hzr := HCr.out.z
    have hz7r : z7.heap.size ≤ wr.heap.size := HK.out.size
    have eS : wr.cell? ⟨w.heap.size, 8, none⟩ = some (.slice b8 X.length k8) := HCr.out.cs 8 _ rfl
    have lN : w.heap.size < wr.heap.size := by omega
    by_cases hlt : k < X.length
    · have hkJ : k < X1.length := by rw [HJL.out]; exact hlt
      have hkD : k < d.seen.length := by rw [← HXL.out]; exact hlt
      obtain ⟨g, hA⟩ := own_at Ss.len HI.out.own (by omega)
      have ha := hA.ad
      subst ha
      obtain ⟨ga, gc, hsh, hG⟩ := (HST.out wr HCr.out.b).x.dp k hlt hkD
      have hrk := HI.out.re k hkJ hlt (Nat.le_refl _)
      have hcr := hA.el k hkJ
      rw [hrk, hsh] at hcr
      have q4 : wr.cell? ⟨g, k * 5 + 4, none⟩ = some (.slice ga d.seen[k].al.length gc) := hcr 4 _ rfl
      have q42 : wr.cell? ⟨g, k * 5 + 2 + 2, none⟩ = some (.slice ga d.seen[k].al.length gc) := q4
      have HCG := hidOf (clone67_any ga gc d.seen[k].al (fun b => b < w.heap.size) wr hG)
      have lg : g < wr.heap.size := hA.lt
      have HTY := hidOf hA.ty
      have h64 : (k : Int) < (X.length : Int) := by omega
      have HSH : Hid (X1[k] = d.seen[k].sh ga gc) := hidOf (hrk.trans hsh)
      have HGB : Hid (d.seen[k].al.length * 88 ≤ 140737488355328) := hidOf hG.bd
      clear hcr hrk hsh hA hG
      go_wp2_with (go_at_call 67; refine HCG.out.mono ?_; rintro e w2' ⟨a2', c2', rfl, hown2, hb2⟩; have HO2 := hidOf hown2; have HB2 := hidOf hb2; have q5 : w2'.cell? ⟨g, k * 5 + 4, none⟩ = some (.slice ga d.seen[k].al.length gc) := (hb_cell hb2 lg).trans q4; have q52 : w2'.cell? ⟨g, k * 5 + 2 + 2, none⟩ = some (.slice ga d.seen[k].al.length gc) := (hb_cell hb2 lg).trans q4; have lg2 : g < w2'.heap.size := Nat.lt_of_lt_of_le lg hb2.size; have fg : ∀ j, w2'.frozen? ⟨g, j, none⟩ = false := (fun j => by (obtain ⟨cur, hq⟩ := HTY.out; exact frozen_of_row w2' g j cur 52 ((hb2.block g lg).trans hq))); clear hown2 hb2)
      go_roundw
      case rel =>
        obtain ⟨hst, hge, hgl⟩ := HI.out.step hkJ hkD HSH.out HB2.out hz7r HO2.out HGB.out
        refine ⟨k + 1, _, by omega, by go_num, hidOf (by rw [List.length_set]; exact HJL.out), hidOf hst, hidOf ((HCr.out.grow HB2.out).keep ?_), hidOf ((HK.out.trans (Kq.bel HB2.out (fun b hb => by have := hb.2; omega))).trans ⟨by simp, fun b hb => heap_setCell_other w2' ⟨g, k * 5 + 4, none⟩ b _ (by have := hb.2; show b ≠ g; omega)⟩)⟩
        exact (Below.refl _ w2').setCell (p := ⟨g, k * 5 + 4, none⟩) (by show w.heap.size + 2 ≤ g; omega) _
      case measure => simp [intOf]; omega
    · have hke : k = X.length := by omega
      have HXR : Hid (CpR 52 5 Ss.cs 33 11 88 Al.cs Sn.al Sn.sh z7.heap.size wr b8 k8 X1 d.seen) := hidOf ⟨HI.out.own, fun j h1 h2 => HI.out.dn j h1 h2 (by rw [hke, ← HJL.out]; exact h1)⟩
      clear hke hk
      have o0 : wr.cell? ⟨w.heap.size, 0, none⟩ = some (.int .i64 ix) := HCr.out.cs 0 _ rfl
      have o1 : wr.cell? ⟨w.heap.size, 1, none⟩ = some (.int .i64 nx) := HCr.out.cs 1 _ rfl
      have o2 : wr.cell? ⟨w.heap.size, 2, none⟩ = some (.slice b2 J1.length k2) := HCr.out.cs 2 _ rfl
      have o3 : wr.cell? ⟨w.heap.size, 3, none⟩ = some (.slice b3 B1.length k3) := HCr.out.cs 3 _ rfl
      have o4 : wr.cell? ⟨w.heap.size, 4, none⟩ = some (.slice b4 d.nodes.length k4) := HCr.out.cs 4 _ rfl
      have o5 : wr.cell? ⟨w.heap.size, 5, none⟩ = some (.slice b5 d.allocs.length k5) := HCr.out.cs 5 _ rfl
      have o6 : wr.cell? ⟨w.heap.size, 6, none⟩ = some (.slice b6 d.evals.length k6) := HCr.out.cs 6 _ rfl
      have o7 : wr.cell? ⟨w.heap.size, 7, none⟩ = some (.slice b7 d.deps.length k7) := HCr.out.cs 7 _ rfl
      have o8 : wr.cell? ⟨w.heap.size, 8, none⟩ = some (.slice b8 X.length k8) := HCr.out.cs 8 _ rfl
      have r0 : wr.cell? ⟨w.heap.size + 1, 0, none⟩ = some (.int .i64 0) := (cell_of_row wr _ 0 _ 29 (0, 0) HCr.out.r).trans rfl
      have r1 : wr.cell? ⟨w.heap.size + 1, 1, none⟩ = some (.int .i64 0) := (cell_of_row wr _ 1 _ 29 (0, 0) HCr.out.r).trans rfl
      have r2 : wr.cell? ⟨w.heap.size + 1, 2, none⟩ = some (.slice none 0 0) := (cell_of_row wr _ 2 _ 29 (0, 0) HCr.out.r).trans rfl
      have r3 : wr.cell? ⟨w.heap.size + 1, 3, none⟩ = some (.slice none 0 0) := (cell_of_row wr _ 3 _ 29 (0, 0) HCr.out.r).trans rfl
      have r4 : wr.cell? ⟨w.heap.size + 1, 4, none⟩ = some (.slice none 0 0) := (cell_of_row wr _ 4 _ 29 (0, 0) HCr.out.r).trans rfl
      have r5 : wr.cell? ⟨w.heap.size + 1, 5, none⟩ = some (.slice none 0 0) := (cell_of_row wr _ 5 _ 29 (0, 0) HCr.out.r).trans rfl
      have r6 : wr.cell? ⟨w.heap.size + 1, 6, none⟩ = some (.slice none 0 0) := (cell_of_row wr _ 6 _ 29 (0, 0) HCr.out.r).trans rfl
      have r7 : wr.cell? ⟨w.heap.size + 1, 7, none⟩ = some (.slice none 0 0) := (cell_of_row wr _ 7 _ 29 (0, 0) HCr.out.r).trans rfl
      have r8 : wr.cell? ⟨w.heap.size + 1, 8, none⟩ = some (.slice none 0 0) := (cell_of_row wr _ 8 _ 29 (0, 0) HCr.out.r).trans rfl
      have fR := HCr.out.fr
      have lR : w.heap.size + 1 < wr.heap.size := by omega
      have h64 : ¬ (k : Int) < (X.length : Int) := by omega
      go_wp2
      have hr9 := set9 HCr.out.r (.int .i64 ix) (.int .i64 nx) (.slice b2 J1.length k2) (.slice b3 B1.length k3) (.slice b4 d.nodes.length k4) (.slice b5 d.allocs.length k5) (.slice b6 d.evals.length k6) (.slice b7 d.deps.length k7) (.slice b8 X.length k8)
      have hof : ∀ b, b ≠ w.heap.size + 1 → _ = wr.heap[b]? := set9_other (w := wr) (k := w.heap.size + 1) (.int .i64 ix) (.int .i64 nx) (.slice b2 J1.length k2) (.slice b3 B1.length k3) (.slice b4 d.nodes.length k4) (.slice b5 d.allocs.length k5) (.slice b6 d.evals.length k6) (.slice b7 d.deps.length k7) (.slice b8 X.length k8)
      have hbf := set9_below HCr.out.b (k := w.heap.size + 1) (by omega) (.int .i64 ix) (.int .i64 nx) (.slice b2 J1.length k2) (.slice b3 B1.length k3) (.slice b4 d.nodes.length k4) (.slice b5 d.allocs.length k5) (.slice b6 d.evals.length k6) (.slice b7 d.deps.length k7) (.slice b8 X.length k8)
      have hsf : (((((((((wr.setCell ⟨w.heap.size + 1, 0, none⟩ (.int .i64 ix)).setCell ⟨w.heap.size + 1, 1, none⟩ (.int .i64 nx)).setCell ⟨w.heap.size + 1, 2, none⟩ (.slice b2 J1.length k2)).setCell ⟨w.heap.size + 1, 3, none⟩ (.slice b3 B1.length k3)).setCell ⟨w.heap.size + 1, 4, none⟩ (.slice b4 d.nodes.length k4)).setCell ⟨w.heap.size + 1, 5, none⟩ (.slice b5 d.allocs.length k5)).setCell ⟨w.heap.size + 1, 6, none⟩ (.slice b6 d.evals.length k6)).setCell ⟨w.heap.size + 1, 7, none⟩ (.slice b7 d.deps.length k7)).setCell ⟨w.heap.size + 1, 8, none⟩ (.slice b8 X.length k8)).heap.size = wr.heap.size := by simp
      have hres : ∀ tmps : Array Value, tmps.getD 2 undef = .pointer (some ⟨w.heap.size + 1, 0, none⟩) → (results Try.f33 tmps).run Try.prog (((((((((wr.setCell ⟨w.heap.size + 1, 0, none⟩ (.int .i64 ix)).setCell ⟨w.heap.size + 1, 1, none⟩ (.int .i64 nx)).setCell ⟨w.heap.size + 1, 2, none⟩ (.slice b2 J1.length k2)).setCell ⟨w.heap.size + 1, 3, none⟩ (.slice b3 B1.length k3)).setCell ⟨w.heap.size + 1, 4, none⟩ (.slice b4 d.nodes.length k4)).setCell ⟨w.heap.size + 1, 5, none⟩ (.slice b5 d.allocs.length k5)).setCell ⟨w.heap.size + 1, 6, none⟩ (.slice b6 d.evals.length k6)).setCell ⟨w.heap.size + 1, 7, none⟩ (.slice b7 d.deps.length k7)).setCell ⟨w.heap.size + 1, 8, none⟩ (.slice b8 X.length k8)) = .ok (.agg #[.int .i64 ix, .int .i64 nx, .slice b2 J1.length k2, .slice b3 B1.length k3, .slice b4 d.nodes.length k4, .slice b5 d.allocs.length k5, .slice b6 d.evals.length k6, .slice b7 d.deps.length k7, .slice b8 X.length k8]) (((((((((wr.setCell ⟨w.heap.size + 1, 0, none⟩ (.int .i64 ix)).setCell ⟨w.heap.size + 1, 1, none⟩ (.int .i64 nx)).setCell ⟨w.heap.size + 1, 2, none⟩ (.slice b2 J1.length k2)).setCell ⟨w.heap.size + 1, 3, none⟩ (.slice b3 B1.length k3)).setCell ⟨w.heap.size + 1, 4, none⟩ (.slice b4 d.nodes.length k4)).setCell ⟨w.heap.size + 1, 5, none⟩ (.slice b5 d.allocs.length k5)).setCell ⟨w.heap.size + 1, 6, none⟩ (.slice b6 d.evals.length k6)).setCell ⟨w.heap.size + 1, 7, none⟩ (.slice b7 d.deps.length k7)).setCell ⟨w.heap.size + 1, 8, none⟩ (.slice b8 X.length k8)) := fun tmps h => results_cell_row Try.results33 tmps _ (w.heap.size + 1) 29 #[.int .i64 ix, .int .i64 nx, .slice b2 J1.length k2, .slice b3 B1.length k3, .slice b4 d.nodes.length k4, .slice b5 d.allocs.length k5, .slice b6 d.evals.length k6, .slice b7 d.deps.length k7, .slice b8 X.length k8] (0, 0) _ h hr9 Try.underlying29 rfl (by kernel_rfl)
      generalize (((((((((wr.setCell ⟨w.heap.size + 1, 0, none⟩ (.int .i64 ix)).setCell ⟨w.heap.size + 1, 1, none⟩ (.int .i64 nx)).setCell ⟨w.heap.size + 1, 2, none⟩ (.slice b2 J1.length k2)).setCell ⟨w.heap.size + 1, 3, none⟩ (.slice b3 B1.length k3)).setCell ⟨w.heap.size + 1, 4, none⟩ (.slice b4 d.nodes.length k4)).setCell ⟨w.heap.size + 1, 5, none⟩ (.slice b5 d.allocs.length k5)).setCell ⟨w.heap.size + 1, 6, none⟩ (.slice b6 d.evals.length k6)).setCell ⟨w.heap.size + 1, 7, none⟩ (.slice b7 d.deps.length k7)).setCell ⟨w.heap.size + 1, 8, none⟩ (.slice b8 X.length k8)) = wf at *
      refine bodyPost_ret (hres _ ?_) ?_ ?_
      · rfl
      · rfl
      have hkf : Kq (Qr (w.heap.size + 2) wr.heap.size) wr wf := ⟨by omega, fun b hb => hof b (by have := hb.1; omega)⟩
      obtain ⟨g2, g3, g4, g5, g6, g7⟩ := HD.out wf (HK.out.trans (hkf.sub (fun b hb => ⟨hb.1, by have := hb.2; omega⟩)))
      have g8 := HXR.out.kept (hkf.sub (fun b hb => ⟨by have := hb.1; omega, hb.2⟩))
      have hll : X1.length = X.length := HJL.out
      refine ⟨⟨ix, nx, b2, J1.length, k2, b3, B1.length, k3, b4, d.nodes.length, k4, b5, d.allocs.length, k5, b6, d.evals.length, k6, b7, d.deps.length, k7, b8, X1.length, k8⟩, J1, B1, X1, by rw [hll], ⟨HST0.out.ix, HST0.out.nx, rfl, rfl, rfl, rfl, rfl, rfl, rfl, HL1.out, HL2.out, hll.trans HXL.out, g2.lo (by omega), g3.lo (by omega), own_lo g4 (by omega), own_lo g5 (by omega), own_lo g6 (by omega), own_lo g7 (by omega), g8.lo (by omega), HDF.out, ?_, ?_, HBD4.out, HBD5.out, HBD6.out, HBD7.out, by rw [hll]; exact hxl⟩, hbf⟩
      · rw [HL1.out]; have := HST0.out.j.row.bd; rw [HST0.out.j.len] at this; exact this
      · rw [HL2.out]; have := HST0.out.b.row.bd; rw [HST0.out.b.len] at this; exact this
end Go.Proofs.Ytkokkdekbilkjaa
