/- The document s copy of a store. -/
import Derived.Test.YtblofbdncolikaaCq
import Derived.Test.YtblofbdncolikaaDp
import Derived.Deep.Cut
namespace Go.Proofs.Ytblofbdncolikaa
open Go.RowKit Go.Shelf
attribute [local go_sem] Oper.semAt_some
/- what a copy is -/
def NBr (lo : Nat) (w : World) (b : Nat) : Prop := lo ≤ b ∧ b < w.heap.size ∧ Uf w b
def CopyP (w : World) (e : Ending) (w' : World) (d : St) : Prop := ∃ (s : Sc) (J B : List Js) (X : List Ss), e = .returned (.agg #[.int .i64 s.ix, .int .i64 s.nx, .slice s.a2 s.n2 s.c2, .slice s.a3 s.n3 s.c3, .slice s.a4 s.n4 s.c4, .slice s.a5 s.n5 s.c5, .slice s.a6 s.n6 s.c6, .slice s.a7 s.n7 s.c7, .slice s.a8 s.n8 s.c8]) ∧ StR w' (NBr w.heap.size w') s J B X d ∧ Below w.heap.size w w' ∧ w'.ownsRow w.heap.size 42 11 (.slice s.a5 s.n5 s.c5) d.allocs.length (fl Al.cs d.allocs) ∧ CpR 51 7 Js.cs 48 3 24 Gp.cs Jb.gs Jb.sh w.heap.size w' s.a2 s.c2 J d.jobs ∧ w'.ownsRow w.heap.size 46 8 (.slice s.a4 s.n4 s.c4) d.nodes.length (fl Nd.cs d.nodes)
theorem NB.wide {lo lo2 : Nat} {t : TypeId} {w : World} {b : Nat} (h : NB lo t w b) (hl : lo2 ≤ lo) : NBr lo2 w b := ⟨Nat.le_trans hl h.1, h.lt, by obtain ⟨cs, hc⟩ := h.2; exact ⟨cs, t, hc⟩⟩
theorem nb_fl {α : Type} {cs : α → List Value} {k y lo lo2 : Nat} {t : TypeId} {w : World} {a : Option Addr} {L : List α} (h : Fl w (NB lo t w) k y cs a L) (hl : lo2 ≤ lo) : Fl w (NBr lo2 w) k y cs a L := h.kept (fun _ _ => rfl) (fun _ hb => hb.wide hl)
theorem own_lo {w : World} {lo lo2 k n : Nat} {e : TypeId} {v : Value} {xs : List Value} (h : w.ownsRow lo e k v n xs) (hl : lo2 ≤ lo) : w.ownsRow lo2 e k v n xs := by
 refine ⟨h.1, ?_⟩
 rcases h.2 with h | ⟨g, cap, cur, hv, h1, rest⟩
 ·exact .inl h
 ·exact .inr ⟨g, cap, cur, hv, Nat.le_trans hl h1, rest⟩
theorem nb_lo {lo lo2 : Nat} {t : TypeId} {w : World} {b : Nat} (h : NB lo t w b) (hl : lo2 ≤ lo) : NB lo2 t w b := ⟨Nat.le_trans hl h.1, h.2⟩
theorem CpR.lo {α β γ : Type} {e k : Nat} {cs : α → List Value} {t k' y : Nat} {cs' : γ → List Value} {ne : β → List γ} {sh : β → Option Addr → Nat → α} {lo lo2 : Nat} {w : World} {av : Option Addr} {cv : Nat} {J : List α} {D : List β} (h : CpR e k cs t k' y cs' ne sh lo w av cv J D) (hl : lo2 ≤ lo) : CpR e k cs t k' y cs' ne sh lo2 w av cv J D :=
 ⟨own_lo h.own hl, fun j h1 h2 => by obtain ⟨ga, gc, e1, f⟩ := h.dp j h1 h2; exact ⟨ga, gc, e1, f.kept (fun _ _ => rfl) (fun b hb => nb_lo hb hl)⟩⟩
theorem cp_jb {lo lo2 : Nat} {w : World} {av : Option Addr} {cv : Nat} {J : List Js} {D : List Jb} (h : CpR 51 7 Js.cs 48 3 24 Gp.cs Jb.gs Jb.sh lo w av cv J D) (hl : J.length = D.length) (hb : J.length * 72 ≤ 140737488355328) (hlo : lo2 ≤ lo) : JbR w (NBr lo2 w) av J D :=
 ⟨hl, nb_fl (own_fl Js.len h.own hb) hlo, fun i h1 h2 => by obtain ⟨ga, gc, e1, f⟩ := h.dp i h1 h2; exact ⟨ga, gc, e1, nb_fl f hlo⟩⟩
theorem cp_sn {lo lo2 : Nat} {w : World} {av : Option Addr} {cv : Nat} {J : List Ss} {D : List Sn} (h : CpR 76 5 Ss.cs 42 11 88 Al.cs Sn.al Sn.sh lo w av cv J D) (hl : J.length = D.length) (hb : J.length * 56 ≤ 140737488355328) (hlo : lo2 ≤ lo) : SnR w (NBr lo2 w) av J D :=
 ⟨hl, nb_fl (own_fl Ss.len h.own hb) hlo, fun i h1 h2 => by obtain ⟨ga, gc, e1, f⟩ := h.dp i h1 h2; exact ⟨ga, gc, e1, nb_fl f hlo⟩⟩
theorem CpS.begin (w : World) (st : List Value) (ix nx : Int) : CpS w (((w.alloc (.cells st.toArray 29)).alloc (.cells #[.int .i64 0, .int .i64 0, .slice none 0 0, .slice none 0 0, .slice none 0 0, .slice none 0 0, .slice none 0 0, .slice none 0 0, .slice none 0 0] 29)).alloc (.cells #[.int .i64 ix, .int .i64 nx, .slice none 0 0, .slice none 0 0, .slice none 0 0, .slice none 0 0, .slice none 0 0, .slice none 0 0, .slice none 0 0] 29)) st [.int .i64 ix, .int .i64 nx, .slice none 0 0, .slice none 0 0, .slice none 0 0, .slice none 0 0, .slice none 0 0, .slice none 0 0, .slice none 0 0] := by
 have h2 := heap_alloc_new (w.alloc (.cells st.toArray 29)) (.cells #[.int .i64 0, .int .i64 0, .slice none 0 0, .slice none 0 0, .slice none 0 0, .slice none 0 0, .slice none 0 0, .slice none 0 0, .slice none 0 0] 29)
 have h3 := heap_alloc_new ((w.alloc (.cells st.toArray 29)).alloc (.cells #[.int .i64 0, .int .i64 0, .slice none 0 0, .slice none 0 0, .slice none 0 0, .slice none 0 0, .slice none 0 0, .slice none 0 0, .slice none 0 0] 29)) (.cells #[.int .i64 ix, .int .i64 nx, .slice none 0 0, .slice none 0 0, .slice none 0 0, .slice none 0 0, .slice none 0 0, .slice none 0 0, .slice none 0 0] 29)
 simp only [World.size_alloc] at h2 h3
 exact ⟨alloc_at (alloc_at (heap_alloc_new w _) _) _, alloc_at h2 _, h3, (below2 w _ _).alloc (by simp; omega) _⟩
set_option maxRecDepth 100000 in
set_option maxHeartbeats 16000000 in
theorem refCopy_any (s : Sc) (J B : List Js) (X : List Ss) (d : St) (w : World) (hS : StR w (fun b => b < w.heap.size) s J B X d) :
  Calls Try.prog 11 #[.agg #[.int .i64 s.ix, .int .i64 s.nx, .slice s.a2 s.n2 s.c2, .slice s.a3 s.n3 s.c3, .slice s.a4 s.n4 s.c4, .slice s.a5 s.n5 s.c5, .slice s.a6 s.n6 s.c6, .slice s.a7 s.n7 s.c7, .slice s.a8 s.n8 s.c8]] w fun e w' => CopyP w e w' d := by
 obtain ⟨ix, nx, a2, n2, c2, a3, n3, c3, a4, n4, c4, a5, n5, c5, a6, n6, c6, a7, n7, c7, a8, n8, c8⟩ := s
 obtain ⟨h2, h3, h4, h5, h6, h7, h8⟩ : n2 = J.length ∧ n3 = B.length ∧ n4 = d.nodes.length ∧ n5 = d.allocs.length ∧ n6 = d.evals.length ∧ n7 = d.deps.length ∧ n8 = X.length := ⟨hS.f.n2, hS.f.n3, hS.f.n4, hS.f.n5, hS.f.n6, hS.f.n7, hS.f.n8⟩
 subst h2
 subst h3
 subst h4
 subst h5
 subst h6
 subst h7
 subst h8
 have HJ : Hid (JbR w (fun b => b < w.heap.size) a2 J d.jobs) := hidOf hS.j
 have HBB : Hid (JbR w (fun b => b < w.heap.size) a3 B d.stab) := hidOf hS.b
 have HX : Hid (SnR w (fun b => b < w.heap.size) a8 X d.seen) := hidOf hS.x
 have HF4 : Hid (Fl w (fun b => b < w.heap.size) 8 56 Nd.cs a4 d.nodes) := hidOf hS.f.f4
 have HF5 : Hid (Fl w (fun b => b < w.heap.size) 11 88 Al.cs a5 d.allocs) := hidOf hS.f.f5
 have HF6 : Hid (Fl w (fun b => b < w.heap.size) 4 32 Qd.cs a6 d.evals) := hidOf hS.f.f6
 have HF7 : Hid (Fl w (fun b => b < w.heap.size) 4 32 Qd.cs a7 d.deps) := hidOf hS.f.f7
 have HIX : Hid (ix = d.ix) := hidOf hS.ix
 have HNX : Hid (nx = d.nx) := hidOf hS.nx
 have hjl72 : J.length * 72 ≤ 140737488355328 := hS.f.f2.bd
 have hbl72 : B.length * 72 ≤ 140737488355328 := hS.f.f3.bd
 have hxl : X.length * 56 ≤ 140737488355328 := hS.f.f8.bd
 clear hS
 dsimp only
 have HC := hidOf (CpS.begin w [.int .i64 ix, .int .i64 nx, .slice a2 J.length c2, .slice a3 B.length c3, .slice a4 d.nodes.length c4, .slice a5 d.allocs.length c5, .slice a6 d.evals.length c6, .slice a7 d.deps.length c7, .slice a8 X.length c8] ix nx)
 go_enter Try.func11, Try.ntmps11
 go_wp2
 go_loopw [4] (fun i wr => ∃ (jv : Option Addr) (jc : Nat) (J1 : List Js), J1.length ≤ J.length ∧ i = .int .i64 (J1.length : Int) ∧ Hid (CpS w wr [.int .i64 ix, .int .i64 nx, .slice a2 J.length c2, .slice a3 B.length c3, .slice a4 d.nodes.length c4, .slice a5 d.allocs.length c5, .slice a6 d.evals.length c6, .slice a7 d.deps.length c7, .slice a8 X.length c8] [.int .i64 ix, .int .i64 nx, .slice jv J1.length jc, .slice none 0 0, .slice none 0 0, .slice none 0 0, .slice none 0 0, .slice none 0 0, .slice none 0 0]) ∧ Hid (CpR 51 7 Js.cs 48 3 24 Gp.cs Jb.gs Jb.sh (w.heap.size + 3) wr jv jc J1 d.jobs)) (fun i _ => J.length - (intOf i).toNat)
 case atStart => exact ⟨none, 0, [], Nat.zero_le _, rfl, HC, hidOf (CpR.nil _ _)⟩
 case round =>
  clear HC
  obtain ⟨jv, jc, J1, hle, rfl, HC, HR⟩ := hrel
  have hz := HC.out.z
  have lN : w.heap.size < wr.heap.size := by omega
  have lO : w.heap.size + 1 + 1 < wr.heap.size := by omega
  have eS : wr.cell? ⟨w.heap.size, 2, none⟩ = some (.slice a2 J.length c2) := HC.out.cs 2 _ rfl
  by_cases hlt : J1.length < J.length
  ·have hlt2 : J1.length < d.jobs.length := by rw [← HJ.out.len]; exact hlt
   obtain ⟨ga, gc, hsh, hG⟩ := HJ.out.dp J1.length hlt hlt2
   obtain ⟨b2, o2, ha, hbl, hc⟩ := HJ.out.row.at J1.length hlt
   have hbl' : b2 < w.heap.size := hbl
   clear hbl
   subst ha
   rw [hsh] at hc
   have HQ : Hid (d.jobs[J1.length]? = some d.jobs[J1.length]) := hidOf (List.getElem?_eq_getElem hlt2)
   have hcr := range_of hc (HC.out.b.block b2 hbl')
   have hlb : b2 < wr.heap.size := by have := HC.out.b.size; omega
   have HG := hidOf hG
   clear hsh hG hc
   generalize d.jobs[J1.length] = q at *
   have q0 : wr.cell? ⟨b2, o2 + J1.length * 7, none⟩ = some (.int .i64 q.id) := hcr 0 _ rfl
   have q1 : wr.cell? ⟨b2, o2 + J1.length * 7 + 1, none⟩ = some (.int .i64 q.ty) := hcr 1 _ rfl
   have q2 : wr.cell? ⟨b2, o2 + J1.length * 7 + 2, none⟩ = some (.int .i64 q.pr) := hcr 2 _ rfl
   have q3 : wr.cell? ⟨b2, o2 + J1.length * 7 + 3, none⟩ = some (.int .i64 q.pa) := hcr 3 _ rfl
   have q4 : wr.cell? ⟨b2, o2 + J1.length * 7 + 4, none⟩ = some (.slice ga q.gs.length gc) := hcr 4 _ rfl
   have q5 : wr.cell? ⟨b2, o2 + J1.length * 7 + 5, none⟩ = some (.int .i64 q.ve) := hcr 5 _ rfl
   have q6 : wr.cell? ⟨b2, o2 + J1.length * 7 + 6, none⟩ = some (.bool q.sd) := hcr 6 _ rfl
   have oV : wr.cell? ⟨w.heap.size + 1 + 1, 2, none⟩ = some (.slice jv J1.length jc) := HC.out.co 2 _ rfl
   have h64 : (J1.length : Int) < (J.length : Int) := by omega
   have HBD : Hid (J.length * 72 ≤ 140737488355328) := hidOf HJ.out.row.bd
   go_upto_region 5 with (fail)
   refine wp_region_L (fun (wz : World) => (wz.cell? ⟨w.heap.size + 1 + 1, 2, none⟩ = some (.slice jv J1.length jc) ∧ wz.cell? ⟨w.heap.size, 2, none⟩ = some (.slice (some ⟨b2, o2, none⟩) J.length c2)) ∧ (wz.cell? ⟨b2, o2 + J1.length * 7, none⟩ = some (.int .i64 q.id) ∧ wz.cell? ⟨b2, o2 + J1.length * 7 + 1, none⟩ = some (.int .i64 q.ty) ∧ wz.cell? ⟨b2, o2 + J1.length * 7 + 2, none⟩ = some (.int .i64 q.pr) ∧ wz.cell? ⟨b2, o2 + J1.length * 7 + 3, none⟩ = some (.int .i64 q.pa) ∧ wz.cell? ⟨b2, o2 + J1.length * 7 + 4, none⟩ = some (.slice ga q.gs.length gc) ∧ wz.cell? ⟨b2, o2 + J1.length * 7 + 5, none⟩ = some (.int .i64 q.ve) ∧ wz.cell? ⟨b2, o2 + J1.length * 7 + 6, none⟩ = some (.bool q.sd))) 11 (by kernel_rfl) ?_
   have hHeld : (fun (wz : World) => (wz.cell? ⟨w.heap.size + 1 + 1, 2, none⟩ = some (.slice jv J1.length jc) ∧ wz.cell? ⟨w.heap.size, 2, none⟩ = some (.slice (some ⟨b2, o2, none⟩) J.length c2)) ∧ (wz.cell? ⟨b2, o2 + J1.length * 7, none⟩ = some (.int .i64 q.id) ∧ wz.cell? ⟨b2, o2 + J1.length * 7 + 1, none⟩ = some (.int .i64 q.ty) ∧ wz.cell? ⟨b2, o2 + J1.length * 7 + 2, none⟩ = some (.int .i64 q.pr) ∧ wz.cell? ⟨b2, o2 + J1.length * 7 + 3, none⟩ = some (.int .i64 q.pa) ∧ wz.cell? ⟨b2, o2 + J1.length * 7 + 4, none⟩ = some (.slice ga q.gs.length gc) ∧ wz.cell? ⟨b2, o2 + J1.length * 7 + 5, none⟩ = some (.int .i64 q.ve) ∧ wz.cell? ⟨b2, o2 + J1.length * 7 + 6, none⟩ = some (.bool q.sd))) _ := ⟨⟨oV, eS⟩, q0, q1, q2, q3, q4, q5, q6⟩
   refine wpAnyL_take (i := 0) (oi := { dst := some 21, op := Op.fieldAddr 29 (Operand.tmp 3) 2, type := 0, pos := "ref.go:24", after := #[], guard := none }) (v := .pointer (some ⟨w.heap.size + 1 + 1, 2, none⟩)) rfl (by kernel_rfl) (by kernel_rfl) (by kernel_rfl) (by kernel_rfl) (fun _ _ _ h => h) (Or.inl ⟨by rfl, ?_⟩) hHeld ?_
   ·(intro w hSw; (try dsimp only at hSw); go_simp)
   try simp only [Act.put, List.setIfInBounds_toArray, List.set_cons_zero, List.set_cons_succ]
   refine wpAnyL_take (i := 1) (oi := { dst := some 22, op := Op.load 22 (Operand.tmp 21), type := 22, pos := "ref.go:24", after := #[{ on := 0, ground := Ground.data }], guard := none }) (v := .slice jv J1.length jc) rfl (by kernel_rfl) (by kernel_rfl) (by kernel_rfl) (by kernel_rfl) (fun _ _ _ h => h) (Or.inl ⟨by rfl, ?_⟩) hHeld ?_
   ·(intro w hSw; (try dsimp only at hSw); go_simp)
   try simp only [Act.put, List.setIfInBounds_toArray, List.set_cons_zero, List.set_cons_succ]
   refine wpAnyL_take (i := 2) (oi := { dst := some 23, op := Op.fieldAddr 29 (Operand.tmp 1) 2, type := 0, pos := "ref.go:24", after := #[], guard := none }) (v := .pointer (some ⟨w.heap.size, 2, none⟩)) rfl (by kernel_rfl) (by kernel_rfl) (by kernel_rfl) (by kernel_rfl) (fun _ _ _ h => h) (Or.inl ⟨by rfl, ?_⟩) hHeld ?_
   ·(intro w hSw; (try dsimp only at hSw); go_simp)
   try simp only [Act.put, List.setIfInBounds_toArray, List.set_cons_zero, List.set_cons_succ]
   refine wpAnyL_take (i := 3) (oi := { dst := some 24, op := Op.load 22 (Operand.tmp 23), type := 22, pos := "ref.go:24", after := #[{ on := 2, ground := Ground.data }], guard := none }) (v := .slice (some ⟨b2, o2, none⟩) J.length c2) rfl (by kernel_rfl) (by kernel_rfl) (by kernel_rfl) (by kernel_rfl) (fun _ _ _ h => h) (Or.inl ⟨by rfl, ?_⟩) hHeld ?_
   ·(intro w hSw; (try dsimp only at hSw); go_simp)
   try simp only [Act.put, List.setIfInBounds_toArray, List.set_cons_zero, List.set_cons_succ]
   refine wpAnyL_take (i := 4) (oi := { dst := some 25, op := Op.move (Operand.tmp 4), type := 3, pos := "ref.go:24", after := #[], guard := none }) (v := .int .i64 (J1.length : Int)) rfl (by kernel_rfl) (by kernel_rfl) (by kernel_rfl) (by kernel_rfl) (fun _ _ _ h => h) (Or.inl ⟨by rfl, ?_⟩) hHeld ?_
   ·(intro w hSw; (try dsimp only at hSw); go_simp)
   try simp only [Act.put, List.setIfInBounds_toArray, List.set_cons_zero, List.set_cons_succ]
   refine wpAnyL_take (i := 5) (oi := { dst := some 26, op := Op.indexAddr 22 (Operand.tmp 24) (Operand.tmp 25), type := 0, pos := "ref.go:24", after := #[{ on := 3, ground := Ground.data }, { on := 4, ground := Ground.data }], guard := none }) (v := .pointer (some ⟨b2, o2 + J1.length * 7, none⟩)) rfl (by kernel_rfl) (by kernel_rfl) (by kernel_rfl) (by kernel_rfl) (fun _ _ _ h => h) (Or.inl ⟨by rfl, ?_⟩) hHeld ?_
   ·(intro w hSw; (try dsimp only at hSw); go_simp)
   try simp only [Act.put, List.setIfInBounds_toArray, List.set_cons_zero, List.set_cons_succ]
   refine wpAnyL_take (i := 6) (oi := { dst := some 27, op := Op.load 51 (Operand.tmp 26), type := 51, pos := "ref.go:24", after := #[{ on := 5, ground := Ground.data }], guard := none }) (v := .agg #[.int .i64 q.id, .int .i64 q.ty, .int .i64 q.pr, .int .i64 q.pa, .slice ga q.gs.length gc, .int .i64 q.ve, .bool q.sd]) rfl (by kernel_rfl) (by kernel_rfl) (by kernel_rfl) (by kernel_rfl) (fun _ _ _ h => h) (Or.inl ⟨by rfl, ?_⟩) hHeld ?_
   ·(intro w hSw; (try dsimp only at hSw); go_simp)
   try simp only [Act.put, List.setIfInBounds_toArray, List.set_cons_zero, List.set_cons_succ]
   refine wpAnyL_one (i := 7) (o := { dst := some 28, op := Op.call { callee := Callee.value (Operand.func 26), args := #[Operand.tmp 27], argTypes := #[51] }, type := 51, pos := "ref.go:24", after := #[{ on := 6, ground := Ground.data }], guard := none }) (by kernel_rfl) rfl (fun K hK => ?_)
   rw [if_pos (by rfl)]
   go_simp
   refine (refJob_any q ga gc (fun b => b < w.heap.size) wr.drew (fun b hb => Nat.lt_of_lt_of_le hb HC.out.b.size) (HG.out.kept (w' := wr.drew) (fun b hb => HC.out.b.block b hb) (fun _ h => h))).mono ?_
   rintro e w1 ⟨ga', gc', rfl, hfl, hb0⟩
   have hb : Below wr.heap.size wr w1 := (bdrew wr).trans hb0
   have hs1 := hb.size
   have kb : ∀ {b o : Nat} {v : Value}, wr.cell? ⟨b, o, none⟩ = some v → b < wr.heap.size → w1.cell? ⟨b, o, none⟩ = some v := fun h hl => (hb_cell hb hl).trans h
   have HFL : Hid (Fl w1 (NB wr.heap.size 48 w1) 3 24 Gp.cs ga' q.gs) := hidOf hfl
   have HB := hidOf hb
   clear hfl hb0 hb
   refine hK.out _ _ (fun _ => ⟨⟨kb oV (by omega), kb eS (by omega)⟩, kb q0 (by omega), kb q1 (by omega), kb q2 (by omega), kb q3 (by omega), kb q4 (by omega), kb q5 (by omega), kb q6 (by omega)⟩) ?_
   clear hK K
   try simp only [Act.put, List.setIfInBounds_toArray, List.set_cons_zero, List.set_cons_succ]
   refine wpAnyL_one (i := 8) (o := { dst := some 29, op := Op.buildSlice 22 1 #[(0, Operand.tmp 28)], type := 22, pos := "ref.go:24", after := #[{ on := 7, ground := Ground.data }], guard := none }) (by kernel_rfl) rfl (fun K hK => ?_)
   rw [if_pos (by rfl)]
   go_simp
   have hb2 : Below wr.heap.size wr (w1.alloc (.cells #[.int .i64 q.id, .int .i64 q.ty, .int .i64 q.pr, .int .i64 q.pa, .slice ga' q.gs.length gc', .int .i64 q.ve, .bool q.sd] 51)) := HB.out.trans ((below1 w1 _).mono HB.out.size)
   have kb2 : ∀ {b o : Nat} {v : Value}, wr.cell? ⟨b, o, none⟩ = some v → b < wr.heap.size → (w1.alloc (.cells #[.int .i64 q.id, .int .i64 q.ty, .int .i64 q.pr, .int .i64 q.pa, .slice ga' q.gs.length gc', .int .i64 q.ve, .bool q.sd] 51)).cell? ⟨b, o, none⟩ = some v := fun h hl => (hb_cell hb2 hl).trans h
   refine hK.out _ _ (fun _ => ⟨⟨kb2 oV (by omega), kb2 eS (by omega)⟩, kb2 q0 (by omega), kb2 q1 (by omega), kb2 q2 (by omega), kb2 q3 (by omega), kb2 q4 (by omega), kb2 q5 (by omega), kb2 q6 (by omega)⟩) ?_
   clear hK K
   try simp only [Act.put, List.setIfInBounds_toArray, List.set_cons_zero, List.set_cons_succ]
   refine wpAnyL_one (i := 9) (o := { dst := some 30, op := Op.call { callee := Callee.builtin Builtin.append, args := #[Operand.tmp 22, Operand.tmp 29], argTypes := #[22, 22] }, type := 22, pos := "ref.go:24", after := #[{ on := 1, ground := Ground.data }, { on := 8, ground := Ground.data }, { on := 7, ground := Ground.chain }], guard := none }) (by kernel_rfl) rfl (fun K hK => ?_)
   rw [if_pos (by rfl)]
   refine oper_app1 _ _ _ 22 rfl (w.heap.size + 3) 51 _ 7 72 Try.underlying22 info55 rfl (by decide) _ J1.length (fl Js.cs J1) rfl (own_kept HR.out.own (fun b _ h2 => hb2.block b h2)) ⟨w1.heap.size, 0, none⟩ 1 (Js.cs (q.sh ga' gc')) rfl rfl (fun j u hj => ?_) (Js.one _) (by unfold maxLen; have := HBD.out; omega) (by have := HBD.out; omega) (by simp; omega) ?_
   ·rw [Addr.add_lit, cell_of_row _ w1.heap.size _ _ 51 (0, 0) (heap_alloc_new w1 _), Nat.zero_add]; have hl : ([.int .i64 q.id, .int .i64 q.ty, .int .i64 q.pr, .int .i64 q.pa, .slice ga' q.gs.length gc', .int .i64 q.ve, .bool q.sd] : List Value)[j]? = some u := hj; simpa using hl
   intro a' c' w3 hown3 hg3
   have hrow : ∀ k, (Value.slice jv J1.length jc).ownBlock = some k → w.heap.size + 3 ≤ k ∧ k < wr.heap.size := fun k hk => by
    rcases HR.out.own.2 with ⟨e1, _⟩ | ⟨g, cap, cu, e1, hl, hgg, _⟩
    ·rw [e1] at hk; cases hk
    ·rw [e1] at hk
     have e2 : g = k := by simpa [Value.ownBlock] using hk
     subst e2
     exact ⟨hl, heap_lt hgg⟩
   have hs3 := hg3.size
   simp only [World.size_alloc] at hs3
   have HC3 := hidOf ((HC.out.grow hb2).grown hg3 (fun k hk => by have := (hrow k hk).1; omega))
   have kb3 : ∀ {b o : Nat} {v : Value}, wr.cell? ⟨b, o, none⟩ = some v → b < w.heap.size + 3 → w3.cell? ⟨b, o, none⟩ = some v := fun {b} _ _ h hl => (World.cell?_of_block (hg3.block b (by simp; omega) (fun e2 => by have := (hrow b e2.symm).1; omega))).trans (kb2 h (by omega))
   have HO3 := hidOf hown3
   have HG3 := hidOf hg3
   have HB2 := hidOf hb2
   have HROW := hidOf hrow
   clear hown3 hb2 hrow
   replace hHeld : (fun (wz : World) => (wz.cell? ⟨w.heap.size + 1 + 1, 2, none⟩ = some (.slice jv J1.length jc) ∧ wz.cell? ⟨w.heap.size, 2, none⟩ = some (.slice (some ⟨b2, o2, none⟩) J.length c2)) ∧ (wz.cell? ⟨b2, o2 + J1.length * 7, none⟩ = some (.int .i64 q.id) ∧ wz.cell? ⟨b2, o2 + J1.length * 7 + 1, none⟩ = some (.int .i64 q.ty) ∧ wz.cell? ⟨b2, o2 + J1.length * 7 + 2, none⟩ = some (.int .i64 q.pr) ∧ wz.cell? ⟨b2, o2 + J1.length * 7 + 3, none⟩ = some (.int .i64 q.pa) ∧ wz.cell? ⟨b2, o2 + J1.length * 7 + 4, none⟩ = some (.slice ga q.gs.length gc) ∧ wz.cell? ⟨b2, o2 + J1.length * 7 + 5, none⟩ = some (.int .i64 q.ve) ∧ wz.cell? ⟨b2, o2 + J1.length * 7 + 6, none⟩ = some (.bool q.sd))) w3 := ⟨⟨kb3 oV (by omega), kb3 eS (by omega)⟩, kb3 q0 (by omega), kb3 q1 (by omega), kb3 q2 (by omega), kb3 q3 (by omega), kb3 q4 (by omega), kb3 q5 (by omega), kb3 q6 (by omega)⟩
   refine hK.out _ _ (fun _ => hHeld) ?_
   clear hK K
   try simp only [Act.put, List.setIfInBounds_toArray, List.set_cons_zero, List.set_cons_succ]
   refine wpAnyL_take (i := 10) (oi := { dst := some 31, op := Op.fieldAddr 29 (Operand.tmp 3) 2, type := 0, pos := "ref.go:24", after := #[{ on := 0, ground := Ground.phase }, { on := 1, ground := Ground.phase }, { on := 2, ground := Ground.phase }, { on := 3, ground := Ground.phase }, { on := 4, ground := Ground.phase }, { on := 5, ground := Ground.phase }, { on := 6, ground := Ground.phase }, { on := 7, ground := Ground.phase }, { on := 8, ground := Ground.phase }, { on := 9, ground := Ground.phase }], guard := none }) (v := .pointer (some ⟨w.heap.size + 1 + 1, 2, none⟩)) rfl (by kernel_rfl) (by kernel_rfl) (by kernel_rfl) (by kernel_rfl) (fun _ _ _ h => h) (Or.inl ⟨by rfl, ?_⟩) hHeld ?_
   ·(intro w hSw; (try dsimp only at hSw); go_simp)
   try simp only [Act.put, List.setIfInBounds_toArray, List.set_cons_zero, List.set_cons_succ]
   refine wpAnyL_one (i := 11) (o := { dst := none, op := Op.store 22 (Operand.tmp 31) (Operand.tmp 30), type := 0, pos := "ref.go:24", after := #[{ on := 10, ground := Ground.data }, { on := 9, ground := Ground.data }, { on := 9, ground := Ground.chain }, { on := 0, ground := Ground.phase }, { on := 1, ground := Ground.phase }, { on := 2, ground := Ground.phase }, { on := 3, ground := Ground.phase }, { on := 4, ground := Ground.phase }, { on := 5, ground := Ground.phase }, { on := 6, ground := Ground.phase }, { on := 7, ground := Ground.phase }, { on := 8, ground := Ground.phase }, { on := 9, ground := Ground.phase }], guard := none }) (by kernel_rfl) rfl (fun K hK => ?_)
   rw [if_pos (by rfl)]
   have oV3 : w3.cell? ⟨w.heap.size + 1 + 1, 2, none⟩ = some (.slice jv J1.length jc) := kb3 oV (by omega)
   have fO3 := HC3.out.fo
   have lO3 : w.heap.size + 1 + 1 < w3.heap.size := by omega
   go_simp
   refine hK.out _ _ (fun h => absurd rfl h) ?_
   clear hK K
   try simp only [Act.put, List.setIfInBounds_toArray, List.set_cons_zero, List.set_cons_succ]
   refine wpAnyL_done (by kernel_rfl) ?_ _
   go_wp2
   go_roundw
   case rel =>
    refine ⟨a', c', J1 ++ [q.sh ga' gc'], by simp; omega, by simp, ?_, ?_⟩
    ·have hset := HC3.out.set 2 (.slice a' (J1.length + 1) c')
     rw [show (J1 ++ [q.sh ga' gc']).length = J1.length + 1 by simp]
     exact hidOf hset
    ·refine hidOf (CpR.step (w2 := w1.alloc (.cells #[.int .i64 q.id, .int .i64 q.ty, .int .i64 q.pr, .int .i64 q.pa, .slice ga' q.gs.length gc', .int .i64 q.ve, .bool q.sd] 51)) HR.out (by decide) HQ.out HB.out (HFL.out.kept (fun _ _ => rfl) (fun b hb => hb.to rfl (by have := hb.1; omega))) (fun b hb => ?_) HO3.out HG3.out (fun b hb => heap_setCell_other w3 ⟨w.heap.size + 1 + 1, 2, none⟩ b _ (by show b ≠ w.heap.size + 1 + 1; omega)))
     have hlt3 : b < w1.heap.size := by
      rcases hb with hb | ⟨c, hb⟩
      ·omega
      ·exact heap_lt hb
     exact (below1 w1 _).block b hlt3
   case measure => simp [intOf]; omega
  ·have hjl : J1.length = J.length := by omega
   have h64 : ¬ (J1.length : Int) < (J.length : Int) := by omega
   obtain ⟨wj, hnew⟩ : ∃ x, x = wr := ⟨_, rfl⟩
   subst hnew
   have HJL := hidOf hjl
   have HD : Hid (∀ W', Kq (Qr (w.heap.size + 3) wj.heap.size) wj W' → (CpR 51 7 Js.cs 48 3 24 Gp.cs Jb.gs Jb.sh (w.heap.size + 3) W' jv jc J1 d.jobs)) := hidOf (fun W' hk => HR.out.kept hk)
   have hzj : w.heap.size + 3 ≤ wj.heap.size := hz
   clear HR hjl hle hz
   go_wp2
   clear lN lO eS h64
   go_loopw [5] (fun i wr => ∃ (bv : Option Addr) (bc : Nat) (B1 : List Js), B1.length ≤ B.length ∧ i = .int .i64 (B1.length : Int) ∧ Hid (CpS w wr [.int .i64 ix, .int .i64 nx, .slice a2 J.length c2, .slice a3 B.length c3, .slice a4 d.nodes.length c4, .slice a5 d.allocs.length c5, .slice a6 d.evals.length c6, .slice a7 d.deps.length c7, .slice a8 X.length c8] [.int .i64 ix, .int .i64 nx, .slice jv J1.length jc, .slice bv B1.length bc, .slice none 0 0, .slice none 0 0, .slice none 0 0, .slice none 0 0, .slice none 0 0]) ∧ Hid (CpR 51 7 Js.cs 48 3 24 Gp.cs Jb.gs Jb.sh (wj.heap.size) wr bv bc B1 d.stab) ∧ Hid (Kq (Qr (w.heap.size + 3) wj.heap.size) wj wr)) (fun i _ => B.length - (intOf i).toNat)
   case atStart => exact ⟨none, 0, [], Nat.zero_le _, rfl, HC, hidOf (CpR.nil _ _), hidOf (Kq.refl _ _)⟩
   case round =>
    clear HC
    obtain ⟨bv, bc, B1, hle, rfl, HC, HR, HK⟩ := hrel
    have hz := HC.out.z
    have hzb : wj.heap.size ≤ wr.heap.size := HK.out.size
    have lN : w.heap.size < wr.heap.size := by omega
    have lO : w.heap.size + 1 + 1 < wr.heap.size := by omega
    have eS : wr.cell? ⟨w.heap.size, 3, none⟩ = some (.slice a3 B.length c3) := HC.out.cs 3 _ rfl
    by_cases hlt : B1.length < B.length
    ·have hlt2 : B1.length < d.stab.length := by rw [← HBB.out.len]; exact hlt
     obtain ⟨ga, gc, hsh, hG⟩ := HBB.out.dp B1.length hlt hlt2
     obtain ⟨b3, o3, ha, hbl, hc⟩ := HBB.out.row.at B1.length hlt
     have hbl' : b3 < w.heap.size := hbl
     clear hbl
     subst ha
     rw [hsh] at hc
     have HQ : Hid (d.stab[B1.length]? = some d.stab[B1.length]) := hidOf (List.getElem?_eq_getElem hlt2)
     have hcr := range_of hc (HC.out.b.block b3 hbl')
     have hlb : b3 < wr.heap.size := by have := HC.out.b.size; omega
     have HG := hidOf hG
     clear hsh hG hc
     generalize d.stab[B1.length] = q at *
     have q0 : wr.cell? ⟨b3, o3 + B1.length * 7, none⟩ = some (.int .i64 q.id) := hcr 0 _ rfl
     have q1 : wr.cell? ⟨b3, o3 + B1.length * 7 + 1, none⟩ = some (.int .i64 q.ty) := hcr 1 _ rfl
     have q2 : wr.cell? ⟨b3, o3 + B1.length * 7 + 2, none⟩ = some (.int .i64 q.pr) := hcr 2 _ rfl
     have q3 : wr.cell? ⟨b3, o3 + B1.length * 7 + 3, none⟩ = some (.int .i64 q.pa) := hcr 3 _ rfl
     have q4 : wr.cell? ⟨b3, o3 + B1.length * 7 + 4, none⟩ = some (.slice ga q.gs.length gc) := hcr 4 _ rfl
     have q5 : wr.cell? ⟨b3, o3 + B1.length * 7 + 5, none⟩ = some (.int .i64 q.ve) := hcr 5 _ rfl
     have q6 : wr.cell? ⟨b3, o3 + B1.length * 7 + 6, none⟩ = some (.bool q.sd) := hcr 6 _ rfl
     have oV : wr.cell? ⟨w.heap.size + 1 + 1, 3, none⟩ = some (.slice bv B1.length bc) := HC.out.co 3 _ rfl
     have h64 : (B1.length : Int) < (B.length : Int) := by omega
     have HBD : Hid (B.length * 72 ≤ 140737488355328) := hidOf HBB.out.row.bd
     go_upto_region 9 with (fail)
     refine wp_region_L (fun (wz : World) => (wz.cell? ⟨w.heap.size + 1 + 1, 3, none⟩ = some (.slice bv B1.length bc) ∧ wz.cell? ⟨w.heap.size, 3, none⟩ = some (.slice (some ⟨b3, o3, none⟩) B.length c3)) ∧ (wz.cell? ⟨b3, o3 + B1.length * 7, none⟩ = some (.int .i64 q.id) ∧ wz.cell? ⟨b3, o3 + B1.length * 7 + 1, none⟩ = some (.int .i64 q.ty) ∧ wz.cell? ⟨b3, o3 + B1.length * 7 + 2, none⟩ = some (.int .i64 q.pr) ∧ wz.cell? ⟨b3, o3 + B1.length * 7 + 3, none⟩ = some (.int .i64 q.pa) ∧ wz.cell? ⟨b3, o3 + B1.length * 7 + 4, none⟩ = some (.slice ga q.gs.length gc) ∧ wz.cell? ⟨b3, o3 + B1.length * 7 + 5, none⟩ = some (.int .i64 q.ve) ∧ wz.cell? ⟨b3, o3 + B1.length * 7 + 6, none⟩ = some (.bool q.sd))) 11 (by kernel_rfl) ?_
     have hHeld : (fun (wz : World) => (wz.cell? ⟨w.heap.size + 1 + 1, 3, none⟩ = some (.slice bv B1.length bc) ∧ wz.cell? ⟨w.heap.size, 3, none⟩ = some (.slice (some ⟨b3, o3, none⟩) B.length c3)) ∧ (wz.cell? ⟨b3, o3 + B1.length * 7, none⟩ = some (.int .i64 q.id) ∧ wz.cell? ⟨b3, o3 + B1.length * 7 + 1, none⟩ = some (.int .i64 q.ty) ∧ wz.cell? ⟨b3, o3 + B1.length * 7 + 2, none⟩ = some (.int .i64 q.pr) ∧ wz.cell? ⟨b3, o3 + B1.length * 7 + 3, none⟩ = some (.int .i64 q.pa) ∧ wz.cell? ⟨b3, o3 + B1.length * 7 + 4, none⟩ = some (.slice ga q.gs.length gc) ∧ wz.cell? ⟨b3, o3 + B1.length * 7 + 5, none⟩ = some (.int .i64 q.ve) ∧ wz.cell? ⟨b3, o3 + B1.length * 7 + 6, none⟩ = some (.bool q.sd))) _ := ⟨⟨oV, eS⟩, q0, q1, q2, q3, q4, q5, q6⟩
     refine wpAnyL_take (i := 0) (oi := { dst := some 39, op := Op.fieldAddr 29 (Operand.tmp 3) 3, type := 0, pos := "ref.go:27", after := #[], guard := none }) (v := .pointer (some ⟨w.heap.size + 1 + 1, 3, none⟩)) rfl (by kernel_rfl) (by kernel_rfl) (by kernel_rfl) (by kernel_rfl) (fun _ _ _ h => h) (Or.inl ⟨by rfl, ?_⟩) hHeld ?_
     ·(intro w hSw; (try dsimp only at hSw); go_simp)
     try simp only [Act.put, List.setIfInBounds_toArray, List.set_cons_zero, List.set_cons_succ]
     refine wpAnyL_take (i := 1) (oi := { dst := some 40, op := Op.load 22 (Operand.tmp 39), type := 22, pos := "ref.go:27", after := #[{ on := 0, ground := Ground.data }], guard := none }) (v := .slice bv B1.length bc) rfl (by kernel_rfl) (by kernel_rfl) (by kernel_rfl) (by kernel_rfl) (fun _ _ _ h => h) (Or.inl ⟨by rfl, ?_⟩) hHeld ?_
     ·(intro w hSw; (try dsimp only at hSw); go_simp)
     try simp only [Act.put, List.setIfInBounds_toArray, List.set_cons_zero, List.set_cons_succ]
     refine wpAnyL_take (i := 2) (oi := { dst := some 41, op := Op.fieldAddr 29 (Operand.tmp 1) 3, type := 0, pos := "ref.go:27", after := #[], guard := none }) (v := .pointer (some ⟨w.heap.size, 3, none⟩)) rfl (by kernel_rfl) (by kernel_rfl) (by kernel_rfl) (by kernel_rfl) (fun _ _ _ h => h) (Or.inl ⟨by rfl, ?_⟩) hHeld ?_
     ·(intro w hSw; (try dsimp only at hSw); go_simp)
     try simp only [Act.put, List.setIfInBounds_toArray, List.set_cons_zero, List.set_cons_succ]
     refine wpAnyL_take (i := 3) (oi := { dst := some 42, op := Op.load 22 (Operand.tmp 41), type := 22, pos := "ref.go:27", after := #[{ on := 2, ground := Ground.data }], guard := none }) (v := .slice (some ⟨b3, o3, none⟩) B.length c3) rfl (by kernel_rfl) (by kernel_rfl) (by kernel_rfl) (by kernel_rfl) (fun _ _ _ h => h) (Or.inl ⟨by rfl, ?_⟩) hHeld ?_
     ·(intro w hSw; (try dsimp only at hSw); go_simp)
     try simp only [Act.put, List.setIfInBounds_toArray, List.set_cons_zero, List.set_cons_succ]
     refine wpAnyL_take (i := 4) (oi := { dst := some 43, op := Op.move (Operand.tmp 5), type := 3, pos := "ref.go:27", after := #[], guard := none }) (v := .int .i64 (B1.length : Int)) rfl (by kernel_rfl) (by kernel_rfl) (by kernel_rfl) (by kernel_rfl) (fun _ _ _ h => h) (Or.inl ⟨by rfl, ?_⟩) hHeld ?_
     ·(intro w hSw; (try dsimp only at hSw); go_simp)
     try simp only [Act.put, List.setIfInBounds_toArray, List.set_cons_zero, List.set_cons_succ]
     refine wpAnyL_take (i := 5) (oi := { dst := some 44, op := Op.indexAddr 22 (Operand.tmp 42) (Operand.tmp 43), type := 0, pos := "ref.go:27", after := #[{ on := 3, ground := Ground.data }, { on := 4, ground := Ground.data }], guard := none }) (v := .pointer (some ⟨b3, o3 + B1.length * 7, none⟩)) rfl (by kernel_rfl) (by kernel_rfl) (by kernel_rfl) (by kernel_rfl) (fun _ _ _ h => h) (Or.inl ⟨by rfl, ?_⟩) hHeld ?_
     ·(intro w hSw; (try dsimp only at hSw); go_simp)
     try simp only [Act.put, List.setIfInBounds_toArray, List.set_cons_zero, List.set_cons_succ]
     refine wpAnyL_take (i := 6) (oi := { dst := some 45, op := Op.load 51 (Operand.tmp 44), type := 51, pos := "ref.go:27", after := #[{ on := 5, ground := Ground.data }], guard := none }) (v := .agg #[.int .i64 q.id, .int .i64 q.ty, .int .i64 q.pr, .int .i64 q.pa, .slice ga q.gs.length gc, .int .i64 q.ve, .bool q.sd]) rfl (by kernel_rfl) (by kernel_rfl) (by kernel_rfl) (by kernel_rfl) (fun _ _ _ h => h) (Or.inl ⟨by rfl, ?_⟩) hHeld ?_
     ·(intro w hSw; (try dsimp only at hSw); go_simp)
     try simp only [Act.put, List.setIfInBounds_toArray, List.set_cons_zero, List.set_cons_succ]
     refine wpAnyL_one (i := 7) (o := { dst := some 46, op := Op.call { callee := Callee.value (Operand.func 26), args := #[Operand.tmp 45], argTypes := #[51] }, type := 51, pos := "ref.go:27", after := #[{ on := 6, ground := Ground.data }], guard := none }) (by kernel_rfl) rfl (fun K hK => ?_)
     rw [if_pos (by rfl)]
     go_simp
     refine (refJob_any q ga gc (fun b => b < w.heap.size) wr.drew (fun b hb => Nat.lt_of_lt_of_le hb HC.out.b.size) (HG.out.kept (w' := wr.drew) (fun b hb => HC.out.b.block b hb) (fun _ h => h))).mono ?_
     rintro e w1 ⟨ga', gc', rfl, hfl, hb0⟩
     have hb : Below wr.heap.size wr w1 := (bdrew wr).trans hb0
     have hs1 := hb.size
     have kb : ∀ {b o : Nat} {v : Value}, wr.cell? ⟨b, o, none⟩ = some v → b < wr.heap.size → w1.cell? ⟨b, o, none⟩ = some v := fun h hl => (hb_cell hb hl).trans h
     have HFL : Hid (Fl w1 (NB wr.heap.size 48 w1) 3 24 Gp.cs ga' q.gs) := hidOf hfl
     have HB := hidOf hb
     clear hfl hb0 hb
     refine hK.out _ _ (fun _ => ⟨⟨kb oV (by omega), kb eS (by omega)⟩, kb q0 (by omega), kb q1 (by omega), kb q2 (by omega), kb q3 (by omega), kb q4 (by omega), kb q5 (by omega), kb q6 (by omega)⟩) ?_
     clear hK K
     try simp only [Act.put, List.setIfInBounds_toArray, List.set_cons_zero, List.set_cons_succ]
     refine wpAnyL_one (i := 8) (o := { dst := some 47, op := Op.buildSlice 22 1 #[(0, Operand.tmp 46)], type := 22, pos := "ref.go:27", after := #[{ on := 7, ground := Ground.data }], guard := none }) (by kernel_rfl) rfl (fun K hK => ?_)
     rw [if_pos (by rfl)]
     go_simp
     have hb2 : Below wr.heap.size wr (w1.alloc (.cells #[.int .i64 q.id, .int .i64 q.ty, .int .i64 q.pr, .int .i64 q.pa, .slice ga' q.gs.length gc', .int .i64 q.ve, .bool q.sd] 51)) := HB.out.trans ((below1 w1 _).mono HB.out.size)
     have kb2 : ∀ {b o : Nat} {v : Value}, wr.cell? ⟨b, o, none⟩ = some v → b < wr.heap.size → (w1.alloc (.cells #[.int .i64 q.id, .int .i64 q.ty, .int .i64 q.pr, .int .i64 q.pa, .slice ga' q.gs.length gc', .int .i64 q.ve, .bool q.sd] 51)).cell? ⟨b, o, none⟩ = some v := fun h hl => (hb_cell hb2 hl).trans h
     refine hK.out _ _ (fun _ => ⟨⟨kb2 oV (by omega), kb2 eS (by omega)⟩, kb2 q0 (by omega), kb2 q1 (by omega), kb2 q2 (by omega), kb2 q3 (by omega), kb2 q4 (by omega), kb2 q5 (by omega), kb2 q6 (by omega)⟩) ?_
     clear hK K
     try simp only [Act.put, List.setIfInBounds_toArray, List.set_cons_zero, List.set_cons_succ]
     refine wpAnyL_one (i := 9) (o := { dst := some 48, op := Op.call { callee := Callee.builtin Builtin.append, args := #[Operand.tmp 40, Operand.tmp 47], argTypes := #[22, 22] }, type := 22, pos := "ref.go:27", after := #[{ on := 1, ground := Ground.data }, { on := 8, ground := Ground.data }, { on := 7, ground := Ground.chain }], guard := none }) (by kernel_rfl) rfl (fun K hK => ?_)
     rw [if_pos (by rfl)]
     refine oper_app1 _ _ _ 22 rfl (wj.heap.size) 51 _ 7 72 Try.underlying22 info55 rfl (by decide) _ B1.length (fl Js.cs B1) rfl (own_kept HR.out.own (fun b _ h2 => hb2.block b h2)) ⟨w1.heap.size, 0, none⟩ 1 (Js.cs (q.sh ga' gc')) rfl rfl (fun j u hj => ?_) (Js.one _) (by unfold maxLen; have := HBD.out; omega) (by have := HBD.out; omega) (by simp; omega) ?_
     ·rw [Addr.add_lit, cell_of_row _ w1.heap.size _ _ 51 (0, 0) (heap_alloc_new w1 _), Nat.zero_add]; have hl : ([.int .i64 q.id, .int .i64 q.ty, .int .i64 q.pr, .int .i64 q.pa, .slice ga' q.gs.length gc', .int .i64 q.ve, .bool q.sd] : List Value)[j]? = some u := hj; simpa using hl
     intro a' c' w3 hown3 hg3
     have hrow : ∀ k, (Value.slice bv B1.length bc).ownBlock = some k → wj.heap.size ≤ k ∧ k < wr.heap.size := fun k hk => by
      rcases HR.out.own.2 with ⟨e1, _⟩ | ⟨g, cap, cu, e1, hl, hgg, _⟩
      ·rw [e1] at hk; cases hk
      ·rw [e1] at hk
       have e2 : g = k := by simpa [Value.ownBlock] using hk
       subst e2
       exact ⟨hl, heap_lt hgg⟩
     have hs3 := hg3.size
     simp only [World.size_alloc] at hs3
     have HC3 := hidOf ((HC.out.grow hb2).grown hg3 (fun k hk => by have := (hrow k hk).1; omega))
     have kb3 : ∀ {b o : Nat} {v : Value}, wr.cell? ⟨b, o, none⟩ = some v → b < w.heap.size + 3 → w3.cell? ⟨b, o, none⟩ = some v := fun {b} _ _ h hl => (World.cell?_of_block (hg3.block b (by simp; omega) (fun e2 => by have := (hrow b e2.symm).1; omega))).trans (kb2 h (by omega))
     have HO3 := hidOf hown3
     have HG3 := hidOf hg3
     have HB2 := hidOf hb2
     have HROW := hidOf hrow
     clear hown3 hb2 hrow
     replace hHeld : (fun (wz : World) => (wz.cell? ⟨w.heap.size + 1 + 1, 3, none⟩ = some (.slice bv B1.length bc) ∧ wz.cell? ⟨w.heap.size, 3, none⟩ = some (.slice (some ⟨b3, o3, none⟩) B.length c3)) ∧ (wz.cell? ⟨b3, o3 + B1.length * 7, none⟩ = some (.int .i64 q.id) ∧ wz.cell? ⟨b3, o3 + B1.length * 7 + 1, none⟩ = some (.int .i64 q.ty) ∧ wz.cell? ⟨b3, o3 + B1.length * 7 + 2, none⟩ = some (.int .i64 q.pr) ∧ wz.cell? ⟨b3, o3 + B1.length * 7 + 3, none⟩ = some (.int .i64 q.pa) ∧ wz.cell? ⟨b3, o3 + B1.length * 7 + 4, none⟩ = some (.slice ga q.gs.length gc) ∧ wz.cell? ⟨b3, o3 + B1.length * 7 + 5, none⟩ = some (.int .i64 q.ve) ∧ wz.cell? ⟨b3, o3 + B1.length * 7 + 6, none⟩ = some (.bool q.sd))) w3 := ⟨⟨kb3 oV (by omega), kb3 eS (by omega)⟩, kb3 q0 (by omega), kb3 q1 (by omega), kb3 q2 (by omega), kb3 q3 (by omega), kb3 q4 (by omega), kb3 q5 (by omega), kb3 q6 (by omega)⟩
     refine hK.out _ _ (fun _ => hHeld) ?_
     clear hK K
     try simp only [Act.put, List.setIfInBounds_toArray, List.set_cons_zero, List.set_cons_succ]
     refine wpAnyL_take (i := 10) (oi := { dst := some 49, op := Op.fieldAddr 29 (Operand.tmp 3) 3, type := 0, pos := "ref.go:27", after := #[{ on := 0, ground := Ground.phase }, { on := 1, ground := Ground.phase }, { on := 2, ground := Ground.phase }, { on := 3, ground := Ground.phase }, { on := 4, ground := Ground.phase }, { on := 5, ground := Ground.phase }, { on := 6, ground := Ground.phase }, { on := 7, ground := Ground.phase }, { on := 8, ground := Ground.phase }, { on := 9, ground := Ground.phase }], guard := none }) (v := .pointer (some ⟨w.heap.size + 1 + 1, 3, none⟩)) rfl (by kernel_rfl) (by kernel_rfl) (by kernel_rfl) (by kernel_rfl) (fun _ _ _ h => h) (Or.inl ⟨by rfl, ?_⟩) hHeld ?_
     ·(intro w hSw; (try dsimp only at hSw); go_simp)
     try simp only [Act.put, List.setIfInBounds_toArray, List.set_cons_zero, List.set_cons_succ]
     refine wpAnyL_one (i := 11) (o := { dst := none, op := Op.store 22 (Operand.tmp 49) (Operand.tmp 48), type := 0, pos := "ref.go:27", after := #[{ on := 10, ground := Ground.data }, { on := 9, ground := Ground.data }, { on := 9, ground := Ground.chain }, { on := 0, ground := Ground.phase }, { on := 1, ground := Ground.phase }, { on := 2, ground := Ground.phase }, { on := 3, ground := Ground.phase }, { on := 4, ground := Ground.phase }, { on := 5, ground := Ground.phase }, { on := 6, ground := Ground.phase }, { on := 7, ground := Ground.phase }, { on := 8, ground := Ground.phase }, { on := 9, ground := Ground.phase }], guard := none }) (by kernel_rfl) rfl (fun K hK => ?_)
     rw [if_pos (by rfl)]
     have oV3 : w3.cell? ⟨w.heap.size + 1 + 1, 3, none⟩ = some (.slice bv B1.length bc) := kb3 oV (by omega)
     have fO3 := HC3.out.fo
     have lO3 : w.heap.size + 1 + 1 < w3.heap.size := by omega
     go_simp
     refine hK.out _ _ (fun h => absurd rfl h) ?_
     clear hK K
     try simp only [Act.put, List.setIfInBounds_toArray, List.set_cons_zero, List.set_cons_succ]
     refine wpAnyL_done (by kernel_rfl) ?_ _
     go_wp2
     go_roundw
     case rel =>
      refine ⟨a', c', B1 ++ [q.sh ga' gc'], by simp; omega, by simp, ?_, ?_, ?_⟩
      ·have hset := HC3.out.set 3 (.slice a' (B1.length + 1) c')
       rw [show (B1 ++ [q.sh ga' gc']).length = B1.length + 1 by simp]
       exact hidOf hset
      ·refine hidOf (CpR.step (w2 := w1.alloc (.cells #[.int .i64 q.id, .int .i64 q.ty, .int .i64 q.pr, .int .i64 q.pa, .slice ga' q.gs.length gc', .int .i64 q.ve, .bool q.sd] 51)) HR.out (by decide) HQ.out HB.out (HFL.out.kept (fun _ _ => rfl) (fun b hb => hb.to rfl (by have := hb.1; omega))) (fun b hb => ?_) HO3.out HG3.out (fun b hb => heap_setCell_other w3 ⟨w.heap.size + 1 + 1, 3, none⟩ b _ (by show b ≠ w.heap.size + 1 + 1; omega)))
       have hlt3 : b < w1.heap.size := by
        rcases hb with hb | ⟨c, hb⟩
        ·omega
        ·exact heap_lt hb
       exact (below1 w1 _).block b hlt3
      ·exact hidOf (((HK.out.trans (Kq.bel HB2.out (fun b hb => by have := hb.2; omega))).trans (kq_grown (by simp; omega) HG3.out (fun k hk => by have := (HROW.out k hk).1; omega))).trans (kq_set (by omega) _))
     case measure => simp [intOf]; omega
    ·have hjl : B1.length = B.length := by omega
     have h64 : ¬ (B1.length : Int) < (B.length : Int) := by omega
     obtain ⟨wb, hnew⟩ : ∃ x, x = wr := ⟨_, rfl⟩
     subst hnew
     have HBL := hidOf hjl
     replace HD : Hid (∀ W', Kq (Qr (w.heap.size + 3) wb.heap.size) wb W' → (CpR 51 7 Js.cs 48 3 24 Gp.cs Jb.gs Jb.sh (w.heap.size + 3) W' jv jc J1 d.jobs ∧ CpR 51 7 Js.cs 48 3 24 Gp.cs Jb.gs Jb.sh (wj.heap.size) W' bv bc B1 d.stab)) := hidOf (fun W' hk => ⟨HD.out W' (HK.out.trans (hk.sub (fun b hb => ⟨hb.1, by have := hb.2; omega⟩))), HR.out.kept (hk.sub (fun b hb => ⟨by have := hb.1; omega, hb.2⟩))⟩)
     clear HR hjl hle HK
     go_upto_region 10 with (fail)
     clear eS h64
     have hzz : w.heap.size + 3 ≤ wb.heap.size := HC.out.z
     have eS : wb.cell? ⟨w.heap.size, 4, none⟩ = some (.slice a4 d.nodes.length c4) := HC.out.cs 4 _ rfl
     have oV : wb.cell? ⟨w.heap.size + 1 + 1, 4, none⟩ = some (.slice none 0 0) := HC.out.co 4 _ rfl
     have HFZ := hidOf (HF4.out.kept (w' := wb) (S' := fun b => b < w.heap.size) (fun b hb => HC.out.b.block b hb) (fun _ h => h))
     have hbd4 : d.nodes.length * 56 ≤ 140737488355328 := HF4.out.bd
     have HBD4 := hidOf hbd4
     clear hbd4
     go_upto_region 11 with (at_builtin; refine wpList_app0 _ rfl _ _ 23 rfl 46 _ 8 56 Try.underlying23 info64 rfl Nd.cs Nd.len Nd.one (by decide) (by decide) a4 _ c4 (fun b => b < w.heap.size) rfl rfl HFZ.out ?_; intro av4 cv4 w4 hown hb; have HO4 := hidOf hown; have HB4 := hidOf hb; have HC4 := hidOf (HC.out.grow hb); have hs4 := hb.size; clear hown hb eS oV lN lO; have oV : w4.cell? ⟨w.heap.size + 1 + 1, 4, none⟩ = some (.slice none 0 0) := HC4.out.co 4 _ rfl; have fO := HC4.out.fo; have lO : w.heap.size + 1 + 1 < w4.heap.size := by omega)
     obtain ⟨z4, hzn⟩ : ∃ x, x = w4.setCell ⟨w.heap.size + 1 + 1, 4, none⟩ (.slice av4 d.nodes.length cv4) := ⟨_, rfl⟩
     rw [← hzn]
     have hkz : Kq (Qr (w.heap.size + 3) wb.heap.size) wb z4 := by rw [hzn]; exact (Kq.bel HB4.out (fun b hb => hb.2)).trans (kq_set (by omega) _)
     replace HC : Hid (CpS w z4 [.int .i64 ix, .int .i64 nx, .slice a2 J.length c2, .slice a3 B.length c3, .slice a4 d.nodes.length c4, .slice a5 d.allocs.length c5, .slice a6 d.evals.length c6, .slice a7 d.deps.length c7, .slice a8 X.length c8] [.int .i64 ix, .int .i64 nx, .slice jv J1.length jc, .slice bv B1.length bc, .slice av4 d.nodes.length cv4, .slice none 0 0, .slice none 0 0, .slice none 0 0, .slice none 0 0]) := by rw [hzn]; exact hidOf (HC4.out.set 4 (.slice av4 d.nodes.length cv4))
     have hon : z4.ownsRow wb.heap.size 46 8 (.slice av4 d.nodes.length cv4) d.nodes.length (fl Nd.cs d.nodes) := by rw [hzn]; exact own_kept HO4.out (fun b h1 h2 => heap_setCell_other w4 ⟨w.heap.size + 1 + 1, 4, none⟩ b _ (by show b ≠ w.heap.size + 1 + 1; omega))
     have hsz4 : wb.heap.size ≤ z4.heap.size := hkz.size
     replace HD : Hid (∀ W', Kq (Qr (w.heap.size + 3) z4.heap.size) z4 W' → (CpR 51 7 Js.cs 48 3 24 Gp.cs Jb.gs Jb.sh (w.heap.size + 3) W' jv jc J1 d.jobs ∧ CpR 51 7 Js.cs 48 3 24 Gp.cs Jb.gs Jb.sh (wj.heap.size) W' bv bc B1 d.stab ∧ World.ownsRow W' wb.heap.size 46 8 (.slice av4 d.nodes.length cv4) d.nodes.length (fl Nd.cs d.nodes))) := hidOf (fun W' hk => by
      have hh := HD.out W' (hkz.trans (hk.sub (fun b hb => ⟨hb.1, by have := hb.2; omega⟩)))
      exact ⟨hh.1, hh.2, own_kept hon (fun b h1 h2 => hk.block b ⟨by omega, h2⟩)⟩)
     clear hzn hkz hon HO4 HB4 HC4 oV fO lO HFZ hzz hs4 hz
     have hz := HC.out.z
     have lN : w.heap.size < z4.heap.size := by omega
     have lO : w.heap.size + 1 + 1 < z4.heap.size := by omega
     have hzz : w.heap.size + 3 ≤ z4.heap.size := HC.out.z
     have eS : z4.cell? ⟨w.heap.size, 5, none⟩ = some (.slice a5 d.allocs.length c5) := HC.out.cs 5 _ rfl
     have oV : z4.cell? ⟨w.heap.size + 1 + 1, 5, none⟩ = some (.slice none 0 0) := HC.out.co 5 _ rfl
     have HFZ := hidOf (HF5.out.kept (w' := z4) (S' := fun b => b < w.heap.size) (fun b hb => HC.out.b.block b hb) (fun _ h => h))
     have hbd5 : d.allocs.length * 88 ≤ 140737488355328 := HF5.out.bd
     have HBD5 := hidOf hbd5
     clear hbd5
     go_upto_region 12 with (at_builtin; refine wpList_app0 _ rfl _ _ 24 rfl 42 _ 11 88 Try.underlying24 info33 rfl Al.cs Al.len Al.one (by decide) (by decide) a5 _ c5 (fun b => b < w.heap.size) rfl rfl HFZ.out ?_; intro av5 cv5 w5 hown hb; have HO5 := hidOf hown; have HB5 := hidOf hb; have HC5 := hidOf (HC.out.grow hb); have hs5 := hb.size; clear hown hb eS oV lN lO; have oV : w5.cell? ⟨w.heap.size + 1 + 1, 5, none⟩ = some (.slice none 0 0) := HC5.out.co 5 _ rfl; have fO := HC5.out.fo; have lO : w.heap.size + 1 + 1 < w5.heap.size := by omega)
     obtain ⟨z5, hzn⟩ : ∃ x, x = w5.setCell ⟨w.heap.size + 1 + 1, 5, none⟩ (.slice av5 d.allocs.length cv5) := ⟨_, rfl⟩
     rw [← hzn]
     have hkz : Kq (Qr (w.heap.size + 3) z4.heap.size) z4 z5 := by rw [hzn]; exact (Kq.bel HB5.out (fun b hb => hb.2)).trans (kq_set (by omega) _)
     replace HC : Hid (CpS w z5 [.int .i64 ix, .int .i64 nx, .slice a2 J.length c2, .slice a3 B.length c3, .slice a4 d.nodes.length c4, .slice a5 d.allocs.length c5, .slice a6 d.evals.length c6, .slice a7 d.deps.length c7, .slice a8 X.length c8] [.int .i64 ix, .int .i64 nx, .slice jv J1.length jc, .slice bv B1.length bc, .slice av4 d.nodes.length cv4, .slice av5 d.allocs.length cv5, .slice none 0 0, .slice none 0 0, .slice none 0 0]) := by rw [hzn]; exact hidOf (HC5.out.set 5 (.slice av5 d.allocs.length cv5))
     have hon : z5.ownsRow z4.heap.size 42 11 (.slice av5 d.allocs.length cv5) d.allocs.length (fl Al.cs d.allocs) := by rw [hzn]; exact own_kept HO5.out (fun b h1 h2 => heap_setCell_other w5 ⟨w.heap.size + 1 + 1, 5, none⟩ b _ (by show b ≠ w.heap.size + 1 + 1; omega))
     have hsz5 : z4.heap.size ≤ z5.heap.size := hkz.size
     replace HD : Hid (∀ W', Kq (Qr (w.heap.size + 3) z5.heap.size) z5 W' → (CpR 51 7 Js.cs 48 3 24 Gp.cs Jb.gs Jb.sh (w.heap.size + 3) W' jv jc J1 d.jobs ∧ CpR 51 7 Js.cs 48 3 24 Gp.cs Jb.gs Jb.sh (wj.heap.size) W' bv bc B1 d.stab ∧ World.ownsRow W' wb.heap.size 46 8 (.slice av4 d.nodes.length cv4) d.nodes.length (fl Nd.cs d.nodes) ∧ World.ownsRow W' z4.heap.size 42 11 (.slice av5 d.allocs.length cv5) d.allocs.length (fl Al.cs d.allocs))) := hidOf (fun W' hk => by
      have hh := HD.out W' (hkz.trans (hk.sub (fun b hb => ⟨hb.1, by have := hb.2; omega⟩)))
      exact ⟨hh.1, hh.2.1, hh.2.2, own_kept hon (fun b h1 h2 => hk.block b ⟨by omega, h2⟩)⟩)
     clear hzn hkz hon HO5 HB5 HC5 oV fO lO HFZ hzz hs5 hz
     have hz := HC.out.z
     have lN : w.heap.size < z5.heap.size := by omega
     have lO : w.heap.size + 1 + 1 < z5.heap.size := by omega
     have hzz : w.heap.size + 3 ≤ z5.heap.size := HC.out.z
     have eS : z5.cell? ⟨w.heap.size, 6, none⟩ = some (.slice a6 d.evals.length c6) := HC.out.cs 6 _ rfl
     have oV : z5.cell? ⟨w.heap.size + 1 + 1, 6, none⟩ = some (.slice none 0 0) := HC.out.co 6 _ rfl
     have HFZ := hidOf (HF6.out.kept (w' := z5) (S' := fun b => b < w.heap.size) (fun b hb => HC.out.b.block b hb) (fun _ h => h))
     have hbd6 : d.evals.length * 32 ≤ 140737488355328 := HF6.out.bd
     have HBD6 := hidOf hbd6
     clear hbd6
     go_upto_region 13 with (at_builtin; refine wpList_app0 _ rfl _ _ 25 rfl 53 _ 4 32 Try.underlying25 info69 rfl Qd.cs Qd.len Qd.one (by decide) (by decide) a6 _ c6 (fun b => b < w.heap.size) rfl rfl HFZ.out ?_; intro av6 cv6 w6 hown hb; have HO6 := hidOf hown; have HB6 := hidOf hb; have HC6 := hidOf (HC.out.grow hb); have hs6 := hb.size; clear hown hb eS oV lN lO; have oV : w6.cell? ⟨w.heap.size + 1 + 1, 6, none⟩ = some (.slice none 0 0) := HC6.out.co 6 _ rfl; have fO := HC6.out.fo; have lO : w.heap.size + 1 + 1 < w6.heap.size := by omega)
     obtain ⟨z6, hzn⟩ : ∃ x, x = w6.setCell ⟨w.heap.size + 1 + 1, 6, none⟩ (.slice av6 d.evals.length cv6) := ⟨_, rfl⟩
     rw [← hzn]
     have hkz : Kq (Qr (w.heap.size + 3) z5.heap.size) z5 z6 := by rw [hzn]; exact (Kq.bel HB6.out (fun b hb => hb.2)).trans (kq_set (by omega) _)
     replace HC : Hid (CpS w z6 [.int .i64 ix, .int .i64 nx, .slice a2 J.length c2, .slice a3 B.length c3, .slice a4 d.nodes.length c4, .slice a5 d.allocs.length c5, .slice a6 d.evals.length c6, .slice a7 d.deps.length c7, .slice a8 X.length c8] [.int .i64 ix, .int .i64 nx, .slice jv J1.length jc, .slice bv B1.length bc, .slice av4 d.nodes.length cv4, .slice av5 d.allocs.length cv5, .slice av6 d.evals.length cv6, .slice none 0 0, .slice none 0 0]) := by rw [hzn]; exact hidOf (HC6.out.set 6 (.slice av6 d.evals.length cv6))
     have hon : z6.ownsRow z5.heap.size 53 4 (.slice av6 d.evals.length cv6) d.evals.length (fl Qd.cs d.evals) := by rw [hzn]; exact own_kept HO6.out (fun b h1 h2 => heap_setCell_other w6 ⟨w.heap.size + 1 + 1, 6, none⟩ b _ (by show b ≠ w.heap.size + 1 + 1; omega))
     have hsz6 : z5.heap.size ≤ z6.heap.size := hkz.size
     replace HD : Hid (∀ W', Kq (Qr (w.heap.size + 3) z6.heap.size) z6 W' → (CpR 51 7 Js.cs 48 3 24 Gp.cs Jb.gs Jb.sh (w.heap.size + 3) W' jv jc J1 d.jobs ∧ CpR 51 7 Js.cs 48 3 24 Gp.cs Jb.gs Jb.sh (wj.heap.size) W' bv bc B1 d.stab ∧ World.ownsRow W' wb.heap.size 46 8 (.slice av4 d.nodes.length cv4) d.nodes.length (fl Nd.cs d.nodes) ∧ World.ownsRow W' z4.heap.size 42 11 (.slice av5 d.allocs.length cv5) d.allocs.length (fl Al.cs d.allocs) ∧ World.ownsRow W' z5.heap.size 53 4 (.slice av6 d.evals.length cv6) d.evals.length (fl Qd.cs d.evals))) := hidOf (fun W' hk => by
      have hh := HD.out W' (hkz.trans (hk.sub (fun b hb => ⟨hb.1, by have := hb.2; omega⟩)))
      exact ⟨hh.1, hh.2.1, hh.2.2.1, hh.2.2.2, own_kept hon (fun b h1 h2 => hk.block b ⟨by omega, h2⟩)⟩)
     clear hzn hkz hon HO6 HB6 HC6 oV fO lO HFZ hzz hs6 hz
     have hz := HC.out.z
     have lN : w.heap.size < z6.heap.size := by omega
     have lO : w.heap.size + 1 + 1 < z6.heap.size := by omega
     have hzz : w.heap.size + 3 ≤ z6.heap.size := HC.out.z
     have eS : z6.cell? ⟨w.heap.size, 7, none⟩ = some (.slice a7 d.deps.length c7) := HC.out.cs 7 _ rfl
     have oV : z6.cell? ⟨w.heap.size + 1 + 1, 7, none⟩ = some (.slice none 0 0) := HC.out.co 7 _ rfl
     have HFZ := hidOf (HF7.out.kept (w' := z6) (S' := fun b => b < w.heap.size) (fun b hb => HC.out.b.block b hb) (fun _ h => h))
     have hbd7 : d.deps.length * 32 ≤ 140737488355328 := HF7.out.bd
     have HBD7 := hidOf hbd7
     clear hbd7
     go_upto_region 14 with (at_builtin; refine wpList_app0 _ rfl _ _ 26 rfl 79 _ 4 32 Try.underlying26 info73 rfl Qd.cs Qd.len Qd.one (by decide) (by decide) a7 _ c7 (fun b => b < w.heap.size) rfl rfl HFZ.out ?_; intro av7 cv7 w7 hown hb; have HO7 := hidOf hown; have HB7 := hidOf hb; have HC7 := hidOf (HC.out.grow hb); have hs7 := hb.size; clear hown hb eS oV lN lO; have oV : w7.cell? ⟨w.heap.size + 1 + 1, 7, none⟩ = some (.slice none 0 0) := HC7.out.co 7 _ rfl; have fO := HC7.out.fo; have lO : w.heap.size + 1 + 1 < w7.heap.size := by omega)
     obtain ⟨z7, hzn⟩ : ∃ x, x = w7.setCell ⟨w.heap.size + 1 + 1, 7, none⟩ (.slice av7 d.deps.length cv7) := ⟨_, rfl⟩
     rw [← hzn]
     have hkz : Kq (Qr (w.heap.size + 3) z6.heap.size) z6 z7 := by rw [hzn]; exact (Kq.bel HB7.out (fun b hb => hb.2)).trans (kq_set (by omega) _)
     replace HC : Hid (CpS w z7 [.int .i64 ix, .int .i64 nx, .slice a2 J.length c2, .slice a3 B.length c3, .slice a4 d.nodes.length c4, .slice a5 d.allocs.length c5, .slice a6 d.evals.length c6, .slice a7 d.deps.length c7, .slice a8 X.length c8] [.int .i64 ix, .int .i64 nx, .slice jv J1.length jc, .slice bv B1.length bc, .slice av4 d.nodes.length cv4, .slice av5 d.allocs.length cv5, .slice av6 d.evals.length cv6, .slice av7 d.deps.length cv7, .slice none 0 0]) := by rw [hzn]; exact hidOf (HC7.out.set 7 (.slice av7 d.deps.length cv7))
     have hon : z7.ownsRow z6.heap.size 79 4 (.slice av7 d.deps.length cv7) d.deps.length (fl Qd.cs d.deps) := by rw [hzn]; exact own_kept HO7.out (fun b h1 h2 => heap_setCell_other w7 ⟨w.heap.size + 1 + 1, 7, none⟩ b _ (by show b ≠ w.heap.size + 1 + 1; omega))
     have hsz7 : z6.heap.size ≤ z7.heap.size := hkz.size
     replace HD : Hid (∀ W', Kq (Qr (w.heap.size + 3) z7.heap.size) z7 W' → (CpR 51 7 Js.cs 48 3 24 Gp.cs Jb.gs Jb.sh (w.heap.size + 3) W' jv jc J1 d.jobs ∧ CpR 51 7 Js.cs 48 3 24 Gp.cs Jb.gs Jb.sh (wj.heap.size) W' bv bc B1 d.stab ∧ World.ownsRow W' wb.heap.size 46 8 (.slice av4 d.nodes.length cv4) d.nodes.length (fl Nd.cs d.nodes) ∧ World.ownsRow W' z4.heap.size 42 11 (.slice av5 d.allocs.length cv5) d.allocs.length (fl Al.cs d.allocs) ∧ World.ownsRow W' z5.heap.size 53 4 (.slice av6 d.evals.length cv6) d.evals.length (fl Qd.cs d.evals) ∧ World.ownsRow W' z6.heap.size 79 4 (.slice av7 d.deps.length cv7) d.deps.length (fl Qd.cs d.deps))) := hidOf (fun W' hk => by
      have hh := HD.out W' (hkz.trans (hk.sub (fun b hb => ⟨hb.1, by have := hb.2; omega⟩)))
      exact ⟨hh.1, hh.2.1, hh.2.2.1, hh.2.2.2.1, hh.2.2.2.2, own_kept hon (fun b h1 h2 => hk.block b ⟨by omega, h2⟩)⟩)
     clear hzn hkz hon HO7 HB7 HC7 oV fO lO HFZ hzz hs7 hz
     have hz7 : w.heap.size + 3 ≤ z7.heap.size := HC.out.z
     go_wp2
     go_loopw [6] (fun i wr => ∃ (sv : Option Addr) (sc : Nat) (X1 : List Ss), X1.length ≤ X.length ∧ i = .int .i64 (X1.length : Int) ∧ Hid (CpS w wr [.int .i64 ix, .int .i64 nx, .slice a2 J.length c2, .slice a3 B.length c3, .slice a4 d.nodes.length c4, .slice a5 d.allocs.length c5, .slice a6 d.evals.length c6, .slice a7 d.deps.length c7, .slice a8 X.length c8] [.int .i64 ix, .int .i64 nx, .slice jv J1.length jc, .slice bv B1.length bc, .slice av4 d.nodes.length cv4, .slice av5 d.allocs.length cv5, .slice av6 d.evals.length cv6, .slice av7 d.deps.length cv7, .slice sv X1.length sc]) ∧ Hid (CpR 76 5 Ss.cs 42 11 88 Al.cs Sn.al Sn.sh z7.heap.size wr sv sc X1 d.seen) ∧ Hid (Kq (Qr (w.heap.size + 3) z7.heap.size) z7 wr)) (fun i _ => X.length - (intOf i).toNat)
     case atStart => exact ⟨none, 0, [], Nat.zero_le _, rfl, HC, hidOf (CpR.nil _ _), hidOf (Kq.refl _ _)⟩
     case round =>
      clear HC
      obtain ⟨sv, sc, X1, hle, rfl, HC, HR, HK⟩ := hrel
      have hz := HC.out.z
      have hzb : z7.heap.size ≤ wr.heap.size := HK.out.size
      have lN : w.heap.size < wr.heap.size := by omega
      have lO : w.heap.size + 1 + 1 < wr.heap.size := by omega
      have eS : wr.cell? ⟨w.heap.size, 8, none⟩ = some (.slice a8 X.length c8) := HC.out.cs 8 _ rfl
      by_cases hlt : X1.length < X.length
      ·have hlt2 : X1.length < d.seen.length := by rw [← HX.out.len]; exact hlt
       obtain ⟨ga, gc, hsh, hG⟩ := HX.out.dp X1.length hlt hlt2
       obtain ⟨b8, o8, ha, hbl, hc⟩ := HX.out.row.at X1.length hlt
       have hbl' : b8 < w.heap.size := hbl
       clear hbl
       subst ha
       rw [hsh] at hc
       have HQ : Hid (d.seen[X1.length]? = some d.seen[X1.length]) := hidOf (List.getElem?_eq_getElem hlt2)
       have hcr := range_of hc (HC.out.b.block b8 hbl')
       have hlb : b8 < wr.heap.size := by have := HC.out.b.size; omega
       have HG := hidOf hG
       clear hsh hG hc
       generalize d.seen[X1.length] = q at *
       have q0 : wr.cell? ⟨b8, o8 + X1.length * 5, none⟩ = some (.int .i64 q.cl) := hcr 0 _ rfl
       have q1 : wr.cell? ⟨b8, o8 + X1.length * 5 + 1, none⟩ = some (.int .i64 q.rq) := hcr 1 _ rfl
       have q2 : wr.cell? ⟨b8, o8 + X1.length * 5 + 2, none⟩ = some (.int .i64 q.co) := hcr 2 _ rfl
       have q3 : wr.cell? ⟨b8, o8 + X1.length * 5 + 3, none⟩ = some (.int .i64 q.va) := hcr 3 _ rfl
       have q4 : wr.cell? ⟨b8, o8 + X1.length * 5 + 4, none⟩ = some (.slice ga q.al.length gc) := hcr 4 _ rfl
       clear hcr
       have h64 : (X1.length : Int) < (X.length : Int) := by omega
       have HGZ := hidOf (HG.out.kept (w' := (wr.alloc (.cells #[.int .i64 q.cl, .int .i64 q.rq, .int .i64 q.co, .int .i64 q.va, .slice ga q.al.length gc] 76))) (S' := fun b => b < w.heap.size) (fun b hb => ((below1 wr _).block b (Nat.lt_of_lt_of_le hb HC.out.b.size)).trans (HC.out.b.block b hb)) (fun _ h => h))
       have HGB : Hid (q.al.length * 88 ≤ 140737488355328) := hidOf HG.out.bd
       go_upto_region 21 with (at_builtin; refine wpList_app0 _ rfl _ _ 24 rfl 42 _ 11 88 Try.underlying24 info33 rfl Al.cs Al.len Al.one (by decide) (by decide) ga _ gc (fun b => b < w.heap.size) rfl rfl HGZ.out ?_; intro ga' gc' w1 hown hb; have hx1 : w1.heap[wr.heap.size]? = some (.cells #[.int .i64 q.cl, .int .i64 q.rq, .int .i64 q.co, .int .i64 q.va, .slice ga q.al.length gc] 76 (0, 0)) := (hb.block _ (by simp)).trans (heap_alloc_new wr _); have HB1 := hidOf ((below1 wr _).trans (hb.mono (by simp))); have HO1 := hidOf hown; have HX1 := hidOf hx1; have hs1 : wr.heap.size < w1.heap.size := heap_lt hx1; clear hown hb eS lN lO q0 q1 q2 q3 q4; have fX : ∀ j, w1.frozen? ⟨wr.heap.size, j, none⟩ = false := fun j => frozen_of_row w1 _ j _ 76 hx1; have y0 : w1.cell? ⟨wr.heap.size, 0, none⟩ = some (.int .i64 q.cl) := (cell_of_row w1 _ 0 _ 76 (0, 0) hx1).trans rfl; have y1 : w1.cell? ⟨wr.heap.size, 1, none⟩ = some (.int .i64 q.rq) := (cell_of_row w1 _ 1 _ 76 (0, 0) hx1).trans rfl; have y2 : w1.cell? ⟨wr.heap.size, 2, none⟩ = some (.int .i64 q.co) := (cell_of_row w1 _ 2 _ 76 (0, 0) hx1).trans rfl; have y3 : w1.cell? ⟨wr.heap.size, 3, none⟩ = some (.int .i64 q.va) := (cell_of_row w1 _ 3 _ 76 (0, 0) hx1).trans rfl; have y4 : w1.cell? ⟨wr.heap.size, 4, none⟩ = some (.slice ga q.al.length gc) := (cell_of_row w1 _ 4 _ 76 (0, 0) hx1).trans rfl; clear hx1)
       obtain ⟨wx, hwx⟩ : ∃ x, x = w1.setCell ⟨wr.heap.size, 4, none⟩ (.slice ga' q.al.length gc') := ⟨_, rfl⟩
       rw [← hwx]
       have hxx : wx.heap[wr.heap.size]? = some (.cells #[.int .i64 q.cl, .int .i64 q.rq, .int .i64 q.co, .int .i64 q.va, .slice ga' q.al.length gc'] 76 (0, 0)) := by
        rw [hwx]
        have := heap_setCell_same w1 wr.heap.size 4 _ 76 (.slice ga' q.al.length gc') HX1.out
        simp only [List.setIfInBounds_toArray, List.set_cons_zero, List.set_cons_succ] at this
        exact this
       have hoth : ∀ b, b ≠ wr.heap.size → wx.heap[b]? = w1.heap[b]? := fun b hb => by rw [hwx]; exact heap_setCell_other w1 ⟨wr.heap.size, 4, none⟩ b _ hb
       have HBX : Hid (Below wr.heap.size wr wx) := by rw [hwx]; exact hidOf (HB1.out.setCell (p := ⟨wr.heap.size, 4, none⟩) (Nat.le_refl _) _)
       have hsx : w1.heap.size = wx.heap.size := by rw [hwx]; simp
       have HCX := hidOf (HC.out.grow HBX.out)
       clear hwx y0 y1 y2 y3 y4 fX
       have y0 : wx.cell? ⟨wr.heap.size, 0, none⟩ = some (.int .i64 q.cl) := (cell_of_row wx _ 0 _ 76 (0, 0) hxx).trans rfl
       have y1 : wx.cell? ⟨wr.heap.size, 1, none⟩ = some (.int .i64 q.rq) := (cell_of_row wx _ 1 _ 76 (0, 0) hxx).trans rfl
       have y2 : wx.cell? ⟨wr.heap.size, 2, none⟩ = some (.int .i64 q.co) := (cell_of_row wx _ 2 _ 76 (0, 0) hxx).trans rfl
       have y3 : wx.cell? ⟨wr.heap.size, 3, none⟩ = some (.int .i64 q.va) := (cell_of_row wx _ 3 _ 76 (0, 0) hxx).trans rfl
       have y4 : wx.cell? ⟨wr.heap.size, 4, none⟩ = some (.slice ga' q.al.length gc') := (cell_of_row wx _ 4 _ 76 (0, 0) hxx).trans rfl
       have oV : wx.cell? ⟨w.heap.size + 1 + 1, 8, none⟩ = some (.slice sv X1.length sc) := HCX.out.co 8 _ rfl
       have lO : w.heap.size + 1 + 1 < wx.heap.size := by omega
       have lX : wr.heap.size < wx.heap.size := by omega
       have HXX := hidOf hxx
       have HOT := hidOf hoth
       have HSX := hidOf hsx
       clear hxx hoth hsx
       have hb2 : Below wr.heap.size wr (wx.alloc (.cells #[.int .i64 q.cl, .int .i64 q.rq, .int .i64 q.co, .int .i64 q.va, .slice ga' q.al.length gc'] 76)) := HBX.out.trans ((below1 wx _).mono HBX.out.size)
       have HB2 := hidOf hb2
       have HOL := hidOf (own_kept HR.out.own (fun b _ h2 => hb2.block b h2))
       have HNEW : Hid (∀ j u, (Ss.cs (q.sh ga' gc'))[j]? = some u → (wx.alloc (.cells #[.int .i64 q.cl, .int .i64 q.rq, .int .i64 q.co, .int .i64 q.va, .slice ga' q.al.length gc'] 76)).cell? ((⟨wx.heap.size, 0, none⟩ : Addr).add j) = some u) := hidOf (fun j u hj => by
        rw [Addr.add_lit, cell_of_row _ wx.heap.size _ _ 76 (0, 0) (heap_alloc_new wx _), Nat.zero_add]
        have hl : ([.int .i64 q.cl, .int .i64 q.rq, .int .i64 q.co, .int .i64 q.va, .slice ga' q.al.length gc'] : List Value)[j]? = some u := hj
        simpa using hl)
       have hrow : ∀ k, (Value.slice sv X1.length sc).ownBlock = some k → z7.heap.size ≤ k ∧ k < wr.heap.size := fun k hk => by
        rcases HR.out.own.2 with ⟨e1, _⟩ | ⟨g, cap, cu, e1, hl, hgg, _⟩
        ·rw [e1] at hk; cases hk
        ·rw [e1] at hk
         have e2 : g = k := by simpa [Value.ownBlock] using hk
         subst e2
         exact ⟨hl, heap_lt hgg⟩
       have HROW := hidOf hrow
       clear hrow hb2
       go_wp2_with (at_builtin; refine wpList_app1 _ rfl _ _ 27 rfl z7.heap.size 76 _ 5 56 Try.underlying27 info52 rfl (by decide) _ X1.length (fl Ss.cs X1) rfl HOL.out ⟨wx.heap.size, 0, none⟩ 1 (Ss.cs (q.sh ga' gc')) rfl rfl HNEW.out (Ss.one _) (by unfold maxLen; omega) (by omega) (by simp; omega) ?_; intro a' c' w3 hown3 hg3; have HC3 := hidOf ((HC.out.grow HB2.out).grown hg3 (fun k hk => by have := (HROW.out k hk).1; omega)); have HO3 := hidOf hown3; have HG3 := hidOf hg3; have hs3 := hg3.size; simp only [World.size_alloc] at hs3; clear hown3 hg3 oV lO lX y0 y1 y2 y3 y4; have oV : w3.cell? ⟨w.heap.size + 1 + 1, 8, none⟩ = some (.slice sv X1.length sc) := HC3.out.co 8 _ rfl; have fO := HC3.out.fo; have lO : w.heap.size + 1 + 1 < w3.heap.size := by (have hz3 := HC3.out.z; omega))
       go_roundw
       case rel =>
        refine ⟨a', c', X1 ++ [q.sh ga' gc'], by simp; omega, by simp, ?_, ?_, ?_⟩
        ·have hset := HC3.out.set 8 (.slice a' (X1.length + 1) c')
         rw [show (X1 ++ [q.sh ga' gc']).length = X1.length + 1 by simp]
         exact hidOf hset
        ·refine hidOf (CpR.step (w2 := (wx.alloc (.cells #[.int .i64 q.cl, .int .i64 q.rq, .int .i64 q.co, .int .i64 q.va, .slice ga' q.al.length gc'] 76))) HR.out (by decide) HQ.out HB1.out (own_fl (y := 88) Al.len (lo := z7.heap.size) ⟨HO1.out.1, HO1.out.2.imp id (fun ⟨g, cap, cu, h1, h2, r⟩ => ⟨g, cap, cu, h1, by simp at h2; omega, r⟩)⟩ HGB.out) (fun b hb => ?_) HO3.out HG3.out (fun b hb => heap_setCell_other w3 ⟨w.heap.size + 1 + 1, 8, none⟩ b _ (by show b ≠ w.heap.size + 1 + 1; omega)))
         have hlt3 : b < w1.heap.size ∧ b ≠ wr.heap.size := by
          rcases hb with hb | ⟨c, hb⟩
          ·exact ⟨by omega, by omega⟩
          ·refine ⟨heap_lt hb, fun e2 => ?_⟩
           subst e2
           rw [HX1.out] at hb
           cases hb
         exact ((below1 wx _).block b (by rw [← HSX.out]; exact hlt3.1)).trans (HOT.out b hlt3.2)
        ·exact hidOf (((HK.out.trans (Kq.bel HB2.out (fun b hb => by have := hb.2; omega))).trans (kq_grown (by have := HBX.out.size; simp; omega) HG3.out (fun k hk => by have := (HROW.out k hk).1; omega))).trans (kq_set (by omega) _))
       case measure => simp [intOf]; omega
      ·have hxl2 : X1.length = X.length := by omega
       have h64 : ¬ (X1.length : Int) < (X.length : Int) := by omega
       have HXL := hidOf hxl2
       clear hxl2 hle
       have o0 : wr.cell? ⟨w.heap.size + 1 + 1, 0, none⟩ = some (.int .i64 ix) := HC.out.co 0 _ rfl
       have o1 : wr.cell? ⟨w.heap.size + 1 + 1, 1, none⟩ = some (.int .i64 nx) := HC.out.co 1 _ rfl
       have o2 : wr.cell? ⟨w.heap.size + 1 + 1, 2, none⟩ = some (.slice jv J1.length jc) := HC.out.co 2 _ rfl
       have o3 : wr.cell? ⟨w.heap.size + 1 + 1, 3, none⟩ = some (.slice bv B1.length bc) := HC.out.co 3 _ rfl
       have o4 : wr.cell? ⟨w.heap.size + 1 + 1, 4, none⟩ = some (.slice av4 d.nodes.length cv4) := HC.out.co 4 _ rfl
       have o5 : wr.cell? ⟨w.heap.size + 1 + 1, 5, none⟩ = some (.slice av5 d.allocs.length cv5) := HC.out.co 5 _ rfl
       have o6 : wr.cell? ⟨w.heap.size + 1 + 1, 6, none⟩ = some (.slice av6 d.evals.length cv6) := HC.out.co 6 _ rfl
       have o7 : wr.cell? ⟨w.heap.size + 1 + 1, 7, none⟩ = some (.slice av7 d.deps.length cv7) := HC.out.co 7 _ rfl
       have o8 : wr.cell? ⟨w.heap.size + 1 + 1, 8, none⟩ = some (.slice sv X1.length sc) := HC.out.co 8 _ rfl
       have r0 : wr.cell? ⟨w.heap.size + 1, 0, none⟩ = some (.int .i64 0) := (cell_of_row wr _ 0 _ 29 (0, 0) HC.out.r).trans rfl
       have r1 : wr.cell? ⟨w.heap.size + 1, 1, none⟩ = some (.int .i64 0) := (cell_of_row wr _ 1 _ 29 (0, 0) HC.out.r).trans rfl
       have r2 : wr.cell? ⟨w.heap.size + 1, 2, none⟩ = some (.slice none 0 0) := (cell_of_row wr _ 2 _ 29 (0, 0) HC.out.r).trans rfl
       have r3 : wr.cell? ⟨w.heap.size + 1, 3, none⟩ = some (.slice none 0 0) := (cell_of_row wr _ 3 _ 29 (0, 0) HC.out.r).trans rfl
       have r4 : wr.cell? ⟨w.heap.size + 1, 4, none⟩ = some (.slice none 0 0) := (cell_of_row wr _ 4 _ 29 (0, 0) HC.out.r).trans rfl
       have r5 : wr.cell? ⟨w.heap.size + 1, 5, none⟩ = some (.slice none 0 0) := (cell_of_row wr _ 5 _ 29 (0, 0) HC.out.r).trans rfl
       have r6 : wr.cell? ⟨w.heap.size + 1, 6, none⟩ = some (.slice none 0 0) := (cell_of_row wr _ 6 _ 29 (0, 0) HC.out.r).trans rfl
       have r7 : wr.cell? ⟨w.heap.size + 1, 7, none⟩ = some (.slice none 0 0) := (cell_of_row wr _ 7 _ 29 (0, 0) HC.out.r).trans rfl
       have r8 : wr.cell? ⟨w.heap.size + 1, 8, none⟩ = some (.slice none 0 0) := (cell_of_row wr _ 8 _ 29 (0, 0) HC.out.r).trans rfl
       have fR := HC.out.fr
       have lR : w.heap.size + 1 < wr.heap.size := by omega
       go_wp2
       have hr9 := set9 HC.out.r (.int .i64 ix) (.int .i64 nx) (.slice jv J1.length jc) (.slice bv B1.length bc) (.slice av4 d.nodes.length cv4) (.slice av5 d.allocs.length cv5) (.slice av6 d.evals.length cv6) (.slice av7 d.deps.length cv7) (.slice sv X1.length sc)
       have hof : ∀ b, b ≠ w.heap.size + 1 → _ = wr.heap[b]? := set9_other (.int .i64 ix) (.int .i64 nx) (.slice jv J1.length jc) (.slice bv B1.length bc) (.slice av4 d.nodes.length cv4) (.slice av5 d.allocs.length cv5) (.slice av6 d.evals.length cv6) (.slice av7 d.deps.length cv7) (.slice sv X1.length sc)
       have hbf := set9_below HC.out.b (k := w.heap.size + 1) (by omega) (.int .i64 ix) (.int .i64 nx) (.slice jv J1.length jc) (.slice bv B1.length bc) (.slice av4 d.nodes.length cv4) (.slice av5 d.allocs.length cv5) (.slice av6 d.evals.length cv6) (.slice av7 d.deps.length cv7) (.slice sv X1.length sc)
       refine bodyPost_ret (results_cell_row Try.results11 _ _ (w.heap.size + 1) 29 #[.int .i64 ix, .int .i64 nx, .slice jv J1.length jc, .slice bv B1.length bc, .slice av4 d.nodes.length cv4, .slice av5 d.allocs.length cv5, .slice av6 d.evals.length cv6, .slice av7 d.deps.length cv7, .slice sv X1.length sc] (0, 0) _ rfl hr9 Try.underlying29 rfl (by kernel_rfl)) rfl ?_
       have hsf : (((((((((wr.setCell ⟨w.heap.size + 1, 0, none⟩ (.int .i64 ix)).setCell ⟨w.heap.size + 1, 1, none⟩ (.int .i64 nx)).setCell ⟨w.heap.size + 1, 2, none⟩ (.slice jv J1.length jc)).setCell ⟨w.heap.size + 1, 3, none⟩ (.slice bv B1.length bc)).setCell ⟨w.heap.size + 1, 4, none⟩ (.slice av4 d.nodes.length cv4)).setCell ⟨w.heap.size + 1, 5, none⟩ (.slice av5 d.allocs.length cv5)).setCell ⟨w.heap.size + 1, 6, none⟩ (.slice av6 d.evals.length cv6)).setCell ⟨w.heap.size + 1, 7, none⟩ (.slice av7 d.deps.length cv7)).setCell ⟨w.heap.size + 1, 8, none⟩ (.slice sv X1.length sc)).heap.size = wr.heap.size := by simp
       generalize (((((((((wr.setCell ⟨w.heap.size + 1, 0, none⟩ (.int .i64 ix)).setCell ⟨w.heap.size + 1, 1, none⟩ (.int .i64 nx)).setCell ⟨w.heap.size + 1, 2, none⟩ (.slice jv J1.length jc)).setCell ⟨w.heap.size + 1, 3, none⟩ (.slice bv B1.length bc)).setCell ⟨w.heap.size + 1, 4, none⟩ (.slice av4 d.nodes.length cv4)).setCell ⟨w.heap.size + 1, 5, none⟩ (.slice av5 d.allocs.length cv5)).setCell ⟨w.heap.size + 1, 6, none⟩ (.slice av6 d.evals.length cv6)).setCell ⟨w.heap.size + 1, 7, none⟩ (.slice av7 d.deps.length cv7)).setCell ⟨w.heap.size + 1, 8, none⟩ (.slice sv X1.length sc)) = wf at *
       have hkf : Kq (Qr (w.heap.size + 3) wr.heap.size) wr wf := ⟨by omega, fun b hb => hof b (by have := hb.1; omega)⟩
       obtain ⟨g2, g3, g4, g5, g6, g7⟩ := HD.out wf (HK.out.trans (hkf.sub (fun b hb => ⟨hb.1, by have := hb.2; omega⟩)))
       have g8 := HR.out.kept (hkf.sub (fun b hb => ⟨by have := hb.1; omega, hb.2⟩))
       have j2 := cp_jb g2 (HJL.out.trans HJ.out.len) (by rw [HJL.out]; exact hjl72) (show w.heap.size ≤ w.heap.size + 3 by omega)
       have j3 := cp_jb g3 (HBL.out.trans HBB.out.len) (by rw [HBL.out]; exact hbl72) (show w.heap.size ≤ wj.heap.size by omega)
       have j8 := cp_sn g8 (HXL.out.trans HX.out.len) (by rw [HXL.out]; exact hxl) (show w.heap.size ≤ z7.heap.size by omega)
       refine ⟨⟨ix, nx, jv, J1.length, jc, bv, B1.length, bc, av4, d.nodes.length, cv4, av5, d.allocs.length, cv5, av6, d.evals.length, cv6, av7, d.deps.length, cv7, sv, X1.length, sc⟩, J1, B1, X1, rfl, ⟨HIX.out, HNX.out, ⟨rfl, rfl, rfl, rfl, rfl, rfl, rfl, j2.row, j3.row, nb_fl (own_fl Nd.len g4 HBD4.out) (by omega), nb_fl (own_fl Al.len g5 HBD5.out) (by omega), nb_fl (own_fl Qd.len g6 HBD6.out) (by omega), nb_fl (own_fl Qd.len g7 HBD7.out) (by omega), j8.row⟩, j2, j3, j8⟩, hbf, own_lo g5 (by omega), g2.lo (by omega), own_lo g4 (by omega)⟩
end Go.Proofs.Ytblofbdncolikaa
