/- How many slots of a job there are and run, of the code. -/
import Derived.Test.YtkokkdekbilkjaaRu
import Derived.Test.YtkokkdekbilkjaaLk
namespace Go.Proofs.Ytkokkdekbilkjaa
open Go.RowKit Go.Shelf
attribute [local go_sem] Oper.semAt_some
structure Jb where
  id : Int
  ty : Int
  pr : Int
  pa : Int
  gs : List Gp
  ve : Int
  sd : Bool
  deriving DecidableEq
instance : Inhabited Jb := ⟨⟨0, 0, 0, 0, [], 0, false⟩⟩
def Jb.sh (d : Jb) (a : Option Addr) (c : Nat) : Js := ⟨d.id, d.ty, d.pr, d.pa, a, d.gs.length, c, d.ve, d.sd⟩
/- jobs with their groups -/
structure JbR (w : World) (S : Nat → Prop) (a : Option Addr) (Ls : List Js) (L : List Jb) : Prop where
  len : Ls.length = L.length
  row : Fl w S 7 72 Js.cs a Ls
  dp : ∀ i (h1 : i < Ls.length) (h2 : i < L.length), ∃ ga gc, Ls[i] = L[i].sh ga gc ∧ Fl w S 3 24 Gp.cs ga L[i].gs
theorem JbR.kept {w w' : World} {S S' : Nat → Prop} {a : Option Addr} {Ls : List Js} {L : List Jb} (h : JbR w S a Ls L) (hb : ∀ b, S b → w'.heap[b]? = w.heap[b]?) (hm : ∀ b, S b → S' b) : JbR w' S' a Ls L :=
  ⟨h.len, h.row.kept hb hm, fun i h1 h2 => by obtain ⟨ga, gc, e, f⟩ := h.dp i h1 h2; exact ⟨ga, gc, e, f.kept hb hm⟩⟩
theorem sel_idx {α β : Type} [Inhabited α] [Inhabited β] {P : α → Bool} {Q : β → Bool} {L : List α} {M : List β} (k : Nat) (h : ∀ i, i < k → P (L[i]?.getD default) = Q (M[i]?.getD default)) : (sel P L k).map (·.1) = (sel Q M k).map (·.1) := by
  induction k with
  | zero => rfl
  | succ k ih =>
    rw [sel, sel, List.map_append, List.map_append, ih (fun i hi => h i (by omega)), h k (by omega)]
    congr 1
    split <;> rfl
theorem fi_map {α : Type} [Inhabited α] (P : α → Bool) (L : List α) : fi P L = (((sel P L L.length).map (·.1)).head?.map (fun n : Nat => (n : Int))).getD (-1) := by
  unfold fi
  cases sel P L L.length <;> rfl
theorem JbR.fi {w : World} {S : Nat → Prop} {a : Option Addr} {Ls : List Js} {L : List Jb} (h : JbR w S a Ls L) (id : Int) : fi (fun x : Js => isI x.id id) Ls = fi (fun x : Jb => isI x.id id) L := by
  rw [fi_map, fi_map, h.len]
  have key : (sel (fun x : Js => isI x.id id) Ls L.length).map (·.1) = (sel (fun x : Jb => isI x.id id) L L.length).map (·.1) := sel_idx L.length (fun i hi => ?_)
  · rw [key]
  have h1 : i < Ls.length := by rw [h.len]; exact hi
  obtain ⟨ga, gc, e, _⟩ := h.dp i h1 hi
  rw [getD_at Ls i h1, getD_at L i hi, e]
  rfl
def slotsV (jb : Int) (L : List Jb) (A : List Al) : Int × Int := match L.find? (fun x => isI x.id jb) with
  | none => (0, 0)
  | some d => if d.ty = 3 then (0, 0) else ((slg d.gs d.gs.length).length, runV d.id d.ve d.gs A)
theorem slots_no {jb : Int} {L : List Jb} {A : List Al} (h : L.find? (fun x => isI x.id jb) = none) : slotsV jb L A = (0, 0) := by rw [slotsV, h]
theorem slots_sys {jb : Int} {L : List Jb} {A : List Al} {d : Jb} (h : L.find? (fun x => isI x.id jb) = some d) (ht : d.ty = 3) : slotsV jb L A = (0, 0) := by rw [slotsV, h]; exact if_pos ht
theorem slots_at {jb : Int} {L : List Jb} {A : List Al} {d : Jb} (h : L.find? (fun x => isI x.id jb) = some d) (ht : ¬ d.ty = 3) : slotsV jb L A = (((slg d.gs d.gs.length).length : Int), runV d.id d.ve d.gs A) := by rw [slotsV, h]; exact if_neg ht
theorem slg_step (G : List Gp) (k : Nat) : ((slg G (k + 1)).length : Int) = (slg G k).length + cn (gat G (k : Int)) := by
  have := cn_pos (gat G (k : Int))
  rw [slg, List.length_append, List.length_map, List.length_range, cnN]
  omega
set_option maxRecDepth 100000 in
set_option maxHeartbeats 4000000 in
theorem slots_any (s : Sc) (jb : Int) (Ls : List Js) (L : List Jb) (A : List Al) (w : World) (hn2 : s.n2 = Ls.length) (hn5 : s.n5 = A.length) (hJ : JbR w (fun b => b < w.heap.size) s.a2 Ls L) (hA : Fl w (fun b => b < w.heap.size) 11 88 Al.cs s.a5 A) :
    Calls Try.prog 23 #[.agg #[.int .i64 s.ix, .int .i64 s.nx, .slice s.a2 s.n2 s.c2, .slice s.a3 s.n3 s.c3, .slice s.a4 s.n4 s.c4, .slice s.a5 s.n5 s.c5, .slice s.a6 s.n6 s.c6, .slice s.a7 s.n7 s.c7, .slice s.a8 s.n8 s.c8], .int .i64 jb] w fun e w' => e = .returned (.tuple #[.int .i64 (slotsV jb L A).1, .int .i64 (slotsV jb L A).2]) ∧ Below w.heap.size w w' := by
  obtain ⟨ix, nx, a2, n2, c2, a3, n3, c3, a4, n4, c4, a5, n5, c5, a6, n6, c6, a7, n7, c7, a8, n8, c8⟩ := s
  simp only at hn2 hn5 hJ hA
  subst hn2
  subst hn5
  have hfi := hJ.fi jb
  have HLL := hidOf hJ.len
  have HJ := hidOf hJ
  have HA := hidOf hA
  have hjl : Ls.length * 72 ≤ 140737488355328 := hJ.row.bd
  have hal : A.length * 88 ≤ 140737488355328 := hA.bd
  have hjob := job_any ⟨ix, nx, a2, Ls.length, c2, a3, n3, c3, a4, n4, c4, a5, A.length, c5, a6, n6, c6, a7, n7, c7, a8, n8, c8⟩ jb Ls (w.alloc (.cells #[.int .i64 ix, .int .i64 nx, .slice a2 Ls.length c2, .slice a3 n3 c3, .slice a4 n4 c4, .slice a5 A.length c5, .slice a6 n6 c6, .slice a7 n7 c7, .slice a8 n8 c8] 29)) rfl (hJ.row.kept (fun b hb => (below1 w _).block b hb) (fun b hb => Nat.lt_of_lt_of_le hb (below1 w _).size))
  dsimp only at hjob
  rw [hfi] at hjob
  have HJOB := hidOf hjob
  clear hjob
  clear hJ hA hfi
  have ARM : Hid (∀ w1, Below (w.alloc (.cells #[.int .i64 ix, .int .i64 nx, .slice a2 Ls.length c2, .slice a3 n3 c3, .slice a4 n4 c4, .slice a5 A.length c5, .slice a6 n6 c6, .slice a7 n7 c7, .slice a8 n8 c8] 29)).heap.size (w.alloc (.cells #[.int .i64 ix, .int .i64 nx, .slice a2 Ls.length c2, .slice a3 n3 c3, .slice a4 n4 c4, .slice a5 A.length c5, .slice a6 n6 c6, .slice a7 n7 c7, .slice a8 n8 c8] 29)) w1 → (w1.rangeAt w.heap.size 0 [.int .i64 ix, .int .i64 nx, .slice a2 Ls.length c2, .slice a3 n3 c3, .slice a4 n4 c4, .slice a5 A.length c5, .slice a6 n6 c6, .slice a7 n7 c7, .slice a8 n8 c8] ∧ Below w.heap.size w w1 ∧ w.heap.size < w1.heap.size)) := hidOf (fun w1 hb => ⟨box_new hb, (below1 w _).trans (hb.mono (below1 w _).size), by have := hb.size; simp at this; omega⟩)

  rcases fi_spec (fun x : Jb => isI x.id jb) L with ⟨h1, h2⟩ | ⟨i, hi, h1, h2⟩
  · rw [slots_no h2]
    have HF := hidOf h1
    clear h1 h2
    go_enter Try.func23, Try.ntmps23
    go_wp2_with (go_at_call 8; refine HJOB.out.mono ?_; rintro e w1 ⟨rfl, hb⟩; obtain ⟨hd, hbw, hsz⟩ := ARM.out w1 hb; have HBW := hidOf hbw; have HD := hidOf hd; have e2 : w1.cell? ⟨w.heap.size, 2, none⟩ = some (.slice a2 Ls.length c2) := hd 2 _ rfl; have e5 : w1.cell? ⟨w.heap.size, 5, none⟩ = some (.slice a5 A.length c5) := hd 5 _ rfl; clear hb hd hbw; rw [HF.out])
    go_ret2
    exact ⟨rfl, HBW.out⟩
  · have hi2 : i < Ls.length := by rw [HLL.out]; exact hi
    obtain ⟨ga, gc, hsh, hG⟩ := HJ.out.dp i hi2 hi
    obtain ⟨b, off, ha, hbl, hc⟩ := HJ.out.row.at i hi2
    have hbl' : b < w.heap.size := hbl
    clear hbl
    subst ha
    rw [hsh] at hc
    have HG := hidOf hG
    have H2 := hidOf h2
    have HF := hidOf h1
    clear hG h2 h1 hsh
    generalize L[i] = d at *
    have hi64 : (i : Int) < (Ls.length : Int) := by omega
    have CC : Hid (∀ w1, Below w.heap.size w w1 → w1.rangeAt b (off + i * 7) [.int .i64 d.id, .int .i64 d.ty, .int .i64 d.pr, .int .i64 d.pa, .slice ga d.gs.length gc, .int .i64 d.ve, .bool d.sd]) := hidOf (fun w1 hb => range_of hc (hb.block b hbl'))
    clear hc
    by_cases ht : d.ty = 3
    · rw [slots_sys H2.out ht]
      have bt : (d.ty == 3) = true := by simp [ht]
      clear ht
      go_enter Try.func23, Try.ntmps23
      go_wp2_with (go_at_call 8; refine HJOB.out.mono ?_; rintro e w1 ⟨rfl, hb⟩; obtain ⟨hd, hbw, hsz⟩ := ARM.out w1 hb; have HBW := hidOf hbw; have HD := hidOf hd; have e2 : w1.cell? ⟨w.heap.size, 2, none⟩ = some (.slice (some ⟨b, off, none⟩) Ls.length c2) := hd 2 _ rfl; have e5 : w1.cell? ⟨w.heap.size, 5, none⟩ = some (.slice a5 A.length c5) := hd 5 _ rfl; clear hb hd hbw; rw [HF.out]; have cc := CC.out w1 HBW.out; have q1 : w1.cell? ⟨b, off + i * 7 + 1, none⟩ = some (.int .i64 d.ty) := cc 1 _ rfl; clear cc)
      go_ret2
      exact ⟨rfl, HBW.out⟩
    · rw [slots_at H2.out ht]
      have bt : (d.ty == 3) = false := by simp [ht]
      clear ht H2
      have hgl : d.gs.length * 24 ≤ 140737488355328 := HG.out.bd
      go_enter Try.func23, Try.ntmps23
      go_wp2_with (go_at_call 8; refine HJOB.out.mono ?_; rintro e w1 ⟨rfl, hb⟩; obtain ⟨hd, hbw, hsz⟩ := ARM.out w1 hb; have HBW := hidOf hbw; have HD := hidOf hd; have e2 : w1.cell? ⟨w.heap.size, 2, none⟩ = some (.slice (some ⟨b, off, none⟩) Ls.length c2) := hd 2 _ rfl; have e5 : w1.cell? ⟨w.heap.size, 5, none⟩ = some (.slice a5 A.length c5) := hd 5 _ rfl; clear hb hd hbw; rw [HF.out]; have cc := CC.out w1 HBW.out; have q0 : w1.cell? ⟨b, off + i * 7, none⟩ = some (.int .i64 d.id) := cc 0 _ rfl; have q1 : w1.cell? ⟨b, off + i * 7 + 1, none⟩ = some (.int .i64 d.ty) := cc 1 _ rfl; have q2 : w1.cell? ⟨b, off + i * 7 + 2, none⟩ = some (.int .i64 d.pr) := cc 2 _ rfl; have q3 : w1.cell? ⟨b, off + i * 7 + 3, none⟩ = some (.int .i64 d.pa) := cc 3 _ rfl; have q4 : w1.cell? ⟨b, off + i * 7 + 4, none⟩ = some (.slice ga d.gs.length gc) := cc 4 _ rfl; have q5 : w1.cell? ⟨b, off + i * 7 + 5, none⟩ = some (.int .i64 d.ve) := cc 5 _ rfl; have q6 : w1.cell? ⟨b, off + i * 7 + 6, none⟩ = some (.bool d.sd) := cc 6 _ rfl; have lb : b < w1.heap.size := Nat.lt_of_lt_of_le hbl' HBW.out.size; clear cc)
      have HJX : Hid (∀ wr, Below (w1.heap.size + 1) (w1.alloc (.cells #[.int .i64 d.id, .int .i64 d.ty, .int .i64 d.pr, .int .i64 d.pa, .slice ga d.gs.length gc, .int .i64 d.ve, .bool d.sd] 55)) wr → (wr.rangeAt w1.heap.size 0 [.int .i64 d.id, .int .i64 d.ty, .int .i64 d.pr, .int .i64 d.pa, .slice ga d.gs.length gc, .int .i64 d.ve, .bool d.sd] ∧ Below w.heap.size w wr ∧ wr.rangeAt w.heap.size 0 [.int .i64 ix, .int .i64 nx, .slice (some ⟨b, off, none⟩) Ls.length c2, .slice a3 n3 c3, .slice a4 n4 c4, .slice a5 A.length c5, .slice a6 n6 c6, .slice a7 n7 c7, .slice a8 n8 c8] ∧ w1.heap.size < wr.heap.size)) := hidOf (fun wr hb => by
        have hs := hb.size
        simp only [World.size_alloc] at hs
        exact ⟨box_new (by rw [World.size_alloc]; exact hb), HBW.out.trans (((below1 w1 _).mono HBW.out.size).trans (hb.mono (by have := HBW.out.size; omega))), range_of HD.out ((hb.block _ (by omega)).trans ((below1 w1 _).block _ hsz)), by omega⟩)
      go_loopw [8, 33] (fun al k wr => ∃ n : Nat, n ≤ d.gs.length ∧ k = .int .i64 n ∧ al = .int .i64 ((slg d.gs n).length : Int) ∧ Below (w1.heap.size + 1) (w1.alloc (.cells #[.int .i64 d.id, .int .i64 d.ty, .int .i64 d.pr, .int .i64 d.pa, .slice ga d.gs.length gc, .int .i64 d.ve, .bool d.sd] 55)) wr) (fun _ k _ => d.gs.length - (intOf k).toNat)
      case atStart => exact ⟨0, Nat.zero_le _, rfl, rfl, Below.refl _ _⟩
      case round =>
        obtain ⟨n, hn, rfl, rfl, hbr⟩ := hrel
        obtain ⟨hj, hbw, hd, hsw⟩ := HJX.out wr hbr
        have hlen := slg_len d.gs n
        have HR := hidOf hbr
        have HW := hidOf hbw
        by_cases hlt : n < d.gs.length
        · obtain ⟨b2, off2, ha2, hbl2, hc2⟩ := HG.out.at n hlt
          subst ha2
          have hbl2' : b2 < wr.heap.size := Nat.lt_of_lt_of_le hbl2 hbw.size
          have hg := range_of hc2 (hbw.block b2 hbl2)
          have HST := hidOf (slg_step d.gs n)
          have hga : gat d.gs (n : Int) = d.gs[n].n := by rw [gat, Int.toNat_natCast, getD_at d.gs n hlt]
          rw [hga] at HST
          clear hga
          generalize hgg : d.gs[n] = g at *
          have g0 : wr.cell? ⟨b2, off2 + n * 3, none⟩ = some (.int .i64 g.n) := hg 0 _ rfl
          have g1 : wr.cell? ⟨b2, off2 + n * 3 + 1, none⟩ = some (.int .i64 g.c) := hg 1 _ rfl
          have g2 : wr.cell? ⟨b2, off2 + n * 3 + 2, none⟩ = some (.int .i64 g.m) := hg 2 _ rfl
          have hcn := cn_pos g.n
          obtain ⟨hcn1, hcn2⟩ := hcn
          have HC := hidOf (fun w => count_any g w)
          generalize cn g.n = cv at *
          clear hj hbw hd hbr hg hc2 hgg hbl2
          generalize hal2 : (slg d.gs n).length = al at *
          clear hal2
          go_wp2_with (go_at_call 46; refine (HC.out _).mono ?_; rintro e w3 ⟨rfl, hb⟩; have H3 := hidOf ((HR.out.alloc (by omega) (.cells #[.int .i64 g.n, .int .i64 g.c, .int .i64 g.m] 57)).trans (hb.mono (by simp; omega))); clear hb)
          go_roundw
          case rel => exact ⟨n + 1, by omega, by go_num, by rw [HST.out], H3.out⟩
          case measure => simp [intOf]; omega
        · have hnl : n = d.gs.length := by omega
          subst hnl
          have f5 : wr.cell? ⟨w.heap.size, 5, none⟩ = some (.slice a5 A.length c5) := hd 5 _ rfl
          have lw : w.heap.size < wr.heap.size := by have := hbw.size; omega
          have j0 : wr.cell? ⟨w1.heap.size, 0, none⟩ = some (.int .i64 d.id) := hj 0 _ rfl
          have j1 : wr.cell? ⟨w1.heap.size, 1, none⟩ = some (.int .i64 d.ty) := hj 1 _ rfl
          have j2 : wr.cell? ⟨w1.heap.size, 2, none⟩ = some (.int .i64 d.pr) := hj 2 _ rfl
          have j3 : wr.cell? ⟨w1.heap.size, 3, none⟩ = some (.int .i64 d.pa) := hj 3 _ rfl
          have j4 : wr.cell? ⟨w1.heap.size, 4, none⟩ = some (.slice ga d.gs.length gc) := hj 4 _ rfl
          have j5 : wr.cell? ⟨w1.heap.size, 5, none⟩ = some (.int .i64 d.ve) := hj 5 _ rfl
          have j6 : wr.cell? ⟨w1.heap.size, 6, none⟩ = some (.bool d.sd) := hj 6 _ rfl
          have HRUN := hidOf (running_any a5 c5 A d.id d.ty d.pr d.pa d.ve d.sd ga gc d.gs (fun b => b < w.heap.size) wr (fun b hb => Nat.lt_of_lt_of_le hb hbw.size) (HA.out.kept (fun b hb => hbw.block b hb) (fun _ h => h)) (HG.out.kept (fun b hb => hbw.block b hb) (fun _ h => h)))
          clear hj hbw hd hbr
          obtain ⟨rv, hrv⟩ : ∃ rv, rv = runV d.id d.ve d.gs A := ⟨_, rfl⟩
          obtain ⟨al, hal2⟩ : ∃ al, al = (slg d.gs d.gs.length).length := ⟨_, rfl⟩
          rw [← hrv] at HRUN
          rw [← hal2] at hlen ⊢
          have HRV := hidOf hrv
          have HAL := hidOf hal2
          clear hrv hal2
          go_wp2_with (go_at_call 47; refine HRUN.out.mono ?_; rintro e w3 ⟨rfl, hb⟩; have H3 := hidOf (HW.out.trans (hb.mono HW.out.size)); clear hb)
          go_ret2
          exact ⟨by rw [← HRV.out, ← HAL.out]; rfl, H3.out⟩
end Go.Proofs.Ytkokkdekbilkjaa
