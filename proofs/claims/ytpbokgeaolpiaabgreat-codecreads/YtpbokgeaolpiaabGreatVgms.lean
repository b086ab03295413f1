/- What GetMsg tells of whatever bytes: whether they are all of one record, and which. Made by program (wip/gen/whv.py). -/
import Derived.Test.YtpbokgeaolpiaabGreatVre
import Derived.Test.YtpbokgeaolpiaabGreatKC
namespace Go.Proofs.YtpbokgeaolpiaabGreat
open Go.RowKit

def Zr_msg : Array Value := #[.int .i64 0, .int .i64 0, .int .i64 0, .int .i64 0, .int .i64 0, .int .i64 0, .int .i64 0, .bool false, .int .i64 0, .int .i64 0, .int .i64 0, .int .i64 0, .slice none 0 0, .slice none 0 0, .slice none 0 0, .slice none 0 0, .int .i64 0, .int .i64 0, .int .i64 0, .int .i64 0, .int .i64 0, .int .i64 0, .int .i64 0, .slice none 0 0, .int .i64 0, .bool false, .int .i64 0, .int .i64 0, .int .i64 0, .bool false, .bool false, .int .i64 0, .int .i64 0, .int .i64 0, .slice none 0 0, .int .i64 0, .int .i64 0, .int .i64 0, .slice none 0 0, .slice none 0 0, .bool false, .slice none 0 0, .slice none 0 0, .int .i64 0, .int .i64 0, .slice none 0 0]
theorem Zr_msg_i : (Tryz.prog.info? 55).map (·.size) = some Zr_msg.size := by kernel_rfl
theorem Zr_msg_o : Zr_msg.all (·.oneCell') = true := by kernel_rfl
theorem rz_msg' (w : World) (S : Nat → Prop) : Rep w S F_msg Zr_msg.toList Zv_msg := rz_msg w S
set_option maxHeartbeats 800000 in
theorem wholev_msg {D : Nat} (p : Nat) (s : Option (List UInt8)) (w : World) (h : RG D w p s) :
    Calls Tryz.prog 35 #[.pointer (some ⟨p, 0, none⟩), .func (.func 36) #[.pointer (some ⟨p, 0, none⟩)] #[]] w fun e w' => ∃ (cs : List Value) (v : Vl F_msg), e = .returned (.tuple #[.agg cs.toArray, .bool (decide ((de F_msg s).2 = some []))]) ∧ Rep w' (NB w w') F_msg cs v ∧ ((de F_msg s).2 = some [] → v = (de F_msg s).1) ∧ RS w w' p := by
  have hB0 : Below w.heap.size w (w.alloc (.cells Zr_msg 55)) := (Below.refl _ _).alloc (Nat.le_refl _) _
  have h0 : RG D (w.alloc (.cells Zr_msg 55)) p s := h.ext hB0 h.1 h.2.1
  have g0 : Hid ((w.alloc (.cells Zr_msg 55)).heap[w.heap.size]? = some (.cells Zr_msg 55 (0, 0))) := heap_alloc_new w _
  have z0 : Hid (w.heap.size < (w.alloc (.cells Zr_msg 55)).heap.size) := by show _ < _; rw [World.size_alloc]; omega
  have s0 : RS w (w.alloc (.cells Zr_msg 55)) p := (RS.refl _ _).alloc _
  have hpq : Hid (p ≠ w.heap.size) := by have := h.1; show p ≠ _; omega
  have hp0 := h.1
  have hD0 := h.2.1
  clear h hB0
  go_enter Tryz.func35, Tryz.ntmps35
  go_wp2_with fail
  refine (msg_v p s _ h0).mono ?_
  rintro e w1 ⟨cl, he, hrep, h1, t1⟩
  have hcs : cl.toArray.size = Zr_msg.size := by rw [List.size_toArray, hrep.len]; kernel_rfl
  have hco : cl.toArray.all (·.oneCell') = true := hrep.all
  have hrep2 : Rep w1 (NBr (w.heap.size + 1) w1) F_msg cl (de F_msg s).1 := hrep.keptN (Nat.le_refl _) (fun _ _ _ => rfl) z0.out
  have HRE : Hid (Rep w1 (NBr (w.heap.size + 1) w1) F_msg cl (de F_msg s).1) := hrep2
  obtain ⟨cs, hcl⟩ : ∃ cs, Hid (cl.toArray = cs) := ⟨_, rfl⟩
  rw [hcl.out] at he hcs hco
  subst he
  have s1 := s0.trans t1
  have g1 : Hid (w1.heap[w.heap.size]? = some (.cells Zr_msg 55 (0, 0))) := (t1.block _ z0.out hpq.out.symm).trans g0.out
  have z1 : w.heap.size < w1.heap.size := Nat.lt_of_lt_of_le z0.out t1.size
  have HCS : Hid (cs.size = Zr_msg.size) := hcs
  have HCO : Hid (cs.all (·.oneCell') = true) := hco
  have HCI : Hid ((Tryz.prog.info? 55).map (·.size) = some cs.size) := by show _ = _; rw [hcs]; exact Zr_msg_i
  clear g0 z0 s0 t1 h0 hcs hco hrep hrep2
  go_wp2_with (refine wpList_store_rowF rfl 55 (.tmp 6) (.tmp 9) rfl w1.heap.size cs rfl rfl 55 Zr_msg (heap_alloc_new w1 (.cells Zr_msg 55)) HCI.out HCS.out.symm HCO.out ?next)
  case next =>
    intro w2 hw2h
    have hw2 := hw2h.out
    have hB2 : Below w1.heap.size w1 w2 := by rw [hw2]; exact ((Below.refl _ _).alloc (Nat.le_refl _) _).trans ⟨rfl, rfl, rfl, by simp [World.setRow], fun k hk => setRow_other _ _ _ _ (by omega)⟩
    have HRE2 : Hid (Rep w2 (NBr (w.heap.size + 1) w2) F_msg cl (de F_msg s).1) := HRE.out.keptN hB2.size (fun b h1 h2 => hB2.block b h2) (Nat.le_refl _)
    have h2 : RG D w2 p ((de F_msg s).2) := h1.ext hB2 h1.1 h1.2.1
    have s2 : RS w w2 p := s1.ext (hB2.mono s1.size)
    have g2 : Hid (w2.heap[w.heap.size]? = some (.cells Zr_msg 55 (0, 0))) := (hB2.block _ z1).trans g1.out
    have k2 : Hid (w2.heap[w1.heap.size]? = some (.cells cs 55 (0, 0))) := by
      show _ = _
      rw [hw2]; exact setRow_heap _ _ _ _ 55 _ (heap_alloc_new w1 _)
    have z2 : w.heap.size < w2.heap.size := Nat.lt_of_lt_of_le z1 hB2.size
    clear hw2 hw2h g1 h1 s1 hB2 HRE
    by_cases hfin : (de F_msg s).2 = some []
    · have h3 := h2
      rw [hfin] at h3
      obtain ⟨_, _, _, _, a, cap, c0, c1, _, _, _⟩ := h3
      have HF : Hid (decide ((de F_msg s).2 = some []) = true) := by show _ = _; simp [hfin]
      rw [List.length_nil] at c0
      clear hfin h2
      go_wp2_with (first
        | (refine wpList_load_row rfl 55 (.tmp 6) rfl w1.heap.size rfl 55 cs (0, 0) _ k2.out Tryz.underlying55 rfl HCI.out ?_)
        | (refine wpList_store_rowF rfl 55 (.tmp 4) (.tmp 23) rfl w.heap.size cs rfl rfl 55 Zr_msg g2.out HCI.out HCS.out.symm HCO.out ?next2))
      case next2 =>
        intro w3 hw3h
        have hw3 := hw3h.out
        have s3 : RS w w3 p := by rw [hw3]; exact s2.setRow (Nat.le_refl _) _
        have HRE3 : Hid (Rep w3 (NB w w3) F_msg cl (de F_msg s).1) := by
          rw [hw3]
          exact HRE2.out.keptN (by simp [World.setRow]) (fun b h1 h2 => setRow_other _ _ _ _ (by omega)) (Nat.le_succ _)
        have g3 : Hid (w3.heap[w.heap.size]? = some (.cells cs 55 (0, 0))) := by
          show _ = _
          rw [hw3]; exact setRow_heap _ _ _ _ 55 _ g2.out
        clear hw3 hw3h
        go_wp2
        refine bodyPost_ret (v := .tuple #[.agg cs, .bool true]) ?_ rfl ⟨cl, _, by rw [HF.out, hcl.out], HRE3.out, fun _ => rfl, s3⟩
        simp [results, Tryz.results35, asAddr, run_loadVar_row w3 w.heap.size 55 55 cs (0, 0) _ g3.out Tryz.underlying55 rfl HCI.out]
    · have HF : Hid (decide ((de F_msg s).2 = some []) = false) := by show _ = _; simp [hfin]
      obtain ⟨va, vn, vc, vb, c0, c1, hcase⟩ : ∃ va vn vc vb, w2.cell? ⟨p, 0, none⟩ = some (.slice va vn vc) ∧ w2.cell? ⟨p, 1, none⟩ = some (.bool vb) ∧ (vb = true ∨ (vb = false ∧ 0 < vn ∧ vn ≤ 211106232532992)) := by
        cases hst : (de F_msg s).2 with
        | none => rw [hst] at h2; exact ⟨none, 0, 0, true, h2.2.2.2.2.1, h2.2.2.2.2.2, .inl rfl⟩
        | some l =>
          rw [hst] at h2
          obtain ⟨_, _, _, _, a, cap, c0, c1, _, hbs, _⟩ := h2
          refine ⟨a, l.length, cap, false, c0, c1, .inr ⟨rfl, ?_, hbs.1⟩⟩
          rcases l with _ | ⟨y, r⟩
          · exact absurd hst hfin
          · simp
      clear hfin h2
      rcases hcase with rfl | ⟨rfl, hvn, hvm⟩
      · go_wp2_with (first
          | (refine wpList_load_row rfl 55 (.tmp 7) rfl w2.heap.size rfl 55 Zr_msg (0, 0) _ (heap_alloc_new w2 (.cells Zr_msg 55)) Tryz.underlying55 rfl Zr_msg_i ?_)
          | (refine wpList_store_rowF rfl 55 (.tmp 4) (.tmp 22) rfl w.heap.size Zr_msg rfl rfl 55 Zr_msg ((Below.heap_alloc w2 (.cells Zr_msg 55) _ z2).trans g2.out) Zr_msg_i rfl Zr_msg_o ?next2))
        case next2 =>
          intro w3 hw3h
          have hw3 := hw3h.out
          have s3 : RS w w3 p := by rw [hw3]; exact (s2.alloc _).setRow (Nat.le_refl _) _
          have g3 : Hid (w3.heap[w.heap.size]? = some (.cells Zr_msg 55 (0, 0))) := by
            show _ = _
            rw [hw3]; exact setRow_heap _ _ _ _ 55 _ ((Below.heap_alloc w2 _ _ z2).trans g2.out)
          clear hw3 hw3h
          go_wp2
          refine bodyPost_ret (v := .tuple #[.agg Zr_msg, .bool false]) ?_ rfl ⟨Zr_msg.toList, Zv_msg, by rw [HF.out], rz_msg' _ _, fun h => absurd h (of_decide_eq_false HF.out), s3⟩
          simp [results, Tryz.results35, asAddr, run_loadVar_row w3 w.heap.size 55 55 Zr_msg (0, 0) _ g3.out Tryz.underlying55 rfl Zr_msg_i]
      · go_wp2_with (first
          | (refine wpList_load_row rfl 55 (.tmp 7) rfl w2.heap.size rfl 55 Zr_msg (0, 0) _ (heap_alloc_new w2 (.cells Zr_msg 55)) Tryz.underlying55 rfl Zr_msg_i ?_)
          | (refine wpList_store_rowF rfl 55 (.tmp 4) (.tmp 22) rfl w.heap.size Zr_msg rfl rfl 55 Zr_msg ((Below.heap_alloc w2 (.cells Zr_msg 55) _ z2).trans g2.out) Zr_msg_i rfl Zr_msg_o ?next2))
        case next2 =>
          intro w3 hw3h
          have hw3 := hw3h.out
          have s3 : RS w w3 p := by rw [hw3]; exact (s2.alloc _).setRow (Nat.le_refl _) _
          have g3 : Hid (w3.heap[w.heap.size]? = some (.cells Zr_msg 55 (0, 0))) := by
            show _ = _
            rw [hw3]; exact setRow_heap _ _ _ _ 55 _ ((Below.heap_alloc w2 _ _ z2).trans g2.out)
          clear hw3 hw3h
          go_wp2
          refine bodyPost_ret (v := .tuple #[.agg Zr_msg, .bool false]) ?_ rfl ⟨Zr_msg.toList, Zv_msg, by rw [HF.out], rz_msg' _ _, fun h => absurd h (of_decide_eq_false HF.out), s3⟩
          simp [results, Tryz.results35, asAddr, run_loadVar_row w3 w.heap.size 55 55 Zr_msg (0, 0) _ g3.out Tryz.underlying55 rfl Zr_msg_i]

set_option maxHeartbeats 800000 in
theorem getv_msg (a : Option Addr) (n cap : Nat) (l : List UInt8) (w : World) (hn : n = l.length) (hcap : n ≤ cap) (hbs : Bs w a l) (hbl : ∀ y, a = some y → y.block < w.heap.size) :
    Calls Tryz.prog 12 #[.slice a n cap] w fun e w' => ∃ (cs : List Value) (v : Vl F_msg), e = .returned (.tuple #[.agg cs.toArray, .bool (decide ((de F_msg (some l)).2 = some []))]) ∧ Rep w' (NB w w') F_msg cs v ∧ ((de F_msg (some l)).2 = some [] → v = (de F_msg (some l)).1) ∧ Below w.heap.size w w' := by
  have hmf : ∀ (fn : Fn) (first cap : Array Value) (w : World), (Instr.makeFunc fn first cap).run Tryz.prog w = .ok (.func fn first cap) w := fun _ _ _ _ => rfl
  subst hn
  have g0 : Hid ((w.alloc (.cells Zr_msg 55)).heap[w.heap.size]? = some (.cells Zr_msg 55 (0, 0))) := heap_alloc_new w _
  have h0 : RG w.heap.size ((w.alloc (.cells Zr_msg 55)).alloc (.cells #[.slice a l.length cap, .bool false] 77)) (w.heap.size + 1) (some l) := rg_new _ a cap l _ _ (by rw [World.size_alloc]) (by rw [World.size_alloc]; omega) hcap (hbs.alloc _) hbl
  clear hbs hbl
  go_enter Tryz.func12, Tryz.ntmps12
  go_wp2_with fail
  refine (wholev_msg (w.heap.size + 1) (some l) _ h0).mono ?_
  rintro e w1 ⟨cl, vv, he, hrep, hval, s1⟩
  have hcs : cl.toArray.size = Zr_msg.size := by rw [List.size_toArray, hrep.len]; kernel_rfl
  have hco : cl.toArray.all (·.oneCell') = true := hrep.all
  have HRE : Hid (Rep w1 (NBr (w.heap.size + 1) w1) F_msg cl vv) := hrep.keptN (Nat.le_refl _) (fun _ _ _ => rfl) (by rw [World.size_alloc, World.size_alloc]; omega)
  have HVAL : Hid _ := hval
  obtain ⟨cs, hcl⟩ : ∃ cs, Hid (cl.toArray = cs) := ⟨_, rfl⟩
  rw [hcl.out] at he hcs hco
  subst he
  have hB : Below w.heap.size w w1 :=
    Below.trans (((Below.refl _ _).alloc (Nat.le_refl _) (.cells Zr_msg 55)).alloc (by rw [World.size_alloc]; omega) _) ⟨s1.os, s1.tape, s1.output, s1.size, fun k hk => s1.block k (by simp; omega) (by omega)⟩
  have g1 : Hid (w1.heap[w.heap.size]? = some (.cells Zr_msg 55 (0, 0))) := by
    show _ = _
    rw [s1.block _ (by simp; omega) (by omega), Below.heap_alloc _ _ _ (by rw [World.size_alloc]; omega)]; exact g0.out
  have HCS : Hid (cs.size = Zr_msg.size) := hcs
  have HCO : Hid (cs.all (·.oneCell') = true) := hco
  have HCI : Hid ((Tryz.prog.info? 55).map (·.size) = some cs.size) := by show _ = _; rw [hcs]; exact Zr_msg_i
  clear s1 g0 h0 hcs hco hrep hval
  obtain ⟨okb, hokb⟩ : ∃ okb, Hid (decide ((de F_msg (some l)).2 = some []) = okb) := ⟨_, rfl⟩
  rw [hokb.out]
  go_wp2_with (refine wpList_store_rowF rfl 55 (.tmp 2) (.tmp 12) rfl w.heap.size cs rfl rfl 55 _ g1.out HCI.out HCS.out.symm HCO.out ?next)
  case next =>
    intro w2 hw2h
    have hw2 := hw2h.out
    have g2 : Hid (w2.heap[w.heap.size]? = some (.cells cs 55 (0, 0))) := by
      show _ = _
      rw [hw2]; exact setRow_heap _ _ _ _ 55 _ g1.out
    have hB2 : Below w.heap.size w w2 := by
      rw [hw2]; exact hB.trans ⟨rfl, rfl, rfl, by simp [World.setRow], fun k hk => setRow_other _ _ _ _ (by omega)⟩
    have HRE3 : Hid (Rep w2 (NB w w2) F_msg cl vv) := by
      rw [hw2]
      exact HRE.out.keptN (by simp [World.setRow]) (fun b h1 h2 => setRow_other _ _ _ _ (by omega)) (Nat.le_succ _)
    clear hw2 hw2h
    go_wp2
    refine bodyPost_ret (v := .tuple #[.agg cs, .bool okb]) ?_ rfl ⟨cl, vv, by rw [hokb.out, hcl.out], HRE3.out, HVAL.out, hB2⟩
    simp [results, Tryz.results12, asAddr, run_loadVar_row w2 w.heap.size 55 55 cs (0, 0) _ g2.out Tryz.underlying55 rfl HCI.out]

end Go.Proofs.YtpbokgeaolpiaabGreat
