/- Several texts in one (wip/gen/group.py). -/
import Derived.Test.YtpbokgeaolpiaabGreatVot
import Derived.Test.YtpbokgeaolpiaabGreatVpo
import Derived.Test.YtpbokgeaolpiaabGreatVrd
import Derived.Test.YtpbokgeaolpiaabGreatKC
import Derived.Test.YtpbokgeaolpiaabGreatKB
import Derived.Test.YtpbokgeaolpiaabGreatJstore
/- What the document's PutStore returns, whatever it is handed. Made by program (wip/gen/put.py). -/
namespace Go.Proofs.YtpbokgeaolpiaabGreat
open Go.RowKit

theorem info_putStoreo : (Tryz.prog.info? 70).map (·.size) = some (wd F_store) := by kernel_rfl
set_option maxHeartbeats 400000 in
set_option maxRecDepth 100000 in
theorem putStore_o (cs : List Value) (v : Vl F_store) (w : World) (hz : szb F_store v ≤ 137438953472) (hr : Rep w (fun b => b < w.heap.size) F_store cs v) :
    Calls Tryz.prog 48 #[.agg cs.toArray] w fun e w' => ∃ val, e = .returned (.tuple #[val, .int .i64 (codeB (en F_store v).2)]) ∧ Own w' val (bytesB (en F_store v)) ∧ (∀ b, val.ownBlock = some b → w.heap.size ≤ b) ∧ Below w.heap.size w w' := by
  have hsz : Hid ((Tryz.prog.info? 70).map (·.size) = some cs.toArray.size) := by show _ = _; rw [List.size_toArray, hr.len]; exact info_putStoreo
  have HG2 : Hid (((w.alloc (.cells cs.toArray 70)).alloc (.cells #[.slice none 0 0, .bool false] 113)).heap[w.heap.size]? = some (.cells cs.toArray 70 (0, 0))) := by
    show _ = _
    rw [Below.heap_alloc _ _ _ (by rw [World.size_alloc]; omega)]; exact heap_alloc_new w _
  have hB0 : Below w.heap.size w ((w.alloc (.cells cs.toArray 70)).alloc (.cells #[.slice none 0 0, .bool false] 113)) := ((Below.refl _ _).alloc (Nat.le_refl _) _).alloc (by rw [World.size_alloc]; omega) _
  have HR : Hid (Rep ((w.alloc (.cells cs.toArray 70)).alloc (.cells #[.slice none 0 0, .bool false] 113)) (fun b => b < w.heap.size) F_store cs v) := hr.kept hB0.size (fun b hb => hB0.block b hb) (fun _ x => x)
  have HB0 : Hid _ := hB0
  clear hr hB0
  go_enter Tryz.func48, Tryz.ntmps48
  go_wp2_with (refine wpList_load_row rfl 70 (.tmp 1) rfl w.heap.size rfl 70 cs.toArray (0, 0) _ HG2.out Tryz.underlying70 rfl hsz.out ?_)
  refine (store_o _ [] false (fun b => b < w.heap.size + 1) (fun b => b < w.heap.size) cs v _ (by rw [List.length_nil]; omega) (fun b hb => by omega) HR.out (wr_newo _ _ (by rw [World.size_alloc]))).mono ?_
  rintro e w1 ⟨rfl, hW, hK⟩
  have hB : Below w.heap.size w w1 := HB0.out.trans (hK.below.mono (by omega))
  rw [List.nil_append, Bool.false_or] at hW
  clear hK HG2
  go_wp2_with fail
  refine (told_o _ _ _ _ _ hW).mono ?_
  rintro e w2 ⟨val, rfl, hO, hN0, hw⟩
  subst hw
  have hN : ∀ b, val.ownBlock = some b → w.heap.size ≤ b := fun b hb => by have := hN0 b hb; simp at this; omega
  have HO : Hid (Own w2 val (bytesB (enR F_store v))) := hO
  clear hO hN0 hW
  go_wp2
  go_ret2
  have hO := HO.out
  have hq := enR_eq F_store v
  have hby : bytesB (enR F_store v) = bytesB (en F_store v) := by
    unfold bytesB
    rw [hq.1]
    cases hb : (en F_store v).2 with
    | true => rfl
    | false => simp only [Bool.false_eq_true, if_false]; exact hq.2 hb
  rw [hby] at hO
  exact ⟨_, by rw [← hq.1]; rfl, hO, hN, hB⟩

end Go.Proofs.YtpbokgeaolpiaabGreat

/- What GetStore tells of whatever bytes: whether they are all of one record, and which. Made by program (wip/gen/whv.py). -/
namespace Go.Proofs.YtpbokgeaolpiaabGreat
open Go.RowKit

def Zr_store : Array Value := #[.int .i64 0, .int .i64 0, .slice none 0 0, .slice none 0 0, .slice none 0 0, .slice none 0 0, .slice none 0 0, .slice none 0 0, .slice none 0 0]
theorem Zr_store_i : (Tryz.prog.info? 70).map (·.size) = some Zr_store.size := by kernel_rfl
theorem Zr_store_o : Zr_store.all (·.oneCell') = true := by kernel_rfl
theorem rz_store' (w : World) (S : Nat → Prop) : Rep w S F_store Zr_store.toList Zv_store := rz_store w S
set_option maxHeartbeats 800000 in
theorem wholev_store {D : Nat} (p : Nat) (s : Option (List UInt8)) (w : World) (h : RG D w p s) :
    Calls Tryz.prog 45 #[.pointer (some ⟨p, 0, none⟩), .func (.func 46) #[.pointer (some ⟨p, 0, none⟩)] #[]] w fun e w' => ∃ (cs : List Value) (v : Vl F_store), e = .returned (.tuple #[.agg cs.toArray, .bool (decide ((de F_store s).2 = some []))]) ∧ Rep w' (NB w w') F_store cs v ∧ ((de F_store s).2 = some [] → v = (de F_store s).1) ∧ RS w w' p := by
  have hB0 : Below w.heap.size w (w.alloc (.cells Zr_store 70)) := (Below.refl _ _).alloc (Nat.le_refl _) _
  have h0 : RG D (w.alloc (.cells Zr_store 70)) p s := h.ext hB0 h.1 h.2.1
  have g0 : Hid ((w.alloc (.cells Zr_store 70)).heap[w.heap.size]? = some (.cells Zr_store 70 (0, 0))) := heap_alloc_new w _
  have z0 : Hid (w.heap.size < (w.alloc (.cells Zr_store 70)).heap.size) := by show _ < _; rw [World.size_alloc]; omega
  have s0 : RS w (w.alloc (.cells Zr_store 70)) p := (RS.refl _ _).alloc _
  have hpq : Hid (p ≠ w.heap.size) := by have := h.1; show p ≠ _; omega
  have hp0 := h.1
  have hD0 := h.2.1
  clear h hB0
  go_enter Tryz.func45, Tryz.ntmps45
  go_wp2_with fail
  refine (store_v p s _ h0).mono ?_
  rintro e w1 ⟨cl, he, hrep, h1, t1⟩
  have hcs : cl.toArray.size = Zr_store.size := by rw [List.size_toArray, hrep.len]; kernel_rfl
  have hco : cl.toArray.all (·.oneCell') = true := hrep.all
  have hrep2 : Rep w1 (NBr (w.heap.size + 1) w1) F_store cl (de F_store s).1 := hrep.keptN (Nat.le_refl _) (fun _ _ _ => rfl) z0.out
  have HRE : Hid (Rep w1 (NBr (w.heap.size + 1) w1) F_store cl (de F_store s).1) := hrep2
  obtain ⟨cs, hcl⟩ : ∃ cs, Hid (cl.toArray = cs) := ⟨_, rfl⟩
  rw [hcl.out] at he hcs hco
  subst he
  have s1 := s0.trans t1
  have g1 : Hid (w1.heap[w.heap.size]? = some (.cells Zr_store 70 (0, 0))) := (t1.block _ z0.out hpq.out.symm).trans g0.out
  have z1 : w.heap.size < w1.heap.size := Nat.lt_of_lt_of_le z0.out t1.size
  have HCS : Hid (cs.size = Zr_store.size) := hcs
  have HCO : Hid (cs.all (·.oneCell') = true) := hco
  have HCI : Hid ((Tryz.prog.info? 70).map (·.size) = some cs.size) := by show _ = _; rw [hcs]; exact Zr_store_i
  clear g0 z0 s0 t1 h0 hcs hco hrep hrep2
  go_wp2_with (refine wpList_store_rowF rfl 70 (.tmp 6) (.tmp 9) rfl w1.heap.size cs rfl rfl 70 Zr_store (heap_alloc_new w1 (.cells Zr_store 70)) HCI.out HCS.out.symm HCO.out ?next)
  case next =>
    intro w2 hw2h
    have hw2 := hw2h.out
    have hB2 : Below w1.heap.size w1 w2 := by rw [hw2]; exact ((Below.refl _ _).alloc (Nat.le_refl _) _).trans ⟨rfl, rfl, rfl, by simp [World.setRow], fun k hk => setRow_other _ _ _ _ (by omega)⟩
    have HRE2 : Hid (Rep w2 (NBr (w.heap.size + 1) w2) F_store cl (de F_store s).1) := HRE.out.keptN hB2.size (fun b h1 h2 => hB2.block b h2) (Nat.le_refl _)
    have h2 : RG D w2 p ((de F_store s).2) := h1.ext hB2 h1.1 h1.2.1
    have s2 : RS w w2 p := s1.ext (hB2.mono s1.size)
    have g2 : Hid (w2.heap[w.heap.size]? = some (.cells Zr_store 70 (0, 0))) := (hB2.block _ z1).trans g1.out
    have k2 : Hid (w2.heap[w1.heap.size]? = some (.cells cs 70 (0, 0))) := by
      show _ = _
      rw [hw2]; exact setRow_heap _ _ _ _ 70 _ (heap_alloc_new w1 _)
    have z2 : w.heap.size < w2.heap.size := Nat.lt_of_lt_of_le z1 hB2.size
    clear hw2 hw2h g1 h1 s1 hB2 HRE
    by_cases hfin : (de F_store s).2 = some []
    · have h3 := h2
      rw [hfin] at h3
      obtain ⟨_, _, _, _, a, cap, c0, c1, _, _, _⟩ := h3
      have HF : Hid (decide ((de F_store s).2 = some []) = true) := by show _ = _; simp [hfin]
      rw [List.length_nil] at c0
      clear hfin h2
      go_wp2_with (first
        | (refine wpList_load_row rfl 70 (.tmp 6) rfl w1.heap.size rfl 70 cs (0, 0) _ k2.out Tryz.underlying70 rfl HCI.out ?_)
        | (refine wpList_store_rowF rfl 70 (.tmp 4) (.tmp 23) rfl w.heap.size cs rfl rfl 70 Zr_store g2.out HCI.out HCS.out.symm HCO.out ?next2))
      case next2 =>
        intro w3 hw3h
        have hw3 := hw3h.out
        have s3 : RS w w3 p := by rw [hw3]; exact s2.setRow (Nat.le_refl _) _
        have HRE3 : Hid (Rep w3 (NB w w3) F_store cl (de F_store s).1) := by
          rw [hw3]
          exact HRE2.out.keptN (by simp [World.setRow]) (fun b h1 h2 => setRow_other _ _ _ _ (by omega)) (Nat.le_succ _)
        have g3 : Hid (w3.heap[w.heap.size]? = some (.cells cs 70 (0, 0))) := by
          show _ = _
          rw [hw3]; exact setRow_heap _ _ _ _ 70 _ g2.out
        clear hw3 hw3h
        go_wp2
        refine bodyPost_ret (v := .tuple #[.agg cs, .bool true]) ?_ rfl ⟨cl, _, by rw [HF.out, hcl.out], HRE3.out, fun _ => rfl, s3⟩
        simp [results, Tryz.results45, asAddr, run_loadVar_row w3 w.heap.size 70 70 cs (0, 0) _ g3.out Tryz.underlying70 rfl HCI.out]
    · have HF : Hid (decide ((de F_store s).2 = some []) = false) := by show _ = _; simp [hfin]
      obtain ⟨va, vn, vc, vb, c0, c1, hcase⟩ : ∃ va vn vc vb, w2.cell? ⟨p, 0, none⟩ = some (.slice va vn vc) ∧ w2.cell? ⟨p, 1, none⟩ = some (.bool vb) ∧ (vb = true ∨ (vb = false ∧ 0 < vn ∧ vn ≤ 211106232532992)) := by
        cases hst : (de F_store s).2 with
        | none => rw [hst] at h2; exact ⟨none, 0, 0, true, h2.2.2.2.2.1, h2.2.2.2.2.2, .inl rfl⟩
        | some l =>
          rw [hst] at h2
          obtain ⟨_, _, _, _, a, cap, c0, c1, _, hbs, _⟩ := h2
          refine ⟨a, l.length, cap, false, c0, c1, .inr ⟨rfl, ?_, hbs.1⟩⟩
          rcases l with _ | ⟨y, r⟩
          · exact absurd hst hfin
          · simp
      clear hfin h2
      rcases hcase with rfl | ⟨rfl, hvn, hvm⟩
      · go_wp2_with (first
          | (refine wpList_load_row rfl 70 (.tmp 7) rfl w2.heap.size rfl 70 Zr_store (0, 0) _ (heap_alloc_new w2 (.cells Zr_store 70)) Tryz.underlying70 rfl Zr_store_i ?_)
          | (refine wpList_store_rowF rfl 70 (.tmp 4) (.tmp 22) rfl w.heap.size Zr_store rfl rfl 70 Zr_store ((Below.heap_alloc w2 (.cells Zr_store 70) _ z2).trans g2.out) Zr_store_i rfl Zr_store_o ?next2))
        case next2 =>
          intro w3 hw3h
          have hw3 := hw3h.out
          have s3 : RS w w3 p := by rw [hw3]; exact (s2.alloc _).setRow (Nat.le_refl _) _
          have g3 : Hid (w3.heap[w.heap.size]? = some (.cells Zr_store 70 (0, 0))) := by
            show _ = _
            rw [hw3]; exact setRow_heap _ _ _ _ 70 _ ((Below.heap_alloc w2 _ _ z2).trans g2.out)
          clear hw3 hw3h
          go_wp2
          refine bodyPost_ret (v := .tuple #[.agg Zr_store, .bool false]) ?_ rfl ⟨Zr_store.toList, Zv_store, by rw [HF.out], rz_store' _ _, fun h => absurd h (of_decide_eq_false HF.out), s3⟩
          simp [results, Tryz.results45, asAddr, run_loadVar_row w3 w.heap.size 70 70 Zr_store (0, 0) _ g3.out Tryz.underlying70 rfl Zr_store_i]
      · go_wp2_with (first
          | (refine wpList_load_row rfl 70 (.tmp 7) rfl w2.heap.size rfl 70 Zr_store (0, 0) _ (heap_alloc_new w2 (.cells Zr_store 70)) Tryz.underlying70 rfl Zr_store_i ?_)
          | (refine wpList_store_rowF rfl 70 (.tmp 4) (.tmp 22) rfl w.heap.size Zr_store rfl rfl 70 Zr_store ((Below.heap_alloc w2 (.cells Zr_store 70) _ z2).trans g2.out) Zr_store_i rfl Zr_store_o ?next2))
        case next2 =>
          intro w3 hw3h
          have hw3 := hw3h.out
          have s3 : RS w w3 p := by rw [hw3]; exact (s2.alloc _).setRow (Nat.le_refl _) _
          have g3 : Hid (w3.heap[w.heap.size]? = some (.cells Zr_store 70 (0, 0))) := by
            show _ = _
            rw [hw3]; exact setRow_heap _ _ _ _ 70 _ ((Below.heap_alloc w2 _ _ z2).trans g2.out)
          clear hw3 hw3h
          go_wp2
          refine bodyPost_ret (v := .tuple #[.agg Zr_store, .bool false]) ?_ rfl ⟨Zr_store.toList, Zv_store, by rw [HF.out], rz_store' _ _, fun h => absurd h (of_decide_eq_false HF.out), s3⟩
          simp [results, Tryz.results45, asAddr, run_loadVar_row w3 w.heap.size 70 70 Zr_store (0, 0) _ g3.out Tryz.underlying70 rfl Zr_store_i]

set_option maxHeartbeats 800000 in
theorem getv_store (a : Option Addr) (n cap : Nat) (l : List UInt8) (w : World) (hn : n = l.length) (hcap : n ≤ cap) (hbs : Bs w a l) (hbl : ∀ y, a = some y → y.block < w.heap.size) :
    Calls Tryz.prog 18 #[.slice a n cap] w fun e w' => ∃ (cs : List Value) (v : Vl F_store), e = .returned (.tuple #[.agg cs.toArray, .bool (decide ((de F_store (some l)).2 = some []))]) ∧ Rep w' (NB w w') F_store cs v ∧ ((de F_store (some l)).2 = some [] → v = (de F_store (some l)).1) ∧ Below w.heap.size w w' := by
  have hmf : ∀ (fn : Fn) (first cap : Array Value) (w : World), (Instr.makeFunc fn first cap).run Tryz.prog w = .ok (.func fn first cap) w := fun _ _ _ _ => rfl
  subst hn
  have g0 : Hid ((w.alloc (.cells Zr_store 70)).heap[w.heap.size]? = some (.cells Zr_store 70 (0, 0))) := heap_alloc_new w _
  have h0 : RG w.heap.size ((w.alloc (.cells Zr_store 70)).alloc (.cells #[.slice a l.length cap, .bool false] 77)) (w.heap.size + 1) (some l) := rg_new _ a cap l _ _ (by rw [World.size_alloc]) (by rw [World.size_alloc]; omega) hcap (hbs.alloc _) hbl
  clear hbs hbl
  go_enter Tryz.func18, Tryz.ntmps18
  go_wp2_with fail
  refine (wholev_store (w.heap.size + 1) (some l) _ h0).mono ?_
  rintro e w1 ⟨cl, vv, he, hrep, hval, s1⟩
  have hcs : cl.toArray.size = Zr_store.size := by rw [List.size_toArray, hrep.len]; kernel_rfl
  have hco : cl.toArray.all (·.oneCell') = true := hrep.all
  have HRE : Hid (Rep w1 (NBr (w.heap.size + 1) w1) F_store cl vv) := hrep.keptN (Nat.le_refl _) (fun _ _ _ => rfl) (by rw [World.size_alloc, World.size_alloc]; omega)
  have HVAL : Hid _ := hval
  obtain ⟨cs, hcl⟩ : ∃ cs, Hid (cl.toArray = cs) := ⟨_, rfl⟩
  rw [hcl.out] at he hcs hco
  subst he
  have hB : Below w.heap.size w w1 :=
    Below.trans (((Below.refl _ _).alloc (Nat.le_refl _) (.cells Zr_store 70)).alloc (by rw [World.size_alloc]; omega) _) ⟨s1.os, s1.tape, s1.output, s1.size, fun k hk => s1.block k (by simp; omega) (by omega)⟩
  have g1 : Hid (w1.heap[w.heap.size]? = some (.cells Zr_store 70 (0, 0))) := by
    show _ = _
    rw [s1.block _ (by simp; omega) (by omega), Below.heap_alloc _ _ _ (by rw [World.size_alloc]; omega)]; exact g0.out
  have HCS : Hid (cs.size = Zr_store.size) := hcs
  have HCO : Hid (cs.all (·.oneCell') = true) := hco
  have HCI : Hid ((Tryz.prog.info? 70).map (·.size) = some cs.size) := by show _ = _; rw [hcs]; exact Zr_store_i
  clear s1 g0 h0 hcs hco hrep hval
  obtain ⟨okb, hokb⟩ : ∃ okb, Hid (decide ((de F_store (some l)).2 = some []) = okb) := ⟨_, rfl⟩
  rw [hokb.out]
  go_wp2_with (refine wpList_store_rowF rfl 70 (.tmp 2) (.tmp 12) rfl w.heap.size cs rfl rfl 70 _ g1.out HCI.out HCS.out.symm HCO.out ?next)
  case next =>
    intro w2 hw2h
    have hw2 := hw2h.out
    have g2 : Hid (w2.heap[w.heap.size]? = some (.cells cs 70 (0, 0))) := by
      show _ = _
      rw [hw2]; exact setRow_heap _ _ _ _ 70 _ g1.out
    have hB2 : Below w.heap.size w w2 := by
      rw [hw2]; exact hB.trans ⟨rfl, rfl, rfl, by simp [World.setRow], fun k hk => setRow_other _ _ _ _ (by omega)⟩
    have HRE3 : Hid (Rep w2 (NB w w2) F_store cl vv) := by
      rw [hw2]
      exact HRE.out.keptN (by simp [World.setRow]) (fun b h1 h2 => setRow_other _ _ _ _ (by omega)) (Nat.le_succ _)
    clear hw2 hw2h
    go_wp2
    refine bodyPost_ret (v := .tuple #[.agg cs, .bool okb]) ?_ rfl ⟨cl, vv, by rw [hokb.out, hcl.out], HRE3.out, HVAL.out, hB2⟩
    simp [results, Tryz.results18, asAddr, run_loadVar_row w2 w.heap.size 70 70 cs (0, 0) _ g2.out Tryz.underlying70 rfl HCI.out]

end Go.Proofs.YtpbokgeaolpiaabGreat

/- The document's GetStore, whatever bytes: whether they are all of one, and which. Made by program (wip/gen/ig.py). -/
namespace Go.Proofs.YtpbokgeaolpiaabGreat
open Go.RowKit

theorem szb_store_leI (v : Vl F_store) (h : (en F_store v).2 = false) : szb F_store v ≤ 137438953472 := Nat.le_trans (szb_leI F_store v h) (Nat.le_of_ble_eq_true (by kernel_rfl))
theorem mxl_storeI : mx F_store ≤ 211106232532992 := Nat.le_of_ble_eq_true (by kernel_rfl)
theorem box_storeI : (Tryz.prog.info? 70).map (·.size) = some (wd F_store) := by kernel_rfl
set_option maxHeartbeats 1600000 in
set_option maxRecDepth 100000 in
theorem getstore_o (a : Option Addr) (n cap : Nat) (l : List UInt8) (w : World) (hn : n = l.length) (hcap : n ≤ cap) (hbs : Bs w a l) (hbl : ∀ y, a = some y → y.block < w.heap.size) :
    Calls Tryz.prog 19 #[.slice a n cap] w fun e w' => ∃ (cs : List Value) (v : Vl F_store), e = .returned (.tuple #[.agg cs.toArray, .bool (decide ((de F_store (some l)).2 = some []))]) ∧ Rep w' (NB w w') F_store cs v ∧ ((de F_store (some l)).2 = some [] → v = (de F_store (some l)).1) ∧ Below w.heap.size w w' := by
  subst hn
  have hBA : Below w.heap.size w ((w.alloc (.cells Zr_store 70)).alloc (.cells #[.slice a l.length cap, .bool false] 82)) := ((Below.refl _ _).alloc (Nat.le_refl _) _).alloc (by rw [World.size_alloc]; omega) _
  have gA0 : ((w.alloc (.cells Zr_store 70)).alloc (.cells #[.slice a l.length cap, .bool false] 82)).heap[w.heap.size]? = some (.cells Zr_store 70 (0, 0)) := by
    rw [Below.heap_alloc _ _ _ (by rw [World.size_alloc]; omega)]; exact heap_alloc_new w _
  have gA1 : ((w.alloc (.cells Zr_store 70)).alloc (.cells #[.slice a l.length cap, .bool false] 82)).heap[w.heap.size + 1]? = some (.cells #[.slice a l.length cap, .bool false] 82 (0, 0)) := by
    have := heap_alloc_new (w.alloc (.cells Zr_store 70)) (.cells #[.slice a l.length cap, .bool false] 82)
    rwa [World.size_alloc] at this
  have hRI : RI w.heap.size ((w.alloc (.cells Zr_store 70)).alloc (.cells #[.slice a l.length cap, .bool false] 82)) (w.heap.size + 1) l false := by
    refine ⟨by rw [World.size_alloc, World.size_alloc]; omega, by rw [World.size_alloc, World.size_alloc]; omega, by unfold World.frozen?; rw [gA1]; rfl, by unfold World.frozen?; rw [gA1]; rfl, ?_, a, cap, ?_, hcap, hbs.grow hBA, fun x hx => ⟨by have := hbl x hx; omega, hbl x hx⟩⟩
    · rw [cell_of_row _ _ 1 _ 82 (0, 0) gA1]; rfl
    · rw [cell_of_row _ _ 0 _ 82 (0, 0) gA1]; rfl
  have HBS := hidI hbs
  have HBA := hidI hBA
  have GA0 := hidI gA0
  have HCAP := hidI hcap
  have hll := hbs.1
  clear hBA gA0 gA1 hbs hbl hcap
  go_enter Tryz.func19, Tryz.ntmps19
  go_wp2_with fail
  refine (store_i (w.heap.size + 1) l false _ hRI).mono ?_
  rintro e w1 ⟨cl, vv, rfl, hrep, l1, b1, rd1, ri1, rs1⟩
  have RD := hidI rd1
  have hcs : cl.toArray.size = Zr_store.size := by rw [List.size_toArray, hrep.len]; kernel_rfl
  have HCS := hidI hcs
  have HCO : Hid (cl.toArray.all (·.oneCell') = true) := hrep.all
  have HCI : Hid ((Tryz.prog.info? 70).map (·.size) = some cl.toArray.size) := by show _ = _; rw [hcs]; exact Zr_store_i
  have hB1 : Below w.heap.size w w1 := HBA.out.trans ⟨rs1.os, rs1.tape, rs1.output, rs1.size, fun k hk => rs1.block k (by rw [World.size_alloc, World.size_alloc]; omega) (by omega)⟩
  have G01 := hidI ((rs1.block _ (by rw [World.size_alloc, World.size_alloc]; omega) (by omega)).trans GA0.out)
  have z1 : w.heap.size + 1 < w1.heap.size := ri1.1
  have HREP1 : Hid (Rep w1 (NBr (w.heap.size + 1) w1) F_store cl vv) := hrep.keptN (Nat.le_refl _) (fun _ _ _ => rfl) (by rw [World.size_alloc, World.size_alloc]; omega)
  have HB1 := hidI hB1
  have HRI1 := hidI ri1
  have Z1 := hidI z1
  clear rd1 hcs hrep rs1 hRI hB1 ri1 z1
  go_wp2_with (refine wpList_store_rowF rfl 70 (.tmp 5) (.tmp 12) rfl w1.heap.size cl.toArray rfl rfl 70 Zr_store (heap_alloc_new w1 (.cells Zr_store 70)) HCI.out HCS.out.symm HCO.out ?nx2)
  case nx2 =>
    intro w2 hw2h
    have hw2 := hw2h.out
    have hB2 : Below w1.heap.size w1 w2 := by rw [hw2]; exact ((Below.refl _ _).alloc (Nat.le_refl _) _).trans ⟨rfl, rfl, rfl, by simp [World.setRow], fun k hk => setRow_other _ _ _ _ (by omega)⟩
    have G2 := hidI (show w2.heap[w1.heap.size]? = some (.cells cl.toArray 70 (0, 0)) by rw [hw2]; exact setRow_heap _ _ _ _ 70 _ (heap_alloc_new w1 _))
    have z2 : w1.heap.size < w2.heap.size := (Array.getElem?_eq_some_iff.1 G2.out).1
    have G02 := hidI ((hB2.block _ (by have := Z1.out; omega)).trans G01.out)
    have HREP2 := hidI (HREP1.out.keptN (lo' := w.heap.size + 1) hB2.size (fun b h1 h2 => hB2.block b h2) (Nat.le_refl _))
    have HREP2b : Hid (Rep w2 (fun b => b < w2.heap.size) F_store cl vv) := HREP2.out.kept (Nat.le_refl _) (fun _ _ => rfl) (fun b x => x.2.1)
    have HRI2 := hidI (HRI1.out.ext hB2 HRI1.out.1 HRI1.out.2.1)
    have HB2 := hidI (HB1.out.trans (hB2.mono HB1.out.size))
    have HZZ := hidI (szb_store_leI vv RD.out.1)
    have Z2 := hidI z2
    clear hw2 hw2h hB2 z2
    go_wp2_with (refine wpList_load_row rfl 70 (.tmp 5) rfl w1.heap.size rfl 70 cl.toArray (0, 0) _ G2.out Tryz.underlying70 rfl HCI.out ?_)
    refine (putStore_o cl vv _ HZZ.out HREP2b.out).mono ?_
    rintro e w3 ⟨val, rfl, oX, nX, bX⟩
    rw [show codeB (en F_store vv).2 = 0 by rw [RD.out.1]; rfl]
    have hby : bytesB (en F_store vv) = (en F_store vv).1 := by unfold bytesB; rw [RD.out.1]; rfl
    rw [hby] at oX
    have hlX : (en F_store vv).1.length ≤ 211106232532992 := Nat.le_trans (en_len F_store vv) mxl_storeI
    obtain ⟨aX, cX, rfl, hbsX⟩ := oX.form
    have HBX := hidI (hbsX hlX)
    have HRI3 := hidI (HRI2.out.ext bX HRI2.out.1 HRI2.out.2.1)
    have G3 := hidI ((bX.block _ Z2.out).trans G2.out)
    have HG0 := hidI ((bX.block _ (by have := Z2.out; have := Z1.out; omega)).trans G02.out)
    have HBW := hidI (HB2.out.trans (bX.mono HB2.out.size))
    have HREP3 := hidI (HREP2.out.keptN (lo' := w.heap.size + 1) bX.size (fun b h1 h2 => bX.block b h2) (Nat.le_refl _))
    have HBS3 := hidI (HBS.out.grow HBW.out)
    obtain ⟨nX2, hnX⟩ : ∃ nX2, Hid ((en F_store vv).1.length = nX2) := ⟨_, hidI rfl⟩
    rw [hnX.out]
    clear oX nX bX hby hlX hbsX
    go_wp2_with fail
    refine (done_i (w.heap.size + 1) l1 b1 _ HRI3.out).mono ?_
    rintro e w4 ⟨rfl, hw4⟩
    subst hw4
    cases hdn : (!b1 && decide (l1 = [])) with
    | false =>
      have HF : Hid (decide ((de F_store (some l)).2 = some []) = false) := by
        show _ = _
        rw [decide_eq_false_iff_not, ← get_iff RD.out]
        rintro ⟨e1, e2, _⟩
        rw [e1, e2] at hdn
        simp at hdn
      clear hdn
      go_wp2_with (refine wpList_store_rowF rfl 70 (.tmp 2) (.tmp 31) rfl w.heap.size Zr_store rfl rfl 70 Zr_store HG0.out Zr_store_i rfl Zr_store_o ?nx)
      case nx =>
        intro w6 hw6h
        have hw6 := hw6h.out
        have g6 : Hid (w6.heap[w.heap.size]? = some (.cells Zr_store 70 (0, 0))) := by show _ = _; rw [hw6]; exact setRow_heap _ _ _ _ 70 _ HG0.out
        have hB6 : Below w.heap.size w w6 := by rw [hw6]; exact HBW.out.trans ⟨rfl, rfl, rfl, by simp [World.setRow], fun k hk => setRow_other _ _ _ _ (by omega)⟩
        clear hw6 hw6h
        go_wp2
        refine bodyPost_ret (v := .tuple #[.agg Zr_store, .bool false]) ?_ rfl ⟨Zr_store.toList, Zv_store, by rw [HF.out], rz_store' _ _, fun h => absurd h (of_decide_eq_false HF.out), hB6⟩
        simp [results, Tryz.results19, asAddr, run_loadVar_row w6 w.heap.size 70 70 Zr_store (0, 0) _ g6.out Tryz.underlying70 rfl Zr_store_i]
    | true =>
      have hb1 : b1 = false := by cases b1 with | true => simp at hdn | false => rfl
      have hl1 : l1 = [] := by rw [hb1] at hdn; simpa using hdn
      subst hb1 hl1
      clear hdn
      go_wp2_with fail
      refine (same_any aX a nX2 l.length cX cap (en F_store vv).1 l _ hnX.out.symm rfl HBX.out HBS3.out).mono ?_
      rintro e w5 ⟨rfl, nq, hw5⟩
      have hB5 : Below w4.heap.size w4 w5 := by rw [hw5]; exact ⟨rfl, rfl, rfl, Nat.le_refl _, fun _ _ => rfl⟩
      replace HG0 := hidI ((hB5.block _ (Array.getElem?_eq_some_iff.1 HG0.out).1).trans HG0.out)
      replace G3 := hidI ((hB5.block _ (Array.getElem?_eq_some_iff.1 G3.out).1).trans G3.out)
      replace HREP3 := hidI (HREP3.out.keptN (lo' := w.heap.size + 1) hB5.size (fun b h1 h2 => hB5.block b h2) (Nat.le_refl _))
      replace HBW := hidI (HBW.out.trans (hB5.mono HBW.out.size))
      clear hw5 hB5
      cases hsm : decide ((en F_store vv).1 = l) with
      | false =>
        have HF : Hid (decide ((de F_store (some l)).2 = some []) = false) := by
          show _ = _
          rw [decide_eq_false_iff_not, ← get_iff RD.out]
          rintro ⟨_, _, e3⟩
          exact of_decide_eq_false hsm e3
        clear hsm
        go_wp2_with (refine wpList_store_rowF rfl 70 (.tmp 2) (.tmp 31) rfl w.heap.size Zr_store rfl rfl 70 Zr_store HG0.out Zr_store_i rfl Zr_store_o ?nx)
        case nx =>
          intro w6 hw6h
          have hw6 := hw6h.out
          have g6 : Hid (w6.heap[w.heap.size]? = some (.cells Zr_store 70 (0, 0))) := by show _ = _; rw [hw6]; exact setRow_heap _ _ _ _ 70 _ HG0.out
          have hB6 : Below w.heap.size w w6 := by rw [hw6]; exact HBW.out.trans ⟨rfl, rfl, rfl, by simp [World.setRow], fun k hk => setRow_other _ _ _ _ (by omega)⟩
          clear hw6 hw6h
          go_wp2
          refine bodyPost_ret (v := .tuple #[.agg Zr_store, .bool false]) ?_ rfl ⟨Zr_store.toList, Zv_store, by rw [HF.out], rz_store' _ _, fun h => absurd h (of_decide_eq_false HF.out), hB6⟩
          simp [results, Tryz.results19, asAddr, run_loadVar_row w6 w.heap.size 70 70 Zr_store (0, 0) _ g6.out Tryz.underlying70 rfl Zr_store_i]
      | true =>
        have hDE : (de F_store (some l)).2 = some [] := (get_iff RD.out).1 ⟨rfl, rfl, of_decide_eq_true hsm⟩
        have HT : Hid (decide ((de F_store (some l)).2 = some []) = true) := by show _ = _; simp [hDE]
        have HVV := hidI (RD.out.2 rfl [] hDE).1
        clear hsm hDE
        go_wp2_with (first
          | (refine wpList_load_row rfl 70 (.tmp 5) rfl w1.heap.size rfl 70 cl.toArray (0, 0) _ G3.out Tryz.underlying70 rfl HCI.out ?_)
          | (refine wpList_store_rowF rfl 70 (.tmp 2) (.tmp 32) rfl w.heap.size cl.toArray rfl rfl 70 Zr_store HG0.out HCI.out HCS.out.symm HCO.out ?nx))
        case nx =>
          intro w6 hw6h
          have hw6 := hw6h.out
          have g6 : Hid (w6.heap[w.heap.size]? = some (.cells cl.toArray 70 (0, 0))) := by show _ = _; rw [hw6]; exact setRow_heap _ _ _ _ 70 _ HG0.out
          have hB6 : Below w.heap.size w w6 := by rw [hw6]; exact HBW.out.trans ⟨rfl, rfl, rfl, by simp [World.setRow], fun k hk => setRow_other _ _ _ _ (by omega)⟩
          have HREP6 : Hid (Rep w6 (NB w w6) F_store cl vv) := by
            rw [hw6]
            exact HREP3.out.keptN (by simp [World.setRow]) (fun b h1 h2 => setRow_other _ _ _ _ (by omega)) (Nat.le_succ _)
          clear hw6 hw6h
          go_wp2
          refine bodyPost_ret (v := .tuple #[.agg cl.toArray, .bool true]) ?_ rfl ⟨cl, vv, by rw [HT.out], HREP6.out, fun _ => HVV.out, hB6⟩
          simp [results, Tryz.results19, asAddr, run_loadVar_row w6 w.heap.size 70 70 cl.toArray (0, 0) _ g6.out Tryz.underlying70 rfl HCI.out]


end Go.Proofs.YtpbokgeaolpiaabGreat
