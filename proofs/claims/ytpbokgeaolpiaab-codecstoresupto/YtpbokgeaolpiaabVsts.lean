/- Several texts in one (wip/gen/merge.py). -/
import Derived.Test.YtpbokgeaolpiaabSums
import Derived.Test.YtpbokgeaolpiaabVmat
import Derived.Test.YtpbokgeaolpiaabVwc
import Derived.Test.YtpbokgeaolpiaabVpw
import Derived.Test.YtpbokgeaolpiaabVot
import Derived.Test.YtpbokgeaolpiaabVpo
import Derived.Test.YtpbokgeaolpiaabVws
import Derived.Test.YtpbokgeaolpiaabVos
import Derived.Test.YtpbokgeaolpiaabVrd
import Derived.Test.YtpbokgeaolpiaabRnew
import Derived.Test.YtpbokgeaolpiaabVz
import Derived.Test.YtpbokgeaolpiaabVrs
/- What 'both' answers of records that were written, read and written again. Made by program (wip/gen/cmds.py). -/
namespace Go.Proofs.Ytpbokgeaolpiaab
open Go.RowKit

set_option maxHeartbeats 400000 in
theorem both_bad (a1 a2 a3 : Option Addr) (n3 c1 c2 c3 : Nat) (g : Int) (w : World) :
    Calls Try.prog 11 #[.slice a1 0 c1, .int .i64 1, .slice a2 0 c2, .int .i64 1, .slice a3 n3 c3, .int .i64 g, .bool false] w fun e w' => e = .returned (.bool true) ∧ Below w.heap.size w w' := by
  go_enter Try.func11, Try.ntmps11
  go_wp2_with fail
  refine (same_any a1 a2 0 0 c1 c2 [] [] w rfl rfl ⟨by simp, fun h => absurd rfl h⟩ ⟨by simp, fun h => absurd rfl h⟩).mono ?_
  rintro e w1 ⟨rfl, nq, hw⟩
  have B1 : Below w.heap.size w w1 := by rw [hw]; exact ⟨rfl, rfl, rfl, Nat.le_refl _, fun _ _ => rfl⟩
  simp only [decide_true]
  clear hw
  go_wp2
  go_ret
  exact ⟨rfl, B1⟩
set_option maxHeartbeats 400000 in
theorem both_ok (a1 a2 a3 : Option Addr) (n c1 c2 c3 : Nat) (l : List UInt8) (w : World) (hn : n = l.length) (h1 : Bs w a1 l) (h2 : Bs w a2 l) (h3 : Bs w a3 l) :
    Calls Try.prog 11 #[.slice a1 n c1, .int .i64 0, .slice a2 n c2, .int .i64 0, .slice a3 n c3, .int .i64 0, .bool true] w fun e w' => e = .returned (.bool true) ∧ Below w.heap.size w w' := by
  have H1 : Hid (Bs w a1 l) := h1
  have H2 : Hid (Bs w a2 l) := h2
  have H3 : Hid (Bs w a3 l) := h3
  have HN : Hid (n = l.length) := hn
  clear h1 h2 h3 hn
  go_enter Try.func11, Try.ntmps11
  go_wp2_with fail
  refine (same_any a1 a2 n n c1 c2 l l w HN.out HN.out H1.out H2.out).mono ?_
  rintro e w1 ⟨rfl, nq, hw⟩
  have B1 : Below w.heap.size w w1 := by rw [hw]; exact ⟨rfl, rfl, rfl, Nat.le_refl _, fun _ _ => rfl⟩
  simp only [decide_true]
  have K1 : Hid (Bs w1 a1 l) := H1.out.grow B1
  have K3 : Hid (Bs w1 a3 l) := H3.out.grow B1
  clear hw
  go_wp2_with fail
  refine (same_any a3 a1 n n c3 c1 l l w1 HN.out HN.out K3.out K1.out).mono ?_
  rintro e w2 ⟨rfl, nq2, hw2⟩
  have B2 : Below w1.heap.size w1 w2 := by rw [hw2]; exact ⟨rfl, rfl, rfl, Nat.le_refl _, fun _ _ => rfl⟩
  simp only [decide_true]
  clear hw2
  go_wp2
  go_ret
  exact ⟨rfl, B1.trans (B2.mono B1.size)⟩
theorem de_nil (g : Fm) : (de (.cat .num g) (some [])).2 = none := de_none g
end Go.Proofs.Ytpbokgeaolpiaab

/- What PutStore returns, whatever it is handed. Made by program (wip/gen/put.py). -/
namespace Go.Proofs.Ytpbokgeaolpiaab
open Go.RowKit

theorem info_putStorew : (Try.prog.info? 29).map (·.size) = some (wd F_store) := by kernel_rfl
set_option maxHeartbeats 400000 in
set_option maxRecDepth 100000 in
theorem putStore_w (cs : List Value) (v : Vl F_store) (w : World) (hr : Rep w (fun b => b < w.heap.size) F_store cs v) :
    Calls Try.prog 8 #[.agg cs.toArray] w fun e w' => ∃ val, e = .returned (.tuple #[val, .int .i64 (codeB (en F_store v).2)]) ∧ Own w' val (bytesB (en F_store v)) ∧ (∀ b, val.ownBlock = some b → w.heap.size ≤ b) ∧ Below w.heap.size w w' := by
  have hsz : Hid ((Try.prog.info? 29).map (·.size) = some cs.toArray.size) := by show _ = _; rw [List.size_toArray, hr.len]; exact info_putStorew
  have HG2 : Hid (((w.alloc (.cells cs.toArray 29)).alloc (.cells #[.slice none 0 0, .bool false] 85)).heap[w.heap.size]? = some (.cells cs.toArray 29 (0, 0))) := by
    show _ = _
    rw [Below.heap_alloc _ _ _ (by rw [World.size_alloc]; omega)]; exact heap_alloc_new w _
  have hB0 : Below w.heap.size w ((w.alloc (.cells cs.toArray 29)).alloc (.cells #[.slice none 0 0, .bool false] 85)) := ((Below.refl _ _).alloc (Nat.le_refl _) _).alloc (by rw [World.size_alloc]; omega) _
  have HR : Hid (Rep ((w.alloc (.cells cs.toArray 29)).alloc (.cells #[.slice none 0 0, .bool false] 85)) (fun b => b < w.heap.size) F_store cs v) := hr.kept hB0.size (fun b hb => hB0.block b hb) (fun _ x => x)
  have HB0 : Hid _ := hB0
  clear hr hB0
  go_enter Try.func8, Try.ntmps8
  go_wp2_with (refine wpList_load_row rfl 29 (.tmp 1) rfl w.heap.size rfl 29 cs.toArray (0, 0) _ HG2.out Try.underlying29 rfl hsz.out ?_)
  refine (store_w _ [] false (fun b => b < w.heap.size + 1) (fun b => b < w.heap.size) cs v _ (by rw [List.length_nil]; omega) (fun b hb => by omega) HR.out (wr_neww _ _ (by rw [World.size_alloc]))).mono ?_
  rintro e w1 ⟨rfl, hW, hK⟩
  have hB : Below w.heap.size w w1 := HB0.out.trans (hK.below.mono (by omega))
  rw [List.nil_append, Bool.false_or] at hW
  clear hK HG2
  go_wp2_with fail
  refine (done_w _ _ _ _ _ hW).mono ?_
  rintro e w2 ⟨val, rfl, hO, hN0, hw⟩
  subst hw
  have hN : ∀ b, val.ownBlock = some b → w.heap.size ≤ b := fun b hb => by have := hN0 b hb; simp at this; omega
  have HO : Hid (Own w2 val (bytesB (en F_store v))) := hO
  clear hO hN0 hW
  go_wp2
  go_ret2
  have hO := HO.out
  exact ⟨_, rfl, hO, hN, hB⟩

end Go.Proofs.Ytpbokgeaolpiaab

/- What the document's PutStore returns, whatever it is handed. Made by program (wip/gen/put.py). -/
namespace Go.Proofs.Ytpbokgeaolpiaab
open Go.RowKit

theorem info_putStoreo : (Try.prog.info? 29).map (·.size) = some (wd F_store) := by kernel_rfl
set_option maxHeartbeats 400000 in
set_option maxRecDepth 100000 in
theorem putStore_o (cs : List Value) (v : Vl F_store) (w : World) (hz : szb F_store v ≤ 137438953472) (hr : Rep w (fun b => b < w.heap.size) F_store cs v) :
    Calls Try.prog 9 #[.agg cs.toArray] w fun e w' => ∃ val, e = .returned (.tuple #[val, .int .i64 (codeB (en F_store v).2)]) ∧ Own w' val (bytesB (en F_store v)) ∧ (∀ b, val.ownBlock = some b → w.heap.size ≤ b) ∧ Below w.heap.size w w' := by
  have hsz : Hid ((Try.prog.info? 29).map (·.size) = some cs.toArray.size) := by show _ = _; rw [List.size_toArray, hr.len]; exact info_putStoreo
  have HG2 : Hid (((w.alloc (.cells cs.toArray 29)).alloc (.cells #[.slice none 0 0, .bool false] 90)).heap[w.heap.size]? = some (.cells cs.toArray 29 (0, 0))) := by
    show _ = _
    rw [Below.heap_alloc _ _ _ (by rw [World.size_alloc]; omega)]; exact heap_alloc_new w _
  have hB0 : Below w.heap.size w ((w.alloc (.cells cs.toArray 29)).alloc (.cells #[.slice none 0 0, .bool false] 90)) := ((Below.refl _ _).alloc (Nat.le_refl _) _).alloc (by rw [World.size_alloc]; omega) _
  have HR : Hid (Rep ((w.alloc (.cells cs.toArray 29)).alloc (.cells #[.slice none 0 0, .bool false] 90)) (fun b => b < w.heap.size) F_store cs v) := hr.kept hB0.size (fun b hb => hB0.block b hb) (fun _ x => x)
  have HB0 : Hid _ := hB0
  clear hr hB0
  go_enter Try.func9, Try.ntmps9
  go_wp2_with (refine wpList_load_row rfl 29 (.tmp 1) rfl w.heap.size rfl 29 cs.toArray (0, 0) _ HG2.out Try.underlying29 rfl hsz.out ?_)
  refine (store_o _ [] false (fun b => b < w.heap.size + 1) (fun b => b < w.heap.size) cs v _ (by rw [List.length_nil]; omega) (fun b hb => by omega) HR.out (wr_newo _ _ (by rw [World.size_alloc]))).mono ?_
  rintro e w1 ⟨rfl, hW, hK⟩
  have hB : Below w.heap.size w w1 := HB0.out.trans (hK.below.mono (by omega))
  rw [List.nil_append, Bool.false_or] at hW
  clear hK HG2
  go_wp2_with fail
  refine (told_o _ _ _ _ _ hW).mono ?_
  rintro e w2 ⟨val, rfl, hO, hN0, hw⟩
  subst hw
  have hN : ∀ b, val.ownBlock = some b → w.heap.size ≤ b := fun b hb => by have := hN0 b hb; simp at this; omega
  have HO : Hid (Own w2 val (bytesB (enR F_store v))) := hO
  clear hO hN0 hW
  go_wp2
  go_ret2
  have hO := HO.out
  have hq := enR_eq F_store v
  have hby : bytesB (enR F_store v) = bytesB (en F_store v) := by
    unfold bytesB
    rw [hq.1]
    cases hb : (en F_store v).2 with
    | true => rfl
    | false => simp only [Bool.false_eq_true, if_false]; exact hq.2 hb
  rw [hby] at hO
  exact ⟨_, by rw [← hq.1]; rfl, hO, hN, hB⟩

end Go.Proofs.Ytpbokgeaolpiaab

/- What PutSnapshot returns, whatever it is handed. Made by program (wip/gen/put.py). -/
namespace Go.Proofs.Ytpbokgeaolpiaab
open Go.RowKit

theorem info_putSnapshotw : (Try.prog.info? 35).map (·.size) = some (wd F_snapshot) := by kernel_rfl
set_option maxHeartbeats 400000 in
set_option maxRecDepth 100000 in
theorem putSnapshot_w (cs : List Value) (v : Vl F_snapshot) (w : World) (hr : Rep w (fun b => b < w.heap.size) F_snapshot cs v) :
    Calls Try.prog 13 #[.agg cs.toArray] w fun e w' => ∃ val, e = .returned (.tuple #[val, .int .i64 (codeB (en F_snapshot v).2)]) ∧ Own w' val (bytesB (en F_snapshot v)) ∧ (∀ b, val.ownBlock = some b → w.heap.size ≤ b) ∧ Below w.heap.size w w' := by
  have hsz : Hid ((Try.prog.info? 35).map (·.size) = some cs.toArray.size) := by show _ = _; rw [List.size_toArray, hr.len]; exact info_putSnapshotw
  have HG2 : Hid (((w.alloc (.cells cs.toArray 35)).alloc (.cells #[.slice none 0 0, .bool false] 85)).heap[w.heap.size]? = some (.cells cs.toArray 35 (0, 0))) := by
    show _ = _
    rw [Below.heap_alloc _ _ _ (by rw [World.size_alloc]; omega)]; exact heap_alloc_new w _
  have hB0 : Below w.heap.size w ((w.alloc (.cells cs.toArray 35)).alloc (.cells #[.slice none 0 0, .bool false] 85)) := ((Below.refl _ _).alloc (Nat.le_refl _) _).alloc (by rw [World.size_alloc]; omega) _
  have HR : Hid (Rep ((w.alloc (.cells cs.toArray 35)).alloc (.cells #[.slice none 0 0, .bool false] 85)) (fun b => b < w.heap.size) F_snapshot cs v) := hr.kept hB0.size (fun b hb => hB0.block b hb) (fun _ x => x)
  have HB0 : Hid _ := hB0
  clear hr hB0
  go_enter Try.func13, Try.ntmps13
  go_wp2_with (refine wpList_load_row rfl 35 (.tmp 1) rfl w.heap.size rfl 35 cs.toArray (0, 0) _ HG2.out Try.underlying35 rfl hsz.out ?_)
  refine (snapshot_w _ [] false (fun b => b < w.heap.size + 1) (fun b => b < w.heap.size) cs v _ (by rw [List.length_nil]; omega) (fun b hb => by omega) HR.out (wr_neww _ _ (by rw [World.size_alloc]))).mono ?_
  rintro e w1 ⟨rfl, hW, hK⟩
  have hB : Below w.heap.size w w1 := HB0.out.trans (hK.below.mono (by omega))
  rw [List.nil_append, Bool.false_or] at hW
  clear hK HG2
  go_wp2_with fail
  refine (done_w _ _ _ _ _ hW).mono ?_
  rintro e w2 ⟨val, rfl, hO, hN0, hw⟩
  subst hw
  have hN : ∀ b, val.ownBlock = some b → w.heap.size ≤ b := fun b hb => by have := hN0 b hb; simp at this; omega
  have HO : Hid (Own w2 val (bytesB (en F_snapshot v))) := hO
  clear hO hN0 hW
  go_wp2
  go_ret2
  have hO := HO.out
  exact ⟨_, rfl, hO, hN, hB⟩

end Go.Proofs.Ytpbokgeaolpiaab

/- What the document's PutSnapshot returns, whatever it is handed. Made by program (wip/gen/put.py). -/
namespace Go.Proofs.Ytpbokgeaolpiaab
open Go.RowKit

theorem info_putSnapshoto : (Try.prog.info? 35).map (·.size) = some (wd F_snapshot) := by kernel_rfl
set_option maxHeartbeats 400000 in
set_option maxRecDepth 100000 in
theorem putSnapshot_o (cs : List Value) (v : Vl F_snapshot) (w : World) (hz : szb F_snapshot v ≤ 137438953472) (hr : Rep w (fun b => b < w.heap.size) F_snapshot cs v) :
    Calls Try.prog 14 #[.agg cs.toArray] w fun e w' => ∃ val, e = .returned (.tuple #[val, .int .i64 (codeB (en F_snapshot v).2)]) ∧ Own w' val (bytesB (en F_snapshot v)) ∧ (∀ b, val.ownBlock = some b → w.heap.size ≤ b) ∧ Below w.heap.size w w' := by
  have hsz : Hid ((Try.prog.info? 35).map (·.size) = some cs.toArray.size) := by show _ = _; rw [List.size_toArray, hr.len]; exact info_putSnapshoto
  have HG2 : Hid (((w.alloc (.cells cs.toArray 35)).alloc (.cells #[.slice none 0 0, .bool false] 90)).heap[w.heap.size]? = some (.cells cs.toArray 35 (0, 0))) := by
    show _ = _
    rw [Below.heap_alloc _ _ _ (by rw [World.size_alloc]; omega)]; exact heap_alloc_new w _
  have hB0 : Below w.heap.size w ((w.alloc (.cells cs.toArray 35)).alloc (.cells #[.slice none 0 0, .bool false] 90)) := ((Below.refl _ _).alloc (Nat.le_refl _) _).alloc (by rw [World.size_alloc]; omega) _
  have HR : Hid (Rep ((w.alloc (.cells cs.toArray 35)).alloc (.cells #[.slice none 0 0, .bool false] 90)) (fun b => b < w.heap.size) F_snapshot cs v) := hr.kept hB0.size (fun b hb => hB0.block b hb) (fun _ x => x)
  have HB0 : Hid _ := hB0
  clear hr hB0
  go_enter Try.func14, Try.ntmps14
  go_wp2_with (refine wpList_load_row rfl 35 (.tmp 1) rfl w.heap.size rfl 35 cs.toArray (0, 0) _ HG2.out Try.underlying35 rfl hsz.out ?_)
  refine (snapshot_o _ [] false (fun b => b < w.heap.size + 1) (fun b => b < w.heap.size) cs v _ (by rw [List.length_nil]; omega) (fun b hb => by omega) HR.out (wr_newo _ _ (by rw [World.size_alloc]))).mono ?_
  rintro e w1 ⟨rfl, hW, hK⟩
  have hB : Below w.heap.size w w1 := HB0.out.trans (hK.below.mono (by omega))
  rw [List.nil_append, Bool.false_or] at hW
  clear hK HG2
  go_wp2_with fail
  refine (told_o _ _ _ _ _ hW).mono ?_
  rintro e w2 ⟨val, rfl, hO, hN0, hw⟩
  subst hw
  have hN : ∀ b, val.ownBlock = some b → w.heap.size ≤ b := fun b hb => by have := hN0 b hb; simp at this; omega
  have HO : Hid (Own w2 val (bytesB (enR F_snapshot v))) := hO
  clear hO hN0 hW
  go_wp2
  go_ret2
  have hO := HO.out
  have hq := enR_eq F_snapshot v
  have hby : bytesB (enR F_snapshot v) = bytesB (en F_snapshot v) := by
    unfold bytesB
    rw [hq.1]
    cases hb : (en F_snapshot v).2 with
    | true => rfl
    | false => simp only [Bool.false_eq_true, if_false]; exact hq.2 hb
  rw [hby] at hO
  exact ⟨_, by rw [← hq.1]; rfl, hO, hN, hB⟩

end Go.Proofs.Ytpbokgeaolpiaab

/- What GetStore tells of whatever bytes: whether they are all of one record, and which. Made by program (wip/gen/whv.py). -/
namespace Go.Proofs.Ytpbokgeaolpiaab
open Go.RowKit

def Zr_store : Array Value := #[.int .i64 0, .int .i64 0, .slice none 0 0, .slice none 0 0, .slice none 0 0, .slice none 0 0, .slice none 0 0, .slice none 0 0, .slice none 0 0]
theorem Zr_store_i : (Try.prog.info? 29).map (·.size) = some Zr_store.size := by kernel_rfl
theorem Zr_store_o : Zr_store.all (·.oneCell') = true := by kernel_rfl
theorem rz_store' (w : World) (S : Nat → Prop) : Rep w S F_store Zr_store.toList Zv_store := rz_store w S
set_option maxHeartbeats 800000 in
theorem wholev_store {D : Nat} (p : Nat) (s : Option (List UInt8)) (w : World) (h : RG D w p s) :
    Calls Try.prog 29 #[.pointer (some ⟨p, 0, none⟩), .func (.func 30) #[.pointer (some ⟨p, 0, none⟩)] #[]] w fun e w' => ∃ (cs : List Value) (v : Vl F_store), e = .returned (.tuple #[.agg cs.toArray, .bool (decide ((de F_store s).2 = some []))]) ∧ Rep w' (NB w w') F_store cs v ∧ ((de F_store s).2 = some [] → v = (de F_store s).1) ∧ RS w w' p := by
  have hB0 : Below w.heap.size w (w.alloc (.cells Zr_store 29)) := (Below.refl _ _).alloc (Nat.le_refl _) _
  have h0 : RG D (w.alloc (.cells Zr_store 29)) p s := h.ext hB0 h.1 h.2.1
  have g0 : Hid ((w.alloc (.cells Zr_store 29)).heap[w.heap.size]? = some (.cells Zr_store 29 (0, 0))) := heap_alloc_new w _
  have z0 : Hid (w.heap.size < (w.alloc (.cells Zr_store 29)).heap.size) := by show _ < _; rw [World.size_alloc]; omega
  have s0 : RS w (w.alloc (.cells Zr_store 29)) p := (RS.refl _ _).alloc _
  have hpq : Hid (p ≠ w.heap.size) := by have := h.1; show p ≠ _; omega
  have hp0 := h.1
  have hD0 := h.2.1
  clear h hB0
  go_enter Try.func29, Try.ntmps29
  go_wp2_with fail
  refine (store_v p s _ h0).mono ?_
  rintro e w1 ⟨cl, he, hrep, h1, t1⟩
  have hcs : cl.toArray.size = Zr_store.size := by rw [List.size_toArray, hrep.len]; kernel_rfl
  have hco : cl.toArray.all (·.oneCell') = true := hrep.all
  have hrep2 : Rep w1 (fun b => w.heap.size < b ∧ b < w1.heap.size) F_store cl (de F_store s).1 := hrep.kept (Nat.le_refl _) (fun _ _ => rfl) (fun b hb => ⟨Nat.lt_of_lt_of_le z0.out hb.1, hb.2⟩)
  have HRE : Hid (Rep w1 (fun b => w.heap.size < b ∧ b < w1.heap.size) F_store cl (de F_store s).1) := hrep2
  obtain ⟨cs, hcl⟩ : ∃ cs, Hid (cl.toArray = cs) := ⟨_, rfl⟩
  rw [hcl.out] at he hcs hco
  subst he
  have s1 := s0.trans t1
  have g1 : Hid (w1.heap[w.heap.size]? = some (.cells Zr_store 29 (0, 0))) := (t1.block _ z0.out hpq.out.symm).trans g0.out
  have z1 : w.heap.size < w1.heap.size := Nat.lt_of_lt_of_le z0.out t1.size
  have HCS : Hid (cs.size = Zr_store.size) := hcs
  have HCO : Hid (cs.all (·.oneCell') = true) := hco
  have HCI : Hid ((Try.prog.info? 29).map (·.size) = some cs.size) := by show _ = _; rw [hcs]; exact Zr_store_i
  clear g0 z0 s0 t1 h0 hcs hco hrep hrep2
  go_wp2_with (refine wpList_store_rowF rfl 29 (.tmp 6) (.tmp 9) rfl w1.heap.size cs rfl rfl 29 Zr_store (heap_alloc_new w1 (.cells Zr_store 29)) HCI.out HCS.out.symm HCO.out ?next)
  case next =>
    intro w2 hw2h
    have hw2 := hw2h.out
    have hB2 : Below w1.heap.size w1 w2 := by rw [hw2]; exact ((Below.refl _ _).alloc (Nat.le_refl _) _).trans ⟨rfl, rfl, rfl, by simp [World.setRow], fun k hk => setRow_other _ _ _ _ (by omega)⟩
    have HRE2 : Hid (Rep w2 (fun b => w.heap.size < b ∧ b < w2.heap.size) F_store cl (de F_store s).1) := HRE.out.kept hB2.size (fun b hb => hB2.block b hb.2) (fun b hb => ⟨hb.1, Nat.lt_of_lt_of_le hb.2 hB2.size⟩)
    have h2 : RG D w2 p ((de F_store s).2) := h1.ext hB2 h1.1 h1.2.1
    have s2 : RS w w2 p := s1.ext (hB2.mono s1.size)
    have g2 : Hid (w2.heap[w.heap.size]? = some (.cells Zr_store 29 (0, 0))) := (hB2.block _ z1).trans g1.out
    have k2 : Hid (w2.heap[w1.heap.size]? = some (.cells cs 29 (0, 0))) := by
      show _ = _
      rw [hw2]; exact setRow_heap _ _ _ _ 29 _ (heap_alloc_new w1 _)
    have z2 : w.heap.size < w2.heap.size := Nat.lt_of_lt_of_le z1 hB2.size
    clear hw2 hw2h g1 h1 s1 hB2 HRE
    by_cases hfin : (de F_store s).2 = some []
    · have h3 := h2
      rw [hfin] at h3
      obtain ⟨_, _, _, _, a, cap, c0, c1, _, _, _⟩ := h3
      have HF : Hid (decide ((de F_store s).2 = some []) = true) := by show _ = _; simp [hfin]
      rw [List.length_nil] at c0
      clear hfin h2
      go_wp2_with (first
        | (refine wpList_load_row rfl 29 (.tmp 6) rfl w1.heap.size rfl 29 cs (0, 0) _ k2.out Try.underlying29 rfl HCI.out ?_)
        | (refine wpList_store_rowF rfl 29 (.tmp 4) (.tmp 23) rfl w.heap.size cs rfl rfl 29 Zr_store g2.out HCI.out HCS.out.symm HCO.out ?next2))
      case next2 =>
        intro w3 hw3h
        have hw3 := hw3h.out
        have s3 : RS w w3 p := by rw [hw3]; exact s2.setRow (Nat.le_refl _) _
        have HRE3 : Hid (Rep w3 (NB w w3) F_store cl (de F_store s).1) := by
          rw [hw3]
          exact HRE2.out.kept (by simp [World.setRow]) (fun b hb => setRow_other _ _ _ _ (by have := hb.1; omega)) (fun b hb => ⟨Nat.le_of_lt hb.1, by simpa [World.setRow] using hb.2⟩)
        have g3 : Hid (w3.heap[w.heap.size]? = some (.cells cs 29 (0, 0))) := by
          show _ = _
          rw [hw3]; exact setRow_heap _ _ _ _ 29 _ g2.out
        clear hw3 hw3h
        go_wp2
        refine bodyPost_ret (v := .tuple #[.agg cs, .bool true]) ?_ rfl ⟨cl, _, by rw [HF.out, hcl.out], HRE3.out, fun _ => rfl, s3⟩
        simp [results, Try.results29, asAddr, run_loadVar_row w3 w.heap.size 29 29 cs (0, 0) _ g3.out Try.underlying29 rfl HCI.out]
    · have HF : Hid (decide ((de F_store s).2 = some []) = false) := by show _ = _; simp [hfin]
      obtain ⟨va, vn, vc, vb, c0, c1, hcase⟩ : ∃ va vn vc vb, w2.cell? ⟨p, 0, none⟩ = some (.slice va vn vc) ∧ w2.cell? ⟨p, 1, none⟩ = some (.bool vb) ∧ (vb = true ∨ (vb = false ∧ 0 < vn ∧ vn ≤ 211106232532992)) := by
        cases hst : (de F_store s).2 with
        | none => rw [hst] at h2; exact ⟨none, 0, 0, true, h2.2.2.2.2.1, h2.2.2.2.2.2, .inl rfl⟩
        | some l =>
          rw [hst] at h2
          obtain ⟨_, _, _, _, a, cap, c0, c1, _, hbs, _⟩ := h2
          refine ⟨a, l.length, cap, false, c0, c1, .inr ⟨rfl, ?_, hbs.1⟩⟩
          rcases l with _ | ⟨y, r⟩
          · exact absurd hst hfin
          · simp
      clear hfin h2
      rcases hcase with rfl | ⟨rfl, hvn, hvm⟩
      · go_wp2_with (first
          | (refine wpList_load_row rfl 29 (.tmp 7) rfl w2.heap.size rfl 29 Zr_store (0, 0) _ (heap_alloc_new w2 (.cells Zr_store 29)) Try.underlying29 rfl Zr_store_i ?_)
          | (refine wpList_store_rowF rfl 29 (.tmp 4) (.tmp 22) rfl w.heap.size Zr_store rfl rfl 29 Zr_store ((Below.heap_alloc w2 (.cells Zr_store 29) _ z2).trans g2.out) Zr_store_i rfl Zr_store_o ?next2))
        case next2 =>
          intro w3 hw3h
          have hw3 := hw3h.out
          have s3 : RS w w3 p := by rw [hw3]; exact (s2.alloc _).setRow (Nat.le_refl _) _
          have g3 : Hid (w3.heap[w.heap.size]? = some (.cells Zr_store 29 (0, 0))) := by
            show _ = _
            rw [hw3]; exact setRow_heap _ _ _ _ 29 _ ((Below.heap_alloc w2 _ _ z2).trans g2.out)
          clear hw3 hw3h
          go_wp2
          refine bodyPost_ret (v := .tuple #[.agg Zr_store, .bool false]) ?_ rfl ⟨Zr_store.toList, Zv_store, by rw [HF.out], rz_store' _ _, fun h => absurd h (of_decide_eq_false HF.out), s3⟩
          simp [results, Try.results29, asAddr, run_loadVar_row w3 w.heap.size 29 29 Zr_store (0, 0) _ g3.out Try.underlying29 rfl Zr_store_i]
      · go_wp2_with (first
          | (refine wpList_load_row rfl 29 (.tmp 7) rfl w2.heap.size rfl 29 Zr_store (0, 0) _ (heap_alloc_new w2 (.cells Zr_store 29)) Try.underlying29 rfl Zr_store_i ?_)
          | (refine wpList_store_rowF rfl 29 (.tmp 4) (.tmp 22) rfl w.heap.size Zr_store rfl rfl 29 Zr_store ((Below.heap_alloc w2 (.cells Zr_store 29) _ z2).trans g2.out) Zr_store_i rfl Zr_store_o ?next2))
        case next2 =>
          intro w3 hw3h
          have hw3 := hw3h.out
          have s3 : RS w w3 p := by rw [hw3]; exact (s2.alloc _).setRow (Nat.le_refl _) _
          have g3 : Hid (w3.heap[w.heap.size]? = some (.cells Zr_store 29 (0, 0))) := by
            show _ = _
            rw [hw3]; exact setRow_heap _ _ _ _ 29 _ ((Below.heap_alloc w2 _ _ z2).trans g2.out)
          clear hw3 hw3h
          go_wp2
          refine bodyPost_ret (v := .tuple #[.agg Zr_store, .bool false]) ?_ rfl ⟨Zr_store.toList, Zv_store, by rw [HF.out], rz_store' _ _, fun h => absurd h (of_decide_eq_false HF.out), s3⟩
          simp [results, Try.results29, asAddr, run_loadVar_row w3 w.heap.size 29 29 Zr_store (0, 0) _ g3.out Try.underlying29 rfl Zr_store_i]

set_option maxHeartbeats 800000 in
theorem getv_store (a : Option Addr) (n cap : Nat) (l : List UInt8) (w : World) (hn : n = l.length) (hcap : n ≤ cap) (hbs : Bs w a l) (hbl : ∀ y, a = some y → y.block < w.heap.size) :
    Calls Try.prog 10 #[.slice a n cap] w fun e w' => ∃ (cs : List Value) (v : Vl F_store), e = .returned (.tuple #[.agg cs.toArray, .bool (decide ((de F_store (some l)).2 = some []))]) ∧ Rep w' (NB w w') F_store cs v ∧ ((de F_store (some l)).2 = some [] → v = (de F_store (some l)).1) ∧ Below w.heap.size w w' := by
  have hmf : ∀ (fn : Fn) (first cap : Array Value) (w : World), (Instr.makeFunc fn first cap).run Try.prog w = .ok (.func fn first cap) w := fun _ _ _ _ => rfl
  subst hn
  have g0 : Hid ((w.alloc (.cells Zr_store 29)).heap[w.heap.size]? = some (.cells Zr_store 29 (0, 0))) := heap_alloc_new w _
  have h0 : RG w.heap.size ((w.alloc (.cells Zr_store 29)).alloc (.cells #[.slice a l.length cap, .bool false] 93)) (w.heap.size + 1) (some l) := rg_new _ a cap l _ _ (by rw [World.size_alloc]) (by rw [World.size_alloc]; omega) hcap (hbs.alloc _) hbl
  clear hbs hbl
  go_enter Try.func10, Try.ntmps10
  go_wp2_with fail
  refine (wholev_store (w.heap.size + 1) (some l) _ h0).mono ?_
  rintro e w1 ⟨cl, vv, he, hrep, hval, s1⟩
  have hcs : cl.toArray.size = Zr_store.size := by rw [List.size_toArray, hrep.len]; kernel_rfl
  have hco : cl.toArray.all (·.oneCell') = true := hrep.all
  have HRE : Hid (Rep w1 (fun b => w.heap.size < b ∧ b < w1.heap.size) F_store cl vv) := hrep.kept (Nat.le_refl _) (fun _ _ => rfl) (fun b hb => ⟨by have := hb.1; rw [World.size_alloc, World.size_alloc] at this; omega, hb.2⟩)
  have HVAL : Hid _ := hval
  obtain ⟨cs, hcl⟩ : ∃ cs, Hid (cl.toArray = cs) := ⟨_, rfl⟩
  rw [hcl.out] at he hcs hco
  subst he
  have hB : Below w.heap.size w w1 :=
    Below.trans (((Below.refl _ _).alloc (Nat.le_refl _) (.cells Zr_store 29)).alloc (by rw [World.size_alloc]; omega) _) ⟨s1.os, s1.tape, s1.output, s1.size, fun k hk => s1.block k (by simp; omega) (by omega)⟩
  have g1 : Hid (w1.heap[w.heap.size]? = some (.cells Zr_store 29 (0, 0))) := by
    show _ = _
    rw [s1.block _ (by simp; omega) (by omega), Below.heap_alloc _ _ _ (by rw [World.size_alloc]; omega)]; exact g0.out
  have HCS : Hid (cs.size = Zr_store.size) := hcs
  have HCO : Hid (cs.all (·.oneCell') = true) := hco
  have HCI : Hid ((Try.prog.info? 29).map (·.size) = some cs.size) := by show _ = _; rw [hcs]; exact Zr_store_i
  clear s1 g0 h0 hcs hco hrep hval
  obtain ⟨okb, hokb⟩ : ∃ okb, Hid (decide ((de F_store (some l)).2 = some []) = okb) := ⟨_, rfl⟩
  rw [hokb.out]
  go_wp2_with (refine wpList_store_rowF rfl 29 (.tmp 2) (.tmp 12) rfl w.heap.size cs rfl rfl 29 _ g1.out HCI.out HCS.out.symm HCO.out ?next)
  case next =>
    intro w2 hw2h
    have hw2 := hw2h.out
    have g2 : Hid (w2.heap[w.heap.size]? = some (.cells cs 29 (0, 0))) := by
      show _ = _
      rw [hw2]; exact setRow_heap _ _ _ _ 29 _ g1.out
    have hB2 : Below w.heap.size w w2 := by
      rw [hw2]; exact hB.trans ⟨rfl, rfl, rfl, by simp [World.setRow], fun k hk => setRow_other _ _ _ _ (by omega)⟩
    have HRE3 : Hid (Rep w2 (NB w w2) F_store cl vv) := by
      rw [hw2]
      exact HRE.out.kept (by simp [World.setRow]) (fun b hb => setRow_other _ _ _ _ (by have := hb.1; omega)) (fun b hb => ⟨Nat.le_of_lt hb.1, by simpa [World.setRow] using hb.2⟩)
    clear hw2 hw2h
    go_wp2
    refine bodyPost_ret (v := .tuple #[.agg cs, .bool okb]) ?_ rfl ⟨cl, vv, by rw [hokb.out, hcl.out], HRE3.out, HVAL.out, hB2⟩
    simp [results, Try.results10, asAddr, run_loadVar_row w2 w.heap.size 29 29 cs (0, 0) _ g2.out Try.underlying29 rfl HCI.out]

end Go.Proofs.Ytpbokgeaolpiaab

/- What GetSnapshot tells of whatever bytes: whether they are all of one record, and which. Made by program (wip/gen/whv.py). -/
namespace Go.Proofs.Ytpbokgeaolpiaab
open Go.RowKit

def Zr_snapshot : Array Value := #[.int .i64 0, .int .i64 0, .slice none 0 0, .slice none 0 0, .slice none 0 0]
theorem Zr_snapshot_i : (Try.prog.info? 35).map (·.size) = some Zr_snapshot.size := by kernel_rfl
theorem Zr_snapshot_o : Zr_snapshot.all (·.oneCell') = true := by kernel_rfl
theorem rz_snapshot' (w : World) (S : Nat → Prop) : Rep w S F_snapshot Zr_snapshot.toList Zv_snapshot := rz_snapshot w S
set_option maxHeartbeats 800000 in
theorem wholev_snapshot {D : Nat} (p : Nat) (s : Option (List UInt8)) (w : World) (h : RG D w p s) :
    Calls Try.prog 33 #[.pointer (some ⟨p, 0, none⟩), .func (.func 34) #[.pointer (some ⟨p, 0, none⟩)] #[]] w fun e w' => ∃ (cs : List Value) (v : Vl F_snapshot), e = .returned (.tuple #[.agg cs.toArray, .bool (decide ((de F_snapshot s).2 = some []))]) ∧ Rep w' (NB w w') F_snapshot cs v ∧ ((de F_snapshot s).2 = some [] → v = (de F_snapshot s).1) ∧ RS w w' p := by
  have hB0 : Below w.heap.size w (w.alloc (.cells Zr_snapshot 35)) := (Below.refl _ _).alloc (Nat.le_refl _) _
  have h0 : RG D (w.alloc (.cells Zr_snapshot 35)) p s := h.ext hB0 h.1 h.2.1
  have g0 : Hid ((w.alloc (.cells Zr_snapshot 35)).heap[w.heap.size]? = some (.cells Zr_snapshot 35 (0, 0))) := heap_alloc_new w _
  have z0 : Hid (w.heap.size < (w.alloc (.cells Zr_snapshot 35)).heap.size) := by show _ < _; rw [World.size_alloc]; omega
  have s0 : RS w (w.alloc (.cells Zr_snapshot 35)) p := (RS.refl _ _).alloc _
  have hpq : Hid (p ≠ w.heap.size) := by have := h.1; show p ≠ _; omega
  have hp0 := h.1
  have hD0 := h.2.1
  clear h hB0
  go_enter Try.func33, Try.ntmps33
  go_wp2_with fail
  refine (snapshot_v p s _ h0).mono ?_
  rintro e w1 ⟨cl, he, hrep, h1, t1⟩
  have hcs : cl.toArray.size = Zr_snapshot.size := by rw [List.size_toArray, hrep.len]; kernel_rfl
  have hco : cl.toArray.all (·.oneCell') = true := hrep.all
  have hrep2 : Rep w1 (fun b => w.heap.size < b ∧ b < w1.heap.size) F_snapshot cl (de F_snapshot s).1 := hrep.kept (Nat.le_refl _) (fun _ _ => rfl) (fun b hb => ⟨Nat.lt_of_lt_of_le z0.out hb.1, hb.2⟩)
  have HRE : Hid (Rep w1 (fun b => w.heap.size < b ∧ b < w1.heap.size) F_snapshot cl (de F_snapshot s).1) := hrep2
  obtain ⟨cs, hcl⟩ : ∃ cs, Hid (cl.toArray = cs) := ⟨_, rfl⟩
  rw [hcl.out] at he hcs hco
  subst he
  have s1 := s0.trans t1
  have g1 : Hid (w1.heap[w.heap.size]? = some (.cells Zr_snapshot 35 (0, 0))) := (t1.block _ z0.out hpq.out.symm).trans g0.out
  have z1 : w.heap.size < w1.heap.size := Nat.lt_of_lt_of_le z0.out t1.size
  have HCS : Hid (cs.size = Zr_snapshot.size) := hcs
  have HCO : Hid (cs.all (·.oneCell') = true) := hco
  have HCI : Hid ((Try.prog.info? 35).map (·.size) = some cs.size) := by show _ = _; rw [hcs]; exact Zr_snapshot_i
  clear g0 z0 s0 t1 h0 hcs hco hrep hrep2
  go_wp2_with (refine wpList_store_rowF rfl 35 (.tmp 6) (.tmp 9) rfl w1.heap.size cs rfl rfl 35 Zr_snapshot (heap_alloc_new w1 (.cells Zr_snapshot 35)) HCI.out HCS.out.symm HCO.out ?next)
  case next =>
    intro w2 hw2h
    have hw2 := hw2h.out
    have hB2 : Below w1.heap.size w1 w2 := by rw [hw2]; exact ((Below.refl _ _).alloc (Nat.le_refl _) _).trans ⟨rfl, rfl, rfl, by simp [World.setRow], fun k hk => setRow_other _ _ _ _ (by omega)⟩
    have HRE2 : Hid (Rep w2 (fun b => w.heap.size < b ∧ b < w2.heap.size) F_snapshot cl (de F_snapshot s).1) := HRE.out.kept hB2.size (fun b hb => hB2.block b hb.2) (fun b hb => ⟨hb.1, Nat.lt_of_lt_of_le hb.2 hB2.size⟩)
    have h2 : RG D w2 p ((de F_snapshot s).2) := h1.ext hB2 h1.1 h1.2.1
    have s2 : RS w w2 p := s1.ext (hB2.mono s1.size)
    have g2 : Hid (w2.heap[w.heap.size]? = some (.cells Zr_snapshot 35 (0, 0))) := (hB2.block _ z1).trans g1.out
    have k2 : Hid (w2.heap[w1.heap.size]? = some (.cells cs 35 (0, 0))) := by
      show _ = _
      rw [hw2]; exact setRow_heap _ _ _ _ 35 _ (heap_alloc_new w1 _)
    have z2 : w.heap.size < w2.heap.size := Nat.lt_of_lt_of_le z1 hB2.size
    clear hw2 hw2h g1 h1 s1 hB2 HRE
    by_cases hfin : (de F_snapshot s).2 = some []
    · have h3 := h2
      rw [hfin] at h3
      obtain ⟨_, _, _, _, a, cap, c0, c1, _, _, _⟩ := h3
      have HF : Hid (decide ((de F_snapshot s).2 = some []) = true) := by show _ = _; simp [hfin]
      rw [List.length_nil] at c0
      clear hfin h2
      go_wp2_with (first
        | (refine wpList_load_row rfl 35 (.tmp 6) rfl w1.heap.size rfl 35 cs (0, 0) _ k2.out Try.underlying35 rfl HCI.out ?_)
        | (refine wpList_store_rowF rfl 35 (.tmp 4) (.tmp 23) rfl w.heap.size cs rfl rfl 35 Zr_snapshot g2.out HCI.out HCS.out.symm HCO.out ?next2))
      case next2 =>
        intro w3 hw3h
        have hw3 := hw3h.out
        have s3 : RS w w3 p := by rw [hw3]; exact s2.setRow (Nat.le_refl _) _
        have HRE3 : Hid (Rep w3 (NB w w3) F_snapshot cl (de F_snapshot s).1) := by
          rw [hw3]
          exact HRE2.out.kept (by simp [World.setRow]) (fun b hb => setRow_other _ _ _ _ (by have := hb.1; omega)) (fun b hb => ⟨Nat.le_of_lt hb.1, by simpa [World.setRow] using hb.2⟩)
        have g3 : Hid (w3.heap[w.heap.size]? = some (.cells cs 35 (0, 0))) := by
          show _ = _
          rw [hw3]; exact setRow_heap _ _ _ _ 35 _ g2.out
        clear hw3 hw3h
        go_wp2
        refine bodyPost_ret (v := .tuple #[.agg cs, .bool true]) ?_ rfl ⟨cl, _, by rw [HF.out, hcl.out], HRE3.out, fun _ => rfl, s3⟩
        simp [results, Try.results33, asAddr, run_loadVar_row w3 w.heap.size 35 35 cs (0, 0) _ g3.out Try.underlying35 rfl HCI.out]
    · have HF : Hid (decide ((de F_snapshot s).2 = some []) = false) := by show _ = _; simp [hfin]
      obtain ⟨va, vn, vc, vb, c0, c1, hcase⟩ : ∃ va vn vc vb, w2.cell? ⟨p, 0, none⟩ = some (.slice va vn vc) ∧ w2.cell? ⟨p, 1, none⟩ = some (.bool vb) ∧ (vb = true ∨ (vb = false ∧ 0 < vn ∧ vn ≤ 211106232532992)) := by
        cases hst : (de F_snapshot s).2 with
        | none => rw [hst] at h2; exact ⟨none, 0, 0, true, h2.2.2.2.2.1, h2.2.2.2.2.2, .inl rfl⟩
        | some l =>
          rw [hst] at h2
          obtain ⟨_, _, _, _, a, cap, c0, c1, _, hbs, _⟩ := h2
          refine ⟨a, l.length, cap, false, c0, c1, .inr ⟨rfl, ?_, hbs.1⟩⟩
          rcases l with _ | ⟨y, r⟩
          · exact absurd hst hfin
          · simp
      clear hfin h2
      rcases hcase with rfl | ⟨rfl, hvn, hvm⟩
      · go_wp2_with (first
          | (refine wpList_load_row rfl 35 (.tmp 7) rfl w2.heap.size rfl 35 Zr_snapshot (0, 0) _ (heap_alloc_new w2 (.cells Zr_snapshot 35)) Try.underlying35 rfl Zr_snapshot_i ?_)
          | (refine wpList_store_rowF rfl 35 (.tmp 4) (.tmp 22) rfl w.heap.size Zr_snapshot rfl rfl 35 Zr_snapshot ((Below.heap_alloc w2 (.cells Zr_snapshot 35) _ z2).trans g2.out) Zr_snapshot_i rfl Zr_snapshot_o ?next2))
        case next2 =>
          intro w3 hw3h
          have hw3 := hw3h.out
          have s3 : RS w w3 p := by rw [hw3]; exact (s2.alloc _).setRow (Nat.le_refl _) _
          have g3 : Hid (w3.heap[w.heap.size]? = some (.cells Zr_snapshot 35 (0, 0))) := by
            show _ = _
            rw [hw3]; exact setRow_heap _ _ _ _ 35 _ ((Below.heap_alloc w2 _ _ z2).trans g2.out)
          clear hw3 hw3h
          go_wp2
          refine bodyPost_ret (v := .tuple #[.agg Zr_snapshot, .bool false]) ?_ rfl ⟨Zr_snapshot.toList, Zv_snapshot, by rw [HF.out], rz_snapshot' _ _, fun h => absurd h (of_decide_eq_false HF.out), s3⟩
          simp [results, Try.results33, asAddr, run_loadVar_row w3 w.heap.size 35 35 Zr_snapshot (0, 0) _ g3.out Try.underlying35 rfl Zr_snapshot_i]
      · go_wp2_with (first
          | (refine wpList_load_row rfl 35 (.tmp 7) rfl w2.heap.size rfl 35 Zr_snapshot (0, 0) _ (heap_alloc_new w2 (.cells Zr_snapshot 35)) Try.underlying35 rfl Zr_snapshot_i ?_)
          | (refine wpList_store_rowF rfl 35 (.tmp 4) (.tmp 22) rfl w.heap.size Zr_snapshot rfl rfl 35 Zr_snapshot ((Below.heap_alloc w2 (.cells Zr_snapshot 35) _ z2).trans g2.out) Zr_snapshot_i rfl Zr_snapshot_o ?next2))
        case next2 =>
          intro w3 hw3h
          have hw3 := hw3h.out
          have s3 : RS w w3 p := by rw [hw3]; exact (s2.alloc _).setRow (Nat.le_refl _) _
          have g3 : Hid (w3.heap[w.heap.size]? = some (.cells Zr_snapshot 35 (0, 0))) := by
            show _ = _
            rw [hw3]; exact setRow_heap _ _ _ _ 35 _ ((Below.heap_alloc w2 _ _ z2).trans g2.out)
          clear hw3 hw3h
          go_wp2
          refine bodyPost_ret (v := .tuple #[.agg Zr_snapshot, .bool false]) ?_ rfl ⟨Zr_snapshot.toList, Zv_snapshot, by rw [HF.out], rz_snapshot' _ _, fun h => absurd h (of_decide_eq_false HF.out), s3⟩
          simp [results, Try.results33, asAddr, run_loadVar_row w3 w.heap.size 35 35 Zr_snapshot (0, 0) _ g3.out Try.underlying35 rfl Zr_snapshot_i]

set_option maxHeartbeats 800000 in
theorem getv_snapshot (a : Option Addr) (n cap : Nat) (l : List UInt8) (w : World) (hn : n = l.length) (hcap : n ≤ cap) (hbs : Bs w a l) (hbl : ∀ y, a = some y → y.block < w.heap.size) :
    Calls Try.prog 15 #[.slice a n cap] w fun e w' => ∃ (cs : List Value) (v : Vl F_snapshot), e = .returned (.tuple #[.agg cs.toArray, .bool (decide ((de F_snapshot (some l)).2 = some []))]) ∧ Rep w' (NB w w') F_snapshot cs v ∧ ((de F_snapshot (some l)).2 = some [] → v = (de F_snapshot (some l)).1) ∧ Below w.heap.size w w' := by
  have hmf : ∀ (fn : Fn) (first cap : Array Value) (w : World), (Instr.makeFunc fn first cap).run Try.prog w = .ok (.func fn first cap) w := fun _ _ _ _ => rfl
  subst hn
  have g0 : Hid ((w.alloc (.cells Zr_snapshot 35)).heap[w.heap.size]? = some (.cells Zr_snapshot 35 (0, 0))) := heap_alloc_new w _
  have h0 : RG w.heap.size ((w.alloc (.cells Zr_snapshot 35)).alloc (.cells #[.slice a l.length cap, .bool false] 93)) (w.heap.size + 1) (some l) := rg_new _ a cap l _ _ (by rw [World.size_alloc]) (by rw [World.size_alloc]; omega) hcap (hbs.alloc _) hbl
  clear hbs hbl
  go_enter Try.func15, Try.ntmps15
  go_wp2_with fail
  refine (wholev_snapshot (w.heap.size + 1) (some l) _ h0).mono ?_
  rintro e w1 ⟨cl, vv, he, hrep, hval, s1⟩
  have hcs : cl.toArray.size = Zr_snapshot.size := by rw [List.size_toArray, hrep.len]; kernel_rfl
  have hco : cl.toArray.all (·.oneCell') = true := hrep.all
  have HRE : Hid (Rep w1 (fun b => w.heap.size < b ∧ b < w1.heap.size) F_snapshot cl vv) := hrep.kept (Nat.le_refl _) (fun _ _ => rfl) (fun b hb => ⟨by have := hb.1; rw [World.size_alloc, World.size_alloc] at this; omega, hb.2⟩)
  have HVAL : Hid _ := hval
  obtain ⟨cs, hcl⟩ : ∃ cs, Hid (cl.toArray = cs) := ⟨_, rfl⟩
  rw [hcl.out] at he hcs hco
  subst he
  have hB : Below w.heap.size w w1 :=
    Below.trans (((Below.refl _ _).alloc (Nat.le_refl _) (.cells Zr_snapshot 35)).alloc (by rw [World.size_alloc]; omega) _) ⟨s1.os, s1.tape, s1.output, s1.size, fun k hk => s1.block k (by simp; omega) (by omega)⟩
  have g1 : Hid (w1.heap[w.heap.size]? = some (.cells Zr_snapshot 35 (0, 0))) := by
    show _ = _
    rw [s1.block _ (by simp; omega) (by omega), Below.heap_alloc _ _ _ (by rw [World.size_alloc]; omega)]; exact g0.out
  have HCS : Hid (cs.size = Zr_snapshot.size) := hcs
  have HCO : Hid (cs.all (·.oneCell') = true) := hco
  have HCI : Hid ((Try.prog.info? 35).map (·.size) = some cs.size) := by show _ = _; rw [hcs]; exact Zr_snapshot_i
  clear s1 g0 h0 hcs hco hrep hval
  obtain ⟨okb, hokb⟩ : ∃ okb, Hid (decide ((de F_snapshot (some l)).2 = some []) = okb) := ⟨_, rfl⟩
  rw [hokb.out]
  go_wp2_with (refine wpList_store_rowF rfl 35 (.tmp 2) (.tmp 12) rfl w.heap.size cs rfl rfl 35 _ g1.out HCI.out HCS.out.symm HCO.out ?next)
  case next =>
    intro w2 hw2h
    have hw2 := hw2h.out
    have g2 : Hid (w2.heap[w.heap.size]? = some (.cells cs 35 (0, 0))) := by
      show _ = _
      rw [hw2]; exact setRow_heap _ _ _ _ 35 _ g1.out
    have hB2 : Below w.heap.size w w2 := by
      rw [hw2]; exact hB.trans ⟨rfl, rfl, rfl, by simp [World.setRow], fun k hk => setRow_other _ _ _ _ (by omega)⟩
    have HRE3 : Hid (Rep w2 (NB w w2) F_snapshot cl vv) := by
      rw [hw2]
      exact HRE.out.kept (by simp [World.setRow]) (fun b hb => setRow_other _ _ _ _ (by have := hb.1; omega)) (fun b hb => ⟨Nat.le_of_lt hb.1, by simpa [World.setRow] using hb.2⟩)
    clear hw2 hw2h
    go_wp2
    refine bodyPost_ret (v := .tuple #[.agg cs, .bool okb]) ?_ rfl ⟨cl, vv, by rw [hokb.out, hcl.out], HRE3.out, HVAL.out, hB2⟩
    simp [results, Try.results15, asAddr, run_loadVar_row w2 w.heap.size 35 35 cs (0, 0) _ g2.out Try.underlying35 rfl HCI.out]

end Go.Proofs.Ytpbokgeaolpiaab
