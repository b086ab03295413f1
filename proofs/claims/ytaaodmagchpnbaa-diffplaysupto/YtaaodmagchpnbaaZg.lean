/- The document's example is as it should be. -/
import Derived.Test.YtaaodmagchpnbaaZf
namespace Go.Proofs.Ytaaodmagchpnbaa
open Go.RowKit Go.Shelf
theorem fl_row {α : Type} {cs : α → List Value} {k y : Nat} (hk : ∀ x, (cs x).length = k) {w : World} {b : Nat} {t : TypeId} {L : List α} (h : w.heap[b]? = some (.cells (fl cs L).toArray t (0, 0))) (hb : L.length * y ≤ 140737488355328) : Fl w (fun b => b < w.heap.size) k y cs (some ⟨b, 0, none⟩) L :=
  ⟨hb, fun _ => ⟨b, 0, rfl, heap_lt h, fun i hi => fl_range hk (fun j v hj => by rw [cell_of_row w b _ _ t (0, 0) h]; simpa using hj) i hi⟩⟩
theorem own_one {α : Type} {cs : α → List Value} {k : Nat} (hk : ∀ x, (cs x).length = k) {w : World} {lo : Nat} {e : TypeId} {a : Option Addr} {c : Nat} {x : α} (h : w.ownsRow lo e k (.slice a 1 c) 1 (fl cs [x])) : ∃ g, a = some ⟨g, 0, none⟩ ∧ g < w.heap.size ∧ w.rangeAt g 0 (cs x) := by
  rcases h.2 with ⟨_, hn⟩ | ⟨g, cap, cur, hv, hl, hg, rest⟩
  · omega
  · have e1 := (Value.slice.inj hv).1
    refine ⟨g, e1, heap_lt hg, ?_⟩
    obtain ⟨b, off, e2, _, h3⟩ := (own_fl (y := 1) (L := [x]) hk h (by simp)).at 0 (by simp)
    rw [e1] at e2
    cases e2
    simpa using h3
theorem Al.cs_len (x : Al) : x.cs.length = 11 := rfl
theorem Gp.cs_len (x : Gp) : x.cs.length = 3 := rfl
theorem Js.cs_len (x : Js) : x.cs.length = 7 := rfl
def kJ : List Jb := [⟨1, 1, 0, 1, [⟨2, 0, 0⟩], 2, false⟩]
def kA (st : Int) : List Al := [⟨5, 1, 1, 0, 0, 0, 0, 0, 0, false, st⟩, ⟨6, 1, 1, 0, 1, 0, 0, 0, 0, false, 2⟩]
structure KnR (w : World) (bj bg ba : Nat) (st : Int) : Prop where
  hj : w.heap[bj]? = some (.cells #[.int .i64 1, .int .i64 1, .int .i64 0, .int .i64 1, .slice (some ⟨bg, 0, none⟩) 1 1, .int .i64 2, .bool false] 51 (0, 0))
  hg : w.heap[bg]? = some (.cells #[.int .i64 2, .int .i64 0, .int .i64 0] 71 (0, 0))
  ha : w.heap[ba]? = some (.cells #[.int .i64 5, .int .i64 1, .int .i64 1, .int .i64 0, .int .i64 0, .int .i64 0, .int .i64 0, .int .i64 0, .int .i64 0, .bool false, .int .i64 st, .int .i64 6, .int .i64 1, .int .i64 1, .int .i64 0, .int .i64 1, .int .i64 0, .int .i64 0, .int .i64 0, .int .i64 0, .bool false, .int .i64 2] 47 (0, 0))
theorem KnR.up {w w' : World} {bj bg ba : Nat} {st : Int} (h : KnR w bj bg ba st) (hb : Below w.heap.size w w') : KnR w' bj bg ba st := ⟨(hb.block _ (heap_lt h.hj)).trans h.hj, (hb.block _ (heap_lt h.hg)).trans h.hg, (hb.block _ (heap_lt h.ha)).trans h.ha⟩
theorem KnR.a {w : World} {bj bg ba : Nat} {st : Int} (h : KnR w bj bg ba st) : Fl w (fun b => b < w.heap.size) 11 88 Al.cs (some ⟨ba, 0, none⟩) (kA st) := fl_row (t := 47) Al.cs_len (L := kA st) h.ha (by simp [kA])
theorem KnR.j {w : World} {bj bg ba : Nat} {st : Int} (h : KnR w bj bg ba st) : JbR w (fun b => b < w.heap.size) (some ⟨bj, 0, none⟩) [kJ.head!.sh (some ⟨bg, 0, none⟩) 1] kJ :=
  ⟨rfl, fl_row (t := 51) Js.cs_len (L := [kJ.head!.sh (some ⟨bg, 0, none⟩) 1]) h.hj (by simp), fun i h1 h2 => by
    have : i = 0 := by simp at h1; exact h1
    subst this
    exact ⟨some ⟨bg, 0, none⟩, 1, rfl, fl_row (t := 71) Gp.cs_len (L := [⟨2, 0, 0⟩]) h.hg (by simp)⟩⟩
theorem kd1S : dfS kJ [] (kA 2) 1 = [5] := by decide
theorem kd1F : dfF kJ [] (kA 2) 1 = [] := by decide
theorem kd1 (w : World) (bj bg ba : Nat) (h : KnR w bj bg ba 2) : Calls Try.prog 9 #[.agg #[.int .i64 0, .int .i64 0, .slice (some ⟨bj, 0, none⟩) 1 1, .slice none 0 0, .slice none 0 0, .slice (some ⟨ba, 0, none⟩) 2 2, .slice none 0 0, .slice none 0 0, .slice none 0 0], .int .i64 1] w fun e w' => ∃ a c b k, e = .returned (.tuple #[.slice (some ⟨a, 0, none⟩) 1 c, .slice b 0 k]) ∧ w'.cell? ⟨a, 0, none⟩ = some (.int .i64 5) ∧ a < w'.heap.size ∧ Below w.heap.size w w' := by
  have hc := diff_any ⟨0, 0, some ⟨bj, 0, none⟩, 1, 1, none, 0, 0, none, 0, 0, some ⟨ba, 0, none⟩, 2, 2, none, 0, 0, none, 0, 0, none, 0, 0⟩ 1 [kJ.head!.sh (some ⟨bg, 0, none⟩) 1] kJ [] (kA 2) w rfl rfl rfl h.j (Fl.nil _ _ _ _ _ _) h.a (by decide)
  rw [kd1S, kd1F] at hc
  refine hc.mono ?_
  rintro e w' ⟨a, c, b, k, rfl, h1, h2, hb⟩
  obtain ⟨a2, rfl, lt1, hc1⟩ := own_one iC_len h1

  exact ⟨a2, c, b, k, rfl, hc1 0 _ rfl, lt1, hb⟩
theorem kd2S : dfS kJ [] (kA 5) 1 = [] := by decide
theorem kd2F : dfF kJ [] (kA 5) 1 = [(0, 0)] := by decide
theorem kd2 (w : World) (bj bg ba : Nat) (h : KnR w bj bg ba 5) : Calls Try.prog 9 #[.agg #[.int .i64 0, .int .i64 0, .slice (some ⟨bj, 0, none⟩) 1 1, .slice none 0 0, .slice none 0 0, .slice (some ⟨ba, 0, none⟩) 2 2, .slice none 0 0, .slice none 0 0, .slice none 0 0], .int .i64 1] w fun e w' => ∃ a c b k, e = .returned (.tuple #[.slice a 0 c, .slice (some ⟨b, 0, none⟩) 1 k]) ∧ w'.rangeAt b 0 [.int .i64 0, .int .i64 0] ∧ b < w'.heap.size ∧ Below w.heap.size w w' := by
  have hc := diff_any ⟨0, 0, some ⟨bj, 0, none⟩, 1, 1, none, 0, 0, none, 0, 0, some ⟨ba, 0, none⟩, 2, 2, none, 0, 0, none, 0, 0, none, 0, 0⟩ 1 [kJ.head!.sh (some ⟨bg, 0, none⟩) 1] kJ [] (kA 5) w rfl rfl rfl h.j (Fl.nil _ _ _ _ _ _) h.a (by decide)
  rw [kd2S, kd2F] at hc
  refine hc.mono ?_
  rintro e w' ⟨a, c, b, k, rfl, h1, h2, hb⟩

  obtain ⟨b2, rfl, lt2, hc2⟩ := own_one sC_len h2
  exact ⟨a, c, b2, k, rfl, hc2, lt2, hb⟩
set_option maxRecDepth 100000 in
set_option maxHeartbeats 4000000 in
theorem known_any (w : World) : Calls Try.prog 26 #[] w fun e w' => ∃ bj bg ba, e = .returned (.agg #[.int .i64 0, .int .i64 0, .slice (some ⟨bj, 0, none⟩) 1 1, .slice none 0 0, .slice none 0 0, .slice (some ⟨ba, 0, none⟩) 2 2, .slice none 0 0, .slice none 0 0, .slice none 0 0]) ∧ KnR w' bj bg ba 2 ∧ Below w.heap.size w w' ∧ w.heap.size ≤ ba := by
  go_enter Try.func26, Try.ntmps26
  go_wp2
  have hb : Below w.heap.size w ((((((w.alloc (.cells #[.int .i64 0, .int .i64 0, .slice (some ⟨w.heap.size + 1 + 1 + 1 + 1, 0, none⟩) 1 1, .slice none 0 0, .slice none 0 0, .slice (some ⟨w.heap.size + 1 + 1 + 1 + 1 + 1, 0, none⟩) 2 2, .slice none 0 0, .slice none 0 0, .slice none 0 0] 29)).alloc (.cells #[.int .i64 5, .int .i64 1, .int .i64 1, .int .i64 0, .int .i64 0, .int .i64 0, .int .i64 0, .int .i64 0, .int .i64 0, .bool false, .int .i64 2] 47)).alloc (.cells #[.int .i64 6, .int .i64 1, .int .i64 1, .int .i64 0, .int .i64 1, .int .i64 0, .int .i64 0, .int .i64 0, .int .i64 0, .bool false, .int .i64 2] 47)).alloc (.cells #[.int .i64 2, .int .i64 0, .int .i64 0] 71)).alloc (.cells #[.int .i64 1, .int .i64 1, .int .i64 0, .int .i64 1, .slice (some ⟨w.heap.size + 1 + 1 + 1, 0, none⟩) 1 1, .int .i64 2, .bool false] 51)).alloc (.cells #[.int .i64 5, .int .i64 1, .int .i64 1, .int .i64 0, .int .i64 0, .int .i64 0, .int .i64 0, .int .i64 0, .int .i64 0, .bool false, .int .i64 2, .int .i64 6, .int .i64 1, .int .i64 1, .int .i64 0, .int .i64 1, .int .i64 0, .int .i64 0, .int .i64 0, .int .i64 0, .bool false, .int .i64 2] 47)) := ((((below2 w _ _).alloc (by simp; omega) _).alloc (by simp; omega) _).alloc (by simp; omega) _).alloc (by simp; omega) _
  obtain ⟨x0, x1, x2, x3⟩ := six w (.cells #[.int .i64 0, .int .i64 0, .slice (some ⟨w.heap.size + 1 + 1 + 1 + 1, 0, none⟩) 1 1, .slice none 0 0, .slice none 0 0, .slice (some ⟨w.heap.size + 1 + 1 + 1 + 1 + 1, 0, none⟩) 2 2, .slice none 0 0, .slice none 0 0, .slice none 0 0] 29) (.cells #[.int .i64 5, .int .i64 1, .int .i64 1, .int .i64 0, .int .i64 0, .int .i64 0, .int .i64 0, .int .i64 0, .int .i64 0, .bool false, .int .i64 2] 47) (.cells #[.int .i64 6, .int .i64 1, .int .i64 1, .int .i64 0, .int .i64 1, .int .i64 0, .int .i64 0, .int .i64 0, .int .i64 0, .bool false, .int .i64 2] 47) (.cells #[.int .i64 2, .int .i64 0, .int .i64 0] 71) (.cells #[.int .i64 1, .int .i64 1, .int .i64 0, .int .i64 1, .slice (some ⟨w.heap.size + 1 + 1 + 1, 0, none⟩) 1 1, .int .i64 2, .bool false] 51) (.cells #[.int .i64 5, .int .i64 1, .int .i64 1, .int .i64 0, .int .i64 0, .int .i64 0, .int .i64 0, .int .i64 0, .int .i64 0, .bool false, .int .i64 2, .int .i64 6, .int .i64 1, .int .i64 1, .int .i64 0, .int .i64 1, .int .i64 0, .int .i64 0, .int .i64 0, .int .i64 0, .bool false, .int .i64 2] 47)
  refine bodyPost_ret (results_cell_row Try.results26 _ _ w.heap.size 29 #[.int .i64 0, .int .i64 0, .slice (some ⟨w.heap.size + 1 + 1 + 1 + 1, 0, none⟩) 1 1, .slice none 0 0, .slice none 0 0, .slice (some ⟨w.heap.size + 1 + 1 + 1 + 1 + 1, 0, none⟩) 2 2, .slice none 0 0, .slice none 0 0, .slice none 0 0] (0, 0) _ rfl x0 Try.underlying29 rfl (by kernel_rfl)) rfl ⟨_, w.heap.size + 1 + 1 + 1, _, rfl, ⟨x2, x1, x3⟩, hb, by omega⟩
def EQ39 : Prop := ∀ (w : World), (Op.equal 39 (.agg #[.int .i64 0, .int .i64 0]) (.agg #[.int .i64 0, .int .i64 0])).run Try.prog w = .ok true w
set_option maxRecDepth 100000 in
set_option maxHeartbeats 8000000 in
theorem lives_any (w : World) : Calls Try.prog 12 #[] w fun e w' => e = .returned (.bool true) ∧ Below w.heap.size w w' := by
  have heq := fun w => eq39 0 0 0 0 w
  rw [decide_eq_true (show ((0 : Int), (0 : Int)) = (0, 0) from rfl)] at heq
  have HKN := hidOf (known_any w)
  go_enter Try.func12, Try.ntmps12
  go_upto_region 2 with (go_at_call 26; refine HKN.out.mono ?_; rintro e w1 ⟨bj, bg, ba, rfl, hk, hb, hba⟩; have HK := hidOf hk; have HB := hidOf hb; have HBA := hidOf hba; clear hk hb hba)
  obtain ⟨B, hB⟩ : ∃ B, w1.heap.size = B := ⟨_, rfl⟩
  obtain ⟨W1, hW1⟩ : ∃ W1, w1.alloc (.cells #[.int .i64 0, .int .i64 0, .slice (some ⟨bj, 0, none⟩) 1 1, .slice none 0 0, .slice none 0 0, .slice (some ⟨ba, 0, none⟩) 2 2, .slice none 0 0, .slice none 0 0, .slice none 0 0] 29) = W1 := ⟨_, rfl⟩
  have HB1 : Hid (Below w.heap.size w W1) := hidOf (by rw [← hW1]; exact HB.out.trans ((below1 w1 _).mono HB.out.size))
  have HK1 : Hid (KnR W1 bj bg ba 2) := hidOf (by rw [← hW1]; exact HK.out.up (below1 w1 _))
  have HS1 : Hid (W1.rangeAt B 0 [.int .i64 0, .int .i64 0, .slice (some ⟨bj, 0, none⟩) 1 1, .slice none 0 0, .slice none 0 0, .slice (some ⟨ba, 0, none⟩) 2 2, .slice none 0 0, .slice none 0 0, .slice none 0 0]) := hidOf (by rw [← hW1, ← hB]; exact box_new (wr := w1) (cs := [.int .i64 0, .int .i64 0, .slice (some ⟨bj, 0, none⟩) 1 1, .slice none 0 0, .slice none 0 0, .slice (some ⟨ba, 0, none⟩) 2 2, .slice none 0 0, .slice none 0 0, .slice none 0 0]) (t := 29) (Below.refl _ _))
  have hBw : w.heap.size ≤ B := by rw [← hB]; exact HB.out.size
  have hBba : B ≠ ba := by rw [← hB]; have := heap_lt HK.out.ha; omega
  rw [hW1, hB]
  clear hW1 hB HK HB HKN
  have s0 : W1.cell? ⟨B, 0, none⟩ = some (.int .i64 0) := HS1.out 0 _ rfl
  have s1 : W1.cell? ⟨B, 1, none⟩ = some (.int .i64 0) := HS1.out 1 _ rfl
  have s2 : W1.cell? ⟨B, 2, none⟩ = some (.slice (some ⟨bj, 0, none⟩) 1 1) := HS1.out 2 _ rfl
  have s3 : W1.cell? ⟨B, 3, none⟩ = some (.slice none 0 0) := HS1.out 3 _ rfl
  have s4 : W1.cell? ⟨B, 4, none⟩ = some (.slice none 0 0) := HS1.out 4 _ rfl
  have s5 : W1.cell? ⟨B, 5, none⟩ = some (.slice (some ⟨ba, 0, none⟩) 2 2) := HS1.out 5 _ rfl
  have s6 : W1.cell? ⟨B, 6, none⟩ = some (.slice none 0 0) := HS1.out 6 _ rfl
  have s7 : W1.cell? ⟨B, 7, none⟩ = some (.slice none 0 0) := HS1.out 7 _ rfl
  have s8 : W1.cell? ⟨B, 8, none⟩ = some (.slice none 0 0) := HS1.out 8 _ rfl
  have l0 : B < W1.heap.size := lt_of_cell s0
  have HD1 := hidOf (kd1 W1 bj bg ba HK1.out)
  go_upto_region 4 with (go_at_call 9; refine HD1.out.mono ?_; rintro e w2 ⟨a, c, b, k, rfl, ca, la, hb2⟩; have HB2 := hidOf hb2; clear hb2)
  have HK2 := hidOf (HK1.out.up HB2.out)
  have HS2 := hidOf (range_of HS1.out (HB2.out.block B l0))
  clear l0 s0 s1 s2 s3 s4 s5 s6 s7 s8
  have s0 : w2.cell? ⟨B, 0, none⟩ = some (.int .i64 0) := HS2.out 0 _ rfl
  have s1 : w2.cell? ⟨B, 1, none⟩ = some (.int .i64 0) := HS2.out 1 _ rfl
  have s2 : w2.cell? ⟨B, 2, none⟩ = some (.slice (some ⟨bj, 0, none⟩) 1 1) := HS2.out 2 _ rfl
  have s3 : w2.cell? ⟨B, 3, none⟩ = some (.slice none 0 0) := HS2.out 3 _ rfl
  have s4 : w2.cell? ⟨B, 4, none⟩ = some (.slice none 0 0) := HS2.out 4 _ rfl
  have s5 : w2.cell? ⟨B, 5, none⟩ = some (.slice (some ⟨ba, 0, none⟩) 2 2) := HS2.out 5 _ rfl
  have s6 : w2.cell? ⟨B, 6, none⟩ = some (.slice none 0 0) := HS2.out 6 _ rfl
  have s7 : w2.cell? ⟨B, 7, none⟩ = some (.slice none 0 0) := HS2.out 7 _ rfl
  have s8 : w2.cell? ⟨B, 8, none⟩ = some (.slice none 0 0) := HS2.out 8 _ rfl
  have l0 : B < w2.heap.size := lt_of_cell s0
  have ha10 : w2.cell? ⟨ba, 10, none⟩ = some (.int .i64 2) := (cell_of_row w2 ba 10 _ 47 (0, 0) HK2.out.ha).trans rfl
  have hf10 := frozen_of_row w2 ba 10 _ 47 HK2.out.ha
  have lba : ba < w2.heap.size := heap_lt HK2.out.ha
  go_upto_region 5 with (fail)
  obtain ⟨w3, hw3⟩ : ∃ w3, w2.setCell ⟨ba, 10, none⟩ (.int .i64 5) = w3 := ⟨_, rfl⟩
  have hoth : ∀ k, k ≠ ba → w3.heap[k]? = w2.heap[k]? := fun k hk => by rw [← hw3]; exact heap_setCell_other w2 ⟨ba, 10, none⟩ k _ hk
  have HK3 : Hid (KnR w3 bj bg ba 5) := hidOf ⟨(hoth bj (fun e => by have h1 := HK2.out.hj; rw [e, HK2.out.ha] at h1; cases h1)).trans HK2.out.hj, (hoth bg (fun e => by have h1 := HK2.out.hg; rw [e, HK2.out.ha] at h1; cases h1)).trans HK2.out.hg, by rw [← hw3, heap_setCell_same w2 ba 10 _ 47 _ HK2.out.ha]; rfl⟩
  have HS3 := hidOf (range_of HS2.out (hoth B hBba))
  have HB3 : Hid (Below w.heap.size w w3) := hidOf (by rw [← hw3]; exact (HB1.out.trans (HB2.out.mono HB1.out.size)).setCell (p := ⟨ba, 10, none⟩) (by exact HBA.out) _)
  rw [hw3]
  clear hw3 hoth l0 s0 s1 s2 s3 s4 s5 s6 s7 s8 ca la ha10 hf10 lba
  have s0 : w3.cell? ⟨B, 0, none⟩ = some (.int .i64 0) := HS3.out 0 _ rfl
  have s1 : w3.cell? ⟨B, 1, none⟩ = some (.int .i64 0) := HS3.out 1 _ rfl
  have s2 : w3.cell? ⟨B, 2, none⟩ = some (.slice (some ⟨bj, 0, none⟩) 1 1) := HS3.out 2 _ rfl
  have s3 : w3.cell? ⟨B, 3, none⟩ = some (.slice none 0 0) := HS3.out 3 _ rfl
  have s4 : w3.cell? ⟨B, 4, none⟩ = some (.slice none 0 0) := HS3.out 4 _ rfl
  have s5 : w3.cell? ⟨B, 5, none⟩ = some (.slice (some ⟨ba, 0, none⟩) 2 2) := HS3.out 5 _ rfl
  have s6 : w3.cell? ⟨B, 6, none⟩ = some (.slice none 0 0) := HS3.out 6 _ rfl
  have s7 : w3.cell? ⟨B, 7, none⟩ = some (.slice none 0 0) := HS3.out 7 _ rfl
  have s8 : w3.cell? ⟨B, 8, none⟩ = some (.slice none 0 0) := HS3.out 8 _ rfl
  have l0 : B < w3.heap.size := lt_of_cell s0
  have HD3 := hidOf (kd2 w3 bj bg ba HK3.out)
  go_wp2_with (go_at_call 9; refine HD3.out.mono ?_; rintro e w4 ⟨a4, c4, b4, k4, rfl, hr4, lb4, hb4⟩; have HB4 := hidOf hb4; have z0 : w4.cell? ⟨b4, 0, none⟩ = some (.int .i64 0) := hr4 0 _ rfl; have z1 : w4.cell? ⟨b4, 1, none⟩ = some (.int .i64 0) := hr4 1 _ rfl; clear hb4 hr4)
  go_ret
  exact ⟨rfl, HB3.out.trans (HB4.out.mono HB3.out.size)⟩
end Go.Proofs.Ytaaodmagchpnbaa
