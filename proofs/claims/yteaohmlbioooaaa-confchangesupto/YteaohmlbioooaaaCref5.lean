/- The document's Single, Add, Promote, Remove; the code's, told alike. -/
import Derived.Test.YteaohmlbioooaaaCput
import Derived.Test.YteaohmlbioooaaaCref4
import Derived.Deep.RegionHeld3
namespace Go.Proofs.Yteaohmlbioooaaa
open Go.RowKit

theorem Row.ints {w : World} {D : Nat} {a : Option Addr} {n cap : Nat} {l : List Int} (h : Row w D (.slice a n cap) l) : Ints w a l := by
  obtain ⟨a', cap', e, hi, _, _, _⟩ := h.slice
  injection e with e1 _ _
  subst e1
  exact hi
/- a list of numbers lies in no block that holds slices -/
theorem Bx.no_int {w : World} {k j : Nat} {p q : Option Addr} {i i' c c' : Nat} {x : Int} (h : Bx w k (.slice p i c) (.slice q i' c')) : w.cell? ⟨k, j, none⟩ ≠ some (.int .i64 x) := by
  rw [cell_of_row w k j _ 24 (0, 0) h]
  match j with
  | 0 => intro e; cases e
  | 1 => intro e; cases e
  | j + 2 => intro e; simp at e
theorem Ints.setOther {z : World} {k : Nat} {p q : Option Addr} {i i' c c' : Nat} {a : Option Addr} {l : List Int} (h : Ints z a l) (hb : Bx z k (.slice p i c) (.slice q i' c')) (u v : Value) : Ints ((z.setCell ⟨k, 0, none⟩ u).setCell ⟨k, 1, none⟩ v) a l := by
  refine ⟨h.len, fun hne => ?_⟩
  obtain ⟨b, off, e, hbl, hc⟩ := h.cells hne
  have h0 := hc 0 (List.length_pos_iff.2 hne)
  have hk : b ≠ k := fun e => by rw [e] at h0; exact hb.no_int h0
  have hh : ((z.setCell ⟨k, 0, none⟩ u).setCell ⟨k, 1, none⟩ v).heap[b]? = z.heap[b]? := by
    rw [Below.heap_setCell _ ⟨k, 1, none⟩ _ b hk, Below.heap_setCell _ ⟨k, 0, none⟩ _ b hk]
  exact ⟨b, off, e, by simp only [World.size_setCell]; exact hbl, fun j hj => (World.cell?_of_block (a := ⟨b, off + j, none⟩) hh).trans (hc j hj)⟩
def addV (V L : List Int) (s : Int) : List Int := if addB V L s then V else []
def addL (V L : List Int) (s : Int) : List Int := if addB V L s then wth L s else []
def addE (V L : List Int) (s : Int) : Int := if addB V L s then 0 else 22
def proV (V L : List Int) (s : Int) : List Int := if proB V L s then wth V s else []
def proL (V L : List Int) (s : Int) : List Int := if proB V L s then wto L s else []
def proE (V L : List Int) (s : Int) : Int := if proB V L s then 0 else 22
def remV (V L : List Int) (s : Int) : List Int := if remB V L s then wto V s else []
def remL (V L : List Int) (s : Int) : List Int := if remB V L s then wto L s else []
def remE (V L : List Int) (s : Int) : Int := if remB V L s then 0 else 22
theorem add_ch (w : World) (av al : Option Addr) (V L : List Int) (cv cl : Nat) (s : Int) (h : Cf w av al V L) : Calls Try.prog 25 #[.agg #[.slice av V.length cv, .slice al L.length cl], .int .i64 s] w fun e w' => ∃ a1 k1 a2 k2, e = .returned (.tuple #[.agg #[.slice a1 (addV V L s).length k1, .slice a2 (addL V L s).length k2], .int .i64 (addE V L s)]) ∧ Ints w' a1 (addV V L s) ∧ Ints w' a2 (addL V L s) ∧ Below w.heap.size w w' := by
  cases hb : addB V L s with
  | false =>
    have e1 : addV V L s = [] := by unfold addV; rw [hb]; rfl
    have e2 : addL V L s = [] := by unfold addL; rw [hb]; rfl
    have e3 : addE V L s = 22 := by unfold addE; rw [hb]; rfl
    rw [e1, e2, e3]
    exact (add_no w av al V L cv cl s h hb).mono fun e w' ⟨h1, h2⟩ => ⟨none, 0, none, 0, h1, Ints.nil _ _, Ints.nil _ _, h2⟩
  | true =>
    have e1 : addV V L s = V := by unfold addV; rw [hb]; rfl
    have e2 : addL V L s = wth L s := by unfold addL; rw [hb]; rfl
    have e3 : addE V L s = 0 := by unfold addE; rw [hb]; rfl
    rw [e1, e2, e3]
    exact (add_yes w av al V L cv cl s h hb).mono fun e w' ⟨a1, k1, a2, k2, h1, r1, r2, h2⟩ => ⟨a1, k1, a2, k2, h1, r1.ints, r2.ints, h2⟩
theorem promote_ch (w : World) (av al : Option Addr) (V L : List Int) (cv cl : Nat) (s : Int) (h : Cf w av al V L) : Calls Try.prog 27 #[.agg #[.slice av V.length cv, .slice al L.length cl], .int .i64 s] w fun e w' => ∃ a1 k1 a2 k2, e = .returned (.tuple #[.agg #[.slice a1 (proV V L s).length k1, .slice a2 (proL V L s).length k2], .int .i64 (proE V L s)]) ∧ Ints w' a1 (proV V L s) ∧ Ints w' a2 (proL V L s) ∧ Below w.heap.size w w' := by
  cases hb : proB V L s with
  | false =>
    have e1 : proV V L s = [] := by unfold proV; rw [hb]; rfl
    have e2 : proL V L s = [] := by unfold proL; rw [hb]; rfl
    have e3 : proE V L s = 22 := by unfold proE; rw [hb]; rfl
    rw [e1, e2, e3]
    exact (promote_no w av al V L cv cl s h hb).mono fun e w' ⟨h1, h2⟩ => ⟨none, 0, none, 0, h1, Ints.nil _ _, Ints.nil _ _, h2⟩
  | true =>
    have e1 : proV V L s = wth V s := by unfold proV; rw [hb]; rfl
    have e2 : proL V L s = wto L s := by unfold proL; rw [hb]; rfl
    have e3 : proE V L s = 0 := by unfold proE; rw [hb]; rfl
    rw [e1, e2, e3]
    exact (promote_yes w av al V L cv cl s h hb).mono fun e w' ⟨a1, k1, a2, k2, h1, r1, r2, h2⟩ => ⟨a1, k1, a2, k2, h1, r1.ints, r2.ints, h2⟩
theorem remove_ch (w : World) (av al : Option Addr) (V L : List Int) (cv cl : Nat) (s : Int) (h : Cf w av al V L) : Calls Try.prog 29 #[.agg #[.slice av V.length cv, .slice al L.length cl], .int .i64 s] w fun e w' => ∃ a1 k1 a2 k2, e = .returned (.tuple #[.agg #[.slice a1 (remV V L s).length k1, .slice a2 (remL V L s).length k2], .int .i64 (remE V L s)]) ∧ Ints w' a1 (remV V L s) ∧ Ints w' a2 (remL V L s) ∧ Below w.heap.size w w' := by
  cases hb : remB V L s with
  | false =>
    have e1 : remV V L s = [] := by unfold remV; rw [hb]; rfl
    have e2 : remL V L s = [] := by unfold remL; rw [hb]; rfl
    have e3 : remE V L s = 22 := by unfold remE; rw [hb]; rfl
    rw [e1, e2, e3]
    exact (remove_no w av al V L cv cl s h hb).mono fun e w' ⟨h1, h2⟩ => ⟨none, 0, none, 0, h1, Ints.nil _ _, Ints.nil _ _, h2⟩
  | true =>
    have e1 : remV V L s = wto V s := by unfold remV; rw [hb]; rfl
    have e2 : remL V L s = wto L s := by unfold remL; rw [hb]; rfl
    have e3 : remE V L s = 0 := by unfold remE; rw [hb]; rfl
    rw [e1, e2, e3]
    exact (remove_yes w av al V L cv cl s h hb).mono fun e w' ⟨a1, k1, a2, k2, h1, r1, r2, h2⟩ => ⟨a1, k1, a2, k2, h1, r1.ints, r2.ints, h2⟩

theorem mem_contains (V L : List Int) (s : Int) : (mem V L).contains s = (V.contains s || L.contains s) := by
  rw [Bool.eq_iff_iff, contains_eq, mem_iff, Bool.or_eq_true, contains_eq, contains_eq]
theorem put_wth {l r : List Int} {s : Int} (h : Rise l) (h1 : 1 ≤ s) (h5 : s ≤ 5) (hs : s ∉ l) (hp : Put l s r) : r = wth l s :=
  ext_lt hp.lt (h.wth h1 h5 hs).1 (fun x => by rw [hp.mem, wth_mem])
set_option maxHeartbeats 4000000 in
theorem radd_no (w : World) (av al : Option Addr) (V L : List Int) (cv cl : Nat) (s : Int) (h : Cf w av al V L) (HLN : Hid (V.length + L.length ≤ 17592186044416)) (hn : addB V L s = false) : Calls Try.prog 26 #[.agg #[.slice av V.length cv, .slice al L.length cl], .int .i64 s] w fun e w' => ∃ a1 k1 a2 k2, e = .returned (.tuple #[.agg #[.slice a1 ([] : List Int).length k1, .slice a2 ([] : List Int).length k2], .int .i64 22]) ∧ Ints w' a1 ([] : List Int) ∧ Ints w' a2 ([] : List Int) ∧ Below w.heap.size w w' := by
  have H0 := hidOf (Ch.begin cv cl h)
  have hm := rmay_any _ av al V L cv cl H0.out.cs.cf
  clear h
  unfold addB at hn
  obtain ⟨m, hmm⟩ : ∃ m, m = mayB V L := ⟨_, rfl⟩
  obtain ⟨i, hii⟩ : ∃ i, i = (mem V L).contains s := ⟨_, rfl⟩
  have hie : i = (V.contains s || L.contains s) := by rw [hii, mem_contains]
  rw [← hmm] at hm hn
  have HE := hidOf hii.symm
  have HM := hidOf hm
  have hcase : m = false ∨ s < 1 ∨ 5 < s ∨ i = true := by
    cases m with
    | false => exact Or.inl rfl
    | true =>
      by_cases h1 : s < 1
      · exact Or.inr (Or.inl h1)
      · by_cases h5 : 5 < s
        · exact Or.inr (Or.inr (Or.inl h5))
        · rw [decide_eq_true (show 1 ≤ s by omega), decide_eq_true (show s ≤ 5 by omega)] at hn
          refine Or.inr (Or.inr (Or.inr ?_))
          rw [hie]
          cases e1 : V.contains s <;> cases e2 : L.contains s <;> simp_all
  clear hm hn hmm hii hie
  by_cases h0 : m = false
  · subst h0
    go_enter Try.func26, Try.ntmps26
    go_wp2_with (first
      | (go_at_call 13; refine HM.out.mono ?_; rintro e w1 ⟨rfl, hb⟩; have H1 := hidOf (H0.out.grow hb); clear hb HM; have c0 := H1.out.cs.bx.c0; have c1 := H1.out.cs.bx.c1; have lt0 := H1.out.cs.bx.lt)
      | (go_at_call 11; refine (rmembers_any w1 av al V L cv cl H1.out.cs.cf HLN.out).mono ?_; rintro e w2 ⟨ma, mk, rfl, hi, hb⟩; have H2 := hidOf (H1.out.grow hb); have HIM := hidOf hi; clear hb hi c0 c1 lt0)
      | (go_at_call 17; have hin := in_any w2 ma (mem V L) mk s HIM.out; rw [HE.out] at hin; refine hin.mono ?_; clear hin; rintro e zz ⟨rfl, hw⟩; subst zz; have l2 : w.heap.size + 1 < w2.heap.size := H2.out.rs.lt; have f2 : ∀ j, w2.frozen? ⟨w.heap.size + 1, j, none⟩ = false := H2.out.rs.fr; have r0 : w2.cell? ⟨w.heap.size + 1, 0, none⟩ = _ := H2.out.rs.c0; have r1 : w2.cell? ⟨w.heap.size + 1, 1, none⟩ = _ := H2.out.rs.c1; have c0 := H2.out.cs.bx.c0; have c1 := H2.out.cs.bx.c1; have lt0 := H2.out.cs.bx.lt))
    exact bodyPost_ret (results_bx Try.results26 _ _ (w.heap.size + 1) (.slice none 0 0) (.slice none 0 0) (.int .i64 22) rfl rfl (H2.out.rs.set _ _)) rfl ⟨none, 0, none, 0, rfl, Ints.nil _ _, Ints.nil _ _, H2.out.set _ _⟩
  · have hm1 : m = true := by cases m <;> simp_all
    subst hm1
    clear h0
    by_cases h1 : s < 1
    · clear hcase
      go_enter Try.func26, Try.ntmps26
      go_wp2_with (first
        | (go_at_call 13; refine HM.out.mono ?_; rintro e w1 ⟨rfl, hb⟩; have H1 := hidOf (H0.out.grow hb); clear hb HM; have c0 := H1.out.cs.bx.c0; have c1 := H1.out.cs.bx.c1; have lt0 := H1.out.cs.bx.lt)
        | (go_at_call 11; refine (rmembers_any w1 av al V L cv cl H1.out.cs.cf HLN.out).mono ?_; rintro e w2 ⟨ma, mk, rfl, hi, hb⟩; have H2 := hidOf (H1.out.grow hb); have HIM := hidOf hi; clear hb hi c0 c1 lt0)
        | (go_at_call 17; have hin := in_any w2 ma (mem V L) mk s HIM.out; rw [HE.out] at hin; refine hin.mono ?_; clear hin; rintro e zz ⟨rfl, hw⟩; subst zz; have l2 : w.heap.size + 1 < w2.heap.size := H2.out.rs.lt; have f2 : ∀ j, w2.frozen? ⟨w.heap.size + 1, j, none⟩ = false := H2.out.rs.fr; have r0 : w2.cell? ⟨w.heap.size + 1, 0, none⟩ = _ := H2.out.rs.c0; have r1 : w2.cell? ⟨w.heap.size + 1, 1, none⟩ = _ := H2.out.rs.c1; have c0 := H2.out.cs.bx.c0; have c1 := H2.out.cs.bx.c1; have lt0 := H2.out.cs.bx.lt))
      exact bodyPost_ret (results_bx Try.results26 _ _ (w.heap.size + 1) (.slice none 0 0) (.slice none 0 0) (.int .i64 22) rfl rfl (H2.out.rs.set _ _)) rfl ⟨none, 0, none, 0, rfl, Ints.nil _ _, Ints.nil _ _, H2.out.set _ _⟩
    · by_cases h5 : 5 < s
      · clear hcase
        go_enter Try.func26, Try.ntmps26
        go_wp2_with (first
          | (go_at_call 13; refine HM.out.mono ?_; rintro e w1 ⟨rfl, hb⟩; have H1 := hidOf (H0.out.grow hb); clear hb HM; have c0 := H1.out.cs.bx.c0; have c1 := H1.out.cs.bx.c1; have lt0 := H1.out.cs.bx.lt)
          | (go_at_call 11; refine (rmembers_any w1 av al V L cv cl H1.out.cs.cf HLN.out).mono ?_; rintro e w2 ⟨ma, mk, rfl, hi, hb⟩; have H2 := hidOf (H1.out.grow hb); have HIM := hidOf hi; clear hb hi c0 c1 lt0)
          | (go_at_call 17; have hin := in_any w2 ma (mem V L) mk s HIM.out; rw [HE.out] at hin; refine hin.mono ?_; clear hin; rintro e zz ⟨rfl, hw⟩; subst zz; have l2 : w.heap.size + 1 < w2.heap.size := H2.out.rs.lt; have f2 : ∀ j, w2.frozen? ⟨w.heap.size + 1, j, none⟩ = false := H2.out.rs.fr; have r0 : w2.cell? ⟨w.heap.size + 1, 0, none⟩ = _ := H2.out.rs.c0; have r1 : w2.cell? ⟨w.heap.size + 1, 1, none⟩ = _ := H2.out.rs.c1; have c0 := H2.out.cs.bx.c0; have c1 := H2.out.cs.bx.c1; have lt0 := H2.out.cs.bx.lt))
        exact bodyPost_ret (results_bx Try.results26 _ _ (w.heap.size + 1) (.slice none 0 0) (.slice none 0 0) (.int .i64 22) rfl rfl (H2.out.rs.set _ _)) rfl ⟨none, 0, none, 0, rfl, Ints.nil _ _, Ints.nil _ _, H2.out.set _ _⟩
      · have hi : i = true := by
          rcases hcase with h | h | h | h
          · cases h
          · exact absurd h h1
          · exact absurd h h5
          · exact h
        subst hi
        clear hcase
        go_enter Try.func26, Try.ntmps26
        go_wp2_with (first
          | (go_at_call 13; refine HM.out.mono ?_; rintro e w1 ⟨rfl, hb⟩; have H1 := hidOf (H0.out.grow hb); clear hb HM; have c0 := H1.out.cs.bx.c0; have c1 := H1.out.cs.bx.c1; have lt0 := H1.out.cs.bx.lt)
          | (go_at_call 11; refine (rmembers_any w1 av al V L cv cl H1.out.cs.cf HLN.out).mono ?_; rintro e w2 ⟨ma, mk, rfl, hi, hb⟩; have H2 := hidOf (H1.out.grow hb); have HIM := hidOf hi; clear hb hi c0 c1 lt0)
          | (go_at_call 17; have hin := in_any w2 ma (mem V L) mk s HIM.out; rw [HE.out] at hin; refine hin.mono ?_; clear hin; rintro e zz ⟨rfl, hw⟩; subst zz; have l2 : w.heap.size + 1 < w2.heap.size := H2.out.rs.lt; have f2 : ∀ j, w2.frozen? ⟨w.heap.size + 1, j, none⟩ = false := H2.out.rs.fr; have r0 : w2.cell? ⟨w.heap.size + 1, 0, none⟩ = _ := H2.out.rs.c0; have r1 : w2.cell? ⟨w.heap.size + 1, 1, none⟩ = _ := H2.out.rs.c1; have c0 := H2.out.cs.bx.c0; have c1 := H2.out.cs.bx.c1; have lt0 := H2.out.cs.bx.lt))
        exact bodyPost_ret (results_bx Try.results26 _ _ (w.heap.size + 1) (.slice none 0 0) (.slice none 0 0) (.int .i64 22) rfl rfl (H2.out.rs.set _ _)) rfl ⟨none, 0, none, 0, rfl, Ints.nil _ _, Ints.nil _ _, H2.out.set _ _⟩
set_option maxHeartbeats 4000000 in
theorem radd_yes (w : World) (av al : Option Addr) (V L : List Int) (cv cl : Nat) (s : Int) (h : Cf w av al V L) (HLN : Hid (V.length + L.length ≤ 17592186044416)) (hn : addB V L s = true) : Calls Try.prog 26 #[.agg #[.slice av V.length cv, .slice al L.length cl], .int .i64 s] w fun e w' => ∃ a1 k1 a2 k2, e = .returned (.tuple #[.agg #[.slice a1 V.length k1, .slice a2 (wth L s).length k2], .int .i64 0]) ∧ Ints w' a1 V ∧ Ints w' a2 (wth L s) ∧ Below w.heap.size w w' := by
  have H0 := hidOf (Ch.begin cv cl h)
  have hm := rmay_any _ av al V L cv cl H0.out.cs.cf
  clear h
  unfold addB at hn
  simp only [Bool.and_eq_true, decide_eq_true_eq, Bool.not_eq_true'] at hn
  obtain ⟨e1, h1, h5, e2, e3⟩ := hn
  have hmp := (may_iff V L).1 e1
  have HRL := hidOf hmp.2.2.1
  have HLL : Hid (L.length < 17592186044416) := hidOf (by have := rise_len hmp.2.2.1; omega)
  have HNL := hidOf (contains_no.1 e3)
  have HE : Hid ((mem V L).contains s = false) := hidOf (by rw [mem_contains, e2, e3]; rfl)
  rw [e1] at hm
  have HM := hidOf hm
  have h1' : ¬ s < 1 := by omega
  have h5' : ¬ 5 < s := by omega
  clear hm e1 e2 e3 hmp
  go_enter Try.func26, Try.ntmps26
  go_wp2_with (first
    | (go_at_call 13; refine HM.out.mono ?_; rintro e w1 ⟨rfl, hb⟩; have H1 := hidOf (H0.out.grow hb); clear hb HM; have c0 := H1.out.cs.bx.c0; have c1 := H1.out.cs.bx.c1; have lt0 := H1.out.cs.bx.lt)
    | (go_at_call 11; refine (rmembers_any w1 av al V L cv cl H1.out.cs.cf HLN.out).mono ?_; rintro e w2 ⟨ma, mk, rfl, hi, hb⟩; have H2 := hidOf (H1.out.grow hb); have HIM := hidOf hi; clear hb hi c0 c1 lt0)
    | (go_at_call 17; have hin := in_any w2 ma (mem V L) mk s HIM.out; rw [HE.out] at hin; refine hin.mono ?_; clear hin; rintro e zz ⟨rfl, hw⟩; subst zz; have l2 : w.heap.size + 1 < w2.heap.size := H2.out.rs.lt; have f2 : ∀ j, w2.frozen? ⟨w.heap.size + 1, j, none⟩ = false := H2.out.rs.fr; have r0 : w2.cell? ⟨w.heap.size + 1, 0, none⟩ = _ := H2.out.rs.c0; have r1 : w2.cell? ⟨w.heap.size + 1, 1, none⟩ = _ := H2.out.rs.c1; have c0 := H2.out.cs.bx.c0; have c1 := H2.out.cs.bx.c1; have lt0 := H2.out.cs.bx.lt))
  have HX := hidOf H2.out.drew
  refine wp_region_held_drew (S := fun wz => wz.cell? ⟨w.heap.size, 0, none⟩ = some (.slice av V.length cv) ∧ wz.cell? ⟨w.heap.size, 1, none⟩ = some (.slice al L.length cl)) (by kernel_rfl) ⟨c0, c1⟩ (fun hHeld => ?_)
  refine wpAnyH_take (i := 0) (oi := { dst := some 28, op := Op.fieldAddr 24 (Operand.tmp 2) 0, type := 0, pos := "ref.go:162", after := #[], guard := none }) (v := .pointer (some ⟨w.heap.size, 0, none⟩)) rfl (by kernel_rfl) (by kernel_rfl) (by kernel_rfl) (fun _ _ _ h => h) (Or.inl ⟨by rfl, ?_⟩) hHeld ?_
  · (intro w hSw; (try dsimp only at hSw); go_simp)
  try simp only [Act.put, List.setIfInBounds_toArray, List.set_cons_zero, List.set_cons_succ]
  refine wpAnyH_take (i := 1) (oi := { dst := some 29, op := Op.load 22 (Operand.tmp 28), type := 22, pos := "ref.go:162", after := #[{ on := 0, ground := Ground.data }], guard := none }) (v := .slice av V.length cv) rfl (by kernel_rfl) (by kernel_rfl) (by kernel_rfl) (fun _ _ _ h => h) (Or.inl ⟨by rfl, ?_⟩) hHeld ?_
  · (intro w hSw; (try dsimp only at hSw); go_simp)
  try simp only [Act.put, List.setIfInBounds_toArray, List.set_cons_zero, List.set_cons_succ]
  refine wpAnyH_take (i := 3) (oi := { dst := some 31, op := Op.fieldAddr 24 (Operand.tmp 2) 1, type := 0, pos := "ref.go:162", after := #[], guard := none }) (v := .pointer (some ⟨w.heap.size, 1, none⟩)) rfl (by kernel_rfl) (by kernel_rfl) (by kernel_rfl) (fun _ _ _ h => h) (Or.inl ⟨by rfl, ?_⟩) hHeld ?_
  · (intro w hSw; (try dsimp only at hSw); go_simp)
  try simp only [Act.put, List.setIfInBounds_toArray, List.set_cons_zero, List.set_cons_succ]
  refine wpAnyH_take (i := 4) (oi := { dst := some 32, op := Op.load 22 (Operand.tmp 31), type := 22, pos := "ref.go:162", after := #[{ on := 3, ground := Ground.data }], guard := none }) (v := .slice al L.length cl) rfl (by kernel_rfl) (by kernel_rfl) (by kernel_rfl) (fun _ _ _ h => h) (Or.inl ⟨by rfl, ?_⟩) hHeld ?_
  · (intro w hSw; (try dsimp only at hSw); go_simp)
  try simp only [Act.put, List.setIfInBounds_toArray, List.set_cons_zero, List.set_cons_succ]
  refine wpAnyH_take (i := 6) (oi := { dst := some 34, op := Op.move (Operand.tmp 1), type := 3, pos := "ref.go:162", after := #[], guard := none }) (v := .int .i64 s) rfl (by kernel_rfl) (by kernel_rfl) (by kernel_rfl) (fun _ _ _ h => h) (Or.inl ⟨by rfl, ?_⟩) hHeld ?_
  · (intro w hSw; (try dsimp only at hSw); go_simp)
  try simp only [Act.put, List.setIfInBounds_toArray, List.set_cons_zero, List.set_cons_succ]
  refine wpAnyH_ready (rs := [2]) (by kernel_rfl) (by simp) ?_
  refine AllReadyH.cons (o := { dst := some 30, op := Op.call { callee := Callee.value (Operand.func 45), args := #[Operand.tmp 29], argTypes := #[22] }, type := 22, pos := "ref.go:162", after := #[{ on := 1, ground := Ground.data }], guard := none }) rfl (fun K hK => ?_) AllReadyH.nil
  go_simp
  refine (own_any _ av V cv HX.out.cs.cf.v).mono ?_
  rintro e w4 ⟨v1, rfl, hr1, hb⟩
  obtain ⟨a1, k1, rfl, hi1, _, _, _⟩ := hr1.slice
  have H4 := hidOf (HX.out.grow hb)
  have HR4 := hidOf hi1
  clear hb hr1 hi1
  refine hK.out _ _ ⟨H4.out.cs.bx.c0, H4.out.cs.bx.c1⟩ (fun hHeld1 => ?_)
  clear hK K
  try simp only [Act.put, List.setIfInBounds_toArray, List.set_cons_zero, List.set_cons_succ]
  refine wpAnyH_ready (rs := [5]) (by kernel_rfl) (by simp) ?_
  refine AllReadyH.cons (o := { dst := some 33, op := Op.call { callee := Callee.value (Operand.func 45), args := #[Operand.tmp 32], argTypes := #[22] }, type := 22, pos := "ref.go:162", after := #[{ on := 4, ground := Ground.data }, { on := 2, ground := Ground.chain }], guard := none }) rfl (fun K hK => ?_) AllReadyH.nil
  go_simp
  refine (own_any _ al L cl H4.out.cs.cf.l).mono ?_
  rintro e w5 ⟨v2, rfl, hr2, hb⟩
  obtain ⟨a2, k2, rfl, hs2⟩ := hr2.sli
  have H5 := hidOf (H4.out.grow hb)
  have HR5 := hidOf (HR4.out.grow hb)
  have HS2 := hidOf hs2
  clear hb hr2 hs2
  refine hK.out _ _ ⟨H5.out.cs.bx.c0, H5.out.cs.bx.c1⟩ (fun hHeld2 => ?_)
  clear hK K
  try simp only [Act.put, List.setIfInBounds_toArray, List.set_cons_zero, List.set_cons_succ]
  refine wpAnyH_ready (rs := [7]) (by kernel_rfl) (by simp) ?_
  refine AllReadyH.cons (o := { dst := some 35, op := Op.call { callee := Callee.value (Operand.func 34), args := #[Operand.tmp 33, Operand.tmp 34], argTypes := #[22, 3] }, type := 22, pos := "ref.go:162", after := #[{ on := 5, ground := Ground.data }, { on := 6, ground := Ground.data }, { on := 5, ground := Ground.chain }], guard := none }) rfl (fun K hK => ?_) AllReadyH.nil
  go_simp
  refine (put_any w5 a2 L k2 s HS2.out HRL.out.1 HLL.out).mono ?_
  rintro e w6 ⟨a3, r3, k3, rfl, hs3, hp3, _, hb⟩
  have hr3 := put_wth HRL.out (by omega) (by omega) HNL.out hp3
  subst hr3
  have H6 := hidOf (H5.out.grow hb)
  have HR6 := hidOf (HR5.out.grow hb)
  have HR3 := hidOf hs3.i
  clear hb hs3 hp3
  have q0 : w6.cell? ⟨w.heap.size + 1, 0, none⟩ = _ := H6.out.rs.c0
  have q1 : w6.cell? ⟨w.heap.size + 1, 1, none⟩ = _ := H6.out.rs.c1
  have q2 : ∀ j, w6.frozen? ⟨w.heap.size + 1, j, none⟩ = false := H6.out.rs.fr
  have q3 : w.heap.size + 1 < w6.heap.size := H6.out.rs.lt
  refine hK.out _ _ ⟨H6.out.cs.bx.c0, H6.out.cs.bx.c1⟩ (fun hHeld3 => ?_)
  clear hK K
  try simp only [Act.put, List.setIfInBounds_toArray, List.set_cons_zero, List.set_cons_succ]
  refine wpAnyH_take (i := 8) (oi := { dst := some 36, op := Op.build 24 #[(0, Operand.tmp 30), (1, Operand.tmp 35)], type := 24, pos := "ref.go:162", after := #[{ on := 2, ground := Ground.data }, { on := 7, ground := Ground.data }], guard := none }) (v := .agg #[.slice a1 V.length k1, .slice a3 (wth L s).length k3]) rfl (by kernel_rfl) (by kernel_rfl) (by kernel_rfl) (fun _ _ _ h => h) (Or.inl ⟨by rfl, ?_⟩) hHeld3 ?_
  · (intro w hSw; (try dsimp only at hSw); go_simp)
  try simp only [Act.put, List.setIfInBounds_toArray, List.set_cons_zero, List.set_cons_succ]
  refine wpAnyH_ready (rs := [9]) (by kernel_rfl) (by simp) ?_
  refine AllReadyH.cons (o := { dst := none, op := Op.store 24 (Operand.tmp 4) (Operand.tmp 36), type := 0, pos := "ref.go:162", after := #[{ on := 8, ground := Ground.data }, { on := 7, ground := Ground.chain }, { on := 0, ground := Ground.phase }, { on := 1, ground := Ground.phase }, { on := 2, ground := Ground.phase }, { on := 3, ground := Ground.phase }, { on := 4, ground := Ground.phase }, { on := 5, ground := Ground.phase }, { on := 6, ground := Ground.phase }, { on := 7, ground := Ground.phase }, { on := 8, ground := Ground.phase }], guard := none }) rfl (fun K hK => ?_) AllReadyH.nil
  go_simp
  refine hK.out _ _ (H6.out.kept (.slice a1 V.length k1) (.slice a3 (wth L s).length k3)) (fun hHeld4 => ?_)
  clear hK K
  try simp only [Act.put, List.setIfInBounds_toArray, List.set_cons_zero, List.set_cons_succ]
  refine wpAnyH_take (i := 10) (oi := { dst := some 5, op := Op.assign (Operand.const (Value.int IntKind.i64 0)), type := 36, pos := "ref.go:162", after := #[{ on := 9, ground := Ground.chain }, { on := 0, ground := Ground.phase }, { on := 1, ground := Ground.phase }, { on := 2, ground := Ground.phase }, { on := 3, ground := Ground.phase }, { on := 4, ground := Ground.phase }, { on := 5, ground := Ground.phase }, { on := 6, ground := Ground.phase }, { on := 7, ground := Ground.phase }, { on := 8, ground := Ground.phase }, { on := 9, ground := Ground.phase }], guard := none }) (v := .int .i64 0) rfl (by kernel_rfl) (by kernel_rfl) (by kernel_rfl) (fun _ _ _ h => h) (Or.inl ⟨by rfl, ?_⟩) hHeld4 ?_
  · (intro w hSw; (try dsimp only at hSw); go_simp)
  try simp only [Act.put, List.setIfInBounds_toArray, List.set_cons_zero, List.set_cons_succ]
  refine wpAnyH_done (by kernel_rfl) ?_ _
  go_wp2
  exact bodyPost_ret (results_bx Try.results26 _ _ (w.heap.size + 1) _ _ (.int .i64 0) rfl rfl (H6.out.rs.set _ _)) rfl ⟨a1, k1, a3, k3, rfl, HR6.out.setOther H6.out.rs _ _, HR3.out.setOther H6.out.rs _ _, H6.out.set _ _⟩
set_option maxHeartbeats 4000000 in
theorem rpromote_no (w : World) (av al : Option Addr) (V L : List Int) (cv cl : Nat) (s : Int) (h : Cf w av al V L) (hn : proB V L s = false) : Calls Try.prog 28 #[.agg #[.slice av V.length cv, .slice al L.length cl], .int .i64 s] w fun e w' => ∃ a1 k1 a2 k2, e = .returned (.tuple #[.agg #[.slice a1 ([] : List Int).length k1, .slice a2 ([] : List Int).length k2], .int .i64 22]) ∧ Ints w' a1 ([] : List Int) ∧ Ints w' a2 ([] : List Int) ∧ Below w.heap.size w w' := by
  have H0 := hidOf (Ch.begin cv cl h)
  have hm := rmay_any _ av al V L cv cl H0.out.cs.cf
  clear h
  unfold proB at hn
  cases e1 : mayB V L with
  | false =>
    rw [e1] at hm
    have HM := hidOf hm
    obtain ⟨i, hii⟩ : ∃ i, i = L.contains s := ⟨_, rfl⟩
    have HE := hidOf hii.symm
    clear hm e1 hn hii
    go_enter Try.func28, Try.ntmps28
    go_wp2_with (first
      | (go_at_call 13; refine HM.out.mono ?_; rintro e w1 ⟨rfl, hb⟩; have H1 := hidOf (H0.out.grow hb); clear hb HM; have c0 := H1.out.cs.bx.c0; have c1 := H1.out.cs.bx.c1; have lt0 := H1.out.cs.bx.lt)
      | (go_at_call 17; have hin := in_any w1 al L cl s H1.out.cs.cf.l; rw [HE.out] at hin; refine hin.mono ?_; clear hin; rintro e zz ⟨rfl, hw⟩; subst zz; have l2 : w.heap.size + 1 < w1.heap.size := H1.out.rs.lt; have f2 : ∀ j, w1.frozen? ⟨w.heap.size + 1, j, none⟩ = false := H1.out.rs.fr; have r0 : w1.cell? ⟨w.heap.size + 1, 0, none⟩ = _ := H1.out.rs.c0; have r1 : w1.cell? ⟨w.heap.size + 1, 1, none⟩ = _ := H1.out.rs.c1))
    exact bodyPost_ret (results_bx Try.results28 _ _ (w.heap.size + 1) (.slice none 0 0) (.slice none 0 0) (.int .i64 22) rfl rfl (H1.out.rs.set _ _)) rfl ⟨none, 0, none, 0, rfl, Ints.nil _ _, Ints.nil _ _, H1.out.set _ _⟩
  | true =>
    rw [e1] at hm hn
    have HM := hidOf hm
    have HE := hidOf ((Bool.true_and _).symm.trans hn)
    clear hm e1 hn
    go_enter Try.func28, Try.ntmps28
    go_wp2_with (first
      | (go_at_call 13; refine HM.out.mono ?_; rintro e w1 ⟨rfl, hb⟩; have H1 := hidOf (H0.out.grow hb); clear hb HM; have c0 := H1.out.cs.bx.c0; have c1 := H1.out.cs.bx.c1; have lt0 := H1.out.cs.bx.lt)
      | (go_at_call 17; have hin := in_any w1 al L cl s H1.out.cs.cf.l; rw [HE.out] at hin; refine hin.mono ?_; clear hin; rintro e zz ⟨rfl, hw⟩; subst zz; have l2 : w.heap.size + 1 < w1.heap.size := H1.out.rs.lt; have f2 : ∀ j, w1.frozen? ⟨w.heap.size + 1, j, none⟩ = false := H1.out.rs.fr; have r0 : w1.cell? ⟨w.heap.size + 1, 0, none⟩ = _ := H1.out.rs.c0; have r1 : w1.cell? ⟨w.heap.size + 1, 1, none⟩ = _ := H1.out.rs.c1))
    exact bodyPost_ret (results_bx Try.results28 _ _ (w.heap.size + 1) (.slice none 0 0) (.slice none 0 0) (.int .i64 22) rfl rfl (H1.out.rs.set _ _)) rfl ⟨none, 0, none, 0, rfl, Ints.nil _ _, Ints.nil _ _, H1.out.set _ _⟩
set_option maxHeartbeats 4000000 in
theorem rpromote_yes (w : World) (av al : Option Addr) (V L : List Int) (cv cl : Nat) (s : Int) (h : Cf w av al V L) (hn : proB V L s = true) : Calls Try.prog 28 #[.agg #[.slice av V.length cv, .slice al L.length cl], .int .i64 s] w fun e w' => ∃ a1 k1 a2 k2, e = .returned (.tuple #[.agg #[.slice a1 (wth V s).length k1, .slice a2 (wto L s).length k2], .int .i64 0]) ∧ Ints w' a1 (wth V s) ∧ Ints w' a2 (wto L s) ∧ Below w.heap.size w w' := by
  have H0 := hidOf (Ch.begin cv cl h)
  have hm := rmay_any _ av al V L cv cl H0.out.cs.cf
  clear h
  unfold proB at hn
  obtain ⟨e1, e2⟩ := Bool.and_eq_true_iff.1 hn
  have hmp := (may_iff V L).1 e1
  have hs := hmp.2.2.1.2 s (contains_eq.1 e2)
  have HRV := hidOf hmp.2.1
  have HLV : Hid (V.length < 17592186044416) := hidOf (by have := rise_len hmp.2.1; omega)
  have HNV : Hid (s ∉ V) := hidOf (fun hv => hmp.2.2.2 s hv (contains_eq.1 e2))
  have HS15 := hidOf hs
  rw [e1] at hm
  have HM := hidOf hm
  have HE := hidOf e2
  clear hm e1 e2 hn hmp hs
  go_enter Try.func28, Try.ntmps28
  go_wp2_with (first
    | (go_at_call 13; refine HM.out.mono ?_; rintro e w1 ⟨rfl, hb⟩; have H1 := hidOf (H0.out.grow hb); clear hb HM; have c0 := H1.out.cs.bx.c0; have c1 := H1.out.cs.bx.c1; have lt0 := H1.out.cs.bx.lt)
    | (go_at_call 17; have hin := in_any w1 al L cl s H1.out.cs.cf.l; rw [HE.out] at hin; refine hin.mono ?_; clear hin; rintro e zz ⟨rfl, hw⟩; subst zz; have l2 : w.heap.size + 1 < w1.heap.size := H1.out.rs.lt; have f2 : ∀ j, w1.frozen? ⟨w.heap.size + 1, j, none⟩ = false := H1.out.rs.fr; have r0 : w1.cell? ⟨w.heap.size + 1, 0, none⟩ = _ := H1.out.rs.c0; have r1 : w1.cell? ⟨w.heap.size + 1, 1, none⟩ = _ := H1.out.rs.c1))
  have HX := hidOf H1.out.drew
  refine wp_region_held_drew (S := fun wz => wz.cell? ⟨w.heap.size, 0, none⟩ = some (.slice av V.length cv) ∧ wz.cell? ⟨w.heap.size, 1, none⟩ = some (.slice al L.length cl)) (by kernel_rfl) ⟨c0, c1⟩ (fun hHeld => ?_)
  refine wpAnyH_take (i := 0) (oi := { dst := some 21, op := Op.fieldAddr 24 (Operand.tmp 2) 0, type := 0, pos := "ref.go:172", after := #[], guard := none }) (v := .pointer (some ⟨w.heap.size, 0, none⟩)) rfl (by kernel_rfl) (by kernel_rfl) (by kernel_rfl) (fun _ _ _ h => h) (Or.inl ⟨by rfl, ?_⟩) hHeld ?_
  · (intro w hSw; (try dsimp only at hSw); go_simp)
  try simp only [Act.put, List.setIfInBounds_toArray, List.set_cons_zero, List.set_cons_succ]
  refine wpAnyH_take (i := 1) (oi := { dst := some 22, op := Op.load 22 (Operand.tmp 21), type := 22, pos := "ref.go:172", after := #[{ on := 0, ground := Ground.data }], guard := none }) (v := .slice av V.length cv) rfl (by kernel_rfl) (by kernel_rfl) (by kernel_rfl) (fun _ _ _ h => h) (Or.inl ⟨by rfl, ?_⟩) hHeld ?_
  · (intro w hSw; (try dsimp only at hSw); go_simp)
  try simp only [Act.put, List.setIfInBounds_toArray, List.set_cons_zero, List.set_cons_succ]
  refine wpAnyH_take (i := 3) (oi := { dst := some 24, op := Op.move (Operand.tmp 1), type := 3, pos := "ref.go:172", after := #[], guard := none }) (v := .int .i64 s) rfl (by kernel_rfl) (by kernel_rfl) (by kernel_rfl) (fun _ _ _ h => h) (Or.inl ⟨by rfl, ?_⟩) hHeld ?_
  · (intro w hSw; (try dsimp only at hSw); go_simp)
  try simp only [Act.put, List.setIfInBounds_toArray, List.set_cons_zero, List.set_cons_succ]
  refine wpAnyH_take (i := 5) (oi := { dst := some 26, op := Op.fieldAddr 24 (Operand.tmp 2) 1, type := 0, pos := "ref.go:172", after := #[], guard := none }) (v := .pointer (some ⟨w.heap.size, 1, none⟩)) rfl (by kernel_rfl) (by kernel_rfl) (by kernel_rfl) (fun _ _ _ h => h) (Or.inl ⟨by rfl, ?_⟩) hHeld ?_
  · (intro w hSw; (try dsimp only at hSw); go_simp)
  try simp only [Act.put, List.setIfInBounds_toArray, List.set_cons_zero, List.set_cons_succ]
  refine wpAnyH_take (i := 6) (oi := { dst := some 27, op := Op.load 22 (Operand.tmp 26), type := 22, pos := "ref.go:172", after := #[{ on := 5, ground := Ground.data }], guard := none }) (v := .slice al L.length cl) rfl (by kernel_rfl) (by kernel_rfl) (by kernel_rfl) (fun _ _ _ h => h) (Or.inl ⟨by rfl, ?_⟩) hHeld ?_
  · (intro w hSw; (try dsimp only at hSw); go_simp)
  try simp only [Act.put, List.setIfInBounds_toArray, List.set_cons_zero, List.set_cons_succ]
  refine wpAnyH_take (i := 7) (oi := { dst := some 28, op := Op.move (Operand.tmp 1), type := 3, pos := "ref.go:172", after := #[], guard := none }) (v := .int .i64 s) rfl (by kernel_rfl) (by kernel_rfl) (by kernel_rfl) (fun _ _ _ h => h) (Or.inl ⟨by rfl, ?_⟩) hHeld ?_
  · (intro w hSw; (try dsimp only at hSw); go_simp)
  try simp only [Act.put, List.setIfInBounds_toArray, List.set_cons_zero, List.set_cons_succ]
  refine wpAnyH_ready (rs := [2]) (by kernel_rfl) (by simp) ?_
  refine AllReadyH.cons (o := { dst := some 23, op := Op.call { callee := Callee.value (Operand.func 45), args := #[Operand.tmp 22], argTypes := #[22] }, type := 22, pos := "ref.go:172", after := #[{ on := 1, ground := Ground.data }], guard := none }) rfl (fun K hK => ?_) AllReadyH.nil
  go_simp
  refine (own_any _ av V cv HX.out.cs.cf.v).mono ?_
  rintro e w4 ⟨v1, rfl, hr1, hb⟩
  obtain ⟨a1, k1, rfl, hs1⟩ := hr1.sli
  have H4 := hidOf (HX.out.grow hb)
  have HS1 := hidOf hs1
  clear hb hr1 hs1
  refine hK.out _ _ ⟨H4.out.cs.bx.c0, H4.out.cs.bx.c1⟩ (fun hHeld1 => ?_)
  clear hK K
  try simp only [Act.put, List.setIfInBounds_toArray, List.set_cons_zero, List.set_cons_succ]
  refine wpAnyH_ready (rs := [4]) (by kernel_rfl) (by simp) ?_
  refine AllReadyH.cons (o := { dst := some 25, op := Op.call { callee := Callee.value (Operand.func 34), args := #[Operand.tmp 23, Operand.tmp 24], argTypes := #[22, 3] }, type := 22, pos := "ref.go:172", after := #[{ on := 2, ground := Ground.data }, { on := 3, ground := Ground.data }, { on := 2, ground := Ground.chain }], guard := none }) rfl (fun K hK => ?_) AllReadyH.nil
  go_simp
  refine (put_any w4 a1 V k1 s HS1.out HRV.out.1 HLV.out).mono ?_
  rintro e w5 ⟨a2, r2, k2, rfl, hs2, hp2, _, hb⟩
  have hr2 := put_wth HRV.out HS15.out.1 HS15.out.2 HNV.out hp2
  subst hr2
  have H5 := hidOf (H4.out.grow hb)
  have HR5 := hidOf hs2.i
  clear hb hs2 hp2
  refine hK.out _ _ ⟨H5.out.cs.bx.c0, H5.out.cs.bx.c1⟩ (fun hHeld2 => ?_)
  clear hK K
  try simp only [Act.put, List.setIfInBounds_toArray, List.set_cons_zero, List.set_cons_succ]
  refine wpAnyH_ready (rs := [8]) (by kernel_rfl) (by simp) ?_
  refine AllReadyH.cons (o := { dst := some 29, op := Op.call { callee := Callee.value (Operand.func 47), args := #[Operand.tmp 27, Operand.tmp 28], argTypes := #[22, 3] }, type := 22, pos := "ref.go:172", after := #[{ on := 6, ground := Ground.data }, { on := 7, ground := Ground.data }, { on := 4, ground := Ground.chain }], guard := none }) rfl (fun K hK => ?_) AllReadyH.nil
  go_simp
  refine (rwithout_any w5 al L cl s H5.out.cs.cf.l).mono ?_
  rintro e w6 ⟨v3, rfl, hr3, hb⟩
  obtain ⟨a3, k3, rfl, hi3, _, _, _⟩ := hr3.slice
  have H6 := hidOf (H5.out.grow hb)
  have HR6 := hidOf (HR5.out.grow hb)
  have HR3 := hidOf hi3
  clear hb hr3 hi3
  have q0 : w6.cell? ⟨w.heap.size + 1, 0, none⟩ = _ := H6.out.rs.c0
  have q1 : w6.cell? ⟨w.heap.size + 1, 1, none⟩ = _ := H6.out.rs.c1
  have q2 : ∀ j, w6.frozen? ⟨w.heap.size + 1, j, none⟩ = false := H6.out.rs.fr
  have q3 : w.heap.size + 1 < w6.heap.size := H6.out.rs.lt
  refine hK.out _ _ ⟨H6.out.cs.bx.c0, H6.out.cs.bx.c1⟩ (fun hHeld3 => ?_)
  clear hK K
  try simp only [Act.put, List.setIfInBounds_toArray, List.set_cons_zero, List.set_cons_succ]
  refine wpAnyH_take (i := 9) (oi := { dst := some 30, op := Op.build 24 #[(0, Operand.tmp 25), (1, Operand.tmp 29)], type := 24, pos := "ref.go:172", after := #[{ on := 4, ground := Ground.data }, { on := 8, ground := Ground.data }], guard := none }) (v := .agg #[.slice a2 (wth V s).length k2, .slice a3 (wto L s).length k3]) rfl (by kernel_rfl) (by kernel_rfl) (by kernel_rfl) (fun _ _ _ h => h) (Or.inl ⟨by rfl, ?_⟩) hHeld3 ?_
  · (intro w hSw; (try dsimp only at hSw); go_simp)
  try simp only [Act.put, List.setIfInBounds_toArray, List.set_cons_zero, List.set_cons_succ]
  refine wpAnyH_ready (rs := [10]) (by kernel_rfl) (by simp) ?_
  refine AllReadyH.cons (o := { dst := none, op := Op.store 24 (Operand.tmp 4) (Operand.tmp 30), type := 0, pos := "ref.go:172", after := #[{ on := 9, ground := Ground.data }, { on := 8, ground := Ground.chain }, { on := 0, ground := Ground.phase }, { on := 1, ground := Ground.phase }, { on := 2, ground := Ground.phase }, { on := 3, ground := Ground.phase }, { on := 4, ground := Ground.phase }, { on := 5, ground := Ground.phase }, { on := 6, ground := Ground.phase }, { on := 7, ground := Ground.phase }, { on := 8, ground := Ground.phase }, { on := 9, ground := Ground.phase }], guard := none }) rfl (fun K hK => ?_) AllReadyH.nil
  go_simp
  refine hK.out _ _ (H6.out.kept (.slice a2 (wth V s).length k2) (.slice a3 (wto L s).length k3)) (fun hHeld4 => ?_)
  clear hK K
  try simp only [Act.put, List.setIfInBounds_toArray, List.set_cons_zero, List.set_cons_succ]
  refine wpAnyH_take (i := 11) (oi := { dst := some 5, op := Op.assign (Operand.const (Value.int IntKind.i64 0)), type := 36, pos := "ref.go:172", after := #[{ on := 10, ground := Ground.chain }, { on := 0, ground := Ground.phase }, { on := 1, ground := Ground.phase }, { on := 2, ground := Ground.phase }, { on := 3, ground := Ground.phase }, { on := 4, ground := Ground.phase }, { on := 5, ground := Ground.phase }, { on := 6, ground := Ground.phase }, { on := 7, ground := Ground.phase }, { on := 8, ground := Ground.phase }, { on := 9, ground := Ground.phase }, { on := 10, ground := Ground.phase }], guard := none }) (v := .int .i64 0) rfl (by kernel_rfl) (by kernel_rfl) (by kernel_rfl) (fun _ _ _ h => h) (Or.inl ⟨by rfl, ?_⟩) hHeld4 ?_
  · (intro w hSw; (try dsimp only at hSw); go_simp)
  try simp only [Act.put, List.setIfInBounds_toArray, List.set_cons_zero, List.set_cons_succ]
  refine wpAnyH_done (by kernel_rfl) ?_ _
  go_wp2
  exact bodyPost_ret (results_bx Try.results28 _ _ (w.heap.size + 1) _ _ (.int .i64 0) rfl rfl (H6.out.rs.set _ _)) rfl ⟨a2, k2, a3, k3, rfl, HR6.out.setOther H6.out.rs _ _, HR3.out.setOther H6.out.rs _ _, H6.out.set _ _⟩
end Go.Proofs.Yteaohmlbioooaaa
