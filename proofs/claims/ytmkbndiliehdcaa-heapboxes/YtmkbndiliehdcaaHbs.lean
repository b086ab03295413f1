/- The mailbox, with a word on the blocks of what is in it. -/
import Derived.Test.YtmkbndiliehdcaaHopn
import Derived.Deep.AppendSrc
namespace Go.Proofs.Ytmkbndiliehdcaa
open Go.RowKit Go.Conc

/- the mailbox in block p, its channel in block c: what is in it, the eldest first; each lies in a block of S -/
def BoxS (w : World) (S : Nat → Prop) (p c room : Nat) (Q : List Int) : Prop :=
  w.heap[p]? = some (.cells #[.chan (some c)] 62 (0, 0)) ∧ ∃ (buf : Array Value) (s r : Nat), w.heap[c]? = some (.chan room buf false s r false) ∧ buf.size = Q.length ∧
    ∀ i (h : i < Q.length), ∃ b, buf[i]? = some (.pointer (some ⟨b, 0, none⟩)) ∧ S b ∧ w.heap[b]? = some (.cells #[.int .i64 Q[i]] 3 (0, 0))
theorem BoxS.grow {w w' : World} {S : Nat → Prop} {p c room : Nat} {Q : List Int} (h : BoxS w S p c room Q) (hb : Below w.heap.size w w') : BoxS w' S p c room Q := by
  obtain ⟨h1, buf, s, r, h2, h3, h4⟩ := h
  refine ⟨(hb.block p (heap_lt h1)).trans h1, buf, s, r, (hb.block c (heap_lt h2)).trans h2, h3, fun i hi => ?_⟩
  obtain ⟨b, h5, h6, h7⟩ := h4 i hi
  exact ⟨b, h5, h6, (hb.block b (heap_lt h7)).trans h7⟩

theorem boxS_new (w : World) (S : Nat → Prop) (n : Nat) : BoxS ((w.alloc (.chan n #[] false 0 0 false)).alloc (.cells #[.chan (some w.heap.size)] 62)) S (w.heap.size + 1) w.heap.size n [] := by
  refine ⟨?_, #[], 0, 0, ?_, rfl, fun i hi => by simp at hi⟩
  · have := heap_alloc_new (w.alloc (.chan n #[] false 0 0 false)) (.cells #[.chan (some w.heap.size)] 62)
    rw [World.size_alloc] at this
    exact this
  · exact (Below.heap_alloc _ _ _ (by simp)).trans (heap_alloc_new w _)

set_option maxRecDepth 100000 in
theorem put_okS (S : Nat → Prop) (p c room : Nat) (Q : List Int) (x : Int) (w : World) (h : BoxS w S p c room Q) (hlo : S w.heap.size) (hr : Q.length < room) : Calls Try.prog 20 #[.pointer (some ⟨p, 0, none⟩), .int .i64 x] w fun e w' => e = .returned (.bool true) ∧ BoxS w' S p c room (Q ++ [x]) ∧ RS w w' c := by
  obtain ⟨h1, buf, s, r, h2, h3, h4⟩ := h
  have hp := heap_lt h1
  have hc := heap_lt h2
  have d0 : ∀ o : Obj, (w.alloc o).cell? ⟨p, 0, none⟩ = some (.chan (some c)) := fun o => by
    rw [cell_of_row (w.alloc o) p 0 _ 62 (0, 0) ((Below.heap_alloc w o p hp).trans h1)]; rfl
  have hcb : ∀ o : Obj, (w.alloc o).heap[c]? = some (.chan room buf false s r false) := fun o => (Below.heap_alloc w o c hc).trans h2
  refine calls_of_loneTo fun cs => ?_
  have e : Frame.enter Try.prog 20 #[.pointer (some ⟨p, 0, none⟩), .int .i64 x] .normal = (base 20).at ⟨#[.pointer (some ⟨p, 0, none⟩), .int .i64 x, undef, undef, undef, undef, undef, undef, undef, undef, undef, undef], []⟩ [.code (Try.f20.body.getD .skip)] := by
    simp [Frame.enter, Frame.at, Try.func20, base, Try.f20]
  rw [e]
  refine LoneTo.goes (n := 14) ?_
  simp only [Try.f20, Option.getD_some]
  s_c stepG_seq
  s_reg
  s_op
  s_op
  s_c stepG_region_end
  s_c stepG_seq
  s_reg
  s_op
  s_op
  s_op
  s_op
  s_c stepG_region_end
  s_c stepG_seq
  s_reg
  s_stop
  refine LoneTo.step (step_lone_select_send_room (c := c) (v := .pointer (some ⟨w.heap.size, 0, none⟩)) (z' := .pointer none) (cap := room) (buf := buf) (s := s) (r := r) (tm := false) (stepG_comm (cases := #[scase c (.pointer (some ⟨w.heap.size, 0, none⟩)) (.pointer none)]) (blocking := false) (shape := .select) (w' := (w.alloc (.cells #[.int .i64 x] 3))) rfl rfl (by decide) (by simp [go_sem, execOp, scase, Act.eval])) (hcb _) (by omega)) ?_
  rw [Frame.finish_at]
  walk_nrm
  refine LoneTo.goes (n := 10) ?_
  s_op
  s_op
  s_c stepG_region_end
  s_c stepG_block
  s_cond true
  s_c stepG_seq
  s_reg
  s_op
  s_c stepG_region_end
  s_c stepG_ret'
  s_stop
  refine LoneTo.done ⟨.returned (.bool true), _, rfl, ⟨rfl, ?_, ?_⟩, rfl, rfl, rfl, rfl, _, Try.func20, by simp [results, Try.f20, Frame.at]⟩
  · have hoth : ∀ (k : Nat), k ≠ c → ((w.alloc (.cells #[.int .i64 x] 3)).setChan c room (buf.push (.pointer (some ⟨w.heap.size, 0, none⟩))) false (s + 1) r false).heap[k]? = (w.alloc (.cells #[.int .i64 x] 3)).heap[k]? := fun k hk => by
      simp only [World.setChan]; rw [Array.getElem?_setIfInBounds_ne (Ne.symm hk)]
    have hpc : p ≠ c := fun e => by subst e; rw [h1] at h2; cases h2
    refine ⟨(hoth p hpc).trans ((Below.heap_alloc w _ p hp).trans h1), buf.push (.pointer (some ⟨w.heap.size, 0, none⟩)), s + 1, r, heap_setChan _ _ _ _ _ _ _ _ (by simp; omega), by simp [h3], fun i hi => ?_⟩
    by_cases hiq : i < Q.length
    · obtain ⟨b, h5, h6, h7⟩ := h4 i hiq
      have hbc : b ≠ c := fun e => by subst e; rw [h7] at h2; cases h2
      refine ⟨b, ?_, h6, (hoth b hbc).trans ((Below.heap_alloc w _ b (heap_lt h7)).trans ?_)⟩
      · rw [Array.getElem?_push_lt (by omega), ← h5, Array.getElem?_eq_getElem (by omega)]
      · rw [List.getElem_append_left hiq]; exact h7
    · have hie : i = Q.length := by simp at hi; omega
      subst hie
      refine ⟨w.heap.size, ?_, hlo, (hoth _ (by omega)).trans ?_⟩
      · rw [← h3]; simp
      · rw [heap_alloc_new]; simp
  · exact (RS.of_below ((Below.refl _ w).alloc (Nat.le_refl _) _)).trans (rs_setChan _ _ _ _ _ _ _ _)

set_option maxRecDepth 100000 in
theorem put_noS (S : Nat → Prop) (p c room : Nat) (Q : List Int) (x : Int) (w : World) (h : BoxS w S p c room Q) (hr : room ≤ Q.length) : Calls Try.prog 20 #[.pointer (some ⟨p, 0, none⟩), .int .i64 x] w fun e w' => e = .returned (.bool false) ∧ BoxS w' S p c room Q ∧ RS w w' c := by
  have h' := h
  obtain ⟨h1, buf, s, r, h2, h3, h4⟩ := h
  have hp := heap_lt h1
  have hc := heap_lt h2
  have d0 : ∀ o : Obj, (w.alloc o).cell? ⟨p, 0, none⟩ = some (.chan (some c)) := fun o => by
    rw [cell_of_row (w.alloc o) p 0 _ 62 (0, 0) ((Below.heap_alloc w o p hp).trans h1)]; rfl
  have hcb : ∀ o : Obj, (w.alloc o).heap[c]? = some (.chan room buf false s r false) := fun o => (Below.heap_alloc w o c hc).trans h2
  refine calls_of_loneTo fun cs => ?_
  have e : Frame.enter Try.prog 20 #[.pointer (some ⟨p, 0, none⟩), .int .i64 x] .normal = (base 20).at ⟨#[.pointer (some ⟨p, 0, none⟩), .int .i64 x, undef, undef, undef, undef, undef, undef, undef, undef, undef, undef], []⟩ [.code (Try.f20.body.getD .skip)] := by
    simp [Frame.enter, Frame.at, Try.func20, base, Try.f20]
  rw [e]
  refine LoneTo.goes (n := 14) ?_
  simp only [Try.f20, Option.getD_some]
  s_c stepG_seq
  s_reg
  s_op
  s_op
  s_c stepG_region_end
  s_c stepG_seq
  s_reg
  s_op
  s_op
  s_op
  s_op
  s_c stepG_region_end
  s_c stepG_seq
  s_reg
  s_stop
  refine LoneTo.step (step_lone_select_send_full (c := c) (v := .pointer (some ⟨w.heap.size, 0, none⟩)) (z' := .pointer none) (cap := room) (buf := buf) (s := s) (r := r) (tm := false) (stepG_comm (cases := #[scase c (.pointer (some ⟨w.heap.size, 0, none⟩)) (.pointer none)]) (blocking := false) (shape := .select) (w' := (w.alloc (.cells #[.int .i64 x] 3))) rfl rfl (by decide) (by simp [go_sem, execOp, scase, Act.eval])) (hcb _) (by omega)) ?_
  rw [Frame.finish_at]
  walk_nrm
  refine LoneTo.goes (n := 10) ?_
  s_op
  s_op
  s_c stepG_region_end
  s_c stepG_block
  s_cond false
  s_c stepG_seq
  s_reg
  s_op
  s_c stepG_region_end
  s_c stepG_ret'
  s_stop
  refine LoneTo.done ⟨.returned (.bool false), _, rfl, ⟨rfl, ?_, ?_⟩, rfl, rfl, rfl, rfl, _, Try.func20, by simp [results, Try.f20, Frame.at]⟩
  · exact h'.grow ((Below.refl _ w).alloc (Nat.le_refl _) _)
  · exact RS.of_below ((Below.refl _ w).alloc (Nat.le_refl _) _)

set_option maxRecDepth 100000 in
theorem take_noS (S : Nat → Prop) (p c room : Nat) (w : World) (h : BoxS w S p c room []) : Calls Try.prog 21 #[.pointer (some ⟨p, 0, none⟩)] w fun e w' => e = .returned (.tuple #[.int .i64 0, .bool false]) ∧ w' = w := by
  obtain ⟨h1, buf, s, r, h2, h3, h4⟩ := h
  have d0 : w.cell? ⟨p, 0, none⟩ = some (.chan (some c)) := by rw [cell_of_row w p 0 _ 62 (0, 0) h1]; rfl
  have hb0 : buf = #[] := by simpa using h3
  subst hb0
  refine calls_of_loneTo fun cs => ?_
  have e : Frame.enter Try.prog 21 #[.pointer (some ⟨p, 0, none⟩)] .normal = (base 21).at ⟨#[.pointer (some ⟨p, 0, none⟩), undef, undef, undef, undef, undef, undef, undef, undef, undef, undef, undef, undef, undef, undef, undef, undef, undef], []⟩ [.code (Try.f21.body.getD .skip)] := by
    simp [Frame.enter, Frame.at, Try.func21, base, Try.f21]
  rw [e]
  refine LoneTo.goes (n := 14) ?_
  simp only [Try.f21, Option.getD_some]
  s_c stepG_seq
  s_reg
  s_op
  s_op
  s_c stepG_region_end
  s_c stepG_seq
  s_reg
  s_op
  s_op
  s_op
  s_op
  s_c stepG_region_end
  s_c stepG_seq
  s_reg
  s_stop
  refine LoneTo.step (step_lone_select_default (c := c) (z := .pointer none) (cap := room) (s := s) (r := r) (tm := false) (stepG_comm (cases := #[rcase c (.pointer none)]) (blocking := false) (shape := .select) (w' := w) rfl rfl (by decide) (by simp [go_sem, execOp, rcase, Act.eval])) h2) ?_
  rw [Frame.finish_at]
  walk_nrm
  refine LoneTo.goes (n := 16) ?_
  s_op
  s_op
  s_c stepG_region_end
  s_c stepG_block
  s_cond false
  s_c stepG_seq
  s_reg
  s_op
  s_c stepG_region_end
  s_c stepG_seq
  s_reg
  s_op
  s_op
  s_op
  s_c stepG_region_end
  s_c stepG_ret'
  s_stop
  exact LoneTo.done ⟨.returned (.tuple #[.int .i64 0, .bool false]), _, rfl, ⟨rfl, rfl⟩, rfl, rfl, rfl, rfl, _, Try.func21, by simp [results, Try.f21, Frame.at]⟩

set_option maxRecDepth 100000 in
theorem take_okS (S : Nat → Prop) (p c room : Nat) (x : Int) (Q : List Int) (w : World) (h : BoxS w S p c room (x :: Q)) : Calls Try.prog 21 #[.pointer (some ⟨p, 0, none⟩)] w fun e w' => e = .returned (.tuple #[.int .i64 x, .bool true]) ∧ BoxS w' S p c room Q ∧ RS w w' c := by
  obtain ⟨h1, buf, s, r, h2, h3, h4⟩ := h
  have d0 : w.cell? ⟨p, 0, none⟩ = some (.chan (some c)) := by rw [cell_of_row w p 0 _ 62 (0, 0) h1]; rfl
  obtain ⟨b, hb1, hb2, hb3⟩ := h4 0 (by simp)
  have hc := heap_lt h2
  have hbc : b ≠ c := fun e => by subst e; rw [hb3] at h2; cases h2
  have hpc : p ≠ c := fun e => by subst e; rw [h1] at h2; cases h2
  have hg0 : buf.getD 0 undef = .pointer (some ⟨b, 0, none⟩) := by
    rw [Array.getD_eq_getD_getElem?, hb1]; rfl
  have hoth : ∀ (k : Nat) (bf : Array Value) (s' r' : Nat), k ≠ c → (w.setChan c room bf false s' r' false).heap[k]? = w.heap[k]? := fun k bf s' r' hk => by
    simp only [World.setChan]; rw [Array.getElem?_setIfInBounds_ne (Ne.symm hk)]
  have dx : ∀ (bf : Array Value) (s' r' : Nat), (w.setChan c room bf false s' r' false).cell? ⟨b, 0, none⟩ = some (.int .i64 x) := fun bf s' r' => by
    rw [cell_of_row _ b 0 _ 3 (0, 0) ((hoth b bf s' r' hbc).trans hb3)]; rfl
  refine calls_of_loneTo fun cs => ?_
  have e : Frame.enter Try.prog 21 #[.pointer (some ⟨p, 0, none⟩)] .normal = (base 21).at ⟨#[.pointer (some ⟨p, 0, none⟩), undef, undef, undef, undef, undef, undef, undef, undef, undef, undef, undef, undef, undef, undef, undef, undef, undef], []⟩ [.code (Try.f21.body.getD .skip)] := by
    simp [Frame.enter, Frame.at, Try.func21, base, Try.f21]
  rw [e]
  refine LoneTo.goes (n := 14) ?_
  simp only [Try.f21, Option.getD_some]
  s_c stepG_seq
  s_reg
  s_op
  s_op
  s_c stepG_region_end
  s_c stepG_seq
  s_reg
  s_op
  s_op
  s_op
  s_op
  s_c stepG_region_end
  s_c stepG_seq
  s_reg
  s_stop
  refine LoneTo.step (step_lone_select_recv_buf (c := c) (z := .pointer none) (cap := room) (buf := buf) (closed := false) (s := s) (r := r) (tm := false) (stepG_comm (cases := #[rcase c (.pointer none)]) (blocking := false) (shape := .select) (w' := w) rfl rfl (by decide) (by simp [go_sem, execOp, rcase, Act.eval])) h2 (by rw [h3]; simp)) ?_
  rw [hg0, Frame.finish_at]
  walk_nrm
  refine LoneTo.goes (n := 19) ?_
  s_op
  s_op
  s_c stepG_region_end
  s_c stepG_block
  s_cond true
  s_c stepG_seq
  s_reg
  s_op
  s_op
  s_c stepG_region_end
  s_c stepG_seq
  s_reg
  s_op
  s_op
  s_op
  s_op
  s_op
  s_c stepG_region_end
  s_c stepG_ret'
  s_stop
  refine LoneTo.done ⟨.returned (.tuple #[.int .i64 x, .bool true]), _, rfl, ⟨rfl, ?_, ?_⟩, rfl, rfl, rfl, rfl, _, Try.func21, by simp [results, Try.f21, Frame.at]⟩
  · refine ⟨(hoth p _ _ _ hpc).trans h1, buf.extract 1 (Q.length + 1), s, r + 1, heap_setChan _ _ _ _ _ _ _ _ hc, by simp [h3], fun i hi => ?_⟩
    obtain ⟨b', h5, h6, h7⟩ := h4 (i + 1) (by simpa using hi)
    have hbc' : b' ≠ c := fun e => by subst e; rw [h7] at h2; cases h2
    refine ⟨b', ?_, h6, (hoth b' _ _ _ hbc').trans (by simpa using h7)⟩
    rw [Array.getElem?_extract]
    simp only [List.length_cons] at h3
    rw [if_pos (by omega), Nat.add_comm 1 i]
    exact h5
  · exact rs_setChan _ _ _ _ _ _ _ _

set_option maxHeartbeats 400000 in
theorem boxlen_anyS (S : Nat → Prop) (p c room : Nat) (Q : List Int) (w : World) (h : BoxS w S p c room Q) : Calls Try.prog 22 #[.pointer (some ⟨p, 0, none⟩)] w fun e w' => e = .returned (.int .i64 Q.length) ∧ w' = w := by
  obtain ⟨h1, buf, s, r, h2, h3, h4⟩ := h
  have d0 : w.cell? ⟨p, 0, none⟩ = some (.chan (some c)) := by rw [cell_of_row w p 0 _ 62 (0, 0) h1]; rfl
  rw [← h3]
  have hlen : (Builtin.len_ #[60] 3 #[.chan (some c)]).run Try.prog w = .ok (.int .i64 buf.size) w := by
    have hg : (getObj c).run Try.prog w = .ok (.chan room buf false s r false) w := by
      simp [getObj, Sem.run, h2]
    simp [Builtin.len_, run_underlying Try.underlying60, go_sem, hg]
  clear h4 h3
  go_enter Try.func22, Try.ntmps22
  go_wp2
  go_ret
  exact ⟨rfl, rfl⟩


theorem BoxS.mono {w : World} {S S' : Nat → Prop} {p c room : Nat} {Q : List Int} (h : BoxS w S p c room Q) (hS : ∀ b, b < w.heap.size → S b → S' b) : BoxS w S' p c room Q := by
  obtain ⟨h1, buf, s, r, h2, h3, h4⟩ := h
  refine ⟨h1, buf, s, r, h2, h3, fun i hi => ?_⟩
  obtain ⟨b, h5, h6, h7⟩ := h4 i hi
  exact ⟨b, h5, hS b (heap_lt h7) h6, h7⟩
/- a block that is none of the mailbox's is turned -/
theorem BoxS.kept {w w' : World} {r0 : Option Nat} {p c room : Nat} {Q : List Int} (h : BoxS w (fun b => some b ≠ r0) p c room Q) (hk : ∀ k, k < w.heap.size → some k ≠ r0 → w'.heap[k]? = w.heap[k]?) (hgp : some p ≠ r0) (hgc : some c ≠ r0) : BoxS w' (fun b => some b ≠ r0) p c room Q := by
  obtain ⟨h1, buf, s, r, h2, h3, h4⟩ := h
  refine ⟨(hk p (heap_lt h1) hgp).trans h1, buf, s, r, (hk c (heap_lt h2) hgc).trans h2, h3, fun i hi => ?_⟩
  obtain ⟨b, h5, h6, h7⟩ := h4 i hi
  exact ⟨b, h5, h6, (hk b (heap_lt h7) h6).trans h7⟩

/- the list that the law keeps beside: in block g, or nowhere -/
def InR (w : World) (v : Value) (Q : List Int) : Prop :=
  (v = .slice none 0 0 ∧ Q = []) ∨ ∃ g off cap cur, v = .slice (some ⟨g, off, none⟩) Q.length cap ∧ w.heap[g]? = some (.cells cur 3 (0, 0)) ∧ off + cap ≤ cur.size ∧ Q.length ≤ cap ∧ cap ≤ maxLen ∧ ∀ j, j < Q.length → cur[off + j]? = some (.int .i64 (nth Q j))
theorem InR.kept {w w' : World} {v : Value} {Q : List Int} (h : InR w v Q) (hb : ∀ k, v.ownBlock = some k → w'.heap[k]? = w.heap[k]?) : InR w' v Q := by
  rcases h with h | ⟨g, off, cap, cur, rfl, h2, h3⟩
  · exact .inl h
  · exact .inr ⟨g, off, cap, cur, rfl, (hb g rfl).trans h2, h3⟩
theorem InR.lt {w : World} {v : Value} {Q : List Int} (h : InR w v Q) : ∀ k, v.ownBlock = some k → k < w.heap.size ∧ ∃ cs, w.heap[k]? = some (.cells cs 3 (0, 0)) := by
  intro k hk
  rcases h with ⟨rfl, _⟩ | ⟨g, off, cap, cur, rfl, h2, h3⟩
  · cases hk
  · cases hk; exact ⟨heap_lt h2, cur, h2⟩
theorem InR.slice {w : World} {v : Value} {Q : List Int} (h : InR w v Q) : ∃ a cap, v = .slice a Q.length cap := by
  rcases h with ⟨rfl, rfl⟩ | ⟨g, off, cap, cur, rfl, _⟩
  · exact ⟨none, 0, rfl⟩
  · exact ⟨_, cap, rfl⟩
theorem InR.tail {w : World} {v : Value} {x : Int} {Q : List Int} (h : InR w v (x :: Q)) : ∃ g off cap, v = .slice (some ⟨g, off, none⟩) (Q.length + 1) (cap + 1) ∧ w.cell? ⟨g, off, none⟩ = some (.int .i64 x) ∧ InR w (.slice (some ⟨g, off + 1, none⟩) Q.length cap) Q ∧ cap + 1 ≤ maxLen := by
  rcases h with ⟨_, e⟩ | ⟨g, off, cap, cur, rfl, h2, h3, h4, h5, h6⟩
  · cases e
  · simp only [List.length_cons] at h4 h6
    obtain ⟨c, rfl⟩ : ∃ c, cap = c + 1 := ⟨cap - 1, by omega⟩
    refine ⟨g, off, c, rfl, ?_, .inr ⟨g, off + 1, c, cur, rfl, h2, by omega, by omega, by omega, fun j hj => ?_⟩, by omega⟩
    · rw [cell_of_row w g off cur 3 (0, 0) h2]
      have := h6 0 (by omega)
      simpa [nth] using this
    · have := h6 (j + 1) (by omega)
      rw [show off + 1 + j = off + (j + 1) by omega, this]
      simp [nth]

theorem info3 : (Try.prog.info? 3).map (fun i => (i.zero, i.size, i.bytes)) = some (some (.int .i64 0), 1, 8) := by kernel_rfl

theorem nth_append (Q : List Int) (x : Int) (j : Nat) (hj : j < Q.length + 1) : nth (Q ++ [x]) j = if j < Q.length then nth Q j else x := by
  unfold nth
  by_cases h : j < Q.length
  · rw [if_pos h]; simp [List.getD, List.getElem?_append_left h]
  · have : j = Q.length := by omega
    subst this
    simp [List.getD]
theorem run_append_q (ty : TypeId) (w : World) (v : Value) (Q : List Int) (x : Int) (hin : InR w v Q) (a0 : Nat) (hx : w.cell? ⟨a0, 0, none⟩ = some (.int .i64 x)) (hQ : Q.length ≤ 2000) :
    ∃ v' w', (Builtin.append_ #[41, 41] ty #[v, .slice (some ⟨a0, 0, none⟩) 1 1]).run Try.prog w = .ok v' w' ∧ InR w' v' (Q ++ [x]) ∧ w.grownBy w' v.ownBlock ∧ (v'.ownBlock = v.ownBlock ∨ v'.ownBlock = some w.heap.size) := by
  obtain ⟨i, hi, hz0, hz1, hz2⟩ := info_parts info3
  have hs : Src Try.prog i.size 41 (.slice (some ⟨a0, 0, none⟩) 1 1) 1 [.int .i64 x] w := by
    rw [hz1]
    refine Src.ofSlice w Try.underlying41 _ _ 1 [.int .i64 x] rfl (fun j u hu => ?_) (by intro u hu; simp at hu; rw [hu]; rfl)
    cases j with
    | zero => simp at hu; subst hu; exact hx
    | succ j => simp at hu
  have grown : ∀ (base : Option Addr) (cap : Nat), Q.length ≤ cap → cap < Q.length + 1 → (Builtin.firstCells i.size Q.length (.slice base Q.length cap)).run Try.prog w.drew = .ok (Q.map (Value.int .i64)).toArray w.drew →
      ∃ v' w', (Builtin.append_ #[41, 41] ty #[.slice base Q.length cap, .slice (some ⟨a0, 0, none⟩) 1 1]).run Try.prog w = .ok v' w' ∧ InR w' v' (Q ++ [x]) ∧ (∀ r, w.grownBy w' r) ∧ v'.ownBlock = some w.heap.size := by
    intro base cap hc1 hc2 hold
    have hr := run_append_grow_src w 41 41 ty 3 i (.int .i64 0) Try.underlying41 hi hz0 base Q.length cap (Q.map (Value.int .i64)) hold _ 1 [.int .i64 x] hs hc2 (by omega) (by rw [hz2]; exact growslice_fits (by omega) (by omega))
    have hge := grownCap_ge w (Q.length + 1) cap 3
    have hm : grownCap w (Q.length + 1) cap 3 ≤ maxLen := grownCap_le_maxLen w _ cap 3 (by unfold maxLen; omega)
    refine ⟨_, _, hr, .inr ⟨w.heap.size, 0, _, _, by rw [List.length_append]; rfl, heap_alloc_new w.drew _, ?_, by rw [List.length_append]; exact hge, hm, fun j hj => ?_⟩, fun r => ⟨rfl, rfl, rfl, by simp, fun k hk _ => Below.heap_alloc w.drew _ k hk⟩, rfl⟩
    · simp only [Array.size_append, List.size_toArray, size_zeroCells, List.length_append, List.length_map]
      simp [Value.cells]
      omega
    · have hj' : j < Q.length + 1 := by simpa using hj
      rw [Nat.zero_add, nth_append Q x j hj', Array.getElem?_append_left (by simp; omega), List.getElem?_toArray]
      by_cases h : j < Q.length
      · rw [if_pos h, List.getElem?_append_left (by simpa using h)]; simp [nth, List.getD, h]
      · have : j = Q.length := by omega
        subst this
        rw [if_neg h, List.getElem?_append_right (by simp)]; simp
  rcases hin with ⟨rfl, rfl⟩ | ⟨g, off, cap, cur, rfl, hg, h1, h2, h3, h4⟩
  · obtain ⟨v', w', a, b, c, d⟩ := grown none 0 (Nat.le_refl _) (by simp) (by exact run_firstCells_none w.drew i.size 0 0 0)
    exact ⟨v', w', a, b, c _, .inr d⟩
  · by_cases hroom : Q.length + 1 ≤ cap
    · have hst := run_storeCells_at Try.prog g (off + Q.length * i.size) 3 [Value.int .i64 x] 0 cur w hg (by rw [hz1]; simp; omega) (by intro u hu; simp at hu; rw [hu]; rfl)
      simp only [Nat.add_zero] at hst
      have hr : (Builtin.append_ #[41, 41] ty #[.slice (some ⟨g, off, none⟩) Q.length cap, .slice (some ⟨a0, 0, none⟩) 1 1]).run Try.prog w = .ok (.slice (some ⟨g, off, none⟩) (Q.length + 1) cap) (w.setRow g (cur.toList.take (off + Q.length * i.size) ++ [Value.int .i64 x] ++ cur.toList.drop (off + Q.length * i.size + [Value.int .i64 x].length)).toArray) := by
        simp [Builtin.append_, run_underlying Try.underlying41, sizeOf, typeInfo, hi, hs.len, hroom, hs.cells, Addr.add_lit, hst]
      rw [hz1, Nat.mul_one] at hr
      refine ⟨_, _, hr, .inr ⟨g, off, cap, _, by rw [List.length_append]; rfl, setRow_heap w g cur _ 3 _ hg, ?_, by rw [List.length_append]; exact hroom, h3, fun j hj => ?_⟩, ⟨rfl, rfl, rfl, by simp, fun k _ hk => setRow_other w g k _ (fun e => hk (by simp [Value.ownBlock, e]))⟩, .inl rfl⟩
      · simp only [List.size_toArray, List.length_append, List.length_take, List.length_drop, Array.length_toList, List.length_cons, List.length_nil]
        omega
      · have hj' : j < Q.length + 1 := by simpa using hj
        rw [nth_append Q x j hj', List.getElem?_toArray, List.append_assoc]
        by_cases h : j < Q.length
        · rw [if_pos h, List.getElem?_append_left (by simp; omega), List.getElem?_take, if_pos (by omega), Array.getElem?_toList]
          exact h4 j h
        · have : j = Q.length := by omega
          subst this
          rw [if_neg h, List.getElem?_append_right (by simp; omega)]
          have : off + Q.length - (List.take (off + Q.length) cur.toList).length = 0 := by simp; omega
          rw [this]
          rfl
    · have hold : ∀ j u, (Q.map (Value.int .i64))[j]? = some u → w.drew.cell? ((⟨g, off, none⟩ : Addr).add j) = some u := by
        intro j u hu
        have hj : j < Q.length := by have := (List.getElem?_eq_some_iff.1 hu).1; simpa using this
        rw [Addr.add_lit, cell_of_row w.drew g (off + j) cur 3 (0, 0) hg, h4 j hj, ← hu]
        simp [nth, List.getD, hj]
      obtain ⟨v', w', a, b, c, d⟩ := grown (some ⟨g, off, none⟩) cap h2 (by omega) (run_firstCells_some w.drew i.size Q.length _ _ _ (Q.map (Value.int .i64)) (by rw [hz1]; simp) hold)
      exact ⟨v', w', a, b, c _, .inr d⟩
theorem wpList_append_q {ops : Array Oper} {rest : List Oper} {o : Oper} {a : Act} {K : Exit → Act → World → Prop} (w : World) (hgd : o.guard = none) (s x : Operand)
    (ho : o.op = .call { callee := .builtin .append, args := #[s, x], argTypes := #[41, 41] })
    (v : Value) (Q : List Int) (hs : a.eval s = v) (hin : InR w v Q) (a0 : Nat) (y : Int) (hx : a.eval x = .slice (some ⟨a0, 0, none⟩) 1 1) (hy : w.cell? ⟨a0, 0, none⟩ = some (.int .i64 y)) (hQ : Q.length ≤ 2000)
    (h : ∀ v' w', InR w' v' (Q ++ [y]) → w.grownBy w' v.ownBlock → (v'.ownBlock = v.ownBlock ∨ v'.ownBlock = some w.heap.size) → wpList Try.prog ops K rest (a.put o.dst v') w') : wpList Try.prog ops K (o :: rest) a w := by
  refine wpList_plain hgd fun K hK => ?_
  obtain ⟨v', w', hr, h2, h3, h4⟩ := run_append_q o.type w v Q y hin a0 hy hQ
  unfold Oper.wp execOp
  simp only [ho, resolve, invoke, builtin, Sem.run_bind, Sem.run_pure, Result.andThen_ok, List.map_toArray, List.map_cons, List.map_nil, hs, hx, hr]
  exact hK _ _ (h v' w' h2 h3 h4)

end Go.Proofs.Ytmkbndiliehdcaa
