/- The mailbox: NewBox, Put, Take, Len. -/
import Derived.Test.YtmkbndiliehdcaaHpop
import Derived.Conc.LoneSelect
namespace Go.Proofs.Ytmkbndiliehdcaa
open Go.RowKit Go.Conc

/- the mailbox in block p, its channel in block c: what is in it, the eldest first; lo: no block of it lies below -/
def BoxR (w : World) (lo p c room : Nat) (Q : List Int) : Prop :=
  lo ≤ p ∧ lo ≤ c ∧ w.heap[p]? = some (.cells #[.chan (some c)] 62 (0, 0)) ∧ ∃ (buf : Array Value) (s r : Nat), w.heap[c]? = some (.chan room buf false s r false) ∧ buf.size = Q.length ∧
    ∀ i (h : i < Q.length), ∃ b, buf[i]? = some (.pointer (some ⟨b, 0, none⟩)) ∧ lo ≤ b ∧ w.heap[b]? = some (.cells #[.int .i64 Q[i]] 3 (0, 0))
theorem heap_lt {w : World} {k : Nat} {o : Obj} (h : w.heap[k]? = some o) : k < w.heap.size := (Array.getElem?_eq_some_iff.1 h).1
theorem BoxR.grow {w w' : World} {lo p c room : Nat} {Q : List Int} (h : BoxR w lo p c room Q) (hb : Below w.heap.size w w') : BoxR w' lo p c room Q := by
  obtain ⟨l1, l2, h1, buf, s, r, h2, h3, h4⟩ := h
  refine ⟨l1, l2, (hb.block p (heap_lt h1)).trans h1, buf, s, r, (hb.block c (heap_lt h2)).trans h2, h3, fun i hi => ?_⟩
  obtain ⟨b, h5, h6, h7⟩ := h4 i hi
  exact ⟨b, h5, h6, (hb.block b (heap_lt h7)).trans h7⟩

theorem mkc (n : Nat) (h : n ≤ 1024) (w : World) : (Instr.makeChan 60 (.int .i64 n)).run Try.prog w = .ok (.chan (some w.heap.size)) (w.alloc (.chan n #[] false 0 0 false)) := by
  have h1 : (Try.prog.info? 63).map (·.bytes) = some 8 := by kernel_rfl
  obtain ⟨i, hi, hb⟩ := Option.map_eq_some_iff.1 h1
  exact run_makeChan (P := Try.prog) (w := w) Try.underlying60 hi .i64 n (by omega) (by rw [hb]; omega)

set_option maxHeartbeats 400000 in
theorem newbox_ok (n : Nat) (w : World) (h1 : 1 ≤ n) (h2 : n ≤ 1024) : Calls Try.prog 19 #[.int .i64 n] w fun e w' => e = .returned (.pointer (some ⟨w.heap.size + 1, 0, none⟩)) ∧ w' = (w.alloc (.chan n #[] false 0 0 false)).alloc (.cells #[.chan (some w.heap.size)] 62) := by
  have hmc := mkc n h2
  have e1 : ¬ (n : Int) < 1 := by omega
  have e2 : ¬ (1024 : Int) < (n : Int) := by omega
  go_enter Try.func19, Try.ntmps19
  go_wp2
  go_ret
  exact ⟨rfl, rfl⟩
set_option maxHeartbeats 400000 in
theorem newbox_no (n : Int) (w : World) (h : n < 1 ∨ 1024 < n) : Calls Try.prog 19 #[.int .i64 n] w fun e w' => e = .returned (.pointer none) ∧ w' = w := by
  rcases h with h | h
  · go_enter Try.func19, Try.ntmps19
    go_wp2
    go_ret
    exact ⟨rfl, rfl⟩
  · have h1 : ¬ n < 1 := by omega
    go_enter Try.func19, Try.ntmps19
    go_wp2
    go_ret
    exact ⟨rfl, rfl⟩
theorem boxR_new (w : World) (n : Nat) : BoxR ((w.alloc (.chan n #[] false 0 0 false)).alloc (.cells #[.chan (some w.heap.size)] 62)) w.heap.size (w.heap.size + 1) w.heap.size n [] := by
  refine ⟨by omega, Nat.le_refl _, ?_, #[], 0, 0, ?_, rfl, fun i hi => by simp at hi⟩
  · have := heap_alloc_new (w.alloc (.chan n #[] false 0 0 false)) (.cells #[.chan (some w.heap.size)] 62)
    rw [World.size_alloc] at this
    exact this
  · exact (Below.heap_alloc _ _ _ (by simp)).trans (heap_alloc_new w _)

theorem rs_setChan (w : World) (c cap : Nat) (buf : Array Value) (cl : Bool) (s r : Nat) (tm : Bool) : RS w (w.setChan c cap buf cl s r tm) c :=
  ⟨rfl, rfl, rfl, by simp [World.setChan], fun k _ hk => by simp only [World.setChan]; rw [Array.getElem?_setIfInBounds_ne (Ne.symm hk)]⟩

set_option maxRecDepth 100000 in
theorem put_ok (lo p c room : Nat) (Q : List Int) (x : Int) (w : World) (h : BoxR w lo p c room Q) (hlo : lo ≤ w.heap.size) (hr : Q.length < room) : Calls Try.prog 20 #[.pointer (some ⟨p, 0, none⟩), .int .i64 x] w fun e w' => e = .returned (.bool true) ∧ BoxR w' lo p c room (Q ++ [x]) ∧ RS w w' c := by
  obtain ⟨l1, l2, h1, buf, s, r, h2, h3, h4⟩ := h
  have hp := heap_lt h1
  have hc := heap_lt h2
  have d0 : ∀ o : Obj, (w.alloc o).cell? ⟨p, 0, none⟩ = some (.chan (some c)) := fun o => by
    rw [cell_of_row (w.alloc o) p 0 _ 62 (0, 0) ((Below.heap_alloc w o p hp).trans h1)]; rfl
  have hcb : ∀ o : Obj, (w.alloc o).heap[c]? = some (.chan room buf false s r false) := fun o => (Below.heap_alloc w o c hc).trans h2
  refine calls_of_loneTo fun cs => ?_
  have e : Frame.enter Try.prog 20 #[.pointer (some ⟨p, 0, none⟩), .int .i64 x] .normal = (base 20).at ⟨#[.pointer (some ⟨p, 0, none⟩), .int .i64 x, undef, undef, undef, undef, undef, undef, undef, undef, undef, undef], []⟩ [.code (Try.f20.body.getD .skip)] := by
    simp [Frame.enter, Frame.at, Try.func20, base, Try.f20]
  rw [e]
  refine LoneTo.goes (n := 14) ?_
  simp only [Try.f20, Option.getD_some]
  s_c stepG_seq
  s_reg
  s_op
  s_op
  s_c stepG_region_end
  s_c stepG_seq
  s_reg
  s_op
  s_op
  s_op
  s_op
  s_c stepG_region_end
  s_c stepG_seq
  s_reg
  s_stop
  refine LoneTo.step (step_lone_select_send_room (c := c) (v := .pointer (some ⟨w.heap.size, 0, none⟩)) (z' := .pointer none) (cap := room) (buf := buf) (s := s) (r := r) (tm := false) (stepG_comm (cases := #[scase c (.pointer (some ⟨w.heap.size, 0, none⟩)) (.pointer none)]) (blocking := false) (shape := .select) (w' := (w.alloc (.cells #[.int .i64 x] 3))) rfl rfl (by decide) (by simp [go_sem, execOp, scase, Act.eval])) (hcb _) (by omega)) ?_
  rw [Frame.finish_at]
  walk_nrm
  refine LoneTo.goes (n := 10) ?_
  s_op
  s_op
  s_c stepG_region_end
  s_c stepG_block
  s_cond true
  s_c stepG_seq
  s_reg
  s_op
  s_c stepG_region_end
  s_c stepG_ret'
  s_stop
  refine LoneTo.done ⟨.returned (.bool true), _, rfl, ⟨rfl, ?_, ?_⟩, rfl, rfl, rfl, rfl, _, Try.func20, by simp [results, Try.f20, Frame.at]⟩
  · have hoth : ∀ (k : Nat), k ≠ c → ((w.alloc (.cells #[.int .i64 x] 3)).setChan c room (buf.push (.pointer (some ⟨w.heap.size, 0, none⟩))) false (s + 1) r false).heap[k]? = (w.alloc (.cells #[.int .i64 x] 3)).heap[k]? := fun k hk => by
      simp only [World.setChan]; rw [Array.getElem?_setIfInBounds_ne (Ne.symm hk)]
    have hpc : p ≠ c := fun e => by subst e; rw [h1] at h2; cases h2
    refine ⟨l1, l2, (hoth p hpc).trans ((Below.heap_alloc w _ p hp).trans h1), buf.push (.pointer (some ⟨w.heap.size, 0, none⟩)), s + 1, r, heap_setChan _ _ _ _ _ _ _ _ (by simp; omega), by simp [h3], fun i hi => ?_⟩
    by_cases hiq : i < Q.length
    · obtain ⟨b, h5, h6, h7⟩ := h4 i hiq
      have hbc : b ≠ c := fun e => by subst e; rw [h7] at h2; cases h2
      refine ⟨b, ?_, h6, (hoth b hbc).trans ((Below.heap_alloc w _ b (heap_lt h7)).trans ?_)⟩
      · rw [Array.getElem?_push_lt (by omega), ← h5, Array.getElem?_eq_getElem (by omega)]
      · rw [List.getElem_append_left hiq]; exact h7
    · have hie : i = Q.length := by simp at hi; omega
      subst hie
      refine ⟨w.heap.size, ?_, hlo, (hoth _ (by omega)).trans ?_⟩
      · rw [← h3]; simp
      · rw [heap_alloc_new]; simp
  · exact (RS.of_below ((Below.refl _ w).alloc (Nat.le_refl _) _)).trans (rs_setChan _ _ _ _ _ _ _ _)

set_option maxRecDepth 100000 in
theorem put_no (lo p c room : Nat) (Q : List Int) (x : Int) (w : World) (h : BoxR w lo p c room Q) (_hlo : lo ≤ w.heap.size) (hr : room ≤ Q.length) : Calls Try.prog 20 #[.pointer (some ⟨p, 0, none⟩), .int .i64 x] w fun e w' => e = .returned (.bool false) ∧ BoxR w' lo p c room Q ∧ RS w w' c := by
  have h' := h
  obtain ⟨l1, l2, h1, buf, s, r, h2, h3, h4⟩ := h
  have hp := heap_lt h1
  have hc := heap_lt h2
  have d0 : ∀ o : Obj, (w.alloc o).cell? ⟨p, 0, none⟩ = some (.chan (some c)) := fun o => by
    rw [cell_of_row (w.alloc o) p 0 _ 62 (0, 0) ((Below.heap_alloc w o p hp).trans h1)]; rfl
  have hcb : ∀ o : Obj, (w.alloc o).heap[c]? = some (.chan room buf false s r false) := fun o => (Below.heap_alloc w o c hc).trans h2
  refine calls_of_loneTo fun cs => ?_
  have e : Frame.enter Try.prog 20 #[.pointer (some ⟨p, 0, none⟩), .int .i64 x] .normal = (base 20).at ⟨#[.pointer (some ⟨p, 0, none⟩), .int .i64 x, undef, undef, undef, undef, undef, undef, undef, undef, undef, undef], []⟩ [.code (Try.f20.body.getD .skip)] := by
    simp [Frame.enter, Frame.at, Try.func20, base, Try.f20]
  rw [e]
  refine LoneTo.goes (n := 14) ?_
  simp only [Try.f20, Option.getD_some]
  s_c stepG_seq
  s_reg
  s_op
  s_op
  s_c stepG_region_end
  s_c stepG_seq
  s_reg
  s_op
  s_op
  s_op
  s_op
  s_c stepG_region_end
  s_c stepG_seq
  s_reg
  s_stop
  refine LoneTo.step (step_lone_select_send_full (c := c) (v := .pointer (some ⟨w.heap.size, 0, none⟩)) (z' := .pointer none) (cap := room) (buf := buf) (s := s) (r := r) (tm := false) (stepG_comm (cases := #[scase c (.pointer (some ⟨w.heap.size, 0, none⟩)) (.pointer none)]) (blocking := false) (shape := .select) (w' := (w.alloc (.cells #[.int .i64 x] 3))) rfl rfl (by decide) (by simp [go_sem, execOp, scase, Act.eval])) (hcb _) (by omega)) ?_
  rw [Frame.finish_at]
  walk_nrm
  refine LoneTo.goes (n := 10) ?_
  s_op
  s_op
  s_c stepG_region_end
  s_c stepG_block
  s_cond false
  s_c stepG_seq
  s_reg
  s_op
  s_c stepG_region_end
  s_c stepG_ret'
  s_stop
  refine LoneTo.done ⟨.returned (.bool false), _, rfl, ⟨rfl, ?_, ?_⟩, rfl, rfl, rfl, rfl, _, Try.func20, by simp [results, Try.f20, Frame.at]⟩
  · exact h'.grow ((Below.refl _ w).alloc (Nat.le_refl _) _)
  · exact RS.of_below ((Below.refl _ w).alloc (Nat.le_refl _) _)

set_option maxRecDepth 100000 in
theorem take_no (lo p c room : Nat) (w : World) (h : BoxR w lo p c room []) : Calls Try.prog 21 #[.pointer (some ⟨p, 0, none⟩)] w fun e w' => e = .returned (.tuple #[.int .i64 0, .bool false]) ∧ w' = w := by
  obtain ⟨l1, l2, h1, buf, s, r, h2, h3, h4⟩ := h
  have d0 : w.cell? ⟨p, 0, none⟩ = some (.chan (some c)) := by rw [cell_of_row w p 0 _ 62 (0, 0) h1]; rfl
  have hb0 : buf = #[] := by simpa using h3
  subst hb0
  refine calls_of_loneTo fun cs => ?_
  have e : Frame.enter Try.prog 21 #[.pointer (some ⟨p, 0, none⟩)] .normal = (base 21).at ⟨#[.pointer (some ⟨p, 0, none⟩), undef, undef, undef, undef, undef, undef, undef, undef, undef, undef, undef, undef, undef, undef, undef, undef, undef], []⟩ [.code (Try.f21.body.getD .skip)] := by
    simp [Frame.enter, Frame.at, Try.func21, base, Try.f21]
  rw [e]
  refine LoneTo.goes (n := 14) ?_
  simp only [Try.f21, Option.getD_some]
  s_c stepG_seq
  s_reg
  s_op
  s_op
  s_c stepG_region_end
  s_c stepG_seq
  s_reg
  s_op
  s_op
  s_op
  s_op
  s_c stepG_region_end
  s_c stepG_seq
  s_reg
  s_stop
  refine LoneTo.step (step_lone_select_default (c := c) (z := .pointer none) (cap := room) (s := s) (r := r) (tm := false) (stepG_comm (cases := #[rcase c (.pointer none)]) (blocking := false) (shape := .select) (w' := w) rfl rfl (by decide) (by simp [go_sem, execOp, rcase, Act.eval])) h2) ?_
  rw [Frame.finish_at]
  walk_nrm
  refine LoneTo.goes (n := 16) ?_
  s_op
  s_op
  s_c stepG_region_end
  s_c stepG_block
  s_cond false
  s_c stepG_seq
  s_reg
  s_op
  s_c stepG_region_end
  s_c stepG_seq
  s_reg
  s_op
  s_op
  s_op
  s_c stepG_region_end
  s_c stepG_ret'
  s_stop
  exact LoneTo.done ⟨.returned (.tuple #[.int .i64 0, .bool false]), _, rfl, ⟨rfl, rfl⟩, rfl, rfl, rfl, rfl, _, Try.func21, by simp [results, Try.f21, Frame.at]⟩

set_option maxRecDepth 100000 in
theorem take_ok (lo p c room : Nat) (x : Int) (Q : List Int) (w : World) (h : BoxR w lo p c room (x :: Q)) : Calls Try.prog 21 #[.pointer (some ⟨p, 0, none⟩)] w fun e w' => e = .returned (.tuple #[.int .i64 x, .bool true]) ∧ BoxR w' lo p c room Q ∧ RS w w' c := by
  obtain ⟨l1, l2, h1, buf, s, r, h2, h3, h4⟩ := h
  have d0 : w.cell? ⟨p, 0, none⟩ = some (.chan (some c)) := by rw [cell_of_row w p 0 _ 62 (0, 0) h1]; rfl
  obtain ⟨b, hb1, hb2, hb3⟩ := h4 0 (by simp)
  have hc := heap_lt h2
  have hbc : b ≠ c := fun e => by subst e; rw [hb3] at h2; cases h2
  have hpc : p ≠ c := fun e => by subst e; rw [h1] at h2; cases h2
  have hg0 : buf.getD 0 undef = .pointer (some ⟨b, 0, none⟩) := by
    rw [Array.getD_eq_getD_getElem?, hb1]; rfl
  have hoth : ∀ (k : Nat) (bf : Array Value) (s' r' : Nat), k ≠ c → (w.setChan c room bf false s' r' false).heap[k]? = w.heap[k]? := fun k bf s' r' hk => by
    simp only [World.setChan]; rw [Array.getElem?_setIfInBounds_ne (Ne.symm hk)]
  have dx : ∀ (bf : Array Value) (s' r' : Nat), (w.setChan c room bf false s' r' false).cell? ⟨b, 0, none⟩ = some (.int .i64 x) := fun bf s' r' => by
    rw [cell_of_row _ b 0 _ 3 (0, 0) ((hoth b bf s' r' hbc).trans hb3)]; rfl
  refine calls_of_loneTo fun cs => ?_
  have e : Frame.enter Try.prog 21 #[.pointer (some ⟨p, 0, none⟩)] .normal = (base 21).at ⟨#[.pointer (some ⟨p, 0, none⟩), undef, undef, undef, undef, undef, undef, undef, undef, undef, undef, undef, undef, undef, undef, undef, undef, undef], []⟩ [.code (Try.f21.body.getD .skip)] := by
    simp [Frame.enter, Frame.at, Try.func21, base, Try.f21]
  rw [e]
  refine LoneTo.goes (n := 14) ?_
  simp only [Try.f21, Option.getD_some]
  s_c stepG_seq
  s_reg
  s_op
  s_op
  s_c stepG_region_end
  s_c stepG_seq
  s_reg
  s_op
  s_op
  s_op
  s_op
  s_c stepG_region_end
  s_c stepG_seq
  s_reg
  s_stop
  refine LoneTo.step (step_lone_select_recv_buf (c := c) (z := .pointer none) (cap := room) (buf := buf) (closed := false) (s := s) (r := r) (tm := false) (stepG_comm (cases := #[rcase c (.pointer none)]) (blocking := false) (shape := .select) (w' := w) rfl rfl (by decide) (by simp [go_sem, execOp, rcase, Act.eval])) h2 (by rw [h3]; simp)) ?_
  rw [hg0, Frame.finish_at]
  walk_nrm
  refine LoneTo.goes (n := 19) ?_
  s_op
  s_op
  s_c stepG_region_end
  s_c stepG_block
  s_cond true
  s_c stepG_seq
  s_reg
  s_op
  s_op
  s_c stepG_region_end
  s_c stepG_seq
  s_reg
  s_op
  s_op
  s_op
  s_op
  s_op
  s_c stepG_region_end
  s_c stepG_ret'
  s_stop
  refine LoneTo.done ⟨.returned (.tuple #[.int .i64 x, .bool true]), _, rfl, ⟨rfl, ?_, ?_⟩, rfl, rfl, rfl, rfl, _, Try.func21, by simp [results, Try.f21, Frame.at]⟩
  · refine ⟨l1, l2, (hoth p _ _ _ hpc).trans h1, buf.extract 1 (Q.length + 1), s, r + 1, heap_setChan _ _ _ _ _ _ _ _ hc, by simp [h3], fun i hi => ?_⟩
    obtain ⟨b', h5, h6, h7⟩ := h4 (i + 1) (by simpa using hi)
    have hbc' : b' ≠ c := fun e => by subst e; rw [h7] at h2; cases h2
    refine ⟨b', ?_, h6, (hoth b' _ _ _ hbc').trans (by simpa using h7)⟩
    rw [Array.getElem?_extract]
    simp only [List.length_cons] at h3
    rw [if_pos (by omega), Nat.add_comm 1 i]
    exact h5
  · exact rs_setChan _ _ _ _ _ _ _ _

set_option maxHeartbeats 400000 in
theorem boxlen_any (lo p c room : Nat) (Q : List Int) (w : World) (h : BoxR w lo p c room Q) : Calls Try.prog 22 #[.pointer (some ⟨p, 0, none⟩)] w fun e w' => e = .returned (.int .i64 Q.length) ∧ w' = w := by
  obtain ⟨l1, l2, h1, buf, s, r, h2, h3, h4⟩ := h
  have d0 : w.cell? ⟨p, 0, none⟩ = some (.chan (some c)) := by rw [cell_of_row w p 0 _ 62 (0, 0) h1]; rfl
  rw [← h3]
  have hlen : (Builtin.len_ #[60] 3 #[.chan (some c)]).run Try.prog w = .ok (.int .i64 buf.size) w := by
    have hg : (getObj c).run Try.prog w = .ok (.chan room buf false s r false) w := by
      simp [getObj, Sem.run, h2]
    simp [Builtin.len_, run_underlying Try.underlying60, go_sem, hg]
  clear h4 h3
  go_enter Try.func22, Try.ntmps22
  go_wp2
  go_ret
  exact ⟨rfl, rfl⟩

theorem HeapR.types {w : World} {p n : Nat} {M : List It} {r : Option Nat} (h : HeapR w p M n r) : (∃ cs, w.heap[p]? = some (.cells cs 53 (0, 0))) ∧ ∀ k, r = some k → ∃ cs, w.heap[k]? = some (.cells cs 55 (0, 0)) := by
  obtain ⟨v, L, h1, rfl, _⟩ := h
  refine ⟨⟨_, h1.1⟩, fun k hk => ?_⟩
  rcases h1.2.2.2 with ⟨rfl, _⟩ | ⟨g, cap, cur, rfl, _, h3, _⟩
  · cases hk
  · cases hk; exact ⟨cur, h3⟩
theorem NS.other {w w' : World} {q n : Nat} {M : List It} {r r' : Option Nat} (hn : NS w w' q r r') (hH : HeapR w q M n r) {k : Nat} {o : Obj} (h : w.heap[k]? = some o) (ho : ∀ cs f, o ≠ .cells cs 53 f ∧ o ≠ .cells cs 55 f) : w'.heap[k]? = some o := by
  obtain ⟨⟨cs, h1⟩, h2⟩ := hH.types
  refine (hn.block k (heap_lt h) (fun e => ?_) (fun e => ?_)).trans h
  · subst e; rw [h1] at h; exact (ho _ _).1 (Option.some.inj h).symm
  · obtain ⟨cs', h3⟩ := h2 k e.symm; rw [h3] at h; exact (ho _ _).2 (Option.some.inj h).symm
theorem BoxR.ns {w w' : World} {lo p c room q n : Nat} {Q : List Int} {M : List It} {r r' : Option Nat} (h : BoxR w lo p c room Q) (hH : HeapR w q M n r) (hn : NS w w' q r r') : BoxR w' lo p c room Q := by
  obtain ⟨l1, l2, h1, buf, s, r, h2, h3, h4⟩ := h
  refine ⟨l1, l2, hn.other hH h1 (by intro cs f; constructor <;> intro e <;> cases e), buf, s, r, hn.other hH h2 (by intro cs f; constructor <;> intro e <;> cases e), h3, fun i hi => ?_⟩
  obtain ⟨b, h5, h6, h7⟩ := h4 i hi
  exact ⟨b, h5, h6, hn.other hH h7 (by intro cs f; constructor <;> intro e <;> cases e)⟩
theorem HeapR.rsc {w w' : World} {lo p c room q n : Nat} {Q : List Int} {M : List It} {r : Option Nat} (hH : HeapR w q M n r) (h : BoxR w lo p c room Q) (hs : RS w w' c) : HeapR w' q M n r := by
  obtain ⟨l1, l2, h1, buf, s, r', h2, h3, h4⟩ := h
  obtain ⟨⟨cs, h5⟩, h6⟩ := hH.types
  refine hH.kept (hs.block q hH.lt.1 (fun e => ?_)) (fun k hk => hs.block k (hH.lt.2 k hk) (fun e => ?_))
  · subst e; rw [h5] at h2; cases h2
  · obtain ⟨cs', h7⟩ := h6 k hk; subst e; rw [h7] at h2; cases h2
theorem RS.below {a b : World} {g D : Nat} (h : RS a b g) (hD : D ≤ a.heap.size) (hg : D ≤ g) : Below D a b := ⟨h.os, h.tape, h.output, h.size, fun k hk => h.block k (by omega) (by omega)⟩
theorem newbox2 (w : World) : Calls Try.prog 19 #[.int .i64 2] w fun e w' => e = .returned (.pointer (some ⟨w.heap.size + 1, 0, none⟩)) ∧ w' = (w.alloc (.chan 2 #[] false 0 0 false)).alloc (.cells #[.chan (some w.heap.size)] 62) := newbox_ok 2 w (by decide) (by decide)

end Go.Proofs.Ytmkbndiliehdcaa
