/- Remove, Rename, Read, Sync, by the document: all their answers. -/
import Derived.Test.YtkbmfookdhlphaaRmv
namespace Go.Proofs.Ytkbmfookdhlphaa
open Go.RowKit Go.Sort

theorem mv2_any (q : Nat) (M : Md) (a : Option Addr) (cap : Nat) (l : List Fe) (dn : Value) (G : List Ge) (w : World) (m : Nat) (h : RfR w q M a cap l dn G) (hr : RcM M m) (s : ByteArray) (hs : s.size ≤ maxLen) : Calls Try.prog 57 #[.pointer (some ⟨q, 0, none⟩), .agg #[.int .i64 2, .string s, .string s, .slice none 0 0]] w (RoP w q M a cap l dn G (rmE s.data.toList M) (stepM M (.rm s.data.toList) 1)) := by
  unfold rmE
  cases hn : nameL s.data.toList with
  | false =>
    rw [if_neg (by decide)]
    refine (mv2_bad1 q M a cap l dn G w m h hr s s hs hs hn).mono ?_
    rintro e w' ⟨rfl, hb⟩
    exact RoP.no h (by decide) hb
  | true =>
    rw [if_pos rfl]
    by_cases hl : M.left = 0
    · rw [if_pos hl]
      refine (mv2_cut q M a cap l dn G w m h hr s s hs hs hn hn hl).mono ?_
      rintro e w' ⟨rfl, hb⟩
      exact RoP.no h (by decide) hb
    · rw [if_neg hl]
      cases hf : M.files s.data.toList with
      | none =>
        rw [if_neg (by decide)]
        refine (mv2_none q M a cap l dn G w m h hr s s hs hs hn hn hl hf).mono ?_
        rintro e w' ⟨rfl, hb⟩
        exact RoP.no h (by decide) hb
      | some d0 =>
        rw [if_pos (show (some d0).isSome = true from rfl)]
        refine (mv2_ok q M a cap l dn G w m h hr s s hs hs hn hn hl d0 hf).mono ?_
        intro e w' hp
        exact RoP.yes hp
theorem mv3_any (q : Nat) (M : Md) (a : Option Addr) (cap : Nat) (l : List Fe) (dn : Value) (G : List Ge) (w : World) (m : Nat) (h : RfR w q M a cap l dn G) (hr : RcM M m) (s t : ByteArray) (hs : s.size ≤ maxLen) (ht : t.size ≤ maxLen) : Calls Try.prog 57 #[.pointer (some ⟨q, 0, none⟩), .agg #[.int .i64 3, .string s, .string t, .slice none 0 0]] w (RoP w q M a cap l dn G (rnE s.data.toList t.data.toList M) (stepM M (.rn s.data.toList t.data.toList) 1)) := by
  unfold rnE
  cases hn : nameL s.data.toList with
  | false =>
    rw [if_neg (fun e => by cases e.1)]
    refine (mv3_bad1 q M a cap l dn G w m h hr s t hs ht hn).mono ?_
    rintro e w' ⟨rfl, hb⟩
    exact RoP.no h (by decide) hb
  | true =>
    cases hn2 : nameL t.data.toList with
    | false =>
      rw [if_neg (fun e => by cases e.2)]
      refine (mv3_bad2 q M a cap l dn G w m h hr s t hs ht hn hn2).mono ?_
      rintro e w' ⟨rfl, hb⟩
      exact RoP.no h (by decide) hb
    | true =>
      rw [if_pos ⟨rfl, rfl⟩]
      by_cases hl : M.left = 0
      · rw [if_pos hl]
        refine (mv3_cut q M a cap l dn G w m h hr s t hs ht hn hn2 hl).mono ?_
        rintro e w' ⟨rfl, hb⟩
        exact RoP.no h (by decide) hb
      · rw [if_neg hl]
        cases hf : M.files s.data.toList with
        | none =>
          rw [if_neg (by decide)]
          refine (mv3_none q M a cap l dn G w m h hr s t hs ht hn hn2 hl hf).mono ?_
          rintro e w' ⟨rfl, hb⟩
          exact RoP.no h (by decide) hb
        | some d0 =>
          rw [if_pos (show (some d0).isSome = true from rfl)]
          refine (mv3_ok q M a cap l dn G w m h hr s t hs ht hn hn2 hl d0 hf).mono ?_
          intro e w' hp
          exact RoP.yes hp
set_option maxHeartbeats 4000000 in
theorem rremove_any (q : Nat) (M : Md) (a : Option Addr) (cap : Nat) (l : List Fe) (dn : Value) (G : List Ge) (w : World) (m : Nat) (h : RfR w q M a cap l dn G) (hr : RcM M m) (s : ByteArray) (hs : s.size ≤ maxLen) : Calls Try.prog 28 #[.pointer (some ⟨q, 0, none⟩), .string s] w (RoP w q M a cap l dn G (rmE s.data.toList M) (stepM M (.rm s.data.toList) 1)) := by
  have HC := hidOf (mv2_any q M a cap l dn G w m h hr s hs)
  clear h hr hs
  go_enter Try.func28, Try.ntmps28
  go_wp2_with (go_at_call 57; refine HC.out.mono ?_; rintro e w' ⟨rfl, hp⟩; have HR := hidOf hp; clear hp)
  go_ret
  exact ⟨rfl, HR.out⟩
set_option maxHeartbeats 4000000 in
theorem rrename_any (q : Nat) (M : Md) (a : Option Addr) (cap : Nat) (l : List Fe) (dn : Value) (G : List Ge) (w : World) (m : Nat) (h : RfR w q M a cap l dn G) (hr : RcM M m) (s t : ByteArray) (hs : s.size ≤ maxLen) (ht : t.size ≤ maxLen) : Calls Try.prog 29 #[.pointer (some ⟨q, 0, none⟩), .string s, .string t] w (RoP w q M a cap l dn G (rnE s.data.toList t.data.toList M) (stepM M (.rn s.data.toList t.data.toList) 1)) := by
  have HC := hidOf (mv3_any q M a cap l dn G w m h hr s t hs ht)
  clear h hr hs ht
  go_enter Try.func29, Try.ntmps29
  go_wp2_with (go_at_call 57; refine HC.out.mono ?_; rintro e w' ⟨rfl, hp⟩; have HR := hidOf hp; clear hp)
  go_ret
  exact ⟨rfl, HR.out⟩
/- Read -/
def rdE (nm : Nm) (M : Md) : Int := if nameL nm = true then (if (M.files nm).isSome = true then 0 else 12) else 1
def rdD (nm : Nm) (M : Md) : List UInt8 := if nameL nm = true then cOf M.files nm else []
def RdP (w : World) (nm : Nm) (M : Md) : Ending → World → Prop := fun e w' => ∃ z, e = .returned (.tuple #[z, .int .i64 (rdE nm M)]) ∧ SlR w' z (rdD nm M) ∧ Frs w z ∧ Below w.heap.size w w'
set_option maxHeartbeats 4000000 in
set_option maxRecDepth 100000 in
theorem rread_any (q : Nat) (M : Md) (a : Option Addr) (cap : Nat) (l : List Fe) (dn : Value) (G : List Ge) (w : World) (m : Nat) (h : RfR w q M a cap l dn G) (hr : RcM M m) (s : ByteArray) (hs : s.size ≤ maxLen) : Calls Try.prog 27 #[.pointer (some ⟨q, 0, none⟩), .string s] w (RdP w s.data.toList M) := by
  have HN := rname_any s w hs
  cases hn : nameL s.data.toList with
  | false =>
    rw [hn] at HN
    have HN := hidOf HN
    have HE : Hid (RdP w s.data.toList M (.returned (.tuple #[.slice none 0 0, .int .i64 1])) w) := hidOf ⟨_, by unfold rdE; rw [hn]; rfl, by unfold rdD; rw [hn]; exact SlR.nil w, fun k hk => (by cases hk), Below.refl _ _⟩
    clear h hr hn hs
    go_enter Try.func27, Try.ntmps27
    go_wp2_with (go_at_call 55; refine HN.out.mono ?_; rintro e w' ⟨rfl, hw⟩; replace hw := hw.symm; subst hw)
    go_ret2
    exact HE.out
  | true =>
    rw [hn] at HN
    have HN := hidOf HN
    have H33 := hidOf (rfiles_any q M a cap l dn G w h hr.rk hr.ok (by have := hr.n; omega))
    have HM := hidOf hr
    have HNM := hidOf hn
    clear h hr hn hs
    cases hf : M.files s.data.toList with
    | none =>
      have HF := hidOf hf
      clear hf
      go_enter Try.func27, Try.ntmps27
      go_wp2_with (first
        | (go_at_call 55; refine HN.out.mono ?_; rintro e w' ⟨rfl, hw⟩; replace hw := hw.symm; subst hw)
        | (go_at_call 33; refine H33.out.mono ?_; rintro e w1 ⟨a', l', c', rfl, hF, hK, hb⟩; have hlm : l'.length = m := Card.len hF.lst HM.out.card; have hl64 : l'.length ≤ 64 := (by rw [hlm]; exact HM.out.rk.few M.done.length m (by rw [List.take_length, ← HM.out.ok.fl]; exact HM.out.card)); have HFI := hidOf (hF.lst.no HF.out); have HFS := hidOf hF; have HBB := hidOf hb; clear hF hK hb hlm)
        | (go_at_call 56; have hC := find_any a' c' l' s _ HFS.out.fls (by omega); rw [HFI.out] at hC; refine hC.mono ?_; rintro e w2 ⟨rfl, hw⟩; replace hw := hw.symm; subst hw; clear hC))
      go_ret2
      exact ⟨_, by unfold rdE; rw [if_pos HNM.out, HF.out]; rfl, by unfold rdD cOf; rw [if_pos HNM.out, HF.out]; exact SlR.nil _, fun k hk => (by cases hk), HBB.out⟩
    | some d =>
      have hdl : d.length ≤ 1048576 := by have h1 := HM.out.ok.files.1 s.data.toList; unfold cOf at h1; rw [hf] at h1; exact h1
      have HF := hidOf hf
      clear hf
      go_enter Try.func27, Try.ntmps27
      go_wp2_with (first
        | (go_at_call 55; refine HN.out.mono ?_; rintro e w' ⟨rfl, hw⟩; replace hw := hw.symm; subst hw)
        | (go_at_call 33; refine H33.out.mono ?_; rintro e w1 ⟨a', l', c', rfl, hF, hK, hb⟩; have hlm : l'.length = m := Card.len hF.lst HM.out.card; have hl64 : l'.length ≤ 64 := (by rw [hlm]; exact HM.out.rk.few M.done.length m (by rw [List.take_length, ← HM.out.ok.fl]; exact HM.out.card)); obtain ⟨i, f, hi, hfi, hk, hd0⟩ := hF.lst.yes HF.out; have hil : i < l'.length := (List.getElem?_eq_some_iff.1 hi).1; have hiz : (i : Int) < (l'.length : Int) := (by omega); have hi0 : (0 : Int) ≤ (i : Int) := (by omega); obtain ⟨b, off, hab, hbl, y0, y1⟩ := hF.fls.at (Below.refl _ _) hi; subst hab; have HBS := hidOf (hF.bs f (List.mem_of_getElem? hi)).1; rw [hd0] at y1 HBS; have HFI := hidOf hfi; have HFS := hidOf hF; have HBB := hidOf hb; clear hF hK hb hfi hi hk hlm hd0)
        | (go_at_call 56; have hC := find_any (some ⟨b, off, none⟩) c' l' s _ HFS.out.fls (by omega); rw [HFI.out] at hC; refine hC.mono ?_; rintro e w2 ⟨rfl, hw⟩; replace hw := hw.symm; subst hw; clear hC)
        | (at_builtin; refine wpList_append_s _ rfl (.tmp 19) (.tmp 24) rfl (.slice none 0 0) [] rfl (SlR.nil _) (.slice f.a d.length f.cap) d rfl (HBS.out.src Try.underlying29 f.cap) (by simp; omega) ?_; intro z w3 hz3 hap; rw [List.nil_append] at hz3; obtain ⟨za, zc, hzf, _⟩ := hz3.form; subst hzf; have HZ := hidOf hz3; have HZN := hidOf (show ∀ k, (Value.slice za d.length zc).ownBlock = some k → w.heap.size ≤ k from fun k hk => hap.new.elim (fun ⟨e, _⟩ => (by rw [e] at hk; cases hk)) (fun ⟨k2, e, h2⟩ => (by rw [e] at hk; cases hk; exact Nat.le_trans HBB.out.size h2))); have HB3 := hidOf (HBB.out.trans ((hap.belowN (Nat.le_refl _) (fun k e => by cases e)).mono HBB.out.size)); clear hz3 hap))
      go_ret2
      exact ⟨_, by unfold rdE; rw [if_pos HNM.out, HF.out]; rfl, by unfold rdD cOf; rw [if_pos HNM.out, HF.out]; exact HZ.out, HZN.out, HB3.out⟩
/- Sync -/
set_option maxHeartbeats 4000000 in
theorem rsync_cut (q : Nat) (M : Md) (a : Option Addr) (cap : Nat) (l : List Fe) (dn : Value) (G : List Ge) (w : World) (h : RfR w q M a cap l dn G) (hl : M.left = 0) : Calls Try.prog 30 #[.pointer (some ⟨q, 0, none⟩)] w fun e w' => e = .returned (.int .i64 11) ∧ w' = w := by
  have c2 := h.blk.c2
  rw [hl] at c2
  have lq := h.blk.lt
  clear h hl
  go_enter Try.func30, Try.ntmps30
  go_wp2
  go_ret
  exact ⟨rfl, rfl⟩
theorem RfR.reset {w w1 w5 : World} {q : Nat} {M : Md} {a a' : Option Addr} {cap c' : Nat} {l l' : List Fe} {dn : Value} {G : List Ge} {fs : FS} {lf : Int} (h : RfR w q M a cap l dn G) (hF : FlS w1 a' l' fs) (hK : ∀ i, FlK a' l' i → RtB a l G i ∨ (w.heap.size ≤ i ∧ i < w1.heap.size)) (hb : Below w.heap.size w w1) (hblk : RfB w5 q (.slice a' l'.length c') (.slice none 0 0) lf) (hos : w5.os = w1.os ∧ w5.tape = w1.tape ∧ w5.output = w1.output) (hsz : w5.heap.size = w1.heap.size) (hoth : ∀ k, k ≠ q → w5.heap[k]? = w1.heap[k]?) (fl : FS) :
    RfR w5 q ⟨fl, fs, [], lf⟩ a' c' l' (.slice none 0 0) [] ∧ Fr w w5 (RtF q a l dn G) (RtF q a' l' (.slice none 0 0) []) ∧ Kp82 w w5 := by
  have hq := h.blk.lt
  have hK2 : ∀ k, FlK a' l' k → k ≠ q ∧ k < w1.heap.size := fun k hk => by
    rcases hK k hk with e | e
    · exact ⟨(h.sep k e).1, Nat.lt_of_lt_of_le (h.sep k e).2.2 hb.size⟩
    · exact ⟨by omega, e.2⟩
  have hR : ∀ k, RtB a' l' [] k → FlK a' l' k := fun k hk => by
    rcases hk with hk | ⟨g, hg, _⟩
    · exact hk
    · cases hg
  refine ⟨⟨hblk, hF.kept (Nat.le_of_eq hsz.symm) (fun k _ hk => hoth k (hK2 k hk).1), ⟨rfl, .inl ⟨rfl, rfl⟩⟩, rfl, fun i g y hi => (by simp at hi), fun g hg => (by cases hg), fun k hk => ⟨(hK2 k (hR k hk)).1, (fun e => by cases e), by rw [hsz]; exact (hK2 k (hR k hk)).2⟩⟩, ⟨hos.1.trans hb.os, hos.2.1.trans hb.tape, hos.2.2.trans hb.output, by rw [hsz]; exact hb.size, fun k hk hn => (hoth k (fun e => hn (.inl e))).trans (hb.block k hk), fun k hk => ?_⟩, h.kp82 (fun k hk h1 _ => (hoth k h1).trans (hb.block k hk))⟩
  rcases hk with e | e | e
  · exact .inl (.inl e)
  · cases e
  · rcases hK k (hR k e) with e | e
    · exact .inl (.inr (.inr e))
    · exact .inr e.1
set_option maxHeartbeats 4000000 in
set_option maxRecDepth 100000 in
theorem rsync_ok (q : Nat) (M : Md) (a : Option Addr) (cap : Nat) (l : List Fe) (dn : Value) (G : List Ge) (w : World) (m : Nat) (h : RfR w q M a cap l dn G) (hr : RcM M m) (hl : M.left ≠ 0) : Calls Try.prog 30 #[.pointer (some ⟨q, 0, none⟩)] w fun e w' => e = .returned (.int .i64 0) ∧ ∃ a' c' l', RfR w' q (syncM M) a' c' l' (.slice none 0 0) [] ∧ Fr w w' (RtF q a l dn G) (RtF q a' l' (.slice none 0 0) []) ∧ Kp82 w w' := by
  have c2 := h.blk.c2
  have lq := h.blk.lt
  have hl0 : (M.left == 0) = false := beq_false_of_ne hl
  have hle := hr.le
  have HM := hidOf hr
  have H := hidOf h
  have H33 := hidOf (rfiles_any q M a cap l dn G w h hr.rk hr.ok (by have := hr.n; omega))
  clear h hr hl
  go_enter Try.func30, Try.ntmps30
  go_wp2_with (first
    | (go_at_call 33; refine H33.out.mono ?_; rintro e w1 ⟨a', l', c', rfl, hF, hK, hb⟩; have HFS := hidOf hF; have HK := hidOf hK; have HBB := hidOf hb; have HB1 : Hid (RfB w1 q (.slice a l.length cap) dn M.left) := hidOf (H.out.grow hb).blk; have lq1 := HB1.out.lt; have fz1 := HB1.out.fr; have e0 := HB1.out.c0; have e1 := HB1.out.c1; clear hF hK hb)
    | (go_at_call 58; refine (counted_any q _ _ M.left _ (rfB_dn (rfB_dv HB1.out (.slice a' l'.length c')) (.slice none 0 0)) hle).mono ?_; rintro e w5 ⟨rfl, hw5⟩; have HW5 := hidOf hw5; clear hw5))
  go_ret
  have hB := rfB_dn (rfB_dv HB1.out (.slice a' l'.length c')) (.slice none 0 0)
  have hw := HW5.out
  have hoth : ∀ k, k ≠ q → w5.heap[k]? = w1.heap[k]? := fun k hk => by
    split at hw
    · rw [hw, Below.heap_setCell _ ⟨q, 2, none⟩ _ k hk, Below.heap_setCell _ ⟨q, 1, none⟩ _ k hk, Below.heap_setCell _ ⟨q, 0, none⟩ _ k hk]
    · rw [hw, Below.heap_setCell _ ⟨q, 1, none⟩ _ k hk, Below.heap_setCell _ ⟨q, 0, none⟩ _ k hk]
  have hblk : RfB w5 q (.slice a' l'.length c') (.slice none 0 0) (lessOne M.left) := by
    unfold lessOne
    split at hw
    · rename_i hl; rw [if_pos hl, hw]; exact rfB_left hB _
    · rename_i hl; rw [if_neg hl, hw]; exact hB
  obtain ⟨f1, f2, f3⟩ := H.out.reset HFS.out HK.out HBB.out hblk (by split at hw <;> rw [hw] <;> exact ⟨rfl, rfl, rfl⟩) (by split at hw <;> rw [hw] <;> simp) hoth M.files
  refine ⟨rfl, a', c', l', ?_, f2, f3⟩
  unfold syncM
  rw [← HM.out.ok.fl]
  exact f1
end Go.Proofs.Ytkbmfookdhlphaa
