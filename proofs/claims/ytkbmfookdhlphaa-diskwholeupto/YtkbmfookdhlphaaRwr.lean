/- Append and Put, by the document. -/
import Derived.Test.YtkbmfookdhlphaaRdi
namespace Go.Proofs.Ytkbmfookdhlphaa
open Go.RowKit Go.Sort

theorem Fr.fresh2 {a b c : World} {F F' X : Nat → Prop} (h : Below a.heap.size a b) (hz : ∀ k, X k → a.heap.size ≤ k) (k : Fr b c (fun k => F k ∨ X k) F') : Fr a c F F' := by
  refine ⟨k.os.trans h.os, k.tape.trans h.tape, k.output.trans h.output, Nat.le_trans h.size k.size, fun i hi hF => ?_, fun i hi => ?_⟩
  · refine (k.block i (Nat.lt_of_lt_of_le hi h.size) (fun e => ?_)).trans (h.block i hi)
    rcases e with e | e
    · exact hF e
    · have := hz i e; omega
  · rcases k.foot i hi with e | e
    · rcases e with e | e
      · exact .inl e
      · exact .inr (hz i e)
    · exact .inr (Nat.le_trans h.size e)
theorem RfR.qLt {w : World} {q : Nat} {M : Md} {a : Option Addr} {cap : Nat} {l : List Fe} {dn : Value} {G : List Ge} (h : RfR w q M a cap l dn G) : ∀ k, w.heap.size ≤ k → k ≠ q ∧ dn.ownBlock ≠ some k := fun k hk => ⟨fun e => by have := h.blk.lt; omega, fun e => by have := h.rowLt k e; omega⟩
/- what is known ahead of a call -/
structure RcM (M : Md) (m : Nat) : Prop where
  rk : RkM M
  ok : OkM M
  card : Card M.files m
  le : M.left ≤ 1099511627776
  n : M.done.length + 1 ≤ 2199023255552
set_option maxHeartbeats 4000000 in
set_option maxRecDepth 100000 in
theorem wr0_bad (q : Nat) (M : Md) (a : Option Addr) (cap : Nat) (l : List Fe) (dn : Value) (G : List Ge) (w : World) (m : Nat) (_h : RfR w q M a cap l dn G) (_hr : RcM M m) (s : ByteArray) (hs : s.size ≤ maxLen) (xa : Option Addr) (xc : Nat) (d : List UInt8) (_hx : Bs w xa d) (hn : nameL s.data.toList = false) : Calls Try.prog 54 #[.pointer (some ⟨q, 0, none⟩), .int .i64 0, .string s, .slice xa d.length xc] w fun e w' => e = .returned (.int .i64 1) ∧ w' = w := by
  have HN := rname_any s w hs
  rw [hn] at HN
  have HN := hidOf HN
  clear _h _hr _hx hn hs
  go_enter Try.func54, Try.ntmps54
  go_wp2_with (go_at_call 55; refine HN.out.mono ?_; rintro e w' ⟨rfl, rfl⟩)
  go_ret
  exact ⟨rfl, rfl⟩
set_option maxHeartbeats 4000000 in
set_option maxRecDepth 100000 in
theorem wr0_cut (q : Nat) (M : Md) (a : Option Addr) (cap : Nat) (l : List Fe) (dn : Value) (G : List Ge) (w : World) (m : Nat) (h : RfR w q M a cap l dn G) (_hr : RcM M m) (s : ByteArray) (hs : s.size ≤ maxLen) (xa : Option Addr) (xc : Nat) (d : List UInt8) (_hx : Bs w xa d) (hn : nameL s.data.toList = true) (hl : M.left = 0) : Calls Try.prog 54 #[.pointer (some ⟨q, 0, none⟩), .int .i64 0, .string s, .slice xa d.length xc] w fun e w' => e = .returned (.int .i64 11) ∧ w' = w := by
  have HN := rname_any s w hs
  rw [hn] at HN
  have HN := hidOf HN
  have c2 := h.blk.c2
  rw [hl] at c2
  have lq := h.blk.lt
  clear h _hr _hx hn hs hl
  go_enter Try.func54, Try.ntmps54
  go_wp2_with (go_at_call 55; refine HN.out.mono ?_; rintro e w' ⟨rfl, rfl⟩)
  go_ret
  exact ⟨rfl, rfl⟩
set_option maxHeartbeats 4000000 in
set_option maxRecDepth 100000 in
theorem wr0_no_a (q : Nat) (M : Md) (a : Option Addr) (cap : Nat) (l : List Fe) (dn : Value) (G : List Ge) (w : World) (m : Nat) (h : RfR w q M a cap l dn G) (hr : RcM M m) (s : ByteArray) (hs : s.size ≤ maxLen) (xa : Option Addr) (xc : Nat) (d : List UInt8) (hx : Bs w xa d) (hn : nameL s.data.toList = true) (hl : M.left ≠ 0) (hf : M.files s.data.toList = none) (hm : 64 ≤ m) : Calls Try.prog 54 #[.pointer (some ⟨q, 0, none⟩), .int .i64 0, .string s, .slice xa d.length xc] w fun e w' => e = .returned (.int .i64 2) ∧ Below w.heap.size w w' := by
  have HN := rname_any s w hs
  rw [hn] at HN
  have HN := hidOf HN
  have c2 := h.blk.c2
  have lq := h.blk.lt
  have hl0 : (M.left == 0) = false := beq_false_of_ne hl
  have hxl := hx.1
  have HF := hidOf hf
  have H := hidOf h
  have HM := hidOf hr
  have HX := hidOf hx
  have H33 := hidOf (rfiles_any q M a cap l dn G w h hr.rk hr.ok (by have := hr.n; omega))
  have HMM := hidOf hm
  clear h hr hx hn hs hl hf hm
  go_enter Try.func54, Try.ntmps54
  go_wp2_with (first
    | (go_at_call 55; refine HN.out.mono ?_; rintro e w' ⟨rfl, hw⟩; replace hw := hw.symm; subst hw)
    | (go_at_call 33; refine H33.out.mono ?_; rintro e w1 ⟨a', l', c', rfl, hF, hK, hb⟩; have hlm : l'.length = m := Card.len hF.lst HM.out.card; have hl64 : l'.length ≤ 64 := (by rw [hlm]; exact HM.out.rk.few M.done.length m (by rw [List.take_length, ← HM.out.ok.fl]; exact HM.out.card)); have hz : (64 : Int) ≤ (l'.length : Int) := (by have := HMM.out; omega); have hfi := hF.lst.no HF.out; have HFI := hidOf hfi; have HFS := hidOf hF; have HBB := hidOf hb; clear hF hK hb hfi hlm)
    | (go_at_call 56; have hC := find_any a' c' l' s _ HFS.out.fls (by omega); rw [HFI.out] at hC; refine hC.mono ?_; rintro e w2 ⟨rfl, rfl⟩; clear hC))
  go_ret
  exact ⟨rfl, HBB.out⟩
set_option maxHeartbeats 4000000 in
set_option maxRecDepth 100000 in
theorem wr0_no_b (q : Nat) (M : Md) (a : Option Addr) (cap : Nat) (l : List Fe) (dn : Value) (G : List Ge) (w : World) (m : Nat) (h : RfR w q M a cap l dn G) (hr : RcM M m) (s : ByteArray) (hs : s.size ≤ maxLen) (xa : Option Addr) (xc : Nat) (d : List UInt8) (hx : Bs w xa d) (hn : nameL s.data.toList = true) (hl : M.left ≠ 0) (hf : M.files s.data.toList = none) (hm : m < 64) (hd : 1048576 < d.length) : Calls Try.prog 54 #[.pointer (some ⟨q, 0, none⟩), .int .i64 0, .string s, .slice xa d.length xc] w fun e w' => e = .returned (.int .i64 2) ∧ Below w.heap.size w w' := by
  have HN := rname_any s w hs
  rw [hn] at HN
  have HN := hidOf HN
  have c2 := h.blk.c2
  have lq := h.blk.lt
  have hl0 : (M.left == 0) = false := beq_false_of_ne hl
  have hxl := hx.1
  have HF := hidOf hf
  have H := hidOf h
  have HM := hidOf hr
  have HX := hidOf hx
  have H33 := hidOf (rfiles_any q M a cap l dn G w h hr.rk hr.ok (by have := hr.n; omega))
  have HMM := hidOf hm
  clear h hr hx hn hs hl hf hm
  go_enter Try.func54, Try.ntmps54
  go_wp2_with (first
    | (go_at_call 55; refine HN.out.mono ?_; rintro e w' ⟨rfl, hw⟩; replace hw := hw.symm; subst hw)
    | (go_at_call 33; refine H33.out.mono ?_; rintro e w1 ⟨a', l', c', rfl, hF, hK, hb⟩; have hlm : l'.length = m := Card.len hF.lst HM.out.card; have hl64 : l'.length ≤ 64 := (by rw [hlm]; exact HM.out.rk.few M.done.length m (by rw [List.take_length, ← HM.out.ok.fl]; exact HM.out.card)); have hz : ¬ (64 : Int) ≤ (l'.length : Int) := (by have := HMM.out; omega); have hfi := hF.lst.no HF.out; have HFI := hidOf hfi; have HFS := hidOf hF; have HBB := hidOf hb; clear hF hK hb hfi hlm)
    | (go_at_call 56; have hC := find_any a' c' l' s _ HFS.out.fls (by omega); rw [HFI.out] at hC; refine hC.mono ?_; rintro e w2 ⟨rfl, rfl⟩; clear hC))
  go_ret
  exact ⟨rfl, HBB.out⟩
set_option maxHeartbeats 4000000 in
set_option maxRecDepth 100000 in
theorem wr0_no_c (q : Nat) (M : Md) (a : Option Addr) (cap : Nat) (l : List Fe) (dn : Value) (G : List Ge) (w : World) (m : Nat) (h : RfR w q M a cap l dn G) (hr : RcM M m) (s : ByteArray) (hs : s.size ≤ maxLen) (xa : Option Addr) (xc : Nat) (d : List UInt8) (hx : Bs w xa d) (hn : nameL s.data.toList = true) (hl : M.left ≠ 0) (hf : M.files s.data.toList = none) (hm : m < 64) (hd : d.length ≤ 1048576) : Calls Try.prog 54 #[.pointer (some ⟨q, 0, none⟩), .int .i64 0, .string s, .slice xa d.length xc] w fun e w' => e = .returned (.int .i64 0) ∧ ∃ dn' G', RfR w' q (stepM M (.ap s.data.toList d) (max 1 d.length)) a cap l dn' G' ∧ Fr w w' (RtF q a l dn G) (RtF q a l dn' G') ∧ Kp82 w w' := by
  have HN := rname_any s w hs
  rw [hn] at HN
  have HN := hidOf HN
  have c2 := h.blk.c2
  have lq := h.blk.lt
  have hl0 : (M.left == 0) = false := beq_false_of_ne hl
  have hxl := hx.1
  have HF := hidOf hf
  have H := hidOf h
  have HM := hidOf hr
  have HX := hidOf hx
  have H33 := hidOf (rfiles_any q M a cap l dn G w h hr.rk hr.ok (by have := hr.n; omega))
  have HMM := hidOf hm
  clear h hr hx hn hs hl hf hm
  go_enter Try.func54, Try.ntmps54
  go_wp2_with (first
    | (go_at_call 55; refine HN.out.mono ?_; rintro e w' ⟨rfl, hw⟩; replace hw := hw.symm; subst hw)
    | (go_at_call 33; refine H33.out.mono ?_; rintro e w1 ⟨a', l', c', rfl, hF, hK, hb⟩; have hlm : l'.length = m := Card.len hF.lst HM.out.card; have hl64 : l'.length ≤ 64 := (by rw [hlm]; exact HM.out.rk.few M.done.length m (by rw [List.take_length, ← HM.out.ok.fl]; exact HM.out.card)); have hz : ¬ (64 : Int) ≤ (l'.length : Int) := (by have := HMM.out; omega); have hfi := hF.lst.no HF.out; have HFI := hidOf hfi; have HFS := hidOf hF; have HBB := hidOf hb; clear hF hK hb hfi hlm)
    | (go_at_call 56; have hC := find_any a' c' l' s _ HFS.out.fls (by omega); rw [HFI.out] at hC; refine hC.mono ?_; rintro e w2 ⟨rfl, rfl⟩; clear hC)
    | (at_builtin; refine wpList_append_s _ rfl (.tmp 53) (.tmp 54) rfl (.slice none 0 0) [] rfl (SlR.nil _) (.slice xa d.length xc) d rfl ((HX.out.grow HBB.out).src Try.underlying29 xc) (by simp; omega) ?_; intro z w3 hz3 hap; rw [List.nil_append] at hz3; obtain ⟨za, zc, hzf, hzl, _⟩ := hz3.form; subst hzf; have HZ := hidOf hz3; have HZL := hidOf hzl; clear hzl; have HZN := hidOf (show ∀ k, (Value.slice za d.length zc).ownBlock = some k → w.heap.size ≤ k from fun k hk => hap.new.elim (fun ⟨e, _⟩ => (by rw [e] at hk; cases hk)) (fun ⟨k2, e, h2⟩ => (by rw [e] at hk; cases hk; exact Nat.le_trans HBB.out.size h2))); have HB3 := hidOf (HBB.out.trans ((hap.belowN (Nat.le_refl _) (fun k e => by cases e)).mono HBB.out.size)); clear hz3 hap)
    | (go_at_call 66; have hzb := HZ.out.bs (by omega); refine (did_any q M a cap l dn G _ (H.out.grow HB3.out) ⟨0, s, .empty, za, zc, d⟩ (max 1 d.length) (.ap s.data.toList d) ⟨hzb.1, hzb.2, by show d.length ≤ 1048576; omega, HZL.out⟩ (fun k hk => ⟨(H.out.qLt k (HZN.out k hk.own)).1, (H.out.qLt k (HZN.out k hk.own)).2, HZ.out.lt k hk.own⟩) ⟨⟨rfl, rfl, (List.take_of_length_le (Nat.le_max_right 1 d.length)).symm⟩, rfl⟩ HM.out.le HM.out.n).mono ?_; rintro e w5 ⟨rfl, hp⟩; have HP := hidOf hp; clear hp hzb))
  go_ret
  obtain ⟨dn', g1, g2, g3⟩ := HP.out
  exact ⟨rfl, dn', _, g1, Fr.fresh2 HB3.out (fun k hk => HZN.out k hk.own) g2, (Kp82.below HB3.out).trans g3⟩
set_option maxHeartbeats 4000000 in
set_option maxRecDepth 100000 in
theorem wr0_yes_b (q : Nat) (M : Md) (a : Option Addr) (cap : Nat) (l : List Fe) (dn : Value) (G : List Ge) (w : World) (m : Nat) (h : RfR w q M a cap l dn G) (hr : RcM M m) (s : ByteArray) (hs : s.size ≤ maxLen) (xa : Option Addr) (xc : Nat) (d : List UInt8) (hx : Bs w xa d) (hn : nameL s.data.toList = true) (hl : M.left ≠ 0) (d0 : List UInt8) (hf : M.files s.data.toList = some d0) (hd : 1048576 < d0.length + d.length) : Calls Try.prog 54 #[.pointer (some ⟨q, 0, none⟩), .int .i64 0, .string s, .slice xa d.length xc] w fun e w' => e = .returned (.int .i64 2) ∧ Below w.heap.size w w' := by
  have HN := rname_any s w hs
  rw [hn] at HN
  have HN := hidOf HN
  have c2 := h.blk.c2
  have lq := h.blk.lt
  have hl0 : (M.left == 0) = false := beq_false_of_ne hl
  have hxl := hx.1
  have HF := hidOf hf
  have H := hidOf h
  have HM := hidOf hr
  have HX := hidOf hx
  have H33 := hidOf (rfiles_any q M a cap l dn G w h hr.rk hr.ok (by have := hr.n; omega))
  have hd0l : d0.length ≤ 1048576 := by have h1 := hr.ok.files.1 s.data.toList; unfold cOf at h1; rw [hf] at h1; exact h1
  clear h hr hx hn hs hl hf
  go_enter Try.func54, Try.ntmps54
  go_wp2_with (first
    | (go_at_call 55; refine HN.out.mono ?_; rintro e w' ⟨rfl, hw⟩; replace hw := hw.symm; subst hw)
    | (go_at_call 33; refine H33.out.mono ?_; rintro e w1 ⟨a', l', c', rfl, hF, hK, hb⟩; have hlm : l'.length = m := Card.len hF.lst HM.out.card; have hl64 : l'.length ≤ 64 := (by rw [hlm]; exact HM.out.rk.few M.done.length m (by rw [List.take_length, ← HM.out.ok.fl]; exact HM.out.card)); obtain ⟨i, f, hi, hfi, hk, hd0⟩ := hF.lst.yes HF.out; have hil : i < l'.length := (List.getElem?_eq_some_iff.1 hi).1; have hiz : (i : Int) < (l'.length : Int) := (by omega); obtain ⟨b, off, hab, hbl, y0, y1⟩ := hF.fls.at (Below.refl _ _) hi; subst hab; rw [hd0] at y1; have HFI := hidOf hfi; have HFS := hidOf hF; have HBB := hidOf hb; clear hF hK hb hfi hi hk hlm)
    | (go_at_call 56; have hC := find_any (some ⟨b, off, none⟩) c' l' s _ HFS.out.fls (by omega); rw [HFI.out] at hC; refine hC.mono ?_; rintro e w2 ⟨rfl, rfl⟩; clear hC))
  go_ret
  exact ⟨rfl, HBB.out⟩
set_option maxHeartbeats 4000000 in
set_option maxRecDepth 100000 in
theorem wr0_yes_c (q : Nat) (M : Md) (a : Option Addr) (cap : Nat) (l : List Fe) (dn : Value) (G : List Ge) (w : World) (m : Nat) (h : RfR w q M a cap l dn G) (hr : RcM M m) (s : ByteArray) (hs : s.size ≤ maxLen) (xa : Option Addr) (xc : Nat) (d : List UInt8) (hx : Bs w xa d) (hn : nameL s.data.toList = true) (hl : M.left ≠ 0) (d0 : List UInt8) (hf : M.files s.data.toList = some d0) (hd : d0.length + d.length ≤ 1048576) : Calls Try.prog 54 #[.pointer (some ⟨q, 0, none⟩), .int .i64 0, .string s, .slice xa d.length xc] w fun e w' => e = .returned (.int .i64 0) ∧ ∃ dn' G', RfR w' q (stepM M (.ap s.data.toList d) (max 1 d.length)) a cap l dn' G' ∧ Fr w w' (RtF q a l dn G) (RtF q a l dn' G') ∧ Kp82 w w' := by
  have HN := rname_any s w hs
  rw [hn] at HN
  have HN := hidOf HN
  have c2 := h.blk.c2
  have lq := h.blk.lt
  have hl0 : (M.left == 0) = false := beq_false_of_ne hl
  have hxl := hx.1
  have HF := hidOf hf
  have H := hidOf h
  have HM := hidOf hr
  have HX := hidOf hx
  have H33 := hidOf (rfiles_any q M a cap l dn G w h hr.rk hr.ok (by have := hr.n; omega))
  have hd0l : d0.length ≤ 1048576 := by have h1 := hr.ok.files.1 s.data.toList; unfold cOf at h1; rw [hf] at h1; exact h1
  clear h hr hx hn hs hl hf
  go_enter Try.func54, Try.ntmps54
  go_wp2_with (first
    | (go_at_call 55; refine HN.out.mono ?_; rintro e w' ⟨rfl, hw⟩; replace hw := hw.symm; subst hw)
    | (go_at_call 33; refine H33.out.mono ?_; rintro e w1 ⟨a', l', c', rfl, hF, hK, hb⟩; have hlm : l'.length = m := Card.len hF.lst HM.out.card; have hl64 : l'.length ≤ 64 := (by rw [hlm]; exact HM.out.rk.few M.done.length m (by rw [List.take_length, ← HM.out.ok.fl]; exact HM.out.card)); obtain ⟨i, f, hi, hfi, hk, hd0⟩ := hF.lst.yes HF.out; have hil : i < l'.length := (List.getElem?_eq_some_iff.1 hi).1; have hiz : (i : Int) < (l'.length : Int) := (by omega); obtain ⟨b, off, hab, hbl, y0, y1⟩ := hF.fls.at (Below.refl _ _) hi; subst hab; rw [hd0] at y1; have HFI := hidOf hfi; have HFS := hidOf hF; have HBB := hidOf hb; clear hF hK hb hfi hi hk hlm)
    | (go_at_call 56; have hC := find_any (some ⟨b, off, none⟩) c' l' s _ HFS.out.fls (by omega); rw [HFI.out] at hC; refine hC.mono ?_; rintro e w2 ⟨rfl, rfl⟩; clear hC)
    | (at_builtin; refine wpList_append_s _ rfl (.tmp 53) (.tmp 54) rfl (.slice none 0 0) [] rfl (SlR.nil _) (.slice xa d.length xc) d rfl ((HX.out.grow HBB.out).src Try.underlying29 xc) (by simp; omega) ?_; intro z w3 hz3 hap; rw [List.nil_append] at hz3; obtain ⟨za, zc, hzf, hzl, _⟩ := hz3.form; subst hzf; have HZ := hidOf hz3; have HZL := hidOf hzl; clear hzl; have HZN := hidOf (show ∀ k, (Value.slice za d.length zc).ownBlock = some k → w.heap.size ≤ k from fun k hk => hap.new.elim (fun ⟨e, _⟩ => (by rw [e] at hk; cases hk)) (fun ⟨k2, e, h2⟩ => (by rw [e] at hk; cases hk; exact Nat.le_trans HBB.out.size h2))); have HB3 := hidOf (HBB.out.trans ((hap.belowN (Nat.le_refl _) (fun k e => by cases e)).mono HBB.out.size)); clear hz3 hap)
    | (go_at_call 66; have hzb := HZ.out.bs (by omega); refine (did_any q M a cap l dn G _ (H.out.grow HB3.out) ⟨0, s, .empty, za, zc, d⟩ (max 1 d.length) (.ap s.data.toList d) ⟨hzb.1, hzb.2, by show d.length ≤ 1048576; omega, HZL.out⟩ (fun k hk => ⟨(H.out.qLt k (HZN.out k hk.own)).1, (H.out.qLt k (HZN.out k hk.own)).2, HZ.out.lt k hk.own⟩) ⟨⟨rfl, rfl, (List.take_of_length_le (Nat.le_max_right 1 d.length)).symm⟩, rfl⟩ HM.out.le HM.out.n).mono ?_; rintro e w5 ⟨rfl, hp⟩; have HP := hidOf hp; clear hp hzb))
  go_ret
  obtain ⟨dn', g1, g2, g3⟩ := HP.out
  exact ⟨rfl, dn', _, g1, Fr.fresh2 HB3.out (fun k hk => HZN.out k hk.own) g2, (Kp82.below HB3.out).trans g3⟩
set_option maxHeartbeats 4000000 in
set_option maxRecDepth 100000 in
theorem wr1_bad (q : Nat) (M : Md) (a : Option Addr) (cap : Nat) (l : List Fe) (dn : Value) (G : List Ge) (w : World) (m : Nat) (_h : RfR w q M a cap l dn G) (_hr : RcM M m) (s : ByteArray) (hs : s.size ≤ maxLen) (xa : Option Addr) (xc : Nat) (d : List UInt8) (_hx : Bs w xa d) (hn : nameL s.data.toList = false) : Calls Try.prog 54 #[.pointer (some ⟨q, 0, none⟩), .int .i64 1, .string s, .slice xa d.length xc] w fun e w' => e = .returned (.int .i64 1) ∧ w' = w := by
  have HN := rname_any s w hs
  rw [hn] at HN
  have HN := hidOf HN
  clear _h _hr _hx hn hs
  go_enter Try.func54, Try.ntmps54
  go_wp2_with (go_at_call 55; refine HN.out.mono ?_; rintro e w' ⟨rfl, rfl⟩)
  go_ret
  exact ⟨rfl, rfl⟩
set_option maxHeartbeats 4000000 in
set_option maxRecDepth 100000 in
theorem wr1_cut (q : Nat) (M : Md) (a : Option Addr) (cap : Nat) (l : List Fe) (dn : Value) (G : List Ge) (w : World) (m : Nat) (h : RfR w q M a cap l dn G) (_hr : RcM M m) (s : ByteArray) (hs : s.size ≤ maxLen) (xa : Option Addr) (xc : Nat) (d : List UInt8) (_hx : Bs w xa d) (hn : nameL s.data.toList = true) (hl : M.left = 0) : Calls Try.prog 54 #[.pointer (some ⟨q, 0, none⟩), .int .i64 1, .string s, .slice xa d.length xc] w fun e w' => e = .returned (.int .i64 11) ∧ w' = w := by
  have HN := rname_any s w hs
  rw [hn] at HN
  have HN := hidOf HN
  have c2 := h.blk.c2
  rw [hl] at c2
  have lq := h.blk.lt
  clear h _hr _hx hn hs hl
  go_enter Try.func54, Try.ntmps54
  go_wp2_with (go_at_call 55; refine HN.out.mono ?_; rintro e w' ⟨rfl, rfl⟩)
  go_ret
  exact ⟨rfl, rfl⟩
set_option maxHeartbeats 4000000 in
set_option maxRecDepth 100000 in
theorem wr1_no_a (q : Nat) (M : Md) (a : Option Addr) (cap : Nat) (l : List Fe) (dn : Value) (G : List Ge) (w : World) (m : Nat) (h : RfR w q M a cap l dn G) (hr : RcM M m) (s : ByteArray) (hs : s.size ≤ maxLen) (xa : Option Addr) (xc : Nat) (d : List UInt8) (hx : Bs w xa d) (hn : nameL s.data.toList = true) (hl : M.left ≠ 0) (hf : M.files s.data.toList = none) (hm : 64 ≤ m) : Calls Try.prog 54 #[.pointer (some ⟨q, 0, none⟩), .int .i64 1, .string s, .slice xa d.length xc] w fun e w' => e = .returned (.int .i64 2) ∧ Below w.heap.size w w' := by
  have HN := rname_any s w hs
  rw [hn] at HN
  have HN := hidOf HN
  have c2 := h.blk.c2
  have lq := h.blk.lt
  have hl0 : (M.left == 0) = false := beq_false_of_ne hl
  have hxl := hx.1
  have HF := hidOf hf
  have H := hidOf h
  have HM := hidOf hr
  have HX := hidOf hx
  have H33 := hidOf (rfiles_any q M a cap l dn G w h hr.rk hr.ok (by have := hr.n; omega))
  have HMM := hidOf hm
  clear h hr hx hn hs hl hf hm
  go_enter Try.func54, Try.ntmps54
  go_wp2_with (first
    | (go_at_call 55; refine HN.out.mono ?_; rintro e w' ⟨rfl, hw⟩; replace hw := hw.symm; subst hw)
    | (go_at_call 33; refine H33.out.mono ?_; rintro e w1 ⟨a', l', c', rfl, hF, hK, hb⟩; have hlm : l'.length = m := Card.len hF.lst HM.out.card; have hl64 : l'.length ≤ 64 := (by rw [hlm]; exact HM.out.rk.few M.done.length m (by rw [List.take_length, ← HM.out.ok.fl]; exact HM.out.card)); have hz : (64 : Int) ≤ (l'.length : Int) := (by have := HMM.out; omega); have hfi := hF.lst.no HF.out; have HFI := hidOf hfi; have HFS := hidOf hF; have HBB := hidOf hb; clear hF hK hb hfi hlm)
    | (go_at_call 56; have hC := find_any a' c' l' s _ HFS.out.fls (by omega); rw [HFI.out] at hC; refine hC.mono ?_; rintro e w2 ⟨rfl, rfl⟩; clear hC))
  go_ret
  exact ⟨rfl, HBB.out⟩
set_option maxHeartbeats 4000000 in
set_option maxRecDepth 100000 in
theorem wr1_no_b (q : Nat) (M : Md) (a : Option Addr) (cap : Nat) (l : List Fe) (dn : Value) (G : List Ge) (w : World) (m : Nat) (h : RfR w q M a cap l dn G) (hr : RcM M m) (s : ByteArray) (hs : s.size ≤ maxLen) (xa : Option Addr) (xc : Nat) (d : List UInt8) (hx : Bs w xa d) (hn : nameL s.data.toList = true) (hl : M.left ≠ 0) (hf : M.files s.data.toList = none) (hm : m < 64) (hd : 1048576 < d.length) : Calls Try.prog 54 #[.pointer (some ⟨q, 0, none⟩), .int .i64 1, .string s, .slice xa d.length xc] w fun e w' => e = .returned (.int .i64 2) ∧ Below w.heap.size w w' := by
  have HN := rname_any s w hs
  rw [hn] at HN
  have HN := hidOf HN
  have c2 := h.blk.c2
  have lq := h.blk.lt
  have hl0 : (M.left == 0) = false := beq_false_of_ne hl
  have hxl := hx.1
  have HF := hidOf hf
  have H := hidOf h
  have HM := hidOf hr
  have HX := hidOf hx
  have H33 := hidOf (rfiles_any q M a cap l dn G w h hr.rk hr.ok (by have := hr.n; omega))
  have HMM := hidOf hm
  clear h hr hx hn hs hl hf hm
  go_enter Try.func54, Try.ntmps54
  go_wp2_with (first
    | (go_at_call 55; refine HN.out.mono ?_; rintro e w' ⟨rfl, hw⟩; replace hw := hw.symm; subst hw)
    | (go_at_call 33; refine H33.out.mono ?_; rintro e w1 ⟨a', l', c', rfl, hF, hK, hb⟩; have hlm : l'.length = m := Card.len hF.lst HM.out.card; have hl64 : l'.length ≤ 64 := (by rw [hlm]; exact HM.out.rk.few M.done.length m (by rw [List.take_length, ← HM.out.ok.fl]; exact HM.out.card)); have hz : ¬ (64 : Int) ≤ (l'.length : Int) := (by have := HMM.out; omega); have hfi := hF.lst.no HF.out; have HFI := hidOf hfi; have HFS := hidOf hF; have HBB := hidOf hb; clear hF hK hb hfi hlm)
    | (go_at_call 56; have hC := find_any a' c' l' s _ HFS.out.fls (by omega); rw [HFI.out] at hC; refine hC.mono ?_; rintro e w2 ⟨rfl, rfl⟩; clear hC))
  go_ret
  exact ⟨rfl, HBB.out⟩
set_option maxHeartbeats 4000000 in
set_option maxRecDepth 100000 in
theorem wr1_no_c (q : Nat) (M : Md) (a : Option Addr) (cap : Nat) (l : List Fe) (dn : Value) (G : List Ge) (w : World) (m : Nat) (h : RfR w q M a cap l dn G) (hr : RcM M m) (s : ByteArray) (hs : s.size ≤ maxLen) (xa : Option Addr) (xc : Nat) (d : List UInt8) (hx : Bs w xa d) (hn : nameL s.data.toList = true) (hl : M.left ≠ 0) (hf : M.files s.data.toList = none) (hm : m < 64) (hd : d.length ≤ 1048576) : Calls Try.prog 54 #[.pointer (some ⟨q, 0, none⟩), .int .i64 1, .string s, .slice xa d.length xc] w fun e w' => e = .returned (.int .i64 0) ∧ ∃ dn' G', RfR w' q (stepM M (.pt s.data.toList d) 1) a cap l dn' G' ∧ Fr w w' (RtF q a l dn G) (RtF q a l dn' G') ∧ Kp82 w w' := by
  have HN := rname_any s w hs
  rw [hn] at HN
  have HN := hidOf HN
  have c2 := h.blk.c2
  have lq := h.blk.lt
  have hl0 : (M.left == 0) = false := beq_false_of_ne hl
  have hxl := hx.1
  have HF := hidOf hf
  have H := hidOf h
  have HM := hidOf hr
  have HX := hidOf hx
  have H33 := hidOf (rfiles_any q M a cap l dn G w h hr.rk hr.ok (by have := hr.n; omega))
  have HMM := hidOf hm
  clear h hr hx hn hs hl hf hm
  go_enter Try.func54, Try.ntmps54
  go_wp2_with (first
    | (go_at_call 55; refine HN.out.mono ?_; rintro e w' ⟨rfl, hw⟩; replace hw := hw.symm; subst hw)
    | (go_at_call 33; refine H33.out.mono ?_; rintro e w1 ⟨a', l', c', rfl, hF, hK, hb⟩; have hlm : l'.length = m := Card.len hF.lst HM.out.card; have hl64 : l'.length ≤ 64 := (by rw [hlm]; exact HM.out.rk.few M.done.length m (by rw [List.take_length, ← HM.out.ok.fl]; exact HM.out.card)); have hz : ¬ (64 : Int) ≤ (l'.length : Int) := (by have := HMM.out; omega); have hfi := hF.lst.no HF.out; have HFI := hidOf hfi; have HFS := hidOf hF; have HBB := hidOf hb; clear hF hK hb hfi hlm)
    | (go_at_call 56; have hC := find_any a' c' l' s _ HFS.out.fls (by omega); rw [HFI.out] at hC; refine hC.mono ?_; rintro e w2 ⟨rfl, rfl⟩; clear hC)
    | (at_builtin; refine wpList_append_s _ rfl (.tmp 53) (.tmp 54) rfl (.slice none 0 0) [] rfl (SlR.nil _) (.slice xa d.length xc) d rfl ((HX.out.grow HBB.out).src Try.underlying29 xc) (by simp; omega) ?_; intro z w3 hz3 hap; rw [List.nil_append] at hz3; obtain ⟨za, zc, hzf, hzl, _⟩ := hz3.form; subst hzf; have HZ := hidOf hz3; have HZL := hidOf hzl; clear hzl; have HZN := hidOf (show ∀ k, (Value.slice za d.length zc).ownBlock = some k → w.heap.size ≤ k from fun k hk => hap.new.elim (fun ⟨e, _⟩ => (by rw [e] at hk; cases hk)) (fun ⟨k2, e, h2⟩ => (by rw [e] at hk; cases hk; exact Nat.le_trans HBB.out.size h2))); have HB3 := hidOf (HBB.out.trans ((hap.belowN (Nat.le_refl _) (fun k e => by cases e)).mono HBB.out.size)); clear hz3 hap)
    | (go_at_call 66; have hzb := HZ.out.bs (by omega); refine (did_any q M a cap l dn G _ (H.out.grow HB3.out) ⟨1, s, .empty, za, zc, d⟩ 1 (.pt s.data.toList d) ⟨hzb.1, hzb.2, by show d.length ≤ 1048576; omega, HZL.out⟩ (fun k hk => ⟨(H.out.qLt k (HZN.out k hk.own)).1, (H.out.qLt k (HZN.out k hk.own)).2, HZ.out.lt k hk.own⟩) ⟨⟨rfl, rfl, rfl⟩, rfl⟩ HM.out.le HM.out.n).mono ?_; rintro e w5 ⟨rfl, hp⟩; have HP := hidOf hp; clear hp hzb))
  go_ret
  obtain ⟨dn', g1, g2, g3⟩ := HP.out
  exact ⟨rfl, dn', _, g1, Fr.fresh2 HB3.out (fun k hk => HZN.out k hk.own) g2, (Kp82.below HB3.out).trans g3⟩
set_option maxHeartbeats 4000000 in
set_option maxRecDepth 100000 in
theorem wr1_yes_b (q : Nat) (M : Md) (a : Option Addr) (cap : Nat) (l : List Fe) (dn : Value) (G : List Ge) (w : World) (m : Nat) (h : RfR w q M a cap l dn G) (hr : RcM M m) (s : ByteArray) (hs : s.size ≤ maxLen) (xa : Option Addr) (xc : Nat) (d : List UInt8) (hx : Bs w xa d) (hn : nameL s.data.toList = true) (hl : M.left ≠ 0) (d0 : List UInt8) (hf : M.files s.data.toList = some d0) (hd : 1048576 < d.length) : Calls Try.prog 54 #[.pointer (some ⟨q, 0, none⟩), .int .i64 1, .string s, .slice xa d.length xc] w fun e w' => e = .returned (.int .i64 2) ∧ Below w.heap.size w w' := by
  have HN := rname_any s w hs
  rw [hn] at HN
  have HN := hidOf HN
  have c2 := h.blk.c2
  have lq := h.blk.lt
  have hl0 : (M.left == 0) = false := beq_false_of_ne hl
  have hxl := hx.1
  have HF := hidOf hf
  have H := hidOf h
  have HM := hidOf hr
  have HX := hidOf hx
  have H33 := hidOf (rfiles_any q M a cap l dn G w h hr.rk hr.ok (by have := hr.n; omega))
  have hd0l : d0.length ≤ 1048576 := by have h1 := hr.ok.files.1 s.data.toList; unfold cOf at h1; rw [hf] at h1; exact h1
  clear h hr hx hn hs hl hf
  go_enter Try.func54, Try.ntmps54
  go_wp2_with (first
    | (go_at_call 55; refine HN.out.mono ?_; rintro e w' ⟨rfl, hw⟩; replace hw := hw.symm; subst hw)
    | (go_at_call 33; refine H33.out.mono ?_; rintro e w1 ⟨a', l', c', rfl, hF, hK, hb⟩; have hlm : l'.length = m := Card.len hF.lst HM.out.card; have hl64 : l'.length ≤ 64 := (by rw [hlm]; exact HM.out.rk.few M.done.length m (by rw [List.take_length, ← HM.out.ok.fl]; exact HM.out.card)); obtain ⟨i, f, hi, hfi, hk, hd0⟩ := hF.lst.yes HF.out; have hil : i < l'.length := (List.getElem?_eq_some_iff.1 hi).1; have hiz : (i : Int) < (l'.length : Int) := (by omega); obtain ⟨b, off, hab, hbl, y0, y1⟩ := hF.fls.at (Below.refl _ _) hi; subst hab; rw [hd0] at y1; have HFI := hidOf hfi; have HFS := hidOf hF; have HBB := hidOf hb; clear hF hK hb hfi hi hk hlm)
    | (go_at_call 56; have hC := find_any (some ⟨b, off, none⟩) c' l' s _ HFS.out.fls (by omega); rw [HFI.out] at hC; refine hC.mono ?_; rintro e w2 ⟨rfl, rfl⟩; clear hC))
  go_ret
  exact ⟨rfl, HBB.out⟩
set_option maxHeartbeats 4000000 in
set_option maxRecDepth 100000 in
theorem wr1_yes_c (q : Nat) (M : Md) (a : Option Addr) (cap : Nat) (l : List Fe) (dn : Value) (G : List Ge) (w : World) (m : Nat) (h : RfR w q M a cap l dn G) (hr : RcM M m) (s : ByteArray) (hs : s.size ≤ maxLen) (xa : Option Addr) (xc : Nat) (d : List UInt8) (hx : Bs w xa d) (hn : nameL s.data.toList = true) (hl : M.left ≠ 0) (d0 : List UInt8) (hf : M.files s.data.toList = some d0) (hd : d.length ≤ 1048576) : Calls Try.prog 54 #[.pointer (some ⟨q, 0, none⟩), .int .i64 1, .string s, .slice xa d.length xc] w fun e w' => e = .returned (.int .i64 0) ∧ ∃ dn' G', RfR w' q (stepM M (.pt s.data.toList d) 1) a cap l dn' G' ∧ Fr w w' (RtF q a l dn G) (RtF q a l dn' G') ∧ Kp82 w w' := by
  have HN := rname_any s w hs
  rw [hn] at HN
  have HN := hidOf HN
  have c2 := h.blk.c2
  have lq := h.blk.lt
  have hl0 : (M.left == 0) = false := beq_false_of_ne hl
  have hxl := hx.1
  have HF := hidOf hf
  have H := hidOf h
  have HM := hidOf hr
  have HX := hidOf hx
  have H33 := hidOf (rfiles_any q M a cap l dn G w h hr.rk hr.ok (by have := hr.n; omega))
  have hd0l : d0.length ≤ 1048576 := by have h1 := hr.ok.files.1 s.data.toList; unfold cOf at h1; rw [hf] at h1; exact h1
  clear h hr hx hn hs hl hf
  go_enter Try.func54, Try.ntmps54
  go_wp2_with (first
    | (go_at_call 55; refine HN.out.mono ?_; rintro e w' ⟨rfl, hw⟩; replace hw := hw.symm; subst hw)
    | (go_at_call 33; refine H33.out.mono ?_; rintro e w1 ⟨a', l', c', rfl, hF, hK, hb⟩; have hlm : l'.length = m := Card.len hF.lst HM.out.card; have hl64 : l'.length ≤ 64 := (by rw [hlm]; exact HM.out.rk.few M.done.length m (by rw [List.take_length, ← HM.out.ok.fl]; exact HM.out.card)); obtain ⟨i, f, hi, hfi, hk, hd0⟩ := hF.lst.yes HF.out; have hil : i < l'.length := (List.getElem?_eq_some_iff.1 hi).1; have hiz : (i : Int) < (l'.length : Int) := (by omega); obtain ⟨b, off, hab, hbl, y0, y1⟩ := hF.fls.at (Below.refl _ _) hi; subst hab; rw [hd0] at y1; have HFI := hidOf hfi; have HFS := hidOf hF; have HBB := hidOf hb; clear hF hK hb hfi hi hk hlm)
    | (go_at_call 56; have hC := find_any (some ⟨b, off, none⟩) c' l' s _ HFS.out.fls (by omega); rw [HFI.out] at hC; refine hC.mono ?_; rintro e w2 ⟨rfl, rfl⟩; clear hC)
    | (at_builtin; refine wpList_append_s _ rfl (.tmp 53) (.tmp 54) rfl (.slice none 0 0) [] rfl (SlR.nil _) (.slice xa d.length xc) d rfl ((HX.out.grow HBB.out).src Try.underlying29 xc) (by simp; omega) ?_; intro z w3 hz3 hap; rw [List.nil_append] at hz3; obtain ⟨za, zc, hzf, hzl, _⟩ := hz3.form; subst hzf; have HZ := hidOf hz3; have HZL := hidOf hzl; clear hzl; have HZN := hidOf (show ∀ k, (Value.slice za d.length zc).ownBlock = some k → w.heap.size ≤ k from fun k hk => hap.new.elim (fun ⟨e, _⟩ => (by rw [e] at hk; cases hk)) (fun ⟨k2, e, h2⟩ => (by rw [e] at hk; cases hk; exact Nat.le_trans HBB.out.size h2))); have HB3 := hidOf (HBB.out.trans ((hap.belowN (Nat.le_refl _) (fun k e => by cases e)).mono HBB.out.size)); clear hz3 hap)
    | (go_at_call 66; have hzb := HZ.out.bs (by omega); refine (did_any q M a cap l dn G _ (H.out.grow HB3.out) ⟨1, s, .empty, za, zc, d⟩ 1 (.pt s.data.toList d) ⟨hzb.1, hzb.2, by show d.length ≤ 1048576; omega, HZL.out⟩ (fun k hk => ⟨(H.out.qLt k (HZN.out k hk.own)).1, (H.out.qLt k (HZN.out k hk.own)).2, HZ.out.lt k hk.own⟩) ⟨⟨rfl, rfl, rfl⟩, rfl⟩ HM.out.le HM.out.n).mono ?_; rintro e w5 ⟨rfl, hp⟩; have HP := hidOf hp; clear hp hzb))
  go_ret
  obtain ⟨dn', g1, g2, g3⟩ := HP.out
  exact ⟨rfl, dn', _, g1, Fr.fresh2 HB3.out (fun k hk => HZN.out k hk.own) g2, (Kp82.below HB3.out).trans g3⟩
end Go.Proofs.Ytkbmfookdhlphaa
