/- does: a step on both disks: Sync, Crash, Read, and steps of no kind. -/
import Derived.Test.YtkbmfookdhlphaaRds
namespace Go.Proofs.Ytkbmfookdhlphaa
open Go.RowKit Go.Maps Go.Sort

theorem Own1.other {w0 w : World} {F R : Nat → Prop} {v : Value} {n g j : Nat} {u : Value} (h : Own1 w0 w F R v n) (hn : v.ownBlock ≠ some g) : Own1 w0 (w.setCell ⟨g, j, none⟩ u) F R v n := by
  rcases h with h | ⟨g', cap, cur, rfl, h2, h3⟩
  · exact .inl h
  · exact .inr ⟨g', cap, cur, rfl, (Below.heap_setCell w ⟨g, j, none⟩ u g' (fun e => hn (by have e : g' = g := e; rw [e]; rfl))).trans h2, h3⟩
theorem Two.more2 {w0 w : World} {p q : Nat} {M N : Md} {cnt cn : Nat} {F R : Nat → Prop} (h : Two w0 w p q M N cnt cn F R) (hc : cnt + 1 ≤ 4398046511104) : Two w0 w p q M N (cnt + 1) (cn + 1) F R := ⟨⟨h.d.1.more hc, h.d.2⟩, h.r, ⟨h.k.rk, h.k.ok, h.k.le, Nat.le_succ_of_le h.k.n⟩, h.apart, h.loF, h.loR, h.bel⟩
theorem rdD_le {M : Md} (h : OkM M) (nm : Nm) : (rdD nm M).length ≤ 1048576 := by
  unfold rdD
  split
  · exact h.files.1 nm
  · exact Nat.zero_le _
theorem cread_any (p cnt : Nat) (M : Md) (F : Nat → Prop) (w : World) (h : Dsk w p M cnt F) (s : ByteArray) : Calls Try.prog 23 #[.pointer (some ⟨p, 0, none⟩), .string s] w (RdP w s.data.toList M) := by
  obtain ⟨⟨bF, bD, DF, DD, dn, G, hd, rfl⟩, hM⟩ := h
  unfold RdP rdE rdD
  cases hn : nameL s.data.toList with
  | false =>
    refine (read_bad s p w hn).mono ?_
    rintro e w' ⟨rfl, rfl⟩
    exact ⟨_, rfl, SlR.nil _, fun k hk => (by cases hk), Below.refl _ _⟩
  | true =>
    rw [if_pos rfl, if_pos rfl]
    cases hf : M.files s.data.toList with
    | none =>
      refine (read_none s p cnt bF bD M DF DD dn G w hd hn hf).mono ?_
      rintro e w' ⟨rfl, rfl⟩
      exact ⟨_, rfl, by unfold cOf; rw [hf]; exact SlR.nil _, fun k hk => (by cases hk), Below.refl _ _⟩
    | some d =>
      have hdl : d.length ≤ 1048576 := by have h1 := hM.files.1 s.data.toList; unfold cOf at h1; rw [hf] at h1; exact h1
      refine (read_ok s d p cnt bF bD M DF DD dn G w hd hn hf hdl).mono ?_
      rintro e w' ⟨z, rfl, h1, h2, h3⟩
      exact ⟨z, rfl, by unfold cOf; rw [hf]; exact h1, h2, h3⟩
set_option maxHeartbeats 4000000 in
set_option maxRecDepth 100000 in
theorem does_5 (w0 w : World) (p q : Nat) (M N : Md) (cnt cn : Nat) (F R : Nat → Prop) (h : Two w0 w p q M N cnt cn F R) (hc : cnt + 1 ≤ 2199023255552) (hcn : cn + 1 ≤ 2199023255552) (nm to : ByteArray) (_hnm : nm.size ≤ maxLen) (_hto : to.size ≤ maxLen) (xa : Option Addr) (xc : Nat) (d : List UInt8) (hx : Bs w xa d) (_hxl : d ≠ [] → ∀ k, oB xa k → k < w0.heap.size) (n : Int) : Calls Try.prog 12 #[.pointer (some ⟨p, 0, none⟩), .pointer (some ⟨q, 0, none⟩), .agg #[.int .i64 5, .string nm, .string to, .slice xa d.length xc, .int .i64 n]] w (DoP w0 w F R p q M N cnt cn 5 nm.data.toList to.data.toList d n) := by
  obtain ⟨m, hr⟩ := h.rc hcn
  obtain ⟨mM, hcm⟩ := h.cd
  have HCM := hidOf hcm
  clear hcm
  have hxd := hx.1
  have HRC := hidOf hr
  have H := hidOf h
  have HX := hidOf hx
  have HNF : Hid (¬ F w.heap.size) := hidOf (fun e => Nat.lt_irrefl _ (h.d.fLt _ e))
  have HNR : Hid (¬ R w.heap.size) := hidOf (fun e => Nat.lt_irrefl _ (h.r.lt _ e))
  clear h hr hx _hxl
  obtain ⟨E1, hE1⟩ : ∃ E, E = syE M := ⟨_, rfl⟩
  obtain ⟨E2, hE2⟩ : ∃ E, E = syE N := ⟨_, rfl⟩
  have HE1 := hidOf hE1
  have HE2 := hidOf hE2
  clear hE1 hE2
  go_enter Try.func12, Try.ntmps12
  go_wp2_with (first
    | (at_builtin; refine wpList_append_s _ rfl (.tmp 15) (.tmp 17) rfl (.slice none 0 0) [] rfl (SlR.nil _) (.slice xa d.length xc) d rfl ((HX.out.alloc _).src Try.underlying29 xc) (by simp; omega) ?_; intro z w2 hz hap; rw [List.nil_append] at hz; obtain ⟨za, zc, hzf, _⟩ := hz.form; subst hzf; have HZ := hidOf hz; have HZN := hidOf (show ∀ k, (Value.slice za d.length zc).ownBlock = some k → w.heap.size ≤ k from fun k hk => hap.new.elim (fun ⟨e, _⟩ => (by rw [e] at hk; cases hk)) (fun ⟨k2, e, h2⟩ => (by rw [e] at hk; cases hk; simp at h2; omega))); have hb2 := hap.belowN (Nat.le_refl _) (fun k e => by cases e); have HBX : Hid (w2.heap[w.heap.size]? = some (.cells #[.int .i64 5, .string nm, .string to, .slice xa d.length xc, .int .i64 n] 31 (0, 0))) := hidOf ((hb2.block _ (by simp)).trans (heap_alloc_new w _)); have HB2 : Hid (Below w.heap.size w w2) := hidOf ((below1 w (.cells #[.int .i64 5, .string nm, .string to, .slice xa d.length xc, .int .i64 n] 31)).trans (hb2.mono (by simp))); have HT : Hid (Two w0 w2 p q M N cnt cn F R) := hidOf (H.out.below HB2.out); have HO : Hid (Own1 w0 w2 F R (.slice za d.length zc) d.length) := hidOf (Own1.new H.out HZ.out HZN.out); obtain ⟨x0, x1, x2, x3, x4, xl⟩ := box31 HBX.out; clear hz hap hb2)
    | (go_at_call 20; refine (two_sy1 HT.out (by omega)).mono ?_; rintro e w3 ⟨he, F', hh, hf⟩; rw [← HE1.out] at he; subst he; have HH := hidOf hh; have HO3 := hidOf (HO.out.fr1 hf); have HKP3 := hidOf ((Keep.bel (F := F) (R := R) HB2.out).fr1 HB2.out.size hf); have HS3 := hidOf (Nat.le_trans HB2.out.size hf.size); clear hh hf)
    | (go_at_call 30; refine (two_sy2 HH.out HRC.out).mono ?_; rintro e w4 ⟨he, R', ht, hf⟩; rw [← HE2.out] at he; subst he; have HT4 := hidOf ht; have HO4 := hidOf (HO3.out.fr2 hf); have HKP4 := hidOf (HKP3.out.fr2 HS3.out hf); clear ht hf))
  go_loopw [14] (fun i wr => ∃ k : Nat, k ≤ d.length ∧ i = .int .i64 (k : Int) ∧ Hid (Two w0 wr p q (mv (syE M) (syncM M) M) (mv (syE N) (syncM N) N) cnt (cn + 1) F' R' ∧ Own1 w0 wr F' R' (.slice za d.length zc) d.length ∧ Keep w wr F R)) (fun i _ => d.length - (intOf i).toNat)
  case atStart => exact ⟨0, Nat.zero_le _, rfl, hidOf ⟨HT4.out, HO4.out, HKP4.out⟩⟩
  case round =>
    obtain ⟨k, hk, rfl, HK⟩ := hrel
    by_cases hlt : k < d.length
    · have hltz : (k : Int) < (d.length : Int) := by omega
      obtain ⟨g, gc, x, hv, hgl, y0, yf⟩ := HK.out.2.1.at hlt
      obtain ⟨rfl, rfl⟩ : za = some ⟨g, 0, none⟩ ∧ zc = gc := by cases hv; exact ⟨rfl, rfl⟩
      have HST := hidOf (show _ ∧ _ ∧ _ from ⟨(HK.out.1.set HK.out.2.1 k (.int .u8 98)).1, (HK.out.1.set HK.out.2.1 k (.int .u8 98)).2, HK.out.2.2.set (HZN.out g rfl) k (.int .u8 98)⟩)
      clear hv
      go_wp2
      go_roundw
      case rel => exact ⟨k + 1, by omega, by go_num, HST⟩
      case measure => simp [intOf]; omega
    · have hltz : ¬ (k : Int) < (d.length : Int) := by omega
      go_wp2
      go_ret
      exact dop_mk (fun e => by have h12 : E1 = E2 := (HE1.out.trans (by subst e; rfl)).trans HE2.out.symm; simp [h12]) (HK.out.1.more (by omega)) ⟨mM, HCM.out, rfl⟩ ⟨m, HRC.out.card, rfl⟩ HK.out.2.2
set_option maxHeartbeats 4000000 in
set_option maxRecDepth 100000 in
theorem does_7 (w0 w : World) (p q : Nat) (M N : Md) (cnt cn : Nat) (F R : Nat → Prop) (h : Two w0 w p q M N cnt cn F R) (hc : cnt + 1 ≤ 2199023255552) (hcn : cn + 1 ≤ 2199023255552) (nm to : ByteArray) (_hnm : nm.size ≤ maxLen) (_hto : to.size ≤ maxLen) (xa : Option Addr) (xc : Nat) (d : List UInt8) (hx : Bs w xa d) (_hxl : d ≠ [] → ∀ k, oB xa k → k < w0.heap.size) (n : Int) : Calls Try.prog 12 #[.pointer (some ⟨p, 0, none⟩), .pointer (some ⟨q, 0, none⟩), .agg #[.int .i64 7, .string nm, .string to, .slice xa d.length xc, .int .i64 n]] w (DoP w0 w F R p q M N cnt cn 7 nm.data.toList to.data.toList d n) := by
  obtain ⟨m, hr⟩ := h.rc hcn
  obtain ⟨mM, hcm⟩ := h.cd
  have HCM := hidOf hcm
  clear hcm
  have hxd := hx.1
  have HRC := hidOf hr
  have H := hidOf h
  have HX := hidOf hx
  have HNF : Hid (¬ F w.heap.size) := hidOf (fun e => Nat.lt_irrefl _ (h.d.fLt _ e))
  have HNR : Hid (¬ R w.heap.size) := hidOf (fun e => Nat.lt_irrefl _ (h.r.lt _ e))
  clear h hr hx _hxl
  go_enter Try.func12, Try.ntmps12
  go_wp2_with (first
    | (at_builtin; refine wpList_append_s _ rfl (.tmp 15) (.tmp 17) rfl (.slice none 0 0) [] rfl (SlR.nil _) (.slice xa d.length xc) d rfl ((HX.out.alloc _).src Try.underlying29 xc) (by simp; omega) ?_; intro z w2 hz hap; rw [List.nil_append] at hz; obtain ⟨za, zc, hzf, _⟩ := hz.form; subst hzf; have HZ := hidOf hz; have HZN := hidOf (show ∀ k, (Value.slice za d.length zc).ownBlock = some k → w.heap.size ≤ k from fun k hk => hap.new.elim (fun ⟨e, _⟩ => (by rw [e] at hk; cases hk)) (fun ⟨k2, e, h2⟩ => (by rw [e] at hk; cases hk; simp at h2; omega))); have hb2 := hap.belowN (Nat.le_refl _) (fun k e => by cases e); have HBX : Hid (w2.heap[w.heap.size]? = some (.cells #[.int .i64 7, .string nm, .string to, .slice xa d.length xc, .int .i64 n] 31 (0, 0))) := hidOf ((hb2.block _ (by simp)).trans (heap_alloc_new w _)); have HB2 : Hid (Below w.heap.size w w2) := hidOf ((below1 w (.cells #[.int .i64 7, .string nm, .string to, .slice xa d.length xc, .int .i64 n] 31)).trans (hb2.mono (by simp))); have HT : Hid (Two w0 w2 p q M N cnt cn F R) := hidOf (H.out.below HB2.out); have HO : Hid (Own1 w0 w2 F R (.slice za d.length zc) d.length) := hidOf (Own1.new H.out HZ.out HZN.out); obtain ⟨x0, x1, x2, x3, x4, xl⟩ := box31 HBX.out; clear hz hap hb2)
    | (go_at_call 21; refine (two_cr1 HT.out n (by omega)).mono ?_; rintro e w3 ⟨rfl, F', hh, hf⟩; have HH := hidOf hh; have HO3 := hidOf (HO.out.fr1 hf); have HKP3 := hidOf ((Keep.bel (F := F) (R := R) HB2.out).fr1 HB2.out.size hf); have HS3 := hidOf (Nat.le_trans HB2.out.size hf.size); have HBX3 : Hid (w3.heap[w.heap.size]? = some (.cells #[.int .i64 7, .string nm, .string to, .slice xa d.length xc, .int .i64 n] 31 (0, 0))) := hidOf ((hf.block _ xl HNF.out).trans HBX.out); clear hh hf x0 x1 x2 x3 x4; obtain ⟨x0, x1, x2, x3, x4, xl3⟩ := box31 HBX3.out)
    | (go_at_call 32; refine (two_cr2 HH.out HRC.out n).mono ?_; rintro e w4 ⟨rfl, R', ht, hf⟩; have HT4 := hidOf ht; have HO4 := hidOf (HO3.out.fr2 hf); have HKP4 := hidOf (HKP3.out.fr2 HS3.out hf); clear ht hf))
  go_loopw [14] (fun i wr => ∃ k : Nat, k ≤ d.length ∧ i = .int .i64 (k : Int) ∧ Hid (Two w0 wr p q (crashM n M) (crashM n N) cnt (cn + 1) F' R' ∧ Own1 w0 wr F' R' (.slice za d.length zc) d.length ∧ Keep w wr F R)) (fun i _ => d.length - (intOf i).toNat)
  case atStart => exact ⟨0, Nat.zero_le _, rfl, hidOf ⟨HT4.out, HO4.out, HKP4.out⟩⟩
  case round =>
    obtain ⟨k, hk, rfl, HK⟩ := hrel
    by_cases hlt : k < d.length
    · have hltz : (k : Int) < (d.length : Int) := by omega
      obtain ⟨g, gc, x, hv, hgl, y0, yf⟩ := HK.out.2.1.at hlt
      obtain ⟨rfl, rfl⟩ : za = some ⟨g, 0, none⟩ ∧ zc = gc := by cases hv; exact ⟨rfl, rfl⟩
      have HST := hidOf (show _ ∧ _ ∧ _ from ⟨(HK.out.1.set HK.out.2.1 k (.int .u8 98)).1, (HK.out.1.set HK.out.2.1 k (.int .u8 98)).2, HK.out.2.2.set (HZN.out g rfl) k (.int .u8 98)⟩)
      clear hv
      go_wp2
      go_roundw
      case rel => exact ⟨k + 1, by omega, by go_num, HST⟩
      case measure => simp [intOf]; omega
    · have hltz : ¬ (k : Int) < (d.length : Int) := by omega
      go_wp2
      go_ret
      exact dop_mk (fun _ => rfl) (HK.out.1.more (by omega)) ⟨mM, HCM.out, rfl⟩ ⟨m, HRC.out.card, rfl⟩ HK.out.2.2
set_option maxHeartbeats 4000000 in
set_option maxRecDepth 100000 in
theorem does_no (w0 w : World) (p q : Nat) (M N : Md) (cnt cn : Nat) (F R : Nat → Prop) (h : Two w0 w p q M N cnt cn F R) (hc : cnt + 1 ≤ 2199023255552) (hcn : cn + 1 ≤ 2199023255552) (nm to : ByteArray) (_hnm : nm.size ≤ maxLen) (_hto : to.size ≤ maxLen) (xa : Option Addr) (xc : Nat) (d : List UInt8) (hx : Bs w xa d) (_hxl : d ≠ [] → ∀ k, oB xa k → k < w0.heap.size) (n : Int) (kd : Int) (hkd : kd ≠ 0 ∧ kd ≠ 1 ∧ kd ≠ 2 ∧ kd ≠ 3 ∧ kd ≠ 4 ∧ kd ≠ 5 ∧ kd ≠ 6 ∧ kd ≠ 7) : Calls Try.prog 12 #[.pointer (some ⟨p, 0, none⟩), .pointer (some ⟨q, 0, none⟩), .agg #[.int .i64 kd, .string nm, .string to, .slice xa d.length xc, .int .i64 n]] w (DoP w0 w F R p q M N cnt cn kd nm.data.toList to.data.toList d n) := by
  obtain ⟨m, hr⟩ := h.rc hcn
  obtain ⟨mM, hcm⟩ := h.cd
  have HCM := hidOf hcm
  clear hcm
  have hxd := hx.1
  have HRC := hidOf hr
  have H := hidOf h
  have HX := hidOf hx
  have HNF : Hid (¬ F w.heap.size) := hidOf (fun e => Nat.lt_irrefl _ (h.d.fLt _ e))
  have HNR : Hid (¬ R w.heap.size) := hidOf (fun e => Nat.lt_irrefl _ (h.r.lt _ e))
  clear h hr hx _hxl
  have k0 : (kd == 0) = false := beq_false_of_ne (by omega)
  have k1 : (kd == 1) = false := beq_false_of_ne (by omega)
  have k2 : (kd == 2) = false := beq_false_of_ne (by omega)
  have k3 : (kd == 3) = false := beq_false_of_ne (by omega)
  have k4 : (kd == 4) = false := beq_false_of_ne (by omega)
  have k5 : (kd == 5) = false := beq_false_of_ne (by omega)
  have k6 : (kd == 6) = false := beq_false_of_ne (by omega)
  have k7 : (kd == 7) = false := beq_false_of_ne (by omega)
  have HKD := hidOf hkd
  clear hkd
  go_enter Try.func12, Try.ntmps12
  go_wp2_with (at_builtin; refine wpList_append_s _ rfl (.tmp 15) (.tmp 17) rfl (.slice none 0 0) [] rfl (SlR.nil _) (.slice xa d.length xc) d rfl ((HX.out.alloc _).src Try.underlying29 xc) (by simp; omega) ?_; intro z w2 hz hap; rw [List.nil_append] at hz; obtain ⟨za, zc, hzf, _⟩ := hz.form; subst hzf; have HZ := hidOf hz; have HZN := hidOf (show ∀ k, (Value.slice za d.length zc).ownBlock = some k → w.heap.size ≤ k from fun k hk => hap.new.elim (fun ⟨e, _⟩ => (by rw [e] at hk; cases hk)) (fun ⟨k2, e, h2⟩ => (by rw [e] at hk; cases hk; simp at h2; omega))); have hb2 := hap.belowN (Nat.le_refl _) (fun k e => by cases e); have HBX : Hid (w2.heap[w.heap.size]? = some (.cells #[.int .i64 kd, .string nm, .string to, .slice xa d.length xc, .int .i64 n] 31 (0, 0))) := hidOf ((hb2.block _ (by simp)).trans (heap_alloc_new w _)); have HB2 : Hid (Below w.heap.size w w2) := hidOf ((below1 w (.cells #[.int .i64 kd, .string nm, .string to, .slice xa d.length xc, .int .i64 n] 31)).trans (hb2.mono (by simp))); have HT : Hid (Two w0 w2 p q M N cnt cn F R) := hidOf (H.out.below HB2.out); have HO : Hid (Own1 w0 w2 F R (.slice za d.length zc) d.length) := hidOf (Own1.new H.out HZ.out HZN.out); obtain ⟨x0, x1, x2, x3, x4, xl⟩ := box31 HBX.out; clear hz hap hb2)
  have HT4 := HT
  have HO4 := HO
  have HKP4 := hidOf (Keep.bel (F := F) (R := R) HB2.out)
  go_loopw [14] (fun i wr => ∃ k : Nat, k ≤ d.length ∧ i = .int .i64 (k : Int) ∧ Hid (Two w0 wr p q M N cnt cn F R ∧ Own1 w0 wr F R (.slice za d.length zc) d.length ∧ Keep w wr F R)) (fun i _ => d.length - (intOf i).toNat)
  case atStart => exact ⟨0, Nat.zero_le _, rfl, hidOf ⟨HT4.out, HO4.out, HKP4.out⟩⟩
  case round =>
    obtain ⟨k, hk, rfl, HK⟩ := hrel
    by_cases hlt : k < d.length
    · have hltz : (k : Int) < (d.length : Int) := by omega
      obtain ⟨g, gc, x, hv, hgl, y0, yf⟩ := HK.out.2.1.at hlt
      obtain ⟨rfl, rfl⟩ : za = some ⟨g, 0, none⟩ ∧ zc = gc := by cases hv; exact ⟨rfl, rfl⟩
      have HST := hidOf (show _ ∧ _ ∧ _ from ⟨(HK.out.1.set HK.out.2.1 k (.int .u8 98)).1, (HK.out.1.set HK.out.2.1 k (.int .u8 98)).2, HK.out.2.2.set (HZN.out g rfl) k (.int .u8 98)⟩)
      clear hv
      go_wp2
      go_roundw
      case rel => exact ⟨k + 1, by omega, by go_num, HST⟩
      case measure => simp [intOf]; omega
    · have hltz : ¬ (k : Int) < (d.length : Int) := by omega
      go_wp2
      go_ret
      exact dop_mk (fun _ => rfl) (HK.out.1.more2 (by omega)) ⟨mM, HCM.out, (nxM_no (by have := HKD.out; omega) _ _ _ _ _ _).symm⟩ ⟨m, HRC.out.card, (nxM_no (by have := HKD.out; omega) _ _ _ _ _ _).symm⟩ HK.out.2.2
set_option maxHeartbeats 4000000 in
set_option maxRecDepth 100000 in
theorem does_2a (w0 w : World) (p q : Nat) (M N : Md) (cnt cn : Nat) (F R : Nat → Prop) (h : Two w0 w p q M N cnt cn F R) (hc : cnt + 1 ≤ 2199023255552) (hcn : cn + 1 ≤ 2199023255552) (nm to : ByteArray) (hnm : nm.size ≤ maxLen) (_hto : to.size ≤ maxLen) (xa : Option Addr) (xc : Nat) (d : List UInt8) (hx : Bs w xa d) (_hxl : d ≠ [] → ∀ k, oB xa k → k < w0.heap.size) (n : Int) (hEE : rdE nm.data.toList N = rdE nm.data.toList M) : Calls Try.prog 12 #[.pointer (some ⟨p, 0, none⟩), .pointer (some ⟨q, 0, none⟩), .agg #[.int .i64 2, .string nm, .string to, .slice xa d.length xc, .int .i64 n]] w (DoP w0 w F R p q M N cnt cn 2 nm.data.toList to.data.toList d n) := by
  obtain ⟨m, hr⟩ := h.rc hcn
  have hdl : (rdD nm.data.toList M).length ≤ 1048576 := rdD_le h.d.2 nm.data.toList
  have hdl2 : (rdD nm.data.toList N).length ≤ 1048576 := rdD_le hr.ok nm.data.toList
  obtain ⟨mM, hcm⟩ := h.cd
  have HCM := hidOf hcm
  clear hcm
  have hxd := hx.1
  have HRC := hidOf hr
  have H := hidOf h
  have HX := hidOf hx
  have HNF : Hid (¬ F w.heap.size) := hidOf (fun e => Nat.lt_irrefl _ (h.d.fLt _ e))
  have HNR : Hid (¬ R w.heap.size) := hidOf (fun e => Nat.lt_irrefl _ (h.r.lt _ e))
  clear h hr hx _hxl
  obtain ⟨D, hD⟩ : ∃ D, D = rdD nm.data.toList M := ⟨_, rfl⟩
  obtain ⟨D2, hD2⟩ : ∃ D, D = rdD nm.data.toList N := ⟨_, rfl⟩
  obtain ⟨E, hE⟩ : ∃ E, E = rdE nm.data.toList M := ⟨_, rfl⟩
  rw [← hE] at hEE
  have HE2 := hidOf hEE.symm
  clear hEE
  rw [← hD] at hdl
  rw [← hD2] at hdl2
  have HD := hidOf hD
  have HD2 := hidOf hD2
  have HE := hidOf hE
  clear hD hE hD2
  go_enter Try.func12, Try.ntmps12
  go_wp2_with (first
    | (at_builtin; refine wpList_append_s _ rfl (.tmp 15) (.tmp 17) rfl (.slice none 0 0) [] rfl (SlR.nil _) (.slice xa d.length xc) d rfl ((HX.out.alloc _).src Try.underlying29 xc) (by simp; omega) ?_; intro z w2 hz hap; rw [List.nil_append] at hz; obtain ⟨za, zc, hzf, _⟩ := hz.form; subst hzf; have HZ := hidOf hz; have HZN := hidOf (show ∀ k, (Value.slice za d.length zc).ownBlock = some k → w.heap.size ≤ k from fun k hk => hap.new.elim (fun ⟨e, _⟩ => (by rw [e] at hk; cases hk)) (fun ⟨k2, e, h2⟩ => (by rw [e] at hk; cases hk; simp at h2; omega))); have hb2 := hap.belowN (Nat.le_refl _) (fun k e => by cases e); have HBX : Hid (w2.heap[w.heap.size]? = some (.cells #[.int .i64 2, .string nm, .string to, .slice xa d.length xc, .int .i64 n] 31 (0, 0))) := hidOf ((hb2.block _ (by simp)).trans (heap_alloc_new w _)); have HB2 : Hid (Below w.heap.size w w2) := hidOf ((below1 w (.cells #[.int .i64 2, .string nm, .string to, .slice xa d.length xc, .int .i64 n] 31)).trans (hb2.mono (by simp))); have HT : Hid (Two w0 w2 p q M N cnt cn F R) := hidOf (H.out.below HB2.out); have HO : Hid (Own1 w0 w2 F R (.slice za d.length zc) d.length) := hidOf (Own1.new H.out HZ.out HZN.out); obtain ⟨x0, x1, x2, x3, x4, xl⟩ := box31 HBX.out; clear hz hap hb2)
    | (go_at_call 23; refine (cread_any p cnt M F _ HT.out.d nm).mono ?_; rintro e w3 ⟨y, he, hy, hyf, hb⟩; rw [← HE.out] at he; rw [← HD.out] at hy; subst he; obtain ⟨ya, yc, hyq, _⟩ := hy.form; subst hyq; have HT3 := hidOf (HT.out.below hb); have HO3 := hidOf (HO.out.below hb); have HY3 := hidOf hy; have HYO := hidOf (Own1.new HT.out hy hyf); have HYF : Hid (∀ g, (Value.slice ya D.length yc).ownBlock = some g → w.heap.size ≤ g) := hidOf (fun g hg => Nat.le_trans HB2.out.size (hyf g hg)); have HB3 := hidOf (HB2.out.trans (hb.mono HB2.out.size)); have HYN : Hid (∀ g, (Value.slice ya D.length yc).ownBlock = some g → (Value.slice za d.length zc).ownBlock ≠ some g) := hidOf (fun g h1 h2 => by have := hyf g h1; have := HZ.out.lt g h2; omega); have hb3 := (hb.block _ xl).trans HBX.out; clear x0 x1 x2 x3 x4; obtain ⟨x0, x1, x2, x3, x4, xl3⟩ := box31 hb3; clear hy hyf hb hb3)
    | (go_at_call 27; obtain ⟨ra, rcap, rl, rdn, rG, hR, rfl⟩ := id HT3.out.r; refine (rread_any q N ra rcap rl rdn rG _ m hR HRC.out nm hnm).mono ?_; rintro e w4 ⟨y2, he, hy, hyf, hb⟩; rw [← HE2.out] at he; rw [← HD2.out] at hy; subst he; obtain ⟨ya2, yc2, hyq, _⟩ := hy.form; subst hyq; have HT5 := hidOf (HT3.out.below hb); have HO5 := hidOf (HO3.out.below hb); have HY4 := hidOf (HY3.out.grow hb); have HYO4 := hidOf (HYO.out.below hb); have HY5 := hidOf hy; have HB5 := hidOf (HB3.out.trans (hb.mono HB3.out.size)); clear hy hyf hb hR)
    | (go_at_call 24; have hS := same_any ya ya2 D.length D2.length yc yc2 D D2 _ rfl rfl ((HY4.out.bs (by omega)).1) ((HY5.out.bs (by omega)).1); obtain ⟨B, hB⟩ : ∃ B, B = decide (D = D2) := ⟨_, rfl⟩; rw [← hB] at hS; have HBB := hidOf hB; clear hB; refine hS.mono ?_; rintro e w5 ⟨rfl, nq, hw⟩; have hb6 : Below w4.heap.size w4 w5 := (by rw [hw]; exact ⟨rfl, rfl, rfl, Nat.le_refl _, fun _ _ => rfl⟩); have HT6 := hidOf (HT5.out.below hb6); have HO6 := hidOf (HO5.out.below hb6); have HYO6 := hidOf (HYO4.out.below hb6); have HB6 := hidOf (HB5.out.trans (hb6.mono HB5.out.size)); clear hS hw hb6))
  go_loopw [13] (fun i wr => ∃ k : Nat, k ≤ D.length ∧ i = .int .i64 (k : Int) ∧ Hid (Two w0 wr p q M N cnt cn F (RtF q ra rl rdn rG) ∧ Own1 w0 wr F (RtF q ra rl rdn rG) (.slice ya D.length yc) D.length ∧ Own1 w0 wr F (RtF q ra rl rdn rG) (.slice za d.length zc) d.length ∧ Keep w wr F (RtF q ra rl rdn rG))) (fun i _ => D.length - (intOf i).toNat)
  case atStart => exact ⟨0, Nat.zero_le _, rfl, hidOf ⟨HT6.out, HYO6.out, HO6.out, Keep.bel HB6.out⟩⟩
  case round =>
    obtain ⟨k, hk, rfl, HK⟩ := hrel
    by_cases hlt : k < D.length
    · have hltz : (k : Int) < (D.length : Int) := by omega
      obtain ⟨g, gc, x, hv, hgl, y0, yf⟩ := HK.out.2.1.at hlt
      obtain ⟨rfl, rfl⟩ : ya = some ⟨g, 0, none⟩ ∧ yc = gc := by cases hv; exact ⟨rfl, rfl⟩
      have HST := hidOf (show _ ∧ _ ∧ _ ∧ _ from ⟨(HK.out.1.set HK.out.2.1 k (.int .u8 99)).1, (HK.out.1.set HK.out.2.1 k (.int .u8 99)).2, HK.out.2.2.1.other (j := k) (u := .int .u8 99) (HYN.out g rfl), HK.out.2.2.2.set (HYF.out g rfl) k (.int .u8 99)⟩)
      clear hv
      go_wp2
      go_roundw
      case rel => exact ⟨k + 1, by omega, by go_num, HST⟩
      case measure => simp [intOf]; omega
    · have hltz : ¬ (k : Int) < (D.length : Int) := by omega
      have HT4 := hidOf HK.out.1
      have HO4 := hidOf HK.out.2.2.1
      have HKP4 := hidOf HK.out.2.2.2
      clear HK
      go_wp2
      go_loopw [14] (fun i wr => ∃ k : Nat, k ≤ d.length ∧ i = .int .i64 (k : Int) ∧ Hid (Two w0 wr p q M N cnt cn F (RtF q ra rl rdn rG) ∧ Own1 w0 wr F (RtF q ra rl rdn rG) (.slice za d.length zc) d.length ∧ Keep w wr F (RtF q ra rl rdn rG))) (fun i _ => d.length - (intOf i).toNat)
      case atStart => exact ⟨0, Nat.zero_le _, rfl, hidOf ⟨HT4.out, HO4.out, HKP4.out⟩⟩
      case round =>
        obtain ⟨k, hk, rfl, HK⟩ := hrel
        by_cases hlt : k < d.length
        · have hltz : (k : Int) < (d.length : Int) := by omega
          obtain ⟨g, gc, x, hv, hgl, y0, yf⟩ := HK.out.2.1.at hlt
          obtain ⟨rfl, rfl⟩ : za = some ⟨g, 0, none⟩ ∧ zc = gc := by cases hv; exact ⟨rfl, rfl⟩
          have HST := hidOf (show _ ∧ _ ∧ _ from ⟨(HK.out.1.set HK.out.2.1 k (.int .u8 98)).1, (HK.out.1.set HK.out.2.1 k (.int .u8 98)).2, HK.out.2.2.set (HZN.out g rfl) k (.int .u8 98)⟩)
          clear hv
          go_wp2
          go_roundw
          case rel => exact ⟨k + 1, by omega, by go_num, HST⟩
          case measure => simp [intOf]; omega
        · have hltz : ¬ (k : Int) < (d.length : Int) := by omega
          go_wp2
          go_ret
          exact dop_mk (fun e => by rw [HBB.out, HD.out, HD2.out, e]; simp) (HK.out.1.more2 (by omega)) ⟨mM, HCM.out, rfl⟩ ⟨m, HRC.out.card, rfl⟩ HK.out.2.2
set_option maxHeartbeats 4000000 in
set_option maxRecDepth 100000 in
theorem does_2b (w0 w : World) (p q : Nat) (M N : Md) (cnt cn : Nat) (F R : Nat → Prop) (h : Two w0 w p q M N cnt cn F R) (hc : cnt + 1 ≤ 2199023255552) (hcn : cn + 1 ≤ 2199023255552) (nm to : ByteArray) (hnm : nm.size ≤ maxLen) (_hto : to.size ≤ maxLen) (xa : Option Addr) (xc : Nat) (d : List UInt8) (hx : Bs w xa d) (_hxl : d ≠ [] → ∀ k, oB xa k → k < w0.heap.size) (n : Int) (hEE : rdE nm.data.toList M ≠ rdE nm.data.toList N) : Calls Try.prog 12 #[.pointer (some ⟨p, 0, none⟩), .pointer (some ⟨q, 0, none⟩), .agg #[.int .i64 2, .string nm, .string to, .slice xa d.length xc, .int .i64 n]] w (DoP w0 w F R p q M N cnt cn 2 nm.data.toList to.data.toList d n) := by
  obtain ⟨m, hr⟩ := h.rc hcn
  have hdl : (rdD nm.data.toList M).length ≤ 1048576 := rdD_le h.d.2 nm.data.toList
  have hdl2 : (rdD nm.data.toList N).length ≤ 1048576 := rdD_le hr.ok nm.data.toList
  obtain ⟨mM, hcm⟩ := h.cd
  have HCM := hidOf hcm
  clear hcm
  have hxd := hx.1
  have HRC := hidOf hr
  have H := hidOf h
  have HX := hidOf hx
  have HNF : Hid (¬ F w.heap.size) := hidOf (fun e => Nat.lt_irrefl _ (h.d.fLt _ e))
  have HNR : Hid (¬ R w.heap.size) := hidOf (fun e => Nat.lt_irrefl _ (h.r.lt _ e))
  clear h hr hx _hxl
  obtain ⟨D, hD⟩ : ∃ D, D = rdD nm.data.toList M := ⟨_, rfl⟩
  obtain ⟨D2, hD2⟩ : ∃ D, D = rdD nm.data.toList N := ⟨_, rfl⟩
  obtain ⟨E, hE⟩ : ∃ E, E = rdE nm.data.toList M := ⟨_, rfl⟩
  obtain ⟨E2, hE2⟩ : ∃ E, E = rdE nm.data.toList N := ⟨_, rfl⟩
  have HE2 := hidOf hE2
  have HNE := hidOf hEE
  rw [← hE, ← hE2] at hEE
  have hEb : (E == E2) = false := beq_false_of_ne hEE
  clear hEE hE2
  rw [← hD] at hdl
  rw [← hD2] at hdl2
  have HD := hidOf hD
  have HD2 := hidOf hD2
  have HE := hidOf hE
  clear hD hE hD2
  go_enter Try.func12, Try.ntmps12
  go_wp2_with (first
    | (at_builtin; refine wpList_append_s _ rfl (.tmp 15) (.tmp 17) rfl (.slice none 0 0) [] rfl (SlR.nil _) (.slice xa d.length xc) d rfl ((HX.out.alloc _).src Try.underlying29 xc) (by simp; omega) ?_; intro z w2 hz hap; rw [List.nil_append] at hz; obtain ⟨za, zc, hzf, _⟩ := hz.form; subst hzf; have HZ := hidOf hz; have HZN := hidOf (show ∀ k, (Value.slice za d.length zc).ownBlock = some k → w.heap.size ≤ k from fun k hk => hap.new.elim (fun ⟨e, _⟩ => (by rw [e] at hk; cases hk)) (fun ⟨k2, e, h2⟩ => (by rw [e] at hk; cases hk; simp at h2; omega))); have hb2 := hap.belowN (Nat.le_refl _) (fun k e => by cases e); have HBX : Hid (w2.heap[w.heap.size]? = some (.cells #[.int .i64 2, .string nm, .string to, .slice xa d.length xc, .int .i64 n] 31 (0, 0))) := hidOf ((hb2.block _ (by simp)).trans (heap_alloc_new w _)); have HB2 : Hid (Below w.heap.size w w2) := hidOf ((below1 w (.cells #[.int .i64 2, .string nm, .string to, .slice xa d.length xc, .int .i64 n] 31)).trans (hb2.mono (by simp))); have HT : Hid (Two w0 w2 p q M N cnt cn F R) := hidOf (H.out.below HB2.out); have HO : Hid (Own1 w0 w2 F R (.slice za d.length zc) d.length) := hidOf (Own1.new H.out HZ.out HZN.out); obtain ⟨x0, x1, x2, x3, x4, xl⟩ := box31 HBX.out; clear hz hap hb2)
    | (go_at_call 23; refine (cread_any p cnt M F _ HT.out.d nm).mono ?_; rintro e w3 ⟨y, he, hy, hyf, hb⟩; rw [← HE.out] at he; rw [← HD.out] at hy; subst he; obtain ⟨ya, yc, hyq, _⟩ := hy.form; subst hyq; have HT3 := hidOf (HT.out.below hb); have HO3 := hidOf (HO.out.below hb); have HY3 := hidOf hy; have HYO := hidOf (Own1.new HT.out hy hyf); have HYF : Hid (∀ g, (Value.slice ya D.length yc).ownBlock = some g → w.heap.size ≤ g) := hidOf (fun g hg => Nat.le_trans HB2.out.size (hyf g hg)); have HB3 := hidOf (HB2.out.trans (hb.mono HB2.out.size)); have HYN : Hid (∀ g, (Value.slice ya D.length yc).ownBlock = some g → (Value.slice za d.length zc).ownBlock ≠ some g) := hidOf (fun g h1 h2 => by have := hyf g h1; have := HZ.out.lt g h2; omega); have hb3 := (hb.block _ xl).trans HBX.out; clear x0 x1 x2 x3 x4; obtain ⟨x0, x1, x2, x3, x4, xl3⟩ := box31 hb3; clear hy hyf hb hb3)
    | (go_at_call 27; obtain ⟨ra, rcap, rl, rdn, rG, hR, rfl⟩ := id HT3.out.r; refine (rread_any q N ra rcap rl rdn rG _ m hR HRC.out nm hnm).mono ?_; rintro e w4 ⟨y2, he, hy, hyf, hb⟩; rw [← HE2.out] at he; rw [← HD2.out] at hy; subst he; obtain ⟨ya2, yc2, hyq, _⟩ := hy.form; subst hyq; have HT5 := hidOf (HT3.out.below hb); have HO5 := hidOf (HO3.out.below hb); have HY4 := hidOf (HY3.out.grow hb); have HYO4 := hidOf (HYO.out.below hb); have HY5 := hidOf hy; have HB5 := hidOf (HB3.out.trans (hb.mono HB3.out.size)); clear hy hyf hb hR))
  have HT6 := HT5
  have HO6 := HO5
  have HYO6 := HYO4
  have HB6 := HB5
  go_loopw [13] (fun i wr => ∃ k : Nat, k ≤ D.length ∧ i = .int .i64 (k : Int) ∧ Hid (Two w0 wr p q M N cnt cn F (RtF q ra rl rdn rG) ∧ Own1 w0 wr F (RtF q ra rl rdn rG) (.slice ya D.length yc) D.length ∧ Own1 w0 wr F (RtF q ra rl rdn rG) (.slice za d.length zc) d.length ∧ Keep w wr F (RtF q ra rl rdn rG))) (fun i _ => D.length - (intOf i).toNat)
  case atStart => exact ⟨0, Nat.zero_le _, rfl, hidOf ⟨HT6.out, HYO6.out, HO6.out, Keep.bel HB6.out⟩⟩
  case round =>
    obtain ⟨k, hk, rfl, HK⟩ := hrel
    by_cases hlt : k < D.length
    · have hltz : (k : Int) < (D.length : Int) := by omega
      obtain ⟨g, gc, x, hv, hgl, y0, yf⟩ := HK.out.2.1.at hlt
      obtain ⟨rfl, rfl⟩ : ya = some ⟨g, 0, none⟩ ∧ yc = gc := by cases hv; exact ⟨rfl, rfl⟩
      have HST := hidOf (show _ ∧ _ ∧ _ ∧ _ from ⟨(HK.out.1.set HK.out.2.1 k (.int .u8 99)).1, (HK.out.1.set HK.out.2.1 k (.int .u8 99)).2, HK.out.2.2.1.other (j := k) (u := .int .u8 99) (HYN.out g rfl), HK.out.2.2.2.set (HYF.out g rfl) k (.int .u8 99)⟩)
      clear hv
      go_wp2
      go_roundw
      case rel => exact ⟨k + 1, by omega, by go_num, HST⟩
      case measure => simp [intOf]; omega
    · have hltz : ¬ (k : Int) < (D.length : Int) := by omega
      have HT4 := hidOf HK.out.1
      have HO4 := hidOf HK.out.2.2.1
      have HKP4 := hidOf HK.out.2.2.2
      clear HK
      go_wp2
      go_loopw [14] (fun i wr => ∃ k : Nat, k ≤ d.length ∧ i = .int .i64 (k : Int) ∧ Hid (Two w0 wr p q M N cnt cn F (RtF q ra rl rdn rG) ∧ Own1 w0 wr F (RtF q ra rl rdn rG) (.slice za d.length zc) d.length ∧ Keep w wr F (RtF q ra rl rdn rG))) (fun i _ => d.length - (intOf i).toNat)
      case atStart => exact ⟨0, Nat.zero_le _, rfl, hidOf ⟨HT4.out, HO4.out, HKP4.out⟩⟩
      case round =>
        obtain ⟨k, hk, rfl, HK⟩ := hrel
        by_cases hlt : k < d.length
        · have hltz : (k : Int) < (d.length : Int) := by omega
          obtain ⟨g, gc, x, hv, hgl, y0, yf⟩ := HK.out.2.1.at hlt
          obtain ⟨rfl, rfl⟩ : za = some ⟨g, 0, none⟩ ∧ zc = gc := by cases hv; exact ⟨rfl, rfl⟩
          have HST := hidOf (show _ ∧ _ ∧ _ from ⟨(HK.out.1.set HK.out.2.1 k (.int .u8 98)).1, (HK.out.1.set HK.out.2.1 k (.int .u8 98)).2, HK.out.2.2.set (HZN.out g rfl) k (.int .u8 98)⟩)
          clear hv
          go_wp2
          go_roundw
          case rel => exact ⟨k + 1, by omega, by go_num, HST⟩
          case measure => simp [intOf]; omega
        · have hltz : ¬ (k : Int) < (d.length : Int) := by omega
          go_wp2
          go_ret
          exact dop_mk (fun e => absurd (by rw [e]) HNE.out) (HK.out.1.more2 (by omega)) ⟨mM, HCM.out, rfl⟩ ⟨m, HRC.out.card, rfl⟩ HK.out.2.2
theorem does_any (w0 w : World) (p q : Nat) (M N : Md) (cnt cn : Nat) (F R : Nat → Prop) (h : Two w0 w p q M N cnt cn F R) (hc : cnt + 1 ≤ 2199023255552) (hcn : cn + 1 ≤ 2199023255552) (nm to : ByteArray) (hnm : nm.size ≤ maxLen) (hto : to.size ≤ maxLen) (xa : Option Addr) (xc : Nat) (d : List UInt8) (hx0 : Bs w0 xa d) (n kd : Int) : Calls Try.prog 12 #[.pointer (some ⟨p, 0, none⟩), .pointer (some ⟨q, 0, none⟩), .agg #[.int .i64 kd, .string nm, .string to, .slice xa d.length xc, .int .i64 n]] w (DoP w0 w F R p q M N cnt cn kd nm.data.toList to.data.toList d n) := by
  have hx := hx0.grow h.bel
  have hxl := hx0.oLt
  by_cases h0 : kd = 0
  · subst h0; exact does_0 w0 w p q M N cnt cn F R h hc hcn nm to hnm hto xa xc d hx hxl n
  by_cases h1 : kd = 1
  · subst h1; exact does_1 w0 w p q M N cnt cn F R h hc hcn nm to hnm hto xa xc d hx hxl n
  by_cases h2 : kd = 2
  · subst h2
    by_cases he : rdE nm.data.toList N = rdE nm.data.toList M
    · exact does_2a w0 w p q M N cnt cn F R h hc hcn nm to hnm hto xa xc d hx hxl n he
    · exact does_2b w0 w p q M N cnt cn F R h hc hcn nm to hnm hto xa xc d hx hxl n (fun e => he e.symm)
  by_cases h3 : kd = 3
  · subst h3; exact does_3 w0 w p q M N cnt cn F R h hc hcn nm to hnm hto xa xc d hx hxl n
  by_cases h4 : kd = 4
  · subst h4; exact does_4 w0 w p q M N cnt cn F R h hc hcn nm to hnm hto xa xc d hx hxl n
  by_cases h5 : kd = 5
  · subst h5; exact does_5 w0 w p q M N cnt cn F R h hc hcn nm to hnm hto xa xc d hx hxl n
  by_cases h6 : kd = 6
  · subst h6; exact does_6 w0 w p q M N cnt cn F R h hc hcn nm to hnm hto xa xc d hx hxl n
  by_cases h7 : kd = 7
  · subst h7; exact does_7 w0 w p q M N cnt cn F R h hc hcn nm to hnm hto xa xc d hx hxl n
  exact does_no w0 w p q M N cnt cn F R h hc hcn nm to hnm hto xa xc d hx hxl n kd ⟨h0, h1, h2, h3, h4, h5, h6, h7⟩
end Go.Proofs.Ytkbmfookdhlphaa
