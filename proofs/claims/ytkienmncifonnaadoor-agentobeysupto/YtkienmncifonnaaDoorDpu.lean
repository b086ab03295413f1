/- Put, Remove, Rename, Read. -/
import Derived.Test.YtkienmncifonnaaDoorDap
namespace Go.Proofs.YtkienmncifonnaaDoor
open Go.RowKit Go.Maps

theorem ok_sizes {s : ByteArray} (h : nameL s.data.toList = true) : s.size ≤ maxLen ∧ s.size ≤ 281474976710656 := by
  have := nameL_le h
  simp at this
  unfold maxLen
  omega
theorem okNames_one {s : ByteArray} (h : okNames [s] = true) : nameL s.data.toList = true := by unfold okNames at h; simpa using h
theorem okNames_two {s s2 : ByteArray} (h : okNames [s, s2] = true) : nameL s.data.toList = true ∧ nameL s2.data.toList = true := by unfold okNames at h; simpa using h
theorem has_call (p cnt bF bD : Nat) (M : Md) (DF DD : DataW Value) (dn : Value) (G : List Gd) (w : World) (h : DkR w p M cnt bF bD DF DD dn G) (s : ByteArray) (hs : s.size ≤ maxLen) (b : Bool) (hb : (M.files s.data.toList).isSome = b) : Calls Tryd.prog 64 #[.pointer (some ⟨p, 0, none⟩), .string s] w fun e w' => e = .returned (.bool b) ∧ w' = w := by
  obtain ⟨n, _, hm⟩ := h.mF
  have := has_any p bF bD n DF dn M.left s w h.blk hm hs
  change Calls _ _ _ _ fun e w' => e = .returned (.bool (Maps.has DF (.string s.data.toList))) ∧ _ at this
  rw [h.hF, hb] at this
  exact this

set_option maxHeartbeats 1000000 in
set_option maxRecDepth 100000 in
theorem put_full (s : ByteArray) (a : Option Addr) (n cap : Nat) (p cnt bF bD : Nat) (M : Md) (DF DD : DataW Value) (dn : Value) (G : List Gd) (w : World) (h : DkR w p M cnt bF bD DF DD dn G) (hr : refE [s] M.left = 0) (hroom : roomB (n : Int) (M.files s.data.toList).isSome (Maps.size DF) = false) : Calls Tryd.prog 29 #[.pointer (some ⟨p, 0, none⟩), .string s, .slice a n cap] w fun e w' => e = .returned (.int .i64 2) ∧ Below w.heap.size w w' := by
  obtain ⟨nF, hnF, hmF⟩ := h.mF
  have hsz := (ok_sizes (okNames_one (refE_zero hr).1)).1
  have HR := hidOf (ref_one p bF bD dn M.left s w h.blk _ hr)
  have HRM := hasRoom_any p bF bD nF DF dn M.left (n : Int) s _ (h.blk.below (below1 w (.cells #[.string s] 9))) (hmF.below (below1 w _)) hsz
  rw [h.hF, hroom] at HRM
  have HRM := hidOf HRM
  clear h hr hroom hmF
  go_enter Tryd.func29, Tryd.ntmps29
  go_wp2_with (first
    | (go_at_call 43; refine HR.out.mono ?_; rintro e w' ⟨rfl, rfl⟩)
    | (go_at_call 44; refine HRM.out.mono ?_; rintro e w' ⟨rfl, rfl⟩))
  go_ret
  exact ⟨rfl, below1 w _⟩
set_option maxHeartbeats 4000000 in
set_option maxRecDepth 100000 in
theorem put_ok (s : ByteArray) (a : Option Addr) (cap : Nat) (d : List UInt8) (p cnt bF bD : Nat) (M : Md) (DF DD : DataW Value) (dn : Value) (G : List Gd) (w : World) (h : DkR w p M cnt bF bD DF DD dn G) (hr : refE [s] M.left = 0) (hB : Bs w a d) (hnn : a = none → d = []) (hroom : roomB (d.length : Int) (M.files s.data.toList).isSome (Maps.size DF) = true) (hc : cnt + 1 ≤ 4398046511104) : Calls Tryd.prog 29 #[.pointer (some ⟨p, 0, none⟩), .string s, .slice a d.length cap] w fun e w' => e = .returned (.int .i64 0) ∧ ∃ DF' dn' G', DkR w' p ⟨doD (.pt s.data.toList d) 1 M.files, M.dur, M.done ++ [(1, .pt s.data.toList d)], lessOne M.left⟩ (cnt + 1) bF bD DF' DD dn' G' ∧ Fr w w' (Ft p bF bD DF DD dn (G.map (·.z))) (Ft p bF bD DF' DD dn' (G'.map (·.z))) := by
  obtain ⟨nF, hnF, hmF⟩ := h.mF
  obtain ⟨hsz, hs48⟩ := ok_sizes (okNames_one (refE_zero hr).1)
  have HR := hidOf (ref_one p bF bD dn M.left s w h.blk _ hr)
  have HRM := hasRoom_any p bF bD nF DF dn M.left (d.length : Int) s _ (h.blk.below (below1 w (.cells #[.string s] 9))) (hmF.below (below1 w _)) hsz
  rw [h.hF, hroom] at HRM
  have HRM := hidOf HRM
  have hdl : d.length ≤ 1048576 := by unfold roomB at hroom; simp at hroom; omega
  have H := hidOf h
  have HB := hidOf hB
  have hmf : ∀ (fn : Fn) (first cap : Array Value) (w : World), (Instr.makeFunc fn first cap).run Tryd.prog w = .ok (.func fn first cap) w := fun _ _ _ _ => rfl
  clear h hr hroom hmF hB
  go_enter Tryd.func29, Tryd.ntmps29
  go_wp2_with (first
    | (go_at_call 43; refine HR.out.mono ?_; rintro e w' ⟨rfl, rfl⟩)
    | (go_at_call 44; refine HRM.out.mono ?_; rintro e w' ⟨rfl, rfl⟩)
    | (go_at_call 45; refine (cloneS_any s _ hs48).mono ?_; rintro e w2 ⟨rfl, hb⟩; have HB1 : Hid (Below w.heap.size w w2) := hidOf ((below1 w _).trans (hb.mono (by simp))); clear hb HR HRM)
    | (go_at_call 39; refine (bclone_any a cap d _ (HB.out.grow HB1.out) hnn).mono ?_; rintro e w3 ⟨z, rfl, hz, hfr, hb⟩; obtain ⟨az, zc, hzf⟩ := frs_form hz; subst hzf; have HB2 := hidOf (HB1.out.trans (hb.mono HB1.out.size)); have HZ := hidOf hz; have HFR : Hid (∀ sd k g, (entE DF DD sd k).ownBlock = some g → (Value.slice az d.length zc).ownBlock ≠ some g) := hidOf (fun sd k g hk e => (by have h1 := (H.out.liv.r sd k).lt g hk; have h2 := hfr g e; have h3 := HB1.out.size; omega)); have HZN : Hid (∀ k, (Value.slice az d.length zc).ownBlock = some k → w.heap.size ≤ k) := hidOf (fun g e => Nat.le_trans HB1.out.size (hfr g e)); clear hz hfr hb)
    | (go_at_call 46; have HB3 : Hid (Below w.heap.size w ((w3.alloc (.cells #[.string s] 9)).alloc (.cells #[.slice az d.length zc] 38))) := hidOf ((HB2.out.alloc HB2.out.size _).alloc (Nat.le_trans HB2.out.size (by simp)) _); refine (do_pt s.data.toList d w3.heap.size (w3.heap.size + 1) p 1 cnt bF bD M DF DD dn (.slice az d.length zc) G _ (H.out.below HB3.out) ⟨_, _, rfl, deed_new s hsz az zc d HZ.out hdl⟩ HFR.out hc).mono ?_; rintro e w5 ⟨rfl, hp⟩; have HP := hidOf hp; clear hp))
  go_ret
  obtain ⟨DF', dn', g1, g2⟩ := HP.out
  exact ⟨rfl, DF', dn', _, g1, by rw [mapz]; exact Fr.fresh HB3.out HZN.out g2⟩

theorem nil_sep (E : Bool → Nm → Value) : ∀ s k g, (E s k).ownBlock = some g → (Value.slice none 0 0).ownBlock ≠ some g := fun _ _ _ _ e => by cases e
theorem two_strs (w : World) (s s2 : ByteArray) (h1 : s.size ≤ maxLen) (h2 : s2.size ≤ maxLen) : strAt ((w.alloc (.cells #[.string s] 9)).alloc (.cells #[.string s2] 9)) w.heap.size s.data.toList ∧ strAt ((w.alloc (.cells #[.string s] 9)).alloc (.cells #[.string s2] 9)) (w.heap.size + 1) s2.data.toList :=
  ⟨⟨s, (two_new w _ _).1, rfl, h1⟩, ⟨s2, (two_new w _ _).2, rfl, h2⟩⟩
/- Read -/
theorem SlR.nilOf_form {w : World} {v : Value} {d : List UInt8} (h : SlR w v d) {a : Option Addr} {c : Nat} (e : v = .slice a d.length c) (ha : a = none) : d = [] := by
  rcases h with ⟨rfl, h⟩ | ⟨g, cap, cur, rfl, _⟩
  · exact h
  · cases e; cases ha
set_option maxHeartbeats 1000000 in
set_option maxRecDepth 100000 in
theorem read_bad (s : ByteArray) (p : Nat) (w : World) (hn : nameL s.data.toList = false) : Calls Tryd.prog 26 #[.pointer (some ⟨p, 0, none⟩), .string s] w fun e w' => e = .returned (.tuple #[.slice none 0 0, .int .i64 1]) ∧ w' = w := by
  have HN := isName_any s w
  rw [hn] at HN
  have HN := hidOf HN
  clear hn
  go_enter Tryd.func26, Tryd.ntmps26
  go_wp2_with (go_at_call 38; refine HN.out.mono ?_; rintro e w' ⟨rfl, rfl⟩)
  go_ret2
  exact ⟨rfl, rfl⟩
set_option maxHeartbeats 1000000 in
set_option maxRecDepth 100000 in
theorem read_none (s : ByteArray) (p cnt bF bD : Nat) (M : Md) (DF DD : DataW Value) (dn : Value) (G : List Gd) (w : World) (h : DkR w p M cnt bF bD DF DD dn G) (hn : nameL s.data.toList = true) (hno : M.files s.data.toList = none) : Calls Tryd.prog 26 #[.pointer (some ⟨p, 0, none⟩), .string s] w fun e w' => e = .returned (.tuple #[.slice none 0 0, .int .i64 12]) ∧ w' = w := by
  have HN := isName_any s w
  rw [hn] at HN
  have HN := hidOf HN
  obtain ⟨nF, _, hmF⟩ := h.mF
  have hlook := hmF.lookOk s (ok_sizes hn).1
  rw [h.hF, hno, vAt_no (by rw [h.hF, hno]; rfl)] at hlook
  have c0 := h.blk.c0
  have lp := h.blk.lt
  clear hn h hno hmF
  go_enter Tryd.func26, Tryd.ntmps26
  go_wp2_with (go_at_call 38; refine HN.out.mono ?_; rintro e w' ⟨rfl, rfl⟩)
  go_ret2
  exact ⟨rfl, rfl⟩
set_option maxHeartbeats 1000000 in
set_option maxRecDepth 100000 in
theorem read_ok (s : ByteArray) (d : List UInt8) (p cnt bF bD : Nat) (M : Md) (DF DD : DataW Value) (dn : Value) (G : List Gd) (w : World) (h : DkR w p M cnt bF bD DF DD dn G) (hn : nameL s.data.toList = true) (hyes : M.files s.data.toList = some d) (hdl : d.length ≤ 1048576) : Calls Tryd.prog 26 #[.pointer (some ⟨p, 0, none⟩), .string s] w fun e w' => ∃ z, e = .returned (.tuple #[z, .int .i64 0]) ∧ SlR w' z d ∧ Frs w z ∧ Below w.heap.size w w' := by
  have HN := isName_any s w
  rw [hn] at HN
  have HN := hidOf HN
  obtain ⟨nF, _, hmF⟩ := h.mF
  have hlook := hmF.lookOk s (ok_sizes hn).1
  have hr := h.liv.r false s.data.toList
  have e0 : entC M.files M.dur false s.data.toList = d := by show cOf M.files s.data.toList = d; unfold cOf; rw [hyes]; rfl
  rw [e0] at hr
  obtain ⟨fa, fc, ef, hle, hB⟩ := hr.form
  have hnn : fa = none → d = [] := by
    intro e
    have := hr.nilOf_form ef
    exact this e
  have ef : vAt DF s.data.toList = .slice fa d.length fc := ef
  rw [h.hF, hyes, ef] at hlook
  have c0 := h.blk.c0
  have lp := h.blk.lt
  have HB := hidOf (hB (by omega))
  clear hn h hyes hmF ef hB hr e0
  go_enter Tryd.func26, Tryd.ntmps26
  go_wp2_with (first
    | (go_at_call 38; refine HN.out.mono ?_; rintro e w' ⟨rfl, rfl⟩)
    | (go_at_call 39; refine (bclone_any fa fc d _ HB.out hnn).mono ?_; rintro e w3 ⟨z, rfl, hz, hfr, hb⟩))
  go_ret2
  exact ⟨z, rfl, hz, hfr, hb⟩
end Go.Proofs.YtkienmncifonnaaDoor
