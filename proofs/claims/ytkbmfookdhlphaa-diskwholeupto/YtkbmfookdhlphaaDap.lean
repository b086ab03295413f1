/- Append, Put, Remove, Rename: refused, or done. -/
import Derived.Test.YtkbmfookdhlphaaDop
namespace Go.Proofs.Ytkbmfookdhlphaa
open Go.RowKit Go.Maps

theorem refE_cases (L : List ByteArray) (left : Int) : refE L left = 0 ∨ refE L left = 1 ∨ refE L left = 11 := by
  unfold refE; split
  · split <;> simp
  · simp
theorem DskB.below {w w' : World} {p bF bD : Nat} {dn : Value} {left : Int} (h : DskB w p bF bD dn left) (hb : Below w.heap.size w w') : DskB w' p bF bD dn left := (hb.block p h.lt).trans h
theorem MapR.below {w w' : World} {b n : Nat} {D : DataW Value} (h : MapR w b n D) (hb : Below w.heap.size w w') : MapR w' b n D := h.kept (hb.block b h.lt)
theorem names_one (w : World) (s : ByteArray) (t : TypeId) : ∀ i u, [s][i]? = some u → (w.alloc (.cells #[.string s] t)).cell? ⟨w.heap.size, i, none⟩ = some (.string u) := by
  intro i u h
  match i, h with
  | 0, h =>
    simp at h
    subst h
    rw [cell_of_row _ w.heap.size 0 _ t (0, 0) (heap_alloc_new w _)]
    rfl
theorem names_two (w : World) (s s2 : ByteArray) (t : TypeId) : ∀ i u, [s, s2][i]? = some u → (w.alloc (.cells #[.string s, .string s2] t)).cell? ⟨w.heap.size, i, none⟩ = some (.string u) := by
  intro i u h
  match i, h with
  | 0, h =>
    simp at h
    subst h
    rw [cell_of_row _ w.heap.size 0 _ t (0, 0) (heap_alloc_new w _)]
    rfl
  | 1, h =>
    simp at h
    subst h
    rw [cell_of_row _ w.heap.size 1 _ t (0, 0) (heap_alloc_new w _)]
    rfl
theorem ref_one (p bF bD : Nat) (dn : Value) (left : Int) (s : ByteArray) (w : World) (hd : DskB w p bF bD dn left) (r : Int) (hr : refE [s] left = r) : Calls Try.prog 36 #[.pointer (some ⟨p, 0, none⟩), .slice (some ⟨w.heap.size, 0, none⟩) 1 1] (w.alloc (.cells #[.string s] 9)) fun e w' => e = .returned (.int .i64 r) ∧ w' = w.alloc (.cells #[.string s] 9) := by
  rw [← hr]
  exact refusal_any p bF bD w.heap.size dn left [s] 1 _ (hd.below (below1 w _)) (names_one w s 9) (by simp) (by simp)
theorem ref_two (p bF bD : Nat) (dn : Value) (left : Int) (s s2 : ByteArray) (w : World) (hd : DskB w p bF bD dn left) (r : Int) (hr : refE [s, s2] left = r) : Calls Try.prog 36 #[.pointer (some ⟨p, 0, none⟩), .slice (some ⟨w.heap.size, 0, none⟩) 2 2] (w.alloc (.cells #[.string s, .string s2] 9)) fun e w' => e = .returned (.int .i64 r) ∧ w' = w.alloc (.cells #[.string s, .string s2] 9) := by
  rw [← hr]
  exact refusal_any p bF bD w.heap.size dn left [s, s2] 2 _ (hd.below (below1 w _)) (names_two w s s2 9) (by simp) (by simp)
theorem DkR.more {w : World} {p : Nat} {M : Md} {cnt bF bD : Nat} {DF DD : DataW Value} {dn : Value} {G : List Gd} (h : DkR w p M cnt bF bD DF DD dn G) (hc : cnt + 1 ≤ 4398046511104) : DkR w p M (cnt + 1) bF bD DF DD dn G := by
  obtain ⟨n, hn, hm⟩ := h.mF
  obtain ⟨n', hn', hm'⟩ := h.mD
  exact ⟨h.blk, ⟨n, by omega, hm⟩, ⟨n', by omega, hm'⟩, h.ne, h.hF, h.hD, h.liv, h.row, h.done, h.deed, h.leb, hc⟩
/- the closure's variables, just laid -/
theorem strAt_new {w : World} (s : ByteArray) (hs : s.size ≤ maxLen) : strAt (w.alloc (.cells #[.string s] 9)) w.heap.size s.data.toList := ⟨s, heap_alloc_new w _, rfl, hs⟩
theorem strAt.below {w w' : World} {p : Nat} {n : Nm} (h : strAt w p n) (hb : Below w.heap.size w w') : strAt w' p n := by
  obtain ⟨s, h1, h2, h3⟩ := h
  exact ⟨s, (hb.block p (heap_lt h1)).trans h1, h2, h3⟩
theorem two_new (w : World) (A B : Obj) : ((w.alloc A).alloc B).heap[w.heap.size]? = some A ∧ ((w.alloc A).alloc B).heap[w.heap.size + 1]? = some B := ⟨heap_alloc2_old w A B, heap_alloc2_new w A B⟩
theorem deed_new {w : World} (s : ByteArray) (hs : s.size ≤ maxLen) (az : Option Addr) (zc : Nat) (d : List UInt8) (hz : SlR w (.slice az d.length zc) d) (hd : d.length ≤ 1048576) : strAt ((w.alloc (.cells #[.string s] 9)).alloc (.cells #[.slice az d.length zc] 29)) w.heap.size s.data.toList ∧ bytAt ((w.alloc (.cells #[.string s] 9)).alloc (.cells #[.slice az d.length zc] 29)) (w.heap.size + 1) d (.slice az d.length zc) := by
  obtain ⟨h1, h2⟩ := two_new w (.cells #[.string s] 9) (.cells #[.slice az d.length zc] 29)
  exact ⟨⟨s, h1, rfl, hs⟩, az, zc, rfl, h2, (hz.grow (below1 _ _)).grow (below1 _ _), hd⟩
theorem nameL_le {l : List UInt8} (h : nameL l = true) : l.length ≤ 32 := by
  unfold nameL at h
  simp at h
  omega
theorem refE_zero {L : List ByteArray} {left : Int} (h : refE L left = 0) : okNames L = true ∧ left ≠ 0 := by
  unfold refE at h
  split at h
  · rename_i h1
    refine ⟨h1, fun e => ?_⟩
    rw [if_pos e] at h
    omega
  · omega

set_option maxHeartbeats 1000000 in
set_option maxRecDepth 100000 in
theorem append_bad (s : ByteArray) (a : Option Addr) (n cap : Nat) (p cnt bF bD : Nat) (M : Md) (DF DD : DataW Value) (dn : Value) (G : List Gd) (w : World) (h : DkR w p M cnt bF bD DF DD dn G) (hr : refE [s] M.left ≠ 0) : Calls Try.prog 14 #[.pointer (some ⟨p, 0, none⟩), .string s, .slice a n cap] w fun e w' => e = .returned (.int .i64 (refE [s] M.left)) ∧ Below w.heap.size w w' := by
  rcases refE_cases [s] M.left with e | e | e
  · exact absurd e hr
  all_goals
    have HR := hidOf (ref_one p bF bD dn M.left s w h.blk _ e)
    rw [e]
    clear h hr e
    go_enter Try.func14, Try.ntmps14
    go_wp2_with (go_at_call 36; refine HR.out.mono ?_; rintro e w' ⟨rfl, rfl⟩)
    go_ret
    exact ⟨rfl, below1 w _⟩
set_option maxHeartbeats 1000000 in
set_option maxRecDepth 100000 in
theorem put_bad (s : ByteArray) (a : Option Addr) (n cap : Nat) (p cnt bF bD : Nat) (M : Md) (DF DD : DataW Value) (dn : Value) (G : List Gd) (w : World) (h : DkR w p M cnt bF bD DF DD dn G) (hr : refE [s] M.left ≠ 0) : Calls Try.prog 16 #[.pointer (some ⟨p, 0, none⟩), .string s, .slice a n cap] w fun e w' => e = .returned (.int .i64 (refE [s] M.left)) ∧ Below w.heap.size w w' := by
  rcases refE_cases [s] M.left with e | e | e
  · exact absurd e hr
  all_goals
    have HR := hidOf (ref_one p bF bD dn M.left s w h.blk _ e)
    rw [e]
    clear h hr e
    go_enter Try.func16, Try.ntmps16
    go_wp2_with (go_at_call 36; refine HR.out.mono ?_; rintro e w' ⟨rfl, rfl⟩)
    go_ret
    exact ⟨rfl, below1 w _⟩
set_option maxHeartbeats 1000000 in
set_option maxRecDepth 100000 in
theorem remove_bad (s : ByteArray) (p cnt bF bD : Nat) (M : Md) (DF DD : DataW Value) (dn : Value) (G : List Gd) (w : World) (h : DkR w p M cnt bF bD DF DD dn G) (hr : refE [s] M.left ≠ 0) : Calls Try.prog 17 #[.pointer (some ⟨p, 0, none⟩), .string s] w fun e w' => e = .returned (.int .i64 (refE [s] M.left)) ∧ Below w.heap.size w w' := by
  rcases refE_cases [s] M.left with e | e | e
  · exact absurd e hr
  all_goals
    have HR := hidOf (ref_one p bF bD dn M.left s w h.blk _ e)
    rw [e]
    clear h hr e
    go_enter Try.func17, Try.ntmps17
    go_wp2_with (go_at_call 36; refine HR.out.mono ?_; rintro e w' ⟨rfl, rfl⟩)
    go_ret
    exact ⟨rfl, below1 w _⟩
set_option maxHeartbeats 1000000 in
set_option maxRecDepth 100000 in
theorem rename_bad (s s2 : ByteArray) (p cnt bF bD : Nat) (M : Md) (DF DD : DataW Value) (dn : Value) (G : List Gd) (w : World) (h : DkR w p M cnt bF bD DF DD dn G) (hr : refE [s, s2] M.left ≠ 0) : Calls Try.prog 18 #[.pointer (some ⟨p, 0, none⟩), .string s, .string s2] w fun e w' => e = .returned (.int .i64 (refE [s, s2] M.left)) ∧ Below w.heap.size w w' := by
  rcases refE_cases [s, s2] M.left with e | e | e
  · exact absurd e hr
  all_goals
    have HR := hidOf (ref_two p bF bD dn M.left s s2 w h.blk _ e)
    rw [e]
    clear h hr e
    go_enter Try.func18, Try.ntmps18
    go_wp2_with (go_at_call 36; refine HR.out.mono ?_; rintro e w' ⟨rfl, rfl⟩)
    go_ret
    exact ⟨rfl, below1 w _⟩

set_option maxHeartbeats 1000000 in
set_option maxRecDepth 100000 in
theorem append_full (s : ByteArray) (a : Option Addr) (n cap : Nat) (p cnt bF bD : Nat) (M : Md) (DF DD : DataW Value) (dn : Value) (G : List Gd) (w : World) (h : DkR w p M cnt bF bD DF DD dn G) (hr : refE [s] M.left = 0) (hn : n ≤ 211106232532992) (hlen : ∀ k, (cOf M.files k).length ≤ 1048576) (hroom : roomB (((cOf M.files s.data.toList).length + n : Nat) : Int) (M.files s.data.toList).isSome (Maps.size DF) = false) : Calls Try.prog 14 #[.pointer (some ⟨p, 0, none⟩), .string s, .slice a n cap] w fun e w' => e = .returned (.int .i64 2) ∧ Below w.heap.size w w' := by
  obtain ⟨nF, hnF, hmF⟩ := h.mF
  have hok := refE_zero hr
  have hsz : s.size ≤ maxLen := by
    have h1 := hok.1
    unfold okNames at h1
    simp at h1
    have := nameL_le h1
    simp at this
    unfold maxLen
    omega
  have HR := hidOf (ref_one p bF bD dn M.left s w h.blk _ hr)
  have hbl := hlen s.data.toList
  have hrr := h.liv.r false s.data.toList
  obtain ⟨fa, fc, ef, _, _⟩ := hrr.form
  have ef : vAt DF s.data.toList = .slice fa (cOf M.files s.data.toList).length fc := ef
  have hlook := (hmF.below (below1 w (.cells #[.string s] 9))).look s hsz
  rw [ef] at hlook
  have HRM := hasRoom_any p bF bD nF DF dn M.left (((cOf M.files s.data.toList).length + n : Nat) : Int) s _ (h.blk.below (below1 w (.cells #[.string s] 9))) (hmF.below (below1 w _)) hsz
  rw [h.hF, hroom] at HRM
  have HRM := hidOf HRM
  have c0 := (h.blk.below (below1 w (.cells #[.string s] 9))).c0
  have lp := (h.blk.below (below1 w (.cells #[.string s] 9))).lt
  generalize (cOf M.files s.data.toList).length = m at *
  have hsum : ((m + n : Nat) : Int) = (m : Int) + (n : Int) := by omega
  rw [hsum] at HRM
  clear h hr hok hroom hlen hrr ef hmF hsum
  go_enter Try.func14, Try.ntmps14
  go_wp2_with (first
    | (go_at_call 36; refine HR.out.mono ?_; rintro e w' ⟨rfl, rfl⟩)
    | (go_at_call 37; refine HRM.out.mono ?_; rintro e w' ⟨rfl, rfl⟩))
  go_ret
  exact ⟨rfl, below1 w _⟩

theorem frs_form {w' : World} {z : Value} {d : List UInt8} (h : SlR w' z d) : ∃ az zc, z = .slice az d.length zc := by
  obtain ⟨a, c, e, _⟩ := h.form
  exact ⟨a, c, e⟩
theorem max_nat (n : Nat) : max 1 (n : Int) = ((max 1 n : Nat) : Int) := by omega
set_option maxHeartbeats 4000000 in
set_option maxRecDepth 100000 in
theorem append_ok (s : ByteArray) (a : Option Addr) (cap : Nat) (d : List UInt8) (p cnt bF bD : Nat) (M : Md) (DF DD : DataW Value) (dn : Value) (G : List Gd) (w : World) (h : DkR w p M cnt bF bD DF DD dn G) (hr : refE [s] M.left = 0) (hB : Bs w a d) (hnn : a = none → d = []) (hlen : ∀ k, (cOf M.files k).length ≤ 1048576) (hroom : roomB (((cOf M.files s.data.toList).length + d.length : Nat) : Int) (M.files s.data.toList).isSome (Maps.size DF) = true) (hc : cnt + 1 ≤ 4398046511104) : Calls Try.prog 14 #[.pointer (some ⟨p, 0, none⟩), .string s, .slice a d.length cap] w fun e w' => e = .returned (.int .i64 0) ∧ ∃ DF' dn' G', DkR w' p ⟨doD (.ap s.data.toList d) (max 1 d.length) M.files, M.dur, M.done ++ [(max 1 d.length, .ap s.data.toList d)], lessOne M.left⟩ (cnt + 1) bF bD DF' DD dn' G' ∧ Fr w w' (Ft p bF bD DF DD dn (G.map (·.z))) (Ft p bF bD DF' DD dn' (G'.map (·.z))) := by
  obtain ⟨nF, hnF, hmF⟩ := h.mF
  have hok := refE_zero hr
  have hsz : s.size ≤ maxLen := by
    have h1 := hok.1
    unfold okNames at h1
    simp at h1
    have := nameL_le h1
    simp at this
    unfold maxLen
    omega
  have HR := hidOf (ref_one p bF bD dn M.left s w h.blk _ hr)
  have hbl := hlen s.data.toList
  have hrr := h.liv.r false s.data.toList
  obtain ⟨fa, fc, ef, _, _⟩ := hrr.form
  have ef : vAt DF s.data.toList = .slice fa (cOf M.files s.data.toList).length fc := ef
  have hlook := (hmF.below (below1 w (.cells #[.string s] 9))).look s hsz
  rw [ef] at hlook
  have HRM := hasRoom_any p bF bD nF DF dn M.left (((cOf M.files s.data.toList).length + d.length : Nat) : Int) s _ (h.blk.below (below1 w (.cells #[.string s] 9))) (hmF.below (below1 w _)) hsz
  rw [h.hF, hroom] at HRM
  have HRM := hidOf HRM
  have hdl : d.length ≤ 1048576 := by unfold roomB at hroom; simp at hroom; omega
  have c0 := (h.blk.below (below1 w (.cells #[.string s] 9))).c0
  have lp := (h.blk.below (below1 w (.cells #[.string s] 9))).lt
  have hsum : (((cOf M.files s.data.toList).length + d.length : Nat) : Int) = ((cOf M.files s.data.toList).length : Int) + (d.length : Int) := by omega
  rw [hsum] at HRM
  have hs48 : s.size ≤ 281474976710656 := by
    have h1 := hok.1
    unfold okNames at h1
    simp at h1
    have := nameL_le h1
    simp at this
    omega
  have H := hidOf h
  have HB := hidOf hB
  have HLEN := hidOf hlen
  have hmf : ∀ (fn : Fn) (first cap : Array Value) (w : World), (Instr.makeFunc fn first cap).run Try.prog w = .ok (.func fn first cap) w := fun _ _ _ _ => rfl
  clear h hr hok hroom hlen hrr ef hmF hsum hB
  generalize hq : (cOf M.files s.data.toList).length = m at *
  have HQ := hidOf hq
  clear hq
  go_enter Try.func14, Try.ntmps14
  go_wp2_with (first
    | (go_at_call 36; refine HR.out.mono ?_; rintro e w' ⟨rfl, rfl⟩)
    | (go_at_call 37; refine HRM.out.mono ?_; rintro e w' ⟨rfl, rfl⟩)
    | (go_at_call 38; refine (cloneS_any s _ hs48).mono ?_; rintro e w2 ⟨rfl, hb⟩; have HB1 : Hid (Below w.heap.size w w2) := hidOf ((below1 w _).trans (hb.mono (by simp))); clear hb c0 lp hlook HR HRM)
    | (go_at_call 39; refine (bclone_any a cap d _ (HB.out.grow HB1.out) hnn).mono ?_; rintro e w3 ⟨z, rfl, hz, hfr, hb⟩; obtain ⟨az, zc, hzf⟩ := frs_form hz; subst hzf; have HB2 := hidOf (HB1.out.trans (hb.mono HB1.out.size)); have HZ := hidOf hz; have HFR : Hid (∀ sd k g, (entE DF DD sd k).ownBlock = some g → (Value.slice az d.length zc).ownBlock ≠ some g) := hidOf (fun sd k g hk e => (by have h1 := (H.out.liv.r sd k).lt g hk; have h2 := hfr g e; have h3 := HB1.out.size; omega)); have HZN : Hid (∀ k, (Value.slice az d.length zc).ownBlock = some k → w.heap.size ≤ k) := hidOf (fun g e => Nat.le_trans HB1.out.size (hfr g e)); clear hz hfr hb)
    | (go_at_call 40; rw [max_nat]; have HB3 : Hid (Below w.heap.size w ((w3.alloc (.cells #[.string s] 9)).alloc (.cells #[.slice az d.length zc] 29))) := hidOf ((HB2.out.alloc HB2.out.size _).alloc (Nat.le_trans HB2.out.size (by simp)) _); refine (do_ap s.data.toList d w3.heap.size (w3.heap.size + 1) p (max 1 d.length) cnt bF bD M DF DD dn (.slice az d.length zc) G _ (H.out.below HB3.out) ⟨_, _, rfl, deed_new s hsz az zc d HZ.out hdl⟩ HFR.out hc (by omega) HLEN.out).mono ?_; rintro e w5 ⟨rfl, hp⟩; have HP := hidOf hp; clear hp))
  go_ret
  obtain ⟨DF', dn', g1, g2⟩ := HP.out
  exact ⟨rfl, DF', dn', _, g1, by rw [mapz]; exact Fr.fresh HB3.out HZN.out g2⟩

end Go.Proofs.Ytkbmfookdhlphaa
