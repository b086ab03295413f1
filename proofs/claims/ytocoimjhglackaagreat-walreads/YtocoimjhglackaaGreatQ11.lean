/- Dap, Dpu, Dmk -/
import Derived.Test.YtocoimjhglackaaGreatQ10
import Derived.Deep.RegionHeld3
import Derived.Laws.EntriesVeiled
set_option maxHeartbeats 8000000
set_option maxRecDepth 100000
namespace Go.Proofs.YtocoimjhglackaaGreat
section
open Go.RowKit Go.Maps
theorem zS3 (L : List ByteArray) (left : Int) : refE L left = 0 \/ refE L left = 1 \/ refE L left = 11 := by
 unfold refE; split
 · split <;> simp
 · simp
theorem DskB.below {w w' : World} {p bF bD : Nat} {dn : Value} {left : Int} (h : DskB w p bF bD dn left) (hb : Below w.heap.size w w') : DskB w' p bF bD dn left := (hb.block p h.lt).trans h
theorem MapR.below {w w' : World} {b n : Nat} {D : DataW Value} (h : MapR w b n D) (hb : Below w.heap.size w w') : MapR w' b n D := h.kept (hb.block b h.lt)
theorem xC4 (w : World) (s : ByteArray) (t : TypeId) : ∀ i u, [s][i]? = some u -> (w.alloc (.cells #[.string s] t)).cell? ⟨w.heap.size, i, none⟩ = some (.string u) := by
 intro i u h
 match i, h with
 | 0, h =>
  simp at h
  subst h
  rw [cell_of_row _ w.heap.size 0 _ t (0, 0) (heap_alloc_new w _)]
  rfl
theorem xC3 (w : World) (s s2 : ByteArray) (t : TypeId) : ∀ i u, [s, s2][i]? = some u -> (w.alloc (.cells #[.string s, .string s2] t)).cell? ⟨w.heap.size, i, none⟩ = some (.string u) := by
 intro i u h
 match i, h with
 | 0, h =>
  simp at h
  subst h
  rw [cell_of_row _ w.heap.size 0 _ t (0, 0) (heap_alloc_new w _)]
  rfl
 | 1, h =>
  simp at h
  subst h
  rw [cell_of_row _ w.heap.size 1 _ t (0, 0) (heap_alloc_new w _)]
  rfl
theorem zS2 (p bF bD : Nat) (dn : Value) (left : Int) (s : ByteArray) (w : World) (hd : DskB w p bF bD dn left) (r : Int) (hr : refE [s] left = r) : Calls Tryz.prog 26 #[.pointer (some ⟨p, 0, none⟩), .slice (some ⟨w.heap.size, 0, none⟩) 1 1] (w.alloc (.cells #[.string s] 9)) fun e w' => e = .returned (.int .i64 r) /\ w' = w.alloc (.cells #[.string s] 9) := by
 rw [<- hr]
 exact zX9 p bF bD w.heap.size dn left [s] 1 _ (hd.below (zB7 w _)) (xC4 w s 9) (by simp) (by simp)
theorem yN4 (p bF bD : Nat) (dn : Value) (left : Int) (s s2 : ByteArray) (w : World) (hd : DskB w p bF bD dn left) (r : Int) (hr : refE [s, s2] left = r) : Calls Tryz.prog 26 #[.pointer (some ⟨p, 0, none⟩), .slice (some ⟨w.heap.size, 0, none⟩) 2 2] (w.alloc (.cells #[.string s, .string s2] 9)) fun e w' => e = .returned (.int .i64 r) /\ w' = w.alloc (.cells #[.string s, .string s2] 9) := by
 rw [<- hr]
 exact zX9 p bF bD w.heap.size dn left [s, s2] 2 _ (hd.below (zB7 w _)) (xC3 w s s2 9) (by simp) (by simp)
theorem DkR.more {w : World} {p : Nat} {M : Md} {cnt bF bD : Nat} {DF DD : DataW Value} {dn : Value} {G : List Gd} (h : DkR w p M cnt bF bD DF DD dn G) (hc : cnt + 1 <= 4398046511104) : DkR w p M (cnt + 1) bF bD DF DD dn G := by
 obtain ⟨n, hn, hm⟩ := h.mF
 obtain ⟨n', hn', hm'⟩ := h.mD
 exact ⟨h.blk, ⟨n, by omega, hm⟩, ⟨n', by omega, hm'⟩, h.ne, h.hF, h.hD, h.liv, h.row, h.done, h.deed, h.leb, hc⟩
theorem yM5 (w : World) (A B : Obj) : ((w.alloc A).alloc B).heap[w.heap.size]? = some A /\ ((w.alloc A).alloc B).heap[w.heap.size + 1]? = some B := ⟨heap_alloc2_old w A B, heap_alloc2_new w A B⟩
theorem yU9 {w : World} (s : ByteArray) (hs : s.size <= maxLen) (az : Option Addr) (zc : Nat) (d : List UInt8) (hz : SlR w (.slice az d.length zc) d) (hd : d.length <= 1048576) : zS0 ((w.alloc (.cells #[.string s] 9)).alloc (.cells #[.slice az d.length zc] 22)) w.heap.size s.data.toList /\ yQ5 ((w.alloc (.cells #[.string s] 9)).alloc (.cells #[.slice az d.length zc] 22)) (w.heap.size + 1) d (.slice az d.length zc) := by
 obtain ⟨h1, h2⟩ := yM5 w (.cells #[.string s] 9) (.cells #[.slice az d.length zc] 22)
 exact ⟨⟨s, h1, rfl, hs⟩, az, zc, rfl, h2, (hz.grow (zB7 _ _)).grow (zB7 _ _), hd⟩
theorem zV8 {l : List UInt8} (h : zF0 l = true) : l.length <= 32 := by
 unfold zF0 at h
 simp at h
 omega
theorem zF9 {L : List ByteArray} {left : Int} (h : refE L left = 0) : zG4 L = true /\ left ≠ 0 := by
 unfold refE at h
 split at h
 · rename_i h1
   refine ⟨h1, fun e => ?_⟩
   rw [if_pos e] at h
   omega
 · omega
theorem yY5 (s : ByteArray) (a : Option Addr) (n cap : Nat) (p cnt bF bD : Nat) (M : Md) (DF DD : DataW Value) (dn : Value) (G : List Gd) (w : World) (h : DkR w p M cnt bF bD DF DD dn G) (hr : refE [s] M.left ≠ 0) : Calls Tryz.prog 10 #[.pointer (some ⟨p, 0, none⟩), .string s, .slice a n cap] w fun e w' => e = .returned (.int .i64 (refE [s] M.left)) /\ Below w.heap.size w w' := by
 rcases zS3 [s] M.left with e | e | e
 · exact absurd e hr
 all_goals
  have HR := zA0 (zS2 p bF bD dn M.left s w h.blk _ e)
  rw [e]
  clear h hr e
  go_enter Tryz.func10, Tryz.ntmps10
  go_wp2_with (go_at_call 26; refine HR.out.mono ?_; rintro e w' ⟨rfl, rfl⟩)
  go_ret
  exact ⟨rfl, zB7 w _⟩
theorem xS4 (s : ByteArray) (a : Option Addr) (n cap : Nat) (p cnt bF bD : Nat) (M : Md) (DF DD : DataW Value) (dn : Value) (G : List Gd) (w : World) (h : DkR w p M cnt bF bD DF DD dn G) (hr : refE [s] M.left ≠ 0) : Calls Tryz.prog 67 #[.pointer (some ⟨p, 0, none⟩), .string s, .slice a n cap] w fun e w' => e = .returned (.int .i64 (refE [s] M.left)) /\ Below w.heap.size w w' := by
 rcases zS3 [s] M.left with e | e | e
 · exact absurd e hr
 all_goals
  have HR := zA0 (zS2 p bF bD dn M.left s w h.blk _ e)
  rw [e]
  clear h hr e
  go_enter Tryz.func67, Tryz.ntmps67
  go_wp2_with (go_at_call 26; refine HR.out.mono ?_; rintro e w' ⟨rfl, rfl⟩)
  go_ret
  exact ⟨rfl, zB7 w _⟩
theorem yW5 (s s2 : ByteArray) (p cnt bF bD : Nat) (M : Md) (DF DD : DataW Value) (dn : Value) (G : List Gd) (w : World) (h : DkR w p M cnt bF bD DF DD dn G) (hr : refE [s, s2] M.left ≠ 0) : Calls Tryz.prog 69 #[.pointer (some ⟨p, 0, none⟩), .string s, .string s2] w fun e w' => e = .returned (.int .i64 (refE [s, s2] M.left)) /\ Below w.heap.size w w' := by
 rcases zS3 [s, s2] M.left with e | e | e
 · exact absurd e hr
 all_goals
  have HR := zA0 (yN4 p bF bD dn M.left s s2 w h.blk _ e)
  rw [e]
  clear h hr e
  go_enter Tryz.func69, Tryz.ntmps69
  go_wp2_with (go_at_call 26; refine HR.out.mono ?_; rintro e w' ⟨rfl, rfl⟩)
  go_ret
  exact ⟨rfl, zB7 w _⟩
theorem yQ7 (s : ByteArray) (a : Option Addr) (n cap : Nat) (p cnt bF bD : Nat) (M : Md) (DF DD : DataW Value) (dn : Value) (G : List Gd) (w : World) (h : DkR w p M cnt bF bD DF DD dn G) (hr : refE [s] M.left = 0) (hn : n <= 211106232532992) (hlen : ∀ k, (cOf M.files k).length <= 1048576) (hroom : zH7 (((cOf M.files s.data.toList).length + n : Nat) : Int) (M.files s.data.toList).isSome (Maps.size DF) = false) : Calls Tryz.prog 10 #[.pointer (some ⟨p, 0, none⟩), .string s, .slice a n cap] w fun e w' => e = .returned (.int .i64 2) /\ Below w.heap.size w w' := by
 obtain ⟨nF, hnF, hmF⟩ := h.mF
 have hok := zF9 hr
 have hsz : s.size <= maxLen := by
  have h1 := hok.1
  unfold zG4 at h1
  simp at h1
  have := zV8 h1
  simp at this
  unfold maxLen
  omega
 have HR := zA0 (zS2 p bF bD dn M.left s w h.blk _ hr)
 have hbl := hlen s.data.toList
 have hrr := h.liv.r false s.data.toList
 obtain ⟨fa, fc, ef, _, _⟩ := hrr.form
 have ef : vAt DF s.data.toList = .slice fa (cOf M.files s.data.toList).length fc := ef
 have hlook := (hmF.below (zB7 w (.cells #[.string s] 9))).look s hsz
 rw [ef] at hlook
 have HRM := zL2 p bF bD nF DF dn M.left (((cOf M.files s.data.toList).length + n : Nat) : Int) s _ (h.blk.below (zB7 w (.cells #[.string s] 9))) (hmF.below (zB7 w _)) hsz
 rw [h.hF, hroom] at HRM
 have HRM := zA0 HRM
 have c0 := (h.blk.below (zB7 w (.cells #[.string s] 9))).c0
 have lp := (h.blk.below (zB7 w (.cells #[.string s] 9))).lt
 generalize (cOf M.files s.data.toList).length = m at *
 have hsum : ((m + n : Nat) : Int) = (m : Int) + (n : Int) := by omega
 rw [hsum] at HRM
 clear h hr hok hroom hlen hrr ef hmF hsum
 go_enter Tryz.func10, Tryz.ntmps10
 go_wp2_with (first
  | (go_at_call 26; refine HR.out.mono ?_; rintro e w' ⟨rfl, rfl⟩)
  | (go_at_call 27; refine HRM.out.mono ?_; rintro e w' ⟨rfl, rfl⟩))
 go_ret
 exact ⟨rfl, zB7 w _⟩
theorem yG2 {w' : World} {z : Value} {d : List UInt8} (h : SlR w' z d) : ∃ az zc, z = .slice az d.length zc := by
 obtain ⟨a, c, e, _⟩ := h.form
 exact ⟨a, c, e⟩
theorem xT5 (n : Nat) : max 1 (n : Int) = ((max 1 n : Nat) : Int) := by omega
theorem xG0 (s : ByteArray) (a : Option Addr) (cap : Nat) (d : List UInt8) (p cnt bF bD : Nat) (M : Md) (DF DD : DataW Value) (dn : Value) (G : List Gd) (w : World) (h : DkR w p M cnt bF bD DF DD dn G) (hr : refE [s] M.left = 0) (hB : Bs w a d) (hnn : a = none -> d = []) (hlen : ∀ k, (cOf M.files k).length <= 1048576) (hroom : zH7 (((cOf M.files s.data.toList).length + d.length : Nat) : Int) (M.files s.data.toList).isSome (Maps.size DF) = true) (hc : cnt + 1 <= 4398046511104) : Calls Tryz.prog 10 #[.pointer (some ⟨p, 0, none⟩), .string s, .slice a d.length cap] w fun e w' => e = .returned (.int .i64 0) /\ ∃ DF' dn' G', DkR w' p ⟨doD (.ap s.data.toList d) (max 1 d.length) M.files, M.dur, M.done ++ [(max 1 d.length, .ap s.data.toList d)], zF3 M.left⟩ (cnt + 1) bF bD DF' DD dn' G' /\ Fr w w' (Ft p bF bD DF DD dn (G.map (·.z))) (Ft p bF bD DF' DD dn' (G'.map (·.z))) := by
 obtain ⟨nF, hnF, hmF⟩ := h.mF
 have hok := zF9 hr
 have hsz : s.size <= maxLen := by
  have h1 := hok.1
  unfold zG4 at h1
  simp at h1
  have := zV8 h1
  simp at this
  unfold maxLen
  omega
 have HR := zA0 (zS2 p bF bD dn M.left s w h.blk _ hr)
 have hbl := hlen s.data.toList
 have hrr := h.liv.r false s.data.toList
 obtain ⟨fa, fc, ef, _, _⟩ := hrr.form
 have ef : vAt DF s.data.toList = .slice fa (cOf M.files s.data.toList).length fc := ef
 have hlook := (hmF.below (zB7 w (.cells #[.string s] 9))).look s hsz
 rw [ef] at hlook
 have HRM := zL2 p bF bD nF DF dn M.left (((cOf M.files s.data.toList).length + d.length : Nat) : Int) s _ (h.blk.below (zB7 w (.cells #[.string s] 9))) (hmF.below (zB7 w _)) hsz
 rw [h.hF, hroom] at HRM
 have HRM := zA0 HRM
 have hdl : d.length <= 1048576 := by unfold zH7 at hroom; simp at hroom; omega
 have c0 := (h.blk.below (zB7 w (.cells #[.string s] 9))).c0
 have lp := (h.blk.below (zB7 w (.cells #[.string s] 9))).lt
 have hsum : (((cOf M.files s.data.toList).length + d.length : Nat) : Int) = ((cOf M.files s.data.toList).length : Int) + (d.length : Int) := by omega
 rw [hsum] at HRM
 have hs48 : s.size <= 281474976710656 := by
  have h1 := hok.1
  unfold zG4 at h1
  simp at h1
  have := zV8 h1
  simp at this
  omega
 have H := zA0 h
 have HB := zA0 hB
 have HLEN := zA0 hlen
 have hmf : ∀ (fn : Fn) (first cap : Array Value) (w : World), (Instr.makeFunc fn first cap).run Tryz.prog w = .ok (.func fn first cap) w := fun _ _ _ _ => rfl
 clear h hr hok hroom hlen hrr ef hmF hsum hB
 generalize hq : (cOf M.files s.data.toList).length = m at *
 have HQ := zA0 hq
 clear hq
 go_enter Tryz.func10, Tryz.ntmps10
 go_wp2_with (first
  | (go_at_call 26; refine HR.out.mono ?_; rintro e w' ⟨rfl, rfl⟩)
  | (go_at_call 27; refine HRM.out.mono ?_; rintro e w' ⟨rfl, rfl⟩)
  | (go_at_call 28; refine (zO3 s _ hs48).mono ?_; rintro e w2 ⟨rfl, hb⟩; have HB1 : Hid (Below w.heap.size w w2) := zA0 ((zB7 w _).trans (hb.mono (by simp))); clear hb c0 lp hlook HR HRM)
  | (go_at_call 29; refine (zO4 a cap d _ (HB.out.grow HB1.out) hnn).mono ?_; rintro e w3 ⟨z, rfl, hz, hfr, hb⟩; obtain ⟨az, zc, hzf⟩ := yG2 hz; subst hzf; have HB2 := zA0 (HB1.out.trans (hb.mono HB1.out.size)); have HZ := zA0 hz; have HFR : Hid (∀ sd k g, (entE DF DD sd k).ownBlock = some g -> (Value.slice az d.length zc).ownBlock ≠ some g) := zA0 (fun sd k g hk e => (by have h1 := (H.out.liv.r sd k).lt g hk; have h2 := hfr g e; have h3 := HB1.out.size; omega)); have HZN : Hid (∀ k, (Value.slice az d.length zc).ownBlock = some k -> w.heap.size <= k) := zA0 (fun g e => Nat.le_trans HB1.out.size (hfr g e)); clear hz hfr hb)
  | (go_at_call 30; rw [xT5]; have HB3 : Hid (Below w.heap.size w ((w3.alloc (.cells #[.string s] 9)).alloc (.cells #[.slice az d.length zc] 22))) := zA0 ((HB2.out.alloc HB2.out.size _).alloc (Nat.le_trans HB2.out.size (by simp)) _); refine (kF2 s.data.toList d w3.heap.size (w3.heap.size + 1) p (max 1 d.length) cnt bF bD M DF DD dn (.slice az d.length zc) G _ (H.out.below HB3.out) ⟨_, _, rfl, yU9 s hsz az zc d HZ.out hdl⟩ HFR.out hc (by omega) HLEN.out).mono ?_; rintro e w5 ⟨rfl, hp⟩; have HP := zA0 hp; clear hp))
 go_ret
 obtain ⟨DF', dn', g1, g2⟩ := HP.out
 exact ⟨rfl, DF', dn', _, g1, by rw [mapz]; exact Fr.fresh HB3.out HZN.out g2⟩
end
section
open Go.RowKit Go.Maps
theorem zK8 {s : ByteArray} (h : zF0 s.data.toList = true) : s.size <= maxLen /\ s.size <= 281474976710656 := by
 have := zV8 h
 simp at this
 unfold maxLen
 omega
theorem zL0 {s : ByteArray} (h : zG4 [s] = true) : zF0 s.data.toList = true := by unfold zG4 at h; simpa using h
theorem zK9 {s s2 : ByteArray} (h : zG4 [s, s2] = true) : zF0 s.data.toList = true /\ zF0 s2.data.toList = true := by unfold zG4 at h; simpa using h
theorem yT9 (p cnt bF bD : Nat) (M : Md) (DF DD : DataW Value) (dn : Value) (G : List Gd) (w : World) (h : DkR w p M cnt bF bD DF DD dn G) (s : ByteArray) (hs : s.size <= maxLen) (b : Bool) (hb : (M.files s.data.toList).isSome = b) : Calls Tryz.prog 55 #[.pointer (some ⟨p, 0, none⟩), .string s] w fun e w' => e = .returned (.bool b) /\ w' = w := by
 obtain ⟨n, _, hm⟩ := h.mF
 have := xD9 p bF bD n DF dn M.left s w h.blk hm hs
 change Calls _ _ _ _ fun e w' => e = .returned (.bool (Maps.has DF (.string s.data.toList))) /\ _ at this
 rw [h.hF, hb] at this
 exact this
theorem xJ1 (s : ByteArray) (a : Option Addr) (n cap : Nat) (p cnt bF bD : Nat) (M : Md) (DF DD : DataW Value) (dn : Value) (G : List Gd) (w : World) (h : DkR w p M cnt bF bD DF DD dn G) (hr : refE [s] M.left = 0) (hroom : zH7 (n : Int) (M.files s.data.toList).isSome (Maps.size DF) = false) : Calls Tryz.prog 67 #[.pointer (some ⟨p, 0, none⟩), .string s, .slice a n cap] w fun e w' => e = .returned (.int .i64 2) /\ Below w.heap.size w w' := by
 obtain ⟨nF, hnF, hmF⟩ := h.mF
 have hsz := (zK8 (zL0 (zF9 hr).1)).1
 have HR := zA0 (zS2 p bF bD dn M.left s w h.blk _ hr)
 have HRM := zL2 p bF bD nF DF dn M.left (n : Int) s _ (h.blk.below (zB7 w (.cells #[.string s] 9))) (hmF.below (zB7 w _)) hsz
 rw [h.hF, hroom] at HRM
 have HRM := zA0 HRM
 clear h hr hroom hmF
 go_enter Tryz.func67, Tryz.ntmps67
 go_wp2_with (first
  | (go_at_call 26; refine HR.out.mono ?_; rintro e w' ⟨rfl, rfl⟩)
  | (go_at_call 27; refine HRM.out.mono ?_; rintro e w' ⟨rfl, rfl⟩))
 go_ret
 exact ⟨rfl, zB7 w _⟩
theorem xY3 (s : ByteArray) (a : Option Addr) (cap : Nat) (d : List UInt8) (p cnt bF bD : Nat) (M : Md) (DF DD : DataW Value) (dn : Value) (G : List Gd) (w : World) (h : DkR w p M cnt bF bD DF DD dn G) (hr : refE [s] M.left = 0) (hB : Bs w a d) (hnn : a = none -> d = []) (hroom : zH7 (d.length : Int) (M.files s.data.toList).isSome (Maps.size DF) = true) (hc : cnt + 1 <= 4398046511104) : Calls Tryz.prog 67 #[.pointer (some ⟨p, 0, none⟩), .string s, .slice a d.length cap] w fun e w' => e = .returned (.int .i64 0) /\ ∃ DF' dn' G', DkR w' p ⟨doD (.pt s.data.toList d) 1 M.files, M.dur, M.done ++ [(1, .pt s.data.toList d)], zF3 M.left⟩ (cnt + 1) bF bD DF' DD dn' G' /\ Fr w w' (Ft p bF bD DF DD dn (G.map (·.z))) (Ft p bF bD DF' DD dn' (G'.map (·.z))) := by
 obtain ⟨nF, hnF, hmF⟩ := h.mF
 obtain ⟨hsz, hs48⟩ := zK8 (zL0 (zF9 hr).1)
 have HR := zA0 (zS2 p bF bD dn M.left s w h.blk _ hr)
 have HRM := zL2 p bF bD nF DF dn M.left (d.length : Int) s _ (h.blk.below (zB7 w (.cells #[.string s] 9))) (hmF.below (zB7 w _)) hsz
 rw [h.hF, hroom] at HRM
 have HRM := zA0 HRM
 have hdl : d.length <= 1048576 := by unfold zH7 at hroom; simp at hroom; omega
 have H := zA0 h
 have HB := zA0 hB
 have hmf : ∀ (fn : Fn) (first cap : Array Value) (w : World), (Instr.makeFunc fn first cap).run Tryz.prog w = .ok (.func fn first cap) w := fun _ _ _ _ => rfl
 clear h hr hroom hmF hB
 go_enter Tryz.func67, Tryz.ntmps67
 go_wp2_with (first
  | (go_at_call 26; refine HR.out.mono ?_; rintro e w' ⟨rfl, rfl⟩)
  | (go_at_call 27; refine HRM.out.mono ?_; rintro e w' ⟨rfl, rfl⟩)
  | (go_at_call 28; refine (zO3 s _ hs48).mono ?_; rintro e w2 ⟨rfl, hb⟩; have HB1 : Hid (Below w.heap.size w w2) := zA0 ((zB7 w _).trans (hb.mono (by simp))); clear hb HR HRM)
  | (go_at_call 29; refine (zO4 a cap d _ (HB.out.grow HB1.out) hnn).mono ?_; rintro e w3 ⟨z, rfl, hz, hfr, hb⟩; obtain ⟨az, zc, hzf⟩ := yG2 hz; subst hzf; have HB2 := zA0 (HB1.out.trans (hb.mono HB1.out.size)); have HZ := zA0 hz; have HFR : Hid (∀ sd k g, (entE DF DD sd k).ownBlock = some g -> (Value.slice az d.length zc).ownBlock ≠ some g) := zA0 (fun sd k g hk e => (by have h1 := (H.out.liv.r sd k).lt g hk; have h2 := hfr g e; have h3 := HB1.out.size; omega)); have HZN : Hid (∀ k, (Value.slice az d.length zc).ownBlock = some k -> w.heap.size <= k) := zA0 (fun g e => Nat.le_trans HB1.out.size (hfr g e)); clear hz hfr hb)
  | (go_at_call 30; have HB3 : Hid (Below w.heap.size w ((w3.alloc (.cells #[.string s] 9)).alloc (.cells #[.slice az d.length zc] 22))) := zA0 ((HB2.out.alloc HB2.out.size _).alloc (Nat.le_trans HB2.out.size (by simp)) _); refine (kF1 s.data.toList d w3.heap.size (w3.heap.size + 1) p 1 cnt bF bD M DF DD dn (.slice az d.length zc) G _ (H.out.below HB3.out) ⟨_, _, rfl, yU9 s hsz az zc d HZ.out hdl⟩ HFR.out hc).mono ?_; rintro e w5 ⟨rfl, hp⟩; have HP := zA0 hp; clear hp))
 go_ret
 obtain ⟨DF', dn', g1, g2⟩ := HP.out
 exact ⟨rfl, DF', dn', _, g1, by rw [mapz]; exact Fr.fresh HB3.out HZN.out g2⟩
theorem xT0 (E : Bool -> Nm -> Value) : ∀ s k g, (E s k).ownBlock = some g -> (Value.slice none 0 0).ownBlock ≠ some g := fun _ _ _ _ e => by cases e
theorem yN2 (s s2 : ByteArray) (p cnt bF bD : Nat) (M : Md) (DF DD : DataW Value) (dn : Value) (G : List Gd) (w : World) (h : DkR w p M cnt bF bD DF DD dn G) (hr : refE [s, s2] M.left = 0) (hno : M.files s.data.toList = none) : Calls Tryz.prog 69 #[.pointer (some ⟨p, 0, none⟩), .string s, .string s2] w fun e w' => e = .returned (.int .i64 12) /\ Below w.heap.size w w' := by
 have hsz := (zK8 (zK9 (zF9 hr).1).1).1
 have HR := zA0 (yN4 p bF bD dn M.left s s2 w h.blk _ hr)
 have HH := zA0 (yT9 p cnt bF bD M DF DD dn G _ (h.below (zB7 w (.cells #[.string s, .string s2] 9))) s hsz false (by rw [hno]; rfl))
 clear h hr hno
 go_enter Tryz.func69, Tryz.ntmps69
 go_wp2_with (first
  | (go_at_call 26; refine HR.out.mono ?_; rintro e w' ⟨rfl, rfl⟩)
  | (go_at_call 55; refine HH.out.mono ?_; rintro e w' ⟨rfl, rfl⟩))
 go_ret
 exact ⟨rfl, zB7 w _⟩
theorem yR5 (w : World) (s s2 : ByteArray) (h1 : s.size <= maxLen) (h2 : s2.size <= maxLen) : zS0 ((w.alloc (.cells #[.string s] 9)).alloc (.cells #[.string s2] 9)) w.heap.size s.data.toList /\ zS0 ((w.alloc (.cells #[.string s] 9)).alloc (.cells #[.string s2] 9)) (w.heap.size + 1) s2.data.toList :=
 ⟨⟨s, (yM5 w _ _).1, rfl, h1⟩, ⟨s2, (yM5 w _ _).2, rfl, h2⟩⟩
theorem xB3 (s s2 : ByteArray) (p cnt bF bD : Nat) (M : Md) (DF DD : DataW Value) (dn : Value) (G : List Gd) (w : World) (h : DkR w p M cnt bF bD DF DD dn G) (hr : refE [s, s2] M.left = 0) (hyes : (M.files s.data.toList).isSome = true) (hc : cnt + 1 <= 4398046511104) : Calls Tryz.prog 69 #[.pointer (some ⟨p, 0, none⟩), .string s, .string s2] w fun e w' => e = .returned (.int .i64 0) /\ ∃ DF' dn' G', DkR w' p ⟨doD (.rn s.data.toList s2.data.toList) 1 M.files, M.dur, M.done ++ [(1, .rn s.data.toList s2.data.toList)], zF3 M.left⟩ (cnt + 1) bF bD DF' DD dn' G' /\ Fr w w' (Ft p bF bD DF DD dn (G.map (·.z))) (Ft p bF bD DF' DD dn' (G'.map (·.z))) := by
 obtain ⟨hsz, hs48⟩ := zK8 (zK9 (zF9 hr).1).1
 obtain ⟨ht, ht48⟩ := zK8 (zK9 (zF9 hr).1).2
 have HR := zA0 (yN4 p bF bD dn M.left s s2 w h.blk _ hr)
 have HH := zA0 (yT9 p cnt bF bD M DF DD dn G _ (h.below (zB7 w (.cells #[.string s, .string s2] 9))) s hsz true hyes)
 have H := zA0 h
 have hmf : ∀ (fn : Fn) (first cap : Array Value) (w : World), (Instr.makeFunc fn first cap).run Tryz.prog w = .ok (.func fn first cap) w := fun _ _ _ _ => rfl
 have T1 : True := trivial
 clear h hr hyes
 go_enter Tryz.func69, Tryz.ntmps69
 go_wp2_with (first
  | (go_at_call 26; refine HR.out.mono ?_; rintro e w' ⟨rfl, rfl⟩)
  | (go_at_call 55; refine HH.out.mono ?_; rintro e w' ⟨rfl, rfl⟩)
  | (go_at_call 28; have hh := T1; clear T1; refine (zO3 s _ hs48).mono ?_; rintro e w2 ⟨rfl, hb⟩; have HB1 : Hid (Below w.heap.size w w2) := zA0 ((zB7 w _).trans (hb.mono (by simp))); clear hb HR HH)
  | (go_at_call 28; refine (zO3 s2 _ ht48).mono ?_; rintro e w3 ⟨rfl, hb⟩; have HB2 := zA0 (HB1.out.trans (hb.mono HB1.out.size)); clear hb)
  | (go_at_call 30; have HB3 : Hid (Below w.heap.size w ((w3.alloc (.cells #[.string s] 9)).alloc (.cells #[.string s2] 9))) := zA0 ((HB2.out.alloc HB2.out.size _).alloc (Nat.le_trans HB2.out.size (by simp)) _); refine (kF0 s.data.toList s2.data.toList w3.heap.size (w3.heap.size + 1) p 1 cnt bF bD M DF DD dn (.slice none 0 0) G _ (H.out.below HB3.out) ⟨_, _, rfl, (yR5 w3 s s2 hsz ht).1, (yR5 w3 s s2 hsz ht).2, rfl⟩ (xT0 _) hc).mono ?_; rintro e w5 ⟨rfl, hp⟩; have HP := zA0 hp; clear hp))
 go_ret
 obtain ⟨DF', dn', g1, g2⟩ := HP.out
 exact ⟨rfl, DF', dn', _, g1, by rw [mapz]; exact Fr.fresh HB3.out (fun _ e => by cases e) g2⟩
theorem SlR.nilOf_form {w : World} {v : Value} {d : List UInt8} (h : SlR w v d) {a : Option Addr} {c : Nat} (e : v = .slice a d.length c) (ha : a = none) : d = [] := by
 rcases h with ⟨rfl, h⟩ | ⟨g, cap, cur, rfl, _⟩
 · exact h
 · cases e; cases ha
theorem xB4 (s : ByteArray) (p cnt bF bD : Nat) (M : Md) (DF DD : DataW Value) (dn : Value) (G : List Gd) (w : World) (h : DkR w p M cnt bF bD DF DD dn G) (hn : zF0 s.data.toList = true) (hno : M.files s.data.toList = none) : Calls Tryz.prog 17 #[.pointer (some ⟨p, 0, none⟩), .string s] w fun e w' => e = .returned (.tuple #[.slice none 0 0, .int .i64 12]) /\ w' = w := by
 have HN := zO2 s w
 rw [hn] at HN
 have HN := zA0 HN
 obtain ⟨nF, _, hmF⟩ := h.mF
 have hlook := hmF.lookOk s (zK8 hn).1
 rw [h.hF, hno, xM7 (by rw [h.hF, hno]; rfl)] at hlook
 have c0 := h.blk.c0
 have lp := h.blk.lt
 clear hn h hno hmF
 go_enter Tryz.func17, Tryz.ntmps17
 go_wp2_with (go_at_call 47; refine HN.out.mono ?_; rintro e w' ⟨rfl, rfl⟩)
 go_ret2
 exact ⟨rfl, rfl⟩
theorem xS3 (s : ByteArray) (d : List UInt8) (p cnt bF bD : Nat) (M : Md) (DF DD : DataW Value) (dn : Value) (G : List Gd) (w : World) (h : DkR w p M cnt bF bD DF DD dn G) (hn : zF0 s.data.toList = true) (hyes : M.files s.data.toList = some d) (hdl : d.length <= 1048576) : Calls Tryz.prog 17 #[.pointer (some ⟨p, 0, none⟩), .string s] w fun e w' => ∃ z, e = .returned (.tuple #[z, .int .i64 0]) /\ SlR w' z d /\ Frs w z /\ Below w.heap.size w w' := by
 have HN := zO2 s w
 rw [hn] at HN
 have HN := zA0 HN
 obtain ⟨nF, _, hmF⟩ := h.mF
 have hlook := hmF.lookOk s (zK8 hn).1
 have hr := h.liv.r false s.data.toList
 have e0 : entC M.files M.dur false s.data.toList = d := by show cOf M.files s.data.toList = d; unfold cOf; rw [hyes]; rfl
 rw [e0] at hr
 obtain ⟨fa, fc, ef, hle, hB⟩ := hr.form
 have hnn : fa = none -> d = [] := by
  intro e
  have := hr.nilOf_form ef
  exact this e
 have ef : vAt DF s.data.toList = .slice fa d.length fc := ef
 rw [h.hF, hyes, ef] at hlook
 have c0 := h.blk.c0
 have lp := h.blk.lt
 have HB := zA0 (hB (by omega))
 clear hn h hyes hmF ef hB hr e0
 go_enter Tryz.func17, Tryz.ntmps17
 go_wp2_with (first
  | (go_at_call 47; refine HN.out.mono ?_; rintro e w' ⟨rfl, rfl⟩)
  | (go_at_call 29; refine (zO4 fa fc d _ HB.out hnn).mono ?_; rintro e w3 ⟨z, rfl, hz, hfr, hb⟩))
 go_ret2
 exact ⟨z, rfl, hz, hfr, hb⟩
end
section
open Go.RowKit Go.Maps
def sumU (l : List (Nat × Dd)) : Nat := (l.map (·.1)).sum
theorem yM6 (l : List (Nat × Dd)) (c : Nat) (h : ∀ x ∈ l, x.1 <= c) : ∀ k, sumU (l.take k) <= k * c := by
 induction l with
 | nil => intro k; simp [sumU]
 | cons x l ih =>
  intro k
  cases k with
  | zero => simp [sumU]
  | succ k =>
   have h1 := h x (by simp)
   have h2 := ih (fun y hy => h y (by simp [hy])) k
   simp only [sumU, List.take_succ_cons, List.map_cons, List.sum_cons] at h2 ⊢
   rw [Nat.succ_mul]
   omega
theorem zM0.form {w : World} {f : Value} {x : Dd} {z : Value} (h : zM0 w f x z) : ∃ K cs, f = .func (.func K) #[] cs := by
 cases x with
 | ap n d => obtain ⟨_, _, e, _⟩ := h; exact ⟨_, _, e⟩
 | pt n d => obtain ⟨_, _, e, _⟩ := h; exact ⟨_, _, e⟩
 | rm n => exact h.elim
 | rn a b => obtain ⟨_, _, e, _⟩ := h; exact ⟨_, _, e⟩
theorem xA2 (l : List (Nat × Dd)) (k : Nat) (x : Nat × Dd) (h : l[k]? = some x) : sumU (l.take (k + 1)) = sumU (l.take k) + x.1 := by
 have hk := (List.getElem?_eq_some_iff.1 h).1
 have e : l[k] = x := (List.getElem?_eq_some_iff.1 h).2
 unfold sumU
 rw [List.take_succ_eq_append_getElem hk, List.map_append, List.sum_append, e]
 simp
theorem DkR.rowAt {w : World} {p : Nat} {M : Md} {cnt bF bD : Nat} {DF DD : DataW Value} {dn : Value} {G : List Gd} (h : DkR w p M cnt bF bD DF DD dn G) {k : Nat} {g : Gd} (hk : G[k]? = some g) : ∃ b cap, dn = .slice (some ⟨b, 0, none⟩) G.length cap /\ b < w.heap.size /\ w.cell? ⟨b, k * 2, none⟩ = some (.int .i64 (g.u : Int)) /\ w.cell? ⟨b, k * 2 + 1, none⟩ = some g.f := by
 have hlt := (List.getElem?_eq_some_iff.1 hk).1
 rcases h.row.2 with ⟨_, e⟩ | ⟨b, cap, cur, e, _, h4, h5, h6, h7, h8⟩
 · omega
 · obtain ⟨r0, r1⟩ := xI1 G k g hk
   refine ⟨b, cap, e, zA4 h4, ?_, ?_⟩
   · rw [cell_of_row w b _ cur 123 (0, 0) h4]
     rw [<- h8, List.getElem?_take, if_pos (by omega)] at r0
     simpa using r0
   · rw [cell_of_row w b _ cur 123 (0, 0) h4]
     rw [<- h8, List.getElem?_take, if_pos (by omega)] at r1
     simpa using r1
theorem DkR.dnForm {w : World} {p : Nat} {M : Md} {cnt bF bD : Nat} {DF DD : DataW Value} {dn : Value} {G : List Gd} (h : DkR w p M cnt bF bD DF DD dn G) : ∃ a cap, dn = .slice a G.length cap := by
 rcases h.row.2 with ⟨e, e2⟩ | ⟨b, cap, cur, e, _⟩
 · exact ⟨none, 0, by rw [e, e2]⟩
 · exact ⟨_, cap, e⟩
theorem DkR.doneAt {w : World} {p : Nat} {M : Md} {cnt bF bD : Nat} {DF DD : DataW Value} {dn : Value} {G : List Gd} (h : DkR w p M cnt bF bD DF DD dn G) {k : Nat} {g : Gd} (hk : G[k]? = some g) : M.done[k]? = some (g.u, g.x) := by
 rw [h.done, List.getElem?_map, hk]; rfl
theorem DkR.lenG {w : World} {p : Nat} {M : Md} {cnt bF bD : Nat} {DF DD : DataW Value} {dn : Value} {G : List Gd} (h : DkR w p M cnt bF bD DF DD dn G) : M.done.length = G.length /\ G.length <= 4398046511104 := by
 obtain ⟨n, hn, _⟩ := h.mD
 have := h.cn
 exact ⟨by rw [h.done]; simp, by omega⟩
theorem yI1 (p cnt bF bD : Nat) (M : Md) (DF DD : DataW Value) (dn : Value) (G : List Gd) (w : World) (h : DkR w p M cnt bF bD DF DD dn G) (hU : ∀ x ∈ M.done, x.1 <= 1048576) : Calls Tryz.prog 34 #[.pointer (some ⟨p, 0, none⟩)] w fun e w' => e = .returned (.int .i64 (sumU M.done : Int)) /\ Below w.heap.size w w' := by
 have H := zA0 h
 have c2 := h.blk.c2
 have lp := h.blk.lt
 obtain ⟨a, cap, hdn⟩ := h.dnForm
 obtain ⟨hlen, hgl⟩ := h.lenG
 have HU := zA0 hU
 rw [hdn] at c2
 have HDN := zA0 hdn
 have HLEN := zA0 hlen
 clear h hU hdn hlen
 go_enter Tryz.func34, Tryz.ntmps34
 go_wp2
 go_loopw [3, 11] (fun n i wr => ∃ k : Nat, k <= G.length /\ i = .int .i64 (k : Int) /\ n = .int .i64 (sumU (M.done.take k) : Int) /\ Hid (Below w.heap.size w wr)) (fun _ i _ => G.length - (intOf i).toNat)
 case atStart => exact ⟨0, Nat.zero_le _, rfl, by simp [sumU], zA0 (Below.refl _ _)⟩
 case round =>
  obtain ⟨k, hk, rfl, rfl, HB⟩ := hrel
  clear c2
  by_cases hlt : k < G.length
  · have hltz : (k : Int) < (G.length : Int) := by omega
    obtain ⟨g, hg⟩ : ∃ g, G[k]? = some g := ⟨_, List.getElem?_eq_getElem hlt⟩
    obtain ⟨b, cap', e, hb, r0, r1⟩ := (H.out.below HB.out).rowAt hg
    rw [HDN.out] at e
    cases e
    have HS := zA0 (xA2 M.done k _ (H.out.doneAt hg))
    have hub := HU.out _ (List.mem_of_getElem? (H.out.doneAt hg))
    have hle : sumU (M.done.take k) <= k * 1048576 := yM6 M.done 1048576 HU.out k
    have hub : g.u <= 1048576 := hub
    generalize hs : sumU (M.done.take k) = s at *
    have HSS := zA0 hs
    clear hs
    obtain ⟨u, hu⟩ : ∃ u, u = g.u := ⟨_, rfl⟩
    rw [<- hu] at r0 hub
    have HUU := zA0 hu
    obtain ⟨K, cs, hf⟩ := (H.out.deed g (List.mem_of_getElem? hg)).form
    rw [hf] at r1
    clear hu hf hg
    go_wp2
    go_roundw
    case rel => exact ⟨k + 1, by omega, by go_num, by rw [HS.out]; show _ = Value.int .i64 ((s + g.u : Nat) : Int); rw [<- HUU.out]; go_num, zA0 (HB.out.alloc HB.out.size _)⟩
    case measure => simp [intOf]; omega
  · have hltz : ¬ (k : Int) < (G.length : Int) := by omega
    have hkl : k = M.done.length := by rw [HLEN.out]; omega
    go_wp2
    go_ret
    exact ⟨rfl, HB.out⟩
def mkD : List (Nat × Dd) -> Nat -> FS -> FS
 | [], _, fs => fs
 | (v, x) :: r, u, fs => if min u v = 0 then fs else mkD r (u - min u v) (doD x (min u v) fs)
def rep (l : List (Nat × Dd)) (fs : FS) : FS := l.foldl (fun fs y => doD y.2 y.1 fs) fs
def Bd (fs : FS) : Prop := ∀ k, (cOf fs k).length <= 1048576
theorem xJ9 {l : List (Nat × Dd)} {k v : Nat} {x : Dd} (h : l[k]? = some (v, x)) (u : Nat) (fs : FS) : mkD (l.drop k) u fs = if min u v = 0 then fs else mkD (l.drop (k + 1)) (u - min u v) (doD x (min u v) fs) := by
 have hk := (List.getElem?_eq_some_iff.1 h).1
 have e : l[k] = (v, x) := (List.getElem?_eq_some_iff.1 h).2
 rw [List.drop_eq_getElem_cons hk, e]
 rfl
theorem xT2 (l : List (Nat × Dd)) (u : Nat) (fs : FS) : mkD (l.drop l.length) u fs = fs := by
 rw [List.drop_length]; rfl
theorem xI6 {l : List (Nat × Dd)} {k v : Nat} {x : Dd} (h : l[k]? = some (v, x)) (fs : FS) : rep (l.take (k + 1)) fs = doD x v (rep (l.take k) fs) := by
 have hk := (List.getElem?_eq_some_iff.1 h).1
 have e : l[k] = (v, x) := (List.getElem?_eq_some_iff.1 h).2
 unfold rep
 rw [List.take_succ_eq_append_getElem hk, List.foldl_append, e]
 rfl
theorem xL0 {w w1 : World} {p : Nat} {M : Md} {cnt bF bD n : Nat} {DF DD : DataW Value} {dn : Value} {G : List Gd} {dur' : FS}
    (h : DkR w p M cnt bF bD DF DD dn G) (hn : n + G.length <= cnt) (hm : MapR w bD n DD) (hdp : DPost w w1 true bD n DD (entE DF DD) (entC M.files M.dur) (G.map (·.z)) M.dur dur') (hc : cnt + 1 <= 4398046511104) :
    ∃ DD', DkR w1 p ⟨M.files, dur', M.done, M.left⟩ (cnt + 1) bF bD DF DD' dn G /\ Fr w w1 (Ft p bF bD DF DD dn (G.map (·.z))) (Ft p bF bD DF DD' dn (G.map (·.z))) /\ (∀ k, MapR w bF k DF -> MapR w1 bF k DF) := by
 obtain ⟨D', v, v', c1, c2, c3, c4, c5, c6⟩ := hdp.ex
 obtain ⟨nF, hnF, hmF⟩ := h.mF
 obtain ⟨lv, hv⟩ : ∃ l, SlR w v l := by
  rcases c5 with rfl | ⟨k, rfl⟩
  · exact ⟨[], SlR.nil w⟩
  · exact ⟨_, h.liv.r true k⟩
 have hvz : ∀ y ∈ G.map (·.z), SepK v y := by
  rcases c5 with rfl | ⟨k, rfl⟩
  · exact fun y _ => SepK.nil' y
  · exact fun y hy => h.liv.kz true k y hy
 obtain ⟨es, c, hobj⟩ := hm.obj
 have hp1 : DskB w1 p bF bD dn M.left := (c4.cells hv hobj (by decide) h.blk).trans h.blk
 have hr1 : w1.ownsRow 0 123 2 dn G.length (rowL G) := zD0 h.row fun k hk => by
  obtain ⟨cur, hcur⟩ := zE8 h.row hk
  exact c4.cells hv hobj (by decide) hcur
 have hmk : ∀ k, MapR w bF k DF -> MapR w1 bF k DF := fun k hk => hk.kept (c4.block bF hk.lt (fun e => h.ne (Option.some.inj e)) (fun _ e => hv.ne_map hk e.symm))
 refine ⟨D', ⟨hp1, ⟨nF, by omega, hmk nF hmF⟩, ⟨n + 1, by omega, c1⟩, h.ne, h.hF, c2, ?_, hr1, h.done, fun g hg => ?_, h.leb, hc⟩, ⟨c4.os, c4.tape, c4.output, c4.size, fun k hk hF => ?_, fun k hk => ?_⟩, hmk⟩
 · rw [yM8, yM9] at c3
   exact c3
 · exact (h.deed g hg).app c4 hv hm (hvz _ (List.mem_map_of_mem hg))
 · have n2 : k ≠ bD := fun e => hF (.inr (.inr (.inl e)))
   refine c4.block k hk (fun e => n2 (Option.some.inj e)) (fun _ e => ?_)
   rcases c5 with rfl | ⟨j, rfl⟩
   · cases e
   · exact hF (.inr (.inr (.inr (.inr (.inl ⟨true, j, e.symm⟩)))))
 · rcases hk with e | e | e | e | ⟨s, j, e2⟩ | e
   · exact .inl (.inl e)
   · exact .inl (.inr (.inl e))
   · exact .inl (.inr (.inr (.inl e)))
   · exact .inl (.inr (.inr (.inr (.inl e))))
   · cases s with
     | true =>
      rcases c6 j k e2 with ⟨i, g2⟩ | g | g
      · exact .inl (.inr (.inr (.inr (.inr (.inl ⟨true, i, g2⟩)))))
      · exact .inl (.inr (.inr (.inr (.inr (.inr g)))))
      · exact .inr g
     | false => exact .inl (.inr (.inr (.inr (.inr (.inl ⟨false, j, e2⟩)))))
   · exact .inl (.inr (.inr (.inr (.inr (.inr e)))))
def yG5 (w : World) (p : Nat) (M : Md) (cnt bF bD : Nat) (DF DD : DataW Value) (dn : Value) (G : List Gd) (x : Dd) (m : Nat) : Ending -> World -> Prop := fun e w1 => e = .returned (.tuple #[]) /\ ∃ DD', DkR w1 p ⟨M.files, doD x m M.dur, M.done, M.left⟩ (cnt + 1) bF bD DF DD' dn G /\ Fr w w1 (Ft p bF bD DF DD dn (G.map (·.z))) (Ft p bF bD DF DD' dn (G.map (·.z))) /\ (∀ k, MapR w bF k DF -> MapR w1 bF k DF)
theorem xL1 (p cnt bF bD : Nat) (M : Md) (DF DD : DataW Value) (dn : Value) (G : List Gd) (w : World) (h : DkR w p M cnt bF bD DF DD dn G) (hc : cnt + 1 <= 4398046511104) (g : Gd) (hg : g ∈ G) (m : Nat) (hm : m <= 1099511627776) (hb : Bd M.dur) :
    (∀ n d, g.x = .ap n d -> ∃ p1 q1, g.f = .func (.func 31) #[] #[.pointer (some ⟨p1, 0, none⟩), .pointer (some ⟨q1, 0, none⟩)] /\ Calls Tryz.prog 31 #[.map (some bD), .int .i64 (m : Int), .pointer (some ⟨p1, 0, none⟩), .pointer (some ⟨q1, 0, none⟩)] w (yG5 w p M cnt bF bD DF DD dn G g.x m)) /\
    (∀ n d, g.x = .pt n d -> ∃ p1 q1, g.f = .func (.func 98) #[] #[.pointer (some ⟨p1, 0, none⟩), .pointer (some ⟨q1, 0, none⟩)] /\ Calls Tryz.prog 98 #[.map (some bD), .int .i64 (m : Int), .pointer (some ⟨p1, 0, none⟩), .pointer (some ⟨q1, 0, none⟩)] w (yG5 w p M cnt bF bD DF DD dn G g.x m)) /\
    (∀ n, g.x ≠ .rm n) /\
    (∀ a b, g.x = .rn a b -> ∃ p1 q1, g.f = .func (.func 99) #[] #[.pointer (some ⟨p1, 0, none⟩), .pointer (some ⟨q1, 0, none⟩)] /\ Calls Tryz.prog 99 #[.map (some bD), .int .i64 (m : Int), .pointer (some ⟨p1, 0, none⟩), .pointer (some ⟨q1, 0, none⟩)] w (yG5 w p M cnt bF bD DF DD dn G g.x m)) := by
 obtain ⟨n, hn, hmD⟩ := h.mD
 have hd := h.deed g hg
 have hzs : ∀ y ∈ G.map (·.z), ∃ l, SlR w y l := fun y hy => by
  obtain ⟨g', hg', rfl⟩ := List.mem_map.1 hy
  exact (h.deed g' hg').z
 have hcn := h.cn
 have fin : ∀ w1, DPost w w1 true bD n DD (entE DF DD) (entC M.files M.dur) (G.map (·.z)) M.dur (doD g.x m M.dur) -> yG5 w p M cnt bF bD DF DD dn G g.x m (.returned (.tuple #[])) w1 := fun w1 hp => ⟨rfl, xL0 h hn hmD hp hc⟩
 have hnl : n < maxLen := by unfold maxLen; omega
 refine ⟨fun nm d e => ?_, fun nm d e => ?_, fun nm e => ?_, fun na nb e => ?_⟩
 · rw [e] at hd fin ⊢
   obtain ⟨p1, q1, ef, a1, a2⟩ := hd
   refine ⟨p1, q1, ef, (yV4 (s := true) hmD hnl (fun _ => rfl) (fun _ => rfl) h.hD h.liv hzs a1 a2 m hm (hb nm)).mono ?_⟩
   rintro e' w1 ⟨rfl, hp⟩
   exact fin w1 hp
 · rw [e] at hd fin ⊢
   obtain ⟨p1, q1, ef, a1, a2⟩ := hd
   refine ⟨q1, p1, ef, (yS6 (s := true) hmD hnl (fun _ => rfl) (fun _ => rfl) h.hD h.liv (List.mem_map_of_mem hg) a1 a2 m).mono ?_⟩
   rintro e' w1 ⟨rfl, hp⟩
   exact fin w1 hp
 · rw [e] at hd
   exact hd.elim
 · rw [e] at hd fin ⊢
   obtain ⟨p1, q1, ef, a1, a2, _⟩ := hd
   refine ⟨p1, q1, ef, (yS2 (s := true) hmD hnl (fun _ => rfl) (fun _ => rfl) h.hD h.liv a1 a2 m).mono ?_⟩
   rintro e' w1 ⟨rfl, hp⟩
   exact fin w1 hp
end
end Go.Proofs.YtocoimjhglackaaGreat
