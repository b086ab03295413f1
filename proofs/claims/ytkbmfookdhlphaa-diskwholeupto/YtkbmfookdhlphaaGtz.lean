/- Several texts in one (wip/gen/group.py). -/
import Derived.Test.YtkbmfookdhlphaaRtw
import Derived.BigQuiet
import Derived.Deep.QuietTactic
/- Both disks beside each other. -/
namespace Go.Proofs.Ytkbmfookdhlphaa
open Go.RowKit Go.Maps Go.Sort

theorem SlR.kp82 {w w' : World} {v : Value} {l : List UInt8} (h : SlR w v l) (k : Kp82 w w') : SlR w' v l := by
  refine h.kept fun g hg => ?_
  rcases h with ⟨rfl, _⟩ | ⟨g', cap, cur, rfl, hg', _⟩
  · cases hg
  · cases hg
    exact k _ _ hg' ⟨by decide, by decide⟩
theorem Dsk.kp82 {w w' : World} {p : Nat} {M : Md} {cnt : Nat} {F : Nat → Prop} (h : Dsk w p M cnt F) (k : Kp82 w w') : Dsk w' p M cnt F := by
  obtain ⟨⟨bF, bD, DF, DD, dn, G, h, rfl⟩, h2⟩ := h
  refine ⟨⟨bF, bD, DF, DD, dn, G, ?_, rfl⟩, h2⟩
  obtain ⟨n, hn, hm⟩ := h.mF
  obtain ⟨n', hn', hm'⟩ := h.mD
  have hb : w.heap[p]? = _ := h.blk
  refine ⟨(k p _ hb ⟨by decide, by decide⟩).trans hb, ⟨n, hn, ?_⟩, ⟨n', hn', ?_⟩, h.ne, h.hF, h.hD, ⟨fun s n => (h.liv.r s n).kp82 k, h.liv.sep, h.liv.kz⟩, ownsRow_kept h.row (fun i hi => by obtain ⟨cur, hc⟩ := ownsRow_blk h.row hi; exact k i _ hc ⟨by decide, by decide⟩), h.done, fun g hg => (h.deed g hg).kept (fun i cs t ht hi => k i _ hi (by rcases ht with rfl | rfl <;> exact ⟨by decide, by decide⟩)) (fun _ hl => hl.kp82 k), h.leb, h.cn⟩
  · obtain ⟨es, c, ho⟩ := hm.obj
    exact hm.kept (k bF _ ho trivial)
  · obtain ⟨es, c, ho⟩ := hm'.obj
    exact hm'.kept (k bD _ ho trivial)
def RfS (w : World) (q : Nat) (M : Md) (R : Nat → Prop) : Prop := ∃ a cap l dn G, RfR w q M a cap l dn G ∧ R = RtF q a l dn G
theorem RfS.lt {w : World} {q : Nat} {M : Md} {R : Nat → Prop} (h : RfS w q M R) : ∀ k, R k → k < w.heap.size := by
  obtain ⟨a, cap, l, dn, G, h, rfl⟩ := h
  rintro k (e | e | e)
  · rw [e]; exact h.blk.lt
  · exact h.rowLt k e
  · exact (h.sep k e).2.2
theorem RfS.kept {w w' : World} {q : Nat} {M : Md} {R : Nat → Prop} (h : RfS w q M R) (hs : w.heap.size ≤ w'.heap.size) (hk : ∀ k, k < w.heap.size → R k → w'.heap[k]? = w.heap[k]?) : RfS w' q M R := by
  obtain ⟨a, cap, l, dn, G, h, rfl⟩ := h
  exact ⟨a, cap, l, dn, G, h.kept hs hk, rfl⟩
/- a list of files: there is one for whatever is done -/
def Fin (fs : FS) : Prop := ∃ l, Lst l fs
theorem Fin.put {fs : FS} (h : Fin fs) (n : Nm) (d : List UInt8) : Fin (fup fs n (some d)) := by
  obtain ⟨l, hl⟩ := h
  exact ⟨_, hl.wi ⟨⟨⟨n⟩⟩, none, 0, d⟩⟩
theorem Fin.del {fs : FS} (h : Fin fs) (n : Nm) : Fin (fup fs n none) := by
  obtain ⟨l, hl⟩ := h
  exact ⟨_, hl.wo ⟨⟨n⟩⟩⟩
theorem Fin.doD {fs : FS} (h : Fin fs) (x : Dd) (u : Nat) : Fin (doD x u fs) := by
  cases x with
  | ap n d => exact h.put n _
  | pt n d => exact h.put n _
  | rm n => exact h.del n
  | rn a b => exact (h.del a).put b _
theorem Fin.rep {fs : FS} (h : Fin fs) (l : List (Nat × Dd)) : Fin (rep l fs) := by
  induction l generalizing fs with
  | nil => exact h
  | cons y l ih => exact ih (h.doD y.2 y.1)
/- what is known of the document's disk -/
structure RcN (N : Md) (cn : Nat) : Prop where
  rk : RkM N
  ok : OkM N
  le : N.left ≤ 1099511627776
  n : N.done.length ≤ cn
theorem lessOne_le2 {l b : Int} (h : l ≤ b) : lessOne l ≤ b := by unfold lessOne; split <;> omega
theorem RcN.mv {N N' : Md} {cn : Nat} {E : Int} (h : RcN N cn) (h' : E = 0 → RcN N' (cn + 1)) : RcN (mv E N' N) (cn + 1) := by
  by_cases e : E = 0
  · rw [e, mv_0]; exact h' e
  · rw [mv_ne e]; exact ⟨h.rk, h.ok, h.le, Nat.le_succ_of_le h.n⟩
theorem RcN.step {N : Md} {cn : Nat} (h : RcN N cn) {x : Dd} {u : Nat} (h1 : RkM (stepM N x u)) (h2 : OkM (stepM N x u)) : RcN (stepM N x u) (cn + 1) :=
  ⟨h1, h2, lessOne_le2 h.le, by show (N.done ++ [(u, x)]).length ≤ cn + 1; rw [List.length_append]; have := h.n; simp; omega⟩
theorem RcN.sync {N : Md} {cn : Nat} (h : RcN N cn) : RcN (syncM N) (cn + 1) := ⟨h.rk.sync h.ok, h.ok.sync, lessOne_le2 h.le, Nat.zero_le _⟩
theorem RcN.crash {N : Md} {cn : Nat} (h : RcN N cn) (pick : Int) : RcN (crashM pick N) (cn + 1) := ⟨h.rk.crash pick, h.ok.crash pick, by show (-1 : Int) ≤ _; omega, Nat.zero_le _⟩
theorem RcN.cut {N : Md} {cn : Nat} (h : RcN N cn) (n : Int) (hn : n ≤ 1099511627776) : RcN ⟨N.files, N.dur, N.done, n⟩ (cn + 1) := ⟨h.rk.left n, h.ok.left n, hn, Nat.le_succ_of_le h.n⟩
theorem rcN0 : RcN M0 0 := ⟨rkM0, okM0, by show (-1 : Int) ≤ _; omega, Nat.zero_le _⟩
/- the code's disk and the document's, each at a state of its own -/
structure Two (w0 w : World) (p q : Nat) (M N : Md) (cnt cn : Nat) (F R : Nat → Prop) : Prop where
  d : Dsk w p M cnt F
  r : RfS w q N R
  k : RcN N cn
  apart : ∀ k, F k → ¬ R k
  loF : ∀ k, F k → w0.heap.size ≤ k
  loR : ∀ k, R k → w0.heap.size ≤ k
  bel : Below w0.heap.size w0 w
section
variable {w0 w w' : World} {p q : Nat} {M M' N N' : Md} {cnt cnt' cn cn' : Nat} {F F' R R' : Nat → Prop}
theorem Two.below (h : Two w0 w p q M N cnt cn F R) (hb : Below w.heap.size w w') : Two w0 w' p q M N cnt cn F R :=
  ⟨h.d.below hb, h.r.kept hb.size (fun k hk _ => hb.block k hk), h.k, h.apart, h.loF, h.loR, h.bel.trans (hb.mono h.bel.size)⟩
theorem Two.one (h : Two w0 w p q M N cnt cn F R) (hd : Dsk w' p M' cnt' F') (hf : Fr w w' F F') : Two w0 w' p q M' N cnt' cn F' R := by
  refine ⟨hd, h.r.kept hf.size (fun k hk hr => hf.block k hk (fun e => h.apart k e hr)), h.k, fun k hk hr => ?_, hf.above h.bel.size h.loF, h.loR, h.bel.trans (hf.below h.bel.size h.loF)⟩
  rcases hf.foot k hk with e | e
  · exact h.apart k e hr
  · have := h.r.lt k hr; omega
theorem Dsk.fLt (h : Dsk w p M cnt F) : ∀ k, F k → k < w.heap.size := by
  obtain ⟨⟨bF, bD, DF, DD, dn, G, h, rfl⟩, _⟩ := h
  exact h.ftLt
theorem Two.two (h : Two w0 w p q M N cnt cn F R) (hr : RfS w' q N' R') (hf : Fr w w' R R') (hk : Kp82 w w') (hm : RcN N' cn') : Two w0 w' p q M N' cnt cn' F R' := by
  refine ⟨h.d.kp82 hk, hr, hm, fun k hk hr' => ?_, h.loF, hf.above h.bel.size h.loR, h.bel.trans (hf.below h.bel.size h.loR)⟩
  rcases hf.foot k hr' with e | e
  · exact h.apart k hk e
  · have := h.d.fLt k hk; omega
/- a row of bytes that is neither's is written -/
theorem Two.write (h : Two w0 w p q M N cnt cn F R) (hs : w.heap.size ≤ w'.heap.size) (ho : w'.os = w.os ∧ w'.tape = w.tape ∧ w'.output = w.output) {g : Nat} {cur : Array Value} (hg : w.heap[g]? = some (.cells cur 5 (0, 0))) (hF : ¬ F g) (hR : ¬ R g) (h0 : w0.heap.size ≤ g) (hk : ∀ k, k < w.heap.size → k ≠ g → w'.heap[k]? = w.heap[k]?) : Two w0 w' p q M N cnt cn F R := by
  refine ⟨h.d.kpb (fun k o hk' ho' => hk k (heap_lt hk') (fun e => ?_)), h.r.kept hs (fun k hk' hr => hk k hk' (fun e => hR (e ▸ hr))), h.k, h.apart, h.loF, h.loR, ⟨ho.1.trans h.bel.os, ho.2.1.trans h.bel.tape, ho.2.2.trans h.bel.output, Nat.le_trans h.bel.size hs, fun k hk' => (hk k (Nat.lt_of_lt_of_le hk' h.bel.size) (by omega)).trans (h.bel.block k hk')⟩⟩
  subst e
  rcases ho' with e | e
  · exact hF e
  · rw [hg] at hk'; cases hk'; exact e rfl
/- how many files the code's disk has -/
theorem Two.cd (h : Two w0 w p q M N cnt cn F R) : ∃ m, Card M.files m := by
  obtain ⟨⟨bF, bD, DF, DD, dn, G, hd, _⟩, hM⟩ := h.d
  obtain ⟨ks, hks, hm⟩ := hd.card
  exact ⟨ks.length, ks, hks, rfl⟩
/- what the document's calls ask -/
theorem Two.rc (h : Two w0 w p q M N cnt cn F R) (hc : cn + 1 ≤ 2199023255552) : ∃ m, RcM N m := by
  obtain ⟨a, cap, l, dn, G, hr, _⟩ := h.r
  obtain ⟨l', hl⟩ := Fin.rep ⟨l, hr.dur.lst⟩ N.done
  rw [← h.k.ok.fl] at hl
  exact ⟨l'.length, h.k.rk, h.k.ok, Card.has hl, h.k.le, by have := h.k.n; omega⟩
end
end Go.Proofs.Ytkbmfookdhlphaa

/- A call on the code's disk, or on the document's. -/
namespace Go.Proofs.Ytkbmfookdhlphaa
open Go.RowKit Go.Maps Go.Sort

theorem Card.uniq {fs : FS} {m m' : Nat} (h : Card fs m) (h' : Card fs m') : m = m' := by
  obtain ⟨ks, hk, rfl⟩ := h
  obtain ⟨ks', hk', rfl⟩ := h'
  rw [hk.uniq hk']
section
variable {w0 w : World} {p q : Nat} {M N N' : Md} {cnt cn m : Nat} {F R : Nat → Prop}
theorem two_end {E : Int} {a : Option Addr} {cap : Nat} {l : List Fe} {dn : Value} {G : List Ge} (h : Two w0 w p q M N cnt cn F (RtF q a l dn G)) (hm : E = 0 → RcN N' (cn + 1)) {e : Ending} {w' : World} (hp : RoP w q N a cap l dn G E N' e w') : e = .returned (.int .i64 E) ∧ ∃ R', Two w0 w' p q M (mv E N' N) cnt (cn + 1) F R' ∧ Fr w w' (RtF q a l dn G) R' := by
  obtain ⟨h1, dn', G', h2, h3, h4⟩ := hp
  exact ⟨h1, _, h.two ⟨a, cap, l, dn', G', h2, rfl⟩ h3 h4 (h.k.mv hm), h3⟩
theorem ap_room {s : Nm} {n : Nat} (h : apE s n M m = 0) : nameL s = true ∧ roomB (((cOf M.files s).length + n : Nat) : Int) (M.files s).isSome m = true := by
  unfold apE at h
  split at h
  · split at h
    · cases h
    · split at h
      · exact ⟨by assumption, by assumption⟩
      · cases h
  · cases h
theorem pt_room {s : Nm} {n : Nat} (h : ptE s n M m = 0) : nameL s = true ∧ roomB (n : Int) (M.files s).isSome m = true := by
  unfold ptE at h
  split at h
  · split at h
    · cases h
    · split at h
      · exact ⟨by assumption, by assumption⟩
      · cases h
  · cases h
theorem rn_there {s t : Nm} (h : rnE s t M = 0) : nameL t = true ∧ (M.files s).isSome = true := by
  unfold rnE at h
  split at h
  · rename_i hn
    split at h
    · cases h
    · split at h
      · exact ⟨hn.2, by assumption⟩
      · cases h
  · cases h
theorem RcN.ap (h : RcN N cn) (hc : Card N.files m) {s : Nm} {d : List UInt8} (he : apE s d.length N m = 0) : RcN (stepM N (.ap s d) (max 1 d.length)) (cn + 1) := by
  obtain ⟨hn, hr⟩ := ap_room he
  have hlen : (cOf N.files s).length + d.length ≤ 1048576 := by unfold roomB at hr; simp at hr; omega
  refine h.step (h.rk.ap h.ok hc hr) (h.ok.step (by omega) ⟨h.ok.files.1.fup ?_, h.ok.files.2.fup (fun _ => hn)⟩)
  show ((cOf N.files s) ++ d.take (max 1 d.length)).length ≤ 1048576
  rw [List.length_append, List.length_take]
  omega
theorem RcN.pt (h : RcN N cn) (hc : Card N.files m) {s : Nm} {d : List UInt8} (he : ptE s d.length N m = 0) : RcN (stepM N (.pt s d) 1) (cn + 1) := by
  obtain ⟨hn, hr⟩ := pt_room he
  have hlen : d.length ≤ 1048576 := by unfold roomB at hr; simp at hr; omega
  exact h.step (h.rk.pt h.ok hc hr) (h.ok.step (by omega) ⟨h.ok.files.1.fup hlen, h.ok.files.2.fup (fun _ => hn)⟩)
theorem RcN.rm (h : RcN N cn) (hc : Card N.files m) (s : Nm) : RcN (stepM N (.rm s) 1) (cn + 1) :=
  h.step (h.rk.rm h.ok hc) (h.ok.step (by omega) ⟨h.ok.files.1.fup (by simp), h.ok.files.2.fup (fun e => by cases e)⟩)
theorem RcN.rn (h : RcN N cn) (hc : Card N.files m) {s t : Nm} (he : rnE s t N = 0) : RcN (stepM N (.rn s t) 1) (cn + 1) := by
  obtain ⟨hn, hy⟩ := rn_there he
  exact h.step (h.rk.rnm h.ok hc hy) (h.ok.step (by omega) ⟨(h.ok.files.1.fup (by simp)).fup (h.ok.files.1 s), (h.ok.files.2.fup (fun e => by cases e)).fup (fun _ => hn)⟩)

theorem two_ap1 (h : Two w0 w p q M N cnt cn F R) (hm : Card M.files m) (s : ByteArray) (xa : Option Addr) (xc : Nat) (d : List UInt8) (hx : Bs w xa d) (hn : xa = none → d = []) (hc : cnt + 1 ≤ 2199023255552) : Calls Try.prog 14 #[.pointer (some ⟨p, 0, none⟩), .string s, .slice xa d.length xc] w fun e w' => e = .returned (.int .i64 (apE s.data.toList d.length M m)) ∧ ∃ F', Two w0 w' p q (mv (apE s.data.toList d.length M m) (stepM M (.ap s.data.toList d) (max 1 d.length)) M) N (cnt + 1) cn F' R ∧ Fr w w' F F' := by
  refine (append_st s xa xc d p cnt M F w h.d hx hn hc).mono ?_
  rintro e w' ⟨m', F', hm', rfl, h1, h2⟩
  rw [Card.uniq hm' hm] at h1 ⊢
  exact ⟨rfl, F', h.one h1 h2, h2⟩
theorem two_ap2 (h : Two w0 w p q M N cnt cn F R) (hr : RcM N m) {s : ByteArray} (hs : s.size ≤ maxLen) {d : List UInt8} (xa : Option Addr) (xc : Nat) (hx : Bs w xa d) : Calls Try.prog 25 #[.pointer (some ⟨q, 0, none⟩), .string s, .slice xa d.length xc] w fun e w' => e = .returned (.int .i64 (apE s.data.toList d.length N m)) ∧ ∃ R', Two w0 w' p q M (mv (apE s.data.toList d.length N m) (stepM N (.ap s.data.toList d) (max 1 d.length)) N) cnt (cn + 1) F R' ∧ Fr w w' R R' := by
  obtain ⟨a, cap, l, dn, G, hR, rfl⟩ := id h.r
  refine (rappend_any q N a cap l dn G w m hR hr s hs xa xc d hx).mono ?_
  intro e w' hp
  exact two_end h (fun e => h.k.ap hr.card e) hp
theorem two_pt1 (h : Two w0 w p q M N cnt cn F R) (hm : Card M.files m) (s : ByteArray) (xa : Option Addr) (xc : Nat) (d : List UInt8) (hx : Bs w xa d) (hn : xa = none → d = []) (hc : cnt + 1 ≤ 2199023255552) : Calls Try.prog 16 #[.pointer (some ⟨p, 0, none⟩), .string s, .slice xa d.length xc] w fun e w' => e = .returned (.int .i64 (ptE s.data.toList d.length M m)) ∧ ∃ F', Two w0 w' p q (mv (ptE s.data.toList d.length M m) (stepM M (.pt s.data.toList d) 1) M) N (cnt + 1) cn F' R ∧ Fr w w' F F' := by
  refine (put_st s xa xc d p cnt M F w h.d hx hn hc).mono ?_
  rintro e w' ⟨m', F', hm', rfl, h1, h2⟩
  rw [Card.uniq hm' hm] at h1 ⊢
  exact ⟨rfl, F', h.one h1 h2, h2⟩
theorem two_pt2 (h : Two w0 w p q M N cnt cn F R) (hr : RcM N m) {s : ByteArray} (hs : s.size ≤ maxLen) {d : List UInt8} (xa : Option Addr) (xc : Nat) (hx : Bs w xa d) : Calls Try.prog 26 #[.pointer (some ⟨q, 0, none⟩), .string s, .slice xa d.length xc] w fun e w' => e = .returned (.int .i64 (ptE s.data.toList d.length N m)) ∧ ∃ R', Two w0 w' p q M (mv (ptE s.data.toList d.length N m) (stepM N (.pt s.data.toList d) 1) N) cnt (cn + 1) F R' ∧ Fr w w' R R' := by
  obtain ⟨a, cap, l, dn, G, hR, rfl⟩ := id h.r
  refine (rput_any q N a cap l dn G w m hR hr s hs xa xc d hx).mono ?_
  intro e w' hp
  exact two_end h (fun e => h.k.pt hr.card e) hp
theorem two_rm1 (h : Two w0 w p q M N cnt cn F R) (s : ByteArray) (hc : cnt + 1 ≤ 2199023255552) : Calls Try.prog 17 #[.pointer (some ⟨p, 0, none⟩), .string s] w fun e w' => e = .returned (.int .i64 (rmE s.data.toList M)) ∧ ∃ F', Two w0 w' p q (mv (rmE s.data.toList M) (stepM M (.rm s.data.toList) 1) M) N (cnt + 1) cn F' R ∧ Fr w w' F F' := by
  refine (remove_st s p cnt M F w h.d hc).mono ?_
  rintro e w' ⟨F', rfl, h1, h2⟩
  exact ⟨rfl, F', h.one h1 h2, h2⟩
theorem two_rm2 (h : Two w0 w p q M N cnt cn F R) (hr : RcM N m) {s : ByteArray} (hs : s.size ≤ maxLen) : Calls Try.prog 28 #[.pointer (some ⟨q, 0, none⟩), .string s] w fun e w' => e = .returned (.int .i64 (rmE s.data.toList N)) ∧ ∃ R', Two w0 w' p q M (mv (rmE s.data.toList N) (stepM N (.rm s.data.toList) 1) N) cnt (cn + 1) F R' ∧ Fr w w' R R' := by
  obtain ⟨a, cap, l, dn, G, hR, rfl⟩ := id h.r
  refine (rremove_any q N a cap l dn G w m hR hr s hs).mono ?_
  intro e w' hp
  exact two_end h (fun _ => h.k.rm hr.card s.data.toList) hp
theorem two_rn1 (h : Two w0 w p q M N cnt cn F R) (s t : ByteArray) (hc : cnt + 1 ≤ 2199023255552) : Calls Try.prog 18 #[.pointer (some ⟨p, 0, none⟩), .string s, .string t] w fun e w' => e = .returned (.int .i64 (rnE s.data.toList t.data.toList M)) ∧ ∃ F', Two w0 w' p q (mv (rnE s.data.toList t.data.toList M) (stepM M (.rn s.data.toList t.data.toList) 1) M) N (cnt + 1) cn F' R ∧ Fr w w' F F' := by
  refine (rename_st s t p cnt M F w h.d hc).mono ?_
  rintro e w' ⟨F', rfl, h1, h2⟩
  exact ⟨rfl, F', h.one h1 h2, h2⟩
theorem two_rn2 (h : Two w0 w p q M N cnt cn F R) (hr : RcM N m) {s t : ByteArray} (hs : s.size ≤ maxLen) (ht : t.size ≤ maxLen) : Calls Try.prog 29 #[.pointer (some ⟨q, 0, none⟩), .string s, .string t] w fun e w' => e = .returned (.int .i64 (rnE s.data.toList t.data.toList N)) ∧ ∃ R', Two w0 w' p q M (mv (rnE s.data.toList t.data.toList N) (stepM N (.rn s.data.toList t.data.toList) 1) N) cnt (cn + 1) F R' ∧ Fr w w' R R' := by
  obtain ⟨a, cap, l, dn, G, hR, rfl⟩ := id h.r
  refine (rrename_any q N a cap l dn G w m hR hr s t hs ht).mono ?_
  intro e w' hp
  exact two_end h (fun e => h.k.rn hr.card e) hp
theorem two_sy1 (h : Two w0 w p q M N cnt cn F R) (hc : cnt ≤ 2199023255552) : Calls Try.prog 20 #[.pointer (some ⟨p, 0, none⟩)] w fun e w' => e = .returned (.int .i64 (syE M)) ∧ ∃ F', Two w0 w' p q (mv (syE M) (syncM M) M) N cnt cn F' R ∧ Fr w w' F F' := by
  refine (sync_st p cnt M F w h.d hc).mono ?_
  rintro e w' ⟨F', rfl, h1, h2⟩
  exact ⟨rfl, F', h.one h1 h2, h2⟩
theorem two_sy2 (h : Two w0 w p q M N cnt cn F R) (hr : RcM N m) : Calls Try.prog 30 #[.pointer (some ⟨q, 0, none⟩)] w fun e w' => e = .returned (.int .i64 (syE N)) ∧ ∃ R', Two w0 w' p q M (mv (syE N) (syncM N) N) cnt (cn + 1) F R' ∧ Fr w w' R R' := by
  obtain ⟨a, cap, l, dn, G, hR, rfl⟩ := id h.r
  by_cases hl : N.left = 0
  · have e1 : syE N = 11 := if_pos hl
    rw [e1]
    refine (rsync_cut q N a cap l dn G w hR hl).mono ?_
    rintro e w' ⟨rfl, rfl⟩
    exact ⟨rfl, _, h.two ⟨a, cap, l, dn, G, by rw [mv_ne (by decide)]; exact hR, rfl⟩ (Fr.refl _ _) (fun _ _ _ _ => rfl) (h.k.mv (fun e => by cases e)), Fr.refl _ _⟩
  · have e1 : syE N = 0 := if_neg hl
    rw [e1]
    refine (rsync_ok q N a cap l dn G w m hR hr hl).mono ?_
    rintro e w' ⟨rfl, a', c', l', h1, h2, h3⟩
    exact ⟨rfl, _, h.two ⟨a', c', l', _, _, by rw [mv_0]; exact h1, rfl⟩ h2 h3 (h.k.mv (fun _ => h.k.sync)), h2⟩
theorem two_cr1 (h : Two w0 w p q M N cnt cn F R) (pick : Int) (hc : cnt ≤ 2199023255552) : Calls Try.prog 21 #[.pointer (some ⟨p, 0, none⟩), .int .i64 pick] w fun e w' => e = .returned (.tuple #[]) ∧ ∃ F', Two w0 w' p q (crashM pick M) N cnt cn F' R ∧ Fr w w' F F' := by
  refine (crash_st pick p cnt M F w h.d hc).mono ?_
  rintro e w' ⟨F', rfl, h1, h2⟩
  exact ⟨rfl, F', h.one h1 h2, h2⟩
theorem two_cr2 (h : Two w0 w p q M N cnt cn F R) (hr : RcM N m) (pick : Int) : Calls Try.prog 32 #[.pointer (some ⟨q, 0, none⟩), .int .i64 pick] w fun e w' => e = .returned (.tuple #[]) ∧ ∃ R', Two w0 w' p q M (crashM pick N) cnt (cn + 1) F R' ∧ Fr w w' R R' := by
  obtain ⟨a, cap, l, dn, G, hR, rfl⟩ := id h.r
  refine (rcrash_any pick q N a cap l dn G w m hR hr).mono ?_
  rintro e w' ⟨rfl, a', c', l', h1, h2, h3⟩
  exact ⟨rfl, _, h.two ⟨a', c', l', _, _, h1, rfl⟩ h2 h3 (h.k.crash pick), h2⟩
end
end Go.Proofs.Ytkbmfookdhlphaa

/- Same: are two rows of bytes the same? And Cut on both disks. -/
namespace Go.Proofs.Ytkbmfookdhlphaa
open Go.RowKit Go.Maps Go.Sort

theorem same_ext (l1 l2 : List UInt8) (hl : l1.length = l2.length) (h : ∀ j, j < l1.length → bat l1 j = bat l2 j) : l1 = l2 := by
  apply List.ext_getElem hl
  intro i h1 h2
  have := h i h1
  simp [bat, bn, List.getD, h1, h2] at this
  exact UInt8.toNat.inj (by omega)

set_option maxHeartbeats 400000 in
theorem same_any (a1 a2 : Option Addr) (n1 n2 c1 c2 : Nat) (l1 l2 : List UInt8) (w : World) (hn1 : n1 = l1.length) (hn2 : n2 = l2.length) (h1 : Bs w a1 l1) (h2 : Bs w a2 l2) :
    Calls Try.prog 24 #[.slice a1 n1 c1, .slice a2 n2 c2] w fun e w' => e = .returned (.bool (decide (l1 = l2))) ∧ ∃ nq, w' = w.drewN nq := by
  obtain ⟨hlen1, hne1⟩ := h1
  obtain ⟨hlen2, hne2⟩ := h2
  have H1 : Hid (l1.length = n1) := hn1.symm
  have H2 : Hid (l2.length = n2) := hn2.symm
  rw [← hn1] at hlen1
  rw [← hn2] at hlen2
  clear hn1 hn2
  by_cases hnn : n1 = n2
  · subst hnn
    go_enter Try.func24, Try.ntmps24
    go_wp2
    go_loopw [5] (fun i wr => ∃ k : Nat, k ≤ n1 ∧ i = .int .i64 k ∧ Hid (∀ j, j < k → bat l1 j = bat l2 j) ∧ ∃ nq, wr = w.drewN nq) (fun i _ => n1 - (intOf i).toNat)
    case atStart => exact ⟨0, Nat.zero_le _, rfl, fun j hj => absurd hj (by omega), 0, rfl⟩
    case round =>
      obtain ⟨k, hk, rfl, hsame, nq, rfl⟩ := hrel
      by_cases hlt : k < n1
      · obtain ⟨b, off, rfl, hb, hc⟩ := hne1 (by intro e; have := H1.out; simp [e] at this; omega)
        obtain ⟨b', off', rfl, hb', hc'⟩ := hne2 (by intro e; have := H2.out; simp [e] at this; omega)
        have hcp := hc k (by have := H1.out; omega)
        have hcp' := hc' k (by have := H2.out; omega)
        go_wp2
        go_quiet (fail)
        go_wp2
        · rename_i hdiff
          go_ret
          refine ⟨?_, _, by simp only [World.drewN_drewN]; rfl⟩
          have : l1 ≠ l2 := fun e => by subst e; simp at hdiff
          simp [this]
        · rename_i heq
          have heq' : bat l1 k = bat l2 k := by simpa using heq
          refine ⟨⟨k + 1, by omega, by go_num, fun j hj => ?_, _, rfl⟩, by simp [intOf]; omega⟩
          by_cases hjk : j = k
          · rw [hjk]; exact heq'
          · exact hsame.out j (by omega)
      · go_wp2
        go_ret
        refine ⟨?_, _, rfl⟩
        have : l1 = l2 := same_ext l1 l2 (by rw [H1.out, H2.out]) (fun j hj => hsame.out j (by have := H1.out; omega))
        simp [this]
  · have hnb : ((n1 : Int) != (n2 : Int)) = true := by rw [bne_iff_ne]; omega
    go_enter Try.func24, Try.ntmps24
    go_wp2
    go_ret
    refine ⟨?_, 0, rfl⟩
    have : l1 ≠ l2 := fun e => hnn (by rw [← H1.out, ← H2.out, e])
    simp [this]
/- Cut -/
def ctE (n : Int) : Int := if n < 0 ∨ 1099511627776 < n then 1 else 0
def cutM (n : Int) (M : Md) : Md := ⟨M.files, M.dur, M.done, n⟩
section
variable {w0 w : World} {p q : Nat} {M N : Md} {cnt cn : Nat} {F R : Nat → Prop}
theorem RfR.cut {a : Option Addr} {cap : Nat} {l : List Fe} {dn : Value} {G : List Ge} (h : RfR w q M a cap l dn G) (n : Int) : RfR (w.setCell ⟨q, 2, none⟩ (.int .i64 n)) q (cutM n M) a cap l dn G ∧ Fr w (w.setCell ⟨q, 2, none⟩ (.int .i64 n)) (RtF q a l dn G) (RtF q a l dn G) ∧ Kp82 w (w.setCell ⟨q, 2, none⟩ (.int .i64 n)) := by
  have hk : ∀ k, k ≠ q → (w.setCell ⟨q, 2, none⟩ (.int .i64 n)).heap[k]? = w.heap[k]? := fun k hk => Below.heap_setCell w ⟨q, 2, none⟩ _ k hk
  refine ⟨⟨rfB_left h.blk n, h.dur.kept (by simp) (fun k _ hf => hk k (h.sep k (.inl hf)).1), ownsRow_kept h.row (fun k hd => hk k (fun e => h.rowNe (e ▸ hd))), h.len, h.is, fun g hg => ⟨(h.bs g hg).1.keptO (by simp) (fun k _ hb => hk k (h.sep k (.inr ⟨g, hg, hb⟩)).1), (h.bs g hg).2⟩, fun k hb => ⟨(h.sep k hb).1, (h.sep k hb).2.1, by simpa using (h.sep k hb).2.2⟩⟩, ⟨rfl, rfl, rfl, by simp, fun k _ hF => hk k (fun e => hF (.inl e)), fun _ h => .inl h⟩, h.kp82 (fun k _ h1 _ => hk k h1)⟩
theorem two_ct1 (h : Two w0 w p q M N cnt cn F R) (n : Int) : Calls Try.prog 19 #[.pointer (some ⟨p, 0, none⟩), .int .i64 n] w fun e w' => e = .returned (.int .i64 (ctE n)) ∧ ∃ F', Two w0 w' p q (mv (ctE n) (cutM n M) M) N cnt cn F' R ∧ Fr w w' F F' := by
  by_cases hn : n < 0 ∨ 1099511627776 < n
  · have e1 : ctE n = 1 := if_pos hn
    rw [e1]
    refine (cut_no p n w hn).mono ?_
    rintro e w' ⟨rfl, rfl⟩
    exact ⟨rfl, F, h.one (by rw [mv_ne (by decide)]; exact h.d) (Fr.refl _ _), Fr.refl _ _⟩
  · have e1 : ctE n = 0 := if_neg hn
    rw [e1]
    refine (cut_st n p cnt M F w h.d (by omega)).mono ?_
    rintro e w' ⟨rfl, g1, g2⟩
    exact ⟨rfl, F, h.one (by rw [mv_0]; exact g1) g2, g2⟩
theorem two_ct2 (h : Two w0 w p q M N cnt cn F R) (n : Int) : Calls Try.prog 31 #[.pointer (some ⟨q, 0, none⟩), .int .i64 n] w fun e w' => e = .returned (.int .i64 (ctE n)) ∧ ∃ R', Two w0 w' p q M (mv (ctE n) (cutM n N) N) cnt (cn + 1) F R' ∧ Fr w w' R R' := by
  obtain ⟨a, cap, l, dn, G, hR, rfl⟩ := id h.r
  by_cases hn : n < 0 ∨ 1099511627776 < n
  · have e1 : ctE n = 1 := if_pos hn
    rw [e1]
    refine (rcut_no q n w hn).mono ?_
    rintro e w' ⟨rfl, rfl⟩
    exact ⟨rfl, _, h.two ⟨a, cap, l, dn, G, by rw [mv_ne (by decide)]; exact hR, rfl⟩ (Fr.refl _ _) (fun _ _ _ _ => rfl) (h.k.mv (fun e => by cases e)), Fr.refl _ _⟩
  · have e1 : ctE n = 0 := if_neg hn
    rw [e1]
    refine (rcut_ok q _ dn N.left n w hR.blk (by omega) (by omega)).mono ?_
    rintro e w' ⟨rfl, rfl⟩
    obtain ⟨f1, f2, f3⟩ := hR.cut n
    exact ⟨rfl, _, h.two ⟨a, cap, l, dn, G, by rw [mv_0]; exact f1, rfl⟩ f2 f3 (h.k.mv (fun _ => h.k.cut n (by omega))), f2⟩
end
end Go.Proofs.Ytkbmfookdhlphaa

/- A row of bytes that is neither disk's. -/
namespace Go.Proofs.Ytkbmfookdhlphaa
open Go.RowKit Go.Maps Go.Sort

def Own1 (w0 w : World) (F R : Nat → Prop) (v : Value) (n : Nat) : Prop := (v = .slice none 0 0 ∧ n = 0) ∨ ∃ g cap cur, v = .slice (some ⟨g, 0, none⟩) n cap ∧ w.heap[g]? = some (.cells cur 5 (0, 0)) ∧ n ≤ cur.size ∧ ¬ F g ∧ ¬ R g ∧ w0.heap.size ≤ g
section
variable {w0 w w' : World} {F F' R R' : Nat → Prop} {v : Value} {n : Nat}
theorem Own1.below (h : Own1 w0 w F R v n) (hb : Below w.heap.size w w') : Own1 w0 w' F R v n := by
  rcases h with h | ⟨g, cap, cur, h1, h2, h3⟩
  · exact .inl h
  · exact .inr ⟨g, cap, cur, h1, (hb.block g (heap_lt h2)).trans h2, h3⟩
theorem Own1.fr1 (h : Own1 w0 w F R v n) (hf : Fr w w' F F') : Own1 w0 w' F' R v n := by
  rcases h with h | ⟨g, cap, cur, h1, h2, h3, h4, h5⟩
  · exact .inl h
  · refine .inr ⟨g, cap, cur, h1, (hf.block g (heap_lt h2) h4).trans h2, h3, fun e => ?_, h5⟩
    rcases hf.foot g e with e | e
    · exact h4 e
    · have := heap_lt h2; omega
theorem Own1.fr2 (h : Own1 w0 w F R v n) (hf : Fr w w' R R') : Own1 w0 w' F R' v n := by
  rcases h with h | ⟨g, cap, cur, h1, h2, h3, h4, h5, h6⟩
  · exact .inl h
  · refine .inr ⟨g, cap, cur, h1, (hf.block g (heap_lt h2) h5).trans h2, h3, h4, fun e => ?_, h6⟩
    rcases hf.foot g e with e | e
    · exact h5 e
    · have := heap_lt h2; omega
/- a new row is neither's -/
theorem Own1.new {p q : Nat} {M N : Md} {cnt cn : Nat} {wq : World} {d : List UInt8} (ht : Two w0 wq p q M N cnt cn F R) (hs : SlR w v d) (hn : ∀ k, v.ownBlock = some k → wq.heap.size ≤ k) : Own1 w0 w F R v d.length := by
  rcases hs with ⟨rfl, rfl⟩ | ⟨g, cap, cur, rfl, h2, h3, h4, h5, h6⟩
  · exact .inl ⟨rfl, rfl⟩
  · have hg := hn g rfl
    exact .inr ⟨g, cap, cur, rfl, h2, by omega, fun e => (by have := ht.d.fLt g e; omega), fun e => (by have := ht.r.lt g e; omega), Nat.le_trans ht.bel.size hg⟩
end
/- one byte of it is written -/
theorem Two.set {w0 w : World} {p q : Nat} {M N : Md} {cnt cn : Nat} {F R : Nat → Prop} {g cap n : Nat} (h : Two w0 w p q M N cnt cn F R) (ho : Own1 w0 w F R (.slice (some ⟨g, 0, none⟩) n cap) n) (j : Nat) (u : Value) : Two w0 (w.setCell ⟨g, j, none⟩ u) p q M N cnt cn F R ∧ Own1 w0 (w.setCell ⟨g, j, none⟩ u) F R (.slice (some ⟨g, 0, none⟩) n cap) n := by
  rcases ho with ⟨e, _⟩ | ⟨g', cap', cur, e, h2, h3, h4, h5, h6⟩
  · cases e
  · cases e
    refine ⟨h.write (by simp) ⟨rfl, rfl, rfl⟩ h2 h4 h5 h6 (fun k _ hk => Below.heap_setCell w ⟨g, j, none⟩ u k hk), .inr ⟨g, cap, cur.setIfInBounds j u, rfl, heap_setCell_same w g j cur 5 u h2, by simpa using h3, h4, h5, h6⟩⟩
theorem Own1.at {w0 w : World} {F R : Nat → Prop} {v : Value} {n j : Nat} (h : Own1 w0 w F R v n) (hj : j < n) : ∃ g cap x, v = .slice (some ⟨g, 0, none⟩) n cap ∧ g < w.heap.size ∧ w.cell? ⟨g, j, none⟩ = some x ∧ ∀ o, w.frozen? ⟨g, o, none⟩ = false := by
  rcases h with ⟨_, e⟩ | ⟨g, cap, cur, h1, h2, h3, _⟩
  · omega
  · exact ⟨g, cap, cur[j]'(by omega), h1, heap_lt h2, by rw [cell_of_row w g j cur 5 (0, 0) h2]; exact Array.getElem?_eq_getElem (by omega), fun o => by simp [World.frozen?, h2]⟩
end Go.Proofs.Ytkbmfookdhlphaa
