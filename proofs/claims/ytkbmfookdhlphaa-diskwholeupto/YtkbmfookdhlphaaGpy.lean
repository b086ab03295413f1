/- Several texts in one (wip/gen/group.py). -/
import Derived.Test.YtkbmfookdhlphaaGds
import Derived.Test.YtkbmfookdhlphaaRows
import Derived.ChangeSlices
import Derived.OpenShut
import Derived.ProofKit
import Derived.ChangeOld
import Derived.Below
import Derived.SizedLaws
/- A script that comes in: its steps, each of five cells, the bytes of each behind an address. -/
namespace Go.Proofs.Ytkbmfookdhlphaa
open Go.RowKit Go.ChangeShapes Go.WideShapes Go.ChangeAt

structure Stp1 where
  k : Int
  nm : ByteArray
  to : ByteArray
  a : Option Addr
  cap : Nat
  d : List UInt8
  n : Int
instance : Inhabited Stp1 := ⟨⟨0, .empty, .empty, none, 0, [], 0⟩⟩
def ot (L : List Stp1) (i : Nat) : Stp1 := L.getD i default
def Stps (w : World) (a : Option Addr) (L : List Stp1) : Prop := L ≠ [] → ∃ b off, a = some ⟨b, off, none⟩ ∧ b < w.heap.size ∧ ∀ j, j < L.length → w.cell? ⟨b, off + j * 5, none⟩ = some (.int .i64 (ot L j).k) ∧ w.cell? ⟨b, off + j * 5 + 1, none⟩ = some (.string (ot L j).nm) ∧ w.cell? ⟨b, off + j * 5 + 2, none⟩ = some (.string (ot L j).to) ∧ w.cell? ⟨b, off + j * 5 + 3, none⟩ = some (.slice (ot L j).a (ot L j).d.length (ot L j).cap) ∧ w.cell? ⟨b, off + j * 5 + 4, none⟩ = some (.int .i64 (ot L j).n) ∧ Bs w (ot L j).a (ot L j).d ∧ ((ot L j).a = none → (ot L j).d = [])
theorem Stps.at {w w' : World} {a : Option Addr} {L : List Stp1} (h : Stps w a L) (hb : Below w.heap.size w w') (j : Nat) (hj : j < L.length) : ∃ b off, a = some ⟨b, off, none⟩ ∧ b < w.heap.size ∧ w'.cell? ⟨b, off + j * 5, none⟩ = some (.int .i64 (ot L j).k) ∧ w'.cell? ⟨b, off + j * 5 + 1, none⟩ = some (.string (ot L j).nm) ∧ w'.cell? ⟨b, off + j * 5 + 2, none⟩ = some (.string (ot L j).to) ∧ w'.cell? ⟨b, off + j * 5 + 3, none⟩ = some (.slice (ot L j).a (ot L j).d.length (ot L j).cap) ∧ w'.cell? ⟨b, off + j * 5 + 4, none⟩ = some (.int .i64 (ot L j).n) ∧ Bs w (ot L j).a (ot L j).d ∧ ((ot L j).a = none → (ot L j).d = []) := by
  obtain ⟨b, off, h1, h2, h3⟩ := h (fun e => by subst e; simp at hj)
  obtain ⟨c0, c1, c2, c3, c4, c5, c6⟩ := h3 j hj
  exact ⟨b, off, h1, h2, (hb.cell (p := ⟨b, _, none⟩) h2).trans c0, (hb.cell (p := ⟨b, _, none⟩) h2).trans c1, (hb.cell (p := ⟨b, _, none⟩) h2).trans c2, (hb.cell (p := ⟨b, _, none⟩) h2).trans c3, (hb.cell (p := ⟨b, _, none⟩) h2).trans c4, c5, c6⟩

theorem list_choice {α : Type} (n : Nat) (P : Nat → α → Prop) (h : ∀ i, i < n → ∃ v, P i v) : ∃ vs : List α, vs.length = n ∧ ∀ i (hi : i < vs.length), P i vs[i] := by
  induction n with
  | zero => exact ⟨[], rfl, fun i hi => by simp at hi⟩
  | succ n ih =>
    obtain ⟨vs, h1, h2⟩ := ih (fun i hi => h i (by omega))
    obtain ⟨v, hv⟩ := h n (by omega)
    refine ⟨vs ++ [v], by simp [h1], fun i hi => ?_⟩
    by_cases hi2 : i < vs.length
    · rw [List.getElem_append_left hi2]; exact h2 i hi2
    · have : i = vs.length := by simp at hi; omega
      subst this
      simp [h1]
      exact hv
theorem len5 {α : Type} {l : List α} (h : l.length = 5) : ∃ a b c d e, l = [a, b, c, d, e] := by
  match l, h with
  | [a, b, c, d, e], _ => exact ⟨a, b, c, d, e, rfl⟩
theorem bytesOf_u8 : Try.prog.bytesOf 5 = 1 := by kernel_rfl
theorem cellsOf_u8 : Try.prog.cellsOf 5 = 1 := by kernel_rfl
def bytesOfInts (zs : List Int) : List UInt8 := zs.map fun n => UInt8.ofNat n.toNat
theorem bat_bytesOfInts (zs : List Int) (hw : ∀ n ∈ zs, (Lit.int .u8 n).wf = true) (len j : Nat) (hj : j < len) (hl : len ≤ zs.length) : bat (bytesOfInts (zs.take len)) j = zs.getD j 0 := by
  have hj2 : j < zs.length := by omega
  have hb := bounds_u8 (hw zs[j] (List.getElem_mem hj2))
  simp [bat, bn, bytesOfInts, List.getD, hj, hj2]
  omega
section
variable {H : Type} {enc : TypeId × Value → H} {w : World}
theorem tr_bytes {fuel : Nat} {cs : List Value} {x : DataW H × List MemPlace} (h : DataW.trod enc Try.prog w 0 (fun _ => true) true fuel 29 cs = some x) (hw : ∀ n ∈ x.1.weights Try.prog 29, n ≤ reachBytes) : ∃ (a : Option Addr) (cap : Nat) (l : List UInt8), cs = [.slice a l.length cap] ∧ Bs w a l ∧ (a = none → l = []) := by
  rcases open_ints Try.underlying29 Try.underlying5 cellsOf_u8 h with ⟨rfl, _⟩ | ⟨x, len, c, zs, rfl, _, hl, hm, hz, rfl, hcell, hwz⟩
  · exact ⟨none, 0, [], rfl, ⟨by simp, fun h => absurd rfl h⟩, fun _ => rfl⟩
  · simp only [if_true] at hz
    simp only [DataW.weights, Try.underlying29, bytesOf_u8] at hw
    have hr := hw _ List.mem_cons_self
    simp only [lits, List.length_map, List.length_take, List.length_drop, reachBytes] at hr
    have hbl : (bytesOfInts (zs.take len)).length = len := by simp [bytesOfInts]; omega
    refine ⟨some x, c, bytesOfInts (zs.take len), by rw [hbl], ⟨by rw [hbl]; omega, fun hne => ?_⟩, fun e => by cases e⟩
    have hlen : 0 < len := by
      rcases Nat.eq_zero_or_pos len with h0 | h0
      · subst h0; simp [bytesOfInts] at hne
      · exact h0
    obtain ⟨b, off, spot⟩ := x
    have hc0 := hcell 0 (by omega)
    have hspot : spot = none := by simpa [Addr.add] using World.cell?_spot hc0
    subst hspot
    refine ⟨b, off, rfl, World.block_lt_of_cell? w _ (by simpa [Addr.add] using hc0), fun j hj => ?_⟩
    rw [hbl] at hj
    rw [bat_bytesOfInts zs hwz len j hj (by omega), ← hcell j (by omega), Addr.add_lit]
theorem tr_step {fuel : Nat} {cs : List Value} {x : DataW H × List MemPlace} (h : DataW.trod enc Try.prog w 0 (fun _ => true) true fuel 31 cs = some x) (hw : ∀ n ∈ x.1.weights Try.prog 31, n ≤ reachBytes) : ∃ v : Stp1, cs = [.int .i64 v.k, .string v.nm, .string v.to, .slice v.a v.d.length v.cap, .int .i64 v.n] ∧ Bs w v.a v.d ∧ (v.a = none → v.d = []) := by
  obtain ⟨xs, n, rfl, rfl, hl, hlen, hf⟩ := DataW.trod_struct Try.underlying31 h
  rw [show Try.prog.cellsOf 31 = 5 from by kernel_rfl] at hl
  have hlen : xs.length = 5 := hlen
  obtain ⟨c0, c1, c2, c3, c4, rfl⟩ := len5 hl
  obtain ⟨x0, x1, x2, x3, x4, rfl⟩ := len5 hlen
  have g0 : DataW.trod enc Try.prog w 0 (fun _ => true) true n 3 (([c0, c1, c2, c3, c4].drop 0).take (Try.prog.cellsOf 3)) = some x0 := hf 0 _ rfl
  rw [show Try.prog.cellsOf 3 = 1 from by kernel_rfl] at g0
  obtain ⟨v0, e0, _, _⟩ := DataW.trod_int (by kernel_rfl) g0
  have g1 : DataW.trod enc Try.prog w 0 (fun _ => true) true n 9 (([c0, c1, c2, c3, c4].drop 1).take (Try.prog.cellsOf 9)) = some x1 := hf 1 _ rfl
  rw [show Try.prog.cellsOf 9 = 1 from by kernel_rfl] at g1
  obtain ⟨v1, e1, _, _⟩ := DataW.trod_string (by kernel_rfl) g1
  have g2 : DataW.trod enc Try.prog w 0 (fun _ => true) true n 9 (([c0, c1, c2, c3, c4].drop 2).take (Try.prog.cellsOf 9)) = some x2 := hf 2 _ rfl
  rw [show Try.prog.cellsOf 9 = 1 from by kernel_rfl] at g2
  obtain ⟨v2, e2, _, _⟩ := DataW.trod_string (by kernel_rfl) g2
  have g3 : DataW.trod enc Try.prog w 0 (fun _ => true) true n 29 (([c0, c1, c2, c3, c4].drop 3).take (Try.prog.cellsOf 29)) = some x3 := hf 3 _ rfl
  rw [show Try.prog.cellsOf 29 = 1 from by kernel_rfl] at g3
  obtain ⟨a, cap, l, e3, hB, hnn⟩ := tr_bytes g3 (fun m hm => hw m (by
    simp only [DataW.weights, Try.underlying31]
    exact DataW.weights_mem_each (j := 3) rfl rfl m hm))
  have g4 : DataW.trod enc Try.prog w 0 (fun _ => true) true n 3 (([c0, c1, c2, c3, c4].drop 4).take (Try.prog.cellsOf 3)) = some x4 := hf 4 _ rfl
  rw [show Try.prog.cellsOf 3 = 1 from by kernel_rfl] at g4
  obtain ⟨v4, e4, _, _⟩ := DataW.trod_int (by kernel_rfl) g4
  simp at e0 e1 e2 e3 e4
  exact ⟨⟨v0, v1, v2, a, cap, l, v4⟩, by rw [e0, e1, e2, e3, e4], hB, hnn⟩
theorem weights_mem_all {P : Program} {e : TypeId} : ∀ {l : List (DataW H)} {d : DataW H}, d ∈ l → ∀ n ∈ d.weights P e, n ∈ DataW.weightsAll P e l := by
  intro l
  induction l with
  | nil => intro d h; cases h
  | cons x l ih =>
    intro d h n hn
    rw [DataW.weightsAll, List.mem_append]
    rcases List.mem_cons.1 h with rfl | h
    · exact .inl hn
    · exact .inr (ih h n hn)
theorem open_steps {a : Option Addr} {len cap : Nat} {d : DataW H} {p : List MemPlace} (h : DataW.Trod enc Try.prog w 0 (fun _ => true) true 22 (.slice a len cap) d p) (hw : ∀ n ∈ d.weights Try.prog 22, n ≤ reachBytes) :
    ∃ L : List Stp1, len = L.length ∧ Stps w a L ∧ L.length ≤ 1954687338268 := by
  obtain ⟨fuel, hf⟩ := h
  rcases DataW.trod_slice Try.underlying22 hf with ⟨e, _⟩ | ⟨a', len', cap', elems, rest, n, _, e, hx, _, hlc, hcm, hel, hE, _, _⟩
  · simp [Value.cells] at e
    obtain ⟨rfl, rfl, rfl⟩ := e
    exact ⟨[], rfl, fun h => absurd rfl h, by simp⟩
  · simp [Value.cells] at e
    obtain ⟨rfl, rfl, rfl⟩ := e
    have e1 : d = (Go.DataW.slice (elems.map (·.1)) (rest.map (·.1))) := congrArg Prod.fst hx
    subst e1
    have hw1 := hw ((elems.length + rest.length) * 72) (by
      simp only [DataW.weights, Try.underlying22, show Try.prog.bytesOf 31 = 72 from by kernel_rfl]
      simp)
    have hw2 : ∀ x ∈ elems, ∀ n ∈ x.1.weights Try.prog 31, n ≤ reachBytes := fun x hx n hn => hw n (by
      simp only [DataW.weights, Try.underlying22, List.mem_cons, List.mem_append]
      exact .inr (.inl (weights_mem_all (List.mem_map.2 ⟨x, hx, rfl⟩) n hn)))
    rw [show Try.prog.cellsOf 31 = 5 from by kernel_rfl] at hE
    have hQ : ∀ i, i < len → ∃ v : Stp1, (∀ j, j < 5 → w.cell? ((a'.add (i * 5)).add j) = ([.int .i64 v.k, .string v.nm, .string v.to, .slice v.a v.d.length v.cap, .int .i64 v.n] : List Value)[j]?) ∧ Bs w v.a v.d ∧ (v.a = none → v.d = []) := by
      intro i hi
      have hEi := hE i hi
      rw [List.getElem?_eq_getElem (by omega)] at hEi
      obtain ⟨es, he, ht2⟩ := Option.bind_eq_some_iff.1 hEi
      obtain ⟨v, rfl, hB, hnn⟩ := tr_step ht2 (hw2 _ (List.getElem_mem (by omega)))
      obtain ⟨_, _, hcell⟩ := World.cells?_some he
      exact ⟨v, hcell, hB, hnn⟩
    obtain ⟨vs, hvl, hvs⟩ := list_choice len _ hQ
    subst hvl
    refine ⟨vs, rfl, fun hne => ?_, by unfold reachBytes at hw1; omega⟩
    have h0 : 0 < vs.length := List.length_pos_iff.2 hne
    obtain ⟨b, off, spot⟩ := a'
    have hc00 := (hvs 0 h0).1 0 (by omega)
    have hspot : spot = none := by simpa [Addr.add] using World.cell?_spot hc00
    subst hspot
    refine ⟨b, off, rfl, World.block_lt_of_cell? w _ (by simpa [Addr.add] using hc00), fun j hj => ?_⟩
    obtain ⟨h1, h2, h3⟩ := hvs j hj
    have e : ot vs j = vs[j] := by simp [ot, hj]
    rw [e]
    have k0 := h1 0 (by omega)
    have k1 := h1 1 (by omega)
    have k2 := h1 2 (by omega)
    have k3 := h1 3 (by omega)
    have k4 := h1 4 (by omega)
    rw [Addr.add_lit, Addr.add_lit] at k0 k1 k2 k3 k4
    exact ⟨k0, k1, k2, k3, k4, h2, h3⟩
end
end Go.Proofs.Ytkbmfookdhlphaa

/- A disk that was made behind the end of what there was, and what its calls answer. -/
namespace Go.Proofs.Ytkbmfookdhlphaa
open Go.RowKit Go.Maps Go.Sort

def Cst (w wr : World) (p : Nat) (M : Md) (cnt : Nat) : Prop := ∃ F, Dsk wr p M cnt F ∧ (∀ k, F k → w.heap.size ≤ k) ∧ Below w.heap.size w wr
section
variable {w wr w' : World} {p : Nat} {M M' : Md} {cnt cnt' : Nat}
theorem Cst.bel (h : Cst w wr p M cnt) : Below w.heap.size w wr := by
  obtain ⟨F, _, _, h⟩ := h; exact h
theorem Cst.below (h : Cst w wr p M cnt) (hb : Below wr.heap.size wr w') : Cst w w' p M cnt := by
  obtain ⟨F, h1, h2, h3⟩ := h
  exact ⟨F, h1.below hb, h2, h3.trans (hb.mono h3.size)⟩
theorem cst_fr {F F' : Nat → Prop} (h2 : ∀ k, F k → w.heap.size ≤ k) (h3 : Below w.heap.size w wr) (g1 : Dsk w' p M' cnt' F') (g2 : Fr wr w' F F') : Cst w w' p M' cnt' :=
  ⟨F', g1, g2.above h3.size h2, h3.trans (g2.below h3.size h2)⟩
theorem Cst.more (h : Cst w wr p M cnt) (hc : cnt + 1 ≤ 4398046511104) : Cst w wr p M (cnt + 1) := by
  obtain ⟨F, h1, h2, h3⟩ := h
  exact ⟨F, ⟨h1.1.more hc, h1.2⟩, h2, h3⟩
theorem Cst.srt (h : Cst w wr p M cnt) : ∃ ks, Srt M.files ks := by
  obtain ⟨F, ⟨⟨bF, bD, DF, DD, dn, G, hd, _⟩, _⟩, _, _⟩ := h
  obtain ⟨ks, hks, _⟩ := hd.card
  exact ⟨ks, hks⟩
end
/- what a call answers, and what it leaves of a cut -/
structure Dn (M : Md) (E : Int) (M' : Md) : Prop where
  ok : E = 0 → M'.left = lessOne M.left
  no : E ≠ 0 → M' = M
  cut : M.left = 0 → E = 1 ∨ E = 11
  on : M.left ≠ 0 → E ≠ 11
theorem dn_of {M M' : Md} {E : Int} (h0 : M'.left = lessOne M.left) (h1 : M.left = 0 → E = 1 ∨ E = 11) (h2 : M.left ≠ 0 → E ≠ 11) : Dn M E (mv E M' M) :=
  ⟨fun e => by rw [e, mv_0]; exact h0, fun e => mv_ne e, h1, h2⟩
section
variable {w wr : World} {p : Nat} {M : Md} {cnt : Nat}
theorem new_c (w : World) : Calls Try.prog 9 #[] w fun e w' => e = .returned (.pointer (some ⟨w.heap.size + 1 + 1, 0, none⟩)) ∧ Cst w w' (w.heap.size + 1 + 1) M0 0 := by
  refine (new_st w).mono ?_
  rintro e w' ⟨F, rfl, h1, h2, h3⟩
  exact ⟨rfl, F, h1, h2, h3⟩
theorem cut_c (n : Int) (hn : 0 ≤ n ∧ n ≤ 1099511627776) (h : Cst w wr p M cnt) : Calls Try.prog 19 #[.pointer (some ⟨p, 0, none⟩), .int .i64 n] wr fun e w' => e = .returned (.int .i64 0) ∧ Cst w w' p ⟨M.files, M.dur, M.done, n⟩ cnt := by
  obtain ⟨F, q1, q2, q3⟩ := h
  refine (cut_st n p cnt M F wr q1 hn).mono ?_
  rintro e w' ⟨rfl, g1, g2⟩
  exact ⟨rfl, cst_fr q2 q3 g1 g2⟩
theorem crash_c (pick : Int) (h : Cst w wr p M cnt) (hc : cnt ≤ 2199023255552) : Calls Try.prog 21 #[.pointer (some ⟨p, 0, none⟩), .int .i64 pick] wr fun e w' => e = .returned (.tuple #[]) ∧ Cst w w' p (crashM pick M) cnt := by
  obtain ⟨F, q1, q2, q3⟩ := h
  refine (crash_st pick p cnt M F wr q1 hc).mono ?_
  rintro e w' ⟨F', rfl, g1, g2⟩
  exact ⟨rfl, cst_fr q2 q3 g1 g2⟩
theorem sync_d (h : Cst w wr p M cnt) (hc : cnt ≤ 2199023255552) (hl : M.left ≠ 0) : Calls Try.prog 20 #[.pointer (some ⟨p, 0, none⟩)] wr fun e w' => e = .returned (.int .i64 0) ∧ Cst w w' p (syncM M) cnt := by
  obtain ⟨F, q1, q2, q3⟩ := h
  refine (sync_st p cnt M F wr q1 hc).mono ?_
  rintro e w' ⟨F', rfl, g1, g2⟩
  have e0 : syE M = 0 := if_neg hl
  rw [e0, mv_0] at g1
  exact ⟨by rw [e0], cst_fr q2 q3 g1 g2⟩
theorem told_c (h : Cst w wr p M cnt) : ∃ T, ∀ cnt wq, Cst w wq p M cnt → Calls Try.prog 15 #[.pointer (some ⟨p, 0, none⟩)] wq fun e w' => e = .returned (.string T) ∧ Below wq.heap.size wq w' := by
  obtain ⟨ks, hks⟩ := h.srt
  refine ⟨accB M.files ks, fun cnt wq hq => ?_⟩
  obtain ⟨F, q1, q2, q3⟩ := hq
  refine (told_st p cnt M F wq q1).mono ?_
  rintro e w' ⟨ks', hk', rfl, hb⟩
  rw [hk'.uniq hks]
  exact ⟨rfl, hb⟩
theorem append_c (s : ByteArray) (a : Option Addr) (cap : Nat) (d : List UInt8) (h : Cst w wr p M cnt) (hB : Bs w a d) (hnn : a = none → d = []) (hc : cnt + 1 ≤ 2199023255552) : ∃ E M', Dn M E M' ∧ ∀ wq, Cst w wq p M cnt → Calls Try.prog 14 #[.pointer (some ⟨p, 0, none⟩), .string s, .slice a d.length cap] wq fun e w' => e = .returned (.int .i64 E) ∧ Cst w w' p M' (cnt + 1) := by
  obtain ⟨ks, hks⟩ := h.srt
  refine ⟨apE s.data.toList d.length M ks.length, mv _ (stepM M (.ap s.data.toList d) (max 1 d.length)) M, dn_of rfl (fun h => ?_) (fun h => ?_), fun wq hq => ?_⟩
  · unfold apE; rw [h]; split <;> simp
  · unfold apE; split <;> simp; split <;> simp
  · obtain ⟨F, q1, q2, q3⟩ := hq
    refine (append_st s a cap d p cnt M F wq q1 (hB.grow q3) hnn hc).mono ?_
    rintro e w' ⟨m, F', ⟨ks', hk', rfl⟩, rfl, g1, g2⟩
    rw [hk'.uniq hks] at g1 ⊢
    exact ⟨rfl, cst_fr q2 q3 g1 g2⟩
theorem put_c (s : ByteArray) (a : Option Addr) (cap : Nat) (d : List UInt8) (h : Cst w wr p M cnt) (hB : Bs w a d) (hnn : a = none → d = []) (hc : cnt + 1 ≤ 2199023255552) : ∃ E M', Dn M E M' ∧ ∀ wq, Cst w wq p M cnt → Calls Try.prog 16 #[.pointer (some ⟨p, 0, none⟩), .string s, .slice a d.length cap] wq fun e w' => e = .returned (.int .i64 E) ∧ Cst w w' p M' (cnt + 1) := by
  obtain ⟨ks, hks⟩ := h.srt
  refine ⟨ptE s.data.toList d.length M ks.length, mv _ (stepM M (.pt s.data.toList d) 1) M, dn_of rfl (fun h => ?_) (fun h => ?_), fun wq hq => ?_⟩
  · unfold ptE; rw [h]; split <;> simp
  · unfold ptE; split <;> simp; split <;> simp
  · obtain ⟨F, q1, q2, q3⟩ := hq
    refine (put_st s a cap d p cnt M F wq q1 (hB.grow q3) hnn hc).mono ?_
    rintro e w' ⟨m, F', ⟨ks', hk', rfl⟩, rfl, g1, g2⟩
    rw [hk'.uniq hks] at g1 ⊢
    exact ⟨rfl, cst_fr q2 q3 g1 g2⟩
theorem remove_c (s : ByteArray) (_h : Cst w wr p M cnt) (hc : cnt + 1 ≤ 2199023255552) : ∃ E M', Dn M E M' ∧ ∀ wq, Cst w wq p M cnt → Calls Try.prog 17 #[.pointer (some ⟨p, 0, none⟩), .string s] wq fun e w' => e = .returned (.int .i64 E) ∧ Cst w w' p M' (cnt + 1) := by
  refine ⟨rmE s.data.toList M, mv _ (stepM M (.rm s.data.toList) 1) M, dn_of rfl (fun h => ?_) (fun h => ?_), fun wq hq => ?_⟩
  · unfold rmE; rw [h]; split <;> simp
  · unfold rmE; split <;> simp; split <;> simp
  · obtain ⟨F, q1, q2, q3⟩ := hq
    refine (remove_st s p cnt M F wq q1 hc).mono ?_
    rintro e w' ⟨F', rfl, g1, g2⟩
    exact ⟨rfl, cst_fr q2 q3 g1 g2⟩
theorem rename_c (s s2 : ByteArray) (_h : Cst w wr p M cnt) (hc : cnt + 1 ≤ 2199023255552) : ∃ E M', Dn M E M' ∧ ∀ wq, Cst w wq p M cnt → Calls Try.prog 18 #[.pointer (some ⟨p, 0, none⟩), .string s, .string s2] wq fun e w' => e = .returned (.int .i64 E) ∧ Cst w w' p M' (cnt + 1) := by
  refine ⟨rnE s.data.toList s2.data.toList M, mv _ (stepM M (.rn s.data.toList s2.data.toList) 1) M, dn_of rfl (fun h => ?_) (fun h => ?_), fun wq hq => ?_⟩
  · unfold rnE; rw [h]; split <;> simp
  · unfold rnE; split <;> simp; split <;> simp
  · obtain ⟨F, q1, q2, q3⟩ := hq
    refine (rename_st s s2 p cnt M F wq q1 hc).mono ?_
    rintro e w' ⟨F', rfl, g1, g2⟩
    exact ⟨rfl, cst_fr q2 q3 g1 g2⟩
theorem sync_c (_h : Cst w wr p M cnt) (hc : cnt + 1 ≤ 2199023255552) : ∃ E M', Dn M E M' ∧ ∀ wq, Cst w wq p M cnt → Calls Try.prog 20 #[.pointer (some ⟨p, 0, none⟩)] wq fun e w' => e = .returned (.int .i64 E) ∧ Cst w w' p M' (cnt + 1) := by
  refine ⟨syE M, mv _ (syncM M) M, dn_of rfl (fun h => ?_) (fun h => ?_), fun wq hq => ?_⟩
  · unfold syE; rw [h]; simp
  · unfold syE; simp [h]
  · obtain ⟨F, q1, q2, q3⟩ := hq
    refine (sync_st p cnt M F wq q1 (by omega)).mono ?_
    rintro e w' ⟨F', rfl, g1, g2⟩
    exact ⟨rfl, (cst_fr q2 q3 g1 g2).more (by omega)⟩
end
end Go.Proofs.Ytkbmfookdhlphaa

/- A disk beside a list of texts that grows: what each leaves of the other. -/
namespace Go.Proofs.Ytkbmfookdhlphaa
open Go.RowKit Go.Maps Go.Sort

/- what the disk looks at: anything but rows of several texts -/
def okD : Obj → Prop
  | .cells cs t _ => t = 9 → cs.size = 1
  | _ => True
structure KpO (w w' : World) : Prop where
  os : w'.os = w.os
  tape : w'.tape = w.tape
  output : w'.output = w.output
  size : w.heap.size ≤ w'.heap.size
  block : ∀ (k : Nat) (o : Obj), w.heap[k]? = some o → okD o → w'.heap[k]? = w.heap[k]?
theorem DeedR.kept1 {w w' : World} {f : Value} {x : Dd} {z : Value} (h : DeedR w f x z) (h1 : ∀ (k : Nat) (o : Obj), w.heap[k]? = some o → okD o → w'.heap[k]? = w.heap[k]?) (h2 : ∀ l, SlR w z l → SlR w' z l) : DeedR w' f x z := by
  have s1 : ∀ {p n}, strAt w p n → strAt w' p n := fun ⟨own, a, b, c⟩ => ⟨own, (h1 _ _ a (fun _ => rfl)).trans a, b, c⟩
  have s2 : ∀ {q d}, bytAt w q d z → bytAt w' q d z := fun ⟨az, zc, a, b, c, e⟩ => ⟨az, zc, a, (h1 _ _ b (fun e => by cases e)).trans b, a ▸ h2 _ (a ▸ c), e⟩
  cases x with
  | ap n d => obtain ⟨p, q, a, b, c⟩ := h; exact ⟨p, q, a, s1 b, s2 c⟩
  | pt n d => obtain ⟨p, q, a, b, c⟩ := h; exact ⟨p, q, a, s1 b, s2 c⟩
  | rm n => obtain ⟨p, a, b, c⟩ := h; exact ⟨p, a, s1 b, c⟩
  | rn a b => obtain ⟨p, q, a, b, c, e⟩ := h; exact ⟨p, q, a, s1 b, s1 c, e⟩
theorem SlR.kept1 {w w' : World} {v : Value} {l : List UInt8} (h : SlR w v l) (k : KpO w w') : SlR w' v l := by
  refine h.kept fun g hg => ?_
  rcases h with ⟨rfl, _⟩ | ⟨g', cap, cur, rfl, hg', _⟩
  · cases hg
  · cases hg
    exact k.block _ _ hg' (fun e => by cases e)
theorem MapR.kept1 {w w' : World} {b n : Nat} {D : DataW Value} (h : MapR w b n D) (k : KpO w w') : MapR w' b n D := by
  obtain ⟨es, c, hb⟩ := h.obj
  exact h.kept (k.block b _ hb trivial)
theorem Dsk.kp {w w' : World} {p : Nat} {M : Md} {cnt : Nat} {F : Nat → Prop} (h : Dsk w p M cnt F) (k : KpO w w') : Dsk w' p M cnt F := by
  obtain ⟨⟨bF, bD, DF, DD, dn, G, h, rfl⟩, h2⟩ := h
  refine ⟨⟨bF, bD, DF, DD, dn, G, ?_, rfl⟩, h2⟩
  obtain ⟨n, hn, hm⟩ := h.mF
  obtain ⟨n', hn', hm'⟩ := h.mD
  have hb : w.heap[p]? = _ := h.blk
  exact ⟨(k.block p _ hb (fun e => by cases e)).trans hb, ⟨n, hn, hm.kept1 k⟩, ⟨n', hn', hm'.kept1 k⟩, h.ne, h.hF, h.hD, ⟨fun s n => (h.liv.r s n).kept1 k, h.liv.sep, h.liv.kz⟩, ownsRow_kept h.row (fun i hi => by obtain ⟨cur, hc⟩ := ownsRow_blk h.row hi; exact k.block i _ hc (fun e => by cases e)), h.done, fun g hg => (h.deed g hg).kept1 k.block (fun _ hl => hl.kept1 k), h.leb, h.cn⟩
/- a disk writes no rows of texts and no steps -/
theorem Dsk.notF {w : World} {p : Nat} {M : Md} {cnt : Nat} {F : Nat → Prop} (h : Dsk w p M cnt F) {g : Nat} {cur : Array Value} {t : TypeId} {f : Nat × Nat} (ht : t = 9 ∨ t = 31) (hg : w.heap[g]? = some (.cells cur t f)) : ¬ F g := by
  obtain ⟨⟨bF, bD, DF, DD, dn, G, h, rfl⟩, _⟩ := h
  rintro (e | e | e | e | ⟨s, n, e⟩ | ⟨y, hy, e⟩)
  · subst e
    have hb : w.heap[g]? = _ := h.blk
    rw [hb] at hg
    cases hg
    rcases ht with e | e <;> cases e
  · subst e
    obtain ⟨n, _, hm⟩ := h.mF
    obtain ⟨es, c, hb⟩ := hm.obj
    rw [hb] at hg
    cases hg
  · subst e
    obtain ⟨n, _, hm⟩ := h.mD
    obtain ⟨es, c, hb⟩ := hm.obj
    rw [hb] at hg
    cases hg
  · obtain ⟨cur', hc⟩ := ownsRow_blk h.row e
    rw [hc] at hg
    cases hg
    rcases ht with e | e <;> cases e
  · exact (h.liv.r s n).ne_cells hg (by rcases ht with rfl | rfl <;> decide) e
  · obtain ⟨g', hg', rfl⟩ := List.mem_map.1 hy
    obtain ⟨l, hl⟩ := (h.deed g' hg').z
    exact hl.ne_cells hg (by rcases ht with rfl | rfl <;> decide) e

theorem Try.info9 : (Try.prog.info? 9).map (fun i => (i.zero, i.size, i.bytes)) = some (some (.string .empty), 1, 16) := by kernel_rfl
/- a text at the end of a list of texts -/
theorem append_str (w : World) (B : Nat) (hB : B ≤ w.heap.size) (ty : TypeId) (v : Value) (S : List ByteArray) (hown : w.ownsRow B 9 1 v S.length (S.map Value.string)) (hnil : S = [] → v = .slice none 0 0) (a : Addr) (c : Nat) (T : ByteArray) (hT : w.cell? (a.add 0) = some (.string T)) (hlen : S.length + 1 ≤ 68719476736) :
    ∃ v' w', (Builtin.append_ #[34, 34] ty #[v, .slice (some a) 1 c]).run Try.prog w = .ok v' w' ∧ w'.ownsRow B 9 1 v' (S ++ [T]).length ((S ++ [T]).map Value.string) ∧ KpO w w' ∧ Below B w w' ∧ ∀ (k : Nat) (cs : Array Value) (f : Nat × Nat), w.heap[k]? = some (Obj.cells cs 31 f) → w'.heap[k]? = w.heap[k]? := by
  obtain ⟨i, hi, hz0, hz1, hz2⟩ := info_parts Try.info9
  have hn1 : ∀ (j : Nat) (u : Value), [Value.string T][j]? = some u → w.cell? (a.add j) = some u := by
    intro j u hj
    cases j with
    | zero => cases hj; exact hT
    | succ j => simp at hj
  obtain ⟨v', w', hr, h2, h3, _⟩ := run_append_own (P := Try.prog) w B 34 ty 9 i _ 1 16 Try.underlying34 hi hz0 hz1 hz2 rfl (by omega) v S.length (S.map Value.string) hown a 1 c [.string T] rfl hn1 (by simp [Value.oneCell']) (by unfold maxLen; omega) (by omega) hB
  refine ⟨v', w', hr, ?_, ?_, ?_, ?_⟩
  · simpa using h2
  · refine ⟨h3.os, h3.tape, h3.output, h3.size, fun k o hk ho => ?_⟩
    by_cases hv : v.ownBlock = some k
    · rcases hown.2 with ⟨rfl, _⟩ | ⟨g, cap, cur, rfl, hbg, hg, hnc, hcm, hcs, htake⟩
      · cases hv
      · cases hv
        have hS : 1 ≤ S.length := by
          cases S with
          | nil => exact absurd (hnil rfl) (by simp)
          | cons x S => simp
        by_cases hroom : S.length + 1 ≤ cap
        · rw [hg] at hk
          cases hk
          have h9 : cur.size = 1 := ho rfl
          omega
        · have h := run_append_grow (P := Try.prog) w 34 ty 9 i _ Try.underlying34 hi hz0 ⟨g, 0, none⟩ S.length cap (S.map Value.string) (by rw [hown.1, hz1]) (hown.cells (g := g) rfl) a 1 c [.string T] (by rw [hz1]; rfl) hn1 (by omega) (by omega) (by rw [hz2]; exact growslice_fits (by omega) (by omega))
          rw [h] at hr
          cases hr
          exact Below.heap_alloc w.drew _ g (heap_lt hk)
    · exact h3.block k (heap_lt hk) (fun e => hv e.symm)
  · refine ⟨h3.os, h3.tape, h3.output, h3.size, fun k hk => h3.block k (by omega) (fun e => ?_)⟩
    rcases hown.2 with ⟨rfl, _⟩ | ⟨g, cap, cur, rfl, hbg, _⟩
    · cases e
    · have e2 : k = g := Option.some.inj e
      omega
  · intro k cs f hk
    refine h3.block k (heap_lt hk) (fun e => ?_)
    rcases hown.2 with ⟨rfl, _⟩ | ⟨g, cap, cur, rfl, hbg, hg, _⟩
    · cases e
    · cases e; rw [hg] at hk; cases hk
theorem wpList_append_str {ops : Array Oper} {rest : List Oper} {o : Oper} {a : Act} {Q : Exit → Act → World → Prop} (w : World) (hgd : o.guard = none) (s x : Operand)
    (ho : o.op = .call { callee := .builtin .append, args := #[s, x], argTypes := #[34, 34] }) (B : Nat) (hB : B ≤ w.heap.size) (v : Value) (S : List ByteArray) (hs : a.eval s = v) (hown : w.ownsRow B 9 1 v S.length (S.map Value.string)) (hnil : S = [] → v = .slice none 0 0)
    (ad : Addr) (c : Nat) (hx : a.eval x = .slice (some ad) 1 c) (T : ByteArray) (hT : w.cell? (ad.add 0) = some (.string T)) (hlen : S.length + 1 ≤ 68719476736)
    (h : ∀ v' w', w'.ownsRow B 9 1 v' (S ++ [T]).length ((S ++ [T]).map Value.string) → KpO w w' → Below B w w' → (∀ (k : Nat) (cs : Array Value) (f : Nat × Nat), w.heap[k]? = some (Obj.cells cs 31 f) → w'.heap[k]? = w.heap[k]?) → wpList Try.prog ops Q rest (a.put o.dst v') w') : wpList Try.prog ops Q (o :: rest) a w := by
  refine wpList_plain hgd fun K hK => ?_
  obtain ⟨v', w', hr, h2, h3, h4, h5⟩ := append_str w B hB o.type v S hown hnil ad c T hT hlen
  unfold Oper.wp execOp
  simp only [ho, resolve, invoke, builtin, Sem.run_bind, Sem.run_pure, Result.andThen_ok, List.map_toArray, List.map_cons, List.map_nil, hs, hx, hr]
  exact hK _ _ (h v' w' h2 h3 h4 h5)

/- a disk, a list of texts, a step -/
def Kst (w wr : World) (p : Nat) (M : Md) (cnt : Nat) (v : Value) (S : List ByteArray) : Prop := Cst w wr p M cnt ∧ wr.ownsRow w.heap.size 9 1 v S.length (S.map Value.string) ∧ (S = [] → v = .slice none 0 0)
def K31 (a b : World) : Prop := ∀ (k : Nat) (cs : Array Value) (f : Nat × Nat), a.heap[k]? = some (.cells cs 31 f) → b.heap[k]? = a.heap[k]?
theorem K31.at {a b : World} (h : K31 a b) {k : Nat} {cs : Array Value} {f : Nat × Nat} (hk : a.heap[k]? = some (.cells cs 31 f)) : b.heap[k]? = some (.cells cs 31 f) := (h k cs f hk).trans hk
theorem K31.below {a b : World} (h : Below a.heap.size a b) : K31 a b := fun k _ _ hk => h.block k (heap_lt hk)
theorem row_at {w w' : World} {B : Nat} {v : Value} {S : List ByteArray} (h : w.ownsRow B 9 1 v S.length (S.map Value.string)) (hb : ∀ k, v.ownBlock = some k → w'.heap[k]? = w.heap[k]?) : w'.ownsRow B 9 1 v S.length (S.map Value.string) := by
  refine ⟨h.1, ?_⟩
  rcases h.2 with h2 | ⟨g, cap, cur, rfl, h3, h4, h5⟩
  · exact .inl h2
  · exact .inr ⟨g, cap, cur, rfl, h3, (hb g rfl).trans h4, h5⟩
theorem row_blk {w : World} {B : Nat} {v : Value} {S : List ByteArray} (h : w.ownsRow B 9 1 v S.length (S.map Value.string)) {k : Nat} (hk : v.ownBlock = some k) : ∃ cur, w.heap[k]? = some (.cells cur 9 (0, 0)) := by
  rcases h.2 with ⟨rfl, _⟩ | ⟨g, cap, cur, rfl, h3, h4, h5⟩
  · cases hk
  · cases hk; exact ⟨cur, h4⟩
section
variable {w wr w' : World} {p : Nat} {M M' : Md} {cnt cnt' : Nat} {v : Value} {S : List ByteArray}
theorem Kst.below (h : Kst w wr p M cnt v S) (hb : Below wr.heap.size wr w') : Kst w w' p M cnt v S :=
  ⟨h.1.below hb, row_at h.2.1 (fun k hk => by obtain ⟨cur, hc⟩ := row_blk h.2.1 hk; exact hb.block k (heap_lt hc)), h.2.2⟩
theorem Kst.nil (h : Kst w wr p M cnt v S) : Kst w wr p M cnt (.slice none 0 0) [] := ⟨h.1, ⟨rfl, .inl ⟨rfl, rfl⟩⟩, fun _ => rfl⟩
theorem Kst.fr (h : Kst w wr p M cnt v S) {F F' : Nat → Prop} (q1 : Dsk wr p M cnt F) (q2 : ∀ k, F k → w.heap.size ≤ k) (g1 : Dsk w' p M' cnt' F') (g2 : Fr wr w' F F') : Kst w w' p M' cnt' v S ∧ K31 wr w' := by
  refine ⟨⟨cst_fr q2 h.1.bel g1 g2, row_at h.2.1 (fun k hk => ?_), h.2.2⟩, fun k cs f hk => g2.block k (heap_lt hk) (q1.notF (.inr rfl) hk)⟩
  obtain ⟨cur, hc⟩ := row_blk h.2.1 hk
  exact g2.block k (heap_lt hc) (q1.notF (.inl rfl) hc)
theorem Kst.app (h : Kst w wr p M cnt v S) {v' : Value} {T : ByteArray} (h2 : w'.ownsRow w.heap.size 9 1 v' (S ++ [T]).length ((S ++ [T]).map Value.string)) (h3 : KpO wr w') (h4 : Below w.heap.size wr w') : Kst w w' p M cnt v' (S ++ [T]) := by
  obtain ⟨⟨F, q1, q2, q3⟩, _, _⟩ := h
  exact ⟨⟨F, q1.kp h3, q2, q3.trans h4⟩, h2, fun e => by simp at e⟩
end
end Go.Proofs.Ytkbmfookdhlphaa

/- A disk beside rows of bytes that are not its own: they may be written. -/
namespace Go.Proofs.Ytkbmfookdhlphaa
open Go.RowKit Go.Maps Go.Sort

def notB : Obj → Prop
  | .cells _ t _ => t ≠ 5
  | _ => True
/- the disk's blocks stay, and all that are no rows of bytes -/
def KpB (w w' : World) (F : Nat → Prop) : Prop := ∀ (k : Nat) (o : Obj), w.heap[k]? = some o → F k ∨ notB o → w'.heap[k]? = w.heap[k]?
theorem SlR.kpb {w w' : World} {v : Value} {l : List UInt8} {F : Nat → Prop} (h : SlR w v l) (hF : ∀ g, v.ownBlock = some g → F g) (k : KpB w w' F) : SlR w' v l :=
  h.kept fun g hg => by
    have hl := h.lt g hg
    exact k g w.heap[g] (Array.getElem?_eq_getElem hl) (.inl (hF g hg))
theorem Dsk.kpb {w w' : World} {p : Nat} {M : Md} {cnt : Nat} {F : Nat → Prop} (h : Dsk w p M cnt F) (k : KpB w w' F) : Dsk w' p M cnt F := by
  obtain ⟨⟨bF, bD, DF, DD, dn, G, h, rfl⟩, h2⟩ := h
  refine ⟨⟨bF, bD, DF, DD, dn, G, ?_, rfl⟩, h2⟩
  obtain ⟨n, hn, hm⟩ := h.mF
  obtain ⟨n', hn', hm'⟩ := h.mD
  have hb : w.heap[p]? = _ := h.blk
  refine ⟨(k p _ hb (.inl (.inl rfl))).trans hb, ⟨n, hn, ?_⟩, ⟨n', hn', ?_⟩, h.ne, h.hF, h.hD, ⟨fun s n => (h.liv.r s n).kpb (fun g hg => .inr (.inr (.inr (.inr (.inl ⟨s, n, hg⟩))))) k, h.liv.sep, h.liv.kz⟩, ownsRow_kept h.row (fun i hi => by obtain ⟨cur, hc⟩ := ownsRow_blk h.row hi; exact k i _ hc (.inl (.inr (.inr (.inr (.inl hi)))))), h.done, fun g hg => (h.deed g hg).kept (fun i cs t ht hi => k i _ hi (.inr (by rcases ht with rfl | rfl <;> (show _ ≠ _; decide)))) (fun _ hl => hl.kpb (fun i hi => .inr (.inr (.inr (.inr (.inr ⟨_, List.mem_map_of_mem hg, hi⟩))))) k), h.leb, h.cn⟩
  · obtain ⟨es, c, ho⟩ := hm.obj
    exact hm.kept (k bF _ ho (.inr trivial))
  · obtain ⟨es, c, ho⟩ := hm'.obj
    exact hm'.kept (k bD _ ho (.inr trivial))
end Go.Proofs.Ytkbmfookdhlphaa
