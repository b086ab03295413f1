/- Several texts in one (wip/gen/group.py). -/
import Derived.Test.YtkbmfookdhlphaaGds
/- Names of files, by the document. -/
namespace Go.Proofs.Ytkbmfookdhlphaa
open Go.RowKit

theorem str_eq (a b : ByteArray) : (a.toList == b.toList) = decide (a.data.toList = b.data.toList) := by
  rw [ByteArray.toList_eq, ByteArray.toList_eq]
  by_cases h : a.data.toList = b.data.toList
  · simp [h]
  · rw [beq_false_of_ne h, decide_eq_false h]
set_option maxHeartbeats 4000000 in
set_option maxRecDepth 100000 in
theorem rname_any (s : ByteArray) (w : World) (hs : s.size ≤ maxLen) : Calls Try.prog 55 #[.string s] w fun e w' => e = .returned (.bool (nameL s.data.toList)) ∧ w' = w := by
  unfold maxLen at hs
  have HL := hidN (show s.data.toList.length = s.size from rfl)
  go_enter Try.func55, Try.ntmps55
  go_wp2_with fail
  go_loopw [3] (fun i wr => wr = w ∧ ∃ k : Nat, k ≤ s.size ∧ i = .int .i64 (k : Int) ∧ Hid (∀ j x, j < k → s.data.toList[j]? = some x → nbI (x.toNat : Int) = true)) (fun i _ => s.size - (intOf i).toNat)
  case atStart => exact ⟨rfl, 0, Nat.zero_le _, rfl, fun j x hj => by omega⟩
  case round =>
    obtain ⟨rfl, k, hk, rfl, HK⟩ := hrel
    by_cases hlt : k < s.size
    · have hiz : (k : Int) < (s.size : Int) := by omega
      obtain ⟨x, hx⟩ : ∃ x : UInt8, s[k] = x := ⟨_, rfl⟩
      have HX : Hid (s.data.toList[k]? = some x) := by show _ = _; rw [← hx]; rw [Array.getElem?_toList]; exact Array.getElem?_eq_getElem hlt
      have hx256 : (x.toNat : Int) < 256 := by have := x.toNat_lt; omega
      by_cases a1 : 97 ≤ (x.toNat : Int)
      · by_cases a2 : (x.toNat : Int) ≤ 122
        · have HB := hidN (show nbI (x.toNat : Int) = true by unfold nbI; simp; omega)
          go_wp2
          refine ⟨⟨trivial, k + 1, by omega, by go_num, fun j y hj hy => ?_⟩, by simp [intOf]; omega⟩
          by_cases hjk : j < k
          · exact HK.out j y hjk hy
          · have : j = k := by omega
            subst this
            rw [HX.out] at hy
            cases hy
            exact HB.out
        · have HE : Hid (nameL s.data.toList = false) := nameL_no HX.out (by unfold nbI; simp; omega)
          have p : ((x.toNat : Int) == 46) = false := by simp; omega
          have q : ((x.toNat : Int) == 45) = false := by simp; omega
          have p2 : ((x.toNat : Int) != 46) = true := by simp; omega
          have q2 : ((x.toNat : Int) != 45) = true := by simp; omega
          have p3 : ¬ (x.toNat : Int) = 46 := by omega
          have q3 : ¬ (x.toNat : Int) = 45 := by omega
          have r : decide ((x.toNat : Int) ≤ 57) = false := by simp; omega
          go_wp2
          go_ret
          exact ⟨by first | (rw [HE.out]; rfl) | rw [HE.out], rfl⟩
      · by_cases a3 : 48 ≤ (x.toNat : Int)
        · by_cases a4 : (x.toNat : Int) ≤ 57
          · have HB := hidN (show nbI (x.toNat : Int) = true by unfold nbI; simp; omega)
            go_wp2
            refine ⟨⟨trivial, k + 1, by omega, by go_num, fun j y hj hy => ?_⟩, by simp [intOf]; omega⟩
            by_cases hjk : j < k
            · exact HK.out j y hjk hy
            · have : j = k := by omega
              subst this
              rw [HX.out] at hy
              cases hy
              exact HB.out
          · have HE : Hid (nameL s.data.toList = false) := nameL_no HX.out (by unfold nbI; simp; omega)
            have p : ((x.toNat : Int) == 46) = false := by simp; omega
            have q : ((x.toNat : Int) == 45) = false := by simp; omega
            have p2 : ((x.toNat : Int) != 46) = true := by simp; omega
            have q2 : ((x.toNat : Int) != 45) = true := by simp; omega
            have p3 : ¬ (x.toNat : Int) = 46 := by omega
            have q3 : ¬ (x.toNat : Int) = 45 := by omega
            go_wp2
            go_ret
            exact ⟨by first | (rw [HE.out]; rfl) | rw [HE.out], rfl⟩
        · by_cases a5 : x = 46
          · have e5 : (x.toNat : Int) = 46 := by rw [a5]; rfl
            have HB := hidN (show nbI (x.toNat : Int) = true by unfold nbI; simp; omega)
            go_wp2
            refine ⟨⟨trivial, k + 1, by omega, by go_num, fun j y hj hy => ?_⟩, by simp [intOf]; omega⟩
            by_cases hjk : j < k
            · exact HK.out j y hjk hy
            · have : j = k := by omega
              subst this
              rw [HX.out] at hy
              cases hy
              exact HB.out
          · by_cases a6 : x = 45
            · have e6 : (x.toNat : Int) = 45 := by rw [a6]; rfl
              have HB := hidN (show nbI (x.toNat : Int) = true by unfold nbI; simp; omega)
              go_wp2
              refine ⟨⟨trivial, k + 1, by omega, by go_num, fun j y hj hy => ?_⟩, by simp [intOf]; omega⟩
              by_cases hjk : j < k
              · exact HK.out j y hjk hy
              · have : j = k := by omega
                subst this
                rw [HX.out] at hy
                cases hy
                exact HB.out
            · have n5 : x.toNat ≠ 46 := fun e => a5 (UInt8.toNat_inj.1 e)
              have n6 : x.toNat ≠ 45 := fun e => a6 (UInt8.toNat_inj.1 e)
              have HE : Hid (nameL s.data.toList = false) := nameL_no HX.out (by unfold nbI; simp; omega)
              have p : ((x.toNat : Int) == 46) = false := by simp; omega
              have q : ((x.toNat : Int) == 45) = false := by simp; omega
              have p2 : ((x.toNat : Int) != 46) = true := by simp; omega
              have q2 : ((x.toNat : Int) != 45) = true := by simp; omega
              have p3 : ¬ (x.toNat : Int) = 46 := by omega
              have q3 : ¬ (x.toNat : Int) = 45 := by omega
              go_wp2
              go_ret
              exact ⟨by first | (rw [HE.out]; rfl) | rw [HE.out], rfl⟩
    · have hge : ¬ (k : Int) < (s.size : Int) := by omega
      have HA : Hid (∀ x ∈ s.data.toList, nbI (x.toNat : Int) = true) := fun x hx => by
        obtain ⟨j, hj⟩ := List.getElem?_of_mem hx
        have hjl := (List.getElem?_eq_some_iff.1 hj).1
        rw [HL.out] at hjl
        exact HK.out j x (by omega) hj
      by_cases a : s.size = 0
      · have HE : Hid (nameL s.data.toList = false) := by show _ = _; unfold nameL; rw [HL.out]; simp; omega
        have e0 : s.toList.isEmpty = true := by rw [ByteArray.toList_eq, List.isEmpty_iff]; exact List.eq_nil_of_length_eq_zero (HL.out.trans a)
        go_wp2
        go_ret
        exact ⟨by first | (rw [HE.out]; rfl) | rw [HE.out], rfl⟩
      · have e0 : s.toList.isEmpty = false := by rw [ByteArray.toList_eq, List.isEmpty_eq_false_iff]; intro e; exact a (HL.out.symm.trans (by rw [e]; rfl))
        by_cases b : s.size ≤ 32
        · have HE : Hid (nameL s.data.toList = true) := nameL_at HA.out (by rw [HL.out]; omega) (by rw [HL.out]; exact b)
          have bz : (s.size : Int) ≤ 32 := by omega
          go_wp2
          go_ret
          exact ⟨by first | (rw [HE.out]; rfl) | rw [HE.out], rfl⟩
        · have HE : Hid (nameL s.data.toList = false) := by show _ = _; unfold nameL; rw [HL.out]; simp; omega
          have bz : ¬ (s.size : Int) ≤ 32 := by omega
          go_wp2
          go_ret
          exact ⟨by first | (rw [HE.out]; rfl) | rw [HE.out], rfl⟩
end Go.Proofs.Ytkbmfookdhlphaa

/- Lists of files, as the document has them: the place of one, the files without one. -/
namespace Go.Proofs.Ytkbmfookdhlphaa
open Go.RowKit

structure Fe where
  nm : ByteArray
  a : Option Addr
  cap : Nat
  d : List UInt8
def cellsF (l : List Fe) : List Value := l.flatMap fun f => [.string f.nm, .slice f.a f.d.length f.cap]
theorem cellsF_len (l : List Fe) : (cellsF l).length = l.length * 2 := by
  induction l with
  | nil => rfl
  | cons x l ih => simp [cellsF] at ih ⊢; omega
theorem cellsF_app (l r : List Fe) : cellsF (l ++ r) = cellsF l ++ cellsF r := by simp [cellsF]
theorem cellsF_at (l : List Fe) : ∀ (j : Nat) (f : Fe), l[j]? = some f → (cellsF l)[j * 2]? = some (.string f.nm) ∧ (cellsF l)[j * 2 + 1]? = some (.slice f.a f.d.length f.cap) := by
  induction l with
  | nil => intro j f h; simp at h
  | cons x l ih =>
    intro j f h
    cases j with
    | zero => cases h; exact ⟨rfl, rfl⟩
    | succ j =>
      obtain ⟨h1, h2⟩ := ih j f h
      have e : cellsF (x :: l) = .string x.nm :: .slice x.a x.d.length x.cap :: cellsF l := rfl
      have e1 : (j + 1) * 2 = j * 2 + 1 + 1 := by omega
      rw [e, e1]
      exact ⟨h1, h2⟩
/- the files l lie behind the address a -/
def Fls (w : World) (a : Option Addr) (l : List Fe) : Prop := l ≠ [] → ∃ b off, a = some ⟨b, off, none⟩ ∧ b < w.heap.size ∧ ∀ j f, l[j]? = some f → w.cell? ⟨b, off + j * 2, none⟩ = some (.string f.nm) ∧ w.cell? ⟨b, off + j * 2 + 1, none⟩ = some (.slice f.a f.d.length f.cap)
theorem Fls.grow {w w' : World} {a : Option Addr} {l : List Fe} (h : Fls w a l) (hb : Below w.heap.size w w') : Fls w' a l := fun hne => by
  obtain ⟨b, off, h1, h2, h3⟩ := h hne
  exact ⟨b, off, h1, Nat.lt_of_lt_of_le h2 hb.size, fun j f hj => ⟨(hb.cell (p := ⟨b, _, none⟩) h2).trans (h3 j f hj).1, (hb.cell (p := ⟨b, _, none⟩) h2).trans (h3 j f hj).2⟩⟩
theorem Fls.at {w w' : World} {a : Option Addr} {l : List Fe} (h : Fls w a l) (hb : Below w.heap.size w w') {j : Nat} {f : Fe} (hj : l[j]? = some f) : ∃ b off, a = some ⟨b, off, none⟩ ∧ b < w.heap.size ∧ w'.cell? ⟨b, off + j * 2, none⟩ = some (.string f.nm) ∧ w'.cell? ⟨b, off + j * 2 + 1, none⟩ = some (.slice f.a f.d.length f.cap) := by
  obtain ⟨b, off, h1, h2, h3⟩ := h (fun e => by subst e; simp at hj)
  exact ⟨b, off, h1, h2, (hb.cell (p := ⟨b, _, none⟩) h2).trans (h3 j f hj).1, (hb.cell (p := ⟨b, _, none⟩) h2).trans (h3 j f hj).2⟩
/- a row that was built -/
theorem Fls.of_row {w : World} {base : Nat} {v : Value} {l : List Fe} (h : w.ownsRow base 64 2 v l.length (cellsF l)) : ∃ a cap, v = .slice a l.length cap ∧ l.length ≤ cap ∧ ((a = none ∧ l.length = 0 ∧ cap = 0) ∨ ∃ g, a = some ⟨g, 0, none⟩) ∧ Fls w a l := by
  rcases h.2 with ⟨rfl, e⟩ | ⟨g, cap, cur, rfl, _, h4, h5, h6, h7, h8⟩
  · exact ⟨none, 0, by rw [e], by omega, .inl ⟨rfl, e, rfl⟩, fun hne => absurd (List.eq_nil_of_length_eq_zero e) hne⟩
  · refine ⟨_, cap, rfl, h5, .inr ⟨g, rfl⟩, fun _ => ⟨g, 0, rfl, heap_lt h4, fun j f hj => ?_⟩⟩
    have hjl := (List.getElem?_eq_some_iff.1 hj).1
    obtain ⟨k1, k2⟩ := cellsF_at l j f hj
    rw [← h8, List.getElem?_take, if_pos (by omega)] at k1 k2
    rw [cell_of_row w g _ cur 64 (0, 0) h4, cell_of_row w g _ cur 64 (0, 0) h4, Nat.zero_add]
    simp at k1 k2
    rw [k1, k2]
    exact ⟨rfl, rfl⟩
def fi (l : List Fe) (s : ByteArray) : Nat := l.findIdx fun f => f.nm.toList == s.toList
def fiI (l : List Fe) (s : ByteArray) : Int := if fi l s < l.length then (fi l s : Int) else -1
theorem fiI_at {l : List Fe} {s : ByteArray} {k : Nat} {f : Fe} (hk : l[k]? = some f) (he : (f.nm.toList == s.toList) = true) (hn : ∀ (j : Nat) (g : Fe), j < k → l[j]? = some g → (g.nm.toList == s.toList) = false) : fiI l s = (k : Int) := by
  obtain ⟨hkl, rfl⟩ := List.getElem?_eq_some_iff.1 hk
  have e : fi l s = k := (List.findIdx_eq hkl).2 ⟨he, fun j hj => hn j _ hj (List.getElem?_eq_getElem (by omega))⟩
  unfold fiI
  rw [e, if_pos hkl]
theorem fiI_no {l : List Fe} {s : ByteArray} (hn : ∀ (j : Nat) (g : Fe), l[j]? = some g → (g.nm.toList == s.toList) = false) : fiI l s = -1 := by
  have e : fi l s = l.length := List.findIdx_eq_length.2 fun x hx => by
    obtain ⟨j, hj⟩ := List.getElem?_of_mem hx
    exact hn j x hj
  unfold fiI
  rw [e, if_neg (by omega)]
set_option maxHeartbeats 4000000 in
set_option maxRecDepth 100000 in
theorem find_any (a : Option Addr) (cap : Nat) (l : List Fe) (s : ByteArray) (w : World) (h : Fls w a l) (hl : l.length ≤ 1048576) : Calls Try.prog 56 #[.slice a l.length cap, .string s] w fun e w' => e = .returned (.int .i64 (fiI l s)) ∧ w' = w := by
  have H := hidOf h
  clear h
  go_enter Try.func56, Try.ntmps56
  go_wp2_with fail
  go_loopw [5] (fun i wr => wr = w ∧ ∃ k : Nat, k ≤ l.length ∧ i = .int .i64 (k : Int) ∧ Hid (∀ (j : Nat) (g : Fe), j < k → l[j]? = some g → (g.nm.toList == s.toList) = false)) (fun i _ => l.length - (intOf i).toNat)
  case atStart => exact ⟨rfl, 0, Nat.zero_le _, rfl, fun j x hj => by omega⟩
  case round =>
    obtain ⟨rfl, k, hk, rfl, HK⟩ := hrel
    by_cases hlt : k < l.length
    · have hiz : (k : Int) < (l.length : Int) := by omega
      obtain ⟨f, hf⟩ : ∃ f, l[k]? = some f := ⟨_, List.getElem?_eq_getElem hlt⟩
      obtain ⟨b, off, hab, hbl, c0, c1⟩ := H.out.at (Below.refl _ _) hf
      subst hab
      have HF := hidOf hf
      clear hf
      cases he : (f.nm.toList == s.toList) with
      | true =>
        have HE := hidOf (fiI_at HF.out he HK.out)
        go_wp2
        go_ret
        exact ⟨by first | (rw [HE.out]; rfl) | rw [HE.out], rfl⟩
      | false =>
        have HE := hidOf he
        go_wp2
        refine ⟨⟨trivial, k + 1, by omega, by go_num, fun j g hj hg => ?_⟩, by simp [intOf]; omega⟩
        by_cases hjk : j < k
        · exact HK.out j g hjk hg
        · have : j = k := by omega
          subst this
          rw [HF.out] at hg
          cases hg
          exact HE.out
    · have hge : ¬ (k : Int) < (l.length : Int) := by omega
      have HE := hidOf (fiI_no (l := l) (s := s) (fun j g hj => HK.out j g (by have := (List.getElem?_eq_some_iff.1 hj).1; omega) hj))
      go_wp2
      go_ret
      exact ⟨by first | (rw [HE.out]; rfl) | rw [HE.out], rfl⟩
end Go.Proofs.Ytkbmfookdhlphaa

/- The files without one, by the document. -/
namespace Go.Proofs.Ytkbmfookdhlphaa
open Go.RowKit

theorem Try.info64 : (Try.prog.info? 64).map (fun i => (i.zero, i.size, i.bytes)) = some (some (.agg #[.string .empty, .slice none 0 0]), 2, 40) := by kernel_rfl
def wo (l : List Fe) (s : ByteArray) : List Fe := l.filter fun f => !(f.nm.toList == s.toList)
theorem wo_take {l : List Fe} {k : Nat} {f : Fe} (s : ByteArray) (hk : l[k]? = some f) : wo (l.take (k + 1)) s = wo (l.take k) s ++ (if (f.nm.toList == s.toList) = true then [] else [f]) := by
  obtain ⟨hkl, rfl⟩ := List.getElem?_eq_some_iff.1 hk
  rw [List.take_succ_eq_append_getElem hkl]
  unfold wo
  rw [List.filter_append]
  congr 1
  cases h : (l[k].nm.toList == s.toList) <;> simp [h]
theorem wo_len (l : List Fe) (s : ByteArray) : (wo l s).length ≤ l.length := List.length_filter_le _ _
theorem row_grow {w w' : World} {base : Nat} {v : Value} {e n sz : Nat} {xs : List Value} (h : w.ownsRow base e sz v n xs) (hb : Below w.heap.size w w') : w'.ownsRow base e sz v n xs := by
  refine ⟨h.1, ?_⟩
  rcases h.2 with h2 | ⟨g, cap, cur, rfl, h3, h4, h5⟩
  · exact .inl h2
  · exact .inr ⟨g, cap, cur, rfl, h3, (hb.block g (heap_lt h4)).trans h4, h5⟩
theorem row_form {w : World} {base : Nat} {v : Value} {e n sz : Nat} {xs : List Value} (h : w.ownsRow base e sz v n xs) : ∃ a cap, v = .slice a n cap := by
  rcases h.2 with ⟨e, e2⟩ | ⟨g, cap, cur, e, _⟩
  · exact ⟨none, 0, by rw [e, e2]⟩
  · exact ⟨_, cap, e⟩
theorem row_base {w : World} {base : Nat} {v : Value} {e n sz : Nat} {xs : List Value} (h : w.ownsRow base e sz v n xs) : ∀ k, v.ownBlock = some k → base ≤ k := by
  intro k hk
  rcases h.2 with ⟨rfl, _⟩ | ⟨g, cap, cur, rfl, hb, _⟩
  · cases hk
  · have e2 : g = k := Option.some.inj hk
    omega
theorem grown_below {a b : World} {B : Nat} {v : Value} (h : a.grownBy b v.ownBlock) (hB : B ≤ a.heap.size) (hv : ∀ k, v.ownBlock = some k → B ≤ k) : Below B a b :=
  ⟨h.os, h.tape, h.output, h.size, fun k hk => h.block k (by omega) (fun e => by have := hv k e.symm; omega)⟩
set_option maxHeartbeats 4000000 in
set_option maxRecDepth 100000 in
theorem without_any (a : Option Addr) (cap : Nat) (l : List Fe) (s : ByteArray) (w : World) (h : Fls w a l) (hl : l.length ≤ 1048576) : Calls Try.prog 68 #[.slice a l.length cap, .string s] w fun e w' => ∃ v, e = .returned v ∧ w'.ownsRow w.heap.size 64 2 v (wo l s).length (cellsF (wo l s)) ∧ Below w.heap.size w w' := by
  obtain ⟨i64, hi64, hz0, hz1, hz2⟩ := info_parts Try.info64
  have H := hidOf h
  clear h
  go_enter Try.func68, Try.ntmps68
  go_wp2_with fail
  go_loopw [5, 6] (fun vv i wr => ∃ (k : Nat) (va : Option Addr) (vc : Nat), k ≤ l.length ∧ i = .int .i64 (k : Int) ∧ vv = .slice va (wo (l.take k) s).length vc ∧ Hid (wr.ownsRow w.heap.size 64 2 (.slice va (wo (l.take k) s).length vc) (wo (l.take k) s).length (cellsF (wo (l.take k) s))) ∧ Hid (Below w.heap.size w wr)) (fun _ i _ => l.length - (intOf i).toNat)
  case atStart => exact ⟨0, none, 0, Nat.zero_le _, rfl, rfl, hidOf ⟨rfl, .inl ⟨rfl, rfl⟩⟩, hidOf (Below.refl _ _)⟩
  case round =>
    obtain ⟨k, va, vc, hk, rfl, rfl, HR, HB⟩ := hrel
    by_cases hlt : k < l.length
    · have hiz : (k : Int) < (l.length : Int) := by omega
      obtain ⟨f, hf⟩ : ∃ f, l[k]? = some f := ⟨_, List.getElem?_eq_getElem hlt⟩
      obtain ⟨b, off, hab, hbl, c0, c1⟩ := H.out.at HB.out hf
      subst hab
      have hbw : b < wr.heap.size := Nat.lt_of_lt_of_le hbl HB.out.size
      have hwl : (wo (l.take k) s).length ≤ k := Nat.le_trans (wo_len _ _) (by rw [List.length_take]; omega)
      have HW := hidOf (wo_take s hf)
      clear hf hbl
      cases he : (f.nm.toList == s.toList) with
      | true =>
        have HE : Hid (wo (l.take (k + 1)) s = wo (l.take k) s) := by rw [HW.out, he]; simp [hidOf]
        go_wp2
        refine ⟨⟨k + 1, va, vc, by omega, by go_num, by rw [HE.out], by rw [HE.out]; exact HR, HB⟩, by simp [intOf]; omega⟩
      | false =>
        have HE : Hid (wo (l.take (k + 1)) s = wo (l.take k) s ++ [f]) := by rw [HW.out, he]; simp [hidOf]
        go_wp2_with (at_builtin; refine wpList_append_own_at _ rfl (.tmp 20) (.tmp 25) 57 rfl w.heap.size 64 i64 _ 2 40 Try.underlying57 hi64 hz0 hz1 hz2 (by rfl) (by omega) (.slice va (wo (l.take k) s).length vc) (wo (l.take k) s).length (cellsF (wo (l.take k) s)) rfl (row_grow HR.out (below1 _ _)) ⟨wr.heap.size, 0, none⟩ 1 1 [.string f.nm, .slice f.a f.d.length f.cap] rfl rfl (cell_two_new wr _ _ 64) (by simp [Value.oneCell']) (by unfold maxLen; omega) (by omega) (Nat.le_trans HB.out.size (by simp)) ?_; intro v' w2 hrow hgr hnil hat; have HR2 := hidOf hrow; have HB2 := hidOf (HB.out.trans (((below1 wr _).mono HB.out.size).trans (grown_below hgr (Nat.le_trans HB.out.size (by simp)) (row_base HR.out)))); obtain ⟨va', vc', hv'⟩ := row_form hrow; subst hv'; clear hrow hgr hnil hat)
        refine ⟨⟨k + 1, va', vc', by omega, by go_num, by rw [HE.out]; simp, by rw [HE.out, cellsF_app, List.length_append]; exact HR2, HB2⟩, by simp [intOf]; omega⟩
    · have hge : ¬ (k : Int) < (l.length : Int) := by omega
      have e : l.take k = l := List.take_of_length_le (by omega)
      rw [e] at HR
      rw [e]
      clear e
      go_wp2
      go_ret
      exact ⟨_, rfl, HR.out, HB.out⟩
end Go.Proofs.Ytkbmfookdhlphaa

/- Files appended to files. -/
namespace Go.Proofs.Ytkbmfookdhlphaa
open Go.RowKit

theorem cellsF_get (l : List Fe) : ∀ (j : Nat) (u : Value), (cellsF l)[j]? = some u → ∃ i f, l[i]? = some f ∧ ((j = i * 2 ∧ u = .string f.nm) ∨ (j = i * 2 + 1 ∧ u = .slice f.a f.d.length f.cap)) := by
  induction l with
  | nil => intro j u h; simp [cellsF] at h
  | cons x l ih =>
    intro j u h
    have e : cellsF (x :: l) = .string x.nm :: .slice x.a x.d.length x.cap :: cellsF l := rfl
    rw [e] at h
    match j, h with
    | 0, h => exact ⟨0, x, rfl, .inl ⟨rfl, (Option.some.inj h).symm⟩⟩
    | 1, h => exact ⟨0, x, rfl, .inr ⟨rfl, (Option.some.inj h).symm⟩⟩
    | j + 2, h =>
      obtain ⟨i, f, h1, h2⟩ := ih j u h
      refine ⟨i + 1, f, h1, ?_⟩
      rcases h2 with ⟨e1, e2⟩ | ⟨e1, e2⟩
      · exact .inl ⟨by omega, e2⟩
      · exact .inr ⟨by omega, e2⟩
theorem cellsF_one (l : List Fe) : ∀ u ∈ cellsF l, u.oneCell' = true := by
  intro u hu
  simp only [cellsF, List.mem_flatMap] at hu
  obtain ⟨f, _, h⟩ := hu
  simp at h
  rcases h with rfl | rfl <;> rfl
theorem Fls.take {w : World} {a : Option Addr} {l : List Fe} (h : Fls w a l) (k : Nat) : Fls w a (l.take k) := fun hne => by
  obtain ⟨b, off, h1, h2, h3⟩ := h (fun e => hne (by rw [e]; simp))
  refine ⟨b, off, h1, h2, fun j f hj => h3 j f ?_⟩
  rw [List.getElem?_take] at hj
  split at hj
  · exact hj
  · cases hj
theorem Fls.drop {w : World} {b off : Nat} {l : List Fe} (h : Fls w (some ⟨b, off, none⟩) l) (k : Nat) : Fls w (some ⟨b, off + k * 2, none⟩) (l.drop k) := fun hne => by
  obtain ⟨b', off', h1, h2, h3⟩ := h (fun e => hne (by rw [e]; simp))
  cases h1
  refine ⟨_, _, rfl, h2, fun j f hj => ?_⟩
  rw [List.getElem?_drop] at hj
  have := h3 (k + j) f hj
  have e : off + k * 2 + j * 2 = off + (k + j) * 2 := by omega
  rw [e]
  exact this
theorem append_fls (w : World) (B : Nat) (hB : B ≤ w.heap.size) (ty : TypeId) (v : Value) (l : List Fe) (hown : w.ownsRow B 64 2 v l.length (cellsF l)) (ao : Option Addr) (c : Nat) (r : List Fe) (hr : Fls w ao r) (hlen : l.length + r.length ≤ 4194304) :
    ∃ v' w', (Builtin.append_ #[57, 57] ty #[v, .slice ao r.length c]).run Try.prog w = .ok v' w' ∧ w'.ownsRow B 64 2 v' (l ++ r).length (cellsF (l ++ r)) ∧ Below B w w' := by
  obtain ⟨i, hi, hz0, hz1, hz2⟩ := info_parts Try.info64
  by_cases hne : r = []
  · subst hne
    refine ⟨v, w, ?_, by simpa using hown, Below.refl _ _⟩
    cases ao with
    | none =>
      rcases hown.2 with ⟨rfl, e⟩ | ⟨g, cap, cur, rfl, _, _, hnc, _⟩
      · simp [Builtin.append_, run_underlying Try.underlying57, sizeOf, typeInfo, hi, Builtin.lenOf, Builtin.firstCells]
      · simp [Builtin.append_, run_underlying Try.underlying57, sizeOf, typeInfo, hi, Builtin.lenOf, Builtin.firstCells, hnc, storeCells]
    | some x =>
      rcases hown.2 with ⟨rfl, e⟩ | ⟨g, cap, cur, rfl, _, _, hnc, _⟩
      · simp [Builtin.append_, run_underlying Try.underlying57, sizeOf, typeInfo, hi, Builtin.lenOf, Builtin.firstCells, loadCells, loadCellsFrom]
      · simp [Builtin.append_, run_underlying Try.underlying57, sizeOf, typeInfo, hi, Builtin.lenOf, Builtin.firstCells, loadCells, loadCellsFrom, hnc, storeCells]
  · obtain ⟨b, off, rfl, hb, hc⟩ := hr hne
    obtain ⟨v', w', h1, h2, h3, _⟩ := run_append_own (P := Try.prog) w B 57 ty 64 i _ 2 40 Try.underlying57 hi hz0 hz1 hz2 rfl (by omega) v l.length (cellsF l) hown ⟨b, off, none⟩ r.length c (cellsF r) (cellsF_len r) (fun j u hj => by
      obtain ⟨k, f, k1, k2⟩ := cellsF_get r j u hj
      obtain ⟨c0, c1⟩ := hc k f k1
      have hadd : (⟨b, off, none⟩ : Addr).add j = ⟨b, off + j, none⟩ := by unfold Addr.add; split <;> simp_all
      rw [hadd]
      rcases k2 with ⟨rfl, rfl⟩ | ⟨rfl, rfl⟩
      · exact c0
      · exact c1) (cellsF_one r) (by unfold maxLen; omega) (by omega) hB
    refine ⟨v', w', h1, ?_, grown_below h3 hB (row_base hown)⟩
    rw [cellsF_app, List.length_append]
    exact h2
theorem wpList_append_fls {ops : Array Oper} {rest : List Oper} {o : Oper} {a : Act} {Q : Exit → Act → World → Prop} (w : World) (hgd : o.guard = none) (s x : Operand)
    (ho : o.op = .call { callee := .builtin .append, args := #[s, x], argTypes := #[57, 57] }) (B : Nat) (hB : B ≤ w.heap.size) (v : Value) (l : List Fe) (hs : a.eval s = v) (hown : w.ownsRow B 64 2 v l.length (cellsF l))
    (ao : Option Addr) (n c : Nat) (hx : a.eval x = .slice ao n c) (r : List Fe) (hn : n = r.length) (hr : Fls w ao r) (hlen : l.length + r.length ≤ 4194304)
    (h : ∀ v' w', w'.ownsRow B 64 2 v' (l ++ r).length (cellsF (l ++ r)) → Below B w w' → wpList Try.prog ops Q rest (a.put o.dst v') w') : wpList Try.prog ops Q (o :: rest) a w := by
  refine wpList_plain hgd fun K hK => ?_
  subst hn
  obtain ⟨v', w', h1, h2, h3⟩ := append_fls w B hB o.type v l hown ao c r hr hlen
  unfold Oper.wp execOp
  simp only [ho, resolve, invoke, builtin, Sem.run_bind, Sem.run_pure, Result.andThen_ok, List.map_toArray, List.map_cons, List.map_nil, hs, hx, h1]
  exact hK _ _ (h v' w' h2 h3)
theorem fls_one (w : World) (x : Fe) : Fls (w.alloc (.cells #[.string x.nm, .slice x.a x.d.length x.cap] 64)) (some ⟨w.heap.size, 0, none⟩) [x] := fun _ => by
  refine ⟨_, _, rfl, by simp, fun j f hj => ?_⟩
  cases j with
  | zero =>
    cases hj
    rw [cell_of_row _ w.heap.size _ _ 64 (0, 0) (heap_alloc_new w _), cell_of_row _ w.heap.size _ _ 64 (0, 0) (heap_alloc_new w _)]
    exact ⟨rfl, rfl⟩
  | succ j => simp at hj
end Go.Proofs.Ytkbmfookdhlphaa
