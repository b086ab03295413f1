/- Records as values: how they are written and read; what is written is read again, and what is read has the bytes that it is written with. Plain mathematics. -/
import Derived.Test.YtpbokgeaolpiaabGreatRgen
namespace Go.Proofs.YtpbokgeaolpiaabGreat
open Go.RowKit

/- numbers -/
theorem lastB_toNat (u : Nat) (h : u < 128) : (lastB u).toNat = u := by unfold lastB; simp; omega
theorem contB_toNat (u : Nat) : (contB u).toNat = u % 128 + 128 := by unfold contB; rw [UInt8.toNat_ofNat']; omega
theorem decA_enc (k i acc u : Nat) (r : List UInt8) (hu : u < 128 ^ (k + 1)) (hz : 0 < u ∨ i = 0) (hm : acc + u * 128 ^ i ≤ 2199023255552) : decA (k + 1) i acc (encU u ++ r) = some (acc + u * 128 ^ i, r) := by
  induction k generalizing i acc u with
  | zero =>
    have hu' : u < 128 := by simpa using hu
    rw [encU_small u hu', List.singleton_append, decA, lastB_toNat u hu', if_neg (by omega), Nat.mod_eq_of_lt hu', if_neg (by omega)]
  | succ k ih =>
    by_cases hs : u < 128
    · rw [encU_small u hs, List.singleton_append, decA, lastB_toNat u hs, if_neg (by omega), Nat.mod_eq_of_lt hs, if_neg (by omega)]
    · have hd : u / 128 < 128 ^ (k + 1) := by rw [Nat.pow_succ] at hu; omega
      have hp : u * 128 ^ i = u % 128 * 128 ^ i + u / 128 * 128 ^ (i + 1) := by
        conv => lhs; rw [← Nat.mod_add_div u 128]
        rw [Nat.add_mul, Nat.pow_succ, Nat.mul_comm 128 (u / 128), Nat.mul_assoc, Nat.mul_comm (128 ^ i) 128]
      rw [encU_big u hs, List.cons_append, decA, contB_toNat, if_pos (by omega), show (u % 128 + 128) % 128 = u % 128 by omega, ih (i + 1) _ (u / 128) hd (.inl (by omega)) (by rw [hp] at hm; omega), hp]
      simp only [Nat.add_assoc]
theorem decA_can (k i acc : Nat) (l r : List UInt8) (x : Nat) (h : decA k i acc l = some (x, r)) : ∃ u, l = encU u ++ r ∧ x = acc + u * 128 ^ i ∧ (0 < u ∨ i = 0) ∧ x ≤ 2199023255552 := by
  induction k generalizing i acc l with
  | zero => simp [decA] at h
  | succ k ih =>
    cases l with
    | nil => simp [decA] at h
    | cons b t =>
      have hb256 : b.toNat < 256 := b.toNat_lt
      rw [decA] at h
      by_cases hb : 128 ≤ b.toNat
      · rw [if_pos hb] at h
        obtain ⟨u, rfl, hx, hz, hm⟩ := ih _ _ _ h
        have hu : 0 < u := by omega
        refine ⟨b.toNat % 128 + 128 * u, ?_, ?_, .inl (by omega), hm⟩
        · rw [encU_big (b.toNat % 128 + 128 * u) (by omega), List.cons_append, show (b.toNat % 128 + 128 * u) / 128 = u by omega]
          congr 1
          apply UInt8.toNat_inj.1
          rw [contB_toNat]; omega
        · rw [hx, Nat.add_mul, Nat.pow_succ, Nat.mul_comm 128 u, Nat.mul_assoc, Nat.mul_comm (128 ^ i) 128, Nat.add_assoc]
      · rw [if_neg hb] at h
        by_cases hx : 2199023255552 < acc + b.toNat % 128 * 128 ^ i ∨ (b.toNat = 0 ∧ 0 < i)
        · rw [if_pos hx] at h; cases h
        · rw [if_neg hx] at h
          cases h
          rw [Nat.mod_eq_of_lt (by omega)] at hx ⊢
          refine ⟨b.toNat, ?_, rfl, by omega, by omega⟩
          rw [encU_small _ (by omega), List.singleton_append]
          congr 1
          apply UInt8.toNat_inj.1
          rw [lastB_toNat _ (by omega)]
theorem unfold_fold (n : Int) : unfoldN (foldN n).toNat = n := by
  unfold foldN
  split
  · unfold unfoldN; rw [if_pos (by omega)]; omega
  · unfold unfoldN; rw [if_neg (by omega)]; omega
theorem fold_unfold (u : Nat) : foldN (unfoldN u) = u := by
  unfold unfoldN
  split
  · unfold foldN; rw [if_pos (by omega)]; omega
  · unfold foldN; rw [if_neg (by omega)]; omega
theorem num_enc (n : Int) (r : List UInt8) (h0 : -1099511627776 ≤ n) (h1 : n ≤ 1099511627776) : numV (some (enc n ++ r)) = n ∧ numS (some (enc n ++ r)) = some r := by
  have hf : (foldN n).toNat ≤ 2199023255552 := by unfold foldN; split <;> omega
  have hd : decA 6 0 0 (enc n ++ r) = some ((foldN n).toNat, r) := by
    unfold enc
    have := decA_enc 5 0 0 (foldN n).toNat r (by omega) (.inr rfl) (by omega)
    simpa using this
  exact ⟨by simp only [numV, Option.bind_some, hd, unfold_fold], by simp [numS, hd]⟩
theorem num_can (l r : List UInt8) (h : numS (some l) = some r) : -1099511627776 ≤ numV (some l) ∧ numV (some l) ≤ 1099511627776 ∧ l = enc (numV (some l)) ++ r := by
  unfold numS at h
  cases hd : decA 6 0 0 l with
  | none => simp [hd] at h
  | some x =>
    obtain ⟨u, r'⟩ := x
    simp [hd] at h
    subst h
    obtain ⟨u', hl, hu, _, hm⟩ := decA_can 6 0 0 l r' u hd
    have e : u' = u := by simpa using hu.symm
    subst e
    have hv : numV (some l) = unfoldN u' := by simp [numV, hd]
    rw [hv]
    refine ⟨?_, ?_, ?_⟩
    · unfold unfoldN; split <;> omega
    · unfold unfoldN; split <;> omega
    · unfold enc; rw [fold_unfold, Int.toNat_natCast]; exact hl

/- the forms of records, and their values -/
inductive Fm where
  | num | tru | byt
  | lst (f : Fm)
  | cat (a b : Fm)
@[reducible] def Vl : Fm → Type
  | .num => Int
  | .tru => Bool
  | .byt => List UInt8
  | .lst f => List (Vl f)
  | .cat a b => Vl a × Vl b

/- written: the bytes, and whether it may not be -/
def enN (n : Int) : List UInt8 × Bool := if -1099511627776 ≤ n ∧ n ≤ 1099511627776 then (enc n, false) else ([], true)
def en : (f : Fm) → Vl f → List UInt8 × Bool
  | .num, n => enN n
  | .tru, b => (enc (if b = true then 1 else 0), false)
  | .byt, l => if l.length ≤ 65536 then (enc (l.length : Int) ++ l, false) else ([], true)
  | .lst f, vs => if vs.length ≤ 64 then (enc (vs.length : Int) ++ vs.flatMap fun v => (en f v).1, vs.any fun v => (en f v).2) else ([], true)
  | .cat a b, v => ((en a v.1).1 ++ (en b v.2).1, (en a v.1).2 || (en b v.2).2)

/- read: the value, and what is left -/
def bytV (s : Option (List UInt8)) : List UInt8 := match cntS 65536 s with
  | none => []
  | some l => if l.length < cntV 65536 s then [] else l.take (cntV 65536 s)
def bytT (s : Option (List UInt8)) : Option (List UInt8) := (cntS 65536 s).bind fun l => if l.length < cntV 65536 s then none else some (l.drop (cntV 65536 s))
def deN {α : Type} (g : Option (List UInt8) → α × Option (List UInt8)) : Nat → Option (List UInt8) → List α × Option (List UInt8)
  | 0, s => ([], s)
  | k + 1, s => ((deN g k s).1 ++ [(g (deN g k s).2).1], (g (deN g k s).2).2)
def de : (f : Fm) → Option (List UInt8) → Vl f × Option (List UInt8)
  | .num, s => (numV s, numS s)
  | .tru, s => (decide (numV s = 1), truS s)
  | .byt, s => (bytV s, bytT s)
  | .lst f, s => if (deN (de f) (cntV 64 s) (cntS 64 s)).2 = none then ([], none) else deN (de f) (cntV 64 s) (cntS 64 s)
  | .cat a b, s => (((de a s).1, (de b (de a s).2).1), (de b (de a s).2).2)

theorem cntS_no (m : Int) : cntS m none = none := by unfold cntS; split <;> rfl
theorem cntV_no (m : Int) : cntV m none = 0 := by unfold cntV; split <;> rfl
theorem deN_none {α : Type} (g : Option (List UInt8) → α × Option (List UInt8)) (hg : (g none).2 = none) (k d : Nat) (s : Option (List UInt8)) (h : (deN g k s).2 = none) : (deN g (k + d) s).2 = none := by
  induction d with
  | zero => exact h
  | succ d ih => show (g (deN g (k + d) s).2).2 = none; rw [ih, hg]
theorem de_none (f : Fm) : (de f none).2 = none := by
  induction f with
  | num => rfl
  | tru => show truS none = none; unfold truS; split <;> rfl
  | byt => show bytT none = none; unfold bytT; rw [cntS_no]; rfl
  | lst f ih =>
    show (if (deN (de f) (cntV 64 none) (cntS 64 none)).2 = none then _ else _ : List (Vl f) × Option (List UInt8)).2 = none
    rw [cntV_no, cntS_no, if_pos (show (deN (de f) 0 none).2 = none from rfl)]
  | cat a b iha ihb => show (de b (de a none).2).2 = none; rw [iha]; exact ihb

/- what is written is read again -/
theorem deN_en (f : Fm) (ih : ∀ (v : Vl f) (r : List UInt8), (en f v).2 = false → de f (some ((en f v).1 ++ r)) = (v, some r)) (vs : List (Vl f)) (hb : vs.any (fun v => (en f v).2) = false) (r : List UInt8) :
    deN (de f) vs.length (some (vs.flatMap (fun v => (en f v).1) ++ r)) = (vs, some r) := by
  have key : ∀ (k : Nat), k ≤ vs.length → deN (de f) k (some (vs.flatMap (fun v => (en f v).1) ++ r)) = (vs.take k, some ((vs.drop k).flatMap (fun v => (en f v).1) ++ r)) := by
    intro k hk
    induction k with
    | zero => simp [deN]
    | succ k ihk =>
      have hlt : k < vs.length := by omega
      have hb2 : (en f vs[k]).2 = false := by
        have := List.any_eq_false.1 hb vs[k] (List.getElem_mem hlt)
        simpa using this
      rw [deN, ihk (by omega)]
      simp only
      rw [List.drop_eq_getElem_cons hlt, List.flatMap_cons, List.append_assoc, ih _ _ hb2]
      rw [← List.take_append_getElem hlt]
  have := key vs.length (Nat.le_refl _)
  simpa using this
theorem de_en (f : Fm) (v : Vl f) (r : List UInt8) (h : (en f v).2 = false) : de f (some ((en f v).1 ++ r)) = (v, some r) := by
  induction f generalizing r with
  | num =>
    have h' : (enN v).2 = false := h
    show de .num (some ((enN v).1 ++ r)) = _
    unfold enN at h' ⊢
    by_cases hv : -1099511627776 ≤ v ∧ v ≤ 1099511627776
    · rw [if_pos hv]
      have := num_enc v r hv.1 hv.2
      show (numV _, numS _) = _
      rw [this.1, this.2]
    · rw [if_neg hv] at h'; cases h'
  | tru =>
    show de .tru (some (enc (if v = true then 1 else 0) ++ r)) = _
    show (decide (numV _ = 1), truS _) = _
    unfold truS
    cases v with
    | false =>
      have := num_enc 0 r (by omega) (by omega)
      simp [this.1, this.2]
    | true =>
      have := num_enc 1 r (by omega) (by omega)
      simp [this.1, this.2]
  | byt =>
    have h' : (if (v : List UInt8).length ≤ 65536 then (enc ((v : List UInt8).length : Int) ++ v, false) else ([], true) : List UInt8 × Bool).2 = false := h
    show de .byt (some ((if (v : List UInt8).length ≤ 65536 then (enc ((v : List UInt8).length : Int) ++ v, false) else ([], true) : List UInt8 × Bool).1 ++ r)) = _
    by_cases hv : (v : List UInt8).length ≤ 65536
    · rw [if_pos hv]
      have hn := num_enc ((v : List UInt8).length : Int) (v ++ r) (by omega) (by omega)
      have hs : cntS 65536 (some (enc ((v : List UInt8).length : Int) ++ v ++ r)) = some (v ++ r) := by unfold cntS; rw [List.append_assoc, hn.1, if_neg (by omega), hn.2]
      have hc : cntV 65536 (some (enc ((v : List UInt8).length : Int) ++ v ++ r)) = (v : List UInt8).length := by unfold cntV; rw [List.append_assoc, hn.1, if_neg (by omega)]; omega
      show (bytV _, bytT _) = _
      unfold bytV bytT
      simp only [hs, hc, Option.bind_some]
      rw [if_neg (by rw [List.length_append]; omega), if_neg (by rw [List.length_append]; omega), List.take_left, List.drop_left]
    · rw [if_neg hv] at h'; cases h'
  | lst f ih =>
    have h' : (if (v : List (Vl f)).length ≤ 64 then (enc ((v : List (Vl f)).length : Int) ++ (v : List (Vl f)).flatMap fun v => (en f v).1, (v : List (Vl f)).any fun v => (en f v).2) else ([], true) : List UInt8 × Bool).2 = false := h
    show de (.lst f) (some ((if (v : List (Vl f)).length ≤ 64 then (enc ((v : List (Vl f)).length : Int) ++ (v : List (Vl f)).flatMap fun v => (en f v).1, (v : List (Vl f)).any fun v => (en f v).2) else ([], true) : List UInt8 × Bool).1 ++ r)) = _
    by_cases hv : (v : List (Vl f)).length ≤ 64
    · rw [if_pos hv] at h' ⊢
      simp only at h' ⊢
      have hn := num_enc ((v : List (Vl f)).length : Int) ((v : List (Vl f)).flatMap (fun v => (en f v).1) ++ r) (by omega) (by omega)
      rw [List.append_assoc]
      have hs : cntS 64 (some (enc ((v : List (Vl f)).length : Int) ++ ((v : List (Vl f)).flatMap (fun v => (en f v).1) ++ r))) = some ((v : List (Vl f)).flatMap (fun v => (en f v).1) ++ r) := by unfold cntS; rw [hn.1, if_neg (by omega), hn.2]
      have hc : cntV 64 (some (enc ((v : List (Vl f)).length : Int) ++ ((v : List (Vl f)).flatMap (fun v => (en f v).1) ++ r))) = (v : List (Vl f)).length := by unfold cntV; rw [hn.1, if_neg (by omega)]; omega
      rw [de, hs, hc, deN_en f (fun v r h => ih v r h) v h' r, if_neg (by simp)]
    · rw [if_neg hv] at h'; cases h'
  | cat a b iha ihb =>
    have h' : ((en a v.1).2 || (en b v.2).2) = false := h
    rw [Bool.or_eq_false_iff] at h'
    show de (.cat a b) (some (((en a v.1).1 ++ (en b v.2).1) ++ r)) = _
    rw [de, List.append_assoc, iha v.1 _ h'.1]
    simp only
    rw [ihb v.2 r h'.2]

/- what is read has the bytes that it is written with -/
theorem deN_can (f : Fm) (hn : (de f none).2 = none) (ih : ∀ (l r : List UInt8), (de f (some l)).2 = some r → (en f (de f (some l)).1).2 = false ∧ l = (en f (de f (some l)).1).1 ++ r) (k : Nat) (l r : List UInt8) (h : (deN (de f) k (some l)).2 = some r) :
    (deN (de f) k (some l)).1.length = k ∧ (deN (de f) k (some l)).1.any (fun v => (en f v).2) = false ∧ l = (deN (de f) k (some l)).1.flatMap (fun v => (en f v).1) ++ r := by
  induction k generalizing r with
  | zero => simp only [deN] at h ⊢; cases h; simp
  | succ k ihk =>
    rw [deN] at h ⊢
    simp only at h ⊢
    cases hm : (deN (de f) k (some l)).2 with
    | none => rw [hm, hn] at h; cases h
    | some m =>
      rw [hm] at h
      obtain ⟨h1, h2, h3⟩ := ihk m hm
      obtain ⟨h4, h5⟩ := ih m r h
      refine ⟨by simp [h1], ?_, ?_⟩
      · rw [List.any_append, h2]; simp [h4]
      · rw [List.flatMap_append, List.append_assoc]
        simp only [List.flatMap_cons, List.flatMap_nil, List.append_nil]
        rw [← h5]; exact h3
theorem cnt_can (m : Int) (l r : List UInt8) (h : cntS m (some l) = some r) : (cntV m (some l) : Int) ≤ m ∧ l = enc (cntV m (some l) : Int) ++ r := by
  unfold cntS at h
  unfold cntV
  by_cases hv : numV (some l) < 0 ∨ m < numV (some l)
  · rw [if_pos hv] at h; cases h
  · rw [if_neg hv] at h ⊢
    obtain ⟨_, _, e⟩ := num_can l r h
    rw [Int.toNat_of_nonneg (by omega)]
    exact ⟨by omega, e⟩
theorem en_de (f : Fm) (l r : List UInt8) (h : (de f (some l)).2 = some r) : (en f (de f (some l)).1).2 = false ∧ l = (en f (de f (some l)).1).1 ++ r := by
  induction f generalizing l r with
  | num =>
    obtain ⟨h0, h1, h2⟩ := num_can l r h
    show (enN (numV (some l))).2 = false ∧ l = (enN (numV (some l))).1 ++ r
    unfold enN
    rw [if_pos ⟨h0, h1⟩]
    exact ⟨rfl, h2⟩
  | tru =>
    have h' : truS (some l) = some r := h
    refine ⟨rfl, ?_⟩
    show l = enc (if decide (numV (some l) = 1) = true then 1 else 0) ++ r
    unfold truS at h'
    by_cases hv : numV (some l) = 0 ∨ numV (some l) = 1
    · rw [if_pos hv] at h'
      obtain ⟨_, _, h2⟩ := num_can l r h'
      rcases hv with hv | hv
      · rw [hv] at h2 ⊢; simpa using h2
      · rw [hv] at h2 ⊢; simpa using h2
    · rw [if_neg hv] at h'; cases h'
  | byt =>
    have h' : bytT (some l) = some r := h
    show (if (bytV (some l)).length ≤ 65536 then (enc ((bytV (some l)).length : Int) ++ bytV (some l), false) else ([], true) : List UInt8 × Bool).2 = false ∧ l = (if (bytV (some l)).length ≤ 65536 then (enc ((bytV (some l)).length : Int) ++ bytV (some l), false) else ([], true) : List UInt8 × Bool).1 ++ r
    unfold bytT at h'
    cases hc : cntS 65536 (some l) with
    | none => simp [hc] at h'
    | some m =>
      rw [hc] at h'
      simp only [Option.bind_some] at h'
      by_cases hl : m.length < cntV 65536 (some l)
      · rw [if_pos hl] at h'; cases h'
      · rw [if_neg hl] at h'
        cases h'
        obtain ⟨h1, h2⟩ := cnt_can 65536 l m hc
        have hb : bytV (some l) = m.take (cntV 65536 (some l)) := by unfold bytV; rw [hc]; simp only; rw [if_neg hl]
        have hbl : (bytV (some l)).length = cntV 65536 (some l) := by rw [hb, List.length_take]; omega
        rw [hbl, if_pos (by omega), hb]
        refine ⟨rfl, ?_⟩
        simp only [List.append_assoc, List.take_append_drop]
        exact h2
  | lst f ih =>
    cases hc : cntS 64 (some l) with
    | none =>
      exfalso
      have h' : (if (deN (de f) (cntV 64 (some l)) (cntS 64 (some l))).2 = none then ([], none) else deN (de f) (cntV 64 (some l)) (cntS 64 (some l)) : List (Vl f) × Option (List UInt8)).2 = some r := h
      rw [hc] at h'
      have : (deN (de f) (cntV 64 (some l)) none).2 = none := by
        have := deN_none (de f) (de_none f) 0 (cntV 64 (some l)) none rfl
        rwa [Nat.zero_add] at this
      rw [if_pos this] at h'; cases h'
    | some m =>
      by_cases hn : (deN (de f) (cntV 64 (some l)) (some m)).2 = none
      · exfalso
        have h' : (if (deN (de f) (cntV 64 (some l)) (cntS 64 (some l))).2 = none then ([], none) else deN (de f) (cntV 64 (some l)) (cntS 64 (some l)) : List (Vl f) × Option (List UInt8)).2 = some r := h
        rw [hc, if_pos hn] at h'; cases h'
      · have e : de (.lst f) (some l) = deN (de f) (cntV 64 (some l)) (some m) := by rw [de, hc, if_neg hn]
        rw [e] at h ⊢
        obtain ⟨h1, h2⟩ := cnt_can 64 l m hc
        obtain ⟨h3, h4, h5⟩ := deN_can f (de_none f) (fun l r h => ih l r h) _ m r h
        generalize deN (de f) (cntV 64 (some l)) (some m) = R at *
        show (if R.1.length ≤ 64 then (enc (R.1.length : Int) ++ R.1.flatMap fun v => (en f v).1, R.1.any fun v => (en f v).2) else ([], true) : List UInt8 × Bool).2 = false ∧ l = (if R.1.length ≤ 64 then (enc (R.1.length : Int) ++ R.1.flatMap fun v => (en f v).1, R.1.any fun v => (en f v).2) else ([], true) : List UInt8 × Bool).1 ++ r
        rw [h3, if_pos (by omega)]
        refine ⟨h4, ?_⟩
        rw [List.append_assoc, ← h5]
        exact h2
  | cat a b iha ihb =>
    have h' : (de b (de a (some l)).2).2 = some r := h
    show ((en a (de a (some l)).1).2 || (en b (de b (de a (some l)).2).1).2) = false ∧ l = ((en a (de a (some l)).1).1 ++ (en b (de b (de a (some l)).2).1).1) ++ r
    cases hm : (de a (some l)).2 with
    | none => rw [hm, de_none] at h'; cases h'
    | some m =>
      rw [hm] at h'
      obtain ⟨h1, h2⟩ := iha l m hm
      obtain ⟨h3, h4⟩ := ihb m r h'
      refine ⟨by rw [h1, h3]; rfl, ?_⟩
      rw [List.append_assoc, ← h4]
      exact h2

/- two values that may be written have the same bytes just if they are the same -/
theorem en_inj (f : Fm) (u v : Vl f) (hu : (en f u).2 = false) (hv : (en f v).2 = false) (h : (en f u).1 = (en f v).1) : u = v := by
  have e1 := de_en f u [] hu
  have e2 := de_en f v [] hv
  rw [h, e2] at e1
  exact (congrArg Prod.fst e1).symm
end Go.Proofs.YtpbokgeaolpiaabGreat
