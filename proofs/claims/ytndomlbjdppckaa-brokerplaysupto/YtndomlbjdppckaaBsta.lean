/- What holds of the items, whatever is asked; the broker's calls at it. -/
import Derived.Test.YtndomlbjdppckaaBud
namespace Go.Proofs.Ytndomlbjdppckaa
open Go.RowKit
variable {D : Nat}

/- workers are told apart by what they have -/
def WU (R : List Itm) : Prop := R.Pairwise (fun a b => a.tk = true → b.tk = true → a.wk ≠ b.wk)
def JR (R : List Itm) : Prop := (R.map (·.jb)).Nodup
def IvR (R : List Itm) : Prop := ∀ x ∈ R, IvI x
structure Ok (R : List Itm) : Prop where
  j : JR R
  i : IvR R
  w : WU R
def itms (L : List (Nat × Itm)) : List Itm := L.map (·.2)
theorem itms_len (L : List (Nat × Itm)) : (itms L).length = L.length := by simp [itms]
theorem itms_get {L : List (Nat × Itm)} {i b : Nat} {x : Itm} (h : L[i]? = some (b, x)) : (itms L)[i]? = some x := by simp [itms, h]
theorem itms_set (L : List (Nat × Itm)) (i b : Nat) (x : Itm) : itms (L.set i (b, x)) = (itms L).set i x := by simp [itms, List.map_set]
theorem itms_erase (L : List (Nat × Itm)) (i : Nat) : itms (L.eraseIdx i) = (itms L).eraseIdx i := by
  induction L generalizing i with
  | nil => simp [itms]
  | cons x L ih =>
    cases i with
    | zero => simp [itms]
    | succ i => simp only [itms, List.eraseIdx_cons_succ, List.map_cons] at ih ⊢; rw [ih]
theorem itms_tk (L : List (Nat × Itm)) : itms (L.map tkP) = (itms L).map tk1 := by simp [itms, tkP, Function.comp_def]
theorem Ok.jn {L : List (Nat × Itm)} (h : Ok (itms L)) : JN L := by
  have := h.j
  unfold JR itms at this
  rw [List.map_map] at this
  exact this
theorem Ok.iv {L : List (Nat × Itm)} (h : Ok (itms L)) : Iv L := fun x hx => h.i _ (List.mem_map.2 ⟨x, hx, rfl⟩)
theorem Ok.nil : Ok [] := ⟨by simp [JR], fun x hx => absurd hx (by simp), List.Pairwise.nil⟩
theorem JR.set {R : List Itm} (h : JR R) {i : Nat} {x y : Itm} (hi : R[i]? = some x) (e : y.jb = x.jb) : JR (R.set i y) := by
  have : (R.set i y).map (·.jb) = R.map (·.jb) := by
    rw [List.map_set]
    apply List.ext_getElem?
    intro j
    by_cases hj : i = j
    · subst hj
      rw [List.getElem?_set_self (by simpa using (List.getElem?_eq_some_iff.1 hi).1)]
      simp [hi, e]
    · rw [List.getElem?_set_ne hj]
  unfold JR
  rw [this]; exact h
theorem IvR.set {R : List Itm} (h : IvR R) {i : Nat} {y : Itm} (hy : IvI y) : IvR (R.set i y) := by
  intro z hz
  rcases List.mem_or_eq_of_mem_set hz with h1 | h1
  · exact h z h1
  · rw [h1]; exact hy
theorem WU.set {R : List Itm} (h : WU R) {i : Nat} {y : Itm} (hy : y.tk = true → ∀ j z, j ≠ i → R[j]? = some z → z.tk = true → z.wk ≠ y.wk) : WU (R.set i y) := by
  unfold WU at *
  rw [List.pairwise_iff_getElem] at *
  intro a b ha hb hab
  rw [List.length_set] at ha hb
  rw [List.getElem_set, List.getElem_set]
  by_cases h1 : i = a
  · rw [if_pos h1, if_neg (by omega)]
    intro t1 t2 e
    exact hy t1 b R[b] (by omega) (List.getElem?_eq_getElem hb) t2 e.symm
  · rw [if_neg h1]
    by_cases h2 : i = b
    · rw [if_pos h2]
      intro t1 t2
      exact hy t2 a R[a] (by omega) (List.getElem?_eq_getElem ha) t1
    · rw [if_neg h2]; exact h a b ha hb hab
theorem IvI.nk {x : Itm} (h : IvI x) (ht : x.tk = true) : IvI (nk x) := by
  unfold _root_.Go.Proofs.Ytndomlbjdppckaa.nk
  have h0 := h.c0
  have h3 := h.c3
  have hd := (h.had ht).1
  by_cases hc : x.cn = 3
  · rw [if_pos hc]
    exact ⟨fun h => by simp at h, fun _ => by simp, by simp, by simp, by simp, by simp⟩
  · rw [if_neg hc]
    exact ⟨fun h => by simp at h, fun _ => by simp only; omega, h.d0, h.d6, h.c0, h.c3⟩
theorem nk_tk (x : Itm) : (nk x).tk = false := by unfold nk; split <;> rfl
theorem nk_jb (x : Itm) : (nk x).jb = x.jb := by unfold nk; split <;> rfl
theorem Ok.nk {R : List Itm} (h : Ok R) {i : Nat} {x : Itm} (hi : R[i]? = some x) (ht : x.tk = true) : Ok (R.set i (nk x)) :=
  ⟨h.j.set hi (nk_jb x), h.i.set ((h.i x (List.mem_of_getElem? hi)).nk ht), h.w.set (fun e => by rw [nk_tk] at e; cases e)⟩
theorem Ok.sub {R R' : List Itm} (h : Ok R) (hs : R'.Sublist R) : Ok R' :=
  ⟨List.Nodup.sublist (hs.map _) h.j, fun x hx => h.i x (hs.mem hx), List.Pairwise.sublist hs h.w⟩
theorem Ok.tkn {R : List Itm} (h : Ok R) {i : Nat} {x : Itm} {wk : Int} (hi : R[i]? = some x) (hf : fr x = true) (hw : ∀ z ∈ R, hb wk z = false) : Ok (R.set i (tkn wk x)) := by
  have hx := h.i x (List.mem_of_getElem? hi)
  simp [fr] at hf
  refine ⟨h.j.set hi rfl, h.i.set ?_, h.w.set (fun _ j z hj hz hzt e => ?_)⟩
  · have h1 := hx.free hf.1
    have h2 := hx.c0
    exact ⟨fun _ => ⟨hf.2, by simp [_root_.Go.Proofs.Ytndomlbjdppckaa.tkn], by simp [_root_.Go.Proofs.Ytndomlbjdppckaa.tkn]⟩, fun e => by simp [_root_.Go.Proofs.Ytndomlbjdppckaa.tkn] at e, hx.d0, hx.d6, by simp only [_root_.Go.Proofs.Ytndomlbjdppckaa.tkn]; omega, by simp only [_root_.Go.Proofs.Ytndomlbjdppckaa.tkn]; omega⟩
  · have := hw z (List.mem_of_getElem? hz)
    simp only [_root_.Go.Proofs.Ytndomlbjdppckaa.tkn] at e
    simp [hb, hzt, e] at this
theorem tk1_jb (x : Itm) : (tk1 x).jb = x.jb := by
  unfold tk1
  split
  · split
    · rw [nk_jb]
    · rfl
  · split <;> rfl
theorem tk1_wk (x : Itm) (h : (tk1 x).tk = true) : x.tk = true ∧ (tk1 x).wk = x.wk := by
  unfold tk1 at *
  split at h
  · rename_i h1
    rw [if_pos h1]
    split at h
    · rw [nk_tk] at h; cases h
    · rename_i h2; rw [if_neg h2]; exact ⟨h1, rfl⟩
  · rename_i h1
    split at h
    · exact absurd h h1
    · exact absurd h h1
theorem IvI.tk1 {x : Itm} (h : IvI x) : IvI (tk1 x) := by
  unfold _root_.Go.Proofs.Ytndomlbjdppckaa.tk1
  have h0 := h.c0
  have h3 := h.c3
  have d0 := h.d0
  have d6 := h.d6
  by_cases ht : x.tk = true
  · rw [if_pos ht]
    have hh := h.had ht
    by_cases h12 : x.tc + 1 = 12
    · rw [if_pos h12]
      have hd := hh.1
      unfold _root_.Go.Proofs.Ytndomlbjdppckaa.nk
      by_cases hc : x.cn = 3
      · rw [if_pos hc]
        exact ⟨fun h => by simp at h, fun _ => by simp, by simp, by simp, by simp, by simp⟩
      · rw [if_neg hc]
        exact ⟨fun h => by simp at h, fun _ => by simp only; omega, h.d0, h.d6, h.c0, h.c3⟩
    · rw [if_neg h12]
      exact ⟨fun _ => ⟨hh.1, by simp only; omega, by simp only; omega⟩, fun e => absurd ht (by simp only at e; simp [e]), h.d0, h.d6, h.c0, h.c3⟩
  · rw [if_neg ht]
    by_cases hd : 0 < x.dl
    · rw [if_pos hd]
      exact ⟨fun e => absurd e ht, h.free, by simp only; omega, by simp only; omega, h.c0, h.c3⟩
    · rw [if_neg hd]; exact h
theorem Ok.tick {R : List Itm} (h : Ok R) : Ok (R.map tk1) := by
  refine ⟨?_, fun x hx => ?_, ?_⟩
  · unfold JR
    rw [List.map_map]
    have : ((fun x : Itm => x.jb) ∘ tk1) = (fun x : Itm => x.jb) := by funext x; exact tk1_jb x
    rw [this]; exact h.j
  · obtain ⟨y, hy, rfl⟩ := List.mem_map.1 hx
    exact (h.i y hy).tk1
  · unfold WU
    rw [List.pairwise_map]
    exact h.w.imp (fun {a b} hab ha hb => by
      obtain ⟨a1, a2⟩ := tk1_wk a ha
      obtain ⟨b1, b2⟩ := tk1_wk b hb
      rw [a2, b2]; exact hab a1 b1)
theorem Ok.u1 {R : List Itm} (h : Ok R) (e : Ev) : Ok (u1 R e) := by
  unfold _root_.Go.Proofs.Ytndomlbjdppckaa.u1
  split
  · split
    · rename_i i hi
      rw [List.findIdx?_eq_some_iff_getElem] at hi
      obtain ⟨hl, hp, hm⟩ := hi
      have hg : R.getD i default = R[i] := by simp [List.getD, hl]
      rw [hg]
      split
      · exact h
      · rename_i htk
        have hj : R[i].jb = e.jb := by simpa using hp
        have hx := h.i R[i] (List.getElem_mem hl)
        refine ⟨h.j.set (List.getElem?_eq_getElem hl) (by simp [evI, hj]), h.i.set ⟨hx.had, hx.free, hx.d0, hx.d6, hx.c0, hx.c3⟩, h.w.set (fun ht => absurd ht (by simpa [evI] using htk))⟩
    · rename_i hi
      rw [List.findIdx?_eq_none_iff] at hi
      refine ⟨?_, fun x hx => ?_, ?_⟩
      · unfold JR
        rw [List.map_append]
        refine List.nodup_append.2 ⟨h.j, by simp, fun a ha b' hb' => ?_⟩
        obtain ⟨z, hz, rfl⟩ := List.mem_map.1 ha
        simp [newI] at hb'
        rw [hb']
        have := hi z hz
        simpa using this
      · rcases List.mem_append.1 hx with hx | hx
        · exact h.i x hx
        · rw [List.mem_singleton.1 hx]
          exact ⟨fun h => by simp [newI] at h, fun _ => by simp [newI], by simp [newI], by simp [newI], by simp [newI], by simp [newI]⟩
      · refine List.pairwise_append.2 ⟨h.w, List.pairwise_singleton _ _, fun a ha b' hb' => ?_⟩
        rw [List.mem_singleton.1 hb']
        intro _ h2
        simp [newI] at h2
  · exact h
theorem Ok.ups {R : List Itm} (h : Ok R) (es : List Ev) : Ok (es.foldl _root_.Go.Proofs.Ytndomlbjdppckaa.u1 R) := by
  induction es generalizing R with
  | nil => exact h
  | cons e es ih => exact ih (h.u1 e)
theorem Ok.up {R : List Itm} (h : Ok R) (es : List Ev) : Ok (upM R es) := (h.ups es).sub List.filter_sublist

/- the broker, and what holds of it -/
structure Sta (D : Nat) (w : World) (pB : Nat) (R : List Itm) (N : Nat) : Prop where
  ex : ∃ L, Bk D w pB L N ∧ itms L = R
  ok : Ok R
theorem Sta.grow {w w' : World} {pB N : Nat} {R : List Itm} (h : Sta D w pB R N) (hb : Below w.heap.size w w') : Sta D w' pB R N := by
  obtain ⟨L, h1, h2⟩ := h.ex
  exact ⟨⟨L, h1.grow hb, h2⟩, h.ok⟩
theorem Sta.mono {w : World} {pB N N' : Nat} {R : List Itm} (h : Sta D w pB R N) (hN : N ≤ N') : Sta D w pB R N' := by
  obtain ⟨L, h1, h2⟩ := h.ex
  exact ⟨⟨L, h1.mono hN, h2⟩, h.ok⟩
theorem FI.of_r {L : List (Nat × Itm)} {wk : Int} : ∃ K, FI (hbP wk) L K := FI.ex _ L
/- who has it -/
def heldM (wk : Int) (R : List Itm) : Option Itm := R.find? (hb wk)
theorem FI.heldM {L : List (Nat × Itm)} {wk : Int} {K : Nat} (h : FI (hbP wk) L K) : heldM wk (itms L) = (L[K]?).map (·.2) := by
  induction L generalizing K with
  | nil => simp [_root_.Go.Proofs.Ytndomlbjdppckaa.heldM, itms]
  | cons x L ih =>
    cases K with
    | zero =>
      have := h.hit x (by simp)
      simp only [hbP] at this
      simp [_root_.Go.Proofs.Ytndomlbjdppckaa.heldM, itms, this]
    | succ K =>
      have h1 := h.miss 0 x (by omega) (by simp)
      simp only [hbP] at h1
      have h2 : FI (hbP wk) L K := ⟨by have := h.le; simpa using this, fun j y hj hy => h.miss (j + 1) y (by omega) (by simpa using hy), fun y hy => h.hit y (by simpa using hy)⟩
      have := ih h2
      simp only [_root_.Go.Proofs.Ytndomlbjdppckaa.heldM, itms, List.map_cons, List.find?_cons, h1] at this ⊢
      simpa using this
theorem FI.end_ {P : Nat × Itm → Bool} {L : List (Nat × Itm)} {K : Nat} (h : FI P L K) (hn : L[K]? = none) : K = L.length := by
  have := h.le
  rw [List.getElem?_eq_none_iff] at hn
  omega
def heV (o : Option Itm) : Value := (o.map evV).getD zeV
theorem s_held {pB N : Nat} {R : List Itm} {w : World} (h : Sta D w pB R N) (wk : Int) : Calls Try.prog 19 #[.pointer (some ⟨pB, 0, none⟩), .int .i64 wk] w fun e w' => e = .returned (.tuple #[heV (heldM wk R), .bool (heldM wk R).isSome]) ∧ Below w.heap.size w w' := by
  obtain ⟨L, h1, rfl⟩ := h.ex
  obtain ⟨v, pH, hL⟩ := h1.lst
  obtain ⟨K, hF⟩ := FI.ex (hbP wk) L
  rw [hF.heldM]
  cases hx : L[K]? with
  | none =>
    have := hF.end_ hx
    subst this
    exact held_none pB pH v L wk w hL hF
  | some x => exact held_some pB pH v L wk K x.1 x.2 w hL hF hx
theorem s_len {pB N : Nat} {R : List Itm} {w : World} (h : Sta D w pB R N) : Calls Try.prog 21 #[.pointer (some ⟨pB, 0, none⟩)] w fun e w' => e = .returned (.int .i64 R.length) ∧ w' = w := by
  obtain ⟨L, h1, rfl⟩ := h.ex
  obtain ⟨v, pH, hL⟩ := h1.lst
  rw [itms_len]
  exact len_any pB pH v L w hL
/- Nack and Ack -/
def nackM (wk : Int) (R : List Itm) : List Itm := match R.findIdx? (hb wk) with | some i => R.set i (nk (R.getD i default)) | none => R
def ackM (wk : Int) (R : List Itm) : List Itm := match R.findIdx? (hb wk) with | some i => R.eraseIdx i | none => R
theorem FI.idx {L : List (Nat × Itm)} {wk : Int} {K : Nat} (h : FI (hbP wk) L K) : (itms L).findIdx? (hb wk) = if K < L.length then some K else none := by
  split
  · rename_i hK
    rw [List.findIdx?_eq_some_iff_getElem]
    refine ⟨by rw [itms_len]; exact hK, ?_, fun j hj => ?_⟩
    · have := h.hit _ (List.getElem?_eq_getElem hK)
      simpa [itms, hbP] using this
    · have := h.miss j _ hj (List.getElem?_eq_getElem (by omega))
      simpa [itms, hbP] using this
  · rename_i hK
    rw [List.findIdx?_eq_none_iff]
    intro x hx
    obtain ⟨z, hz, rfl⟩ := List.mem_map.1 hx
    obtain ⟨j, hj⟩ := List.mem_iff_getElem?.1 hz
    exact h.miss j z (by have := (List.getElem?_eq_some_iff.1 hj).1; omega) hj
theorem s_nack {pB N : Nat} {R : List Itm} {w : World} (h : Sta D w pB R N) (wk : Int) (hN : N < 8796093022207) : Calls Try.prog 15 #[.pointer (some ⟨pB, 0, none⟩), .int .i64 wk] w fun e w' => e = .returned (.int .i64 (if (heldM wk R).isSome = true then 0 else 3)) ∧ Sta D w' pB (nackM wk R) (N + 1) ∧ FrT D TP w w' := by
  obtain ⟨L, h1, rfl⟩ := h.ex
  obtain ⟨K, hF⟩ := FI.ex (hbP wk) L
  have hok := h.ok
  rw [hF.heldM]
  unfold nackM
  rw [hF.idx]
  cases hx : L[K]? with
  | none =>
    have := hF.end_ hx
    subst this
    rw [if_neg (Nat.lt_irrefl L.length)]
    refine (nack_none pB N L wk w h1 hF).mono ?_
    rintro e w' ⟨rfl, hb⟩
    exact ⟨rfl, ⟨⟨L, (h1.grow hb).mono (by omega), rfl⟩, hok⟩, FrT.of_below hb⟩
  | some x =>
    obtain ⟨b, x⟩ := x
    have hKl := (List.getElem?_eq_some_iff.1 hx).1
    rw [if_pos hKl]
    have hg : (itms L).getD K default = x := by simp [List.getD, itms_get hx]
    have htk : x.tk = true := by have := hF.hit _ hx; simp [hbP, hb] at this; exact this.1
    refine (nack_some pB N K b x L wk w h1 hF hx (hok.iv _ (List.mem_of_getElem? hx)) hN).mono ?_
    rintro e w' ⟨rfl, h2, h3⟩
    refine ⟨rfl, ⟨⟨_, h2, ?_⟩, ?_⟩, h3⟩
    · rw [itms_set]; simp only [hg]
    · simp only [hg]; exact hok.nk (itms_get hx) htk
theorem s_ack {pB N : Nat} {R : List Itm} {w : World} (h : Sta D w pB R N) (wk : Int) : Calls Try.prog 13 #[.pointer (some ⟨pB, 0, none⟩), .int .i64 wk] w fun e w' => e = .returned (.int .i64 (if (heldM wk R).isSome = true then 0 else 3)) ∧ Sta D w' pB (ackM wk R) N ∧ FrT D [55, 58] w w' := by
  obtain ⟨L, h1, rfl⟩ := h.ex
  obtain ⟨K, hF⟩ := FI.ex (hbP wk) L
  have hok := h.ok
  rw [hF.heldM]
  unfold ackM
  rw [hF.idx]
  cases hx : L[K]? with
  | none =>
    have := hF.end_ hx
    subst this
    rw [if_neg (Nat.lt_irrefl L.length)]
    refine (ack_none pB N L wk w h1 hF).mono ?_
    rintro e w' ⟨rfl, hb⟩
    exact ⟨rfl, ⟨⟨L, h1.grow hb, rfl⟩, hok⟩, FrT.of_below hb⟩
  | some x =>
    obtain ⟨b, x⟩ := x
    have hKl := (List.getElem?_eq_some_iff.1 hx).1
    rw [if_pos hKl]
    refine (ack_some pB N K b x L wk w h1 hF hx).mono ?_
    rintro e w' ⟨rfl, h2, h3⟩
    exact ⟨rfl, ⟨⟨_, h2, itms_erase L K⟩, hok.sub (List.eraseIdx_sublist ..)⟩, h3⟩
theorem s_tick {pB N : Nat} {R : List Itm} {w : World} (h : Sta D w pB R N) (hN : N + R.length < 8796093022207) : Calls Try.prog 17 #[.pointer (some ⟨pB, 0, none⟩)] w fun e w' => e = .returned (.tuple #[]) ∧ Sta D w' pB (R.map tk1) (N + R.length) ∧ FrT D TP w w' := by
  obtain ⟨L, h1, rfl⟩ := h.ex
  have hok := h.ok
  rw [itms_len] at hN ⊢
  refine (tick_any pB N L w h1 hok.iv hN).mono ?_
  rintro e w' ⟨rfl, h2, h3⟩
  exact ⟨rfl, ⟨⟨_, h2, itms_tk L⟩, hok.tick⟩, h3⟩
theorem s_upd {pB N : Nat} {R : List Itm} {w : World} (h : Sta D w pB R N) (a : Option Addr) (c : Nat) (es : List Ev) (hE : EvR D w a es) (hEn : es.length ≤ 4398046511104) (hLn : R.length + es.length < 8796093022207) :
    Calls Try.prog 9 #[.pointer (some ⟨pB, 0, none⟩), .agg #[.int .i64 0, .int .i64 0, .slice none 0 0, .slice none 0 0, .slice none 0 0, .slice none 0 0, .slice a es.length c, .slice none 0 0, .slice none 0 0]] w fun e w' => e = .returned (.tuple #[]) ∧ Sta D w' pB (upM R es) (R.length + es.length) ∧ (upM R es).length ≤ R.length + es.length ∧ FrT D TB w w' := by
  obtain ⟨L, h1, rfl⟩ := h.ex
  have hok := h.ok
  obtain ⟨v, pH, hL⟩ := h1.lst
  rw [itms_len] at hLn ⊢
  refine (upl_any pB pH v a c es L w hL hok.jn hE hEn hLn).mono ?_
  rintro e w' ⟨rfl, L', h2, h3, h4, h5, h6⟩
  have h7 : itms L' = upM (itms L) es := h3
  have h8 : (upM (itms L) es).length = L'.length := by rw [← h7, itms_len]
  exact ⟨rfl, ⟨⟨L', h2.mono h5, h7⟩, hok.up es⟩, by omega, h6⟩
/- Dequeue: what comes first -/
def MinR (R : List Itm) (i : Nat) (x : Itm) : Prop := R[i]? = some x ∧ fr x = true ∧ ∀ z ∈ R, fr z = true → klt z x = false
theorem s_deq_no {pB N : Nat} {R : List Itm} {w : World} (h : Sta D w pB R N) (wk : Int) (hn : (heldM wk R).isSome = true ∨ ∀ z ∈ R, fr z = false) : Calls Try.prog 11 #[.pointer (some ⟨pB, 0, none⟩), .int .i64 wk] w fun e w' => e = .returned (.tuple #[zeV, .bool false]) ∧ Below w.heap.size w w' := by
  obtain ⟨L, h1, rfl⟩ := h.ex
  obtain ⟨K, hF⟩ := FI.ex (hbP wk) L
  rw [hF.heldM] at hn
  cases hx : L[K]? with
  | none =>
    have := hF.end_ hx
    subst this
    rcases hn with hn | hn
    · rw [hx] at hn; cases hn
    · exact deq_empty pB N L wk w h1 hF (fun z hz => hn _ (List.mem_map.2 ⟨z, hz, rfl⟩))
  | some x => exact deq_has pB N K x.1 x.2 L wk w h1 hF hx
theorem s_deq_yes {pB N : Nat} {R : List Itm} {w : World} (h : Sta D w pB R N) (wk : Int) (hn : heldM wk R = none) {z : Itm} (hz : z ∈ R) (hzf : fr z = true) (hN : N ≤ 8796093022208) : Calls Try.prog 11 #[.pointer (some ⟨pB, 0, none⟩), .int .i64 wk] w fun e w' => ∃ i x, MinR R i x ∧ e = .returned (.tuple #[evV x, .bool true]) ∧ Sta D w' pB (R.set i (tkn wk x)) N ∧ FrT D TP w w' := by
  obtain ⟨L, h1, rfl⟩ := h.ex
  have hok := h.ok
  obtain ⟨K, hF⟩ := FI.ex (hbP wk) L
  have hh := hn
  rw [hF.heldM] at hn
  have hx : L[K]? = none := by cases hx : L[K]? with | none => rfl | some y => rw [hx] at hn; cases hn
  have := hF.end_ hx
  subst this
  obtain ⟨y, hy, rfl⟩ := List.mem_map.1 hz
  refine (deq_min pB N L wk y w h1 hF hy hzf hok.iv hN).mono ?_
  rintro e w' ⟨i, b, x, hm, rfl, h2, h3⟩
  have hi := itms_get hm.1
  refine ⟨i, x, ⟨hi, hm.2.1, fun z hz hf => ?_⟩, rfl, ⟨⟨_, h2, itms_set L i b _⟩, hok.tkn hi hm.2.1 (fun z hz => ?_)⟩, h3⟩
  · obtain ⟨u, hu, rfl⟩ := List.mem_map.1 hz
    exact hm.2.2 u hu hf
  · have := List.find?_eq_none.1 hh z hz
    simpa using this
end Go.Proofs.Ytndomlbjdppckaa
