/- A disk with one file, boot: a number in it; what its calls do to it. -/
import Derived.Test.YtkienmncifonnaaDoorDsy
import Derived.Test.YtkienmncifonnaaDoorShelf
import Derived.Lib.ItoaMem
import Derived.Lib.ItoaLen
namespace Go.Proofs.YtkienmncifonnaaDoor
open Go.RowKit Go.Maps Go.Lib

theorem decFrom_app (l : List UInt8) (r : List UInt8) : ∀ a, decFrom a (l ++ r) = (decFrom a l).bind fun n => decFrom n r := by
  induction l with
  | nil => intro a; rfl
  | cons b l ih =>
    intro a
    simp only [List.cons_append, decFrom]
    cases digitVal b with
    | none => rfl
    | some d => exact ih _
theorem digit_of (d : Nat) (h : d < 10) : digitVal (UInt8.ofNat (48 + d)) = some d := by
  unfold digitVal
  have e : (UInt8.ofNat (48 + d)).toNat = 48 + d := by simp; omega
  rw [e, if_pos (by omega)]
  simp
theorem decFrom_one (a d : Nat) (h : d < 10) : decFrom a [UInt8.ofNat (48 + d)] = some (a * 10 + d) := by
  simp only [decFrom, digit_of d h]
theorem decFrom_dec (n : Nat) : decFrom 0 (decDigits n) = some n := by
  induction n using Nat.strongRecOn with
  | _ n ih =>
    by_cases h : n < 10
    · rw [decDigits, dif_pos h, decFrom_one 0 n h]
      simp
    · rw [decDigits, dif_neg h, decFrom_app, ih (n / 10) (by omega), Option.bind_some, decFrom_one (n / 10) (n % 10) (by omega)]
      congr 1
      omega
theorem dec_ne (n : Nat) : decDigits n ≠ [] := by
  intro e
  have := decDigits_length n
  rw [e] at this
  have := nDigits_pos n
  simp at *
  omega
theorem dec_len (n : Nat) (h : n ≤ 2199023255552) : (decDigits n).length ≤ 13 := by
  rw [decDigits_length]
  apply Nat.le_of_not_lt
  intro hc
  have : ∀ k u, k < nDigits u → 10 ^ k ≤ u ∨ u = 0 := by
    intro k
    induction k with
    | zero => intro u _; omega
    | succ k ih =>
      intro u hu
      by_cases h : u < 10
      · rw [nDigits_small h] at hu; omega
      · rw [nDigits_big h] at hu
        rcases ih (u / 10) (by omega) with e | e
        · left; rw [Nat.pow_succ]; omega
        · omega
  have e13 : (10 : Nat) ^ 13 = 10000000000000 := by decide
  rcases this 13 n hc with e | e
  · omega
  · rw [e, nDigits_small (by omega)] at hc; omega
theorem atoi_dec (n : Nat) : atoi (decDigits n) = some (n : Int) := by
  cases hd : decDigits n with
  | nil => exact absurd hd (dec_ne n)
  | cons b r =>
    have h := decFrom_dec n
    rw [hd] at h
    have hb : digitVal b ≠ none := by
      intro e; rw [decFrom, e] at h; cases h
    have h1 : b ≠ 45 := by rintro rfl; exact hb (by decide)
    have h2 : b ≠ 43 := by rintro rfl; exact hb (by decide)
    unfold atoi
    have e1 : (b == 45) = false := by simpa using h1
    have e2 : (b == 43) = false := by simpa using h2
    simp [e1, e2, decNat, h]

def bootN : Nm := [98, 111, 111, 116]
theorem boot_name : nameL bootN = true := by decide
def fsB (n : Nat) : FS := fun k => if k = bootN then (if n = 0 then none else some (decDigits n)) else none
def ptB (k : Nat) : Nat × Dd := (1, .pt bootN (decDigits k))
def mdB (f d : Nat) (L : List Nat) (lf : Int) : Md := ⟨fsB f, fsB d, L.map ptB, lf⟩
def lastB (L : List Nat) (d : Nat) : Nat := L.foldl (fun _ k => k) d
theorem lastB_snoc (L : List Nat) (d k : Nat) : lastB (L ++ [k]) d = k := by simp [lastB]
theorem lastB_mem (L : List Nat) (d : Nat) : lastB L d = d ∨ lastB L d ∈ L := by
  induction L generalizing d with
  | nil => exact .inl rfl
  | cons k L ih => rcases ih k with e | e <;> simp [lastB] at e ⊢ <;> simp [e]
theorem pt_fsB (k u f : Nat) (hk : 1 ≤ k) : doD (.pt bootN (decDigits k)) u (fsB f) = fsB k := by
  funext j
  simp only [doD, fup, fsB]
  by_cases e : j = bootN
  · rw [if_pos e, if_pos e, if_neg (by omega)]
  · rw [if_neg e, if_neg e, if_neg e]
theorem rep_fsB (L : List Nat) (h : ∀ x ∈ L, 1 ≤ x) : ∀ d, rep (L.map ptB) (fsB d) = fsB (lastB L d) := by
  induction L with
  | nil => intro d; rfl
  | cons k L ih =>
    intro d
    have := ih (fun x hx => h x (by simp [hx])) k
    simp only [rep, List.map_cons, List.foldl_cons, ptB] at this ⊢
    rw [pt_fsB k 1 d (h k (by simp))]
    exact this
theorem mkD_fsB (L : List Nat) (h : ∀ x ∈ L, 1 ≤ x) : ∀ (u d : Nat), mkD (L.map ptB) u (fsB d) = fsB (lastB (L.take u) d) := by
  induction L with
  | nil => intro u d; simp [mkD, lastB]
  | cons k L ih =>
    intro u d
    have hk := h k (by simp)
    have := mkD_step (l := (k :: L).map ptB) (k := 0) (v := 1) (x := .pt bootN (decDigits k)) (by rfl) u (fsB d)
    simp only [List.drop_zero] at this
    rw [this]
    cases u with
    | zero => simp [lastB]
    | succ u =>
      rw [if_neg (by omega), show min (u + 1) 1 = 1 by omega, pt_fsB k 1 d hk]
      simp only [List.map_cons, List.drop_succ_cons, List.drop_zero, Nat.add_sub_cancel, List.take_succ_cons]
      exact ih (fun x hx => h x (by simp [hx])) u k
theorem bd_fsB (n : Nat) (h : n ≤ 2199023255552) : Bd (fsB n) := by
  intro k
  simp only [cOf, fsB]
  by_cases e : k = bootN
  · rw [if_pos e]
    by_cases e2 : n = 0
    · rw [if_pos e2]; simp
    · rw [if_neg e2]; have := dec_len n h; simp; omega
  · rw [if_neg e]; simp

/- the disk at pd: the number in the file, the durable one, those that were written since, what is left, and who may be written -/
def DkZ (w : World) (p : Nat) (M : Md) (cnt : Nat) (F : Nat → Prop) (f : Nat) : Prop := ∃ bF bD DF DD dn G, DkR w p M cnt bF bD DF DD dn G ∧ F = Ft p bF bD DF DD dn (G.map (·.z)) ∧ (f ≠ 0 ∨ Maps.size DF = 0)
structure Bk (w : World) (pd f d : Nat) (L : List Nat) (lf : Int) (c : Nat) (F : Nat → Prop) : Prop where
  k : DkZ w pd (mdB f d L lf) c F f
  hf : f ≤ 2199023255552
  hd : d ≤ 2199023255552
  hL : ∀ x ∈ L, 1 ≤ x ∧ x ≤ 2199023255552
  e : f = lastB L d
theorem Bk.below {w w' : World} {pd f d : Nat} {L : List Nat} {lf : Int} {c : Nat} {F : Nat → Prop} (h : Bk w pd f d L lf c F) (hb : Below w.heap.size w w') : Bk w' pd f d L lf c F :=
  ⟨(by obtain ⟨bF, bD, DF, DD, dn, G, h1, h2⟩ := h.k; exact ⟨bF, bD, DF, DD, dn, G, h1.below hb, h2⟩), h.hf, h.hd, h.hL, h.e⟩
theorem Bk.lf {w : World} {pd f d : Nat} {L : List Nat} {lf : Int} {c : Nat} {F : Nat → Prop} (h : Bk w pd f d L lf c F) : -1 ≤ lf ∧ lf ≤ 1099511627776 := by
  obtain ⟨_, _, _, _, _, _, h, _, _⟩ := h.k
  exact h.leb
theorem Bk.bds {w : World} {pd f d : Nat} {L : List Nat} {lf : Int} {c : Nat} {F : Nat → Prop} (h : Bk w pd f d L lf c F) : (∀ x ∈ (mdB f d L lf).done, 1 ≤ x.1 ∧ x.1 ≤ 1048576) ∧ ∀ k, Bd (rep ((mdB f d L lf).done.take k) (mdB f d L lf).dur) := by
  refine ⟨fun x hx => ?_, fun k => ?_⟩
  · obtain ⟨y, _, rfl⟩ := List.mem_map.1 hx
    exact ⟨Nat.le_refl _, (by decide : (1 : Nat) ≤ 1048576)⟩
  · show Bd (rep ((L.map ptB).take k) (fsB d))
    rw [← List.map_take, rep_fsB _ (fun x hx => (h.hL x (List.mem_of_mem_take hx)).1)]
    apply bd_fsB
    rcases lastB_mem (L.take k) d with e | e
    · rw [e]; exact h.hd
    · exact (h.hL _ (List.mem_of_mem_take e)).2
def bootB : ByteArray := ⟨#[98, 111, 111, 116]⟩
theorem bootB_eq : bootB.data.toList = bootN := rfl
theorem readB_none (pd d c : Nat) (L : List Nat) (lf : Int) (F : Nat → Prop) (w : World) (h : Bk w pd 0 d L lf c F) : Calls Tryd.prog 26 #[.pointer (some ⟨pd, 0, none⟩), .string bootB] w fun e w' => e = .returned (.tuple #[.slice none 0 0, .int .i64 12]) ∧ w' = w := by
  obtain ⟨bF, bD, DF, DD, dn, G, h1, _, _⟩ := h.k
  exact read_none bootB pd c bF bD _ DF DD dn G w h1 boot_name (by simp [mdB, fsB, bootB_eq])
theorem readB_ok (pd f d c : Nat) (L : List Nat) (lf : Int) (F : Nat → Prop) (w : World) (h : Bk w pd f d L lf c F) (hf : f ≠ 0) : Calls Tryd.prog 26 #[.pointer (some ⟨pd, 0, none⟩), .string bootB] w fun e w' => ∃ z, e = .returned (.tuple #[z, .int .i64 0]) ∧ SlR w' z (decDigits f) ∧ Frs w z ∧ Below w.heap.size w w' := by
  obtain ⟨bF, bD, DF, DD, dn, G, h1, _, _⟩ := h.k
  exact read_ok bootB (decDigits f) pd c bF bD _ DF DD dn G w h1 boot_name (by simp [mdB, fsB, bootB_eq, hf]) (by have := dec_len f h.hf; omega)
theorem ref_boot (lf : Int) : refE [bootB] lf = if lf = 0 then 11 else 0 := by
  have : okNames [bootB] = true := by decide
  unfold refE
  rw [if_pos this]
theorem putB_cut (pd f d c n cap : Nat) (L : List Nat) (a : Option Addr) (F : Nat → Prop) (w : World) (h : Bk w pd f d L 0 c F) : Calls Tryd.prog 29 #[.pointer (some ⟨pd, 0, none⟩), .string bootB, .slice a n cap] w fun e w' => e = .returned (.int .i64 11) ∧ Below w.heap.size w w' := by
  obtain ⟨bF, bD, DF, DD, dn, G, h1, _, _⟩ := h.k
  have := put_bad bootB a n cap pd c bF bD _ DF DD dn G w h1 (by simp [mdB, ref_boot])
  simpa [mdB, ref_boot] using this
theorem putB_gen (pd f d c cap k : Nat) (L : List Nat) (lf : Int) (a : Option Addr) (w : World) (bF bD : Nat) (DF DD : DataW Value) (dn : Value) (G : List Gd) (h1 : DkR w pd (mdB f d L lf) c bF bD DF DD dn G) (hd : d ≤ 2199023255552) (hL : ∀ x ∈ L, 1 ≤ x ∧ x ≤ 2199023255552) (hlf : lf ≠ 0) (hk1 : 1 ≤ k) (hk : k ≤ 2199023255552) (hB : Bs w a (decDigits k)) (hroom : f ≠ 0 ∨ Maps.size DF = 0) (hc : c + 1 ≤ 4398046511104) :
    Calls Tryd.prog 29 #[.pointer (some ⟨pd, 0, none⟩), .string bootB, .slice a (decDigits k).length cap] w fun e w' => e = .returned (.int .i64 0) ∧ ∃ F', Bk w' pd k d (L ++ [k]) (lessOne lf) (c + 1) F' ∧ Fr w w' (Ft pd bF bD DF DD dn (G.map (·.z))) F' := by
  have hl := dec_len k hk
  have hr : refE [bootB] (mdB f d L lf).left = 0 := by simp [mdB, ref_boot, hlf]
  refine (put_ok bootB a cap (decDigits k) pd c bF bD _ DF DD dn G w h1 hr hB (fun e => ?_) ?_ hc).mono ?_
  · obtain ⟨b, off, e2, _⟩ := hB.2 (dec_ne k)
    rw [e] at e2; cases e2
  · unfold roomB
    have : decide (((decDigits k).length : Int) ≤ 1048576) = true := by simp; omega
    rw [this]
    rcases hroom with hf | hz
    · simp [mdB, fsB, bootB_eq, hf]
    · simp [hz]
  · rintro e w' ⟨rfl, DF', dn', G', g1, g2⟩
    refine ⟨rfl, _, ⟨⟨bF, bD, DF', DD, dn', G', ?_, rfl, .inl (by omega)⟩, hk, hd, fun x hx => ?_, (lastB_snoc L d k).symm⟩, g2⟩
    · have e : (⟨doD (.pt bootB.data.toList (decDigits k)) 1 (mdB f d L lf).files, (mdB f d L lf).dur, (mdB f d L lf).done ++ [(1, .pt bootB.data.toList (decDigits k))], lessOne (mdB f d L lf).left⟩ : Md) = mdB k d (L ++ [k]) (lessOne lf) := by
        simp only [mdB, bootB_eq, pt_fsB k 1 f hk1, List.map_append, List.map_cons, List.map_nil, ptB]
      rw [e] at g1
      exact g1
    · rcases List.mem_append.1 hx with hx | hx
      · exact hL x hx
      · rw [List.mem_singleton.1 hx]; exact ⟨hk1, hk⟩
theorem putB_ok (pd f d c cap k : Nat) (L : List Nat) (lf : Int) (a : Option Addr) (F : Nat → Prop) (w : World) (h : Bk w pd f d L lf c F) (hlf : lf ≠ 0) (hk1 : 1 ≤ k) (hk : k ≤ 2199023255552) (hB : Bs w a (decDigits k)) (hc : c + 1 ≤ 4398046511104) :
    Calls Tryd.prog 29 #[.pointer (some ⟨pd, 0, none⟩), .string bootB, .slice a (decDigits k).length cap] w fun e w' => e = .returned (.int .i64 0) ∧ ∃ F', Bk w' pd k d (L ++ [k]) (lessOne lf) (c + 1) F' ∧ Fr w w' F F' := by
  obtain ⟨bF, bD, DF, DD, dn, G, h1, rfl, hz⟩ := h.k
  exact putB_gen pd f d c cap k L lf a w bF bD DF DD dn G h1 h.hd h.hL hlf hk1 hk hB hz hc
theorem syncB_cut (pd f d c : Nat) (L : List Nat) (F : Nat → Prop) (w : World) (h : Bk w pd f d L 0 c F) : Calls Tryd.prog 30 #[.pointer (some ⟨pd, 0, none⟩)] w fun e w' => e = .returned (.int .i64 11) ∧ w' = w := by
  obtain ⟨bF, bD, DF, DD, dn, G, h1, _, _⟩ := h.k
  exact sync_cut pd c bF bD _ DF DD dn G w h1 rfl
theorem syncB_ok (pd f d c : Nat) (L : List Nat) (lf : Int) (F : Nat → Prop) (w : World) (h : Bk w pd f d L lf c F) (hlf : lf ≠ 0) (hc : c ≤ 2199023255552) : Calls Tryd.prog 30 #[.pointer (some ⟨pd, 0, none⟩)] w fun e w' => e = .returned (.int .i64 0) ∧ ∃ F', Bk w' pd f f [] (lessOne lf) c F' ∧ Fr w w' F F' := by
  obtain ⟨hb1, hb2⟩ := h.bds
  obtain ⟨bF, bD, DF, DD, dn, G, h1, rfl, hz⟩ := h.k
  refine (sync_ok pd c bF bD _ DF DD dn G w h1 hlf hb1 hb2 hc).mono ?_
  rintro e w' ⟨rfl, DD', g1, g2⟩
  refine ⟨rfl, _, ⟨⟨bF, bD, DF, DD', .slice none 0 0, [], ?_, rfl, hz⟩, h.hf, h.hf, fun x hx => (by cases hx), rfl⟩, g2⟩
  have e : rep (mdB f d L lf).done (mdB f d L lf).dur = fsB f := by
    show rep (L.map ptB) (fsB d) = _
    rw [rep_fsB L (fun x hx => (h.hL x hx).1), ← h.e]
  rw [e] at g1
  exact g1
end Go.Proofs.YtkienmncifonnaaDoor
