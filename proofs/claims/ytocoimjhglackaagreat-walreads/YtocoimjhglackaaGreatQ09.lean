/- Ddd, Ddk -/
import Derived.Test.YtocoimjhglackaaGreatQ08
import Derived.Maps.AppendAt
set_option maxHeartbeats 8000000
set_option maxRecDepth 100000
namespace Go.Proofs.YtocoimjhglackaaGreat
section
open Go.RowKit Go.Maps
def zS0 (w : World) (p : Nat) (n : Nm) : Prop := ∃ own : ByteArray, w.heap[p]? = some (.cells #[.string own] 9 (0, 0)) /\ own.data.toList = n /\ own.size <= maxLen
def yQ5 (w : World) (q : Nat) (d : List UInt8) (z : Value) : Prop := ∃ az zc, z = .slice az d.length zc /\ w.heap[q]? = some (.cells #[.slice az d.length zc] 22 (0, 0)) /\ SlR w (.slice az d.length zc) d /\ d.length <= 1048576
def zM0 (w : World) (f : Value) (x : Dd) (z : Value) : Prop :=
 match x with
 | .ap n d => ∃ p q, f = .func (.func 31) #[] #[.pointer (some ⟨p, 0, none⟩), .pointer (some ⟨q, 0, none⟩)] /\ zS0 w p n /\ yQ5 w q d z
 | .pt n d => ∃ p q, f = .func (.func 98) #[] #[.pointer (some ⟨q, 0, none⟩), .pointer (some ⟨p, 0, none⟩)] /\ zS0 w p n /\ yQ5 w q d z
 | .rm _ => False
 | .rn a b => ∃ p q, f = .func (.func 99) #[] #[.pointer (some ⟨p, 0, none⟩), .pointer (some ⟨q, 0, none⟩)] /\ zS0 w p a /\ zS0 w q b /\ z = .slice none 0 0
theorem zM0.z {w : World} {f : Value} {x : Dd} {z : Value} (h : zM0 w f x z) : ∃ l, SlR w z l := by
 cases x with
 | ap n d => obtain ⟨_, _, _, _, az, zc, rfl, _, h, _⟩ := h; exact ⟨d, h⟩
 | pt n d => obtain ⟨_, _, _, _, az, zc, rfl, _, h, _⟩ := h; exact ⟨d, h⟩
 | rm n => exact h.elim
 | rn a b => obtain ⟨_, _, _, _, _, rfl⟩ := h; exact ⟨[], SlR.nil w⟩
theorem zM0.kept {w w' : World} {f : Value} {x : Dd} {z : Value} (h : zM0 w f x z) (h1 : ∀ (k : Nat) (cs : Array Value) (t : TypeId), (t = 9 \/ t = 22) -> w.heap[k]? = some (Obj.cells cs t (0, 0)) -> w'.heap[k]? = w.heap[k]?) (h2 : ∀ l, SlR w z l -> SlR w' z l) : zM0 w' f x z := by
 have s1 : ∀ {p n}, zS0 w p n -> zS0 w' p n := fun ⟨own, a, b, c⟩ => ⟨own, (h1 _ _ 9 (.inl rfl) a).trans a, b, c⟩
 have s2 : ∀ {q d}, yQ5 w q d z -> yQ5 w' q d z := fun ⟨az, zc, a, b, c, e⟩ => ⟨az, zc, a, (h1 _ _ 22 (.inr rfl) b).trans b, a ▸ h2 _ (a ▸ c), e⟩
 cases x with
 | ap n d => obtain ⟨p, q, a, b, c⟩ := h; exact ⟨p, q, a, s1 b, s2 c⟩
 | pt n d => obtain ⟨p, q, a, b, c⟩ := h; exact ⟨p, q, a, s1 b, s2 c⟩
 | rm n => exact h.elim
 | rn a b => obtain ⟨p, q, a, b, c, e⟩ := h; exact ⟨p, q, a, s1 b, s1 c, e⟩
theorem App.cells {w w' : World} {b : Nat} {v v' : Value} (ha : App w w' (some b) v v') {l : List UInt8} (hv : SlR w v l) {es : Array MapEntry} {c : Nat} (hb : w.heap[b]? = some (.map es c)) {k : Nat} {cs : Array Value} {t : TypeId} {f : Nat × Nat} (ht : t ≠ 5) (hk : w.heap[k]? = some (.cells cs t f)) : w'.heap[k]? = w.heap[k]? :=
 ha.block k (zA4 hk) (fun e => by cases e; rw [hb] at hk; cases hk) (fun _ e => hv.ne_cells hk ht e.symm)
theorem zM0.app {w w' : World} {f : Value} {x : Dd} {z : Value} (h : zM0 w f x z) {b : Nat} {v v' : Value} (ha : App w w' (some b) v v') {l : List UInt8} (hv : SlR w v l) {n : Nat} {D : DataW Value} (hm : MapR w b n D) (hk : SepK v z) : zM0 w' f x z := by
 obtain ⟨es, c, hb⟩ := hm.obj
 exact h.kept (fun k cs t ht hk => ha.cells hv hb (by rcases ht with rfl | rfl <;> decide) hk) (fun _ hl => hl.appK ha (fun g e => by cases e; exact hl.ne_map hm) hk)
def sset {α : Type} (E : Bool -> Nm -> α) (s : Bool) (g : Nm -> α) : Bool -> Nm -> α := fun s' k => if s' = s then g k else E s' k
theorem xA3 {α : Type} (E : Bool -> Nm -> α) (s : Bool) (g : Nm -> α) (k : Nm) : sset E s g s k = g k := by simp [sset]
theorem zN9 {α : Type} {E : Bool -> Nm -> α} {s : Bool} {g h : Nm -> α} {n : Nm} {v : α} (hE : ∀ k, E s k = h k) (hg : ∀ k, g k = if k = n then v else h k) : sset E s g = eup E s n v := by
 funext s' k
 unfold sset eup
 by_cases e : s' = s
 · subst e
   rw [if_pos rfl, hg]
   by_cases e2 : k = n
   · rw [if_pos e2, if_pos ⟨rfl, e2⟩]
   · rw [if_neg e2, if_neg (fun x => e2 x.2), hE]
 · rw [if_neg e, if_neg (fun x => e x.1)]
def cOf (fs : FS) : Nm -> List UInt8 := fun k => (fs k).getD []
structure DPost (w w' : World) (s : Bool) (b n : Nat) (D : DataW Value) (E : Bool -> Nm -> Value) (C : Bool -> Nm -> List UInt8) (zs : List Value) (fs fs' : FS) : Prop where
 ex : ∃ D' v v', MapR w' b (n + 1) D' /\ (∀ k, Maps.has D' (.string k) = (fs' k).isSome) /\ Liv w' (sset E s (vAt D')) (sset C s (cOf fs')) zs /\ App w w' (some b) v v' /\ (v = .slice none 0 0 \/ ∃ k, v = vAt D k) /\
  ∀ k g, (vAt D' k).ownBlock = some g -> (∃ j, (vAt D j).ownBlock = some g) \/ (∃ z ∈ zs, z.ownBlock = some g) \/ w.heap.size <= g
theorem zH3 (fs : FS) (k j : Nm) (v : Option (List UInt8)) : (fup fs k v j).isSome = if j = k then v.isSome else (fs j).isSome := by
 unfold fup; split <;> rfl
theorem zT9 (fs : FS) (k j : Nm) (v : Option (List UInt8)) : cOf (fup fs k v) j = if j = k then v.getD [] else cOf fs j := by
 unfold cOf fup; split <;> rfl
section
variable {w : World} {s : Bool} {b n : Nat} {D : DataW Value} {E : Bool -> Nm -> Value} {C : Bool -> Nm -> List UInt8} {zs : List Value} {fs : FS}
theorem yV4 (hm : MapR w b n D) (hn : n < maxLen) (hE : ∀ k, E s k = vAt D k) (hC : ∀ k, C s k = cOf fs k) (hh : ∀ k, Maps.has D (.string k) = (fs k).isSome) (hL : Liv w E C zs) (hzs : ∀ z ∈ zs, ∃ l, SlR w z l) {nm d : List UInt8} {p q : Nat} {z : Value} (h1 : zS0 w p nm) (h2 : yQ5 w q d z) (u : Nat) (hu : u <= 1099511627776) (hl : (cOf fs nm).length <= 1048576) :
    Calls Tryz.prog 31 #[.map (some b), .int .i64 (u : Int), .pointer (some ⟨p, 0, none⟩), .pointer (some ⟨q, 0, none⟩)] w fun e w' => e = .returned (.tuple #[]) /\ DPost w w' s b n D E C zs fs (doD (.ap nm d) u fs) := by
 obtain ⟨own, a1, rfl, a3⟩ := h1
 obtain ⟨az, zc, rfl, b2, b3, b4⟩ := h2
 have hr : SlR w (vAt D own.data.toList) (cOf fs own.data.toList) := by have := hL.r s own.data.toList; rw [hE, hC] at this; exact this
 refine (kC1 b n p q D own az zc u (cOf fs own.data.toList) d w hm hn a1 a3 b2 hr b3 (by omega) hu).mono ?_
 rintro e w' ⟨rfl, x', c1, c2, c3⟩
 refine ⟨rfl, ⟨_, _, _, c2, fun k => ?_, ?_, c3, .inr ⟨_, rfl⟩, fun k g hg2 => ?_⟩⟩
 · rw [zZ6 hm.isMap, hh, doD, zH3]
   by_cases e : k = own.data.toList <;> simp [e]
 · rw [zN9 hE (fun k => zP1 hm.isMap _ k _), zN9 hC (fun k => by rw [doD, zT9])]
   have := hL.grow (s := s) (k := own.data.toList) (v' := x') (l' := (some (cOf fs own.data.toList ++ d.take u)).getD []) (by rw [hE]; exact c3) (fun s k => (hL.r s k).ne_map hm) c1 hzs
   exact this
 · rw [zP1 hm.isMap] at hg2
   by_cases e : k = own.data.toList
   · rw [if_pos e] at hg2
     rcases c3.new with ⟨e1, e2, e3⟩ | ⟨j, e1, e2⟩
     · exact .inl ⟨own.data.toList, e1 ▸ hg2⟩
     · rw [e1] at hg2; cases hg2; exact .inr (.inr e2)
   · rw [if_neg e] at hg2
     exact .inl ⟨k, hg2⟩
theorem yT8 {w' : World} (ha : App w w' (some b) (.slice none 0 0) (.slice none 0 0)) (hm : MapR w b n D) (hL : Liv w E C zs) : Liv w' E C zs :=
 hL.kept fun s k g hg => ha.block g ((hL.r s k).lt g hg) (fun e => (hL.r s k).ne_map hm (by rw [hg, e])) (fun h => absurd h zT1)
theorem yS6 (hm : MapR w b n D) (hn : n < maxLen) (hE : ∀ k, E s k = vAt D k) (hC : ∀ k, C s k = cOf fs k) (hh : ∀ k, Maps.has D (.string k) = (fs k).isSome) (hL : Liv w E C zs) {nm d : List UInt8} {p q : Nat} {z : Value} (hz : z ∈ zs) (h1 : zS0 w p nm) (h2 : yQ5 w q d z) (u : Nat) :
    Calls Tryz.prog 98 #[.map (some b), .int .i64 (u : Int), .pointer (some ⟨q, 0, none⟩), .pointer (some ⟨p, 0, none⟩)] w fun e w' => e = .returned (.tuple #[]) /\ DPost w w' s b n D E C zs fs (doD (.pt nm d) u fs) := by
 obtain ⟨own, a1, rfl, a3⟩ := h1
 obtain ⟨az, zc, rfl, b2, b3, b4⟩ := h2
 refine (xY4 b n q p D own az zc u d w hm hn b2 a3 a1 b3).mono ?_
 rintro e w' ⟨rfl, c2, c3⟩
 have hb3 : SlR w' (.slice az d.length zc) d := b3.kept fun k hk => c3.block k (b3.lt k hk) (fun e => b3.ne_map hm (by rw [hk, e])) (fun h => absurd h zT1)
 refine ⟨rfl, ⟨_, _, _, c2, fun k => ?_, ?_, c3, .inl rfl, fun k g hg2 => ?_⟩⟩
 · rw [zZ6 hm.isMap, hh, doD, zH3]
   by_cases e : k = own.data.toList <;> simp [e]
 · rw [zN9 hE (fun k => zP1 hm.isMap _ k _), zN9 hC (fun k => by rw [doD, zT9])]
   have hk := yT8 c3 hm hL
   refine hk.put hk.r hb3.clip (zL7 (.slice az d.length zc)) (fun s' k' _ g e1 e2 e3 => ?_)
   have e2' : (Value.slice az d.length zc).ownBlock = some g := by rw [<- zN2]; exact e2
   exact absurd e3 (hL.kz s' k' _ hz g e1 e2')
 · rw [zP1 hm.isMap] at hg2
   by_cases e : k = own.data.toList
   · rw [if_pos e] at hg2
     exact .inr (.inl ⟨_, hz, by rw [<- zN2]; exact hg2⟩)
   · rw [if_neg e] at hg2
     exact .inl ⟨k, hg2⟩
theorem yS2 (hm : MapR w b n D) (hn : n < maxLen) (hE : ∀ k, E s k = vAt D k) (hC : ∀ k, C s k = cOf fs k) (hh : ∀ k, Maps.has D (.string k) = (fs k).isSome) (hL : Liv w E C zs) {na nb : List UInt8} {p q : Nat} (h1 : zS0 w p na) (h2 : zS0 w q nb) (u : Nat) :
    Calls Tryz.prog 99 #[.map (some b), .int .i64 (u : Int), .pointer (some ⟨p, 0, none⟩), .pointer (some ⟨q, 0, none⟩)] w fun e w' => e = .returned (.tuple #[]) /\ DPost w w' s b n D E C zs fs (doD (.rn na nb) u fs) := by
 obtain ⟨own, a1, rfl, a3⟩ := h1
 obtain ⟨own2, b1, rfl, b3⟩ := h2
 refine (xY0 b n p q D own own2 u w hm hn a1 a3 b1 b3).mono ?_
 rintro e w' ⟨rfl, c2, c3⟩
 have hdm : IsMap (D.del (.string own.data.toList)) := hm.isMap.del _
 refine ⟨rfl, ⟨_, _, _, c2, fun k => ?_, ?_, c3, .inl rfl, fun k g hg2 => ?_⟩⟩
 · rw [zZ6 hdm, xU0, hh, doD, zH3, zH3]
   by_cases e : k = own2.data.toList
   · simp [e]
   · by_cases e2 : k = own.data.toList <;> simp [e, e2]
 · have e1 : sset E s (vAt ((D.del (.string own.data.toList)).put (.string own2.data.toList) (.held (vAt D own.data.toList)))) = eup (eup E s own.data.toList (.slice none 0 0)) s own2.data.toList (E s own.data.toList) := by
     rw [hE]
     rw [<- zN9 hE (fun k => yZ3 D own.data.toList k)]
     rw [<- zN9 (g := vAt ((D.del (.string own.data.toList)).put (.string own2.data.toList) (.held (vAt D own.data.toList)))) (fun k => xA3 E s _ k) (fun k => zP1 hdm _ k _)]
     funext s' k
     unfold sset
     split <;> rfl
   have e2 : sset C s (cOf (doD (.rn own.data.toList own2.data.toList) u fs)) = eup (eup C s own.data.toList []) s own2.data.toList (C s own.data.toList) := by
    rw [hC]
    funext s' k
    unfold sset eup
    by_cases e : s' = s
    · subst e
      rw [if_pos rfl, doD, zT9, zT9]
      by_cases e2 : k = own2.data.toList
      · simp [e2, cOf]
      · by_cases e3 : k = own.data.toList
        · simp [e3, cOf]
        · simp [e2, e3, hC]
    · rw [if_neg e, if_neg (fun x => e x.1), if_neg (fun x => e x.1)]
   rw [e1, e2]
   exact (yT8 c3 hm hL).move s own.data.toList own2.data.toList
 · rw [zP1 hdm] at hg2
   by_cases e : k = own2.data.toList
   · rw [if_pos e] at hg2
     exact .inl ⟨_, hg2⟩
   · rw [if_neg e, yZ3] at hg2
     by_cases e2 : k = own.data.toList
     · rw [if_pos e2] at hg2
       cases hg2
     · rw [if_neg e2] at hg2
       exact .inl ⟨k, hg2⟩
end
end
section
open Go.RowKit Go.Maps
structure Md where
 files : FS
 dur : FS
 done : List (Nat × Dd)
 left : Int
structure Gd where
 u : Nat
 x : Dd
 f : Value
 z : Value
def rowL (G : List Gd) : List Value := G.flatMap fun g => [.int .i64 (g.u : Int), g.f]
theorem zP3 (G : List Gd) (g : Gd) : rowL (G ++ [g]) = rowL G ++ [.int .i64 (g.u : Int), g.f] := by simp [rowL]
theorem mapz (G : List Gd) (g : Gd) : (G ++ [g]).map (·.z) = G.map (·.z) ++ [g.z] := by simp
theorem xI1 (G : List Gd) : ∀ i g, G[i]? = some g -> (rowL G)[i * 2]? = some (.int .i64 (g.u : Int)) /\ (rowL G)[i * 2 + 1]? = some g.f := by
 induction G with
 | nil => intro i g h; simp at h
 | cons a G ih =>
  intro i g h
  have e : rowL (a :: G) = [.int .i64 (a.u : Int), a.f] ++ rowL G := by simp [rowL]
  cases i with
  | zero => simp at h; subst h; simp [e]
  | succ i =>
   have := ih i g (by simpa using h)
   rw [e, List.getElem?_append_right (by simp; omega), List.getElem?_append_right (by simp; omega)]
   simp only [List.length_cons, List.length_nil]
   rw [show (i + 1) * 2 - (0 + 1 + 1) = i * 2 by omega, show (i + 1) * 2 + 1 - (0 + 1 + 1) = i * 2 + 1 by omega]
   exact this
def entE (DF DD : DataW Value) : Bool -> Nm -> Value := fun s => vAt (if s then DD else DF)
def entC (F D : FS) : Bool -> Nm -> List UInt8 := fun s => cOf (if s then D else F)
structure DkR (w : World) (p : Nat) (M : Md) (cnt bF bD : Nat) (DF DD : DataW Value) (dn : Value) (G : List Gd) : Prop where
 blk : DskB w p bF bD dn M.left
 mF : ∃ n, n <= cnt /\ MapR w bF n DF
 mD : ∃ n, n + G.length <= cnt /\ MapR w bD n DD
 ne : bF ≠ bD
 hF : ∀ k, Maps.has DF (.string k) = (M.files k).isSome
 hD : ∀ k, Maps.has DD (.string k) = (M.dur k).isSome
 liv : Liv w (entE DF DD) (entC M.files M.dur) (G.map (·.z))
 row : w.ownsRow 0 123 2 dn G.length (rowL G)
 done : M.done = G.map fun g => (g.u, g.x)
 deed : ∀ g ∈ G, zM0 w g.f g.x g.z
 leb : -1 <= M.left /\ M.left <= 1099511627776
 cn : cnt <= 4398046511104
def Ft (p bF bD : Nat) (DF DD : DataW Value) (dn : Value) (Z : List Value) : Nat -> Prop := fun k => k = p \/ k = bF \/ k = bD \/ dn.ownBlock = some k \/ (∃ s n, (entE DF DD s n).ownBlock = some k) \/ ∃ z ∈ Z, z.ownBlock = some k
theorem Ft.one {p bF bD : Nat} {DF DD : DataW Value} {dn z : Value} {Z : List Value} {k : Nat} (h : Ft p bF bD DF DD dn (Z ++ [z]) k) : Ft p bF bD DF DD dn Z k \/ z.ownBlock = some k := by
 rcases h with e | e | e | e | e | ⟨y, e, e'⟩
 · exact .inl (.inl e)
 · exact .inl (.inr (.inl e))
 · exact .inl (.inr (.inr (.inl e)))
 · exact .inl (.inr (.inr (.inr (.inl e))))
 · exact .inl (.inr (.inr (.inr (.inr (.inl e)))))
 · rcases List.mem_append.1 e with e | e
   · exact .inl (.inr (.inr (.inr (.inr (.inr ⟨y, e, e'⟩)))))
   · rw [List.mem_singleton.1 e] at e'
     exact .inr e'
structure Fr (w w' : World) (F F' : Nat -> Prop) : Prop where
 os : w'.os = w.os
 tape : w'.tape = w.tape
 output : w'.output = w.output
 size : w.heap.size <= w'.heap.size
 block : ∀ k, k < w.heap.size -> ¬ F k -> w'.heap[k]? = w.heap[k]?
 foot : ∀ k, F' k -> F k \/ w.heap.size <= k
theorem Fr.refl (w : World) (F : Nat -> Prop) : Fr w w F F := ⟨rfl, rfl, rfl, Nat.le_refl _, fun _ _ _ => rfl, fun _ h => .inl h⟩
theorem Fr.trans {a b c : World} {F F1 F2 : Nat -> Prop} (h : Fr a b F F1) (k : Fr b c F1 F2) : Fr a c F F2 := by
 refine ⟨k.os.trans h.os, k.tape.trans h.tape, k.output.trans h.output, Nat.le_trans h.size k.size, fun i hi hF => ?_, fun i hi => ?_⟩
 · refine (k.block i (Nat.lt_of_lt_of_le hi h.size) (fun e => ?_)).trans (h.block i hi hF)
   rcases h.foot i e with e | e
   · exact hF e
   · omega
 · rcases k.foot i hi with e | e
   · exact h.foot i e
   · exact .inr (Nat.le_trans h.size e)
theorem Fr.of_below {a b : World} {F : Nat -> Prop} (h : Below a.heap.size a b) : Fr a b F F := ⟨h.os, h.tape, h.output, h.size, fun k hk _ => h.block k hk, fun _ h => .inl h⟩
theorem Fr.below {a b : World} {F F' : Nat -> Prop} (h : Fr a b F F') {B : Nat} (hB : B <= a.heap.size) (hF : ∀ k, F k -> B <= k) : Below B a b :=
 ⟨h.os, h.tape, h.output, h.size, fun k hk => h.block k (by omega) (fun e => by have := hF k e; omega)⟩
theorem Fr.above {a b : World} {F F' : Nat -> Prop} (h : Fr a b F F') {B : Nat} (hB : B <= a.heap.size) (hF : ∀ k, F k -> B <= k) : ∀ k, F' k -> B <= k := fun k hk => by
 rcases h.foot k hk with e | e
 · exact hF k e
 · omega
theorem Fr.fresh {a b c : World} {p bF bD : Nat} {DF DD : DataW Value} {dn z : Value} {Z : List Value} {F' : Nat -> Prop} (h : Below a.heap.size a b) (hz : ∀ k, z.ownBlock = some k -> a.heap.size <= k) (k : Fr b c (Ft p bF bD DF DD dn (Z ++ [z])) F') : Fr a c (Ft p bF bD DF DD dn Z) F' := by
 refine ⟨k.os.trans h.os, k.tape.trans h.tape, k.output.trans h.output, Nat.le_trans h.size k.size, fun i hi hF => ?_, fun i hi => ?_⟩
 · refine (k.block i (Nat.lt_of_lt_of_le hi h.size) (fun e => ?_)).trans (h.block i hi)
   rcases e.one with e | e
   · exact hF e
   · have := hz i e; omega
 · rcases k.foot i hi with e | e
   · rcases e.one with e | e
     · exact .inl e
     · exact .inr (hz i e)
   · exact .inr (Nat.le_trans h.size e)
def okT : Obj -> Prop
 | .map _ _ => True
 | .cells _ t f => (t = 5 \/ t = 9 \/ t = 22) /\ f = (0, 0)
 | _ => False
def yB8 (w w' : World) : Prop := ∀ (k : Nat) (o : Obj), w.heap[k]? = some o -> okT o -> w'.heap[k]? = w.heap[k]?
theorem MapR.keepT {w w' : World} {b n : Nat} {D : DataW Value} (h : MapR w b n D) (k : yB8 w w') : MapR w' b n D := by
 obtain ⟨es, c, hb⟩ := h.obj
 exact h.kept (k b _ hb trivial)
theorem SlR.keepT {w w' : World} {v : Value} {l : List UInt8} (h : SlR w v l) (k : yB8 w w') : SlR w' v l := by
 refine h.kept fun g hg => ?_
 rcases h with ⟨rfl, _⟩ | ⟨g', cap, cur, rfl, hg', _⟩
 · cases hg
 · cases hg
   exact k _ _ hg' ⟨.inl rfl, rfl⟩
theorem Liv.keepT {w w' : World} {E : Bool -> Nm -> Value} {C : Bool -> Nm -> List UInt8} {Z : List Value} (h : Liv w E C Z) (k : yB8 w w') : Liv w' E C Z := ⟨fun s n => (h.r s n).keepT k, h.sep, h.kz⟩
theorem zM0.keepT {w w' : World} {f : Value} {x : Dd} {z : Value} (h : zM0 w f x z) (k : yB8 w w') : zM0 w' f x z :=
 h.kept (fun i cs t ht hi => k i _ hi ⟨by rcases ht with rfl | rfl <;> simp, rfl⟩) (fun _ hl => hl.keepT k)
theorem yB8.below {w w' : World} (h : Below w.heap.size w w') : yB8 w w' := fun k _ hk _ => h.block k (zA4 hk)
structure Tch (w w' : World) (p : Nat) (r : Option Nat) : Prop where
 os : w'.os = w.os
 tape : w'.tape = w.tape
 output : w'.output = w.output
 size : w.heap.size <= w'.heap.size
 block : ∀ k, k < w.heap.size -> k ≠ p -> some k ≠ r -> w'.heap[k]? = w.heap[k]?
theorem Tch.trans {a b c : World} {p : Nat} {r : Option Nat} (h : Tch a b p r) (k : Tch b c p r) : Tch a c p r :=
 ⟨k.os.trans h.os, k.tape.trans h.tape, k.output.trans h.output, Nat.le_trans h.size k.size, fun i hi h1 h2 => (k.block i (Nat.lt_of_lt_of_le hi h.size) h1 h2).trans (h.block i hi h1 h2)⟩
theorem Tch.of_below {a b : World} {p : Nat} {r : Option Nat} (h : Below a.heap.size a b) : Tch a b p r := ⟨h.os, h.tape, h.output, h.size, fun k hk _ _ => h.block k hk⟩
theorem Tch.of_grown {a b : World} {p : Nat} {r : Option Nat} (h : a.grownBy b r) : Tch a b p r := ⟨h.os, h.tape, h.output, h.size, fun k hk _ h2 => h.block k hk h2⟩
theorem Tch.setp (a : World) (p : Nat) (r : Option Nat) (j : Nat) (u : Value) : Tch a (a.setCell ⟨p, j, none⟩ u) p r := ⟨rfl, rfl, rfl, by simp, fun k _ hk _ => Below.heap_setCell a ⟨p, j, none⟩ u k hk⟩
theorem Tch.keepT {w w' : World} {p bF bD : Nat} {dn : Value} {left : Int} {G : List Gd} (h : Tch w w' p dn.ownBlock) (hb : DskB w p bF bD dn left) (hr : w.ownsRow 0 123 2 dn G.length (rowL G)) : yB8 w w' := by
 intro k o hk ho
 refine h.block k (zA4 hk) (fun e => ?_) (fun e => ?_)
 · subst e
   have hb' : w.heap[k]? = _ := hb
   rw [hb'] at hk
   cases hk
   obtain ⟨h1, _⟩ := ho
   revert h1; decide
 · rcases hr.2 with ⟨rfl, _⟩ | ⟨g, cap, cur, rfl, _, h4, _⟩
   · cases e
   · cases e
     rw [h4] at hk
     cases hk
     obtain ⟨h1, _⟩ := ho
     revert h1; decide
theorem zD0 {w w' : World} {v : Value} {e n s : Nat} {xs : List Value} (h : w.ownsRow 0 e s v n xs) (hb : ∀ k, v.ownBlock = some k -> w'.heap[k]? = w.heap[k]?) : w'.ownsRow 0 e s v n xs := by
 refine ⟨h.1, ?_⟩
 rcases h.2 with h2 | ⟨g, cap, cur, rfl, h3, h4, h5⟩
 · exact .inl h2
 · exact .inr ⟨g, cap, cur, rfl, h3, (hb g rfl).trans h4, h5⟩
theorem zE8 {w : World} {v : Value} {e n s : Nat} {xs : List Value} (h : w.ownsRow 0 e s v n xs) {k : Nat} (hk : v.ownBlock = some k) : ∃ cur, w.heap[k]? = some (.cells cur e (0, 0)) := by
 rcases h.2 with ⟨rfl, _⟩ | ⟨g, cap, cur, rfl, h3, h4, h5⟩
 · cases hk
 · cases hk; exact ⟨cur, h4⟩
theorem DkR.rowNe {w : World} {p : Nat} {M : Md} {cnt bF bD : Nat} {DF DD : DataW Value} {dn : Value} {G : List Gd} (h : DkR w p M cnt bF bD DF DD dn G) : dn.ownBlock ≠ some p := by
 intro e
 obtain ⟨cur, hc⟩ := zE8 h.row e
 have hb : w.heap[p]? = _ := h.blk
 rw [hb] at hc
 cases hc
theorem DkR.below {w w' : World} {p : Nat} {M : Md} {cnt bF bD : Nat} {DF DD : DataW Value} {dn : Value} {G : List Gd} (h : DkR w p M cnt bF bD DF DD dn G) (hb : Below w.heap.size w w') : DkR w' p M cnt bF bD DF DD dn G := by
 have kt := yB8.below hb
 obtain ⟨n, hn, hm⟩ := h.mF
 obtain ⟨n', hn', hm'⟩ := h.mD
 exact ⟨(hb.block p h.blk.lt).trans h.blk, ⟨n, hn, hm.keepT kt⟩, ⟨n', hn', hm'.keepT kt⟩, h.ne, h.hF, h.hD, h.liv.keepT kt, zD0 h.row (fun k hk => hb.block k (by obtain ⟨cur, hc⟩ := zE8 h.row hk; exact zA4 hc)), h.done, fun g hg => (h.deed g hg).keepT kt, h.leb, h.cn⟩
def DkS (w : World) (p : Nat) (M : Md) (cnt : Nat) (F : Nat -> Prop) : Prop := ∃ bF bD DF DD dn G, DkR w p M cnt bF bD DF DD dn G /\ F = Ft p bF bD DF DD dn (G.map (·.z))
theorem DkS.below {w w' : World} {p : Nat} {M : Md} {cnt : Nat} {F : Nat -> Prop} (h : DkS w p M cnt F) (hb : Below w.heap.size w w') : DkS w' p M cnt F := by
 obtain ⟨bF, bD, DF, DD, dn, G, h1, h2⟩ := h
 exact ⟨bF, bD, DF, DD, dn, G, h1.below hb, h2⟩
end
end Go.Proofs.YtocoimjhglackaaGreat
