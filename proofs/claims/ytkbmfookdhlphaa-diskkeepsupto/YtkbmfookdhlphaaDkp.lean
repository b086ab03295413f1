/- A disk beside a list of texts that grows: what each leaves of the other. -/
import Derived.Test.YtkbmfookdhlphaaDcst
namespace Go.Proofs.Ytkbmfookdhlphaa
open Go.RowKit Go.Maps Go.Sort

/- what the disk looks at: anything but rows of several texts -/
def okD : Obj → Prop
  | .cells cs t _ => t = 9 → cs.size = 1
  | _ => True
structure KpO (w w' : World) : Prop where
  os : w'.os = w.os
  tape : w'.tape = w.tape
  output : w'.output = w.output
  size : w.heap.size ≤ w'.heap.size
  block : ∀ (k : Nat) (o : Obj), w.heap[k]? = some o → okD o → w'.heap[k]? = w.heap[k]?
theorem DeedR.kept1 {w w' : World} {f : Value} {x : Dd} {z : Value} (h : DeedR w f x z) (h1 : ∀ (k : Nat) (o : Obj), w.heap[k]? = some o → okD o → w'.heap[k]? = w.heap[k]?) (h2 : ∀ l, SlR w z l → SlR w' z l) : DeedR w' f x z := by
  have s1 : ∀ {p n}, strAt w p n → strAt w' p n := fun ⟨own, a, b, c⟩ => ⟨own, (h1 _ _ a (fun _ => rfl)).trans a, b, c⟩
  have s2 : ∀ {q d}, bytAt w q d z → bytAt w' q d z := fun ⟨az, zc, a, b, c, e⟩ => ⟨az, zc, a, (h1 _ _ b (fun e => by cases e)).trans b, a ▸ h2 _ (a ▸ c), e⟩
  cases x with
  | ap n d => obtain ⟨p, q, a, b, c⟩ := h; exact ⟨p, q, a, s1 b, s2 c⟩
  | pt n d => obtain ⟨p, q, a, b, c⟩ := h; exact ⟨p, q, a, s1 b, s2 c⟩
  | rm n => obtain ⟨p, a, b, c⟩ := h; exact ⟨p, a, s1 b, c⟩
  | rn a b => obtain ⟨p, q, a, b, c, e⟩ := h; exact ⟨p, q, a, s1 b, s1 c, e⟩
theorem SlR.kept1 {w w' : World} {v : Value} {l : List UInt8} (h : SlR w v l) (k : KpO w w') : SlR w' v l := by
  refine h.kept fun g hg => ?_
  rcases h with ⟨rfl, _⟩ | ⟨g', cap, cur, rfl, hg', _⟩
  · cases hg
  · cases hg
    exact k.block _ _ hg' (fun e => by cases e)
theorem MapR.kept1 {w w' : World} {b n : Nat} {D : DataW Value} (h : MapR w b n D) (k : KpO w w') : MapR w' b n D := by
  obtain ⟨es, c, hb⟩ := h.obj
  exact h.kept (k.block b _ hb trivial)
theorem Dsk.kp {w w' : World} {p : Nat} {M : Md} {cnt : Nat} {F : Nat → Prop} (h : Dsk w p M cnt F) (k : KpO w w') : Dsk w' p M cnt F := by
  obtain ⟨⟨bF, bD, DF, DD, dn, G, h, rfl⟩, h2⟩ := h
  refine ⟨⟨bF, bD, DF, DD, dn, G, ?_, rfl⟩, h2⟩
  obtain ⟨n, hn, hm⟩ := h.mF
  obtain ⟨n', hn', hm'⟩ := h.mD
  have hb : w.heap[p]? = _ := h.blk
  exact ⟨(k.block p _ hb (fun e => by cases e)).trans hb, ⟨n, hn, hm.kept1 k⟩, ⟨n', hn', hm'.kept1 k⟩, h.ne, h.hF, h.hD, ⟨fun s n => (h.liv.r s n).kept1 k, h.liv.sep, h.liv.kz⟩, ownsRow_kept h.row (fun i hi => by obtain ⟨cur, hc⟩ := ownsRow_blk h.row hi; exact k.block i _ hc (fun e => by cases e)), h.done, fun g hg => (h.deed g hg).kept1 k.block (fun _ hl => hl.kept1 k), h.leb, h.cn⟩
/- a disk writes no rows of texts and no steps -/
theorem Dsk.notF {w : World} {p : Nat} {M : Md} {cnt : Nat} {F : Nat → Prop} (h : Dsk w p M cnt F) {g : Nat} {cur : Array Value} {t : TypeId} {f : Nat × Nat} (ht : t = 9 ∨ t = 31) (hg : w.heap[g]? = some (.cells cur t f)) : ¬ F g := by
  obtain ⟨⟨bF, bD, DF, DD, dn, G, h, rfl⟩, _⟩ := h
  rintro (e | e | e | e | ⟨s, n, _, e⟩)
  · subst e
    have hb : w.heap[g]? = _ := h.blk
    rw [hb] at hg
    cases hg
    rcases ht with e | e <;> cases e
  · subst e
    obtain ⟨n, _, hm⟩ := h.mF
    obtain ⟨es, c, hb⟩ := hm.obj
    rw [hb] at hg
    cases hg
  · subst e
    obtain ⟨n, _, hm⟩ := h.mD
    obtain ⟨es, c, hb⟩ := hm.obj
    rw [hb] at hg
    cases hg
  · obtain ⟨cur', hc⟩ := ownsRow_blk h.row e
    rw [hc] at hg
    cases hg
    rcases ht with e | e <;> cases e
  · exact (h.liv.r s n).ne_cells hg (by rcases ht with rfl | rfl <;> decide) e

theorem Try.info9 : (Try.prog.info? 9).map (fun i => (i.zero, i.size, i.bytes)) = some (some (.string .empty), 1, 16) := by kernel_rfl
/- a text at the end of a list of texts -/
theorem append_str (w : World) (B : Nat) (hB : B ≤ w.heap.size) (ty : TypeId) (v : Value) (S : List ByteArray) (hown : w.ownsRow B 9 1 v S.length (S.map Value.string)) (hnil : S = [] → v = .slice none 0 0) (a : Addr) (c : Nat) (T : ByteArray) (hT : w.cell? (a.add 0) = some (.string T)) (hlen : S.length + 1 ≤ 68719476736) :
    ∃ v' w', (Builtin.append_ #[34, 34] ty #[v, .slice (some a) 1 c]).run Try.prog w = .ok v' w' ∧ w'.ownsRow B 9 1 v' (S ++ [T]).length ((S ++ [T]).map Value.string) ∧ KpO w w' ∧ Below B w w' ∧ ∀ (k : Nat) (cs : Array Value) (f : Nat × Nat), w.heap[k]? = some (Obj.cells cs 31 f) → w'.heap[k]? = w.heap[k]? := by
  obtain ⟨i, hi, hz0, hz1, hz2⟩ := info_parts Try.info9
  have hn1 : ∀ (j : Nat) (u : Value), [Value.string T][j]? = some u → w.cell? (a.add j) = some u := by
    intro j u hj
    cases j with
    | zero => cases hj; exact hT
    | succ j => simp at hj
  obtain ⟨v', w', hr, h2, h3, _⟩ := run_append_own (P := Try.prog) w B 34 ty 9 i _ 1 16 Try.underlying34 hi hz0 hz1 hz2 rfl (by omega) v S.length (S.map Value.string) hown a 1 c [.string T] rfl hn1 (by simp [Value.oneCell']) (by unfold maxLen; omega) (by omega) hB
  refine ⟨v', w', hr, ?_, ?_, ?_, ?_⟩
  · simpa using h2
  · refine ⟨h3.os, h3.tape, h3.output, h3.size, fun k o hk ho => ?_⟩
    by_cases hv : v.ownBlock = some k
    · rcases hown.2 with ⟨rfl, _⟩ | ⟨g, cap, cur, rfl, hbg, hg, hnc, hcm, hcs, htake⟩
      · cases hv
      · cases hv
        have hS : 1 ≤ S.length := by
          cases S with
          | nil => exact absurd (hnil rfl) (by simp)
          | cons x S => simp
        by_cases hroom : S.length + 1 ≤ cap
        · rw [hg] at hk
          cases hk
          have h9 : cur.size = 1 := ho rfl
          omega
        · have h := run_append_grow (P := Try.prog) w 34 ty 9 i _ Try.underlying34 hi hz0 ⟨g, 0, none⟩ S.length cap (S.map Value.string) (by rw [hown.1, hz1]) (hown.cells (g := g) rfl) a 1 c [.string T] (by rw [hz1]; rfl) hn1 (by omega) (by omega) (by rw [hz2]; exact growslice_fits (by omega) (by omega))
          rw [h] at hr
          cases hr
          exact Below.heap_alloc w.drew _ g (heap_lt hk)
    · exact h3.block k (heap_lt hk) (fun e => hv e.symm)
  · refine ⟨h3.os, h3.tape, h3.output, h3.size, fun k hk => h3.block k (by omega) (fun e => ?_)⟩
    rcases hown.2 with ⟨rfl, _⟩ | ⟨g, cap, cur, rfl, hbg, _⟩
    · cases e
    · have e2 : k = g := Option.some.inj e
      omega
  · intro k cs f hk
    refine h3.block k (heap_lt hk) (fun e => ?_)
    rcases hown.2 with ⟨rfl, _⟩ | ⟨g, cap, cur, rfl, hbg, hg, _⟩
    · cases e
    · cases e; rw [hg] at hk; cases hk
theorem wpList_append_str {ops : Array Oper} {rest : List Oper} {o : Oper} {a : Act} {Q : Exit → Act → World → Prop} (w : World) (hgd : o.guard = none) (s x : Operand)
    (ho : o.op = .call { callee := .builtin .append, args := #[s, x], argTypes := #[34, 34] }) (B : Nat) (hB : B ≤ w.heap.size) (v : Value) (S : List ByteArray) (hs : a.eval s = v) (hown : w.ownsRow B 9 1 v S.length (S.map Value.string)) (hnil : S = [] → v = .slice none 0 0)
    (ad : Addr) (c : Nat) (hx : a.eval x = .slice (some ad) 1 c) (T : ByteArray) (hT : w.cell? (ad.add 0) = some (.string T)) (hlen : S.length + 1 ≤ 68719476736)
    (h : ∀ v' w', w'.ownsRow B 9 1 v' (S ++ [T]).length ((S ++ [T]).map Value.string) → KpO w w' → Below B w w' → (∀ (k : Nat) (cs : Array Value) (f : Nat × Nat), w.heap[k]? = some (Obj.cells cs 31 f) → w'.heap[k]? = w.heap[k]?) → wpList Try.prog ops Q rest (a.put o.dst v') w') : wpList Try.prog ops Q (o :: rest) a w := by
  refine wpList_plain hgd fun K hK => ?_
  obtain ⟨v', w', hr, h2, h3, h4, h5⟩ := append_str w B hB o.type v S hown hnil ad c T hT hlen
  unfold Oper.wp execOp
  simp only [ho, resolve, invoke, builtin, Sem.run_bind, Sem.run_pure, Result.andThen_ok, List.map_toArray, List.map_cons, List.map_nil, hs, hx, hr]
  exact hK _ _ (h v' w' h2 h3 h4 h5)

/- a disk, a list of texts, a step -/
def Kst (w wr : World) (p : Nat) (M : Md) (cnt : Nat) (v : Value) (S : List ByteArray) : Prop := Cst w wr p M cnt ∧ wr.ownsRow w.heap.size 9 1 v S.length (S.map Value.string) ∧ (S = [] → v = .slice none 0 0)
def K31 (a b : World) : Prop := ∀ (k : Nat) (cs : Array Value) (f : Nat × Nat), a.heap[k]? = some (.cells cs 31 f) → b.heap[k]? = a.heap[k]?
theorem K31.at {a b : World} (h : K31 a b) {k : Nat} {cs : Array Value} {f : Nat × Nat} (hk : a.heap[k]? = some (.cells cs 31 f)) : b.heap[k]? = some (.cells cs 31 f) := (h k cs f hk).trans hk
theorem K31.below {a b : World} (h : Below a.heap.size a b) : K31 a b := fun k _ _ hk => h.block k (heap_lt hk)
theorem row_at {w w' : World} {B : Nat} {v : Value} {S : List ByteArray} (h : w.ownsRow B 9 1 v S.length (S.map Value.string)) (hb : ∀ k, v.ownBlock = some k → w'.heap[k]? = w.heap[k]?) : w'.ownsRow B 9 1 v S.length (S.map Value.string) := by
  refine ⟨h.1, ?_⟩
  rcases h.2 with h2 | ⟨g, cap, cur, rfl, h3, h4, h5⟩
  · exact .inl h2
  · exact .inr ⟨g, cap, cur, rfl, h3, (hb g rfl).trans h4, h5⟩
theorem row_blk {w : World} {B : Nat} {v : Value} {S : List ByteArray} (h : w.ownsRow B 9 1 v S.length (S.map Value.string)) {k : Nat} (hk : v.ownBlock = some k) : ∃ cur, w.heap[k]? = some (.cells cur 9 (0, 0)) := by
  rcases h.2 with ⟨rfl, _⟩ | ⟨g, cap, cur, rfl, h3, h4, h5⟩
  · cases hk
  · cases hk; exact ⟨cur, h4⟩
section
variable {w wr w' : World} {p : Nat} {M M' : Md} {cnt cnt' : Nat} {v : Value} {S : List ByteArray}
theorem Kst.below (h : Kst w wr p M cnt v S) (hb : Below wr.heap.size wr w') : Kst w w' p M cnt v S :=
  ⟨h.1.below hb, row_at h.2.1 (fun k hk => by obtain ⟨cur, hc⟩ := row_blk h.2.1 hk; exact hb.block k (heap_lt hc)), h.2.2⟩
theorem Kst.nil (h : Kst w wr p M cnt v S) : Kst w wr p M cnt (.slice none 0 0) [] := ⟨h.1, ⟨rfl, .inl ⟨rfl, rfl⟩⟩, fun _ => rfl⟩
theorem Kst.fr (h : Kst w wr p M cnt v S) {F F' : Nat → Prop} (q1 : Dsk wr p M cnt F) (q2 : ∀ k, F k → w.heap.size ≤ k) (g1 : Dsk w' p M' cnt' F') (g2 : Fr wr w' F F') : Kst w w' p M' cnt' v S ∧ K31 wr w' := by
  refine ⟨⟨cst_fr q2 h.1.bel g1 g2, row_at h.2.1 (fun k hk => ?_), h.2.2⟩, fun k cs f hk => g2.block k (heap_lt hk) (q1.notF (.inr rfl) hk)⟩
  obtain ⟨cur, hc⟩ := row_blk h.2.1 hk
  exact g2.block k (heap_lt hc) (q1.notF (.inl rfl) hc)
theorem Kst.app (h : Kst w wr p M cnt v S) {v' : Value} {T : ByteArray} (h2 : w'.ownsRow w.heap.size 9 1 v' (S ++ [T]).length ((S ++ [T]).map Value.string)) (h3 : KpO wr w') (h4 : Below w.heap.size wr w') : Kst w w' p M cnt v' (S ++ [T]) := by
  obtain ⟨⟨F, q1, q2, q3⟩, _, _⟩ := h
  exact ⟨⟨F, q1.kp h3, q2, q3.trans h4⟩, h2, fun e => by simp at e⟩
end
end Go.Proofs.Ytkbmfookdhlphaa
