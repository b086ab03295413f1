/- Something done on files, by the document: all four kinds. -/
import Derived.Test.YtkbmfookdhlphaaRls
namespace Go.Proofs.Ytkbmfookdhlphaa
open Go.RowKit Go.Sort

def oB (a : Option Addr) (k : Nat) : Prop := ∃ p, a = some p ∧ p.block = k
theorem oB.own {a : Option Addr} {n c k : Nat} (h : oB a k) : (Value.slice a n c).ownBlock = some k := by
  obtain ⟨p, rfl, rfl⟩ := h; rfl
/- files behind an address: their names and bytes, and what they say -/
structure FlS (w : World) (a : Option Addr) (l : List Fe) (fs : FS) : Prop where
  fls : Fls w a l
  bs : ∀ f ∈ l, Bs w f.a f.d ∧ (f.a = none → f.d = [])
  lst : Lst l fs
def FlK (a : Option Addr) (l : List Fe) (k : Nat) : Prop := oB a k ∨ ∃ f ∈ l, oB f.a k
theorem Bs.keptO {w w' : World} {a : Option Addr} {d : List UInt8} (h : Bs w a d) (hs : w.heap.size ≤ w'.heap.size) (hk : ∀ k, k < w.heap.size → oB a k → w'.heap[k]? = w.heap[k]?) : Bs w' a d := by
  refine ⟨h.1, fun hne => ?_⟩
  obtain ⟨b, off, rfl, hlt, hc⟩ := h.2 hne
  exact ⟨b, off, rfl, Nat.lt_of_lt_of_le hlt hs, fun j hj => (World.cell?_of_block (w := w) (w' := w') (a := ⟨b, off + j, none⟩) (hk b hlt ⟨_, rfl, rfl⟩)).trans (hc j hj)⟩
theorem FlS.kept {w w' : World} {a : Option Addr} {l : List Fe} {fs : FS} (h : FlS w a l fs) (hs : w.heap.size ≤ w'.heap.size) (hk : ∀ k, k < w.heap.size → FlK a l k → w'.heap[k]? = w.heap[k]?) : FlS w' a l fs := by
  refine ⟨fun hne => ?_, fun f hf => ⟨(h.bs f hf).1.keptO hs (fun k hl hb => hk k hl (.inr ⟨f, hf, hb⟩)), (h.bs f hf).2⟩, h.lst⟩
  obtain ⟨b, off, rfl, hlt, hc⟩ := h.fls hne
  have hb := hk b hlt (.inl ⟨_, rfl, rfl⟩)
  exact ⟨b, off, rfl, Nat.lt_of_lt_of_le hlt hs, fun j f hj => ⟨(World.cell?_of_block (w := w) (w' := w') (a := ⟨b, _, none⟩) hb).trans (hc j f hj).1, (World.cell?_of_block (w := w) (w' := w') (a := ⟨b, _, none⟩) hb).trans (hc j f hj).2⟩⟩
theorem FlS.grow {w w' : World} {a : Option Addr} {l : List Fe} {fs : FS} (h : FlS w a l fs) (hb : Below w.heap.size w w') : FlS w' a l fs := h.kept hb.size (fun k hk _ => hb.block k hk)
theorem FlS.nil (w : World) : FlS w none [] fs0 := ⟨fun h => absurd rfl h, fun _ h => (by cases h), Lst.nil⟩
theorem row_lt {w : World} {base : Nat} {v : Value} {e n sz : Nat} {xs : List Value} (h : w.ownsRow base e sz v n xs) : ∀ k, v.ownBlock = some k → k < w.heap.size := by
  intro k hk
  rcases h.2 with ⟨rfl, _⟩ | ⟨g, cap, cur, rfl, hb, hg, _⟩
  · cases hk
  · cases hk; exact heap_lt hg
theorem mem_wi {l : List Fe} {x f : Fe} (h : f ∈ wi l x) : f = x ∨ f ∈ l := by
  unfold wi at h
  rcases List.mem_append.1 h with h | h
  · rcases List.mem_append.1 h with h | h
    · exact .inr (mem_wo.1 (List.mem_of_mem_take h)).1
    · exact .inl (List.mem_singleton.1 h)
  · exact .inr (mem_wo.1 (List.mem_of_mem_drop h)).1

/- something that was done, as the document keeps it -/
structure Ge where
  kd : Int
  nm : ByteArray
  to : ByteArray
  a : Option Addr
  cap : Nat
  d : List UInt8
def Ge.v (g : Ge) : Value := .agg #[.int .i64 g.kd, .string g.nm, .string g.to, .slice g.a g.d.length g.cap]
/- it is the first u units of the deed x -/
def GeIs (g : Ge) (u : Nat) (x : Dd) : Prop :=
  match x with
  | .ap n d => g.kd = 0 ∧ g.nm.data.toList = n ∧ g.d = d.take u
  | .pt n d => g.kd = 1 ∧ g.nm.data.toList = n ∧ g.d = d
  | .rm n => g.kd = 2 ∧ g.nm.data.toList = n
  | .rn a b => g.kd = 3 ∧ g.nm.data.toList = a ∧ g.to.data.toList = b
def isRn (x : Dd) (fs : FS) : Prop := match x with
  | .rn a _ => (fs a).isSome = true
  | _ => True
/- what it leaves -/
def RdoP (w : World) (a : Option Addr) (l : List Fe) (ga : Option Addr) (fs' : FS) : Ending → World → Prop := fun e w' => ∃ a' l' cap', e = .returned (.slice a' l'.length cap') ∧ FlS w' a' l' fs' ∧ (∀ k, FlK a' l' k → FlK a l k ∨ oB ga k ∨ (w.heap.size ≤ k ∧ k < w'.heap.size)) ∧ Below w.heap.size w w'
theorem rdo_wi {w w' : World} {a : Option Addr} {l : List Fe} {fs : FS} {ga : Option Addr} {x : Fe} {v : Value} (h : FlS w a l fs) (hr : w'.ownsRow w.heap.size 64 2 v (wi l x).length (cellsF (wi l x))) (hx : Bs w' x.a x.d) (hn : x.a = none → x.d = []) (hk : ∀ k, oB x.a k → FlK a l k ∨ oB ga k ∨ (w.heap.size ≤ k ∧ k < w'.heap.size)) (hb : Below w.heap.size w w') : RdoP w a l ga (fup fs x.k (some x.d)) (.returned v) w' := by
  obtain ⟨a', cap', e, _, _, hf⟩ := Fls.of_row hr
  subst e
  refine ⟨a', wi l x, cap', rfl, ⟨hf, fun f hm => ?_, h.lst.wi x⟩, fun k hm => ?_, hb⟩
  · rcases mem_wi hm with rfl | hm
    · exact ⟨hx, hn⟩
    · exact ⟨(h.bs f hm).1.grow hb, (h.bs f hm).2⟩
  · rcases hm with hm | ⟨f, hm, ho⟩
    · exact .inr (.inr ⟨row_base hr k hm.own, row_lt hr k hm.own⟩)
    · rcases mem_wi hm with rfl | hm
      · exact hk k ho
      · exact .inl (.inr ⟨f, hm, ho⟩)
theorem rdo_any (a : Option Addr) (cap : Nat) (l : List Fe) (fs : FS) (g : Ge) (u : Nat) (x : Dd) (w : World) (h : FlS w a l fs) (hl : l.length ≤ 1048576) (hx : Bs w g.a g.d) (hxn : g.a = none → g.d = []) (his : GeIs g u x) (hlen : (cOf fs g.nm.data.toList).length + g.d.length ≤ 211106232532992) (hrn : isRn x fs) : Calls Try.prog 60 #[.slice a l.length cap, g.v] w (RdoP w a l g.a (doD x u fs)) := by
  obtain ⟨kd, nm, to, ga, gc, d⟩ := g
  cases x with
  | ap n d' =>
    obtain ⟨rfl, rfl, hd⟩ := his
    have hd : d = d'.take u := hd
    cases hf : fs nm.data.toList with
    | none =>
      refine (rdo_ap0 a cap l nm to ga gc d w h.fls hl hx (h.lst.no hf)).mono ?_
      rintro e w' ⟨v, za, zc, rfl, hr, hz, hzn, hzk, hb⟩
      have := rdo_wi (ga := ga) h hr hz hzn (fun k hk => .inr (.inr (hzk k hk.own))) hb
      have e2 : doD (.ap nm.data.toList d') u fs = fup fs (Fe.k ⟨nm, za, zc, d⟩) (some d) := by
        show fup fs nm.data.toList (some ((fs nm.data.toList).getD [] ++ d'.take u)) = _; rw [hf, ← hd]; rfl
      rw [e2]; exact this
    | some d0 =>
      obtain ⟨i, f, hi, hfi, hk, hd0⟩ := h.lst.yes hf
      have hlen' : f.d.length + d.length ≤ 211106232532992 := by
        have : (cOf fs nm.data.toList).length + d.length ≤ 211106232532992 := hlen
        unfold cOf at this
        rw [hf] at this
        rw [hd0]; exact this
      refine (rdo_ap1 a cap l nm to ga gc d w i f h.fls hl hx (h.bs f (List.mem_of_getElem? hi)).1 hlen' hi hfi).mono ?_
      rintro e w' ⟨v, za, zc, rfl, hr, hz, hzn, hzk, hb⟩
      have := rdo_wi (ga := ga) h hr hz hzn (fun k hk => .inr (.inr (hzk k hk.own))) hb
      have e2 : doD (.ap nm.data.toList d') u fs = fup fs (Fe.k ⟨nm, za, zc, f.d ++ d⟩) (some (f.d ++ d)) := by
        show fup fs nm.data.toList (some ((fs nm.data.toList).getD [] ++ d'.take u)) = _; rw [hf, ← hd, hd0]; rfl
      rw [e2]; exact this
  | pt n d' =>
    obtain ⟨rfl, rfl, rfl⟩ := his
    refine (rdo_pt a cap l nm to ga gc d w h.fls hl).mono ?_
    rintro e w' ⟨v, rfl, hr, hb⟩
    exact rdo_wi (ga := ga) h hr (hx.grow hb) hxn (fun k hk => .inr (.inl hk)) hb
  | rm n =>
    obtain ⟨rfl, rfl⟩ := his
    refine (rdo_rm a cap l nm to ga gc d w h.fls hl).mono ?_
    rintro e w' ⟨v, rfl, hr, hb⟩
    obtain ⟨a', cap', e, _, _, hf⟩ := Fls.of_row hr
    subst e
    refine ⟨a', wo l nm, cap', rfl, ⟨hf, fun f hm => ?_, h.lst.wo nm⟩, fun k hm => ?_, hb⟩
    · have hm := (mem_wo.1 hm).1
      exact ⟨(h.bs f hm).1.grow hb, (h.bs f hm).2⟩
    · rcases hm with hm | ⟨f, hm, ho⟩
      · exact .inr (.inr ⟨row_base hr k hm.own, row_lt hr k hm.own⟩)
      · exact .inl (.inr ⟨f, (mem_wo.1 hm).1, ho⟩)
  | rn na nb =>
    obtain ⟨rfl, rfl, rfl⟩ := his
    obtain ⟨d0, hf⟩ := Option.isSome_iff_exists.1 hrn
    obtain ⟨i, f, hi, hfi, hk, hd0⟩ := h.lst.yes hf
    have hfm := List.mem_of_getElem? hi
    refine (rdo_rn a cap l nm to ga gc d w i f h.fls hl hi hfi).mono ?_
    rintro e w' ⟨v, rfl, hr, hb⟩
    obtain ⟨a', cap', e, _, _, hf2⟩ := Fls.of_row hr
    subst e
    have e2 : doD (.rn nm.data.toList to.data.toList) u fs = fup (fup fs nm.data.toList none) (Fe.k ⟨to, f.a, f.cap, f.d⟩) (some f.d) := by
      show fup (fup fs nm.data.toList none) to.data.toList (some ((fs nm.data.toList).getD [])) = _; rw [hf, hd0]; rfl
    refine ⟨a', _, cap', rfl, ⟨hf2, fun y hm => ?_, ?_⟩, fun k hm => ?_, hb⟩
    · rcases mem_wi hm with rfl | hm
      · exact ⟨(h.bs f hfm).1.grow hb, (h.bs f hfm).2⟩
      · have hm := (mem_wo.1 hm).1
        exact ⟨(h.bs y hm).1.grow hb, (h.bs y hm).2⟩
    · rw [e2]; exact (h.lst.wo nm).wi ⟨to, f.a, f.cap, f.d⟩
    · rcases hm with hm | ⟨y, hm, ho⟩
      · exact .inr (.inr ⟨row_base hr k hm.own, row_lt hr k hm.own⟩)
      · rcases mem_wi hm with rfl | hm
        · exact .inl (.inr ⟨f, hfm, ho⟩)
        · exact .inl (.inr ⟨y, (mem_wo.1 hm).1, ho⟩)
end Go.Proofs.Ytkbmfookdhlphaa
