/- The document's disk in memory. -/
import Derived.Test.YtkbmfookdhlphaaRdx
namespace Go.Proofs.Ytkbmfookdhlphaa
open Go.RowKit Go.Sort

def cellsG (G : List Ge) : List Value := G.flatMap fun g => [.int .i64 g.kd, .string g.nm, .string g.to, .slice g.a g.d.length g.cap]
theorem cellsG_len (G : List Ge) : (cellsG G).length = G.length * 4 := by
  induction G with
  | nil => rfl
  | cons x l ih => simp [cellsG] at ih ⊢; omega
theorem cellsG_app (l r : List Ge) : cellsG (l ++ r) = cellsG l ++ cellsG r := by simp [cellsG]
theorem cellsG_at (G : List Ge) : ∀ (j : Nat) (g : Ge), G[j]? = some g → (cellsG G)[j * 4]? = some (.int .i64 g.kd) ∧ (cellsG G)[j * 4 + 1]? = some (.string g.nm) ∧ (cellsG G)[j * 4 + 2]? = some (.string g.to) ∧ (cellsG G)[j * 4 + 3]? = some (.slice g.a g.d.length g.cap) := by
  induction G with
  | nil => intro j f h; simp at h
  | cons x l ih =>
    intro j f h
    cases j with
    | zero => cases h; exact ⟨rfl, rfl, rfl, rfl⟩
    | succ j =>
      have h2 := ih j f h
      have e : cellsG (x :: l) = .int .i64 x.kd :: .string x.nm :: .string x.to :: .slice x.a x.d.length x.cap :: cellsG l := rfl
      have e1 : (j + 1) * 4 = j * 4 + 1 + 1 + 1 + 1 := by omega
      rw [e, e1]
      exact h2
/- how many units it has -/
def GeU (g : Ge) (u : Nat) : Prop := u = if g.kd = 0 then max 1 g.d.length else 1
/- the blocks of files and of bytes that it looks at, and all that it looks at -/
def RtB (a : Option Addr) (l : List Fe) (G : List Ge) (k : Nat) : Prop := FlK a l k ∨ ∃ g ∈ G, oB g.a k
def RtF (q : Nat) (a : Option Addr) (l : List Fe) (dn : Value) (G : List Ge) : Nat → Prop := fun k => k = q ∨ dn.ownBlock = some k ∨ RtB a l G k
structure RfR (w : World) (q : Nat) (M : Md) (a : Option Addr) (cap : Nat) (l : List Fe) (dn : Value) (G : List Ge) : Prop where
  blk : RfB w q (.slice a l.length cap) dn M.left
  dur : FlS w a l M.dur
  row : w.ownsRow 0 82 4 dn G.length (cellsG G)
  len : G.length = M.done.length
  is : ∀ (i : Nat) (g : Ge) (y : Nat × Dd), G[i]? = some g → M.done[i]? = some y → GeIs g y.1 y.2 ∧ GeU g y.1
  bs : ∀ g ∈ G, Bs w g.a g.d ∧ (g.a = none → g.d = []) ∧ g.d.length ≤ 1048576 ∧ g.d.length ≤ g.cap
  sep : ∀ k, RtB a l G k → k ≠ q ∧ dn.ownBlock ≠ some k ∧ k < w.heap.size
theorem RfR.kept {w w' : World} {q : Nat} {M : Md} {a : Option Addr} {cap : Nat} {l : List Fe} {dn : Value} {G : List Ge} (h : RfR w q M a cap l dn G) (hs : w.heap.size ≤ w'.heap.size) (hk : ∀ k, k < w.heap.size → RtF q a l dn G k → w'.heap[k]? = w.heap[k]?) : RfR w' q M a cap l dn G :=
  ⟨(hk q h.blk.lt (.inl rfl)).trans h.blk, h.dur.kept hs (fun k hl hf => hk k hl (.inr (.inr (.inl hf)))), ownsRow_kept h.row (fun k hd => by obtain ⟨cur, hc⟩ := ownsRow_blk h.row hd; exact hk k (heap_lt hc) (.inr (.inl hd))), h.len, h.is, fun g hg => ⟨(h.bs g hg).1.keptO hs (fun k hl hb => hk k hl (.inr (.inr (.inr ⟨g, hg, hb⟩)))), (h.bs g hg).2⟩, fun k hb => ⟨(h.sep k hb).1, (h.sep k hb).2.1, Nat.lt_of_lt_of_le (h.sep k hb).2.2 hs⟩⟩
theorem RfR.grow {w w' : World} {q : Nat} {M : Md} {a : Option Addr} {cap : Nat} {l : List Fe} {dn : Value} {G : List Ge} (h : RfR w q M a cap l dn G) (hb : Below w.heap.size w w') : RfR w' q M a cap l dn G := h.kept hb.size (fun k hk _ => hb.block k hk)
theorem RfR.rowAt {w : World} {q : Nat} {M : Md} {a : Option Addr} {cap : Nat} {l : List Fe} {dn : Value} {G : List Ge} (h : RfR w q M a cap l dn G) {k : Nat} {g : Ge} (hk : G[k]? = some g) : ∃ b c, dn = .slice (some ⟨b, 0, none⟩) G.length c ∧ b < w.heap.size ∧ w.cell? ⟨b, k * 4, none⟩ = some (.int .i64 g.kd) ∧ w.cell? ⟨b, k * 4 + 1, none⟩ = some (.string g.nm) ∧ w.cell? ⟨b, k * 4 + 2, none⟩ = some (.string g.to) ∧ w.cell? ⟨b, k * 4 + 3, none⟩ = some (.slice g.a g.d.length g.cap) := by
  have hlt := (List.getElem?_eq_some_iff.1 hk).1
  rcases h.row.2 with ⟨_, e⟩ | ⟨b, cap, cur, e, _, h4, h5, h6, h7, h8⟩
  · omega
  · obtain ⟨r0, r1, r2, r3⟩ := cellsG_at G k g hk
    rw [← h8, List.getElem?_take, if_pos (by omega)] at r0 r1 r2 r3
    refine ⟨b, cap, e, heap_lt h4, ?_, ?_, ?_, ?_⟩
    · rw [cell_of_row w b _ cur 82 (0, 0) h4]; simpa using r0
    · rw [cell_of_row w b _ cur 82 (0, 0) h4]; simpa using r1
    · rw [cell_of_row w b _ cur 82 (0, 0) h4]; simpa using r2
    · rw [cell_of_row w b _ cur 82 (0, 0) h4]; simpa using r3
theorem RfR.dnForm {w : World} {q : Nat} {M : Md} {a : Option Addr} {cap : Nat} {l : List Fe} {dn : Value} {G : List Ge} (h : RfR w q M a cap l dn G) : ∃ a c, dn = .slice a G.length c := by
  rcases h.row.2 with ⟨e, e2⟩ | ⟨b, cap, cur, e, _⟩
  · exact ⟨none, 0, by rw [e, e2]⟩
  · exact ⟨_, cap, e⟩
/- all stays but blocks of the document's disk and of its deeds, by their types -/
def no82 : Obj → Prop
  | .cells _ t _ => t ≠ 60 ∧ t ≠ 82
  | _ => True
def Kp82 (w w' : World) : Prop := ∀ (k : Nat) (o : Obj), w.heap[k]? = some o → no82 o → w'.heap[k]? = w.heap[k]?
theorem Kp82.below {w w' : World} (h : Below w.heap.size w w') : Kp82 w w' := fun k _ hk _ => h.block k (heap_lt hk)
theorem Kp82.trans {a b c : World} (h : Kp82 a b) (k : Kp82 b c) : Kp82 a c := fun i o hi ho => (k i o ((h i o hi ho).trans hi) ho).trans (h i o hi ho)
theorem RfR.kp82 {w w' : World} {q : Nat} {M : Md} {a : Option Addr} {cap : Nat} {l : List Fe} {dn : Value} {G : List Ge} (h : RfR w q M a cap l dn G) (hk : ∀ k, k < w.heap.size → k ≠ q → dn.ownBlock ≠ some k → w'.heap[k]? = w.heap[k]?) : Kp82 w w' := by
  intro k o ho hn
  refine hk k (heap_lt ho) (fun e => ?_) (fun e => ?_)
  · subst e
    have hb : w.heap[k]? = _ := h.blk
    rw [hb] at ho
    cases ho
    exact hn.1 rfl
  · obtain ⟨cur, hc⟩ := ownsRow_blk h.row e
    rw [hc] at ho
    cases ho
    exact hn.2 rfl
/- what is known of the states between: few files, none too great, and a file that is renamed is there -/
structure RkM (M : Md) : Prop where
  few : ∀ k m, Card (rep (M.done.take k) M.dur) m → m ≤ 64
  rn : ∀ k y, M.done[k]? = some y → isRn y.2 (rep (M.done.take k) M.dur)
theorem Lst.few {l : List Fe} {fs : FS} (h : Lst l fs) (hc : ∀ m, Card fs m → m ≤ 64) : l.length ≤ 64 := hc _ ⟨_, h.srt, by rw [List.length_map]⟩
/- in the midst of Files -/
def FiS (w wr : World) (M : Md) (a : Option Addr) (l : List Fe) (G : List Ge) (k : Nat) (a' : Option Addr) (l' : List Fe) : Prop := FlS wr a' l' (rep (M.done.take k) M.dur) ∧ (∀ i, FlK a' l' i → RtB a l G i ∨ (w.heap.size ≤ i ∧ i < wr.heap.size)) ∧ Below w.heap.size w wr
theorem FiS.step {w wr w' : World} {M : Md} {a : Option Addr} {l : List Fe} {G : List Ge} {k : Nat} {a' : Option Addr} {l' : List Fe} {g : Ge} {y : Nat × Dd} (h : FiS w wr M a l G k a' l') (hg : g ∈ G) (hy : M.done[k]? = some y) {e : Ending} (hr : RdoP wr a' l' g.a (doD y.2 y.1 (rep (M.done.take k) M.dur)) e w') : ∃ a2 l2 c2, e = .returned (.slice a2 l2.length c2) ∧ FiS w w' M a l G (k + 1) a2 l2 := by
  obtain ⟨h1, h2, h3⟩ := h
  obtain ⟨a2, l2, c2, rfl, f1, f2, f3⟩ := hr
  refine ⟨a2, l2, c2, rfl, ?_, fun i hi => ?_, h3.trans (f3.mono h3.size)⟩
  · obtain ⟨v, x⟩ := y
    rw [rep_take hy]; exact f1
  · rcases f2 i hi with e | e | e
    · rcases h2 i e with e | e
      · exact .inl e
      · exact .inr ⟨e.1, Nat.lt_of_lt_of_le e.2 f3.size⟩
    · exact .inl (.inr ⟨g, hg, e⟩)
    · exact .inr ⟨Nat.le_trans h3.size e.1, e.2⟩
set_option maxHeartbeats 4000000 in
set_option maxRecDepth 100000 in
theorem rfiles_any (q : Nat) (M : Md) (a : Option Addr) (cap : Nat) (l : List Fe) (dn : Value) (G : List Ge) (w : World) (h : RfR w q M a cap l dn G) (hk : RkM M) (hok : OkM M) (hn : M.done.length ≤ 4398046511104) : Calls Try.prog 33 #[.pointer (some ⟨q, 0, none⟩)] w fun e w' => ∃ a' l' c', e = .returned (.slice a' l'.length c') ∧ FlS w' a' l' M.files ∧ (∀ i, FlK a' l' i → RtB a l G i ∨ (w.heap.size ≤ i ∧ i < w'.heap.size)) ∧ Below w.heap.size w w' := by
  have c0 := h.blk.c0
  have lq := h.blk.lt
  obtain ⟨da, dc, hdn⟩ := h.dnForm
  have HDN := hidOf hdn
  have H := hidOf h
  have HK := hidOf hk
  have HO := hidOf hok
  have hgl : G.length ≤ 4398046511104 := by rw [h.len]; exact hn
  have H0 : Hid (FiS w w M a l G 0 a l) := hidOf ⟨h.dur, fun i hi => .inl (.inl hi), Below.refl _ _⟩
  clear h hk hok hdn hn
  go_enter Try.func33, Try.ntmps33
  go_wp2
  go_loopw [3, 4] (fun lv i wr => ∃ (k : Nat) (a' : Option Addr) (l' : List Fe) (c' : Nat), k ≤ G.length ∧ i = .int .i64 (k : Int) ∧ lv = .slice a' l'.length c' ∧ Hid (FiS w wr M a l G k a' l')) (fun _ i _ => G.length - (intOf i).toNat)
  case atStart => exact ⟨0, a, l, cap, Nat.zero_le _, rfl, rfl, H0⟩
  case round =>
    obtain ⟨k, a', l', c', hk, rfl, rfl, HS⟩ := hrel
    clear c0 lq H0
    have HR := hidOf (H.out.grow HS.out.2.2)
    have c1 := HR.out.blk.c1
    have lq := HR.out.blk.lt
    rw [HDN.out] at c1
    by_cases hlt : k < G.length
    · have hltz : (k : Int) < (G.length : Int) := by omega
      obtain ⟨g, hg⟩ : ∃ g, G[k]? = some g := ⟨_, List.getElem?_eq_getElem hlt⟩
      obtain ⟨y, hy⟩ : ∃ y, M.done[k]? = some y := ⟨_, List.getElem?_eq_getElem (by rw [← H.out.len]; exact hlt)⟩
      obtain ⟨b, c2, e, hb, r0, r1, r2, r3⟩ := HR.out.rowAt hg
      rw [HDN.out] at e
      cases e
      have hgm := List.mem_of_getElem? hg
      have hfew : l'.length ≤ 64 := HS.out.1.lst.few (fun m hm => HK.out.few k m hm)
      have HC := hidOf (rdo_any a' c' l' _ g y.1 y.2 wr HS.out.1 (by omega) (HR.out.bs g hgm).1 (HR.out.bs g hgm).2.1 (HR.out.is k g y hg hy).1 (by
        have h1 := (HO.out.ok k).1 g.nm.data.toList
        have h2 := (HR.out.bs g hgm).2.2.1
        omega) (HK.out.rn k y hy))
      have HG := hidOf hgm
      have HY := hidOf hy
      clear hg hy hgm
      go_wp2_with (go_at_call 60; refine HC.out.mono ?_; rintro e w1 hp; obtain ⟨a2, l2, c3, he, hp2⟩ := HS.out.step HG.out HY.out hp; subst he; have HS2 := hidOf hp2; clear hp hp2)
      go_roundw
      case rel => exact ⟨k + 1, a2, l2, c3, by omega, by go_num, rfl, HS2⟩
      case measure => simp [intOf]; omega
    · have hltz : ¬ (k : Int) < (G.length : Int) := by omega
      go_wp2
      go_ret
      obtain ⟨f1, f2, f3⟩ := HS.out
      rw [List.take_of_length_le (by rw [← H.out.len]; omega), ← HO.out.fl] at f1
      exact ⟨a', l', ⟨c', rfl⟩, f1, f2, f3⟩
end Go.Proofs.Ytkbmfookdhlphaa
