/- Something more was done, by the document. -/
import Derived.Test.YtkbmfookdhlphaaRst
import Derived.Maps.AppendAt
namespace Go.Proofs.Ytkbmfookdhlphaa
open Go.RowKit Go.Sort

theorem Try.info82 : (Try.prog.info? 82).map (fun i => (i.zero, i.size, i.bytes)) = some (some (.agg #[.int .i64 0, .string .empty, .string .empty, .slice none 0 0]), 4, 64) := by kernel_rfl
theorem cellsG_one (g : Ge) : ∀ u ∈ cellsG [g], u.oneCell' = true := by
  intro u hu
  simp [cellsG] at hu
  rcases hu with rfl | rfl | rfl | rfl <;> rfl
/- g lies at an address -/
def GeAt (w : World) (b : Nat) (g : Ge) : Prop := w.cell? ⟨b, 0, none⟩ = some (.int .i64 g.kd) ∧ w.cell? ⟨b, 1, none⟩ = some (.string g.nm) ∧ w.cell? ⟨b, 2, none⟩ = some (.string g.to) ∧ w.cell? ⟨b, 3, none⟩ = some (.slice g.a g.d.length g.cap)
theorem geAt_new (w : World) (g : Ge) : GeAt (w.alloc (.cells #[.int .i64 g.kd, .string g.nm, .string g.to, .slice g.a g.d.length g.cap] 82)) w.heap.size g := by
  have h := heap_alloc_new w (.cells #[.int .i64 g.kd, .string g.nm, .string g.to, .slice g.a g.d.length g.cap] 82)
  refine ⟨?_, ?_, ?_, ?_⟩ <;> rw [cell_of_row _ _ _ _ 82 (0, 0) h] <;> rfl
theorem GeAt.grow {w w' : World} {b B : Nat} {g : Ge} (h : GeAt w b g) (hb : Below B w w') (hl : b < B) : GeAt w' b g :=
  ⟨(hb.cell (p := ⟨b, 0, none⟩) hl).trans h.1, (hb.cell (p := ⟨b, 1, none⟩) hl).trans h.2.1, (hb.cell (p := ⟨b, 2, none⟩) hl).trans h.2.2.1, (hb.cell (p := ⟨b, 3, none⟩) hl).trans h.2.2.2⟩
theorem oper_append82 {o : Oper} {a : Act} {K : Act → World → Prop} {Q : Exit → Act → World → Prop} (w : World) (s x : Operand)
    (ho : o.op = .call { callee := .builtin .append, args := #[s, x], argTypes := #[58, 58] }) (v : Value) (G : List Ge) (hs : a.eval s = v) (hown : w.ownsRow 0 82 4 v G.length (cellsG G))
    (blk : Nat) (c : Nat) (g : Ge) (hx : a.eval x = .slice (some ⟨blk, 0, none⟩) 1 c) (hg : GeAt w blk g) (hlen : G.length + 1 ≤ 2199023255552)
    (h : ∀ v' w', w'.ownsRow 0 82 4 v' (G.length + 1) (cellsG G ++ cellsG [g]) → w.grownBy w' v.ownBlock → (v'.ownBlock = v.ownBlock ∨ v'.ownBlock = some w.heap.size) → K (a.put o.dst v') w') : Oper.wp Try.prog o a w K Q := by
  obtain ⟨i, hi, hz0, hz1, hz2⟩ := info_parts Try.info82
  obtain ⟨v', w', h1, h2, h3, _, h4⟩ := run_append_own_at (P := Try.prog) w 0 58 o.type 82 i _ 4 64 Try.underlying58 hi hz0 hz1 hz2 rfl (by omega) v G.length (cellsG G) hown ⟨blk, 0, none⟩ 1 c (cellsG [g]) rfl (fun j u hj => by
      have hadd : (⟨blk, 0, none⟩ : Addr).add j = ⟨blk, j, none⟩ := by unfold Addr.add; split <;> simp_all
      rw [hadd]
      obtain ⟨g0, g1, g2, g3⟩ := hg
      have e : cellsG [g] = [.int .i64 g.kd, .string g.nm, .string g.to, .slice g.a g.d.length g.cap] := rfl
      rw [e] at hj
      match j, hj with
      | 0, hj => cases hj; exact g0
      | 1, hj => cases hj; exact g1
      | 2, hj => cases hj; exact g2
      | 3, hj => cases hj; exact g3
      | (n + 4), hj => simp at hj) (cellsG_one g) (by unfold maxLen; omega) (by omega) (Nat.zero_le _)
  unfold Oper.wp execOp
  simp only [ho, resolve, invoke, builtin, Sem.run_bind, Sem.run_pure, Result.andThen_ok, List.map_toArray, List.map_cons, List.map_nil, hs, hx, h1]
  exact h v' w' h2 h3 h4
theorem RfR.rowNe {w : World} {q : Nat} {M : Md} {a : Option Addr} {cap : Nat} {l : List Fe} {dn : Value} {G : List Ge} (h : RfR w q M a cap l dn G) : dn.ownBlock ≠ some q := by
  intro e
  obtain ⟨cur, hc⟩ := ownsRow_blk h.row e
  have hb : w.heap[q]? = _ := h.blk
  rw [hb] at hc
  cases hc
theorem RfR.rowLt {w : World} {q : Nat} {M : Md} {a : Option Addr} {cap : Nat} {l : List Fe} {dn : Value} {G : List Ge} (h : RfR w q M a cap l dn G) : ∀ k, dn.ownBlock = some k → k < w.heap.size := fun k hk => by
  obtain ⟨cur, hc⟩ := ownsRow_blk h.row hk
  exact heap_lt hc
theorem did_S {w w2 w3 : World} {q : Nat} {dn : Value} {g : Ge} (h : (fun wz : World => wz.cell? ⟨q, 1, none⟩ = some dn ∧ wz.cell? ⟨w.heap.size, 0, none⟩ = some (.int .i64 g.kd) ∧ wz.cell? ⟨w.heap.size, 1, none⟩ = some (.string g.nm) ∧ wz.cell? ⟨w.heap.size, 2, none⟩ = some (.string g.to) ∧ wz.cell? ⟨w.heap.size, 3, none⟩ = some (.slice g.a g.d.length g.cap)) w2) (hgr : w2.grownBy w3 dn.ownBlock) (hn : q < w2.heap.size ∧ w.heap.size < w2.heap.size ∧ dn.ownBlock ≠ some q ∧ dn.ownBlock ≠ some w.heap.size) : (fun wz : World => wz.cell? ⟨q, 1, none⟩ = some dn ∧ wz.cell? ⟨w.heap.size, 0, none⟩ = some (.int .i64 g.kd) ∧ wz.cell? ⟨w.heap.size, 1, none⟩ = some (.string g.nm) ∧ wz.cell? ⟨w.heap.size, 2, none⟩ = some (.string g.to) ∧ wz.cell? ⟨w.heap.size, 3, none⟩ = some (.slice g.a g.d.length g.cap)) w3 := by
  obtain ⟨h1, h2, h3, h4, h5⟩ := h
  have e1 := hgr.block q hn.1 (fun e => hn.2.2.1 e.symm)
  have e2 := hgr.block w.heap.size hn.2.1 (fun e => hn.2.2.2 e.symm)
  exact ⟨(World.cell?_of_block (a := ⟨q, 1, none⟩) e1).trans h1, (World.cell?_of_block (a := ⟨w.heap.size, 0, none⟩) e2).trans h2, (World.cell?_of_block (a := ⟨w.heap.size, 1, none⟩) e2).trans h3, (World.cell?_of_block (a := ⟨w.heap.size, 2, none⟩) e2).trans h4, (World.cell?_of_block (a := ⟨w.heap.size, 3, none⟩) e2).trans h5⟩
theorem did_blk {w w2 w3 : World} {q : Nat} {M : Md} {a : Option Addr} {cap : Nat} {l : List Fe} {dn : Value} {G : List Ge} (h : RfR w q M a cap l dn G) (hb : Below w.heap.size w w2) (hgr : w2.grownBy w3 dn.ownBlock) : RfB w3 q (.slice a l.length cap) dn M.left :=
  (hgr.block q (Nat.lt_of_lt_of_le h.blk.lt hb.size) (fun e => h.rowNe e.symm)).trans ((hb.block q h.blk.lt).trans h.blk)
theorem rfB_dn {w : World} {q : Nat} {dv dn : Value} {left : Int} (h : RfB w q dv dn left) (v : Value) : RfB (w.setCell ⟨q, 1, none⟩ v) q dv v left := by
  have h' : w.heap[q]? = _ := h
  show _ = _
  rw [heap_setCell_same w q 1 _ 60 _ h']
  rfl
theorem rfB_dv {w : World} {q : Nat} {dv dn : Value} {left : Int} (h : RfB w q dv dn left) (v : Value) : RfB (w.setCell ⟨q, 0, none⟩ v) q v dn left := by
  have h' : w.heap[q]? = _ := h
  show _ = _
  rw [heap_setCell_same w q 0 _ 60 _ h']
  rfl
theorem rfB_left {w : World} {q : Nat} {dv dn : Value} {left : Int} (h : RfB w q dv dn left) (n : Int) : RfB (w.setCell ⟨q, 2, none⟩ (.int .i64 n)) q dv dn n := by
  have h' : w.heap[q]? = _ := h
  show _ = _
  rw [heap_setCell_same w q 2 _ 60 _ h']
  rfl
/- the end: the row is stored, the operation counted -/
theorem did_post {w w2 w3 w5 : World} {q : Nat} {M : Md} {a : Option Addr} {cap : Nat} {l : List Fe} {dn dn2 : Value} {G : List Ge} {g : Ge} {u : Nat} {x : Dd} (h : RfR w q M a cap l dn G) (hb : Below w.heap.size w w2) (hgr : w2.grownBy w3 dn.ownBlock) (hrow : w3.ownsRow 0 82 4 dn2 (G.length + 1) (cellsG G ++ cellsG [g])) (hat : dn2.ownBlock = dn.ownBlock ∨ dn2.ownBlock = some w2.heap.size)
    (hg : Bs w g.a g.d ∧ (g.a = none → g.d = []) ∧ g.d.length ≤ 1048576 ∧ g.d.length ≤ g.cap) (hgk : ∀ k, oB g.a k → k ≠ q ∧ dn.ownBlock ≠ some k ∧ k < w.heap.size) (his : GeIs g u x ∧ GeU g u) (hw : w5 = if 0 < M.left then (w3.setCell ⟨q, 1, none⟩ dn2).setCell ⟨q, 2, none⟩ (.int .i64 (M.left - 1)) else w3.setCell ⟨q, 1, none⟩ dn2) :
    RfR w5 q (stepM M x u) a cap l dn2 (G ++ [g]) ∧ Fr w w5 (fun k => RtF q a l dn G k ∨ oB g.a k) (RtF q a l dn2 (G ++ [g])) ∧ Kp82 w w5 := by
  have hb3 := did_blk h hb hgr
  have hq := h.blk.lt
  have hne2 : dn2.ownBlock ≠ some q := by
    rcases hat with e | e
    · rw [e]; exact h.rowNe
    · rw [e]; intro e2; have := Option.some.inj e2; have := hb.size; omega
  have hblk : RfB w5 q (.slice a l.length cap) dn2 (lessOne M.left) := by
    unfold lessOne
    split at hw
    · rename_i hl; rw [if_pos hl, hw]; exact rfB_left (rfB_dn hb3 dn2) _
    · rename_i hl; rw [if_neg hl, hw]; exact rfB_dn hb3 dn2
  have hoth : ∀ k, k ≠ q → w5.heap[k]? = w3.heap[k]? := fun k hk => by
    split at hw
    · rw [hw, Below.heap_setCell _ ⟨q, 2, none⟩ _ k hk, Below.heap_setCell _ ⟨q, 1, none⟩ _ k hk]
    · rw [hw, Below.heap_setCell _ ⟨q, 1, none⟩ _ k hk]
  have hsz : w5.heap.size = w3.heap.size := by
    split at hw <;> rw [hw] <;> simp
  have ho5 : w5.os = w3.os ∧ w5.tape = w3.tape ∧ w5.output = w3.output := by
    split at hw <;> rw [hw] <;> exact ⟨rfl, rfl, rfl⟩
  have hs5 : w.heap.size ≤ w5.heap.size := by rw [hsz]; exact Nat.le_trans hb.size hgr.size
  have hkeep : ∀ k, k < w.heap.size → k ≠ q → dn.ownBlock ≠ some k → w5.heap[k]? = w.heap[k]? := fun k hk h1 h2 =>
    (hoth k h1).trans ((hgr.block k (Nat.lt_of_lt_of_le hk hb.size) (fun e => h2 e.symm)).trans (hb.block k hk))
  have hR : ∀ k, RtB a l (G ++ [g]) k → RtB a l G k ∨ oB g.a k := fun k hk => by
    rcases hk with hk | ⟨y, hy, hk⟩
    · exact .inl (.inl hk)
    · rcases List.mem_append.1 hy with hy | hy
      · exact .inl (.inr ⟨y, hy, hk⟩)
      · rw [List.mem_singleton.1 hy] at hk; exact .inr hk
  have hR2 : ∀ k, RtB a l (G ++ [g]) k → k ≠ q ∧ dn.ownBlock ≠ some k ∧ k < w.heap.size := fun k hk => by
    rcases hR k hk with hk | hk
    · exact h.sep k hk
    · exact hgk k hk
  refine ⟨⟨hblk, h.dur.kept hs5 (fun k hk hf => hkeep k hk (h.sep k (.inl hf)).1 (h.sep k (.inl hf)).2.1), ?_, ?_, fun i f y hi hy => ?_, fun f hf => ?_, fun k hk => ?_⟩, ⟨ho5.1.trans (hgr.os.trans hb.os), ho5.2.1.trans (hgr.tape.trans hb.tape), ho5.2.2.trans (hgr.output.trans hb.output), hs5, fun k hk hF => ?_, fun k hk => ?_⟩, h.kp82 hkeep⟩
  · rw [cellsG_app, List.length_append]
    exact ownsRow_kept hrow (fun k hk => hoth k (fun e => hne2 (by rw [hk, e])))
  · show (G ++ [g]).length = (M.done ++ [(u, x)]).length
    simp [h.len]
  · have hy : (M.done ++ [(u, x)])[i]? = some y := hy
    by_cases hil : i < G.length
    · rw [List.getElem?_append_left hil] at hi
      rw [List.getElem?_append_left (by rw [← h.len]; exact hil)] at hy
      exact h.is i f y hi hy
    · have hi' := (List.getElem?_eq_some_iff.1 hi).1
      have : i = G.length := by simp at hi'; omega
      subst this
      rw [List.getElem?_append_right (Nat.le_refl _), Nat.sub_self] at hi
      rw [List.getElem?_append_right (Nat.le_of_eq h.len.symm), ← h.len, Nat.sub_self] at hy
      cases hi
      cases hy
      exact his
  · rcases List.mem_append.1 hf with hf | hf
    · exact ⟨(h.bs f hf).1.keptO hs5 (fun k hk hb => hkeep k hk (h.sep k (.inr ⟨f, hf, hb⟩)).1 (h.sep k (.inr ⟨f, hf, hb⟩)).2.1), (h.bs f hf).2⟩
    · rw [List.mem_singleton.1 hf]
      exact ⟨hg.1.keptO hs5 (fun k hk hb => hkeep k hk (hgk k hb).1 (hgk k hb).2.1), hg.2⟩
  · have h2 := hR2 k hk
    refine ⟨h2.1, ?_, Nat.lt_of_lt_of_le h2.2.2 hs5⟩
    rcases hat with e | e
    · rw [e]; exact h2.2.1
    · rw [e]; intro e2; have e3 := Option.some.inj e2; have := hb.size; have := h2.2.2; omega
  · exact hkeep k hk (fun e => hF (.inl (.inl e))) (fun e => hF (.inl (.inr (.inl e))))
  · rcases hk with e | e | e
    · exact .inl (.inl (.inl e))
    · rcases hat with e2 | e2
      · exact .inl (.inl (.inr (.inl (e2 ▸ e))))
      · rw [e2] at e; cases e; exact .inr hb.size
    · rcases hR k e with e | e
      · exact .inl (.inl (.inr (.inr e)))
      · exact .inl (.inr e)
set_option maxHeartbeats 4000000 in
set_option maxRecDepth 100000 in
theorem did_any (q : Nat) (M : Md) (a : Option Addr) (cap : Nat) (l : List Fe) (dn : Value) (G : List Ge) (w : World) (h : RfR w q M a cap l dn G) (g : Ge) (u : Nat) (x : Dd) (hg : Bs w g.a g.d ∧ (g.a = none → g.d = []) ∧ g.d.length ≤ 1048576 ∧ g.d.length ≤ g.cap) (hgk : ∀ k, oB g.a k → k ≠ q ∧ dn.ownBlock ≠ some k ∧ k < w.heap.size) (his : GeIs g u x ∧ GeU g u) (hle : M.left ≤ 1099511627776) (hn : M.done.length + 1 ≤ 2199023255552) : Calls Try.prog 66 #[.pointer (some ⟨q, 0, none⟩), g.v] w fun e w' => e = .returned (.tuple #[]) ∧ ∃ dn', RfR w' q (stepM M x u) a cap l dn' (G ++ [g]) ∧ Fr w w' (fun k => RtF q a l dn G k ∨ oB g.a k) (RtF q a l dn' (G ++ [g])) ∧ Kp82 w w' := by
  have lq := h.blk.lt
  have HB2 : Hid (Below w.heap.size w ((w.alloc (.cells #[.int .i64 g.kd, .string g.nm, .string g.to, .slice g.a g.d.length g.cap] 82)).alloc (.cells #[.int .i64 g.kd, .string g.nm, .string g.to, .slice g.a g.d.length g.cap] 82))) := hidOf ((below1 w _).alloc (by simp) _)
  have HBD : Hid (Below w.heap.size w ((w.alloc (.cells #[.int .i64 g.kd, .string g.nm, .string g.to, .slice g.a g.d.length g.cap] 82)).alloc (.cells #[.int .i64 g.kd, .string g.nm, .string g.to, .slice g.a g.d.length g.cap] 82)).drew) := hidOf ((below1 w _).alloc (by simp) _).drew
  have c1 : (w.alloc (.cells #[.int .i64 g.kd, .string g.nm, .string g.to, .slice g.a g.d.length g.cap] 82)).drew.cell? ⟨q, 1, none⟩ = some dn := ((below1 w _).cell (p := ⟨q, 1, none⟩) lq).trans h.blk.c1
  obtain ⟨b0, b1, b2, b3⟩ := geAt_new w g
  have HS2 : Hid ((fun wz : World => wz.cell? ⟨q, 1, none⟩ = some dn ∧ wz.cell? ⟨w.heap.size, 0, none⟩ = some (.int .i64 g.kd) ∧ wz.cell? ⟨w.heap.size, 1, none⟩ = some (.string g.nm) ∧ wz.cell? ⟨w.heap.size, 2, none⟩ = some (.string g.to) ∧ wz.cell? ⟨w.heap.size, 3, none⟩ = some (.slice g.a g.d.length g.cap)) (((w.alloc (.cells #[.int .i64 g.kd, .string g.nm, .string g.to, .slice g.a g.d.length g.cap] 82)).alloc (.cells #[.int .i64 g.kd, .string g.nm, .string g.to, .slice g.a g.d.length g.cap] 82)).drew)) := hidOf ⟨(HB2.out.cell (p := ⟨q, 1, none⟩) lq).trans h.blk.c1, (geAt_new w g).grow (below1 (w.alloc (.cells #[.int .i64 g.kd, .string g.nm, .string g.to, .slice g.a g.d.length g.cap] 82)) (.cells #[.int .i64 g.kd, .string g.nm, .string g.to, .slice g.a g.d.length g.cap] 82)).drew (by simp)⟩
  have HR2 := hidOf (h.grow HBD.out).row
  have HN2 : Hid (GeAt ((w.alloc (.cells #[.int .i64 g.kd, .string g.nm, .string g.to, .slice g.a g.d.length g.cap] 82)).alloc (.cells #[.int .i64 g.kd, .string g.nm, .string g.to, .slice g.a g.d.length g.cap] 82)).drew (w.heap.size + 1) g) := hidOf (by have h3 := geAt_new (w.alloc (.cells #[.int .i64 g.kd, .string g.nm, .string g.to, .slice g.a g.d.length g.cap] 82)) g; have e : (w.alloc (.cells #[.int .i64 g.kd, .string g.nm, .string g.to, .slice g.a g.d.length g.cap] 82)).heap.size = w.heap.size + 1 := (by simp); rw [e] at h3; exact h3)
  have HLN : Hid (G.length + 1 ≤ 2199023255552) := hidOf (by rw [h.len]; exact hn)
  have HNB : Hid (q < (((w.alloc (.cells #[.int .i64 g.kd, .string g.nm, .string g.to, .slice g.a g.d.length g.cap] 82)).alloc (.cells #[.int .i64 g.kd, .string g.nm, .string g.to, .slice g.a g.d.length g.cap] 82)).drew).heap.size ∧ w.heap.size < (((w.alloc (.cells #[.int .i64 g.kd, .string g.nm, .string g.to, .slice g.a g.d.length g.cap] 82)).alloc (.cells #[.int .i64 g.kd, .string g.nm, .string g.to, .slice g.a g.d.length g.cap] 82)).drew).heap.size ∧ dn.ownBlock ≠ some q ∧ dn.ownBlock ≠ some w.heap.size) := hidOf ⟨Nat.lt_of_lt_of_le lq HBD.out.size, by show w.heap.size < (((w.alloc (.cells #[.int .i64 g.kd, .string g.nm, .string g.to, .slice g.a g.d.length g.cap] 82)).alloc (.cells #[.int .i64 g.kd, .string g.nm, .string g.to, .slice g.a g.d.length g.cap] 82))).heap.size; simp; omega, h.rowNe, fun e => Nat.lt_irrefl _ (h.rowLt _ e)⟩
  have H := hidOf h
  have HG := hidOf hg
  have HGK := hidOf hgk
  have HI := hidOf his
  clear h hg hgk his hn
  unfold Ge.v
  go_enter Try.func66, Try.ntmps66
  go_wp2
  refine wp_region_L (fun wz : World => wz.cell? ⟨q, 1, none⟩ = some dn ∧ wz.cell? ⟨w.heap.size, 0, none⟩ = some (.int .i64 g.kd) ∧ wz.cell? ⟨w.heap.size, 1, none⟩ = some (.string g.nm) ∧ wz.cell? ⟨w.heap.size, 2, none⟩ = some (.string g.to) ∧ wz.cell? ⟨w.heap.size, 3, none⟩ = some (.slice g.a g.d.length g.cap)) 10 (by kernel_rfl) ?_
  have hHeld : (fun wz : World => wz.cell? ⟨q, 1, none⟩ = some dn ∧ wz.cell? ⟨w.heap.size, 0, none⟩ = some (.int .i64 g.kd) ∧ wz.cell? ⟨w.heap.size, 1, none⟩ = some (.string g.nm) ∧ wz.cell? ⟨w.heap.size, 2, none⟩ = some (.string g.to) ∧ wz.cell? ⟨w.heap.size, 3, none⟩ = some (.slice g.a g.d.length g.cap)) _ := ⟨c1, b0, b1, b2, b3⟩
  refine wpAnyL_take (i := 0) (oi := { dst := some 4, op := Op.move (Operand.tmp 0), type := 25, pos := "ref.go:122", after := #[], guard := none }) (v := .pointer (some ⟨q, 0, none⟩)) rfl (by kernel_rfl) (by kernel_rfl) (by kernel_rfl) (by kernel_rfl) (fun _ _ _ h => h) (Or.inl ⟨by rfl, ?_⟩) hHeld ?_
  · (intro w hSw; (try dsimp only at hSw); go_simp)
  try simp only [Act.put, List.setIfInBounds_toArray, List.set_cons_zero, List.set_cons_succ]
  refine wpAnyL_take (i := 1) (oi := { dst := some 5, op := Op.move (Operand.tmp 0), type := 25, pos := "ref.go:122", after := #[], guard := none }) (v := .pointer (some ⟨q, 0, none⟩)) rfl (by kernel_rfl) (by kernel_rfl) (by kernel_rfl) (by kernel_rfl) (fun _ _ _ h => h) (Or.inl ⟨by rfl, ?_⟩) hHeld ?_
  · (intro w hSw; (try dsimp only at hSw); go_simp)
  try simp only [Act.put, List.setIfInBounds_toArray, List.set_cons_zero, List.set_cons_succ]
  refine wpAnyL_take (i := 2) (oi := { dst := some 6, op := Op.nilCheck (Operand.tmp 5), type := 0, pos := "ref.go:122", after := #[{ on := 1, ground := Ground.data }], guard := none }) (v := .pointer (some ⟨q, 0, none⟩)) rfl (by kernel_rfl) (by kernel_rfl) (by kernel_rfl) (by kernel_rfl) (fun _ _ _ h => h) (Or.inl ⟨by rfl, ?_⟩) hHeld ?_
  · (intro w hSw; (try dsimp only at hSw); go_simp)
  try simp only [Act.put, List.setIfInBounds_toArray, List.set_cons_zero, List.set_cons_succ]
  refine wpAnyL_take (i := 3) (oi := { dst := some 7, op := Op.fieldAddr 60 (Operand.tmp 6) 1, type := 0, pos := "ref.go:122", after := #[{ on := 2, ground := Ground.data }], guard := none }) (v := .pointer (some ⟨q, 1, none⟩)) rfl (by kernel_rfl) (by kernel_rfl) (by kernel_rfl) (by kernel_rfl) (fun _ _ _ h => h) (Or.inl ⟨by rfl, ?_⟩) hHeld ?_
  · (intro w hSw; (try dsimp only at hSw); go_simp)
  try simp only [Act.put, List.setIfInBounds_toArray, List.set_cons_zero, List.set_cons_succ]
  refine wpAnyL_take (i := 4) (oi := { dst := some 8, op := Op.load 58 (Operand.tmp 7), type := 58, pos := "ref.go:122", after := #[{ on := 3, ground := Ground.data }], guard := none }) (v := dn) rfl (by kernel_rfl) (by kernel_rfl) (by kernel_rfl) (by kernel_rfl) (fun _ _ _ h => h) (Or.inl ⟨by rfl, ?_⟩) hHeld ?_
  · (intro w hSw; obtain ⟨s1, s2, s3, s4, s5⟩ := hSw; go_simp)
  try simp only [Act.put, List.setIfInBounds_toArray, List.set_cons_zero, List.set_cons_succ]
  refine wpAnyL_take (i := 5) (oi := { dst := some 9, op := Op.load 82 (Operand.tmp 3), type := 82, pos := "ref.go:122", after := #[], guard := none }) (v := g.v) rfl (by kernel_rfl) (by kernel_rfl) (by kernel_rfl) (by kernel_rfl) (fun _ _ _ h => h) (Or.inl ⟨by rfl, ?_⟩) hHeld ?_
  · (intro w hSw; obtain ⟨s1, s2, s3, s4, s5⟩ := hSw; unfold Ge.v; go_simp)
  try simp only [Act.put, List.setIfInBounds_toArray, List.set_cons_zero, List.set_cons_succ]
  refine wpAnyL_one (i := 6) (o := { dst := some 10, op := Op.buildSlice 58 1 #[(0, Operand.tmp 9)], type := 58, pos := "ref.go:122", after := #[{ on := 5, ground := Ground.data }], guard := none }) (by kernel_rfl) rfl (fun K hK => ?_)
  rw [if_pos (by rfl)]
  unfold Ge.v
  go_simp
  refine hK.out _ _ (fun _ => HS2.out) ?_
  clear hK K
  try simp only [Act.put, List.setIfInBounds_toArray, List.set_cons_zero, List.set_cons_succ]
  refine wpAnyL_one (i := 7) (o := { dst := some 11, op := Op.call { callee := Callee.builtin Builtin.append, args := #[Operand.tmp 8, Operand.tmp 10], argTypes := #[58, 58] }, type := 58, pos := "ref.go:122", after := #[{ on := 4, ground := Ground.data }, { on := 6, ground := Ground.data }], guard := none }) (by kernel_rfl) rfl (fun K hK => ?_)
  rw [if_pos (by rfl)]
  refine oper_append82 _ (.tmp 8) (.tmp 10) rfl dn G rfl HR2.out (w.heap.size + 1) 1 g rfl HN2.out HLN.out (fun dn2 w3 hrow hgr hat => ?_)
  obtain ⟨g2, k2, hdn2⟩ := ownsRow_some hrow (Nat.succ_pos _)
  subst hdn2
  have HRW := hidOf hrow
  have HGR := hidOf hgr
  have HAT := hidOf hat
  have HS3 : Hid ((fun wz : World => wz.cell? ⟨q, 1, none⟩ = some dn ∧ wz.cell? ⟨w.heap.size, 0, none⟩ = some (.int .i64 g.kd) ∧ wz.cell? ⟨w.heap.size, 1, none⟩ = some (.string g.nm) ∧ wz.cell? ⟨w.heap.size, 2, none⟩ = some (.string g.to) ∧ wz.cell? ⟨w.heap.size, 3, none⟩ = some (.slice g.a g.d.length g.cap)) w3) := hidOf (did_S HS2.out hgr HNB.out)
  have c1 := HS3.out.1
  have HB3 := hidOf (did_blk H.out HBD.out hgr)
  have lq3 := HB3.out.lt
  have fz3 := HB3.out.fr
  clear hrow hgr hat
  refine hK.out _ _ (fun _ => HS3.out) ?_
  have hHeld := HS3.out
  clear hK K
  try simp only [Act.put, List.setIfInBounds_toArray, List.set_cons_zero, List.set_cons_succ]
  refine wpAnyL_one (i := 8) (o := { dst := some 12, op := Op.nilCheck (Operand.tmp 4), type := 0, pos := "ref.go:122", after := #[{ on := 0, ground := Ground.data }, { on := 0, ground := Ground.phase }, { on := 1, ground := Ground.phase }, { on := 2, ground := Ground.phase }, { on := 3, ground := Ground.phase }, { on := 4, ground := Ground.phase }, { on := 5, ground := Ground.phase }, { on := 6, ground := Ground.phase }, { on := 7, ground := Ground.phase }], guard := none }) (by kernel_rfl) rfl (fun K hK => ?_)
  rw [if_pos (by rfl)]
  go_simp
  refine hK.out _ _ (fun _ => hHeld) ?_
  clear hK K
  try simp only [Act.put, List.setIfInBounds_toArray, List.set_cons_zero, List.set_cons_succ]
  refine wpAnyL_take (i := 9) (oi := { dst := some 13, op := Op.fieldAddr 60 (Operand.tmp 12) 1, type := 0, pos := "ref.go:122", after := #[{ on := 8, ground := Ground.data }, { on := 0, ground := Ground.phase }, { on := 1, ground := Ground.phase }, { on := 2, ground := Ground.phase }, { on := 3, ground := Ground.phase }, { on := 4, ground := Ground.phase }, { on := 5, ground := Ground.phase }, { on := 6, ground := Ground.phase }, { on := 7, ground := Ground.phase }], guard := none }) (v := .pointer (some ⟨q, 1, none⟩)) rfl (by kernel_rfl) (by kernel_rfl) (by kernel_rfl) (by kernel_rfl) (fun _ _ _ h => h) (Or.inl ⟨by rfl, ?_⟩) hHeld ?_
  · (intro w hSw; (try dsimp only at hSw); go_simp)
  try simp only [Act.put, List.setIfInBounds_toArray, List.set_cons_zero, List.set_cons_succ]
  refine wpAnyL_one (i := 10) (o := { dst := none, op := Op.store 58 (Operand.tmp 13) (Operand.tmp 11), type := 0, pos := "ref.go:122", after := #[{ on := 9, ground := Ground.data }, { on := 7, ground := Ground.data }, { on := 7, ground := Ground.chain }, { on := 0, ground := Ground.phase }, { on := 1, ground := Ground.phase }, { on := 2, ground := Ground.phase }, { on := 3, ground := Ground.phase }, { on := 4, ground := Ground.phase }, { on := 5, ground := Ground.phase }, { on := 6, ground := Ground.phase }, { on := 7, ground := Ground.phase }], guard := none }) (by kernel_rfl) rfl (fun K hK => ?_)
  rw [if_pos (by rfl)]
  go_simp
  refine hK.out _ _ (fun h => absurd rfl h) ?_
  clear hK K
  try simp only [Act.put, List.setIfInBounds_toArray, List.set_cons_zero, List.set_cons_succ]
  refine wpAnyL_done (by kernel_rfl) ?_ _
  go_wp2_with (go_at_call 58; refine (counted_any q _ _ M.left _ (rfB_dn HB3.out _) hle).mono ?_; rintro e w5 ⟨rfl, hw5⟩; have HW5 := hidOf hw5; clear hw5)
  go_end0
  obtain ⟨f1, f2, f3⟩ := did_post H.out HBD.out HGR.out HRW.out HAT.out HG.out HGK.out HI.out HW5.out
  exact ⟨rfl, _, f1, f2, f3⟩
end Go.Proofs.Ytkbmfookdhlphaa
