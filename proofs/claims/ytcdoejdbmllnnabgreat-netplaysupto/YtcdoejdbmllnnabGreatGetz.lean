/- What GetCmd returns for 27 zero bytes: the zero command, and true. -/
import Derived.Test.YtcdoejdbmllnnabGreatRzer
namespace Go.Proofs.YtcdoejdbmllnnabGreat
open Go.RowKit

theorem alloc50 (w : World) : (Instr.alloc 45 true (.tuple #[])).run Tryz.prog w = .ok (.pointer (some ⟨w.heap.size, 0, none⟩)) (w.alloc (.cells Zcmd 45)) := by kernel_rfl

theorem cmd_rz (p b m k : Nat) (w : World) (hm : m = k + 27) (h : RD w p b m) : Calls Tryz.prog 68 #[.pointer (some ⟨p, 0, none⟩)] w fun e w' => e = .returned (.agg Zcmd) ∧ RD w' p b k ∧ RS w w' p := cmd_r p b m k w hm h

theorem Zi : (Tryz.prog.info? 45).map (·.size) = some Zcmd.size := by kernel_rfl
theorem Zo : Zcmd.all (·.oneCell') = true := by kernel_rfl

theorem wpList_store_rowF {ops : Array Oper} {rest : List Oper} {o : Oper} {a : Act} {w : World} {Q : Exit → Act → World → Prop} (hgd : o.guard = none) (ty : TypeId) (x y : Operand) (ho : o.op = .store ty x y)
    (g : Nat) (cells : Array Value) (hx : a.eval x = .pointer (some ⟨g, 0, none⟩)) (hy : a.eval y = .agg cells)
    (t : TypeId) (old : Array Value) (hg : w.heap[g]? = some (.cells old t (0, 0))) (hi : (Tryz.prog.info? ty).map (·.size) = some cells.size)
    (hold : old.size = cells.size) (h1 : cells.all (·.oneCell') = true)
    (h : ∀ w2, Hid (w2 = w.setRow g cells) → wpList Tryz.prog ops Q rest (a.put o.dst undef) w2) : wpList Tryz.prog ops Q (o :: rest) a w :=
  wpList_store_row hgd ty x y ho g cells hx hy t old hg hi hold h1 (h _ rfl)

theorem bat_zs (k j : Nat) : bat (zs k) j = 0 := by
  unfold bat bn zs
  rw [List.getD_eq_getElem?_getD, List.getElem?_replicate]
  split <;> rfl

theorem rd_new (w : World) (g cap n : Nat) (hn : n = w.heap.size) (h : Own w (.slice (some ⟨g, 0, none⟩) 27 cap) (zs 27)) :
    RD (w.alloc (.cells #[.slice (some ⟨g, 0, none⟩) 27 cap, .bool false] 90)) n g 27 := by
  subst hn
  have hg := h.lt g rfl
  obtain ⟨a, c, e, hb⟩ := h.form
  rw [zs_length] at e hb
  cases e
  obtain ⟨b, off, e, hlt, hc⟩ := (hb (by omega)).2 (by simp [zs])
  cases e
  have hcap : 27 ≤ cap := by
    rcases h with ⟨h, _⟩ | ⟨g', cap', cur, h, _, hl, _⟩
    · cases h
    · rw [zs_length] at h hl; cases h; exact hl
  refine ⟨by simp, by omega, by simp; omega, some ⟨g, 0, none⟩, cap, ?_, ?_, ?_, ?_, hcap, by omega, fun _ => ⟨0, rfl, fun j hj => ?_⟩⟩
  · rw [World.cell?_alloc_at _ _ _ _ rfl]; rfl
  · rw [World.cell?_alloc_at _ _ _ _ rfl]; rfl
  · exact World.frozen?_alloc_at _ _ _ _ rfl
  · exact World.frozen?_alloc_at _ _ _ _ rfl
  · rw [World.cell?_alloc_past _ _ _ hlt, hc j (by rw [zs_length]; exact hj), bat_zs]

end Go.Proofs.YtcdoejdbmllnnabGreat
