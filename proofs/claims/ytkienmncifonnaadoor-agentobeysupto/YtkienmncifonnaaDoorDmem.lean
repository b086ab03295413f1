/- A disk in memory: its two maps of files, what was done, how much is left; the small calls. -/
import Derived.Test.YtkienmncifonnaaDoorDnm
import Derived.Maps.OwnSet
import Derived.WalkSpells
import Derived.StringKeys
namespace Go.Proofs.YtkienmncifonnaaDoor
open Go.RowKit Go.Maps

/- a map's element is told by itself -/
def RV (v : Value) : Option (DataW Value × List MemPlace) := some (.held v, [])
theorem law9 : Keyed Tryd.prog 9 := string_keyed Tryd.underlying9
def MapR (w : World) (b n : Nat) (D : DataW Value) : Prop := w.ownsMap Tryd.prog 9 RV b n D
def kOf (s : ByteArray) : Lit := .string s.data.toList
theorem key_of (s : ByteArray) (h : s.size ≤ maxLen) : keyOf Tryd.prog 9 (.string s) = some (kOf s) := Go.WideMaps.keyOf_string_mk Tryd.underlying9 h
/- the disk at block p: the maps at bF and bD, the row of what was done, what is left -/
def DskB (w : World) (p bF bD : Nat) (dn : Value) (left : Int) : Prop := w.heap[p]? = some (.cells #[.map (some bF), .map (some bD), dn, .int .i64 left] 82 (0, 0))
theorem DskB.c0 {w : World} {p bF bD : Nat} {dn : Value} {left : Int} (h : DskB w p bF bD dn left) : w.cell? ⟨p, 0, none⟩ = some (.map (some bF)) := by rw [cell_of_row w p 0 _ 82 (0, 0) h]; rfl
theorem DskB.c1 {w : World} {p bF bD : Nat} {dn : Value} {left : Int} (h : DskB w p bF bD dn left) : w.cell? ⟨p, 1, none⟩ = some (.map (some bD)) := by rw [cell_of_row w p 1 _ 82 (0, 0) h]; rfl
theorem DskB.c2 {w : World} {p bF bD : Nat} {dn : Value} {left : Int} (h : DskB w p bF bD dn left) : w.cell? ⟨p, 2, none⟩ = some dn := by rw [cell_of_row w p 2 _ 82 (0, 0) h]; rfl
theorem DskB.c3 {w : World} {p bF bD : Nat} {dn : Value} {left : Int} (h : DskB w p bF bD dn left) : w.cell? ⟨p, 3, none⟩ = some (.int .i64 left) := by rw [cell_of_row w p 3 _ 82 (0, 0) h]; rfl
theorem DskB.lt {w : World} {p bF bD : Nat} {dn : Value} {left : Int} (h : DskB w p bF bD dn left) : p < w.heap.size := (Array.getElem?_eq_some_iff.1 h).1
theorem DskB.fr {w : World} {p bF bD : Nat} {dn : Value} {left : Int} (h : DskB w p bF bD dn left) (o : Nat) : w.frozen? ⟨p, o, none⟩ = false := by
  have h' : w.heap[p]? = _ := h
  simp [World.frozen?, h']

set_option maxHeartbeats 400000 in
theorem isCut_any (p bF bD : Nat) (dn : Value) (left : Int) (w : World) (h : DskB w p bF bD dn left) : Calls Tryd.prog 49 #[.pointer (some ⟨p, 0, none⟩)] w fun e w' => e = .returned (.bool (decide (left = 0))) ∧ w' = w := by
  have c3 := h.c3
  have hp := h.lt
  clear h
  by_cases hl : left = 0
  · subst hl
    go_enter Tryd.func49, Tryd.ntmps49
    go_wp2
    go_ret
    exact ⟨rfl, rfl⟩
  · have e : decide (left = 0) = false := by simp [hl]
    have e2 : (left == 0) = false := by simp [hl]
    rw [e]
    go_enter Tryd.func49, Tryd.ntmps49
    go_wp2
    go_ret
    exact ⟨rfl, rfl⟩
theorem dskB_left {w : World} {p bF bD : Nat} {dn : Value} {left : Int} (h : DskB w p bF bD dn left) (n : Int) : DskB (w.setCell ⟨p, 3, none⟩ (.int .i64 n)) p bF bD dn n := by
  have h' : w.heap[p]? = _ := h
  show _ = _
  rw [heap_setCell_same w p 3 _ 82 _ h']
  rfl
set_option maxHeartbeats 400000 in
theorem countOne_any (p bF bD : Nat) (dn : Value) (left : Int) (w : World) (hd : DskB w p bF bD dn left) (hb : left ≤ 1099511627776) : Calls Tryd.prog 52 #[.pointer (some ⟨p, 0, none⟩)] w fun e w' => e = .returned (.tuple #[]) ∧ w' = (if 0 < left then w.setCell ⟨p, 3, none⟩ (.int .i64 (left - 1)) else w) := by
  have c3 := hd.c3
  have f3 := hd.fr 3
  have hp := hd.lt
  clear hd
  by_cases hl : 0 < left
  · rw [if_pos hl]
    go_enter Tryd.func52, Tryd.ntmps52
    go_wp2
    go_end0
    exact ⟨rfl, rfl⟩
  · rw [if_neg hl]
    go_enter Tryd.func52, Tryd.ntmps52
    go_wp2
    go_end0
    exact ⟨rfl, rfl⟩
set_option maxHeartbeats 800000 in
theorem has_any (p bF bD n : Nat) (D : DataW Value) (dn : Value) (left : Int) (s : ByteArray) (w : World) (hd : DskB w p bF bD dn left) (hm : MapR w bF n D) (hs : s.size ≤ maxLen) : Calls Tryd.prog 64 #[.pointer (some ⟨p, 0, none⟩), .string s] w fun e w' => e = .returned (.bool (Maps.has D (kOf s))) ∧ w' = w := by
  have c0 := hd.c0
  have hp := hd.lt
  obtain ⟨v, ps, hrun, hv⟩ := World.ownsMap.look_ok (t := 79) (e := 38) hm law9 Tryd.underlying79 (z := .slice none 0 0) (Tryd.zeroValue38 w) (zd := .held (.slice none 0 0)) (zp := []) rfl (key_of s hs)
  clear hd hm hv
  go_enter Tryd.func64, Tryd.ntmps64
  go_wp2
  go_ret
  exact ⟨rfl, rfl⟩
end Go.Proofs.YtkienmncifonnaaDoor
