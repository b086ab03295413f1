/- Wgc -/
import Derived.Test.YtocoimjhglackaaGreatQ29
set_option maxHeartbeats 8000000
set_option maxRecDepth 100000
namespace Go.Proofs.YtocoimjhglackaaGreat
section
open Go.RowKit Go.Maps
def wa (d : List UInt8) : List Ax := [.pt d, .sy, .rn, .sy]
def ad (d : List UInt8) : List Ax := [.ap d, .sy]
theorem Fw.fup {fs : FS} (h : Fw fs) {k : Nm} (hk : k = lgN \/ k = nwN) (v : Option (List UInt8)) : Fw (fup fs k v) := fun j hj => by
 rw [zH3] at hj
 split at hj
 · rename_i e; rw [e]; exact hk
 · exact h j hj
theorem Fw.stepA {M : Md} (h : Fw M.files) (x : Ax) : Fw (stepA x M).files := by
 cases x with
 | sy => exact h
 | pt d => exact h.fup (.inr rfl) _
 | rn => exact (h.fup (.inr rfl) _).fup (.inl rfl) _
 | ap d => exact h.fup (.inl rfl) _
theorem Fw.runT {M : Md} (h : Fw M.files) (acts : List Ax) (k : Nat) : Fw (runT acts k M).files := by
 unfold Proofs.YtocoimjhglackaaGreat.runT
 generalize acts.take k = l
 induction l generalizing M with
 | nil => exact h
 | cons x l ih => exact ih (h.stepA x)
theorem kD4 {M : Md} {d : List UInt8} (hd : d.length <= 1048576) : ∀ (k : Nat) (x : Ax), (wa d)[k]? = some x -> okA x (runT (wa d) k M) := by
 intro k x hx
 match k, hx with
 | 0, hx => cases hx; exact hd
 | 1, hx => cases hx; exact trivial
 | 2, hx =>
  cases hx
  show ((fup M.files nwN (some d)) nwN).isSome = true
  unfold fup; simp
 | 3, hx => cases hx; exact trivial
 | k + 4, hx => simp [wa] at hx
theorem kG3 {M : Md} {d : List UInt8} (hd : (cOf M.files lgN).length + d.length <= 1048576) : ∀ (k : Nat) (x : Ax), (ad d)[k]? = some x -> okA x (runT (ad d) k M) := by
 intro k x hx
 match k, hx with
 | 0, hx => cases hx; exact hd
 | 1, hx => cases hx; exact trivial
 | k + 2, hx => simp [ad] at hx
theorem DoP.pre {w w1 : World} {q p cnt : Nat} {F : Nat -> Prop} {acts : List Ax} {M : Md} {e : Ending} {w' : World} (h : DoP w1 q p cnt F acts M e w') (hb : Below w.heap.size w w1) : DoP w q p cnt F acts M e w' := by
 obtain ⟨k, F', h1, h2, h3, h4⟩ := h
 refine ⟨k, F', h1, h2, h3, ?_⟩
 rcases h4 with ⟨a, b, c⟩ | ⟨a, b, c, w2, d, e⟩
 · exact .inl ⟨a, b, (Fr.of_below hb).trans c⟩
 · exact .inr ⟨a, b, c, w2, (Fr.of_below hb).trans d, e⟩
theorem yA3 {w : World} {q p cnt : Nat} {F : Nat -> Prop} {acts : List Ax} {M : Md} {e : Ending} {w' : World} (h : DoP w q p cnt F acts M e w') (hq : w.cell? ⟨q, 0, none⟩ = some (.pointer (some ⟨p, 0, none⟩)) /\ q < w.heap.size /\ ¬ F q) : ∃ E, e = .returned (.int .i64 E) /\ w'.cell? ⟨q, 0, none⟩ = some (.pointer (some ⟨p, 0, none⟩)) /\ ∀ k, k < w.heap.size -> (¬ F k /\ k ≠ q) -> ∀ {v}, w.cell? ⟨k, 0, none⟩ = some v -> w'.cell? ⟨k, 0, none⟩ = some v := by
 obtain ⟨k, F', h1, h2, h3, h4⟩ := h
 rcases h4 with ⟨a, b, c⟩ | ⟨a, b, c, w2, d, e⟩
 · exact ⟨_, b, (c.cellK hq.2.1 hq.2.2).trans hq.1, fun j hj hn v hv => (c.cellK hj hn.1).trans hv⟩
 · subst e
   refine ⟨_, c, ?_, fun j hj hn v hv => ?_⟩
   · rw [World.cell?_setCell_other _ _ _ _ (by simp)]
     exact (d.cellK hq.2.1 hq.2.2).trans hq.1
   · exact (World.cell?_of_block (a := ⟨j, 0, none⟩) (zB3 _ _ _ _ j hn.2)).trans ((d.cellK hj hn.1).trans hv)
theorem zQ0 (q p cnt : Nat) (rf : Bool) (y0 y1 y2 y3 y4 : Value) (a : Option Addr) (n cap : Nat) (d : List UInt8) (M : Md) (F : Nat -> Prop) (w : World) (h : Dsk w p M cnt F)
    (hq : w.heap[q]? = some (.cells #[.pointer (some ⟨p, 0, none⟩), .bool rf, y0, y1, y2, y3, y4] 98 (0, 0))) (nq : ¬ F q) (hn : n = d.length) (hB : Bs w a d) (hnn : a = none -> d = []) (hab : ∀ y, a = some y -> ¬ F y.block /\ y.block < w.heap.size) (hdl : d.length <= 1048576) (hfw : Fw M.files) (hc : cnt + 5 <= 2199023255552) :
    Calls Tryz.prog 38 #[.pointer (some ⟨q, 0, none⟩), .slice a n cap] w (DoP w q p cnt F (wa d) M) := by
 subst hn
 have lq := zA4 hq
 have hFl := h.flt
 obtain ⟨w2, hw2⟩ : ∃ w2, w2 = (w.alloc (.cells #[.pointer (some ⟨q, 0, none⟩)] 29)).alloc (.cells #[.slice a d.length cap] 22) := ⟨_, rfl⟩
 have hB2 : Below w.heap.size w w2 := by rw [hw2]; exact (zB7 w _).alloc (by simp) _
 have hs2 : w2.heap.size = w.heap.size + 2 := by rw [hw2]; simp
 have g1 : w2.heap[w.heap.size]? = some (.cells #[.pointer (some ⟨q, 0, none⟩)] 29 (0, 0)) := by rw [hw2]; exact (Below.heap_alloc _ _ _ (by simp)).trans (heap_alloc_new w _)
 have g2 : w2.heap[w.heap.size + 1]? = some (.cells #[.slice a d.length cap] 22 (0, 0)) := by
  rw [hw2]
  have := heap_alloc_new (w.alloc (.cells #[.pointer (some ⟨q, 0, none⟩)] 29)) (.cells #[.slice a d.length cap] 22)
  rwa [World.size_alloc] at this
 have c1 : w2.cell? ⟨w.heap.size, 0, none⟩ = some (.pointer (some ⟨q, 0, none⟩)) := by rw [cell_of_row _ _ _ _ 29 (0, 0) g1]; rfl
 have c2 : w2.cell? ⟨w.heap.size + 1, 0, none⟩ = some (.slice a d.length cap) := by rw [cell_of_row _ _ _ _ 22 (0, 0) g2]; rfl
 have hq2 : w2.heap[q]? = _ := (hB2.block q lq).trans hq
 have cq2 : w2.cell? ⟨q, 0, none⟩ = some (.pointer (some ⟨p, 0, none⟩)) := by rw [cell_of_row _ _ _ _ 98 (0, 0) hq2]; rfl
 have n1 : ¬ F w.heap.size := fun e => by have := hFl _ e; omega
 have n2 : ¬ F (w.heap.size + 1) := fun e => by have := hFl _ e; omega
 have n3 : ¬ F w2.heap.size := fun e => by have := hFl _ e; omega
 obtain ⟨w3, hw3⟩ : ∃ w3, w3 = (w2.drew.alloc (.cells #[.func (.func 66) #[] #[.pointer (some ⟨w.heap.size, 0, none⟩), .pointer (some ⟨w.heap.size + 1, 0, none⟩)], .func (.func 11) #[.pointer (some ⟨p, 0, none⟩)] #[], .func (.func 68) #[] #[.pointer (some ⟨w.heap.size, 0, none⟩)], .func (.func 11) #[.pointer (some ⟨p, 0, none⟩)] #[]] 27)) := ⟨_, rfl⟩
 have hB3 : Below w2.heap.size w2 w3 := by rw [hw3]; exact (Below.refl _ w2).drew.alloc (Nat.le_refl _) _
 have hB23 := hB2.trans (hB3.mono hB2.size)
 have hs3 : w3.heap.size = w.heap.size + 3 := by rw [hw3]; simp; exact hs2
 have g3 : w3.heap[w2.heap.size]? = some (.cells #[.func (.func 66) #[] #[.pointer (some ⟨w.heap.size, 0, none⟩), .pointer (some ⟨w.heap.size + 1, 0, none⟩)], .func (.func 11) #[.pointer (some ⟨p, 0, none⟩)] #[], .func (.func 68) #[] #[.pointer (some ⟨w.heap.size, 0, none⟩)], .func (.func 11) #[.pointer (some ⟨p, 0, none⟩)] #[]] 27 (0, 0)) := by rw [hw3]; exact heap_alloc_new w2.drew _
 have c13 : w3.cell? ⟨w.heap.size, 0, none⟩ = some (.pointer (some ⟨q, 0, none⟩)) := (hB3.cell (p := ⟨w.heap.size, 0, none⟩) (by show w.heap.size < _; omega)).trans c1
 have c23 : w3.cell? ⟨w.heap.size + 1, 0, none⟩ = some (.slice a d.length cap) := (hB3.cell (p := ⟨w.heap.size + 1, 0, none⟩) (by show w.heap.size + 1 < _; omega)).trans c2
 have hq3 : w3.heap[q]? = _ := (hB3.block q (by omega)).trans hq2
 have cq3 : w3.cell? ⟨q, 0, none⟩ = some (.pointer (some ⟨p, 0, none⟩)) := by rw [cell_of_row _ _ _ _ 98 (0, 0) hq3]; rfl
 have HDO := zA0 (xP1 q p cnt w2.heap.size rf y0 y1 y2 y3 y4 (wa d) [.func (.func 66) #[] #[.pointer (some ⟨w.heap.size, 0, none⟩), .pointer (some ⟨w.heap.size + 1, 0, none⟩)], .func (.func 11) #[.pointer (some ⟨p, 0, none⟩)] #[], .func (.func 68) #[] #[.pointer (some ⟨w.heap.size, 0, none⟩)], .func (.func 11) #[.pointer (some ⟨p, 0, none⟩)] #[]] 4 M F w3 (h.below hB23) hq3 nq rfl rfl (fun j v hv => by rw [Nat.zero_add, cell_of_row _ _ _ _ 27 (0, 0) g3]; simpa using hv) (by omega) n3
  (fun i v x hv hx => by
   match i, hv, hx with
   | 0, hv, hx => cases hv; cases hx; exact ⟨_, _, a, cap, rfl, c13, by omega, n1, c23, by omega, n2, hB.grow hB23, hnn, fun y hy => ⟨(hab y hy).1, by have := (hab y hy).2; omega⟩⟩
   | 1, hv, hx => cases hv; cases hx; rfl
   | 2, hv, hx => cases hv; cases hx; exact ⟨_, rfl, c13, by omega, n1⟩
   | 3, hv, hx => cases hv; cases hx; rfl
   | k + 4, hv, hx => simp [wa] at hx)
  (fun k => hfw.runT _ k) (kD4 hdl) (by simp [wa]; omega) (by simp [wa]))
 rw [hw3] at HDO
 have BW : Hid (Below w.heap.size w (w2.drew.alloc (.cells #[.func (.func 66) #[] #[.pointer (some ⟨w.heap.size, 0, none⟩), .pointer (some ⟨w.heap.size + 1, 0, none⟩)], .func (.func 11) #[.pointer (some ⟨p, 0, none⟩)] #[], .func (.func 68) #[] #[.pointer (some ⟨w.heap.size, 0, none⟩)], .func (.func 11) #[.pointer (some ⟨p, 0, none⟩)] #[]] 27))) := zA0 (by rw [<- hw3]; exact hB23)
 have C12 := zA0 c1
 have CQ2 := zA0 cq2
 have C13 : Hid (((w2.drew.alloc (.cells #[.func (.func 66) #[] #[.pointer (some ⟨w.heap.size, 0, none⟩), .pointer (some ⟨w.heap.size + 1, 0, none⟩)], .func (.func 11) #[.pointer (some ⟨p, 0, none⟩)] #[], .func (.func 68) #[] #[.pointer (some ⟨w.heap.size, 0, none⟩)], .func (.func 11) #[.pointer (some ⟨p, 0, none⟩)] #[]] 27))).cell? ⟨w.heap.size, 0, none⟩ = some (.pointer (some ⟨q, 0, none⟩))) := zA0 (by rw [<- hw3]; exact c13)
 have CQ3 : Hid (((w2.drew.alloc (.cells #[.func (.func 66) #[] #[.pointer (some ⟨w.heap.size, 0, none⟩), .pointer (some ⟨w.heap.size + 1, 0, none⟩)], .func (.func 11) #[.pointer (some ⟨p, 0, none⟩)] #[], .func (.func 68) #[] #[.pointer (some ⟨w.heap.size, 0, none⟩)], .func (.func 11) #[.pointer (some ⟨p, 0, none⟩)] #[]] 27))).cell? ⟨q, 0, none⟩ = some (.pointer (some ⟨p, 0, none⟩)) /\ q < ((w2.drew.alloc (.cells #[.func (.func 66) #[] #[.pointer (some ⟨w.heap.size, 0, none⟩), .pointer (some ⟨w.heap.size + 1, 0, none⟩)], .func (.func 11) #[.pointer (some ⟨p, 0, none⟩)] #[], .func (.func 68) #[] #[.pointer (some ⟨w.heap.size, 0, none⟩)], .func (.func 11) #[.pointer (some ⟨p, 0, none⟩)] #[]] 27))).heap.size /\ ¬ F q) := zA0 (by rw [<- hw3]; exact ⟨cq3, by omega, nq⟩)
 have LC13 : Hid (w.heap.size < ((w2.drew.alloc (.cells #[.func (.func 66) #[] #[.pointer (some ⟨w.heap.size, 0, none⟩), .pointer (some ⟨w.heap.size + 1, 0, none⟩)], .func (.func 11) #[.pointer (some ⟨p, 0, none⟩)] #[], .func (.func 68) #[] #[.pointer (some ⟨w.heap.size, 0, none⟩)], .func (.func 11) #[.pointer (some ⟨p, 0, none⟩)] #[]] 27))).heap.size) := zA0 (by rw [<- hw3]; omega)
 have NC1 : Hid (¬ F w.heap.size /\ w.heap.size ≠ q) := zA0 ⟨n1, by omega⟩
 have HW2 := zA0 hw2
 have HS2 := zA0 hs2
 clear hw3 hB2 hs2 g1 g2 c1 c2 hq2 cq2 n1 n2 n3 hB3 hB23 hs3 g3 c13 c23 hq3 cq3 h hq nq hB hnn hab hdl hfw hc hFl hw2
 generalize d.length = dn at *
 go_enter Tryz.func38, Tryz.ntmps38
 go_wp2
 rw [<- HW2.out]
 clear HW2
 refine wp_region_held_drew (S := fun wz : World => wz.cell? ⟨w.heap.size, 0, none⟩ = some (.pointer (some ⟨q, 0, none⟩)) /\ wz.cell? ⟨q, 0, none⟩ = some (.pointer (some ⟨p, 0, none⟩))) (by kernel_rfl) ⟨C12.out, CQ2.out⟩ (fun hHeld => ?_)
 refine wpAnyH_take (i := 0) (oi := { dst := some 5, op := Op.load 29 (Operand.tmp 2), type := 29, pos := "wal.go:110", after := #[], guard := none }) (v := .pointer (some ⟨q, 0, none⟩)) rfl (by kernel_rfl) (by kernel_rfl) (by kernel_rfl) (fun _ _ _ h => h) (Or.inl ⟨by rfl, ?_⟩) hHeld ?_
 · (intro w hSw; obtain ⟨s1, s2⟩ := hSw; go_simp)
 try simp only [Act.put, List.setIfInBounds_toArray, List.set_cons_zero, List.set_cons_succ]
 refine wpAnyH_take (i := 1) (oi := { dst := some 6, op := Op.makeFunc (Fn.func 66) #[] #[Operand.tmp 2, Operand.tmp 3], type := 27, pos := "wal.go:110", after := #[], guard := none }) (v := .func (.func 66) #[] #[.pointer (some ⟨w.heap.size, 0, none⟩), .pointer (some ⟨w.heap.size + 1, 0, none⟩)]) rfl (by kernel_rfl) (by kernel_rfl) (by kernel_rfl) (fun _ _ _ h => h) (Or.inl ⟨by rfl, ?_⟩) hHeld ?_
 · (intro w hSw; (try dsimp only at hSw); go_simp)
 try simp only [Act.put, List.setIfInBounds_toArray, List.set_cons_zero, List.set_cons_succ]
 refine wpAnyH_take (i := 2) (oi := { dst := some 7, op := Op.load 29 (Operand.tmp 2), type := 29, pos := "wal.go:110", after := #[], guard := none }) (v := .pointer (some ⟨q, 0, none⟩)) rfl (by kernel_rfl) (by kernel_rfl) (by kernel_rfl) (fun _ _ _ h => h) (Or.inl ⟨by rfl, ?_⟩) hHeld ?_
 · (intro w hSw; obtain ⟨s1, s2⟩ := hSw; go_simp)
 try simp only [Act.put, List.setIfInBounds_toArray, List.set_cons_zero, List.set_cons_succ]
 refine wpAnyH_take (i := 3) (oi := { dst := some 8, op := Op.nilCheck (Operand.tmp 7), type := 0, pos := "wal.go:110", after := #[{ on := 2, ground := Ground.data }], guard := none }) (v := .pointer (some ⟨q, 0, none⟩)) rfl (by kernel_rfl) (by kernel_rfl) (by kernel_rfl) (fun _ _ _ h => h) (Or.inl ⟨by rfl, ?_⟩) hHeld ?_
 · (intro w hSw; (try dsimp only at hSw); go_simp)
 try simp only [Act.put, List.setIfInBounds_toArray, List.set_cons_zero, List.set_cons_succ]
 refine wpAnyH_take (i := 4) (oi := { dst := some 9, op := Op.fieldAddr 98 (Operand.tmp 8) 0, type := 0, pos := "wal.go:110", after := #[{ on := 3, ground := Ground.data }], guard := none }) (v := .pointer (some ⟨q, 0, none⟩)) rfl (by kernel_rfl) (by kernel_rfl) (by kernel_rfl) (fun _ _ _ h => h) (Or.inl ⟨by rfl, ?_⟩) hHeld ?_
 · (intro w hSw; (try dsimp only at hSw); go_simp)
 try simp only [Act.put, List.setIfInBounds_toArray, List.set_cons_zero, List.set_cons_succ]
 refine wpAnyH_take (i := 5) (oi := { dst := some 10, op := Op.load 23 (Operand.tmp 9), type := 23, pos := "wal.go:110", after := #[{ on := 4, ground := Ground.data }], guard := none }) (v := .pointer (some ⟨p, 0, none⟩)) rfl (by kernel_rfl) (by kernel_rfl) (by kernel_rfl) (fun _ _ _ h => h) (Or.inl ⟨by rfl, ?_⟩) hHeld ?_
 · (intro w hSw; obtain ⟨s1, s2⟩ := hSw; go_simp)
 try simp only [Act.put, List.setIfInBounds_toArray, List.set_cons_zero, List.set_cons_succ]
 refine wpAnyH_take (i := 6) (oi := { dst := some 11, op := Op.makeFunc (Fn.func 11) #[Operand.tmp 10] #[], type := 27, pos := "wal.go:110", after := #[{ on := 5, ground := Ground.data }], guard := none }) (v := .func (.func 11) #[.pointer (some ⟨p, 0, none⟩)] #[]) rfl (by kernel_rfl) (by kernel_rfl) (by kernel_rfl) (fun _ _ _ h => h) (Or.inl ⟨by rfl, ?_⟩) hHeld ?_
 · (intro w hSw; (try dsimp only at hSw); go_simp)
 try simp only [Act.put, List.setIfInBounds_toArray, List.set_cons_zero, List.set_cons_succ]
 refine wpAnyH_take (i := 7) (oi := { dst := some 12, op := Op.makeFunc (Fn.func 68) #[] #[Operand.tmp 2], type := 27, pos := "wal.go:110", after := #[], guard := none }) (v := .func (.func 68) #[] #[.pointer (some ⟨w.heap.size, 0, none⟩)]) rfl (by kernel_rfl) (by kernel_rfl) (by kernel_rfl) (fun _ _ _ h => h) (Or.inl ⟨by rfl, ?_⟩) hHeld ?_
 · (intro w hSw; (try dsimp only at hSw); go_simp)
 try simp only [Act.put, List.setIfInBounds_toArray, List.set_cons_zero, List.set_cons_succ]
 refine wpAnyH_take (i := 8) (oi := { dst := some 13, op := Op.load 29 (Operand.tmp 2), type := 29, pos := "wal.go:110", after := #[], guard := none }) (v := .pointer (some ⟨q, 0, none⟩)) rfl (by kernel_rfl) (by kernel_rfl) (by kernel_rfl) (fun _ _ _ h => h) (Or.inl ⟨by rfl, ?_⟩) hHeld ?_
 · (intro w hSw; obtain ⟨s1, s2⟩ := hSw; go_simp)
 try simp only [Act.put, List.setIfInBounds_toArray, List.set_cons_zero, List.set_cons_succ]
 refine wpAnyH_take (i := 9) (oi := { dst := some 14, op := Op.nilCheck (Operand.tmp 13), type := 0, pos := "wal.go:110", after := #[{ on := 8, ground := Ground.data }], guard := none }) (v := .pointer (some ⟨q, 0, none⟩)) rfl (by kernel_rfl) (by kernel_rfl) (by kernel_rfl) (fun _ _ _ h => h) (Or.inl ⟨by rfl, ?_⟩) hHeld ?_
 · (intro w hSw; (try dsimp only at hSw); go_simp)
 try simp only [Act.put, List.setIfInBounds_toArray, List.set_cons_zero, List.set_cons_succ]
 refine wpAnyH_take (i := 10) (oi := { dst := some 15, op := Op.fieldAddr 98 (Operand.tmp 14) 0, type := 0, pos := "wal.go:110", after := #[{ on := 9, ground := Ground.data }], guard := none }) (v := .pointer (some ⟨q, 0, none⟩)) rfl (by kernel_rfl) (by kernel_rfl) (by kernel_rfl) (fun _ _ _ h => h) (Or.inl ⟨by rfl, ?_⟩) hHeld ?_
 · (intro w hSw; (try dsimp only at hSw); go_simp)
 try simp only [Act.put, List.setIfInBounds_toArray, List.set_cons_zero, List.set_cons_succ]
 refine wpAnyH_take (i := 11) (oi := { dst := some 16, op := Op.load 23 (Operand.tmp 15), type := 23, pos := "wal.go:110", after := #[{ on := 10, ground := Ground.data }], guard := none }) (v := .pointer (some ⟨p, 0, none⟩)) rfl (by kernel_rfl) (by kernel_rfl) (by kernel_rfl) (fun _ _ _ h => h) (Or.inl ⟨by rfl, ?_⟩) hHeld ?_
 · (intro w hSw; obtain ⟨s1, s2⟩ := hSw; go_simp)
 try simp only [Act.put, List.setIfInBounds_toArray, List.set_cons_zero, List.set_cons_succ]
 refine wpAnyH_take (i := 12) (oi := { dst := some 17, op := Op.makeFunc (Fn.func 11) #[Operand.tmp 16] #[], type := 27, pos := "wal.go:110", after := #[{ on := 11, ground := Ground.data }], guard := none }) (v := .func (.func 11) #[.pointer (some ⟨p, 0, none⟩)] #[]) rfl (by kernel_rfl) (by kernel_rfl) (by kernel_rfl) (fun _ _ _ h => h) (Or.inl ⟨by rfl, ?_⟩) hHeld ?_
 · (intro w hSw; (try dsimp only at hSw); go_simp)
 try simp only [Act.put, List.setIfInBounds_toArray, List.set_cons_zero, List.set_cons_succ]
 refine wpAnyH_ready (rs := [13]) (by kernel_rfl) (by simp) ?_
 refine AllReadyH.cons (o := { dst := some 18, op := Op.buildSlice 155 4 #[(0, Operand.tmp 6), (1, Operand.tmp 11), (2, Operand.tmp 12), (3, Operand.tmp 17)], type := 155, pos := "wal.go:110", after := #[{ on := 1, ground := Ground.data }, { on := 6, ground := Ground.data }, { on := 7, ground := Ground.data }, { on := 12, ground := Ground.data }], guard := none }) rfl (fun K hK => ?_) AllReadyH.nil
 go_simp
 have s4 : (fun wz : World => wz.cell? ⟨w.heap.size, 0, none⟩ = some (.pointer (some ⟨q, 0, none⟩)) /\ wz.cell? ⟨q, 0, none⟩ = some (.pointer (some ⟨p, 0, none⟩))) (w2.drew.alloc (.cells #[.func (.func 66) #[] #[.pointer (some ⟨w.heap.size, 0, none⟩), .pointer (some ⟨w.heap.size + 1, 0, none⟩)], .func (.func 11) #[.pointer (some ⟨p, 0, none⟩)] #[], .func (.func 68) #[] #[.pointer (some ⟨w.heap.size, 0, none⟩)], .func (.func 11) #[.pointer (some ⟨p, 0, none⟩)] #[]] 27)) := ⟨C13.out, CQ3.out.1⟩
 refine hK.out _ _ s4 (fun hHeld1 => ?_)
 clear hK K
 try simp only [Act.put, List.setIfInBounds_toArray, List.set_cons_zero, List.set_cons_succ]
 refine wpAnyH_ready (rs := [14]) (by kernel_rfl) (by simp) ?_
 refine AllReadyH.cons (o := { dst := some 19, op := Op.call { callee := Callee.value (Operand.func 65), args := #[Operand.tmp 5, Operand.tmp 18], argTypes := #[29, 155] }, type := 25, pos := "wal.go:110", after := #[{ on := 0, ground := Ground.data }, { on := 13, ground := Ground.data }], guard := none }) rfl (fun K hK => ?_) AllReadyH.nil
 go_simp
 refine Calls.mono HDO.out ?_
 rintro e w5 hdo
 have HD := zA0 (hdo.pre BW.out)
 obtain ⟨EE, hEE, s5⟩ := yA3 hdo CQ3.out
 subst hEE
 have s6 : (fun wz : World => wz.cell? ⟨w.heap.size, 0, none⟩ = some (.pointer (some ⟨q, 0, none⟩)) /\ wz.cell? ⟨q, 0, none⟩ = some (.pointer (some ⟨p, 0, none⟩))) w5 := ⟨s5.2 _ LC13.out NC1.out C13.out, s5.1⟩
 clear hdo s5
 refine hK.out _ _ s6 (fun hHeld2 => ?_)
 clear hK K
 try simp only [Act.put, List.setIfInBounds_toArray, List.set_cons_zero, List.set_cons_succ]
 refine wpAnyH_take (i := 15) (oi := { dst := some 4, op := Op.assign (Operand.tmp 19), type := 25, pos := "wal.go:110", after := #[{ on := 14, ground := Ground.data }, { on := 14, ground := Ground.chain }, { on := 0, ground := Ground.phase }, { on := 1, ground := Ground.phase }, { on := 2, ground := Ground.phase }, { on := 3, ground := Ground.phase }, { on := 4, ground := Ground.phase }, { on := 5, ground := Ground.phase }, { on := 6, ground := Ground.phase }, { on := 7, ground := Ground.phase }, { on := 8, ground := Ground.phase }, { on := 9, ground := Ground.phase }, { on := 10, ground := Ground.phase }, { on := 11, ground := Ground.phase }, { on := 12, ground := Ground.phase }, { on := 13, ground := Ground.phase }, { on := 14, ground := Ground.phase }], guard := none }) (v := .int .i64 EE) rfl (by kernel_rfl) (by kernel_rfl) (by kernel_rfl) (fun _ _ _ h => h) (Or.inl ⟨by rfl, ?_⟩) hHeld2 ?_
 · (intro w hSw; (try dsimp only at hSw); go_simp)
 try simp only [Act.put, List.setIfInBounds_toArray, List.set_cons_zero, List.set_cons_succ]
 refine wpAnyH_done (by kernel_rfl) ?_ _
 go_wp2
 go_ret
 exact HD.out
end
end Go.Proofs.YtocoimjhglackaaGreat
