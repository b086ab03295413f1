/- Several texts in one (wip/gen/group.py). -/
import Derived.Test.YtkbmfookdhlphaaRwi
import Derived.Deep.RegionHeld3
/- Something done on files, by the document: put, remove. -/
namespace Go.Proofs.Ytkbmfookdhlphaa
open Go.RowKit

set_option maxHeartbeats 4000000 in
set_option maxRecDepth 100000 in
theorem rdo_pt (a : Option Addr) (cap : Nat) (l : List Fe) (nm to : ByteArray) (xa : Option Addr) (xc : Nat) (xd : List UInt8) (w : World) (h : Fls w a l) (hl : l.length ≤ 1048576) : Calls Try.prog 60 #[.slice a l.length cap, .agg #[.int .i64 1, .string nm, .string to, .slice xa xd.length xc]] w fun e w' => ∃ v, e = .returned v ∧ w'.ownsRow w.heap.size 64 2 v (wi l ⟨nm, xa, xc, xd⟩).length (cellsF (wi l ⟨nm, xa, xc, xd⟩)) ∧ Below w.heap.size w w' := by
  have HF := hidOf h
  clear h
  go_enter Try.func60, Try.ntmps60
  go_wp2_with (first
    | (go_at_call 56; refine (find_any a cap l nm _ (HF.out.grow (below1 _ _)) hl).mono ?_; rintro e w1 ⟨rfl, rfl⟩)
    | (go_at_call 67; refine (with_any a cap l ⟨nm, xa, xc, xd⟩ _ (HF.out.grow (below1 _ _)) hl).mono ?_; rintro e w2 ⟨v, rfl, hr, hb⟩; have HR := hidOf hr; have HB := hidOf ((below1 w _).trans (hb.mono (by simp))); clear hr hb))
  go_ret
  exact ⟨_, rfl, row_mono HR.out (by simp), HB.out⟩
set_option maxHeartbeats 4000000 in
set_option maxRecDepth 100000 in
theorem rdo_rm (a : Option Addr) (cap : Nat) (l : List Fe) (nm to : ByteArray) (xa : Option Addr) (xc : Nat) (xd : List UInt8) (w : World) (h : Fls w a l) (hl : l.length ≤ 1048576) : Calls Try.prog 60 #[.slice a l.length cap, .agg #[.int .i64 2, .string nm, .string to, .slice xa xd.length xc]] w fun e w' => ∃ v, e = .returned v ∧ w'.ownsRow w.heap.size 64 2 v (wo l nm).length (cellsF (wo l nm)) ∧ Below w.heap.size w w' := by
  have HF := hidOf h
  clear h
  go_enter Try.func60, Try.ntmps60
  go_wp2_with (first
    | (go_at_call 56; refine (find_any a cap l nm _ (HF.out.grow (below1 _ _)) hl).mono ?_; rintro e w1 ⟨rfl, rfl⟩)
    | (go_at_call 68; refine (without_any a cap l nm _ (HF.out.grow (below1 _ _)) hl).mono ?_; rintro e w2 ⟨v, rfl, hr, hb⟩; have HR := hidOf hr; have HB := hidOf ((below1 w _).trans (hb.mono (by simp))); clear hr hb))
  go_ret
  exact ⟨_, rfl, row_mono HR.out (by simp), HB.out⟩
end Go.Proofs.Ytkbmfookdhlphaa

/- Something done on files, by the document: append. -/
namespace Go.Proofs.Ytkbmfookdhlphaa
open Go.RowKit

theorem SlR.bs {w : World} {za : Option Addr} {zc : Nat} {d : List UInt8} (h : SlR w (.slice za d.length zc) d) (hd : d.length ≤ 211106232532992) : Bs w za d ∧ (za = none → d = []) := by
  rcases h with ⟨e, rfl⟩ | ⟨g, cap, cur, e, hg, h1, h2, h3, h4⟩
  · exact ⟨⟨by simp, fun h => absurd rfl h⟩, fun _ => rfl⟩
  · cases e
    refine ⟨⟨hd, fun _ => ⟨g, 0, rfl, heap_lt hg, fun j hj => ?_⟩⟩, fun e => by cases e⟩
    rw [cell_of_row w g _ cur 5 (0, 0) hg, Nat.zero_add]
    have := vals_get d j hj
    rw [← h4, List.getElem?_take, if_pos hj] at this
    rw [← Array.getElem?_toList, this]
theorem App.belowN {w w' : World} {v v' : Value} (h : App w w' none v v') {B : Nat} (hB : B ≤ w.heap.size) (hv : ∀ k, v.ownBlock = some k → B ≤ k) : Below B w w' :=
  ⟨h.os, h.tape, h.output, h.size, fun k hk => h.block k (by omega) (by simp) (fun _ e => by have := hv k e.symm; omega)⟩
set_option maxHeartbeats 4000000 in
set_option maxRecDepth 100000 in
theorem rdo_ap0 (a : Option Addr) (cap : Nat) (l : List Fe) (nm to : ByteArray) (xa : Option Addr) (xc : Nat) (xd : List UInt8) (w : World) (h : Fls w a l) (hl : l.length ≤ 1048576) (hx : Bs w xa xd) (hno : fiI l nm = -1) : Calls Try.prog 60 #[.slice a l.length cap, .agg #[.int .i64 0, .string nm, .string to, .slice xa xd.length xc]] w fun e w' => ∃ v za zc, e = .returned v ∧ w'.ownsRow w.heap.size 64 2 v (wi l ⟨nm, za, zc, xd⟩).length (cellsF (wi l ⟨nm, za, zc, xd⟩)) ∧ Bs w' za xd ∧ (za = none → xd = []) ∧ (∀ k, (Value.slice za xd.length zc).ownBlock = some k → w.heap.size ≤ k ∧ k < w'.heap.size) ∧ Below w.heap.size w w' := by
  have C := fun w h => find_any a cap l nm w h hl
  rw [hno] at C
  have HC := hidOf C
  have HF := hidOf h
  have HX := hidOf hx
  have hxl := hx.1
  clear h C hno hx
  go_enter Try.func60, Try.ntmps60
  go_wp2_with (first
    | (go_at_call 56; refine (HC.out _ (HF.out.grow (below1 _ _))).mono ?_; rintro e w1 ⟨rfl, rfl⟩)
    | (at_builtin; refine wpList_append_s _ rfl (.tmp 25) (.tmp 27) rfl (.slice none 0 0) [] rfl (SlR.nil _) (.slice xa xd.length xc) xd rfl ((HX.out.alloc _).src Try.underlying29 xc) (by simp; omega) ?_; intro z w2 hz hap; rw [List.nil_append] at hz; obtain ⟨za, zc, hzf, _⟩ := hz.form; subst hzf; have HZ := hidOf hz; have HZN := hidOf (show ∀ k, (Value.slice za xd.length zc).ownBlock = some k → w.heap.size ≤ k from fun k hk => by rcases hap.new with ⟨e, _⟩ | ⟨k2, e, h2⟩ <;> rw [e] at hk <;> cases hk; simp at h2; omega); have hb2 := hap.belowN (Nat.le_refl _) (fun k e => by cases e); have HBX := hidOf ((hb2.block _ (by simp)).trans (heap_alloc_new w (.cells #[.int .i64 0, .string nm, .string to, .slice xa xd.length xc] 82))); have HB2 := hidOf ((below1 w (.cells #[.int .i64 0, .string nm, .string to, .slice xa xd.length xc] 82)).trans (hb2.mono (by simp))); clear hz hap hb2; have y1 : w2.cell? ⟨w.heap.size, 1, none⟩ = some (.string nm) := (by rw [cell_of_row w2 _ 1 _ 82 (0, 0) HBX.out]; rfl); have y3 : w2.cell? ⟨w.heap.size, 3, none⟩ = some (.slice xa xd.length xc) := (by rw [cell_of_row w2 _ 3 _ 82 (0, 0) HBX.out]; rfl); have yl : w.heap.size < w2.heap.size := heap_lt HBX.out)
    | (go_at_call 67; refine (with_any _ cap l ⟨nm, za, zc, xd⟩ _ (HF.out.grow HB2.out) hl).mono ?_; rintro e w5 ⟨v, rfl, hr, hb⟩; have HR := hidOf hr; have HB5 := hidOf (HB2.out.trans (hb.mono HB2.out.size)); have HZ5 := hidOf ((HZ.out.grow hb)); clear hr hb))
  go_ret
  obtain ⟨b1, b2⟩ := HZ5.out.bs hxl
  exact ⟨_, za, zc, rfl, row_mono HR.out HB2.out.size, b1, b2, fun k hk => ⟨HZN.out k hk, HZ5.out.lt k hk⟩, HB5.out⟩
set_option maxHeartbeats 4000000 in
set_option maxRecDepth 100000 in
theorem rdo_ap1 (a : Option Addr) (cap : Nat) (l : List Fe) (nm to : ByteArray) (xa : Option Addr) (xc : Nat) (xd : List UInt8) (w : World) (i : Nat) (g : Fe) (h : Fls w a l) (hl : l.length ≤ 1048576) (hx : Bs w xa xd) (hg : Bs w g.a g.d) (hlen : g.d.length + xd.length ≤ 211106232532992) (hi : l[i]? = some g) (hyes : fiI l nm = (i : Int)) : Calls Try.prog 60 #[.slice a l.length cap, .agg #[.int .i64 0, .string nm, .string to, .slice xa xd.length xc]] w fun e w' => ∃ v za zc, e = .returned v ∧ w'.ownsRow w.heap.size 64 2 v (wi l ⟨nm, za, zc, g.d ++ xd⟩).length (cellsF (wi l ⟨nm, za, zc, g.d ++ xd⟩)) ∧ Bs w' za (g.d ++ xd) ∧ (za = none → g.d ++ xd = []) ∧ (∀ k, (Value.slice za (g.d ++ xd).length zc).ownBlock = some k → w.heap.size ≤ k ∧ k < w'.heap.size) ∧ Below w.heap.size w w' := by
  have C := fun w h => find_any a cap l nm w h hl
  rw [hyes] at C
  have HC := hidOf C
  have HF := hidOf h
  have HX := hidOf hx
  have HG := hidOf hg
  have hil : i < l.length := (List.getElem?_eq_some_iff.1 hi).1
  have hiz : (i : Int) < (l.length : Int) := by omega
  have hi0 : (0 : Int) ≤ (i : Int) := by omega
  obtain ⟨b, off, hab, hbl, c0, c1⟩ := h.at (below1 w (.cells #[.int .i64 0, .string nm, .string to, .slice xa xd.length xc] 82)) hi
  subst hab
  have hbl2 : b < (w.alloc (.cells #[.int .i64 0, .string nm, .string to, .slice xa xd.length xc] 82)).heap.size := by simp; omega
  clear h C hyes hx hg hi
  go_enter Try.func60, Try.ntmps60
  go_wp2_with (first
    | (go_at_call 56; refine (HC.out _ (HF.out.grow (below1 _ _))).mono ?_; rintro e w1 ⟨rfl, rfl⟩)
    | (at_builtin; refine wpList_append_s _ rfl (.tmp 18) (.tmp 23) rfl (.slice none 0 0) [] rfl (SlR.nil _) (.slice g.a g.d.length g.cap) g.d rfl ((HG.out.alloc _).src Try.underlying29 g.cap) (by simp; omega) ?_; intro z w2 hz hap; rw [List.nil_append] at hz; obtain ⟨ya, yc, hzf, _⟩ := hz.form; subst hzf; have HY := hidOf hz; have HYN := hidOf (show ∀ k, (Value.slice ya g.d.length yc).ownBlock = some k → w.heap.size + 1 ≤ k from fun k hk => by rcases hap.new with ⟨e, _⟩ | ⟨k2, e, h2⟩ <;> rw [e] at hk <;> cases hk; simpa using h2); have hb2 := hap.belowN (Nat.le_refl _) (fun k e => by cases e); have HBX := hidOf ((hb2.block _ (by simp)).trans (heap_alloc_new w (.cells #[.int .i64 0, .string nm, .string to, .slice xa xd.length xc] 82))); have HB1 := hidOf ((below1 w (.cells #[.int .i64 0, .string nm, .string to, .slice xa xd.length xc] 82)).trans (hb2.mono (by simp))); have hw2 : w.heap.size + 1 ≤ w2.heap.size := (by have := hb2.size; simpa using this); clear hz hap hb2; have y1 : w2.cell? ⟨w.heap.size, 1, none⟩ = some (.string nm) := (by rw [cell_of_row w2 _ 1 _ 82 (0, 0) HBX.out]; rfl); have y3 : w2.cell? ⟨w.heap.size, 3, none⟩ = some (.slice xa xd.length xc) := (by rw [cell_of_row w2 _ 3 _ 82 (0, 0) HBX.out]; rfl); have yl : w.heap.size < w2.heap.size := heap_lt HBX.out)
    | (at_builtin; refine wpList_append_s _ rfl (.tmp 25) (.tmp 27) rfl (.slice ya g.d.length yc) g.d rfl HY.out (.slice xa xd.length xc) xd rfl ((HX.out.grow HB1.out).src Try.underlying29 xc) (by omega) ?_; intro z w3 hz hap; obtain ⟨D, hD⟩ : ∃ D, D = g.d ++ xd := ⟨_, rfl⟩; rw [← hD] at hz; have HDq := hidOf hD; clear hD; obtain ⟨za, zc, hzf, _⟩ := hz.form; subst hzf; have HZ := hidOf hz; have HZN := hidOf (show ∀ k, (Value.slice za D.length zc).ownBlock = some k → w.heap.size ≤ k from fun k hk => hap.new.elim (fun ⟨e, _⟩ => (by rw [e] at hk; have := HYN.out k hk; omega)) (fun ⟨k2, e, h2⟩ => (by rw [e] at hk; cases hk; omega))); have hb3 := hap.belowN hw2 HYN.out; have HBX3 := hidOf ((hb3.block _ (by omega)).trans HBX.out); have HB2 := hidOf (HB1.out.trans (hb3.mono (by omega))); clear hz hap hb3 y1 y3 yl; have y1 : w3.cell? ⟨w.heap.size, 1, none⟩ = some (.string nm) := (by rw [cell_of_row w3 _ 1 _ 82 (0, 0) HBX3.out]; rfl); have y3 : w3.cell? ⟨w.heap.size, 3, none⟩ = some (.slice xa xd.length xc) := (by rw [cell_of_row w3 _ 3 _ 82 (0, 0) HBX3.out]; rfl); have yl : w.heap.size < w3.heap.size := heap_lt HBX3.out)
    | (go_at_call 67; refine (with_any _ cap l ⟨nm, za, zc, D⟩ _ (HF.out.grow HB2.out) hl).mono ?_; rintro e w5 ⟨v, rfl, hr, hb⟩; have HR := hidOf hr; have HB5 := hidOf (HB2.out.trans (hb.mono HB2.out.size)); have HZ5 := hidOf ((HZ.out.grow hb)); clear hr hb))
  go_ret
  have eD := HDq.out
  subst eD
  obtain ⟨b1, b2⟩ := HZ5.out.bs (by rw [List.length_append]; exact hlen)
  exact ⟨_, za, zc, rfl, row_mono HR.out HB2.out.size, b1, b2, fun k hk => ⟨HZN.out k hk, HZ5.out.lt k hk⟩, HB5.out⟩
end Go.Proofs.Ytkbmfookdhlphaa

/- Something done on files, by the document: rename. -/
namespace Go.Proofs.Ytkbmfookdhlphaa
open Go.RowKit

set_option maxHeartbeats 4000000 in
set_option maxRecDepth 100000 in
theorem rdo_rn (a : Option Addr) (cap : Nat) (l : List Fe) (nm to : ByteArray) (xa : Option Addr) (xc : Nat) (xd : List UInt8) (w : World) (i : Nat) (g : Fe) (h : Fls w a l) (hl : l.length ≤ 1048576) (hi : l[i]? = some g) (hyes : fiI l nm = (i : Int)) : Calls Try.prog 60 #[.slice a l.length cap, .agg #[.int .i64 3, .string nm, .string to, .slice xa xd.length xc]] w fun e w' => ∃ v, e = .returned v ∧ w'.ownsRow w.heap.size 64 2 v (wi (wo l nm) ⟨to, g.a, g.cap, g.d⟩).length (cellsF (wi (wo l nm) ⟨to, g.a, g.cap, g.d⟩)) ∧ Below w.heap.size w w' := by
  have C := fun w h => find_any a cap l nm w h hl
  rw [hyes] at C
  have HC := hidOf C
  have HF := hidOf h
  have hil : i < l.length := (List.getElem?_eq_some_iff.1 hi).1
  have hiz : (i : Int) < (l.length : Int) := by omega
  have hi0 : (0 : Int) ≤ (i : Int) := by omega
  obtain ⟨b, off, hab, hbl, c0, c1⟩ := h.at (below1 w (.cells #[.int .i64 3, .string nm, .string to, .slice xa xd.length xc] 82)) hi
  subst hab
  have hbl2 : b < (w.alloc (.cells #[.int .i64 3, .string nm, .string to, .slice xa xd.length xc] 82)).heap.size := by simp; omega
  clear h C hyes hi
  go_enter Try.func60, Try.ntmps60
  go_wp2_with (go_at_call 56; refine (HC.out _ (HF.out.grow (below1 _ _))).mono ?_; rintro e w1 ⟨rfl, rfl⟩)
  go_region
  go_wp2
  obtain ⟨w3, hw3⟩ : ∃ x, x = ((w.alloc (.cells #[.int .i64 3, .string nm, .string to, .slice xa xd.length xc] 82)).alloc (.cells #[.string to, .slice g.a g.d.length g.cap] 64)).drew := ⟨_, rfl⟩
  have HB3 : Hid (Below w.heap.size w w3) := by rw [hw3]; exact hidOf ((below1 w _).alloc (by simp) _).drew
  have q1 : w3.heap[w.heap.size]? = some (.cells #[.int .i64 3, .string nm, .string to, .slice xa xd.length xc] 82 (0, 0)) := by rw [hw3]; exact (Below.heap_alloc (w.alloc _) _ _ (by simp)).trans (heap_alloc_new w _)
  have q2 : w3.heap[w.heap.size + 1]? = some (.cells #[.string to, .slice g.a g.d.length g.cap] 64 (0, 0)) := by rw [hw3]; exact heap_alloc2_new w _ _
  have HS3 : Hid ((fun w' : World => w'.cell? ⟨w.heap.size, 1, none⟩ = some (.string nm) ∧ w'.cell? ⟨w.heap.size + 1, 0, none⟩ = some (.string to) ∧ w'.cell? ⟨w.heap.size + 1, 1, none⟩ = some (.slice g.a g.d.length g.cap)) w3) := hidOf ⟨by rw [cell_of_row w3 _ 1 _ 82 (0, 0) q1]; rfl, by rw [cell_of_row w3 _ 0 _ 64 (0, 0) q2]; rfl, by rw [cell_of_row w3 _ 1 _ 64 (0, 0) q2]; rfl⟩
  have n1 : w.heap.size < w3.heap.size := heap_lt q1
  have n2 : w.heap.size + 1 < w3.heap.size := heap_lt q2
  rw [← hw3]
  clear hw3 q1 q2 c0 c1 hbl2
  refine wp_region_held_drew (S := fun w' : World => w'.cell? ⟨w.heap.size, 1, none⟩ = some (.string nm) ∧ w'.cell? ⟨w.heap.size + 1, 0, none⟩ = some (.string to) ∧ w'.cell? ⟨w.heap.size + 1, 1, none⟩ = some (.slice g.a g.d.length g.cap)) (by kernel_rfl) HS3.out (fun hHeld => ?_)
  refine wpAnyH_take (i := 0) (oi := { dst := some 54, op := Op.move (Operand.tmp 0), type := 57, pos := "ref.go:106", after := #[], guard := none }) (v := .slice (some ⟨b, off, none⟩) l.length cap) rfl (by kernel_rfl) (by kernel_rfl) (by kernel_rfl) (fun _ _ _ h => h) (Or.inl ⟨by rfl, ?_⟩) hHeld ?_
  · (intro w hSw; (try dsimp only at hSw); go_simp)
  try simp only [Act.put, List.setIfInBounds_toArray, List.set_cons_zero, List.set_cons_succ]
  refine wpAnyH_take (i := 1) (oi := { dst := some 55, op := Op.fieldAddr 82 (Operand.tmp 3) 1, type := 0, pos := "ref.go:106", after := #[], guard := none }) (v := .pointer (some ⟨w.heap.size, 1, none⟩)) rfl (by kernel_rfl) (by kernel_rfl) (by kernel_rfl) (fun _ _ _ h => h) (Or.inl ⟨by rfl, ?_⟩) hHeld ?_
  · (intro w hSw; (try dsimp only at hSw); go_simp)
  try simp only [Act.put, List.setIfInBounds_toArray, List.set_cons_zero, List.set_cons_succ]
  refine wpAnyH_take (i := 2) (oi := { dst := some 56, op := Op.load 9 (Operand.tmp 55), type := 9, pos := "ref.go:106", after := #[{ on := 1, ground := Ground.data }], guard := none }) (v := .string nm) rfl (by kernel_rfl) (by kernel_rfl) (by kernel_rfl) (fun _ _ _ h => h) (Or.inl ⟨by rfl, ?_⟩) hHeld ?_
  · (intro w hSw; obtain ⟨s1, s2, s3⟩ := hSw; go_simp)
  try simp only [Act.put, List.setIfInBounds_toArray, List.set_cons_zero, List.set_cons_succ]
  refine wpAnyH_take (i := 4) (oi := { dst := some 58, op := Op.load 64 (Operand.tmp 7), type := 64, pos := "ref.go:106", after := #[], guard := none }) (v := .agg #[.string to, .slice g.a g.d.length g.cap]) rfl (by kernel_rfl) (by kernel_rfl) (by kernel_rfl) (fun _ _ _ h => h) (Or.inl ⟨by rfl, ?_⟩) hHeld ?_
  · (intro w hSw; obtain ⟨s1, s2, s3⟩ := hSw; go_simp)
  try simp only [Act.put, List.setIfInBounds_toArray, List.set_cons_zero, List.set_cons_succ]
  refine wpAnyH_ready (rs := [3]) (by kernel_rfl) (by simp) ?_
  refine AllReadyH.cons (o := { dst := some 57, op := Op.call { callee := Callee.value (Operand.func 68), args := #[Operand.tmp 54, Operand.tmp 56], argTypes := #[57, 9] }, type := 57, pos := "ref.go:106", after := #[{ on := 0, ground := Ground.data }, { on := 2, ground := Ground.data }], guard := none }) rfl (fun K hK => ?_) AllReadyH.nil
  go_simp
  refine (without_any _ cap l nm _ (HF.out.grow (by first | exact HB3.out | exact HB3.out.drew)) hl).mono ?_
  rintro e w4 ⟨v, rfl, hr, hb⟩
  obtain ⟨a4, c4, hv, _, _, hF4⟩ := Fls.of_row hr
  subst hv
  have HF4 := hidOf hF4
  have HB4 := hidOf ((show Below w.heap.size w _ by first | exact HB3.out | exact HB3.out.drew).trans (hb.mono (show w.heap.size ≤ w3.heap.size from HB3.out.size)))
  have HS4 := hidOf (show (fun w' : World => w'.cell? ⟨w.heap.size, 1, none⟩ = some (.string nm) ∧ w'.cell? ⟨w.heap.size + 1, 0, none⟩ = some (.string to) ∧ w'.cell? ⟨w.heap.size + 1, 1, none⟩ = some (.slice g.a g.d.length g.cap)) w4 from ⟨(hb.cell (p := ⟨w.heap.size, 1, none⟩) n1).trans HS3.out.1, (hb.cell (p := ⟨w.heap.size + 1, 0, none⟩) n2).trans HS3.out.2.1, (hb.cell (p := ⟨w.heap.size + 1, 1, none⟩) n2).trans HS3.out.2.2⟩)
  have m1 : w.heap.size < w4.heap.size := Nat.lt_of_lt_of_le n1 hb.size
  have m2 : w.heap.size + 1 < w4.heap.size := Nat.lt_of_lt_of_le n2 hb.size
  clear hr hb hF4
  refine hK.out _ _ HS4.out (fun hHeld1 => ?_)
  clear hK K
  try simp only [Act.put, List.setIfInBounds_toArray, List.set_cons_zero, List.set_cons_succ]
  refine wpAnyH_ready (rs := [5]) (by kernel_rfl) (by simp) ?_
  refine AllReadyH.cons (o := { dst := some 59, op := Op.call { callee := Callee.value (Operand.func 67), args := #[Operand.tmp 57, Operand.tmp 58], argTypes := #[57, 64] }, type := 57, pos := "ref.go:106", after := #[{ on := 3, ground := Ground.data }, { on := 4, ground := Ground.data }, { on := 3, ground := Ground.chain }], guard := none }) rfl (fun K hK => ?_) AllReadyH.nil
  go_simp
  refine (with_any a4 c4 (wo l nm) ⟨to, g.a, g.cap, g.d⟩ _ HF4.out (Nat.le_trans (wo_len _ _) hl)).mono ?_
  rintro e w5 ⟨v5, rfl, hr, hb⟩
  have HR5 := hidOf hr
  have HB5 := hidOf (HB4.out.trans (hb.mono HB4.out.size))
  have HS5 := hidOf (show (fun w' : World => w'.cell? ⟨w.heap.size, 1, none⟩ = some (.string nm) ∧ w'.cell? ⟨w.heap.size + 1, 0, none⟩ = some (.string to) ∧ w'.cell? ⟨w.heap.size + 1, 1, none⟩ = some (.slice g.a g.d.length g.cap)) w5 from ⟨(hb.cell (p := ⟨w.heap.size, 1, none⟩) m1).trans HS4.out.1, (hb.cell (p := ⟨w.heap.size + 1, 0, none⟩) m2).trans HS4.out.2.1, (hb.cell (p := ⟨w.heap.size + 1, 1, none⟩) m2).trans HS4.out.2.2⟩)
  clear hr hb
  refine hK.out _ _ HS5.out (fun hHeld2 => ?_)
  clear hK K
  try simp only [Act.put, List.setIfInBounds_toArray, List.set_cons_zero, List.set_cons_succ]
  refine wpAnyH_take (i := 6) (oi := { dst := some 4, op := Op.assign (Operand.tmp 59), type := 57, pos := "ref.go:106", after := #[{ on := 5, ground := Ground.data }, { on := 5, ground := Ground.chain }, { on := 0, ground := Ground.phase }, { on := 1, ground := Ground.phase }, { on := 2, ground := Ground.phase }, { on := 3, ground := Ground.phase }, { on := 4, ground := Ground.phase }, { on := 5, ground := Ground.phase }], guard := none }) (v := v5) rfl (by kernel_rfl) (by kernel_rfl) (by kernel_rfl) (fun _ _ _ h => h) (Or.inl ⟨by rfl, ?_⟩) hHeld2 ?_
  · (intro w hSw; (try dsimp only at hSw); go_simp)
  try simp only [Act.put, List.setIfInBounds_toArray, List.set_cons_zero, List.set_cons_succ]
  refine wpAnyH_done (by kernel_rfl) ?_ _
  go_wp2
  go_ret
  exact ⟨_, rfl, row_mono HR5.out HB4.out.size, HB5.out⟩
end Go.Proofs.Ytkbmfookdhlphaa

/- The document's disk in its block: New, counted, units, Cut. -/
namespace Go.Proofs.Ytkbmfookdhlphaa
open Go.RowKit

def RfB (w : World) (q : Nat) (dv dn : Value) (left : Int) : Prop := w.heap[q]? = some (.cells #[dv, dn, .int .i64 left] 60 (0, 0))
section
variable {w : World} {q : Nat} {dv dn : Value} {left : Int}
theorem RfB.c0 (h : RfB w q dv dn left) : w.cell? ⟨q, 0, none⟩ = some dv := by rw [cell_of_row w q 0 _ 60 (0, 0) h]; rfl
theorem RfB.c1 (h : RfB w q dv dn left) : w.cell? ⟨q, 1, none⟩ = some dn := by rw [cell_of_row w q 1 _ 60 (0, 0) h]; rfl
theorem RfB.c2 (h : RfB w q dv dn left) : w.cell? ⟨q, 2, none⟩ = some (.int .i64 left) := by rw [cell_of_row w q 2 _ 60 (0, 0) h]; rfl
theorem RfB.lt (h : RfB w q dv dn left) : q < w.heap.size := heap_lt h
theorem RfB.fr (h : RfB w q dv dn left) (o : Nat) : w.frozen? ⟨q, o, none⟩ = false := by
  have h' : w.heap[q]? = _ := h
  simp [World.frozen?, h']
end
set_option maxHeartbeats 800000 in
theorem rnew_any (w : World) : Calls Try.prog 10 #[] w fun e w' => e = .returned (.pointer (some ⟨w.heap.size, 0, none⟩)) ∧ w' = w.alloc (.cells #[.slice none 0 0, .slice none 0 0, .int .i64 (-1)] 60) := by
  go_enter Try.func10, Try.ntmps10
  go_wp2
  go_ret
  exact ⟨rfl, rfl⟩
set_option maxHeartbeats 800000 in
theorem counted_any (q : Nat) (dv dn : Value) (left : Int) (w : World) (h : RfB w q dv dn left) (hb : left ≤ 1099511627776) : Calls Try.prog 58 #[.pointer (some ⟨q, 0, none⟩)] w fun e w' => e = .returned (.tuple #[]) ∧ w' = (if 0 < left then w.setCell ⟨q, 2, none⟩ (.int .i64 (left - 1)) else w) := by
  have c2 := h.c2
  have f2 := h.fr 2
  have hq := h.lt
  clear h
  by_cases hl : 0 < left
  · rw [if_pos hl]
    go_enter Try.func58, Try.ntmps58
    go_wp2
    go_end0
    exact ⟨rfl, rfl⟩
  · rw [if_neg hl]
    go_enter Try.func58, Try.ntmps58
    go_wp2
    go_end0
    exact ⟨rfl, rfl⟩
set_option maxHeartbeats 800000 in
theorem rcut_no (q : Nat) (n : Int) (w : World) (h : n < 0 ∨ 1099511627776 < n) : Calls Try.prog 31 #[.pointer (some ⟨q, 0, none⟩), .int .i64 n] w fun e w' => e = .returned (.int .i64 1) ∧ w' = w := by
  rcases h with h | h
  · go_enter Try.func31, Try.ntmps31
    go_wp2
    go_ret
    exact ⟨rfl, rfl⟩
  · have h2 : ¬ n < 0 := by omega
    go_enter Try.func31, Try.ntmps31
    go_wp2
    go_ret
    exact ⟨rfl, rfl⟩
set_option maxHeartbeats 800000 in
theorem rcut_ok (q : Nat) (dv dn : Value) (left n : Int) (w : World) (h : RfB w q dv dn left) (h0 : 0 ≤ n) (h1 : n ≤ 1099511627776) : Calls Try.prog 31 #[.pointer (some ⟨q, 0, none⟩), .int .i64 n] w fun e w' => e = .returned (.int .i64 0) ∧ w' = w.setCell ⟨q, 2, none⟩ (.int .i64 n) := by
  have c2 := h.c2
  have f2 := h.fr 2
  have hq := h.lt
  clear h
  go_enter Try.func31, Try.ntmps31
  go_wp2
  go_ret
  exact ⟨rfl, rfl⟩
def unI (kd : Int) (n : Nat) : Int := if kd = 0 ∧ 0 < n then (n : Int) else 1
set_option maxHeartbeats 800000 in
theorem runits_any (kd : Int) (nm to : ByteArray) (xa : Option Addr) (xc : Nat) (n : Nat) (w : World) : Calls Try.prog 59 #[.agg #[.int .i64 kd, .string nm, .string to, .slice xa n xc]] w fun e w' => e = .returned (.int .i64 (unI kd n)) ∧ Below w.heap.size w w' := by
  have HB := hidOf (below1 w (.cells #[.int .i64 kd, .string nm, .string to, .slice xa n xc] 82))
  by_cases hk : kd = 0
  · subst hk
    by_cases hn : 0 < n
    · have hz : (0 : Int) < (n : Int) := by omega
      have HE : Hid (unI 0 n = (n : Int)) := hidOf (if_pos ⟨rfl, hn⟩)
      rw [HE.out]
      go_enter Try.func59, Try.ntmps59
      go_wp2
      go_ret
      exact ⟨rfl, HB.out⟩
    · have hz : ¬ (0 : Int) < (n : Int) := by omega
      have HE : Hid (unI 0 n = 1) := hidOf (if_neg (fun h => hn h.2))
      rw [HE.out]
      go_enter Try.func59, Try.ntmps59
      go_wp2
      go_ret
      exact ⟨rfl, HB.out⟩
  · have hb : (kd == 0) = false := beq_false_of_ne hk
    have HE : Hid (unI kd n = 1) := hidOf (if_neg (fun h => hk h.1))
    rw [HE.out]
    go_enter Try.func59, Try.ntmps59
    go_wp2
    go_ret
    exact ⟨rfl, HB.out⟩
end Go.Proofs.Ytkbmfookdhlphaa
