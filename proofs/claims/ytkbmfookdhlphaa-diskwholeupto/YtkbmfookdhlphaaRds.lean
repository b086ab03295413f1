/- does: a step on both disks. -/
import Derived.Test.YtkbmfookdhlphaaGtz
import Derived.Deep.RegionHeld3
namespace Go.Proofs.Ytkbmfookdhlphaa
open Go.RowKit Go.Maps Go.Sort

theorem box31 {w : World} {b : Nat} {x0 x1 x2 x3 x4 : Value} (h : w.heap[b]? = some (.cells #[x0, x1, x2, x3, x4] 31 (0, 0))) : w.cell? ⟨b, 0, none⟩ = some x0 ∧ w.cell? ⟨b, 1, none⟩ = some x1 ∧ w.cell? ⟨b, 2, none⟩ = some x2 ∧ w.cell? ⟨b, 3, none⟩ = some x3 ∧ w.cell? ⟨b, 4, none⟩ = some x4 ∧ b < w.heap.size := by
  refine ⟨?_, ?_, ?_, ?_, ?_, heap_lt h⟩ <;> rw [cell_of_row _ _ _ _ 31 (0, 0) h] <;> rfl
theorem Two.more {w0 w : World} {p q : Nat} {M N : Md} {cnt cn : Nat} {F R : Nat → Prop} (h : Two w0 w p q M N cnt cn F R) (hc : cnt + 1 ≤ 4398046511104) : Two w0 w p q M N (cnt + 1) cn F R := ⟨⟨h.d.1.more hc, h.d.2⟩, h.r, h.k, h.apart, h.loF, h.loR, h.bel⟩
theorem Bs.fr {w0 w w' : World} {F F' : Nat → Prop} {a : Option Addr} {d : List UInt8} (h : Bs w a d) (hf : Fr w w' F F') (hF : ∀ k, F k → w0.heap.size ≤ k) (ha : d ≠ [] → ∀ k, oB a k → k < w0.heap.size) : Bs w' a d := by
  by_cases hd : d = []
  · subst hd; exact ⟨h.1, fun e => absurd rfl e⟩
  · exact h.keptO hf.size (fun k hk ho => hf.block k hk (fun e => by have := hF k e; have := ha hd k ho; omega))
theorem Bs.oLt {w : World} {a : Option Addr} {d : List UInt8} (h : Bs w a d) : d ≠ [] → ∀ k, oB a k → k < w.heap.size := by
  intro hd k hk
  obtain ⟨b, off, rfl, hb, _⟩ := h.2 hd
  have e : b = k := by simpa [oB] using hk
  rw [← e]
  exact hb
/- the state behind a step -/
def nxM (kd : Int) (s t : Nm) (d : List UInt8) (n : Int) (M : Md) (m : Nat) : Md := if kd = 0 then mv (apE s d.length M m) (stepM M (.ap s d) (max 1 d.length)) M else if kd = 1 then mv (ptE s d.length M m) (stepM M (.pt s d) 1) M else if kd = 3 then mv (rmE s M) (stepM M (.rm s) 1) M else if kd = 4 then mv (rnE s t M) (stepM M (.rn s t) 1) M else if kd = 5 then mv (syE M) (syncM M) M else if kd = 6 then mv (ctE n) (cutM n M) M else if kd = 7 then crashM n M else M
def NxM (kd : Int) (s t : Nm) (d : List UInt8) (n : Int) (M M' : Md) : Prop := ∃ m, Card M.files m ∧ M' = nxM kd s t d n M m
theorem nxM_no {kd : Int} (h : kd ≠ 0 ∧ kd ≠ 1 ∧ kd ≠ 3 ∧ kd ≠ 4 ∧ kd ≠ 5 ∧ kd ≠ 6 ∧ kd ≠ 7) (s t : Nm) (d : List UInt8) (n : Int) (M : Md) (m : Nat) : nxM kd s t d n M m = M := by
  obtain ⟨h0, h1, h3, h4, h5, h6, h7⟩ := h
  unfold nxM
  rw [if_neg h0, if_neg h1, if_neg h3, if_neg h4, if_neg h5, if_neg h6, if_neg h7]
def Keep (w w' : World) (F R : Nat → Prop) : Prop := ∀ k, k < w.heap.size → ¬ F k → ¬ R k → w'.heap[k]? = w.heap[k]?
theorem Keep.bel {w w' : World} {F R : Nat → Prop} (h : Below w.heap.size w w') : Keep w w' F R := fun k hk _ _ => h.block k hk
theorem Keep.fr1 {w w1 w' : World} {F F' R : Nat → Prop} (h : Keep w w1 F R) (hs : w.heap.size ≤ w1.heap.size) (hf : Fr w1 w' F F') : Keep w w' F R := fun k hk h1 h2 => (hf.block k (Nat.lt_of_lt_of_le hk hs) h1).trans (h k hk h1 h2)
theorem Keep.fr2 {w w1 w' : World} {F R R' : Nat → Prop} (h : Keep w w1 F R) (hs : w.heap.size ≤ w1.heap.size) (hf : Fr w1 w' R R') : Keep w w' F R := fun k hk h1 h2 => (hf.block k (Nat.lt_of_lt_of_le hk hs) h2).trans (h k hk h1 h2)
theorem Keep.below {w w1 w' : World} {F R : Nat → Prop} (h : Keep w w1 F R) (hs : w.heap.size ≤ w1.heap.size) (hb : Below w1.heap.size w1 w') : Keep w w' F R := fun k hk h1 h2 => (hb.block k (Nat.lt_of_lt_of_le hk hs)).trans (h k hk h1 h2)
theorem Keep.set {w w1 : World} {F R : Nat → Prop} (h : Keep w w1 F R) {g : Nat} (hg : w.heap.size ≤ g) (j : Nat) (u : Value) : Keep w (w1.setCell ⟨g, j, none⟩ u) F R := fun k hk h1 h2 => (Below.heap_setCell w1 ⟨g, j, none⟩ u k (show k ≠ g by omega)).trans (h k hk h1 h2)
def DoP (w0 w : World) (F R : Nat → Prop) (p q : Nat) (M N : Md) (cnt cn : Nat) (kd : Int) (s t : Nm) (d : List UInt8) (n : Int) : Ending → World → Prop := fun e w' => ∃ b, e = .returned (.bool b) ∧ (M = N → b = true) ∧ ∃ M' N' F' R', Two w0 w' p q M' N' (cnt + 1) (cn + 1) F' R' ∧ NxM kd s t d n M M' ∧ NxM kd s t d n N N' ∧ Keep w w' F R
theorem dop_mk {w0 w w' : World} {F R : Nat → Prop} {p q : Nat} {M N M' N' : Md} {cnt cn : Nat} {kd : Int} {s t : Nm} {d : List UInt8} {n : Int} {b : Bool} {F' R' : Nat → Prop} (hb : M = N → b = true) (ht : Two w0 w' p q M' N' (cnt + 1) (cn + 1) F' R') (h1 : NxM kd s t d n M M') (h2 : NxM kd s t d n N N') (hk : Keep w w' F R) : DoP w0 w F R p q M N cnt cn kd s t d n (.returned (.bool b)) w' := ⟨b, rfl, hb, M', N', F', R', ht, h1, h2, hk⟩
set_option maxHeartbeats 4000000 in
set_option maxRecDepth 100000 in
theorem does_0 (w0 w : World) (p q : Nat) (M N : Md) (cnt cn : Nat) (F R : Nat → Prop) (h : Two w0 w p q M N cnt cn F R) (hc : cnt + 1 ≤ 2199023255552) (hcn : cn + 1 ≤ 2199023255552) (nm to : ByteArray) (hnm : nm.size ≤ maxLen) (_hto : to.size ≤ maxLen) (xa : Option Addr) (xc : Nat) (d : List UInt8) (hx : Bs w xa d) (hxl : d ≠ [] → ∀ k, oB xa k → k < w0.heap.size) (n : Int) : Calls Try.prog 12 #[.pointer (some ⟨p, 0, none⟩), .pointer (some ⟨q, 0, none⟩), .agg #[.int .i64 0, .string nm, .string to, .slice xa d.length xc, .int .i64 n]] w (DoP w0 w F R p q M N cnt cn 0 nm.data.toList to.data.toList d n) := by
  obtain ⟨m, hr⟩ := h.rc hcn
  obtain ⟨mM, hcm⟩ := h.cd
  have HCM := hidOf hcm
  clear hcm
  obtain ⟨E1, hE1⟩ : ∃ E, E = apE nm.data.toList d.length M mM := ⟨_, rfl⟩
  obtain ⟨E2, hE2⟩ : ∃ E, E = apE nm.data.toList d.length N m := ⟨_, rfl⟩
  have HE1 := hidOf hE1
  have HE2 := hidOf hE2
  clear hE1 hE2
  have hxd := hx.1
  have HRC := hidOf hr
  have H := hidOf h
  have HX := hidOf hx
  have HXL := hidOf hxl
  clear h hr hx hxl
  go_enter Try.func12, Try.ntmps12
  go_wp2_with (at_builtin; refine wpList_append_s _ rfl (.tmp 15) (.tmp 17) rfl (.slice none 0 0) [] rfl (SlR.nil _) (.slice xa d.length xc) d rfl ((HX.out.alloc _).src Try.underlying29 xc) (by simp; omega) ?_; intro z w2 hz hap; rw [List.nil_append] at hz; obtain ⟨za, zc, hzf, _⟩ := hz.form; subst hzf; have HZ := hidOf hz; have HZN := hidOf (show ∀ k, (Value.slice za d.length zc).ownBlock = some k → w.heap.size ≤ k from fun k hk => hap.new.elim (fun ⟨e, _⟩ => (by rw [e] at hk; cases hk)) (fun ⟨k2, e, h2⟩ => (by rw [e] at hk; cases hk; simp at h2; omega))); have hb2 := hap.belowN (Nat.le_refl _) (fun k e => by cases e); have HBX : Hid (w2.heap[w.heap.size]? = some (.cells #[.int .i64 0, .string nm, .string to, .slice xa d.length xc, .int .i64 n] 31 (0, 0))) := hidOf ((hb2.block _ (by simp)).trans (heap_alloc_new w _)); have HB2 : Hid (Below w.heap.size w w2) := hidOf ((below1 w (.cells #[.int .i64 0, .string nm, .string to, .slice xa d.length xc, .int .i64 n] 31)).trans (hb2.mono (by simp))); obtain ⟨x0, x1, x2, x3, x4, xl⟩ := box31 HBX.out; clear hz hap hb2)
  have HT : Hid (Two w0 w2.drew p q M N cnt cn F R) := hidOf (H.out.below HB2.out.drew)
  have HO : Hid (Own1 w0 w2.drew F R (.slice za d.length zc) d.length) := hidOf (Own1.new H.out (HZ.out.grow (Below.refl _ w2).drew) HZN.out)
  have HZB := hidOf ((HZ.out.grow (Below.refl _ w2).drew).bs hxd)
  have HX2 := hidOf ((HX.out.grow HB2.out).drew)
  have HNF : Hid (¬ F w.heap.size) := hidOf (fun e => Nat.lt_irrefl _ (H.out.d.fLt _ e))
  have HNR : Hid (¬ R w.heap.size) := hidOf (fun e => Nat.lt_irrefl _ (H.out.r.lt _ e))
  refine wp_region_held_drew (S := fun wz : World => wz.heap[w.heap.size]? = some (.cells #[.int .i64 0, .string nm, .string to, .slice xa d.length xc, .int .i64 n] 31 (0, 0))) (by kernel_rfl) HBX.out (fun hHeld => ?_)
  refine wpAnyH_take (i := 0) (oi := { dst := some 23, op := Op.move (Operand.tmp 0), type := 23, pos := "law.go:66", after := #[], guard := none }) (v := .pointer (some ⟨p, 0, none⟩)) rfl (by kernel_rfl) (by kernel_rfl) (by kernel_rfl) (fun _ _ _ h => h) (Or.inl ⟨by rfl, ?_⟩) hHeld ?_
  · (intro w hSw; (try dsimp only at hSw); go_simp)
  try simp only [Act.put, List.setIfInBounds_toArray, List.set_cons_zero, List.set_cons_succ]
  refine wpAnyH_take (i := 1) (oi := { dst := some 24, op := Op.fieldAddr 31 (Operand.tmp 5) 1, type := 0, pos := "law.go:66", after := #[], guard := none }) (v := .pointer (some ⟨w.heap.size, 1, none⟩)) rfl (by kernel_rfl) (by kernel_rfl) (by kernel_rfl) (fun _ _ _ h => h) (Or.inl ⟨by rfl, ?_⟩) hHeld ?_
  · (intro w hSw; (try dsimp only at hSw); go_simp)
  try simp only [Act.put, List.setIfInBounds_toArray, List.set_cons_zero, List.set_cons_succ]
  refine wpAnyH_take (i := 2) (oi := { dst := some 25, op := Op.load 9 (Operand.tmp 24), type := 9, pos := "law.go:66", after := #[{ on := 1, ground := Ground.data }], guard := none }) (v := .string nm) rfl (by kernel_rfl) (by kernel_rfl) (by kernel_rfl) (fun _ _ _ h => h) (Or.inl ⟨by rfl, ?_⟩) hHeld ?_
  · (intro w hSw; obtain ⟨s0, s1, s2, s3, s4, sl⟩ := box31 hSw; go_simp)
  try simp only [Act.put, List.setIfInBounds_toArray, List.set_cons_zero, List.set_cons_succ]
  refine wpAnyH_take (i := 3) (oi := { dst := some 26, op := Op.move (Operand.tmp 7), type := 29, pos := "law.go:66", after := #[], guard := none }) (v := .slice za d.length zc) rfl (by kernel_rfl) (by kernel_rfl) (by kernel_rfl) (fun _ _ _ h => h) (Or.inl ⟨by rfl, ?_⟩) hHeld ?_
  · (intro w hSw; (try dsimp only at hSw); go_simp)
  try simp only [Act.put, List.setIfInBounds_toArray, List.set_cons_zero, List.set_cons_succ]
  refine wpAnyH_take (i := 5) (oi := { dst := some 28, op := Op.move (Operand.tmp 1), type := 25, pos := "law.go:66", after := #[], guard := none }) (v := .pointer (some ⟨q, 0, none⟩)) rfl (by kernel_rfl) (by kernel_rfl) (by kernel_rfl) (fun _ _ _ h => h) (Or.inl ⟨by rfl, ?_⟩) hHeld ?_
  · (intro w hSw; (try dsimp only at hSw); go_simp)
  try simp only [Act.put, List.setIfInBounds_toArray, List.set_cons_zero, List.set_cons_succ]
  refine wpAnyH_take (i := 6) (oi := { dst := some 29, op := Op.fieldAddr 31 (Operand.tmp 5) 1, type := 0, pos := "law.go:66", after := #[], guard := none }) (v := .pointer (some ⟨w.heap.size, 1, none⟩)) rfl (by kernel_rfl) (by kernel_rfl) (by kernel_rfl) (fun _ _ _ h => h) (Or.inl ⟨by rfl, ?_⟩) hHeld ?_
  · (intro w hSw; (try dsimp only at hSw); go_simp)
  try simp only [Act.put, List.setIfInBounds_toArray, List.set_cons_zero, List.set_cons_succ]
  refine wpAnyH_take (i := 7) (oi := { dst := some 30, op := Op.load 9 (Operand.tmp 29), type := 9, pos := "law.go:66", after := #[{ on := 6, ground := Ground.data }], guard := none }) (v := .string nm) rfl (by kernel_rfl) (by kernel_rfl) (by kernel_rfl) (fun _ _ _ h => h) (Or.inl ⟨by rfl, ?_⟩) hHeld ?_
  · (intro w hSw; obtain ⟨s0, s1, s2, s3, s4, sl⟩ := box31 hSw; go_simp)
  try simp only [Act.put, List.setIfInBounds_toArray, List.set_cons_zero, List.set_cons_succ]
  refine wpAnyH_take (i := 8) (oi := { dst := some 31, op := Op.fieldAddr 31 (Operand.tmp 5) 3, type := 0, pos := "law.go:66", after := #[], guard := none }) (v := .pointer (some ⟨w.heap.size, 3, none⟩)) rfl (by kernel_rfl) (by kernel_rfl) (by kernel_rfl) (fun _ _ _ h => h) (Or.inl ⟨by rfl, ?_⟩) hHeld ?_
  · (intro w hSw; (try dsimp only at hSw); go_simp)
  try simp only [Act.put, List.setIfInBounds_toArray, List.set_cons_zero, List.set_cons_succ]
  refine wpAnyH_take (i := 9) (oi := { dst := some 32, op := Op.load 29 (Operand.tmp 31), type := 29, pos := "law.go:66", after := #[{ on := 8, ground := Ground.data }], guard := none }) (v := .slice xa d.length xc) rfl (by kernel_rfl) (by kernel_rfl) (by kernel_rfl) (fun _ _ _ h => h) (Or.inl ⟨by rfl, ?_⟩) hHeld ?_
  · (intro w hSw; obtain ⟨s0, s1, s2, s3, s4, sl⟩ := box31 hSw; go_simp)
  try simp only [Act.put, List.setIfInBounds_toArray, List.set_cons_zero, List.set_cons_succ]
  refine wpAnyH_ready (rs := [4]) (by kernel_rfl) (by simp) ?_
  refine AllReadyH.cons (o := { dst := some 27, op := Op.call { callee := Callee.value (Operand.func 14), args := #[Operand.tmp 23, Operand.tmp 25, Operand.tmp 26], argTypes := #[23, 9, 29] }, type := 35, pos := "law.go:66", after := #[{ on := 0, ground := Ground.data }, { on := 2, ground := Ground.data }, { on := 3, ground := Ground.data }], guard := none }) rfl (fun K hK => ?_) AllReadyH.nil
  go_simp
  refine (two_ap1 HT.out HCM.out nm za zc d HZB.out.1 HZB.out.2 hc).mono ?_
  rintro e w3 ⟨he, F', hh, hf⟩
  rw [← HE1.out] at he
  subst he
  have HH := hidOf hh
  have HO3 := hidOf (HO.out.fr1 hf)
  have HKP3 := hidOf ((Keep.bel (F := F) (R := R) HB2.out.drew).fr1 HB2.out.size hf)
  have HS3 := hidOf (Nat.le_trans HB2.out.size hf.size)
  have HX3 := hidOf (HX2.out.fr hf HT.out.loF HXL.out)
  have HBX3 : Hid (w3.heap[w.heap.size]? = some (.cells #[.int .i64 0, .string nm, .string to, .slice xa d.length xc, .int .i64 n] 31 (0, 0))) := hidOf ((hf.block _ (show w.heap.size < w2.heap.size from xl) HNF.out).trans HBX.out)
  clear hh hf
  refine hK.out _ _ HBX3.out (fun hHeld1 => ?_)
  clear hK K
  try simp only [Act.put, List.setIfInBounds_toArray, List.set_cons_zero, List.set_cons_succ]
  refine wpAnyH_ready (rs := [10]) (by kernel_rfl) (by simp) ?_
  refine AllReadyH.cons (o := { dst := some 33, op := Op.call { callee := Callee.value (Operand.func 25), args := #[Operand.tmp 28, Operand.tmp 30, Operand.tmp 32], argTypes := #[25, 9, 29] }, type := 35, pos := "law.go:66", after := #[{ on := 5, ground := Ground.data }, { on := 7, ground := Ground.data }, { on := 9, ground := Ground.data }, { on := 4, ground := Ground.chain }], guard := none }) rfl (fun K hK => ?_) AllReadyH.nil
  go_simp
  refine (two_ap2 HH.out HRC.out hnm xa xc HX3.out).mono ?_
  rintro e w4 ⟨he, R', ht, hf⟩
  rw [← HE2.out] at he
  subst he
  have HT4 := hidOf ht
  have HO4 := hidOf (HO3.out.fr2 hf)
  have HKP4 := hidOf (HKP3.out.fr2 HS3.out hf)
  have HBX4 : Hid (w4.heap[w.heap.size]? = some (.cells #[.int .i64 0, .string nm, .string to, .slice xa d.length xc, .int .i64 n] 31 (0, 0))) := hidOf ((hf.block _ (heap_lt HBX3.out) HNR.out).trans HBX3.out)
  clear ht hf
  refine hK.out _ _ HBX4.out (fun hHeld2 => ?_)
  clear hK K
  try simp only [Act.put, List.setIfInBounds_toArray, List.set_cons_zero, List.set_cons_succ]
  refine wpAnyH_take (i := 11) (oi := { dst := some 34, op := Op.binOp BinOp.eql 35 (Operand.tmp 27) (Operand.tmp 33) 35, type := 4, pos := "law.go:66", after := #[{ on := 4, ground := Ground.data }, { on := 10, ground := Ground.data }], guard := none }) (v := .bool (E1 == E2)) rfl (by kernel_rfl) (by kernel_rfl) (by kernel_rfl) (fun _ _ _ h => h) (Or.inl ⟨by rfl, ?_⟩) hHeld2 ?_
  · (intro w hSw; (try dsimp only at hSw); go_simp)
  try simp only [Act.put, List.setIfInBounds_toArray, List.set_cons_zero, List.set_cons_succ]
  refine wpAnyH_take (i := 12) (oi := { dst := some 8, op := Op.assign (Operand.tmp 34), type := 4, pos := "law.go:66", after := #[{ on := 11, ground := Ground.data }, { on := 10, ground := Ground.chain }, { on := 0, ground := Ground.phase }, { on := 1, ground := Ground.phase }, { on := 2, ground := Ground.phase }, { on := 3, ground := Ground.phase }, { on := 4, ground := Ground.phase }, { on := 5, ground := Ground.phase }, { on := 6, ground := Ground.phase }, { on := 7, ground := Ground.phase }, { on := 8, ground := Ground.phase }, { on := 9, ground := Ground.phase }, { on := 10, ground := Ground.phase }, { on := 11, ground := Ground.phase }], guard := none }) (v := .bool (E1 == E2)) rfl (by kernel_rfl) (by kernel_rfl) (by kernel_rfl) (fun _ _ _ h => h) (Or.inl ⟨by rfl, ?_⟩) hHeld2 ?_
  · (intro w hSw; (try dsimp only at hSw); go_simp)
  try simp only [Act.put, List.setIfInBounds_toArray, List.set_cons_zero, List.set_cons_succ]
  refine wpAnyH_done (by kernel_rfl) ?_ _
  go_wp2
  go_loopw [14] (fun i wr => ∃ k : Nat, k ≤ d.length ∧ i = .int .i64 (k : Int) ∧ Hid (Two w0 wr p q (mv (apE nm.data.toList d.length M mM) (stepM M (.ap nm.data.toList d) (max 1 d.length)) M) (mv (apE nm.data.toList d.length N m) (stepM N (.ap nm.data.toList d) (max 1 d.length)) N) (cnt + 1) (cn + 1) F' R' ∧ Own1 w0 wr F' R' (.slice za d.length zc) d.length ∧ Keep w wr F R)) (fun i _ => d.length - (intOf i).toNat)
  case atStart => exact ⟨0, Nat.zero_le _, rfl, hidOf ⟨HT4.out, HO4.out, HKP4.out⟩⟩
  case round =>
    obtain ⟨k, hk, rfl, HK⟩ := hrel
    by_cases hlt : k < d.length
    · have hltz : (k : Int) < (d.length : Int) := by omega
      obtain ⟨g, gc, x, hv, hgl, y0, yf⟩ := HK.out.2.1.at hlt
      obtain ⟨rfl, rfl⟩ : za = some ⟨g, 0, none⟩ ∧ zc = gc := by cases hv; exact ⟨rfl, rfl⟩
      have HST := hidOf (show _ ∧ _ ∧ _ from ⟨(HK.out.1.set HK.out.2.1 k (.int .u8 98)).1, (HK.out.1.set HK.out.2.1 k (.int .u8 98)).2, HK.out.2.2.set (HZN.out g rfl) k (.int .u8 98)⟩)
      clear hv
      go_wp2
      go_roundw
      case rel => exact ⟨k + 1, by omega, by go_num, HST⟩
      case measure => simp [intOf]; omega
    · have hltz : ¬ (k : Int) < (d.length : Int) := by omega
      go_wp2
      go_ret
      exact dop_mk (fun e => by have h12 : E1 = E2 := (HE1.out.trans (by subst e; rw [Card.uniq HCM.out HRC.out.card])).trans HE2.out.symm; simp [h12]) HK.out.1 ⟨mM, HCM.out, rfl⟩ ⟨m, HRC.out.card, rfl⟩ HK.out.2.2
set_option maxHeartbeats 4000000 in
set_option maxRecDepth 100000 in
theorem does_1 (w0 w : World) (p q : Nat) (M N : Md) (cnt cn : Nat) (F R : Nat → Prop) (h : Two w0 w p q M N cnt cn F R) (hc : cnt + 1 ≤ 2199023255552) (hcn : cn + 1 ≤ 2199023255552) (nm to : ByteArray) (hnm : nm.size ≤ maxLen) (_hto : to.size ≤ maxLen) (xa : Option Addr) (xc : Nat) (d : List UInt8) (hx : Bs w xa d) (hxl : d ≠ [] → ∀ k, oB xa k → k < w0.heap.size) (n : Int) : Calls Try.prog 12 #[.pointer (some ⟨p, 0, none⟩), .pointer (some ⟨q, 0, none⟩), .agg #[.int .i64 1, .string nm, .string to, .slice xa d.length xc, .int .i64 n]] w (DoP w0 w F R p q M N cnt cn 1 nm.data.toList to.data.toList d n) := by
  obtain ⟨m, hr⟩ := h.rc hcn
  obtain ⟨mM, hcm⟩ := h.cd
  have HCM := hidOf hcm
  clear hcm
  obtain ⟨E1, hE1⟩ : ∃ E, E = ptE nm.data.toList d.length M mM := ⟨_, rfl⟩
  obtain ⟨E2, hE2⟩ : ∃ E, E = ptE nm.data.toList d.length N m := ⟨_, rfl⟩
  have HE1 := hidOf hE1
  have HE2 := hidOf hE2
  clear hE1 hE2
  have hxd := hx.1
  have HRC := hidOf hr
  have H := hidOf h
  have HX := hidOf hx
  have HXL := hidOf hxl
  clear h hr hx hxl
  go_enter Try.func12, Try.ntmps12
  go_wp2_with (at_builtin; refine wpList_append_s _ rfl (.tmp 15) (.tmp 17) rfl (.slice none 0 0) [] rfl (SlR.nil _) (.slice xa d.length xc) d rfl ((HX.out.alloc _).src Try.underlying29 xc) (by simp; omega) ?_; intro z w2 hz hap; rw [List.nil_append] at hz; obtain ⟨za, zc, hzf, _⟩ := hz.form; subst hzf; have HZ := hidOf hz; have HZN := hidOf (show ∀ k, (Value.slice za d.length zc).ownBlock = some k → w.heap.size ≤ k from fun k hk => hap.new.elim (fun ⟨e, _⟩ => (by rw [e] at hk; cases hk)) (fun ⟨k2, e, h2⟩ => (by rw [e] at hk; cases hk; simp at h2; omega))); have hb2 := hap.belowN (Nat.le_refl _) (fun k e => by cases e); have HBX : Hid (w2.heap[w.heap.size]? = some (.cells #[.int .i64 1, .string nm, .string to, .slice xa d.length xc, .int .i64 n] 31 (0, 0))) := hidOf ((hb2.block _ (by simp)).trans (heap_alloc_new w _)); have HB2 : Hid (Below w.heap.size w w2) := hidOf ((below1 w (.cells #[.int .i64 1, .string nm, .string to, .slice xa d.length xc, .int .i64 n] 31)).trans (hb2.mono (by simp))); obtain ⟨x0, x1, x2, x3, x4, xl⟩ := box31 HBX.out; clear hz hap hb2)
  have HT : Hid (Two w0 w2.drew p q M N cnt cn F R) := hidOf (H.out.below HB2.out.drew)
  have HO : Hid (Own1 w0 w2.drew F R (.slice za d.length zc) d.length) := hidOf (Own1.new H.out (HZ.out.grow (Below.refl _ w2).drew) HZN.out)
  have HZB := hidOf ((HZ.out.grow (Below.refl _ w2).drew).bs hxd)
  have HX2 := hidOf ((HX.out.grow HB2.out).drew)
  have HNF : Hid (¬ F w.heap.size) := hidOf (fun e => Nat.lt_irrefl _ (H.out.d.fLt _ e))
  have HNR : Hid (¬ R w.heap.size) := hidOf (fun e => Nat.lt_irrefl _ (H.out.r.lt _ e))
  refine wp_region_held_drew (S := fun wz : World => wz.heap[w.heap.size]? = some (.cells #[.int .i64 1, .string nm, .string to, .slice xa d.length xc, .int .i64 n] 31 (0, 0))) (by kernel_rfl) HBX.out (fun hHeld => ?_)
  refine wpAnyH_take (i := 0) (oi := { dst := some 37, op := Op.move (Operand.tmp 0), type := 23, pos := "law.go:68", after := #[], guard := none }) (v := .pointer (some ⟨p, 0, none⟩)) rfl (by kernel_rfl) (by kernel_rfl) (by kernel_rfl) (fun _ _ _ h => h) (Or.inl ⟨by rfl, ?_⟩) hHeld ?_
  · (intro w hSw; (try dsimp only at hSw); go_simp)
  try simp only [Act.put, List.setIfInBounds_toArray, List.set_cons_zero, List.set_cons_succ]
  refine wpAnyH_take (i := 1) (oi := { dst := some 38, op := Op.fieldAddr 31 (Operand.tmp 5) 1, type := 0, pos := "law.go:68", after := #[], guard := none }) (v := .pointer (some ⟨w.heap.size, 1, none⟩)) rfl (by kernel_rfl) (by kernel_rfl) (by kernel_rfl) (fun _ _ _ h => h) (Or.inl ⟨by rfl, ?_⟩) hHeld ?_
  · (intro w hSw; (try dsimp only at hSw); go_simp)
  try simp only [Act.put, List.setIfInBounds_toArray, List.set_cons_zero, List.set_cons_succ]
  refine wpAnyH_take (i := 2) (oi := { dst := some 39, op := Op.load 9 (Operand.tmp 38), type := 9, pos := "law.go:68", after := #[{ on := 1, ground := Ground.data }], guard := none }) (v := .string nm) rfl (by kernel_rfl) (by kernel_rfl) (by kernel_rfl) (fun _ _ _ h => h) (Or.inl ⟨by rfl, ?_⟩) hHeld ?_
  · (intro w hSw; obtain ⟨s0, s1, s2, s3, s4, sl⟩ := box31 hSw; go_simp)
  try simp only [Act.put, List.setIfInBounds_toArray, List.set_cons_zero, List.set_cons_succ]
  refine wpAnyH_take (i := 3) (oi := { dst := some 40, op := Op.move (Operand.tmp 7), type := 29, pos := "law.go:68", after := #[], guard := none }) (v := .slice za d.length zc) rfl (by kernel_rfl) (by kernel_rfl) (by kernel_rfl) (fun _ _ _ h => h) (Or.inl ⟨by rfl, ?_⟩) hHeld ?_
  · (intro w hSw; (try dsimp only at hSw); go_simp)
  try simp only [Act.put, List.setIfInBounds_toArray, List.set_cons_zero, List.set_cons_succ]
  refine wpAnyH_take (i := 5) (oi := { dst := some 42, op := Op.move (Operand.tmp 1), type := 25, pos := "law.go:68", after := #[], guard := none }) (v := .pointer (some ⟨q, 0, none⟩)) rfl (by kernel_rfl) (by kernel_rfl) (by kernel_rfl) (fun _ _ _ h => h) (Or.inl ⟨by rfl, ?_⟩) hHeld ?_
  · (intro w hSw; (try dsimp only at hSw); go_simp)
  try simp only [Act.put, List.setIfInBounds_toArray, List.set_cons_zero, List.set_cons_succ]
  refine wpAnyH_take (i := 6) (oi := { dst := some 43, op := Op.fieldAddr 31 (Operand.tmp 5) 1, type := 0, pos := "law.go:68", after := #[], guard := none }) (v := .pointer (some ⟨w.heap.size, 1, none⟩)) rfl (by kernel_rfl) (by kernel_rfl) (by kernel_rfl) (fun _ _ _ h => h) (Or.inl ⟨by rfl, ?_⟩) hHeld ?_
  · (intro w hSw; (try dsimp only at hSw); go_simp)
  try simp only [Act.put, List.setIfInBounds_toArray, List.set_cons_zero, List.set_cons_succ]
  refine wpAnyH_take (i := 7) (oi := { dst := some 44, op := Op.load 9 (Operand.tmp 43), type := 9, pos := "law.go:68", after := #[{ on := 6, ground := Ground.data }], guard := none }) (v := .string nm) rfl (by kernel_rfl) (by kernel_rfl) (by kernel_rfl) (fun _ _ _ h => h) (Or.inl ⟨by rfl, ?_⟩) hHeld ?_
  · (intro w hSw; obtain ⟨s0, s1, s2, s3, s4, sl⟩ := box31 hSw; go_simp)
  try simp only [Act.put, List.setIfInBounds_toArray, List.set_cons_zero, List.set_cons_succ]
  refine wpAnyH_take (i := 8) (oi := { dst := some 45, op := Op.fieldAddr 31 (Operand.tmp 5) 3, type := 0, pos := "law.go:68", after := #[], guard := none }) (v := .pointer (some ⟨w.heap.size, 3, none⟩)) rfl (by kernel_rfl) (by kernel_rfl) (by kernel_rfl) (fun _ _ _ h => h) (Or.inl ⟨by rfl, ?_⟩) hHeld ?_
  · (intro w hSw; (try dsimp only at hSw); go_simp)
  try simp only [Act.put, List.setIfInBounds_toArray, List.set_cons_zero, List.set_cons_succ]
  refine wpAnyH_take (i := 9) (oi := { dst := some 46, op := Op.load 29 (Operand.tmp 45), type := 29, pos := "law.go:68", after := #[{ on := 8, ground := Ground.data }], guard := none }) (v := .slice xa d.length xc) rfl (by kernel_rfl) (by kernel_rfl) (by kernel_rfl) (fun _ _ _ h => h) (Or.inl ⟨by rfl, ?_⟩) hHeld ?_
  · (intro w hSw; obtain ⟨s0, s1, s2, s3, s4, sl⟩ := box31 hSw; go_simp)
  try simp only [Act.put, List.setIfInBounds_toArray, List.set_cons_zero, List.set_cons_succ]
  refine wpAnyH_ready (rs := [4]) (by kernel_rfl) (by simp) ?_
  refine AllReadyH.cons (o := { dst := some 41, op := Op.call { callee := Callee.value (Operand.func 16), args := #[Operand.tmp 37, Operand.tmp 39, Operand.tmp 40], argTypes := #[23, 9, 29] }, type := 35, pos := "law.go:68", after := #[{ on := 0, ground := Ground.data }, { on := 2, ground := Ground.data }, { on := 3, ground := Ground.data }], guard := none }) rfl (fun K hK => ?_) AllReadyH.nil
  go_simp
  refine (two_pt1 HT.out HCM.out nm za zc d HZB.out.1 HZB.out.2 hc).mono ?_
  rintro e w3 ⟨he, F', hh, hf⟩
  rw [← HE1.out] at he
  subst he
  have HH := hidOf hh
  have HO3 := hidOf (HO.out.fr1 hf)
  have HKP3 := hidOf ((Keep.bel (F := F) (R := R) HB2.out.drew).fr1 HB2.out.size hf)
  have HS3 := hidOf (Nat.le_trans HB2.out.size hf.size)
  have HX3 := hidOf (HX2.out.fr hf HT.out.loF HXL.out)
  have HBX3 : Hid (w3.heap[w.heap.size]? = some (.cells #[.int .i64 1, .string nm, .string to, .slice xa d.length xc, .int .i64 n] 31 (0, 0))) := hidOf ((hf.block _ (show w.heap.size < w2.heap.size from xl) HNF.out).trans HBX.out)
  clear hh hf
  refine hK.out _ _ HBX3.out (fun hHeld1 => ?_)
  clear hK K
  try simp only [Act.put, List.setIfInBounds_toArray, List.set_cons_zero, List.set_cons_succ]
  refine wpAnyH_ready (rs := [10]) (by kernel_rfl) (by simp) ?_
  refine AllReadyH.cons (o := { dst := some 47, op := Op.call { callee := Callee.value (Operand.func 26), args := #[Operand.tmp 42, Operand.tmp 44, Operand.tmp 46], argTypes := #[25, 9, 29] }, type := 35, pos := "law.go:68", after := #[{ on := 5, ground := Ground.data }, { on := 7, ground := Ground.data }, { on := 9, ground := Ground.data }, { on := 4, ground := Ground.chain }], guard := none }) rfl (fun K hK => ?_) AllReadyH.nil
  go_simp
  refine (two_pt2 HH.out HRC.out hnm xa xc HX3.out).mono ?_
  rintro e w4 ⟨he, R', ht, hf⟩
  rw [← HE2.out] at he
  subst he
  have HT4 := hidOf ht
  have HO4 := hidOf (HO3.out.fr2 hf)
  have HKP4 := hidOf (HKP3.out.fr2 HS3.out hf)
  have HBX4 : Hid (w4.heap[w.heap.size]? = some (.cells #[.int .i64 1, .string nm, .string to, .slice xa d.length xc, .int .i64 n] 31 (0, 0))) := hidOf ((hf.block _ (heap_lt HBX3.out) HNR.out).trans HBX3.out)
  clear ht hf
  refine hK.out _ _ HBX4.out (fun hHeld2 => ?_)
  clear hK K
  try simp only [Act.put, List.setIfInBounds_toArray, List.set_cons_zero, List.set_cons_succ]
  refine wpAnyH_take (i := 11) (oi := { dst := some 48, op := Op.binOp BinOp.eql 35 (Operand.tmp 41) (Operand.tmp 47) 35, type := 4, pos := "law.go:68", after := #[{ on := 4, ground := Ground.data }, { on := 10, ground := Ground.data }], guard := none }) (v := .bool (E1 == E2)) rfl (by kernel_rfl) (by kernel_rfl) (by kernel_rfl) (fun _ _ _ h => h) (Or.inl ⟨by rfl, ?_⟩) hHeld2 ?_
  · (intro w hSw; (try dsimp only at hSw); go_simp)
  try simp only [Act.put, List.setIfInBounds_toArray, List.set_cons_zero, List.set_cons_succ]
  refine wpAnyH_take (i := 12) (oi := { dst := some 8, op := Op.assign (Operand.tmp 48), type := 4, pos := "law.go:68", after := #[{ on := 11, ground := Ground.data }, { on := 10, ground := Ground.chain }, { on := 0, ground := Ground.phase }, { on := 1, ground := Ground.phase }, { on := 2, ground := Ground.phase }, { on := 3, ground := Ground.phase }, { on := 4, ground := Ground.phase }, { on := 5, ground := Ground.phase }, { on := 6, ground := Ground.phase }, { on := 7, ground := Ground.phase }, { on := 8, ground := Ground.phase }, { on := 9, ground := Ground.phase }, { on := 10, ground := Ground.phase }, { on := 11, ground := Ground.phase }], guard := none }) (v := .bool (E1 == E2)) rfl (by kernel_rfl) (by kernel_rfl) (by kernel_rfl) (fun _ _ _ h => h) (Or.inl ⟨by rfl, ?_⟩) hHeld2 ?_
  · (intro w hSw; (try dsimp only at hSw); go_simp)
  try simp only [Act.put, List.setIfInBounds_toArray, List.set_cons_zero, List.set_cons_succ]
  refine wpAnyH_done (by kernel_rfl) ?_ _
  go_wp2
  go_loopw [14] (fun i wr => ∃ k : Nat, k ≤ d.length ∧ i = .int .i64 (k : Int) ∧ Hid (Two w0 wr p q (mv (ptE nm.data.toList d.length M mM) (stepM M (.pt nm.data.toList d) 1) M) (mv (ptE nm.data.toList d.length N m) (stepM N (.pt nm.data.toList d) 1) N) (cnt + 1) (cn + 1) F' R' ∧ Own1 w0 wr F' R' (.slice za d.length zc) d.length ∧ Keep w wr F R)) (fun i _ => d.length - (intOf i).toNat)
  case atStart => exact ⟨0, Nat.zero_le _, rfl, hidOf ⟨HT4.out, HO4.out, HKP4.out⟩⟩
  case round =>
    obtain ⟨k, hk, rfl, HK⟩ := hrel
    by_cases hlt : k < d.length
    · have hltz : (k : Int) < (d.length : Int) := by omega
      obtain ⟨g, gc, x, hv, hgl, y0, yf⟩ := HK.out.2.1.at hlt
      obtain ⟨rfl, rfl⟩ : za = some ⟨g, 0, none⟩ ∧ zc = gc := by cases hv; exact ⟨rfl, rfl⟩
      have HST := hidOf (show _ ∧ _ ∧ _ from ⟨(HK.out.1.set HK.out.2.1 k (.int .u8 98)).1, (HK.out.1.set HK.out.2.1 k (.int .u8 98)).2, HK.out.2.2.set (HZN.out g rfl) k (.int .u8 98)⟩)
      clear hv
      go_wp2
      go_roundw
      case rel => exact ⟨k + 1, by omega, by go_num, HST⟩
      case measure => simp [intOf]; omega
    · have hltz : ¬ (k : Int) < (d.length : Int) := by omega
      go_wp2
      go_ret
      exact dop_mk (fun e => by have h12 : E1 = E2 := (HE1.out.trans (by subst e; rw [Card.uniq HCM.out HRC.out.card])).trans HE2.out.symm; simp [h12]) HK.out.1 ⟨mM, HCM.out, rfl⟩ ⟨m, HRC.out.card, rfl⟩ HK.out.2.2
set_option maxHeartbeats 4000000 in
set_option maxRecDepth 100000 in
theorem does_3 (w0 w : World) (p q : Nat) (M N : Md) (cnt cn : Nat) (F R : Nat → Prop) (h : Two w0 w p q M N cnt cn F R) (hc : cnt + 1 ≤ 2199023255552) (hcn : cn + 1 ≤ 2199023255552) (nm to : ByteArray) (hnm : nm.size ≤ maxLen) (_hto : to.size ≤ maxLen) (xa : Option Addr) (xc : Nat) (d : List UInt8) (hx : Bs w xa d) (hxl : d ≠ [] → ∀ k, oB xa k → k < w0.heap.size) (n : Int) : Calls Try.prog 12 #[.pointer (some ⟨p, 0, none⟩), .pointer (some ⟨q, 0, none⟩), .agg #[.int .i64 3, .string nm, .string to, .slice xa d.length xc, .int .i64 n]] w (DoP w0 w F R p q M N cnt cn 3 nm.data.toList to.data.toList d n) := by
  obtain ⟨m, hr⟩ := h.rc hcn
  obtain ⟨mM, hcm⟩ := h.cd
  have HCM := hidOf hcm
  clear hcm
  obtain ⟨E1, hE1⟩ : ∃ E, E = rmE nm.data.toList M := ⟨_, rfl⟩
  obtain ⟨E2, hE2⟩ : ∃ E, E = rmE nm.data.toList N := ⟨_, rfl⟩
  have HE1 := hidOf hE1
  have HE2 := hidOf hE2
  clear hE1 hE2
  have hxd := hx.1
  have HRC := hidOf hr
  have H := hidOf h
  have HX := hidOf hx
  have HXL := hidOf hxl
  clear h hr hx hxl
  go_enter Try.func12, Try.ntmps12
  go_wp2_with (at_builtin; refine wpList_append_s _ rfl (.tmp 15) (.tmp 17) rfl (.slice none 0 0) [] rfl (SlR.nil _) (.slice xa d.length xc) d rfl ((HX.out.alloc _).src Try.underlying29 xc) (by simp; omega) ?_; intro z w2 hz hap; rw [List.nil_append] at hz; obtain ⟨za, zc, hzf, _⟩ := hz.form; subst hzf; have HZ := hidOf hz; have HZN := hidOf (show ∀ k, (Value.slice za d.length zc).ownBlock = some k → w.heap.size ≤ k from fun k hk => hap.new.elim (fun ⟨e, _⟩ => (by rw [e] at hk; cases hk)) (fun ⟨k2, e, h2⟩ => (by rw [e] at hk; cases hk; simp at h2; omega))); have hb2 := hap.belowN (Nat.le_refl _) (fun k e => by cases e); have HBX : Hid (w2.heap[w.heap.size]? = some (.cells #[.int .i64 3, .string nm, .string to, .slice xa d.length xc, .int .i64 n] 31 (0, 0))) := hidOf ((hb2.block _ (by simp)).trans (heap_alloc_new w _)); have HB2 : Hid (Below w.heap.size w w2) := hidOf ((below1 w (.cells #[.int .i64 3, .string nm, .string to, .slice xa d.length xc, .int .i64 n] 31)).trans (hb2.mono (by simp))); obtain ⟨x0, x1, x2, x3, x4, xl⟩ := box31 HBX.out; clear hz hap hb2)
  have HT : Hid (Two w0 w2.drew p q M N cnt cn F R) := hidOf (H.out.below HB2.out.drew)
  have HO : Hid (Own1 w0 w2.drew F R (.slice za d.length zc) d.length) := hidOf (Own1.new H.out (HZ.out.grow (Below.refl _ w2).drew) HZN.out)
  have HZB := hidOf ((HZ.out.grow (Below.refl _ w2).drew).bs hxd)
  have HX2 := hidOf ((HX.out.grow HB2.out).drew)
  have HNF : Hid (¬ F w.heap.size) := hidOf (fun e => Nat.lt_irrefl _ (H.out.d.fLt _ e))
  have HNR : Hid (¬ R w.heap.size) := hidOf (fun e => Nat.lt_irrefl _ (H.out.r.lt _ e))
  refine wp_region_held_drew (S := fun wz : World => wz.heap[w.heap.size]? = some (.cells #[.int .i64 3, .string nm, .string to, .slice xa d.length xc, .int .i64 n] 31 (0, 0))) (by kernel_rfl) HBX.out (fun hHeld => ?_)
  refine wpAnyH_take (i := 0) (oi := { dst := some 84, op := Op.move (Operand.tmp 0), type := 23, pos := "law.go:77", after := #[], guard := none }) (v := .pointer (some ⟨p, 0, none⟩)) rfl (by kernel_rfl) (by kernel_rfl) (by kernel_rfl) (fun _ _ _ h => h) (Or.inl ⟨by rfl, ?_⟩) hHeld ?_
  · (intro w hSw; (try dsimp only at hSw); go_simp)
  try simp only [Act.put, List.setIfInBounds_toArray, List.set_cons_zero, List.set_cons_succ]
  refine wpAnyH_take (i := 1) (oi := { dst := some 85, op := Op.fieldAddr 31 (Operand.tmp 5) 1, type := 0, pos := "law.go:77", after := #[], guard := none }) (v := .pointer (some ⟨w.heap.size, 1, none⟩)) rfl (by kernel_rfl) (by kernel_rfl) (by kernel_rfl) (fun _ _ _ h => h) (Or.inl ⟨by rfl, ?_⟩) hHeld ?_
  · (intro w hSw; (try dsimp only at hSw); go_simp)
  try simp only [Act.put, List.setIfInBounds_toArray, List.set_cons_zero, List.set_cons_succ]
  refine wpAnyH_take (i := 2) (oi := { dst := some 86, op := Op.load 9 (Operand.tmp 85), type := 9, pos := "law.go:77", after := #[{ on := 1, ground := Ground.data }], guard := none }) (v := .string nm) rfl (by kernel_rfl) (by kernel_rfl) (by kernel_rfl) (fun _ _ _ h => h) (Or.inl ⟨by rfl, ?_⟩) hHeld ?_
  · (intro w hSw; obtain ⟨s0, s1, s2, s3, s4, sl⟩ := box31 hSw; go_simp)
  try simp only [Act.put, List.setIfInBounds_toArray, List.set_cons_zero, List.set_cons_succ]
  refine wpAnyH_take (i := 4) (oi := { dst := some 88, op := Op.move (Operand.tmp 1), type := 25, pos := "law.go:77", after := #[], guard := none }) (v := .pointer (some ⟨q, 0, none⟩)) rfl (by kernel_rfl) (by kernel_rfl) (by kernel_rfl) (fun _ _ _ h => h) (Or.inl ⟨by rfl, ?_⟩) hHeld ?_
  · (intro w hSw; (try dsimp only at hSw); go_simp)
  try simp only [Act.put, List.setIfInBounds_toArray, List.set_cons_zero, List.set_cons_succ]
  refine wpAnyH_take (i := 5) (oi := { dst := some 89, op := Op.fieldAddr 31 (Operand.tmp 5) 1, type := 0, pos := "law.go:77", after := #[], guard := none }) (v := .pointer (some ⟨w.heap.size, 1, none⟩)) rfl (by kernel_rfl) (by kernel_rfl) (by kernel_rfl) (fun _ _ _ h => h) (Or.inl ⟨by rfl, ?_⟩) hHeld ?_
  · (intro w hSw; (try dsimp only at hSw); go_simp)
  try simp only [Act.put, List.setIfInBounds_toArray, List.set_cons_zero, List.set_cons_succ]
  refine wpAnyH_take (i := 6) (oi := { dst := some 90, op := Op.load 9 (Operand.tmp 89), type := 9, pos := "law.go:77", after := #[{ on := 5, ground := Ground.data }], guard := none }) (v := .string nm) rfl (by kernel_rfl) (by kernel_rfl) (by kernel_rfl) (fun _ _ _ h => h) (Or.inl ⟨by rfl, ?_⟩) hHeld ?_
  · (intro w hSw; obtain ⟨s0, s1, s2, s3, s4, sl⟩ := box31 hSw; go_simp)
  try simp only [Act.put, List.setIfInBounds_toArray, List.set_cons_zero, List.set_cons_succ]
  refine wpAnyH_ready (rs := [3]) (by kernel_rfl) (by simp) ?_
  refine AllReadyH.cons (o := { dst := some 87, op := Op.call { callee := Callee.value (Operand.func 17), args := #[Operand.tmp 84, Operand.tmp 86], argTypes := #[23, 9] }, type := 35, pos := "law.go:77", after := #[{ on := 0, ground := Ground.data }, { on := 2, ground := Ground.data }], guard := none }) rfl (fun K hK => ?_) AllReadyH.nil
  go_simp
  refine (two_rm1 HT.out nm hc).mono ?_
  rintro e w3 ⟨he, F', hh, hf⟩
  rw [← HE1.out] at he
  subst he
  have HH := hidOf hh
  have HO3 := hidOf (HO.out.fr1 hf)
  have HKP3 := hidOf ((Keep.bel (F := F) (R := R) HB2.out.drew).fr1 HB2.out.size hf)
  have HS3 := hidOf (Nat.le_trans HB2.out.size hf.size)
  have HX3 := hidOf (HX2.out.fr hf HT.out.loF HXL.out)
  have HBX3 : Hid (w3.heap[w.heap.size]? = some (.cells #[.int .i64 3, .string nm, .string to, .slice xa d.length xc, .int .i64 n] 31 (0, 0))) := hidOf ((hf.block _ (show w.heap.size < w2.heap.size from xl) HNF.out).trans HBX.out)
  clear hh hf
  refine hK.out _ _ HBX3.out (fun hHeld1 => ?_)
  clear hK K
  try simp only [Act.put, List.setIfInBounds_toArray, List.set_cons_zero, List.set_cons_succ]
  refine wpAnyH_ready (rs := [7]) (by kernel_rfl) (by simp) ?_
  refine AllReadyH.cons (o := { dst := some 91, op := Op.call { callee := Callee.value (Operand.func 28), args := #[Operand.tmp 88, Operand.tmp 90], argTypes := #[25, 9] }, type := 35, pos := "law.go:77", after := #[{ on := 4, ground := Ground.data }, { on := 6, ground := Ground.data }, { on := 3, ground := Ground.chain }], guard := none }) rfl (fun K hK => ?_) AllReadyH.nil
  go_simp
  refine (two_rm2 HH.out HRC.out hnm).mono ?_
  rintro e w4 ⟨he, R', ht, hf⟩
  rw [← HE2.out] at he
  subst he
  have HT4 := hidOf ht
  have HO4 := hidOf (HO3.out.fr2 hf)
  have HKP4 := hidOf (HKP3.out.fr2 HS3.out hf)
  have HBX4 : Hid (w4.heap[w.heap.size]? = some (.cells #[.int .i64 3, .string nm, .string to, .slice xa d.length xc, .int .i64 n] 31 (0, 0))) := hidOf ((hf.block _ (heap_lt HBX3.out) HNR.out).trans HBX3.out)
  clear ht hf
  refine hK.out _ _ HBX4.out (fun hHeld2 => ?_)
  clear hK K
  try simp only [Act.put, List.setIfInBounds_toArray, List.set_cons_zero, List.set_cons_succ]
  refine wpAnyH_take (i := 8) (oi := { dst := some 92, op := Op.binOp BinOp.eql 35 (Operand.tmp 87) (Operand.tmp 91) 35, type := 4, pos := "law.go:77", after := #[{ on := 3, ground := Ground.data }, { on := 7, ground := Ground.data }], guard := none }) (v := .bool (E1 == E2)) rfl (by kernel_rfl) (by kernel_rfl) (by kernel_rfl) (fun _ _ _ h => h) (Or.inl ⟨by rfl, ?_⟩) hHeld2 ?_
  · (intro w hSw; (try dsimp only at hSw); go_simp)
  try simp only [Act.put, List.setIfInBounds_toArray, List.set_cons_zero, List.set_cons_succ]
  refine wpAnyH_take (i := 9) (oi := { dst := some 8, op := Op.assign (Operand.tmp 92), type := 4, pos := "law.go:77", after := #[{ on := 8, ground := Ground.data }, { on := 7, ground := Ground.chain }, { on := 0, ground := Ground.phase }, { on := 1, ground := Ground.phase }, { on := 2, ground := Ground.phase }, { on := 3, ground := Ground.phase }, { on := 4, ground := Ground.phase }, { on := 5, ground := Ground.phase }, { on := 6, ground := Ground.phase }, { on := 7, ground := Ground.phase }, { on := 8, ground := Ground.phase }], guard := none }) (v := .bool (E1 == E2)) rfl (by kernel_rfl) (by kernel_rfl) (by kernel_rfl) (fun _ _ _ h => h) (Or.inl ⟨by rfl, ?_⟩) hHeld2 ?_
  · (intro w hSw; (try dsimp only at hSw); go_simp)
  try simp only [Act.put, List.setIfInBounds_toArray, List.set_cons_zero, List.set_cons_succ]
  refine wpAnyH_done (by kernel_rfl) ?_ _
  go_wp2
  go_loopw [14] (fun i wr => ∃ k : Nat, k ≤ d.length ∧ i = .int .i64 (k : Int) ∧ Hid (Two w0 wr p q (mv (rmE nm.data.toList M) (stepM M (.rm nm.data.toList) 1) M) (mv (rmE nm.data.toList N) (stepM N (.rm nm.data.toList) 1) N) (cnt + 1) (cn + 1) F' R' ∧ Own1 w0 wr F' R' (.slice za d.length zc) d.length ∧ Keep w wr F R)) (fun i _ => d.length - (intOf i).toNat)
  case atStart => exact ⟨0, Nat.zero_le _, rfl, hidOf ⟨HT4.out, HO4.out, HKP4.out⟩⟩
  case round =>
    obtain ⟨k, hk, rfl, HK⟩ := hrel
    by_cases hlt : k < d.length
    · have hltz : (k : Int) < (d.length : Int) := by omega
      obtain ⟨g, gc, x, hv, hgl, y0, yf⟩ := HK.out.2.1.at hlt
      obtain ⟨rfl, rfl⟩ : za = some ⟨g, 0, none⟩ ∧ zc = gc := by cases hv; exact ⟨rfl, rfl⟩
      have HST := hidOf (show _ ∧ _ ∧ _ from ⟨(HK.out.1.set HK.out.2.1 k (.int .u8 98)).1, (HK.out.1.set HK.out.2.1 k (.int .u8 98)).2, HK.out.2.2.set (HZN.out g rfl) k (.int .u8 98)⟩)
      clear hv
      go_wp2
      go_roundw
      case rel => exact ⟨k + 1, by omega, by go_num, HST⟩
      case measure => simp [intOf]; omega
    · have hltz : ¬ (k : Int) < (d.length : Int) := by omega
      go_wp2
      go_ret
      exact dop_mk (fun e => by have h12 : E1 = E2 := (HE1.out.trans (by subst e; rfl)).trans HE2.out.symm; simp [h12]) HK.out.1 ⟨mM, HCM.out, rfl⟩ ⟨m, HRC.out.card, rfl⟩ HK.out.2.2
set_option maxHeartbeats 4000000 in
set_option maxRecDepth 100000 in
theorem does_6 (w0 w : World) (p q : Nat) (M N : Md) (cnt cn : Nat) (F R : Nat → Prop) (h : Two w0 w p q M N cnt cn F R) (hc : cnt + 1 ≤ 2199023255552) (hcn : cn + 1 ≤ 2199023255552) (nm to : ByteArray) (_hnm : nm.size ≤ maxLen) (_hto : to.size ≤ maxLen) (xa : Option Addr) (xc : Nat) (d : List UInt8) (hx : Bs w xa d) (hxl : d ≠ [] → ∀ k, oB xa k → k < w0.heap.size) (n : Int) : Calls Try.prog 12 #[.pointer (some ⟨p, 0, none⟩), .pointer (some ⟨q, 0, none⟩), .agg #[.int .i64 6, .string nm, .string to, .slice xa d.length xc, .int .i64 n]] w (DoP w0 w F R p q M N cnt cn 6 nm.data.toList to.data.toList d n) := by
  obtain ⟨m, hr⟩ := h.rc hcn
  obtain ⟨mM, hcm⟩ := h.cd
  have HCM := hidOf hcm
  clear hcm
  obtain ⟨E1, hE1⟩ : ∃ E, E = ctE n := ⟨_, rfl⟩
  obtain ⟨E2, hE2⟩ : ∃ E, E = ctE n := ⟨_, rfl⟩
  have HE1 := hidOf hE1
  have HE2 := hidOf hE2
  clear hE1 hE2
  have hxd := hx.1
  have HRC := hidOf hr
  have H := hidOf h
  have HX := hidOf hx
  have HXL := hidOf hxl
  clear h hr hx hxl
  go_enter Try.func12, Try.ntmps12
  go_wp2_with (at_builtin; refine wpList_append_s _ rfl (.tmp 15) (.tmp 17) rfl (.slice none 0 0) [] rfl (SlR.nil _) (.slice xa d.length xc) d rfl ((HX.out.alloc _).src Try.underlying29 xc) (by simp; omega) ?_; intro z w2 hz hap; rw [List.nil_append] at hz; obtain ⟨za, zc, hzf, _⟩ := hz.form; subst hzf; have HZ := hidOf hz; have HZN := hidOf (show ∀ k, (Value.slice za d.length zc).ownBlock = some k → w.heap.size ≤ k from fun k hk => hap.new.elim (fun ⟨e, _⟩ => (by rw [e] at hk; cases hk)) (fun ⟨k2, e, h2⟩ => (by rw [e] at hk; cases hk; simp at h2; omega))); have hb2 := hap.belowN (Nat.le_refl _) (fun k e => by cases e); have HBX : Hid (w2.heap[w.heap.size]? = some (.cells #[.int .i64 6, .string nm, .string to, .slice xa d.length xc, .int .i64 n] 31 (0, 0))) := hidOf ((hb2.block _ (by simp)).trans (heap_alloc_new w _)); have HB2 : Hid (Below w.heap.size w w2) := hidOf ((below1 w (.cells #[.int .i64 6, .string nm, .string to, .slice xa d.length xc, .int .i64 n] 31)).trans (hb2.mono (by simp))); obtain ⟨x0, x1, x2, x3, x4, xl⟩ := box31 HBX.out; clear hz hap hb2)
  have HT : Hid (Two w0 w2.drew p q M N cnt cn F R) := hidOf (H.out.below HB2.out.drew)
  have HO : Hid (Own1 w0 w2.drew F R (.slice za d.length zc) d.length) := hidOf (Own1.new H.out (HZ.out.grow (Below.refl _ w2).drew) HZN.out)
  have HZB := hidOf ((HZ.out.grow (Below.refl _ w2).drew).bs hxd)
  have HX2 := hidOf ((HX.out.grow HB2.out).drew)
  have HNF : Hid (¬ F w.heap.size) := hidOf (fun e => Nat.lt_irrefl _ (H.out.d.fLt _ e))
  have HNR : Hid (¬ R w.heap.size) := hidOf (fun e => Nat.lt_irrefl _ (H.out.r.lt _ e))
  refine wp_region_held_drew (S := fun wz : World => wz.heap[w.heap.size]? = some (.cells #[.int .i64 6, .string nm, .string to, .slice xa d.length xc, .int .i64 n] 31 (0, 0))) (by kernel_rfl) HBX.out (fun hHeld => ?_)
  refine wpAnyH_take (i := 0) (oi := { dst := some 117, op := Op.move (Operand.tmp 0), type := 23, pos := "law.go:83", after := #[], guard := none }) (v := .pointer (some ⟨p, 0, none⟩)) rfl (by kernel_rfl) (by kernel_rfl) (by kernel_rfl) (fun _ _ _ h => h) (Or.inl ⟨by rfl, ?_⟩) hHeld ?_
  · (intro w hSw; (try dsimp only at hSw); go_simp)
  try simp only [Act.put, List.setIfInBounds_toArray, List.set_cons_zero, List.set_cons_succ]
  refine wpAnyH_take (i := 1) (oi := { dst := some 118, op := Op.fieldAddr 31 (Operand.tmp 5) 4, type := 0, pos := "law.go:83", after := #[], guard := none }) (v := .pointer (some ⟨w.heap.size, 4, none⟩)) rfl (by kernel_rfl) (by kernel_rfl) (by kernel_rfl) (fun _ _ _ h => h) (Or.inl ⟨by rfl, ?_⟩) hHeld ?_
  · (intro w hSw; (try dsimp only at hSw); go_simp)
  try simp only [Act.put, List.setIfInBounds_toArray, List.set_cons_zero, List.set_cons_succ]
  refine wpAnyH_take (i := 2) (oi := { dst := some 119, op := Op.load 3 (Operand.tmp 118), type := 3, pos := "law.go:83", after := #[{ on := 1, ground := Ground.data }], guard := none }) (v := .int .i64 n) rfl (by kernel_rfl) (by kernel_rfl) (by kernel_rfl) (fun _ _ _ h => h) (Or.inl ⟨by rfl, ?_⟩) hHeld ?_
  · (intro w hSw; obtain ⟨s0, s1, s2, s3, s4, sl⟩ := box31 hSw; go_simp)
  try simp only [Act.put, List.setIfInBounds_toArray, List.set_cons_zero, List.set_cons_succ]
  refine wpAnyH_take (i := 4) (oi := { dst := some 121, op := Op.move (Operand.tmp 1), type := 25, pos := "law.go:83", after := #[], guard := none }) (v := .pointer (some ⟨q, 0, none⟩)) rfl (by kernel_rfl) (by kernel_rfl) (by kernel_rfl) (fun _ _ _ h => h) (Or.inl ⟨by rfl, ?_⟩) hHeld ?_
  · (intro w hSw; (try dsimp only at hSw); go_simp)
  try simp only [Act.put, List.setIfInBounds_toArray, List.set_cons_zero, List.set_cons_succ]
  refine wpAnyH_take (i := 5) (oi := { dst := some 122, op := Op.fieldAddr 31 (Operand.tmp 5) 4, type := 0, pos := "law.go:83", after := #[], guard := none }) (v := .pointer (some ⟨w.heap.size, 4, none⟩)) rfl (by kernel_rfl) (by kernel_rfl) (by kernel_rfl) (fun _ _ _ h => h) (Or.inl ⟨by rfl, ?_⟩) hHeld ?_
  · (intro w hSw; (try dsimp only at hSw); go_simp)
  try simp only [Act.put, List.setIfInBounds_toArray, List.set_cons_zero, List.set_cons_succ]
  refine wpAnyH_take (i := 6) (oi := { dst := some 123, op := Op.load 3 (Operand.tmp 122), type := 3, pos := "law.go:83", after := #[{ on := 5, ground := Ground.data }], guard := none }) (v := .int .i64 n) rfl (by kernel_rfl) (by kernel_rfl) (by kernel_rfl) (fun _ _ _ h => h) (Or.inl ⟨by rfl, ?_⟩) hHeld ?_
  · (intro w hSw; obtain ⟨s0, s1, s2, s3, s4, sl⟩ := box31 hSw; go_simp)
  try simp only [Act.put, List.setIfInBounds_toArray, List.set_cons_zero, List.set_cons_succ]
  refine wpAnyH_ready (rs := [3]) (by kernel_rfl) (by simp) ?_
  refine AllReadyH.cons (o := { dst := some 120, op := Op.call { callee := Callee.value (Operand.func 19), args := #[Operand.tmp 117, Operand.tmp 119], argTypes := #[23, 3] }, type := 35, pos := "law.go:83", after := #[{ on := 0, ground := Ground.data }, { on := 2, ground := Ground.data }], guard := none }) rfl (fun K hK => ?_) AllReadyH.nil
  go_simp
  refine (two_ct1 HT.out n).mono ?_
  rintro e w3 ⟨he, F', hh, hf⟩
  rw [← HE1.out] at he
  subst he
  have HH := hidOf hh
  have HO3 := hidOf (HO.out.fr1 hf)
  have HKP3 := hidOf ((Keep.bel (F := F) (R := R) HB2.out.drew).fr1 HB2.out.size hf)
  have HS3 := hidOf (Nat.le_trans HB2.out.size hf.size)
  have HX3 := hidOf (HX2.out.fr hf HT.out.loF HXL.out)
  have HBX3 : Hid (w3.heap[w.heap.size]? = some (.cells #[.int .i64 6, .string nm, .string to, .slice xa d.length xc, .int .i64 n] 31 (0, 0))) := hidOf ((hf.block _ (show w.heap.size < w2.heap.size from xl) HNF.out).trans HBX.out)
  clear hh hf
  refine hK.out _ _ HBX3.out (fun hHeld1 => ?_)
  clear hK K
  try simp only [Act.put, List.setIfInBounds_toArray, List.set_cons_zero, List.set_cons_succ]
  refine wpAnyH_ready (rs := [7]) (by kernel_rfl) (by simp) ?_
  refine AllReadyH.cons (o := { dst := some 124, op := Op.call { callee := Callee.value (Operand.func 31), args := #[Operand.tmp 121, Operand.tmp 123], argTypes := #[25, 3] }, type := 35, pos := "law.go:83", after := #[{ on := 4, ground := Ground.data }, { on := 6, ground := Ground.data }, { on := 3, ground := Ground.chain }], guard := none }) rfl (fun K hK => ?_) AllReadyH.nil
  go_simp
  refine (two_ct2 HH.out n).mono ?_
  rintro e w4 ⟨he, R', ht, hf⟩
  rw [← HE2.out] at he
  subst he
  have HT4 := hidOf ht
  have HO4 := hidOf (HO3.out.fr2 hf)
  have HKP4 := hidOf (HKP3.out.fr2 HS3.out hf)
  have HBX4 : Hid (w4.heap[w.heap.size]? = some (.cells #[.int .i64 6, .string nm, .string to, .slice xa d.length xc, .int .i64 n] 31 (0, 0))) := hidOf ((hf.block _ (heap_lt HBX3.out) HNR.out).trans HBX3.out)
  clear ht hf
  refine hK.out _ _ HBX4.out (fun hHeld2 => ?_)
  clear hK K
  try simp only [Act.put, List.setIfInBounds_toArray, List.set_cons_zero, List.set_cons_succ]
  refine wpAnyH_take (i := 8) (oi := { dst := some 125, op := Op.binOp BinOp.eql 35 (Operand.tmp 120) (Operand.tmp 124) 35, type := 4, pos := "law.go:83", after := #[{ on := 3, ground := Ground.data }, { on := 7, ground := Ground.data }], guard := none }) (v := .bool (E1 == E2)) rfl (by kernel_rfl) (by kernel_rfl) (by kernel_rfl) (fun _ _ _ h => h) (Or.inl ⟨by rfl, ?_⟩) hHeld2 ?_
  · (intro w hSw; (try dsimp only at hSw); go_simp)
  try simp only [Act.put, List.setIfInBounds_toArray, List.set_cons_zero, List.set_cons_succ]
  refine wpAnyH_take (i := 9) (oi := { dst := some 8, op := Op.assign (Operand.tmp 125), type := 4, pos := "law.go:83", after := #[{ on := 8, ground := Ground.data }, { on := 7, ground := Ground.chain }, { on := 0, ground := Ground.phase }, { on := 1, ground := Ground.phase }, { on := 2, ground := Ground.phase }, { on := 3, ground := Ground.phase }, { on := 4, ground := Ground.phase }, { on := 5, ground := Ground.phase }, { on := 6, ground := Ground.phase }, { on := 7, ground := Ground.phase }, { on := 8, ground := Ground.phase }], guard := none }) (v := .bool (E1 == E2)) rfl (by kernel_rfl) (by kernel_rfl) (by kernel_rfl) (fun _ _ _ h => h) (Or.inl ⟨by rfl, ?_⟩) hHeld2 ?_
  · (intro w hSw; (try dsimp only at hSw); go_simp)
  try simp only [Act.put, List.setIfInBounds_toArray, List.set_cons_zero, List.set_cons_succ]
  refine wpAnyH_done (by kernel_rfl) ?_ _
  go_wp2
  go_loopw [14] (fun i wr => ∃ k : Nat, k ≤ d.length ∧ i = .int .i64 (k : Int) ∧ Hid (Two w0 wr p q (mv (ctE n) (cutM n M) M) (mv (ctE n) (cutM n N) N) cnt (cn + 1) F' R' ∧ Own1 w0 wr F' R' (.slice za d.length zc) d.length ∧ Keep w wr F R)) (fun i _ => d.length - (intOf i).toNat)
  case atStart => exact ⟨0, Nat.zero_le _, rfl, hidOf ⟨HT4.out, HO4.out, HKP4.out⟩⟩
  case round =>
    obtain ⟨k, hk, rfl, HK⟩ := hrel
    by_cases hlt : k < d.length
    · have hltz : (k : Int) < (d.length : Int) := by omega
      obtain ⟨g, gc, x, hv, hgl, y0, yf⟩ := HK.out.2.1.at hlt
      obtain ⟨rfl, rfl⟩ : za = some ⟨g, 0, none⟩ ∧ zc = gc := by cases hv; exact ⟨rfl, rfl⟩
      have HST := hidOf (show _ ∧ _ ∧ _ from ⟨(HK.out.1.set HK.out.2.1 k (.int .u8 98)).1, (HK.out.1.set HK.out.2.1 k (.int .u8 98)).2, HK.out.2.2.set (HZN.out g rfl) k (.int .u8 98)⟩)
      clear hv
      go_wp2
      go_roundw
      case rel => exact ⟨k + 1, by omega, by go_num, HST⟩
      case measure => simp [intOf]; omega
    · have hltz : ¬ (k : Int) < (d.length : Int) := by omega
      go_wp2
      go_ret
      exact dop_mk (fun e => by have h12 : E1 = E2 := (HE1.out.trans (by subst e; rfl)).trans HE2.out.symm; simp [h12]) (HK.out.1.more (by omega)) ⟨mM, HCM.out, rfl⟩ ⟨m, HRC.out.card, rfl⟩ HK.out.2.2
set_option maxHeartbeats 4000000 in
set_option maxRecDepth 100000 in
theorem does_4 (w0 w : World) (p q : Nat) (M N : Md) (cnt cn : Nat) (F R : Nat → Prop) (h : Two w0 w p q M N cnt cn F R) (hc : cnt + 1 ≤ 2199023255552) (hcn : cn + 1 ≤ 2199023255552) (nm to : ByteArray) (hnm : nm.size ≤ maxLen) (hto : to.size ≤ maxLen) (xa : Option Addr) (xc : Nat) (d : List UInt8) (hx : Bs w xa d) (hxl : d ≠ [] → ∀ k, oB xa k → k < w0.heap.size) (n : Int) : Calls Try.prog 12 #[.pointer (some ⟨p, 0, none⟩), .pointer (some ⟨q, 0, none⟩), .agg #[.int .i64 4, .string nm, .string to, .slice xa d.length xc, .int .i64 n]] w (DoP w0 w F R p q M N cnt cn 4 nm.data.toList to.data.toList d n) := by
  obtain ⟨m, hr⟩ := h.rc hcn
  obtain ⟨mM, hcm⟩ := h.cd
  have HCM := hidOf hcm
  clear hcm
  obtain ⟨E1, hE1⟩ : ∃ E, E = rnE nm.data.toList to.data.toList M := ⟨_, rfl⟩
  obtain ⟨E2, hE2⟩ : ∃ E, E = rnE nm.data.toList to.data.toList N := ⟨_, rfl⟩
  have HE1 := hidOf hE1
  have HE2 := hidOf hE2
  clear hE1 hE2
  have hxd := hx.1
  have HRC := hidOf hr
  have H := hidOf h
  have HX := hidOf hx
  have HXL := hidOf hxl
  clear h hr hx hxl
  go_enter Try.func12, Try.ntmps12
  go_wp2_with (at_builtin; refine wpList_append_s _ rfl (.tmp 15) (.tmp 17) rfl (.slice none 0 0) [] rfl (SlR.nil _) (.slice xa d.length xc) d rfl ((HX.out.alloc _).src Try.underlying29 xc) (by simp; omega) ?_; intro z w2 hz hap; rw [List.nil_append] at hz; obtain ⟨za, zc, hzf, _⟩ := hz.form; subst hzf; have HZ := hidOf hz; have HZN := hidOf (show ∀ k, (Value.slice za d.length zc).ownBlock = some k → w.heap.size ≤ k from fun k hk => hap.new.elim (fun ⟨e, _⟩ => (by rw [e] at hk; cases hk)) (fun ⟨k2, e, h2⟩ => (by rw [e] at hk; cases hk; simp at h2; omega))); have hb2 := hap.belowN (Nat.le_refl _) (fun k e => by cases e); have HBX : Hid (w2.heap[w.heap.size]? = some (.cells #[.int .i64 4, .string nm, .string to, .slice xa d.length xc, .int .i64 n] 31 (0, 0))) := hidOf ((hb2.block _ (by simp)).trans (heap_alloc_new w _)); have HB2 : Hid (Below w.heap.size w w2) := hidOf ((below1 w (.cells #[.int .i64 4, .string nm, .string to, .slice xa d.length xc, .int .i64 n] 31)).trans (hb2.mono (by simp))); obtain ⟨x0, x1, x2, x3, x4, xl⟩ := box31 HBX.out; clear hz hap hb2)
  have HT : Hid (Two w0 w2.drew p q M N cnt cn F R) := hidOf (H.out.below HB2.out.drew)
  have HO : Hid (Own1 w0 w2.drew F R (.slice za d.length zc) d.length) := hidOf (Own1.new H.out (HZ.out.grow (Below.refl _ w2).drew) HZN.out)
  have HZB := hidOf ((HZ.out.grow (Below.refl _ w2).drew).bs hxd)
  have HX2 := hidOf ((HX.out.grow HB2.out).drew)
  have HNF : Hid (¬ F w.heap.size) := hidOf (fun e => Nat.lt_irrefl _ (H.out.d.fLt _ e))
  have HNR : Hid (¬ R w.heap.size) := hidOf (fun e => Nat.lt_irrefl _ (H.out.r.lt _ e))
  refine wp_region_held_drew (S := fun wz : World => wz.heap[w.heap.size]? = some (.cells #[.int .i64 4, .string nm, .string to, .slice xa d.length xc, .int .i64 n] 31 (0, 0))) (by kernel_rfl) HBX.out (fun hHeld => ?_)
  refine wpAnyH_take (i := 0) (oi := { dst := some 95, op := Op.move (Operand.tmp 0), type := 23, pos := "law.go:79", after := #[], guard := none }) (v := .pointer (some ⟨p, 0, none⟩)) rfl (by kernel_rfl) (by kernel_rfl) (by kernel_rfl) (fun _ _ _ h => h) (Or.inl ⟨by rfl, ?_⟩) hHeld ?_
  · (intro w hSw; (try dsimp only at hSw); go_simp)
  try simp only [Act.put, List.setIfInBounds_toArray, List.set_cons_zero, List.set_cons_succ]
  refine wpAnyH_take (i := 1) (oi := { dst := some 96, op := Op.fieldAddr 31 (Operand.tmp 5) 1, type := 0, pos := "law.go:79", after := #[], guard := none }) (v := .pointer (some ⟨w.heap.size, 1, none⟩)) rfl (by kernel_rfl) (by kernel_rfl) (by kernel_rfl) (fun _ _ _ h => h) (Or.inl ⟨by rfl, ?_⟩) hHeld ?_
  · (intro w hSw; (try dsimp only at hSw); go_simp)
  try simp only [Act.put, List.setIfInBounds_toArray, List.set_cons_zero, List.set_cons_succ]
  refine wpAnyH_take (i := 2) (oi := { dst := some 97, op := Op.load 9 (Operand.tmp 96), type := 9, pos := "law.go:79", after := #[{ on := 1, ground := Ground.data }], guard := none }) (v := .string nm) rfl (by kernel_rfl) (by kernel_rfl) (by kernel_rfl) (fun _ _ _ h => h) (Or.inl ⟨by rfl, ?_⟩) hHeld ?_
  · (intro w hSw; obtain ⟨s0, s1, s2, s3, s4, sl⟩ := box31 hSw; go_simp)
  try simp only [Act.put, List.setIfInBounds_toArray, List.set_cons_zero, List.set_cons_succ]
  refine wpAnyH_take (i := 3) (oi := { dst := some 98, op := Op.fieldAddr 31 (Operand.tmp 5) 2, type := 0, pos := "law.go:79", after := #[], guard := none }) (v := .pointer (some ⟨w.heap.size, 2, none⟩)) rfl (by kernel_rfl) (by kernel_rfl) (by kernel_rfl) (fun _ _ _ h => h) (Or.inl ⟨by rfl, ?_⟩) hHeld ?_
  · (intro w hSw; (try dsimp only at hSw); go_simp)
  try simp only [Act.put, List.setIfInBounds_toArray, List.set_cons_zero, List.set_cons_succ]
  refine wpAnyH_take (i := 4) (oi := { dst := some 99, op := Op.load 9 (Operand.tmp 98), type := 9, pos := "law.go:79", after := #[{ on := 3, ground := Ground.data }], guard := none }) (v := .string to) rfl (by kernel_rfl) (by kernel_rfl) (by kernel_rfl) (fun _ _ _ h => h) (Or.inl ⟨by rfl, ?_⟩) hHeld ?_
  · (intro w hSw; obtain ⟨s0, s1, s2, s3, s4, sl⟩ := box31 hSw; go_simp)
  try simp only [Act.put, List.setIfInBounds_toArray, List.set_cons_zero, List.set_cons_succ]
  refine wpAnyH_take (i := 6) (oi := { dst := some 101, op := Op.move (Operand.tmp 1), type := 25, pos := "law.go:79", after := #[], guard := none }) (v := .pointer (some ⟨q, 0, none⟩)) rfl (by kernel_rfl) (by kernel_rfl) (by kernel_rfl) (fun _ _ _ h => h) (Or.inl ⟨by rfl, ?_⟩) hHeld ?_
  · (intro w hSw; (try dsimp only at hSw); go_simp)
  try simp only [Act.put, List.setIfInBounds_toArray, List.set_cons_zero, List.set_cons_succ]
  refine wpAnyH_take (i := 7) (oi := { dst := some 102, op := Op.fieldAddr 31 (Operand.tmp 5) 1, type := 0, pos := "law.go:79", after := #[], guard := none }) (v := .pointer (some ⟨w.heap.size, 1, none⟩)) rfl (by kernel_rfl) (by kernel_rfl) (by kernel_rfl) (fun _ _ _ h => h) (Or.inl ⟨by rfl, ?_⟩) hHeld ?_
  · (intro w hSw; (try dsimp only at hSw); go_simp)
  try simp only [Act.put, List.setIfInBounds_toArray, List.set_cons_zero, List.set_cons_succ]
  refine wpAnyH_take (i := 8) (oi := { dst := some 103, op := Op.load 9 (Operand.tmp 102), type := 9, pos := "law.go:79", after := #[{ on := 7, ground := Ground.data }], guard := none }) (v := .string nm) rfl (by kernel_rfl) (by kernel_rfl) (by kernel_rfl) (fun _ _ _ h => h) (Or.inl ⟨by rfl, ?_⟩) hHeld ?_
  · (intro w hSw; obtain ⟨s0, s1, s2, s3, s4, sl⟩ := box31 hSw; go_simp)
  try simp only [Act.put, List.setIfInBounds_toArray, List.set_cons_zero, List.set_cons_succ]
  refine wpAnyH_take (i := 9) (oi := { dst := some 104, op := Op.fieldAddr 31 (Operand.tmp 5) 2, type := 0, pos := "law.go:79", after := #[], guard := none }) (v := .pointer (some ⟨w.heap.size, 2, none⟩)) rfl (by kernel_rfl) (by kernel_rfl) (by kernel_rfl) (fun _ _ _ h => h) (Or.inl ⟨by rfl, ?_⟩) hHeld ?_
  · (intro w hSw; (try dsimp only at hSw); go_simp)
  try simp only [Act.put, List.setIfInBounds_toArray, List.set_cons_zero, List.set_cons_succ]
  refine wpAnyH_take (i := 10) (oi := { dst := some 105, op := Op.load 9 (Operand.tmp 104), type := 9, pos := "law.go:79", after := #[{ on := 9, ground := Ground.data }], guard := none }) (v := .string to) rfl (by kernel_rfl) (by kernel_rfl) (by kernel_rfl) (fun _ _ _ h => h) (Or.inl ⟨by rfl, ?_⟩) hHeld ?_
  · (intro w hSw; obtain ⟨s0, s1, s2, s3, s4, sl⟩ := box31 hSw; go_simp)
  try simp only [Act.put, List.setIfInBounds_toArray, List.set_cons_zero, List.set_cons_succ]
  refine wpAnyH_ready (rs := [5]) (by kernel_rfl) (by simp) ?_
  refine AllReadyH.cons (o := { dst := some 100, op := Op.call { callee := Callee.value (Operand.func 18), args := #[Operand.tmp 95, Operand.tmp 97, Operand.tmp 99], argTypes := #[23, 9, 9] }, type := 35, pos := "law.go:79", after := #[{ on := 0, ground := Ground.data }, { on := 2, ground := Ground.data }, { on := 4, ground := Ground.data }], guard := none }) rfl (fun K hK => ?_) AllReadyH.nil
  go_simp
  refine (two_rn1 HT.out nm to hc).mono ?_
  rintro e w3 ⟨he, F', hh, hf⟩
  rw [← HE1.out] at he
  subst he
  have HH := hidOf hh
  have HO3 := hidOf (HO.out.fr1 hf)
  have HKP3 := hidOf ((Keep.bel (F := F) (R := R) HB2.out.drew).fr1 HB2.out.size hf)
  have HS3 := hidOf (Nat.le_trans HB2.out.size hf.size)
  have HX3 := hidOf (HX2.out.fr hf HT.out.loF HXL.out)
  have HBX3 : Hid (w3.heap[w.heap.size]? = some (.cells #[.int .i64 4, .string nm, .string to, .slice xa d.length xc, .int .i64 n] 31 (0, 0))) := hidOf ((hf.block _ (show w.heap.size < w2.heap.size from xl) HNF.out).trans HBX.out)
  clear hh hf
  refine hK.out _ _ HBX3.out (fun hHeld1 => ?_)
  clear hK K
  try simp only [Act.put, List.setIfInBounds_toArray, List.set_cons_zero, List.set_cons_succ]
  refine wpAnyH_ready (rs := [11]) (by kernel_rfl) (by simp) ?_
  refine AllReadyH.cons (o := { dst := some 106, op := Op.call { callee := Callee.value (Operand.func 29), args := #[Operand.tmp 101, Operand.tmp 103, Operand.tmp 105], argTypes := #[25, 9, 9] }, type := 35, pos := "law.go:79", after := #[{ on := 6, ground := Ground.data }, { on := 8, ground := Ground.data }, { on := 10, ground := Ground.data }, { on := 5, ground := Ground.chain }], guard := none }) rfl (fun K hK => ?_) AllReadyH.nil
  go_simp
  refine (two_rn2 HH.out HRC.out hnm hto).mono ?_
  rintro e w4 ⟨he, R', ht, hf⟩
  rw [← HE2.out] at he
  subst he
  have HT4 := hidOf ht
  have HO4 := hidOf (HO3.out.fr2 hf)
  have HKP4 := hidOf (HKP3.out.fr2 HS3.out hf)
  have HBX4 : Hid (w4.heap[w.heap.size]? = some (.cells #[.int .i64 4, .string nm, .string to, .slice xa d.length xc, .int .i64 n] 31 (0, 0))) := hidOf ((hf.block _ (heap_lt HBX3.out) HNR.out).trans HBX3.out)
  clear ht hf
  refine hK.out _ _ HBX4.out (fun hHeld2 => ?_)
  clear hK K
  try simp only [Act.put, List.setIfInBounds_toArray, List.set_cons_zero, List.set_cons_succ]
  refine wpAnyH_take (i := 12) (oi := { dst := some 107, op := Op.binOp BinOp.eql 35 (Operand.tmp 100) (Operand.tmp 106) 35, type := 4, pos := "law.go:79", after := #[{ on := 5, ground := Ground.data }, { on := 11, ground := Ground.data }], guard := none }) (v := .bool (E1 == E2)) rfl (by kernel_rfl) (by kernel_rfl) (by kernel_rfl) (fun _ _ _ h => h) (Or.inl ⟨by rfl, ?_⟩) hHeld2 ?_
  · (intro w hSw; (try dsimp only at hSw); go_simp)
  try simp only [Act.put, List.setIfInBounds_toArray, List.set_cons_zero, List.set_cons_succ]
  refine wpAnyH_take (i := 13) (oi := { dst := some 8, op := Op.assign (Operand.tmp 107), type := 4, pos := "law.go:79", after := #[{ on := 12, ground := Ground.data }, { on := 11, ground := Ground.chain }, { on := 0, ground := Ground.phase }, { on := 1, ground := Ground.phase }, { on := 2, ground := Ground.phase }, { on := 3, ground := Ground.phase }, { on := 4, ground := Ground.phase }, { on := 5, ground := Ground.phase }, { on := 6, ground := Ground.phase }, { on := 7, ground := Ground.phase }, { on := 8, ground := Ground.phase }, { on := 9, ground := Ground.phase }, { on := 10, ground := Ground.phase }, { on := 11, ground := Ground.phase }, { on := 12, ground := Ground.phase }], guard := none }) (v := .bool (E1 == E2)) rfl (by kernel_rfl) (by kernel_rfl) (by kernel_rfl) (fun _ _ _ h => h) (Or.inl ⟨by rfl, ?_⟩) hHeld2 ?_
  · (intro w hSw; (try dsimp only at hSw); go_simp)
  try simp only [Act.put, List.setIfInBounds_toArray, List.set_cons_zero, List.set_cons_succ]
  refine wpAnyH_done (by kernel_rfl) ?_ _
  go_wp2
  go_loopw [14] (fun i wr => ∃ k : Nat, k ≤ d.length ∧ i = .int .i64 (k : Int) ∧ Hid (Two w0 wr p q (mv (rnE nm.data.toList to.data.toList M) (stepM M (.rn nm.data.toList to.data.toList) 1) M) (mv (rnE nm.data.toList to.data.toList N) (stepM N (.rn nm.data.toList to.data.toList) 1) N) (cnt + 1) (cn + 1) F' R' ∧ Own1 w0 wr F' R' (.slice za d.length zc) d.length ∧ Keep w wr F R)) (fun i _ => d.length - (intOf i).toNat)
  case atStart => exact ⟨0, Nat.zero_le _, rfl, hidOf ⟨HT4.out, HO4.out, HKP4.out⟩⟩
  case round =>
    obtain ⟨k, hk, rfl, HK⟩ := hrel
    by_cases hlt : k < d.length
    · have hltz : (k : Int) < (d.length : Int) := by omega
      obtain ⟨g, gc, x, hv, hgl, y0, yf⟩ := HK.out.2.1.at hlt
      obtain ⟨rfl, rfl⟩ : za = some ⟨g, 0, none⟩ ∧ zc = gc := by cases hv; exact ⟨rfl, rfl⟩
      have HST := hidOf (show _ ∧ _ ∧ _ from ⟨(HK.out.1.set HK.out.2.1 k (.int .u8 98)).1, (HK.out.1.set HK.out.2.1 k (.int .u8 98)).2, HK.out.2.2.set (HZN.out g rfl) k (.int .u8 98)⟩)
      clear hv
      go_wp2
      go_roundw
      case rel => exact ⟨k + 1, by omega, by go_num, HST⟩
      case measure => simp [intOf]; omega
    · have hltz : ¬ (k : Int) < (d.length : Int) := by omega
      go_wp2
      go_ret
      exact dop_mk (fun e => by have h12 : E1 = E2 := (HE1.out.trans (by subst e; rfl)).trans HE2.out.symm; simp [h12]) HK.out.1 ⟨mM, HCM.out, rfl⟩ ⟨m, HRC.out.card, rfl⟩ HK.out.2.2
end Go.Proofs.Ytkbmfookdhlphaa
