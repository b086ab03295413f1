/- Several texts in one (wip/gen/group.py). -/
import Derived.Test.YtblofbdncolikaaXx
import Derived.Test.YtblofbdncolikaaRgm
import Derived.Sort.QuietThIn
/- One more is to stop: the code's stop. -/
namespace Go.Proofs.Ytblofbdncolikaa
open Go.RowKit Go.Shelf
def AtR (av a' : Option Addr) (n : Nat) : Prop := ∀ b, a' = some ⟨b, 0, none⟩ → (Value.slice av 0 0).ownBlock = some b ∨ n ≤ b
theorem own_ob {av : Option Addr} {n c b : Nat} (h : (Value.slice av n c).ownBlock = some b) : (Value.slice av 0 0).ownBlock = some b := by
 cases av with
 | none => cases h
 | some a => exact h
theorem oper_app1p {o : Oper} {a : Act} {K : Act → World → Prop} {Q : Exit → Act → World → Prop} (w : World) (s x : Operand) (t : TypeId)
  (ho : o.op = .call { callee := .builtin .append, args := #[s, x], argTypes := #[t, t] })
  (base : Nat) (e : TypeId) (z : Value) (k y : Nat) (ht : Try.prog.underlying t = some (.slice e)) (hinfo : (Try.prog.info? e).map (fun i => (i.zero, i.size, i.bytes)) = some (some z, k, y)) (hzs : z.cells.size = k) (h0 : 0 < k)
  (av : Option Addr) (cv n : Nat) (xs : List Value) (hs : a.eval s = .slice av n cv) (hown : w.ownsRow base e k (.slice av n cv) n xs)
  (ad : Addr) (c : Nat) (news : List Value) (hx : a.eval x = .slice (some ad) 1 c) (hl : news.length = k) (hnews : ∀ j u, news[j]? = some u → w.cell? (ad.add j) = some u) (h1 : ∀ u ∈ news, u.oneCell' = true)
  (h63 : n + 1 ≤ maxLen) (hbytes : (n + 1) * y ≤ 140737488355328) (hbase : base ≤ w.heap.size)
  (h : ∀ a' c' w', w'.ownsRow base e k (.slice a' (n + 1) c') (n + 1) (xs ++ news) → w.grownBy w' (Value.slice av n cv).ownBlock → AtR av a' w.heap.size → K (a.put o.dst (.slice a' (n + 1) c')) w') : Oper.wp Try.prog o a w K Q := by
 obtain ⟨i, hi, hz, e1, e2⟩ := info_parts hinfo
 obtain ⟨v', w', hr, h2, h3, _, h5⟩ := run_append_own_at (P := Try.prog) w base t o.type e i z k y ht hi hz e1 e2 hzs h0 (.slice av n cv) n xs hown ad 1 c news (by rw [Nat.one_mul]; exact hl) hnews h1 h63 hbytes hbase
 obtain ⟨a', c', rfl⟩ : ∃ a' c', v' = .slice a' (n + 1) c' := by
  rcases h2.2 with ⟨_, hn⟩ | ⟨g, cap, cur, rfl, _⟩
  ·omega
  ·exact ⟨_, _, rfl⟩
 unfold Oper.wp execOp
 simp only [ho, resolve, invoke, builtin, Sem.run_bind, Sem.run_pure, Result.andThen_ok, List.map_toArray, List.map_cons, List.map_nil, hs, hx, hr]
 refine h a' c' w' h2 h3 (fun b hb => ?_)
 subst hb
 have eb : (Value.slice (some ⟨b, 0, none⟩) (n + 1) c').ownBlock = some b := rfl
 rw [eb] at h5
 rcases h5 with h5 | h5
 ·exact .inl (own_ob h5.symm)
 ·right
  cases h5
  exact Nat.le_refl _
/- what a look owns -/
def LO (p sb : Nat) (a : Option Addr) (k : Nat) : Prop := k = p ∨ k = sb ∨ (Value.slice a 0 0).ownBlock = some k
set_option maxRecDepth 100000 in
set_option maxHeartbeats 4000000 in
theorem stop_any (lo p : Nat) (d : Jb) (ga : Option Addr) (gc : Nat) (lb : Array Value) (aa : Option Addr) (ac : Nat) (A : List Al) (hb sb : Nat) (ia : Option Addr) (ic : Nat) (ids T : List Int) (m : Nat) (hm : m < A.length) (w : World) (hps : p ≠ sb) (hpl : p < lo) (hsl : sb < lo) (hlo : lo ≤ w.heap.size) (hbd : (ids.length + 1) * 8 ≤ 140737488355328)
  (hp : w.heap[p]? = some (.cells (lkC d ga gc lb aa A.length ac (some hb) (some sb) ia ids.length ic).toArray 93 (0, 0))) (hA : Fl w (fun b => b < lo ∧ b ≠ p ∧ b ≠ sb) 11 88 Al.cs aa A) (hT : MpR w sb kI (unS T)) (hO : w.ownsRow lo 3 1 (.slice ia ids.length ic) ids.length (fl iC ids)) :
  Calls Try.prog 51 #[.pointer (some ⟨p, 0, none⟩), .int .i64 (m : Int)] w fun e w' => e = .returned (.tuple #[]) ∧ ∃ ia' ic', w'.heap[p]? = some (.cells (lkC d ga gc lb aa A.length ac (some hb) (some sb) ia' (ids.length + 1) ic').toArray 93 (0, 0)) ∧ MpR w' sb kI (unS (T ++ [(m : Int)])) ∧ w'.ownsRow lo 3 1 (.slice ia' (ids.length + 1) ic') (ids.length + 1) (fl iC (ids ++ [A[m].id])) ∧ Frm (LO p sb ia) (LO p sb ia') w w' := by
 have lp := heap_lt hp
 have hbA := hA.bd
 have hp0 : w.rangeAt p 0 (lkC d ga gc lb aa A.length ac (some hb) (some sb) ia ids.length ic) := row_range hp (fun j v h => by simpa using h)
 have p10 : w.cell? ⟨p, 10, none⟩ = some (.map (some sb)) := hp0 10 _ rfl
 obtain ⟨b, off, ha, hQb, hcc⟩ := hA.at m hm
 obtain ⟨x, hx⟩ : ∃ x, A[m] = x := ⟨_, rfl⟩
 rw [hx] at hcc ⊢
 clear hx
 subst ha
 have HP := hidOf hp
 have HT := hidOf hT
 have HO := hidOf hO
 have HC := hidOf hcc
 have HQ := hidOf hQb
 have HP0 := hidOf hp0
 clear hp hT hO hcc hQb hp0 hA
 go_enter Try.func51, Try.ntmps51
 go_upto_region 1 with (at_mapUpdate; refine wpList_mapX _ rfl _ _ _ 91 rfl 3 115 kyI Try.underlying91 sb _ rfl HT.out (m : Int) (.agg #[]) rfl rfl ?_; intro w1 hm1 hs1 hz1 hg1; rw [unS_snoc] at hm1; have HM1 := hidOf hm1; have HS1 := hidOf hs1; have HZ1 := hidOf hz1; have HG1 := hidOf hg1; clear hm1 hs1 hz1 hg1)
 have hz1 := HZ1.out
 have hblk := own_blk2 HO.out
 have k11 : w1.cell? ⟨p, 11, none⟩ = some (.slice ia ids.length ic) := (World.cell?_of_block (HS1.out p hps)).trans (HP0.out 11 _ rfl)
 have k8 : w1.cell? ⟨p, 8, none⟩ = some (.slice (some ⟨b, off, none⟩) A.length ac) := (World.cell?_of_block (HS1.out p hps)).trans (HP0.out 8 _ rfl)
 have kx : w1.cell? ⟨b, off + m * 11, none⟩ = some (.int .i64 x.id) := (World.cell?_of_block (HS1.out b HQ.out.2.2)).trans (HC.out 0 _ rfl)
 have lp1 : p < w1.heap.size := by omega
 have lb1 : b < w1.heap.size := by have := HQ.out.1; omega
 have hB13 := below1 w1 (.cells #[.int .i64 x.id] 3)
 have HA13 : Hid ((fun (wz : World) => wz.cell? ⟨p, 11, none⟩ = some (.slice ia ids.length ic) ∧ wz.cell? ⟨p, 8, none⟩ = some (.slice (some ⟨b, off, none⟩) A.length ac) ∧ wz.cell? ⟨b, off + m * 11, none⟩ = some (.int .i64 x.id)) (w1.alloc (.cells #[.int .i64 x.id] 3))) := hidOf ⟨(hb_cell hB13 lp1).trans k11, (hb_cell hB13 lp1).trans k8, (hb_cell hB13 lb1).trans kx⟩
 have HOW := hidOf (own_kept HO.out (w' := w1.alloc (.cells #[.int .i64 x.id] 3)) (fun b h1 hb => (hB13.block b (by omega)).trans (HS1.out b (by omega))))
 have HML := hidOf (show ids.length + 1 ≤ maxLen by unfold maxLen; omega)
 have HBY := hidOf hbd
 have HBS := hidOf (show lo ≤ (w1.alloc (.cells #[.int .i64 x.id] 3)).heap.size by simp; omega)
 have HPW : Hid (∀ w3, (w1.alloc (.cells #[.int .i64 x.id] 3)).drew.grownBy w3 (Value.slice ia ids.length ic).ownBlock → w3.heap[p]? = some (.cells (lkC d ga gc lb (some ⟨b, off, none⟩) A.length ac (some hb) (some sb) ia ids.length ic).toArray 93 (0, 0))) := hidOf fun w3 hg => (hg.block p (show p < (w1.alloc (.cells #[.int .i64 x.id] 3)).heap.size by simp; omega) (fun e => by have := (hblk p e.symm).1; omega)).trans ((hB13.block p lp1).trans ((HS1.out p hps).trans HP.out))
 have hk0 : ¬ ((m : Int) < 0) := by omega
 have hk1 : (m : Int) < (A.length : Int) := by omega
 have HZ := hidOf hz1
 clear hz1 hB13 p10
 refine wp_region_M (fun (wz : World) => wz.cell? ⟨p, 11, none⟩ = some (.slice ia ids.length ic) ∧ wz.cell? ⟨p, 8, none⟩ = some (.slice (some ⟨b, off, none⟩) A.length ac) ∧ wz.cell? ⟨b, off + m * 11, none⟩ = some (.int .i64 x.id)) 14 (by kernel_rfl) ?_
 have hHeld : (fun (wz : World) => wz.cell? ⟨p, 11, none⟩ = some (.slice ia ids.length ic) ∧ wz.cell? ⟨p, 8, none⟩ = some (.slice (some ⟨b, off, none⟩) A.length ac) ∧ wz.cell? ⟨b, off + m * 11, none⟩ = some (.int .i64 x.id)) _ := ⟨k11, k8, kx⟩
 refine wpAnyM_takeP (i := 0) (oi := { dst := some 10, op := Op.move (Operand.tmp 0), type := 85, pos := "diff.go:89", after := #[], guard := none }) (v := .pointer (some ⟨p, 0, none⟩)) rfl (by kernel_rfl) (by decide) (by kernel_rfl) (by kernel_rfl) (fun _ _ _ h => h) (Or.inl ⟨by rfl, ?_⟩) (fun _ => hHeld) ?_
 ·(intro wz hSw; clear hSw; go_simp)
 try simp only [Act.put, List.setIfInBounds_toArray, List.set_cons_zero, List.set_cons_succ]
 refine wpAnyM_takeP (i := 1) (oi := { dst := some 11, op := Op.move (Operand.tmp 0), type := 85, pos := "diff.go:89", after := #[], guard := none }) (v := .pointer (some ⟨p, 0, none⟩)) rfl (by kernel_rfl) (by decide) (by kernel_rfl) (by kernel_rfl) (fun _ _ _ h => h) (Or.inl ⟨by rfl, ?_⟩) (fun _ => hHeld) ?_
 ·(intro wz hSw; clear hSw; go_simp)
 try simp only [Act.put, List.setIfInBounds_toArray, List.set_cons_zero, List.set_cons_succ]
 refine wpAnyM_takeP (i := 2) (oi := { dst := some 12, op := Op.nilCheck (Operand.tmp 11), type := 0, pos := "diff.go:89", after := #[{ on := 1, ground := Ground.data }], guard := none }) (v := .pointer (some ⟨p, 0, none⟩)) rfl (by kernel_rfl) (by decide) (by kernel_rfl) (by kernel_rfl) (fun _ _ _ h => h) (Or.inl ⟨by rfl, ?_⟩) (fun _ => hHeld) ?_
 ·(intro wz hSw; clear hSw; go_simp)
 try simp only [Act.put, List.setIfInBounds_toArray, List.set_cons_zero, List.set_cons_succ]
 refine wpAnyM_takeP (i := 3) (oi := { dst := some 13, op := Op.fieldAddr 93 (Operand.tmp 12) 5, type := 0, pos := "diff.go:89", after := #[{ on := 2, ground := Ground.data }], guard := none }) (v := .pointer (some ⟨p, 11, none⟩)) rfl (by kernel_rfl) (by decide) (by kernel_rfl) (by kernel_rfl) (fun _ _ _ h => h) (Or.inl ⟨by rfl, ?_⟩) (fun _ => hHeld) ?_
 ·(intro wz hSw; clear hSw; go_simp)
 try simp only [Act.put, List.setIfInBounds_toArray, List.set_cons_zero, List.set_cons_succ]
 refine wpAnyM_take (i := 4) (oi := { dst := some 14, op := Op.load 33 (Operand.tmp 13), type := 33, pos := "diff.go:89", after := #[{ on := 3, ground := Ground.data }], guard := none }) (v := .slice ia ids.length ic) rfl (by kernel_rfl) (by kernel_rfl) (by kernel_rfl) (by kernel_rfl) (by kernel_rfl) (fun _ _ _ h => h) (Or.inl ⟨by rfl, ?_⟩) hHeld ?_
 ·(intro w hSw; (try dsimp only at hSw); go_simp)
 try simp only [Act.put, List.setIfInBounds_toArray, List.set_cons_zero, List.set_cons_succ]
 refine wpAnyM_takeP (i := 5) (oi := { dst := some 15, op := Op.move (Operand.tmp 0), type := 85, pos := "diff.go:89", after := #[], guard := none }) (v := .pointer (some ⟨p, 0, none⟩)) rfl (by kernel_rfl) (by decide) (by kernel_rfl) (by kernel_rfl) (fun _ _ _ h => h) (Or.inl ⟨by rfl, ?_⟩) (fun _ => hHeld) ?_
 ·(intro wz hSw; clear hSw; go_simp)
 try simp only [Act.put, List.setIfInBounds_toArray, List.set_cons_zero, List.set_cons_succ]
 refine wpAnyM_takeP (i := 6) (oi := { dst := some 16, op := Op.nilCheck (Operand.tmp 15), type := 0, pos := "diff.go:89", after := #[{ on := 5, ground := Ground.data }], guard := none }) (v := .pointer (some ⟨p, 0, none⟩)) rfl (by kernel_rfl) (by decide) (by kernel_rfl) (by kernel_rfl) (fun _ _ _ h => h) (Or.inl ⟨by rfl, ?_⟩) (fun _ => hHeld) ?_
 ·(intro wz hSw; clear hSw; go_simp)
 try simp only [Act.put, List.setIfInBounds_toArray, List.set_cons_zero, List.set_cons_succ]
 refine wpAnyM_takeP (i := 7) (oi := { dst := some 17, op := Op.fieldAddr 93 (Operand.tmp 16) 2, type := 0, pos := "diff.go:89", after := #[{ on := 6, ground := Ground.data }], guard := none }) (v := .pointer (some ⟨p, 8, none⟩)) rfl (by kernel_rfl) (by decide) (by kernel_rfl) (by kernel_rfl) (fun _ _ _ h => h) (Or.inl ⟨by rfl, ?_⟩) (fun _ => hHeld) ?_
 ·(intro wz hSw; clear hSw; go_simp)
 try simp only [Act.put, List.setIfInBounds_toArray, List.set_cons_zero, List.set_cons_succ]
 refine wpAnyM_takeP (i := 9) (oi := { dst := some 19, op := Op.move (Operand.tmp 1), type := 3, pos := "diff.go:89", after := #[], guard := none }) (v := .int .i64 (m : Int)) rfl (by kernel_rfl) (by decide) (by kernel_rfl) (by kernel_rfl) (fun _ _ _ h => h) (Or.inl ⟨by rfl, ?_⟩) (fun _ => hHeld) ?_
 ·(intro wz hSw; clear hSw; go_simp)
 try simp only [Act.put, List.setIfInBounds_toArray, List.set_cons_zero, List.set_cons_succ]
 refine wpAnyM_one (i := 8) (o := { dst := some 18, op := Op.load 24 (Operand.tmp 17), type := 24, pos := "diff.go:89", after := #[{ on := 7, ground := Ground.data }], guard := none }) (by kernel_rfl) rfl (fun K hK => ?_)
 rw [if_pos (by rfl)]
 go_simp
 refine hK.out _ _ (fun _ => hHeld) ?_
 clear hK K
 try simp only [Act.put, List.setIfInBounds_toArray, List.set_cons_zero, List.set_cons_succ]
 refine wpAnyM_one (i := 10) (o := { dst := some 20, op := Op.indexAddr 24 (Operand.tmp 18) (Operand.tmp 19), type := 0, pos := "diff.go:89", after := #[{ on := 8, ground := Ground.data }, { on := 9, ground := Ground.data }], guard := none }) (by kernel_rfl) rfl (fun K hK => ?_)
 rw [if_pos (by rfl)]
 go_simp
 refine hK.out _ _ (fun _ => hHeld) ?_
 clear hK K
 try simp only [Act.put, List.setIfInBounds_toArray, List.set_cons_zero, List.set_cons_succ]
 refine wpAnyM_one (i := 11) (o := { dst := some 21, op := Op.fieldAddr 42 (Operand.tmp 20) 0, type := 0, pos := "diff.go:89", after := #[{ on := 10, ground := Ground.data }], guard := none }) (by kernel_rfl) rfl (fun K hK => ?_)
 rw [if_pos (by rfl)]
 go_simp
 refine hK.out _ _ (fun _ => hHeld) ?_
 clear hK K
 try simp only [Act.put, List.setIfInBounds_toArray, List.set_cons_zero, List.set_cons_succ]
 refine wpAnyM_one (i := 12) (o := { dst := some 22, op := Op.load 3 (Operand.tmp 21), type := 3, pos := "diff.go:89", after := #[{ on := 11, ground := Ground.data }], guard := none }) (by kernel_rfl) rfl (fun K hK => ?_)
 rw [if_pos (by rfl)]
 go_simp
 refine hK.out _ _ (fun _ => hHeld) ?_
 clear hK K
 try simp only [Act.put, List.setIfInBounds_toArray, List.set_cons_zero, List.set_cons_succ]
 refine wpAnyM_one (i := 13) (o := { dst := some 23, op := Op.buildSlice 33 1 #[(0, Operand.tmp 22)], type := 33, pos := "diff.go:89", after := #[{ on := 12, ground := Ground.data }], guard := none }) (by kernel_rfl) rfl (fun K hK => ?_)
 rw [if_pos (by rfl)]
 go_simp
 refine hK.out _ _ (fun _ => HA13.out) ?_
 clear hK K
 try simp only [Act.put, List.setIfInBounds_toArray, List.set_cons_zero, List.set_cons_succ]
 refine wpAnyM_one (i := 14) (o := { dst := some 24, op := Op.call { callee := Callee.builtin Builtin.append, args := #[Operand.tmp 14, Operand.tmp 23], argTypes := #[33, 33] }, type := 33, pos := "diff.go:89", after := #[{ on := 4, ground := Ground.data }, { on := 13, ground := Ground.data }], guard := none }) (by kernel_rfl) rfl (fun K hK => ?_)
 rw [if_pos (by rfl)]
 refine oper_app1p _ _ _ 33 rfl lo 3 _ 1 8 Try.underlying33 info3 rfl (by decide) ia ic ids.length (fl iC ids) rfl HOW.out ⟨w1.heap.size, 0, none⟩ 1 (iC x.id) rfl rfl (new1 w1 x.id) (iC_one _) HML.out HBY.out HBS.out ?_
 intro a' c' w3 ho hg hat
 have HO3 := hidOf ho
 have HG3 := hidOf hg
 have HAT := hidOf hat
 have HP3 := hidOf (HPW.out w3 hg)
 clear ho hg hat
 try simp only [Act.put, List.setIfInBounds_toArray, List.set_cons_zero, List.set_cons_succ]
 refine hK.out _ _ (fun h => absurd h (of_decide_eq_false (by kernel_rfl))) ?_
 clear hK K
 try simp only [Act.put, List.setIfInBounds_toArray, List.set_cons_zero, List.set_cons_succ]
 refine wpAnyM_one (i := 15) (o := { dst := some 25, op := Op.nilCheck (Operand.tmp 10), type := 0, pos := "diff.go:89", after := #[{ on := 0, ground := Ground.data }, { on := 0, ground := Ground.phase }, { on := 1, ground := Ground.phase }, { on := 2, ground := Ground.phase }, { on := 3, ground := Ground.phase }, { on := 4, ground := Ground.phase }, { on := 5, ground := Ground.phase }, { on := 6, ground := Ground.phase }, { on := 7, ground := Ground.phase }, { on := 8, ground := Ground.phase }, { on := 9, ground := Ground.phase }, { on := 10, ground := Ground.phase }, { on := 11, ground := Ground.phase }, { on := 12, ground := Ground.phase }, { on := 13, ground := Ground.phase }, { on := 14, ground := Ground.phase }], guard := none }) (by kernel_rfl) rfl (fun K hK => ?_)
 rw [if_pos (by rfl)]
 go_simp
 refine hK.out _ _ (fun h => absurd h (of_decide_eq_false (by kernel_rfl))) ?_
 clear hK K
 try simp only [Act.put, List.setIfInBounds_toArray, List.set_cons_zero, List.set_cons_succ]
 refine wpAnyM_one (i := 16) (o := { dst := some 26, op := Op.fieldAddr 93 (Operand.tmp 25) 5, type := 0, pos := "diff.go:89", after := #[{ on := 15, ground := Ground.data }, { on := 0, ground := Ground.phase }, { on := 1, ground := Ground.phase }, { on := 2, ground := Ground.phase }, { on := 3, ground := Ground.phase }, { on := 4, ground := Ground.phase }, { on := 5, ground := Ground.phase }, { on := 6, ground := Ground.phase }, { on := 7, ground := Ground.phase }, { on := 8, ground := Ground.phase }, { on := 9, ground := Ground.phase }, { on := 10, ground := Ground.phase }, { on := 11, ground := Ground.phase }, { on := 12, ground := Ground.phase }, { on := 13, ground := Ground.phase }, { on := 14, ground := Ground.phase }], guard := none }) (by kernel_rfl) rfl (fun K hK => ?_)
 rw [if_pos (by rfl)]
 go_simp
 refine hK.out _ _ (fun h => absurd h (of_decide_eq_false (by kernel_rfl))) ?_
 clear hK K
 try simp only [Act.put, List.setIfInBounds_toArray, List.set_cons_zero, List.set_cons_succ]
 refine wpAnyM_one (i := 17) (o := { dst := none, op := Op.store 33 (Operand.tmp 26) (Operand.tmp 24), type := 0, pos := "diff.go:89", after := #[{ on := 16, ground := Ground.data }, { on := 14, ground := Ground.data }, { on := 14, ground := Ground.chain }, { on := 0, ground := Ground.phase }, { on := 1, ground := Ground.phase }, { on := 2, ground := Ground.phase }, { on := 3, ground := Ground.phase }, { on := 4, ground := Ground.phase }, { on := 5, ground := Ground.phase }, { on := 6, ground := Ground.phase }, { on := 7, ground := Ground.phase }, { on := 8, ground := Ground.phase }, { on := 9, ground := Ground.phase }, { on := 10, ground := Ground.phase }, { on := 11, ground := Ground.phase }, { on := 12, ground := Ground.phase }, { on := 13, ground := Ground.phase }, { on := 14, ground := Ground.phase }], guard := none }) (by kernel_rfl) rfl (fun K hK => ?_)
 rw [if_pos (by rfl)]
 have cp := cell_of_row w3 p 11 _ 93 (0, 0) HP3.out
 simp only [lkC, List.getElem?_toArray, List.getElem?_cons_succ, List.getElem?_cons_zero] at cp
 have fp := frozen_of_row w3 p 11 _ 93 HP3.out
 have lp3 := heap_lt HP3.out
 go_simp
 refine hK.out _ _ (fun h => absurd h (of_decide_eq_false (by kernel_rfl))) ?_
 clear hK K
 try simp only [Act.put, List.setIfInBounds_toArray, List.set_cons_zero, List.set_cons_succ]
 refine wpAnyM_done (by kernel_rfl) ?_ _
 go_end0
 have hz1 := HZ.out
 have hs3 := HG3.out.size
 have hsd : (w1.alloc (.cells #[.int .i64 x.id] 3)).drew.heap.size = w1.heap.size + 1 := by show (w1.alloc (.cells #[.int .i64 x.id] 3)).heap.size = _; simp
 have hblk3 := own_blk2 HO3.out
 have hlow : ∀ k, k < w.heap.size → some k ≠ (Value.slice ia ids.length ic).ownBlock → k ≠ sb → w3.heap[k]? = w.heap[k]? := fun k hk hne hks => (HG3.out.block k (by omega) hne).trans (((below1 w1 (.cells #[.int .i64 x.id] 3)).block k (by omega)).trans (HS1.out k hks))
 have hBel : Below 0 w (w3.setCell ⟨p, 11, none⟩ (.slice a' (ids.length + 1) c')) := (((((Below.refl 0 w).grown HG1.out (Nat.zero_le _) (fun _ _ => Nat.zero_le _)).alloc (Nat.zero_le _) _).trans ((bdrew _).mono (Nat.zero_le _))).grown HG3.out (Nat.zero_le _) (fun _ _ => Nat.zero_le _)).setCell (p := ⟨p, 11, none⟩) (Nat.zero_le _) _
 refine ⟨rfl, a', c', ?_, ?_, ?_, ⟨fun k hk => ?_, fun k hk ho => ?_, by simp; omega, fun k hk => ?_, hBel.os, hBel.tape, hBel.output⟩⟩
 ·rw [heap_setCell_same w3 p 11 _ 93 _ HP3.out]
  simp only [lkC, List.setIfInBounds_toArray, List.set_cons_zero, List.set_cons_succ]
 ·exact HM1.out.keep ((heap_setCell_other w3 ⟨p, 11, none⟩ sb _ (fun e => hps e.symm)).trans ((HG3.out.block sb (by omega) (fun e => by have := (hblk sb e.symm).1; omega)).trans ((below1 w1 (.cells #[.int .i64 x.id] 3)).block sb (by omega))))
 ·rw [fl_snoc]
  exact own_kept HO3.out (fun b h1 hb => heap_setCell_other w3 ⟨p, 11, none⟩ b _ (fun e => by have e2 : b = p := e; omega))
 ·rcases hk with h | h | h
  ·exact .inl (.inl h)
  ·exact .inl (.inr (.inl h))
  ·have ha : a' = some ⟨k, 0, none⟩ := by
    rcases HO3.out.2 with ⟨e1, _⟩ | ⟨g, cap, cu, e1, _⟩
    ·have := (Value.slice.inj e1).1; rw [this] at h; cases h
    ·have := (Value.slice.inj e1).1; rw [this] at h ⊢; cases h; rfl
   rcases HAT.out k ha with h2 | h2
   ·exact .inl (.inr (.inr h2))
   ·exact .inr (by omega)
 ·have h1 : k ≠ p := fun e => ho (.inl e)
  have h2 : k ≠ sb := fun e => ho (.inr (.inl e))
  exact (heap_setCell_other w3 ⟨p, 11, none⟩ k _ h1).trans (hlow k hk (fun e => ho (.inr (.inr (own_ob e.symm)))) h2)
 ·rcases hk with h | h | h
  ·simp; omega
  ·simp; omega
  ·have := (hblk3 k (by cases a' with | none => cases h | some a => exact h)).2
   simpa using this
end Go.Proofs.Ytblofbdncolikaa

/- A region that draws its order, within a round, by what holds of it outside. -/
namespace Go.Proofs.Ytblofbdncolikaa
open Go.RowKit Go.Shelf
def noDef (o : Oper) : Bool := match o.op with
 | .defer _ => false
 | _ => true
theorem op_rnd {l n : Nat} {P : Program} {o : Oper} {a : Act} {w : World} {K K' : Act → World → Prop} {Q : Exit → Act → World → Prop} (hK : ∀ a w, K a w → K' a w) (ho : noDef o = true) (h : o.wp P a w K Q) : o.wpIn (Fence.wide.inRound l) n P a w K' Q := by
 refine ⟨fun _ _ => trivial, ?_⟩
 have hd : ∀ c, o.op ≠ .defer c := fun c e => by unfold noDef at ho; rw [e] at ho; cases ho
 unfold Oper.wp at h
 rw [Oper.semAt_eq _ _ _ hd]
 cases hx : (execOp a.eval o).run P w with
 | ok v w' =>
  rw [hx] at h
  cases v with
  | value v => exact hK _ _ h
  | skip => exact hK _ _ h
  | defer d => exact hK _ _ h
  | enter f args =>
   refine ⟨fun h' => (by cases h'), ?_⟩
   refine (callsIn_wide.2 h).mono ?_
   intro e w2 he
   cases e with
   | returned v => exact hK _ _ he
   | panicked c => exact he
   | outgrown => exact he
  | row r args =>
   refine ⟨fun h' => (by cases h'), fun c cs _ => ?_⟩
   obtain ⟨v, w2, r2, s⟩ := h c cs
   exact ⟨v, w2, hK _ _ r2, stepsIn_wide.2 s⟩
  | _ => exact h.elim
 | halt hh w' =>
  rw [hx] at h
  cases hh <;> first | exact h | exact h.elim
theorem any_rnd {l n : Nat} {P : Program} {md : Region.Mode} {ops : Array Oper} {Q : Exit → Act → World → Prop} (hok : ops.all noDef = true) (hLO : ¬ LetsOut Q) : ∀ (fuel : Nat) (listed : Array Bool) (a : Act) (w : World), wpAny P md ops Q fuel listed a w → wpAnyIn (Fence.wide.inRound l) n P md ops Q fuel listed a w
 | 0, _, _, _, h => h
 | fuel + 1, listed, a, w, h => by
  refine ⟨h.1, fun i hi => ?_⟩
  have h2 := h.2 i hi
  unfold wpOp at h2
  unfold wpOpIn
  cases ho : ops[i]? with
  | none => rw [ho] at h2; exact any_rnd hok hLO fuel _ _ _ h2
  | some o =>
   rw [ho] at h2
   simp only at h2 ⊢
   have hko : noDef o = true := by
    obtain ⟨hlt, e⟩ := Array.getElem?_eq_some_iff.1 ho
    rw [← e]
    exact (Array.all_eq_true.1 hok) i hlt
   by_cases hw : Region.wanted o (yielded ops a.tmps) = true
   ·rw [if_pos hw] at h2 ⊢
    rcases h2 with h2 | h2
    ·exact op_rnd (fun a w h => any_rnd hok hLO fuel _ a w h) hko h2
    ·exact absurd h2.2 hLO
   ·rw [if_neg hw] at h2 ⊢
    exact ⟨fun _ _ => trivial, any_rnd hok hLO fuel _ _ _ h2⟩
theorem wpIn_held_rnd {l id n : Nat} {P : Program} {ops : Array Oper} {Q : Exit → Act → World → Prop} {a : Act} {w : World} {S : World → Prop} (hok : ops.all noDef = true) (hLO : ¬ LetsOut Q) (hm : P.follows .mixedOrders = true) (hS : S w.drew)
  (h : S w.drew → wpAnyH P .any ops Q S ops.size (Array.replicate ops.size false) a w.drew) : (Code.region id ops true).wpIn (Fence.wide.inRound l) n P Q a w :=
 wpIn_region_any hm (any_rnd hok hLO _ _ _ _ (wpAny_of_held _ _ _ _ (h hS)))
end Go.Proofs.Ytblofbdncolikaa
