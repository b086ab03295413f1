/- The maker of the iterator over slots; the nodes by their IDs. -/
import Derived.Test.YtaaodmagchpnbaaXo
import Derived.Test.YtaaodmagchpnbaaLf
namespace Go.Proofs.Ytaaodmagchpnbaa
open Go.RowKit Go.Shelf
theorem run_store_func {P : Program} {w : World} {a : Addr} {m : Mode} (fn : Fn) (x y : Array Value) : (store a (.func fn x y) m).run P w = stored P w a (.func fn x y) m := run_store P w a _ m rfl
attribute [local go_sem] run_store_func
def ixV (d : Jb) (Ln : List Nd) : Gp → List Int := if d.ty = 3 then fun _ => opK Ln Ln.length else fun g => ups (cnN g.n)
def slV (d : Jb) (Ln : List Nd) : List (Int × Int) := if d.sd = true then [] else slK (ixV d Ln) d.gs d.gs.length
set_option maxRecDepth 100000 in
set_option maxHeartbeats 4000000 in
theorem slots_any (d : Jb) (ga : Option Addr) (gc : Nat) (Ln : List Nd) (na : Option Addr) (nc : Nat) (S : Nat → Prop) (w : World) (hS : ∀ k, S k → k < w.heap.size) (hG : Fl w S 3 24 Gp.cs ga d.gs) (hN : Fl w (fun b => b < w.heap.size) 8 56 Nd.cs na Ln) :
    Calls Try.prog 30 #[.agg #[.int .i64 d.id, .int .i64 d.ty, .int .i64 d.pr, .int .i64 d.pa, .slice ga d.gs.length gc, .int .i64 d.ve, .bool d.sd], .slice na Ln.length nc] w fun e w' => e = .returned (.func (.func 43) #[] #[.pointer (some ⟨w.heap.size, 0, none⟩), .pointer (some ⟨w.heap.size + 1, 0, none⟩)]) ∧ Below w.heap.size w w' ∧ w.heap.size + 1 < w'.heap.size ∧ ∀ n, SeqY n 43 #[.pointer (some ⟨w.heap.size, 0, none⟩), .pointer (some ⟨w.heap.size + 1, 0, none⟩)] eS (fun k => S k ∨ (w.heap.size ≤ k ∧ k < w'.heap.size)) (slV d Ln) w' := by
  have hmf : ∀ (fn : Fn) (first cap : Array Value) (w : World), (Instr.makeFunc fn first cap).run Try.prog w = .ok (.func fn first cap) w := fun _ _ _ _ => rfl
  have hB1 := below2 w (.cells #[.int .i64 d.id, .int .i64 d.ty, .int .i64 d.pr, .int .i64 d.pa, .slice ga d.gs.length gc, .int .i64 d.ve, .bool d.sd] 51) (.cells #[.func (.func 39) #[] #[]] 96)
  have HJ := hidOf (two_boxes (cs := [.int .i64 d.id, .int .i64 d.ty, .int .i64 d.pr, .int .i64 d.pa, .slice ga d.gs.length gc, .int .i64 d.ve, .bool d.sd]) (ds := [.func (.func 39) #[] #[]]) (t := 51) (u := 96) (w := w) (Below.refl _ _))
  have HG := hidOf hG
  have HN := hidOf hN
  have HS := hidOf hS
  have HB1 := hidOf hB1
  clear hG hN hS hB1
  by_cases hty : d.ty = 3
  · have HV : Hid (slV d Ln = if d.sd = true then [] else slK (fun _ => opK Ln Ln.length) d.gs d.gs.length) := hidOf (by unfold slV ixV; rw [if_pos hty])
    have HTY := hidOf hty
    have hbq : ((d.ty == 3) = true) := by rw [hty]; rfl
    clear hty
    have j1 : ((w.alloc (.cells #[.int .i64 d.id, .int .i64 d.ty, .int .i64 d.pr, .int .i64 d.pa, .slice ga d.gs.length gc, .int .i64 d.ve, .bool d.sd] 51)).alloc (.cells #[.func (.func 39) #[] #[]] 96)).cell? ⟨w.heap.size, 1, none⟩ = some (.int .i64 d.ty) := HJ.out.1 1 _ rfl
    have HOP := hidOf (open_any Ln na nc ((w.alloc (.cells #[.int .i64 d.id, .int .i64 d.ty, .int .i64 d.pr, .int .i64 d.pa, .slice ga d.gs.length gc, .int .i64 d.ve, .bool d.sd] 51)).alloc (.cells #[.func (.func 39) #[] #[]] 96)) (HN.out.kept (fun b hb => HB1.out.block b hb) (fun b hb => Nat.lt_of_lt_of_le hb HB1.out.size)))
    go_enter Try.func30, Try.ntmps30
    go_wp2_with (go_at_call 40; refine HOP.out.mono ?_; rintro e w2 ⟨a', c', rfl, hown, hb2⟩; have HOW := hidOf hown; have HB2 := hidOf hb2; have hs2 := hb2.size; simp only [World.size_alloc] at hs2; have q1 : w2.cell? ⟨w.heap.size + 1, 0, none⟩ = some (.func (.func 39) #[] #[]) := (hb_cell hb2 (by simp)).trans (HJ.out.2.1 0 _ rfl); have lq : w.heap.size + 1 < w2.heap.size := (by omega); have fq : w2.frozen? ⟨w.heap.size + 1, 0, none⟩ = false := frozen_of_row w2 _ 0 #[.func (.func 39) #[] #[]] 96 ((hb2.block _ (by simp)).trans (by have := heap_alloc_new (w.alloc (.cells #[.int .i64 d.id, .int .i64 d.ty, .int .i64 d.pr, .int .i64 d.pa, .slice ga d.gs.length gc, .int .i64 d.ve, .bool d.sd] 51)) (.cells #[.func (.func 39) #[] #[]] 96); rw [World.size_alloc] at this; exact this)); clear hown hb2)
    go_ret
    obtain ⟨v, hv⟩ : ∃ v, Value.func (.func 41) #[] #[.pointer (some ⟨w2.heap.size, 0, none⟩)] = v := ⟨_, rfl⟩
    rw [hv]
    have hbl1 := opK_len Ln Ln.length
    have hbd := HN.out.bd
    have BZ : Below w.heap.size w ((w2.setCell ⟨w.heap.size + 1, 0, none⟩ v).alloc (.cells #[.slice a' (opK Ln Ln.length).length c'] 30)) := ((HB1.out.trans (HB2.out.mono HB1.out.size)).setCell (p := ⟨w.heap.size + 1, 0, none⟩) (by show w.heap.size ≤ w.heap.size + 1; omega) _).alloc (by simp; omega) _
    have hzz : ((w2.setCell ⟨w.heap.size + 1, 0, none⟩ v).alloc (.cells #[.slice a' (opK Ln Ln.length).length c'] 30)).heap.size = w2.heap.size + 1 := by simp
    have hoth : ∀ b, b < w2.heap.size → b ≠ w.heap.size + 1 → ((w2.setCell ⟨w.heap.size + 1, 0, none⟩ v).alloc (.cells #[.slice a' (opK Ln Ln.length).length c'] 30)).heap[b]? = w2.heap[b]? := fun b hb hne => ((below1 _ _).block b (by simpa using hb)).trans (heap_setCell_other w2 ⟨w.heap.size + 1, 0, none⟩ b _ hne)
    refine ⟨rfl, BZ, by omega, fun n => ?_⟩
    rw [HV.out]
    refine it43o n w.heap.size (w.heap.size + 1) w2.heap.size a' c' (opK Ln Ln.length) d ga gc _ _ (fun k hk => hk.elim (fun h => Nat.lt_of_lt_of_le (HS.out k h) BZ.size) (fun h => h.2)) (.inr ⟨Nat.le_refl _, by omega⟩) (.inr ⟨by omega, by omega⟩) (.inr ⟨by omega, by omega⟩) ?_ ?_ ?_ ?_ (HG.out.kept (fun b hb => BZ.block b (HS.out b hb)) (fun _ h => .inl h))
    · exact range_of HJ.out.1 ((hoth _ (by omega) (by omega)).trans (HB2.out.block _ (by simp; omega)))
    · rw [hv]
      exact (hb_cell (below1 _ _) (by simp; omega)).trans (World.cell?_setCell_same' w2 ⟨w.heap.size + 1, 0, none⟩ v (by rw [q1]; rfl))
    · have := (Boxed.new (w2.setCell ⟨w.heap.size + 1, 0, none⟩ v) 30 (.slice a' (opK Ln Ln.length).length c')).cell
      simpa using this
    · refine (own_fl (y := 8) iC_len HOW.out (by omega)).kept (fun b hb => ?_) (fun b hb => ?_)
      · have h1 := hb.1; simp at h1; exact hoth b hb.lt (by omega)
      · have h1 := hb.1; have h2 := hb.lt; simp at h1; exact .inr ⟨by omega, by omega⟩
  · have HV : Hid (slV d Ln = if d.sd = true then [] else slK (fun g => ups (cnN g.n)) d.gs d.gs.length) := hidOf (by unfold slV ixV; rw [if_neg hty])
    have hbq : ((d.ty == 3) = false) := by simp [hty]
    have j1 : ((w.alloc (.cells #[.int .i64 d.id, .int .i64 d.ty, .int .i64 d.pr, .int .i64 d.pa, .slice ga d.gs.length gc, .int .i64 d.ve, .bool d.sd] 51)).alloc (.cells #[.func (.func 39) #[] #[]] 96)).cell? ⟨w.heap.size, 1, none⟩ = some (.int .i64 d.ty) := HJ.out.1 1 _ rfl
    go_enter Try.func30, Try.ntmps30
    go_wp2
    go_ret
    refine ⟨rfl, HB1.out, by simp, fun n => ?_⟩
    rw [HV.out]
    exact it43c n w.heap.size (w.heap.size + 1) d ga gc _ ((w.alloc (.cells #[.int .i64 d.id, .int .i64 d.ty, .int .i64 d.pr, .int .i64 d.pa, .slice ga d.gs.length gc, .int .i64 d.ve, .bool d.sd] 51)).alloc (.cells #[.func (.func 39) #[] #[]] 96)) (fun k hk => hk.elim (fun h => Nat.lt_of_lt_of_le (HS.out k h) HB1.out.size) (fun h => h.2)) (.inr ⟨Nat.le_refl _, by simp; omega⟩) (.inr ⟨by omega, by simp⟩) HJ.out.1 (HJ.out.2.1 0 _ rfl) (HG.out.kept (fun b hb => HB1.out.block b (HS.out b hb)) (fun _ h => .inl h))
def ndV (x : Nd) : Value := .agg #[.int .i64 x.id, .int .i64 x.c, .int .i64 x.m, .bool x.up, .bool x.dr, .int .i64 x.bo, .int .i64 x.ep, .int .i64 x.se]
def fnM (L : List Nd) (k : Nat) (j : Int) : Option Nd := (L.take k).find? (fun x => isI x.id j)
def fnV (L : List Nd) (k : Nat) (j : Int) : Option Value := (fnM L k j).map ndV
theorem fnM_at (L : List Nd) (k : Nat) (h : k < L.length) (j : Int) : fnM L (k + 1) j = (fnM L k j).or (if isI L[k].id j = true then some L[k] else none) := by
  unfold fnM
  rw [take_snoc L k h, List.find?_append]
  congr 1
  simp only [List.find?_cons, List.find?_nil]
  split <;> simp_all
theorem fnV_old (L : List Nd) (k : Nat) (h : k < L.length) (x y : Nd) (hx : L[k] = x) (hy : fnM L k x.id = some y) : fnV L (k + 1) = fnV L k := by
  funext j
  unfold fnV
  rw [fnM_at L k h j, hx]
  by_cases hj : isI x.id j = true
  · have : x.id = j := by simpa [isI] using hj
    rw [← this, hy]; rfl
  · rw [if_neg hj, Option.or_none]
theorem fnV_new (L : List Nd) (k : Nat) (h : k < L.length) (x : Nd) (hx : L[k] = x) (hy : fnM L k x.id = none) : (fun j => if j = x.id then some (ndV x) else fnV L k j) = fnV L (k + 1) := by
  funext j
  unfold fnV
  rw [fnM_at L k h j, hx]
  by_cases hj : j = x.id
  · subst hj; rw [hy]; simp [isI]
  · have h2 : ¬ isI x.id j = true := fun e => hj (by simp [isI] at e; exact e.symm)
    rw [if_neg hj, if_neg h2, Option.or_none]
theorem fnV_look {w : World} {b : Nat} {L : List Nd} {k : Nat} (h : MpR w b kI (fnV L k)) (z : Int) (c : Bool) : (Instr.lookup 82 (.map (some b)) (.int .i64 z) c).run Try.prog w = .ok (if c then .tuple #[((fnM L k z).map ndV).getD (.agg #[.int .i64 0, .int .i64 0, .int .i64 0, .bool false, .bool false, .int .i64 0, .int .i64 0, .int .i64 0]), .bool (fnM L k z).isSome] else ((fnM L k z).map ndV).getD (.agg #[.int .i64 0, .int .i64 0, .int .i64 0, .bool false, .bool false, .int .i64 0, .int .i64 0, .int .i64 0])) w := by
  have := h.look kyI Try.underlying82 (Try.zeroValue54 w) z c
  refine this.trans ?_
  unfold fnV
  simp
set_option maxRecDepth 100000 in
set_option maxHeartbeats 4000000 in
theorem nodes_any (L : List Nd) (a : Option Addr) (cap : Nat) (w : World) (hL : Fl w (fun b => b < w.heap.size) 8 56 Nd.cs a L) :
    Calls Try.prog 32 #[.slice a L.length cap] w fun e w' => e = .returned (.map (some w.heap.size)) ∧ MpR w' w.heap.size kI (fnV L L.length) ∧ Below w.heap.size w w' := by
  have hbd := hL.bd
  have HL := hidOf hL
  clear hL
  have hmm := @run_makeMap Try.prog
  go_enter Try.func32, Try.ntmps32
  go_wp2
  go_loopw [11] (fun i wr => ∃ (k : Nat), k ≤ L.length ∧ i = .int .i64 k ∧ Hid (MpR wr w.heap.size kI (fnV L k)) ∧ Hid (Below w.heap.size w wr) ∧ w.heap.size + 1 ≤ wr.heap.size) (fun i _ => L.length - (intOf i).toNat)
  case atStart => exact ⟨0, Nat.zero_le _, rfl, hidOf (MpR.new w kI), hidOf (below1 w _), by simp⟩
  case round =>
    obtain ⟨k, hk, rfl, HM, HB, hsz⟩ := hrel
    by_cases hlt : k < L.length
    · obtain ⟨b, off, ha, hQb, hcc⟩ := HL.out.at k hlt
      have hbw : b < w.heap.size := hQb
      have HOLD := hidOf (fnV_old L k hlt)
      have HNEW := hidOf (fnV_new L k hlt)
      obtain ⟨x, hx⟩ : ∃ x, L[k] = x := ⟨_, rfl⟩
      rw [hx] at hcc
      have HOLD := hidOf (fun y => HOLD.out x y hx)
      have HNEW := hidOf (HNEW.out x hx)
      clear hx
      subst ha
      have hcr := range_of hcc (HB.out.block b hbw)
      have hbl : b < wr.heap.size := by omega
      have c0 : wr.cell? ⟨b, off + k * 8, none⟩ = some (.int .i64 x.id) := hcr 0 _ rfl
      have c1 : wr.cell? ⟨b, off + k * 8 + 1, none⟩ = some (.int .i64 x.c) := hcr 1 _ rfl
      have c2 : wr.cell? ⟨b, off + k * 8 + 2, none⟩ = some (.int .i64 x.m) := hcr 2 _ rfl
      have c3 : wr.cell? ⟨b, off + k * 8 + 3, none⟩ = some (.bool x.up) := hcr 3 _ rfl
      have c4 : wr.cell? ⟨b, off + k * 8 + 4, none⟩ = some (.bool x.dr) := hcr 4 _ rfl
      have c5 : wr.cell? ⟨b, off + k * 8 + 5, none⟩ = some (.int .i64 x.bo) := hcr 5 _ rfl
      have c6 : wr.cell? ⟨b, off + k * 8 + 6, none⟩ = some (.int .i64 x.ep) := hcr 6 _ rfl
      have c7 : wr.cell? ⟨b, off + k * 8 + 7, none⟩ = some (.int .i64 x.se) := hcr 7 _ rfl
      clear hcc hcr
      have HMW : Hid (∀ W, Below wr.heap.size wr W → MpR W w.heap.size kI (fnV L k)) := hidOf fun W hb => HM.out.keep (hb.block _ (by omega))
      have hlk := fnV_look (HMW.out _ (below1 wr (.cells #[.int .i64 x.id, .int .i64 x.c, .int .i64 x.m, .bool x.up, .bool x.dr, .int .i64 x.bo, .int .i64 x.ep, .int .i64 x.se] 54))) x.id true
      rw [if_pos rfl] at hlk
      cases hf : fnM L k x.id with
      | some y =>
        rw [hf] at hlk
        simp only [Option.map_some, Option.getD_some, Option.isSome_some, ndV] at hlk
        have HE := hidOf (HOLD.out y hf)
        clear hf
        go_wp2
        go_roundw
        case rel => exact ⟨k + 1, by omega, by simp, hidOf (by rw [HE.out]; exact HMW.out _ (below2 wr _ _)), hidOf (HB.out.trans ((below2 wr _ _).mono HB.out.size)), by simp; omega⟩
        case measure => simp [intOf]; omega
      | none =>
        rw [hf] at hlk
        simp only [Option.map_none, Option.getD_none, Option.isSome_none] at hlk
        have HE := hidOf (HNEW.out hf)
        clear hf
        have hbx := box_new (wr := wr) (cs := [.int .i64 x.id, .int .i64 x.c, .int .i64 x.m, .bool x.up, .bool x.dr, .int .i64 x.bo, .int .i64 x.ep, .int .i64 x.se]) (t := 54) (below1 (wr.alloc (.cells #[.int .i64 x.id, .int .i64 x.c, .int .i64 x.m, .bool x.up, .bool x.dr, .int .i64 x.bo, .int .i64 x.ep, .int .i64 x.se] 54)) (.cells #[.int .i64 0, .int .i64 0, .int .i64 0, .bool false, .bool false, .int .i64 0, .int .i64 0, .int .i64 0] 54))
        go_wp2_with (at_mapUpdate; refine wpList_mapX _ rfl _ _ _ 82 rfl 3 54 kyI Try.underlying82 w.heap.size _ rfl (HMW.out _ (below2 wr _ _)) x.id (ndV x) rfl rfl ?_; intro w2 hm2 hs2 hz2 hg2; have HM2 := hidOf hm2; have HG2 := hidOf hg2; have HZ2 := hidOf hz2; clear hm2 hs2 hz2 hg2)
        have hz2 := HZ2.out
        simp only [World.size_alloc] at hz2
        go_roundw
        case rel => exact ⟨k + 1, by omega, by simp, hidOf (by rw [← HE.out]; exact HM2.out), hidOf ((HB.out.trans ((below2 wr _ _).mono HB.out.size)).grown HG2.out (by simp; omega) (fun k e => by cases e; exact Nat.le_refl _)), by omega⟩
        case measure => simp [intOf]; omega
    · have hkl : k = L.length := by omega
      subst hkl
      go_wp2
      go_ret
      exact ⟨rfl, HM.out, HB.out⟩
end Go.Proofs.Ytaaodmagchpnbaa
