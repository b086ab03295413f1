/- Wgf -/
import Derived.Test.YtocoimjhglackaaGreatQ31
set_option maxHeartbeats 8000000
set_option maxRecDepth 100000
namespace Go.Proofs.YtocoimjhglackaaGreat
section
open Go.RowKit Go.Maps
def Fq (F : Nat -> Prop) (q : Nat) : Nat -> Prop := fun k => F k \/ k = q
theorem Fr.toQ {w w' : World} {F F' : Nat -> Prop} (h : Fr w w' F F') (q : Nat) : Fr w w' (Fq F q) (Fq F' q) := ⟨h.os, h.tape, h.output, h.size, fun k hk hF => h.block k hk (fun e => hF (.inl e)), fun k hk => by
 rcases hk with e | e
 · rcases h.foot k e with e | e
   · exact .inl (.inl e)
   · exact .inr e
 · exact .inl (.inr e)⟩
theorem Fr.setQ {w w' : World} {F F' : Nat -> Prop} {q : Nat} (h : Fr w w' (Fq F q) (Fq F' q)) (j : Nat) (v : Value) : Fr w (w'.setCell ⟨q, j, none⟩ v) (Fq F q) (Fq F' q) :=
 ⟨h.os, h.tape, h.output, by simpa using h.size, fun k hk hF => (zB3 w' q j v k (fun e => hF (.inr e))).trans (h.block k hk hF), h.foot⟩
theorem WalR.fail {w w1 : World} {q p : Nat} {M M' : Md} {cnt cnt' : Nat} {F F' : Nat -> Prop} {m : Sd} {rf : Bool} (h : WalR w q p M cnt F m rf) (hf : Fr w w1 F F') (hd : Dsk (w1.setCell ⟨q, 1, none⟩ (.bool true)) p M' cnt' F') : WalR (w1.setCell ⟨q, 1, none⟩ (.bool true)) q p M' cnt' F' m true := by
 obtain ⟨sv, ev, h1, h2, h3⟩ := h.blk
 have lq := zA4 h1
 have hq1 : w1.heap[q]? = _ := (hf.block q lq h.nq).trans h1
 have hk : ∀ k, Sw w F q k -> (w1.setCell ⟨q, 1, none⟩ (.bool true)).heap[k]? = w.heap[k]? := fun k hk => (zB3 _ _ _ _ k hk.2.2).trans (hf.block k hk.1 hk.2.1)
 have hS : ∀ k, Sw w F q k -> Sw (w1.setCell ⟨q, 1, none⟩ (.bool true)) F' q k := fun k hk => ⟨by simpa using Nat.lt_of_lt_of_le hk.1 hf.size, hf.notF hk.1 hk.2.1, hk.2.2⟩
 refine ⟨⟨sv, ev, ?_, h2.kept hk hS, h3.kept (by simpa using hf.size) hk hS⟩, hd, hf.notF lq h.nq, h.okd, h.len⟩
 show _ = _
 rw [heap_setCell_same w1 q 1 _ 98 _ hq1]
 rfl
theorem WalR.setS {w w1 : World} {q p : Nat} {M M' : Md} {cnt cnt' : Nat} {F F' : Nat -> Prop} {m nx : Sd} {rf : Bool} {sv ev : Value} (h : WalR w q p M cnt F m rf) (hf : Fr w w1 F F') (hd : Dsk w1 p M' cnt' F') (hs : zL8 w (Sw w F q) [.int .i64 nx.t, .int .i64 nx.v, sv, .int .i64 nx.base, ev] nx) (hok : Okd nx) (hl : nx.bs.length <= 2097152) : WalR (((((w1.setCell ⟨q, 2, none⟩ (.int .i64 nx.t)).setCell ⟨q, 3, none⟩ (.int .i64 nx.v)).setCell ⟨q, 4, none⟩ sv).setCell ⟨q, 5, none⟩ (.int .i64 nx.base)).setCell ⟨q, 6, none⟩ ev) q p M' cnt' F' nx rf := by
 obtain ⟨sv0, ev0, h1, _, _⟩ := h.blk
 have lq := zA4 h1
 have hq1 : w1.heap[q]? = _ := (hf.block q lq h.nq).trans h1
 obtain ⟨sv', ev', e, h2, h3⟩ := hs
 cases e
 have ho : ∀ k, k ≠ q -> (((((w1.setCell ⟨q, 2, none⟩ (.int .i64 nx.t)).setCell ⟨q, 3, none⟩ (.int .i64 nx.v)).setCell ⟨q, 4, none⟩ sv).setCell ⟨q, 5, none⟩ (.int .i64 nx.base)).setCell ⟨q, 6, none⟩ ev).heap[k]? = w1.heap[k]? := fun k hk =>
  (zB3 _ q 6 _ k hk).trans ((zB3 _ q 5 _ k hk).trans ((zB3 _ q 4 _ k hk).trans ((zB3 _ q 3 _ k hk).trans (zB3 w1 q 2 _ k hk))))
 have hk : ∀ k, Sw w F q k -> (((((w1.setCell ⟨q, 2, none⟩ (.int .i64 nx.t)).setCell ⟨q, 3, none⟩ (.int .i64 nx.v)).setCell ⟨q, 4, none⟩ sv).setCell ⟨q, 5, none⟩ (.int .i64 nx.base)).setCell ⟨q, 6, none⟩ ev).heap[k]? = w.heap[k]? := fun k hk => (ho k hk.2.2).trans (hf.block k hk.1 hk.2.1)
 have hS : ∀ k, Sw w F q k -> Sw (((((w1.setCell ⟨q, 2, none⟩ (.int .i64 nx.t)).setCell ⟨q, 3, none⟩ (.int .i64 nx.v)).setCell ⟨q, 4, none⟩ sv).setCell ⟨q, 5, none⟩ (.int .i64 nx.base)).setCell ⟨q, 6, none⟩ ev) F' q k := fun k hk => ⟨by simpa using Nat.lt_of_lt_of_le hk.1 hf.size, hf.notF hk.1 hk.2.1, hk.2.2⟩
 have hnq := hf.notF lq h.nq
 refine ⟨⟨sv, ev, ?_, h2.kept hk hS, h3.kept (by simpa using hf.size) hk hS⟩, hd.keep (fun k hF => ho k (fun e => hnq (e ▸ hF))) (fun k cs t ht hj => ho k (fun e => ?_)), hnq, hok, hl⟩
 · show _ = _
   rw [heap_setCell_same _ q 6 _ 98 _ (heap_setCell_same _ q 5 _ 98 _ (heap_setCell_same _ q 4 _ 98 _ (heap_setCell_same _ q 3 _ 98 _ (heap_setCell_same w1 q 2 _ 98 _ hq1))))]
   rfl
 · rw [e, hq1] at hj
   cases hj
   revert ht; decide
def SvO (w : World) (q p cnt : Nat) (F : Nat -> Prop) (m nx : Sd) (acts : List Ax) (M : Md) (e : Ending) (w' : World) : Prop := ∃ k F', k <= acts.length /\ (∀ j, j < k -> (runT acts j M).left ≠ 0) /\ Fr w w' (Fq F q) (Fq F' q) /\ ((k = acts.length /\ e = .returned (.int .i64 0) /\ WalR w' q p (runT acts k M) (cnt + 4) F' nx false) \/ (k < acts.length /\ (runT acts k M).left = 0 /\ e = .returned (.int .i64 11) /\ WalR w' q p (runT acts k M) (cnt + 4) F' m true))
def moS (t v : Int) (vs : List En) : Sd := if vs = [] then ⟨t, v, none, 0, []⟩ else ⟨t, v, none, n0 vs - 1, bods vs⟩
def nxS (m : Sd) (t v : Int) (vs : List En) : Sd := putB (setH m t v) (n0 vs) (bods vs)
def accS (m : Sd) (t v : Int) (vs : List En) : Prop := okL m vs /\ okN t /\ okN v
theorem zV9 {vs : List En} : bods vs = [] ↔ vs = [] := by unfold bods; simp
theorem yE8 {m : Sd} {vs : List En} (h : okL m vs) (t v : Int) : Cont (setH m t v) (n0 vs) (bods vs) := by
 refine ⟨fun hne => ?_, fun i b hb => ?_⟩
 · obtain ⟨x, hx⟩ : ∃ x, vs[0]? = some x := by
     cases vs with
     | nil => exact absurd rfl (fun h => hne (zV9.2 h))
     | cons y ys => exact ⟨y, rfl⟩
   have := h 0 x hx
   exact ⟨this.2.2.1, this.2.2.2⟩
 · unfold bods at hb
   rw [List.getElem?_map] at hb
   cases hv : vs[i]? with
   | none => rw [hv] at hb; cases hb
   | some x =>
    rw [hv] at hb
    cases hb
    have := h i x hv
    obtain ⟨g1, g2⟩ := kB3 this.1
    exact ⟨g1, by rw [g2]; exact this.2.1⟩
theorem zR3 {m : Sd} {t v : Int} {vs : List En} (hm : Okd m) (h : accS m t v vs) : Okd (nxS m t v vs) := xS5 ⟨h.2.1, h.2.2, hm.no, hm.sn, hm.base, hm.es⟩ (yE8 h.1 t v)
theorem zZ8 {t v : Int} {vs : List En} : zE1 (moS t v vs) = yQ1 t v (n0 vs) (bods vs) := by
 unfold moS
 split
 · rename_i e
   subst e
   unfold zE1 frS yQ1
   simp [bods, frE]
 · unfold zE1 frS yQ1
   simp only [List.append_nil]
   rw [show n0 vs - 1 + 1 = n0 vs by omega]
theorem xC5 {m : Sd} {t v : Int} {vs : List En} (h : accS m t v vs) (hm : Okd m) (hl : vs.length <= 1048576) : FrOk (moS t v vs) := by
 unfold moS
 split
 · exact ⟨h.2.1, h.2.2, fun b hb => (by cases hb), Int.le_refl _, by show (0 : Int) + ((0 : Nat) : Int) <= _; omega, fun b hb => (by cases hb), by show (0 : Nat) <= _; omega⟩
 · rename_i hne
   have hc := yE8 h.1 t v
   have h1 := hc.1 (fun e => hne (zV9.1 e))
   have hb0 := hm.base
   have hbl : (bods vs).length = vs.length := by unfold bods; simp
   refine ⟨h.2.1, h.2.2, fun b hb => (by cases hb), by show 0 <= n0 vs - 1; have : (setH m t v).base = m.base := rfl; omega, ?_, fun b hb => ?_, by show (bods vs).length <= _; omega⟩
   · show n0 vs - 1 + ((bods vs).length : Int) <= _
     obtain ⟨n, hn⟩ : ∃ n, (bods vs).length = n + 1 := ⟨(bods vs).length - 1, by have : 0 < vs.length := List.length_pos_iff.2 hne; omega⟩
     obtain ⟨b, hb⟩ : ∃ b, (bods vs)[n]? = some b := ⟨_, List.getElem?_eq_getElem (by omega)⟩
     have h2 := hc.2 n b hb
     have h3 := xS9 h2.1 h2.2
     omega
   · obtain ⟨i, hi, rfl⟩ := List.getElem_of_mem hb
     exact zT0 (hc.2 i _ (List.getElem?_eq_getElem hi)).1
end
end Go.Proofs.YtocoimjhglackaaGreat
