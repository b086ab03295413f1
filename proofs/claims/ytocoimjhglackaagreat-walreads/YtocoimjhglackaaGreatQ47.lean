/- Whf, Wic, Open -/
import Derived.Test.YtocoimjhglackaaGreatQ46
import Derived.ProofKit
import Derived.OpenShut
import Derived.ShutString
import Derived.ChangeOld
import Derived.Below
import Derived.SizedLaws
set_option maxHeartbeats 8000000
set_option maxRecDepth 100000
namespace Go.Proofs.YtocoimjhglackaaGreat
section
open Go.RowKit Go.Maps
theorem xN6 {w : World} {S : Nat -> Prop} {a : Option Addr} {l : List Int} (h : RepL w S .num a l) (hS : ∀ k, S k -> k < w.heap.size) (hne : l ≠ []) : ∃ b off, a = some ⟨b, off, none⟩ /\ b < w.heap.size /\ ∀ j (hj : j < l.length), w.cell? ⟨b, off + j, none⟩ = some (.int .i64 l[j]) := by
 obtain ⟨b, off, e, hb, hc⟩ := h.2 hne
 refine ⟨b, off, e, hS b hb, fun j hj => ?_⟩
 obtain ⟨es, h1, h2⟩ := hc j hj
 have h3 : es = [.int .i64 l[j]] := h1
 have := h2 0 (.int .i64 l[j]) (by rw [h3]; rfl)
 simpa [wd] using this
theorem zU5 (S : Nat -> Prop) (a1 a2 : Option Addr) (n c1 c2 : Nat) (l : List Int) (w : World) (hn : n = l.length) (h1 : RepL w S .num a1 l) (h2 : RepL w S .num a2 l) (hS : ∀ k, S k -> k < w.heap.size) (hlb : l.length <= 1048576) : Calls Tryz.prog 44 #[.slice a1 n c1, .slice a2 n c2] w fun e w' => e = .returned (.bool true) /\ ∃ nq, w' = w.drewN nq := by
 have HN := zA0 hn
 have hnb : (n : Int) <= 1048576 := by omega
 have H1 := zA0 (fun hne => xN6 h1 hS hne)
 have H2 := zA0 (fun hne => xN6 h2 hS hne)
 clear hn h1 h2 hS hlb
 go_enter Tryz.func44, Tryz.ntmps44
 go_wp2
 go_loopw [5] (fun i wr => ∃ k : Nat, k <= n /\ i = .int .i64 k /\ ∃ nq, wr = w.drewN nq) (fun i _ => n - (intOf i).toNat)
 case atStart => exact ⟨0, Nat.zero_le _, rfl, 0, rfl⟩
 case round =>
  obtain ⟨k, hk, rfl, nq, rfl⟩ := hrel
  by_cases hlt : k < n
  · have hkl : k < l.length := by rw [<- HN.out]; exact hlt
    have hne : l ≠ [] := by intro e; rw [e] at hkl; simp at hkl
    obtain ⟨b, off, rfl, hb, hc⟩ := H1.out hne
    obtain ⟨b', off', rfl, hb', hc'⟩ := H2.out hne
    have hcp := hc k hkl
    have hcp' := hc' k hkl
    generalize l[k] = x at *
    clear hc hc' hne hkl
    go_wp2
    go_quiet (fail)
    go_wp2
    exact ⟨⟨k + 1, by omega, by go_num, _, rfl⟩, by simp [intOf]; omega⟩
  · go_wp2
    go_ret
    exact ⟨rfl, _, rfl⟩
theorem Okd.lens {s : Sd} (h : Okd s) : (snV s).2.2.1.1.length <= 64 /\ (snV s).2.2.1.2.length <= 64 /\ (snV s).2.2.2.length <= 65536 := by
 unfold snV
 cases hs : s.sn with
 | none => exact ⟨Nat.zero_le _, Nat.zero_le _, Nat.zero_le _⟩
 | some b => exact xA6 (yJ2 (h.sn b hs).1).1
theorem zX7 {w : World} {S : Nat -> Prop} {cs : List Value} {v : Vl zC6} (h : Rep w S zC6 cs v) : ∃ av cv al cl ad cd ea ec, cs = [.int .i64 v.1.1, .int .i64 v.1.2, .int .i64 v.2.1.1, .int .i64 v.2.1.2.1, .slice av v.2.1.2.2.1.1.length cv, .slice al v.2.1.2.2.1.2.length cl, .slice ad v.2.1.2.2.2.length cd, .slice ea v.2.2.length ec] /\ RepL w S .num av v.2.1.2.2.1.1 /\ RepL w S .num al v.2.1.2.2.1.2 /\ RepB w S ad v.2.1.2.2.2 /\ RepL w S zA8 ea v.2.2 := by
 obtain ⟨xs, ys, rfl, ⟨x1, x2, rfl, h1, h2⟩, x3, x4, rfl, h3, h4⟩ := h
 rw [show x1 = _ from h1, show x2 = _ from h2]
 obtain ⟨av, cv, al, cl, ad, cd, rfl, k1, k2, _, k3⟩ := zJ9 h3
 obtain ⟨ea, ec, rfl, h5, h6⟩ := h4
 exact ⟨av, cv, al, cl, ad, cd, ea, ec, rfl, k1, k2, k3, h5, h6⟩
theorem zY0 (ca cb : List Value) (s : Sd) (w : World) (h1 : Rep w (fun k => k < w.heap.size) zC6 ca (dec s)) (h2 : Rep w (fun k => k < w.heap.size) zC6 cb (dec s)) (hok : Okd s) (hlb : s.bs.length <= 4194304) : Calls Tryz.prog 15 #[.agg ca.toArray, .agg cb.toArray] w fun e w' => e = .returned (.bool true) /\ Below w.heap.size w w' := by
 obtain ⟨av, cv, al, cl, ad, cd, ea, ec, rfl, a1, a2, a3, a4⟩ := zX7 h1
 obtain ⟨av', cv', al', cl', ad', cd', ea', ec', rfl, b1, b2, b3, b4⟩ := zX7 h2
 obtain ⟨m1, m2, m3⟩ := hok.lens
 have hml : (s.bs.map dE).length = s.bs.length := by simp
 simp only [dec] at *
 rw [hml]
 have A1 := zA0 a1
 have A2 := zA0 a2
 have A3 := zA0 a3
 have A4 := zA0 a4
 have B1 := zA0 b1
 have B2 := zA0 b2
 have B3 := zA0 b3
 have B4 := zA0 b4
 have HOK := zA0 hok
 clear h1 h2 a1 a2 a3 a4 b1 b2 b3 b4 hok
 generalize hsn : snV s = sn at *
 obtain ⟨bi, bt, ⟨lv, ll⟩, ld⟩ := sn
 simp only at *
 have M1 := zA0 m1
 have M2 := zA0 m2
 obtain ⟨nv, hnv⟩ : ∃ x, x = lv.length := ⟨_, rfl⟩
 obtain ⟨nl, hnl⟩ : ∃ x, x = ll.length := ⟨_, rfl⟩
 obtain ⟨nd, hnd⟩ : ∃ x, x = ld.length := ⟨_, rfl⟩
 obtain ⟨len, hlen⟩ : ∃ x, x = s.bs.length := ⟨_, rfl⟩
 rw [<- hnv, <- hnl, <- hnd, <- hlen]
 rw [<- hlen] at hlb
 have HNV := zA0 hnv
 have HNL := zA0 hnl
 have HND := zA0 hnd
 have HLEN := zA0 hlen
 have HML := zA0 hml
 clear hnv hnl hnd hlen hml m1 m2 m3 hsn
 generalize s.t = t at *
 generalize s.v = v at *
 obtain ⟨w0, hw0⟩ : ∃ w0, w0 = (w.alloc (.cells #[.int .i64 t, .int .i64 v, .int .i64 bi, .int .i64 bt, .slice av nv cv, .slice al nl cl, .slice ad nd cd, .slice ea len ec] 39)).alloc (.cells #[.int .i64 t, .int .i64 v, .int .i64 bi, .int .i64 bt, .slice av' nv cv', .slice al' nl cl', .slice ad' nd cd', .slice ea' len ec'] 39) := ⟨_, rfl⟩
 have HB0 : Hid (Below w.heap.size w w0) := zA0 (by rw [hw0]; exact (zB7 w _).alloc (by simp) _)
 have HGA : Hid (w0.heap[w.heap.size]? = some (.cells #[.int .i64 t, .int .i64 v, .int .i64 bi, .int .i64 bt, .slice av nv cv, .slice al nl cl, .slice ad nd cd, .slice ea len ec] 39 (0, 0))) := zA0 (by rw [hw0]; exact (Below.heap_alloc _ _ _ (by simp)).trans (heap_alloc_new w _))
 have HGB : Hid (w0.heap[w.heap.size + 1]? = some (.cells #[.int .i64 t, .int .i64 v, .int .i64 bi, .int .i64 bt, .slice av' nv cv', .slice al' nl cl', .slice ad' nd cd', .slice ea' len ec'] 39 (0, 0))) := zA0 (by
  rw [hw0]
  have := heap_alloc_new (w.alloc (.cells #[.int .i64 t, .int .i64 v, .int .i64 bi, .int .i64 bt, .slice av nv cv, .slice al nl cl, .slice ad nd cd, .slice ea len ec] 39)) (.cells #[.int .i64 t, .int .i64 v, .int .i64 bi, .int .i64 bt, .slice av' nv cv', .slice al' nl cl', .slice ad' nd cd', .slice ea' len ec'] 39)
  rwa [World.size_alloc] at this)
 have CF : Hid (∀ W : World, W.heap[w.heap.size]? = some (.cells #[.int .i64 t, .int .i64 v, .int .i64 bi, .int .i64 bt, .slice av nv cv, .slice al nl cl, .slice ad nd cd, .slice ea len ec] 39 (0, 0)) -> W.heap[w.heap.size + 1]? = some (.cells #[.int .i64 t, .int .i64 v, .int .i64 bi, .int .i64 bt, .slice av' nv cv', .slice al' nl cl', .slice ad' nd cd', .slice ea' len ec'] 39 (0, 0)) -> (W.cell? ⟨w.heap.size, 0, none⟩ = some (.int .i64 t) /\ W.cell? ⟨w.heap.size, 1, none⟩ = some (.int .i64 v) /\ W.cell? ⟨w.heap.size, 2, none⟩ = some (.int .i64 bi) /\ W.cell? ⟨w.heap.size, 3, none⟩ = some (.int .i64 bt) /\ W.cell? ⟨w.heap.size, 4, none⟩ = some (.slice av nv cv) /\ W.cell? ⟨w.heap.size, 5, none⟩ = some (.slice al nl cl) /\ W.cell? ⟨w.heap.size, 6, none⟩ = some (.slice ad nd cd) /\ W.cell? ⟨w.heap.size, 7, none⟩ = some (.slice ea len ec)) /\ (W.cell? ⟨w.heap.size + 1, 0, none⟩ = some (.int .i64 t) /\ W.cell? ⟨w.heap.size + 1, 1, none⟩ = some (.int .i64 v) /\ W.cell? ⟨w.heap.size + 1, 2, none⟩ = some (.int .i64 bi) /\ W.cell? ⟨w.heap.size + 1, 3, none⟩ = some (.int .i64 bt) /\ W.cell? ⟨w.heap.size + 1, 4, none⟩ = some (.slice av' nv cv') /\ W.cell? ⟨w.heap.size + 1, 5, none⟩ = some (.slice al' nl cl') /\ W.cell? ⟨w.heap.size + 1, 6, none⟩ = some (.slice ad' nd cd') /\ W.cell? ⟨w.heap.size + 1, 7, none⟩ = some (.slice ea' len ec'))) := zA0 (fun W g1 g2 => by
  refine ⟨⟨?_, ?_, ?_, ?_, ?_, ?_, ?_, ?_⟩, ?_, ?_, ?_, ?_, ?_, ?_, ?_, ?_⟩ <;> first | (rw [cell_of_row _ _ _ _ 39 (0, 0) g1]; rfl) | (rw [cell_of_row _ _ _ _ 39 (0, 0) g2]; rfl))
 go_enter Tryz.func15, Tryz.ntmps15
 go_upto_region 1 with (fail)
 rw [<- hw0]
 clear hw0
 obtain ⟨⟨p0, p1, p2, p3, p4, p5, p6, p7⟩, q0, q1, q2, q3, q4, q5, q6, q7⟩ := CF.out w0 HGA.out HGB.out
 have la := zA4 HGA.out
 have lb := zA4 HGB.out
 have K0 : Hid (∀ {f : Fm} {a : Option Addr} {vs : List (Vl f)} (W : World), Below w.heap.size w W -> RepL w (fun k => k < w.heap.size) f a vs -> RepL W (fun k => k < W.heap.size) f a vs) := zA0 (fun W hb h => h.kept hb.size (fun j hj => hb.block j hj) (fun j hj => Nat.lt_of_lt_of_le hj hb.size))
 go_wp2_with fail
 refine (zU5 (fun k => k < w0.heap.size) av av' nv cv cv' lv w0 HNV.out (K0.out w0 HB0.out A1.out) (K0.out w0 HB0.out B1.out) (fun _ h => h) (by have := M1.out; omega)).mono ?_
 rintro e w1 ⟨rfl, m, rfl⟩
 go_wp2_with fail
 refine (zU5 (fun k => k < w0.heap.size) al al' nl cl cl' ll (w0.drewN m) HNL.out (K0.out w0 HB0.out A2.out) (K0.out w0 HB0.out B2.out) (fun _ h => h) (by have := M2.out; omega)).mono ?_
 rintro e w1 ⟨rfl, m2, rfl⟩
 go_wp2_with fail
 have hkB : ∀ {a : Option Addr} {l : List UInt8}, RepB w (fun k => k < w.heap.size) a l -> Bs w0 a l := fun h => h.1.grow HB0.out
 refine (zJ1 ad ad' nd nd cd cd' ld ld _ HND.out HND.out ((hkB A3.out).drewN _) ((hkB B3.out).drewN _)).mono ?_
 rintro e w1 ⟨rfl, m3, rfl⟩
 rw [decide_eq_true (rfl : ld = ld)]
 clear hkB
 go_wp2_with fail
 clear p0 p1 p2 p3 p4 p5 p6 p7 q0 q1 q2 q3 q4 q5 q6 q7 la lb
 go_loopw [9] (fun i wr => ∃ k : Nat, k <= len /\ i = .int .i64 k /\ Hid (wr.heap[w.heap.size]? = some (.cells #[.int .i64 t, .int .i64 v, .int .i64 bi, .int .i64 bt, .slice av nv cv, .slice al nl cl, .slice ad nd cd, .slice ea len ec] 39 (0, 0))) /\ Hid (wr.heap[w.heap.size + 1]? = some (.cells #[.int .i64 t, .int .i64 v, .int .i64 bi, .int .i64 bt, .slice av' nv cv', .slice al' nl cl', .slice ad' nd cd', .slice ea' len ec'] 39 (0, 0))) /\ Hid (Below w.heap.size w wr)) (fun i _ => len - (intOf i).toNat)
 case atStart => exact ⟨0, Nat.zero_le _, rfl, HGA, HGB, zA0 ⟨HB0.out.os, HB0.out.tape, HB0.out.output, HB0.out.size, HB0.out.block⟩⟩
 case round =>
  obtain ⟨k, hk, rfl, HA, HB, HBR⟩ := hrel
  obtain ⟨⟨_, _, _, _, _, _, _, p7⟩, _, _, _, _, _, _, _, q7⟩ := CF.out wr HA.out HB.out
  have la := zA4 HA.out
  have lb := zA4 HB.out
  by_cases hlt : k < len
  · have hkl : k < (s.bs.map dE).length := by rw [HML.out, <- HLEN.out]; exact hlt
    obtain ⟨b1, o1, es1, rfl, hs1, hr1, hg1⟩ := Rep.load (K0.out wr HBR.out A4.out) hkl
    obtain ⟨b2, o2, es2, rfl, hs2, hr2, hg2⟩ := Rep.load (K0.out wr HBR.out B4.out) hkl
    obtain ⟨bo, hbo⟩ : ∃ bo, s.bs[k]? = some bo := ⟨_, List.getElem?_eq_getElem (by rw [<- HLEN.out]; exact hlt)⟩
    have hx : (s.bs.map dE)[k] = dE bo := by
     have : (s.bs.map dE)[k]? = some (dE bo) := by rw [List.getElem?_map, hbo]; rfl
     rw [List.getElem?_eq_getElem hkl] at this
     exact Option.some.inj this
    rw [hx] at hr1 hr2
    have hen := (yT2 (HOK.out.es k bo hbo).1).1
    have HEN := zA0 hen
    have HBY : Hid (zE7 (en zA8 (dE bo)) = bo) := zA0 (by unfold zE7; rw [hen]; exact (yT2 (HOK.out.es k bo hbo).1).2.symm)
    have HBL : Hid (bo.length <= 7470) := zA0 (zT0 (HOK.out.es k bo hbo).1)
    have HSZ := zA0 (zQ6 _ hen)
    obtain ⟨r1, he1, hel1⟩ := zF4 hr1
    obtain ⟨r2, he2, hel2⟩ := zF4 hr2
    have R1 := zA0 hr1
    have R2 := zA0 hr2
    have G1 := zA0 hg1
    have G2 := zA0 hg2
    have I1 := zA0 (zI6 hel1)
    have I2 := zA0 (zI6 hel2)
    have S2 := zA0 hs2
    clear hr1 hr2 hg1 hg2 he1 he2 hel1 hel2 hen hx hbo hkl r1 r2
    go_wp2_with (refine wpList_load_mid rfl 73 (.tmp 95) rfl b1 (o1 + k * 29) rfl es1 _ G1.out Tryz.underlying73 rfl I1.out ?_)
    refine (zS7 es1 (dE bo) wr HSZ.out R1.out).mono ?_
    rintro e w1 ⟨z1, rfl, ho1, hn1, hB1⟩
    have HA1 := zA0 ((hB1.block _ (zA4 HA.out)).trans HA.out)
    have HB1 := zA0 ((hB1.block _ (zA4 HB.out)).trans HB.out)
    have HBR1 := zA0 (HBR.out.trans (hB1.mono HBR.out.size))
    have G21 : Hid (w1.rangeAt b2 (o2 + k * 29) es2) := zA0 (zC4 G2.out (hB1.block b2 S2.out))
    have R21 : Hid (Rep w1 (fun q => q < w1.heap.size) zA8 es2 (dE bo)) := zA0 (R2.out.kept hB1.size (fun j hj => hB1.block j hj) (fun j hj => Nat.lt_of_lt_of_le hj hB1.size))
    rw [HBY.out] at ho1
    obtain ⟨za1, zc1, hz1, hzb1⟩ := ho1.form
    subst hz1
    have BZ1 := zA0 (hzb1 (by have := HBL.out; omega))
    obtain ⟨⟨_, _, _, _, _, _, _, p7'⟩, _, _, _, _, _, _, _, q7'⟩ := CF.out w1 HA1.out HB1.out
    have la1 := zA4 HA1.out
    have lb1 := zA4 HB1.out
    clear ho1 hn1 hB1 hzb1 p7 q7 la lb
    generalize hbn : bo.length = bn at BZ1 ⊢
    have HBN := zA0 hbn.symm
    clear hbn
    generalize zV5 (en zA8 (dE bo)).2 = co
    go_wp2_with (refine wpList_load_mid rfl 73 (.tmp 104) rfl b2 (o2 + k * 29) rfl es2 _ G21.out Tryz.underlying73 rfl I2.out ?_)
    refine (zS7 es2 (dE bo) w1 HSZ.out R21.out).mono ?_
    rintro e w2 ⟨z2, rfl, ho2, hn2, hB2⟩
    have HA2 := zA0 ((hB2.block _ (zA4 HA1.out)).trans HA1.out)
    have HB2 := zA0 ((hB2.block _ (zA4 HB1.out)).trans HB1.out)
    have HBR2 := zA0 (HBR1.out.trans (hB2.mono HBR1.out.size))
    rw [HBY.out] at ho2
    obtain ⟨za2, zc2, hz2, hzb2⟩ := ho2.form
    subst hz2
    have HSM := zA0 (zJ1 za1 za2 bn bo.length zc1 zc2 bo bo w2 HBN.out rfl (BZ1.out.grow hB2) (hzb2 (by have := HBL.out; omega)))
    clear ho2 hn2 hB2 hzb2 p7' q7' la1 lb1
    generalize zV5 (en zA8 (dE bo)).2 = co2
    generalize bo.length = bn2 at HSM ⊢
    go_wp2_with fail
    refine HSM.out.mono ?_
    rintro e w3 ⟨rfl, m4, rfl⟩
    rw [show decide True = true from rfl]
    go_wp2
    exact ⟨⟨k + 1, by omega, by go_num, HA2, HB2, zA0 ⟨HBR2.out.os, HBR2.out.tape, HBR2.out.output, HBR2.out.size, HBR2.out.block⟩⟩, by simp [intOf]; omega⟩
  · go_wp2
    go_ret
    exact ⟨rfl, HBR.out⟩
end
section
open Go.RowKit Go.Maps
theorem kC2 {l : List UInt8} (h : 1048576 < l.length) (m : Nat) : apE lgN l.length M0 m = 2 := by
 unfold apE zH7
 rw [if_pos zZ2, if_neg (by decide), if_neg]
 have : ¬ (((cOf M0.files lgN).length + l.length : Nat) : Int) <= 1048576 := by omega
 rw [decide_eq_false this]
 simp
def M2 (l : List UInt8) : Md := runT (ad l) 2 M0
theorem xC9 (l : List UInt8) : Cln (M2 l) := ⟨zM3 rfl 2, Fw.runT (M := M0) cln0.fw _ 2, rfl, by
 show rep ([] ++ [(max 1 l.length, .ap lgN l)]) fs0 = doD (.ap lgN l) (max 1 l.length) fs0
 rfl⟩
theorem xZ4 (l : List UInt8) : (M2 l).files lgN = some l := by
 show fup fs0 lgN (some ((fs0 lgN).getD [] ++ l.take (max 1 l.length))) lgN = some l
 rw [List.take_of_length_le (by omega)]
 simp [fup, fs0]
theorem m2_c (l : List UInt8) : cOf (M2 l).files lgN = l := by unfold cOf; rw [xZ4]; rfl
theorem kE3 {l : List UInt8} {m : Sd} {k : Nat} (h : rdF sd0 l = some (m, k)) : (opM (M2 l) k).files lgN = some (l.take k) := by
 have hk := (yS5 _ _ _ _ h).1
 unfold opM
 rw [m2_c]
 split
 · show (fup (fup (fup (M2 l).files nwN (some (l.take k))) nwN none) lgN (some ((fup (M2 l).files nwN (some (l.take k)) nwN).getD []))) lgN = some (l.take k)
   simp [fup]
 · rw [xZ4, List.take_of_length_le (by omega)]
theorem yH8 (a : Option Addr) (n cap : Nat) (l : List UInt8) (w : World) (hn : n = l.length) (hcap : n <= cap) (hb : Bs w a l) (hbl : ∀ y, a = some y -> y.block < w.heap.size) (hnn : a = none -> l = []) : Calls Tryz.prog 3 #[.slice a n cap] w fun e w' => e = .returned (.bool true) /\ Below w.heap.size w w' := by
 have HN := zA0 hn
 have HC := zA0 hcap
 have HBS := zA0 hb
 have HBL := zA0 hbl
 have HNN := zA0 hnn
 clear hn hcap hb hbl hnn
 go_enter Tryz.func3, Tryz.ntmps3
 go_wp2_with fail
 refine (xN7 w).mono ?_
 rintro e w1 ⟨F1, rfl, hd1, hf1, hB1⟩
 have HD1 := zA0 hd1
 have HF1 := zA0 hf1
 have HB1 := zA0 hB1
 clear hd1 hf1 hB1
 obtain ⟨p, hp⟩ : ∃ p, p = w.heap.size + 1 + 1 := ⟨_, rfl⟩
 rw [<- hp] at HD1 ⊢
 have HP := zA0 hp
 clear hp
 go_wp2_with fail
 by_cases hlen : 1048576 < l.length
 · have HA := zA0 (yL2 lgB a cap l p 0 M0 F1 w1 HD1.out (HBS.out.grow HB1.out) HNN.out (by omega))
   rw [<- HN.out] at HA
   refine Calls.mono HA.out ?_
   rintro e w2 ⟨m, F2, _, rfl, _, hfr2⟩
   have he : apE lgB.data.toList n M0 m = 2 := by rw [HN.out]; exact kC2 hlen m
   rw [he]
   have HB2 : Hid (Below w.heap.size w w2) := zA0 (HB1.out.trans (hfr2.below HB1.out.size HF1.out))
   clear he hfr2 hlen
   go_wp2_with fail
   refine (zY6 w2).mono ?_
   rintro e w3 ⟨rfl, hB3⟩
   have HB3 := zA0 (HB2.out.trans (hB3.mono HB2.out.size))
   clear hB3
   go_wp2
   go_ret
   exact ⟨rfl, HB3.out⟩
 · have HL : Hid (l.length <= 1048576) := zA0 (by omega)
   clear hlen
   have HA := zA0 (kB5 p 0 a cap l M0 F1 w1 HD1.out (HBS.out.grow HB1.out) HNN.out cln0.fw (by have := HL.out; show (0 + l.length) <= _; omega) (by omega))
   rw [<- HN.out] at HA
   refine Calls.mono HA.out ?_
   rintro e w2 ⟨F2, rfl, hd2, hfr2⟩
   have e1 : lfE M0 = 0 := rfl
   rw [e1] at hd2 ⊢
   have HD2 : Hid (Dsk w2 p (stepA (.ap l) M0) 1 F2) := zA0 hd2
   have HB2 : Hid (Below w.heap.size w w2) := zA0 (HB1.out.trans (hfr2.below HB1.out.size HF1.out))
   have HF2 : Hid (∀ k, F2 k -> w.heap.size <= k) := zA0 (hfr2.above HB1.out.size HF1.out)
   clear hd2 hfr2 e1 HA
   go_wp2_with fail
   refine (kB4 p 1 (stepA (.ap l) M0) F2 w2 HD2.out (by omega)).mono ?_
   rintro e w3 ⟨F3, rfl, hd3, hfr3⟩
   have e1 : lfE (stepA (.ap l) M0) = 0 := rfl
   rw [e1] at hd3 ⊢
   have HD3 : Hid (Dsk w3 p (M2 l) 2 F3) := zA0 hd3
   have HB3 : Hid (Below w.heap.size w w3) := zA0 (HB2.out.trans (hfr3.below HB2.out.size HF2.out))
   have HF3 : Hid (∀ k, F3 k -> w.heap.size <= k) := zA0 (hfr3.above HB2.out.size HF2.out)
   clear hd3 hfr3 e1
   go_wp2_with fail
   refine (zW2 p 2 (M2 l) F3 w3 HD3.out (xC9 l).left (xC9 l).fw (by omega)).mono ?_
   intro e w4 ho
   unfold OpP at ho
   rw [m2_c] at ho
   cases hrd : rdF sd0 l with
   | none =>
    rw [hrd] at ho
    simp only at ho
    obtain ⟨rfl, hB4⟩ := ho
    have HB4 := zA0 (HB3.out.trans (hB4.mono HB3.out.size))
    have HRD := zA0 hrd
    clear hB4 hrd
    simp only [Z39]
    have hS4 := HB4.out.size
    have HRF := zA0 (zY1 a n cap l (w4.alloc (.cells #[.int .i64 0, .int .i64 0, .int .i64 0, .int .i64 0, .slice none 0 0, .slice none 0 0, .slice none 0 0, .slice none 0 0] 39)) HN.out HC.out (HBS.out.grow (HB4.out.alloc HB4.out.size _)) (fun y hy => by have := HBL.out y hy; simp; omega) HL.out)
    clear hS4
    go_wp2_with fail
    refine Calls.mono HRF.out ?_
    rintro e w5 ⟨hB5, h5⟩
    rw [HRD.out] at h5
    simp only at h5
    subst h5
    have HB5 := zA0 ((HB4.out.alloc HB4.out.size (.cells #[.int .i64 0, .int .i64 0, .int .i64 0, .int .i64 0, .slice none 0 0, .slice none 0 0, .slice none 0 0, .slice none 0 0] 39)).trans (hB5.mono (by have := HB4.out.size; simp; omega)))
    clear hB5
    simp only [Z39]
    have HLV := zA0 (zY6 (w5.alloc (.cells #[.int .i64 0, .int .i64 0, .int .i64 0, .int .i64 0, .slice none 0 0, .slice none 0 0, .slice none 0 0, .slice none 0 0] 39)))
    go_wp2_with fail
    refine Calls.mono HLV.out ?_
    rintro e w6 ⟨rfl, hB6⟩
    have HB6 := zA0 ((HB5.out.alloc HB5.out.size (.cells #[.int .i64 0, .int .i64 0, .int .i64 0, .int .i64 0, .slice none 0 0, .slice none 0 0, .slice none 0 0, .slice none 0 0] 39)).trans (hB6.mono (by have := HB5.out.size; simp; omega)))
    clear hB6
    go_wp2
    go_ret
    exact ⟨rfl, HB6.out⟩
   | some r =>
    obtain ⟨m, k⟩ := r
    rw [hrd] at ho
    simp only at ho
    obtain ⟨q, F4, cs4, rfl, hw4, hr4, hfr4, hq4⟩ := ho
    have hG : Good (opM (M2 l) k) m := (xC9 l).open (by rw [m2_c]; exact hrd)
    have hLG := kE3 hrd
    have hkl := (yS5 _ _ _ _ hrd).1
    obtain ⟨M4, hM4⟩ : ∃ M4, M4 = opM (M2 l) k := ⟨_, rfl⟩
    rw [<- hM4] at hw4 hG hLG
    have HKL := zA0 hkl
    have HG := zA0 hG
    have HLG := zA0 hLG
    have HRD := zA0 hrd
    have HDW : Hid (Dsk w4 p M4 6 F4) := zA0 hw4.dsk
    have HML : Hid (m.bs.length <= 4194304) := zA0 (by have := hw4.len; omega)
    have HB4 : Hid (Below w.heap.size w w4) := zA0 (HB3.out.trans (hfr4.below HB3.out.size HF3.out))
    have HF4 : Hid (∀ k, F4 k -> w.heap.size <= k) := zA0 (hfr4.above HB3.out.size HF3.out)
    have HR4 : Hid (Rep w4 (fun k => k < w4.heap.size) zC6 cs4 (dec m)) := zA0 (hr4.kept (Nat.le_refl _) (fun _ _ => rfl) (fun k hk => hk.1))
    obtain ⟨t, ht⟩ : ∃ t, t = (dec m).1.1 := ⟨_, rfl⟩
    obtain ⟨v, hv⟩ : ∃ t, t = (dec m).1.2 := ⟨_, rfl⟩
    obtain ⟨bi, hbi⟩ : ∃ t, t = (dec m).2.1.1 := ⟨_, rfl⟩
    obtain ⟨bt, hbt⟩ : ∃ t, t = (dec m).2.1.2.1 := ⟨_, rfl⟩
    obtain ⟨len, hle⟩ : ∃ t, t = (dec m).2.2.length := ⟨_, rfl⟩
    have HT := zA0 ht
    have HV := zA0 hv
    have HBI := zA0 hbi
    have HBT := zA0 hbt
    have HLE := zA0 hle
    clear ht hv hbi hbt hle
    obtain ⟨av4, nv4, cv4, al4, nl4, cl4, ad4, nd4, cd4, ea4, ec4, hcs4, _, _⟩ := zF7 HR4.out
    rw [<- HT.out, <- HV.out, <- HBI.out, <- HBT.out, <- HLE.out] at hcs4
    subst hcs4
    clear hw4 hr4 hfr4 hq4 hG hLG hkl hM4 hrd HD1 HD2 HD3
    obtain ⟨w5, hw5⟩ : ∃ w5, w5 = w4.alloc (.cells #[.int .i64 t, .int .i64 v, .int .i64 bi, .int .i64 bt, .slice av4 nv4 cv4, .slice al4 nl4 cl4, .slice ad4 nd4 cd4, .slice ea4 len ec4] 39) := ⟨_, rfl⟩
    have HB45 : Hid (Below w4.heap.size w4 w5) := zA0 (by rw [hw5]; exact zB7 w4 _)
    have HG5 : Hid (w5.heap[w4.heap.size]? = some (.cells #[.int .i64 t, .int .i64 v, .int .i64 bi, .int .i64 bt, .slice av4 nv4 cv4, .slice al4 nl4 cl4, .slice ad4 nd4 cd4, .slice ea4 len ec4] 39 (0, 0))) := zA0 (by rw [hw5]; exact heap_alloc_new w4 _)
    have HB5 : Hid (Below w.heap.size w w5) := zA0 (HB4.out.trans (HB45.out.mono HB4.out.size))
    have HRF := zA0 (zY1 a n cap l w5 HN.out HC.out (HBS.out.grow HB5.out) (fun y hy => Nat.lt_of_lt_of_le (HBL.out y hy) HB5.out.size) HL.out)
    go_wp2_with fail
    rw [<- hw5]
    clear hw5
    refine Calls.mono HRF.out ?_
    rintro e w6 ⟨hB6, h6⟩
    rw [HRD.out] at h6
    simp only at h6
    obtain ⟨cs6, rfl, hr6⟩ := h6
    obtain ⟨av6, nv6, cv6, al6, nl6, cl6, ad6, nd6, cd6, ea6, ec6, hcs6, _, _⟩ := zF7 hr6
    rw [<- HT.out, <- HV.out, <- HBI.out, <- HBT.out, <- HLE.out] at hcs6
    have hcs6' : cs6 = #[.int .i64 t, .int .i64 v, .int .i64 bi, .int .i64 bt, .slice av6 nv6 cv6, .slice al6 nl6 cl6, .slice ad6 nd6 cd6, .slice ea6 len ec6] := by cases cs6; simpa using hcs6
    subst hcs6'
    have HR6 := zA0 hr6
    have HB56 := zA0 hB6
    clear hcs6 hr6 hB6 HRF
    obtain ⟨w7, hw7⟩ : ∃ w7, w7 = w6.alloc (.cells #[.int .i64 t, .int .i64 v, .int .i64 bi, .int .i64 bt, .slice av6 nv6 cv6, .slice al6 nl6 cl6, .slice ad6 nd6 cd6, .slice ea6 len ec6] 39) := ⟨_, rfl⟩
    have HB67 : Hid (Below w6.heap.size w6 w7) := zA0 (by rw [hw7]; exact zB7 w6 _)
    have HB47 : Hid (Below w4.heap.size w4 w7) := zA0 ((HB45.out.trans (HB56.out.mono HB45.out.size)).trans (HB67.out.mono (Nat.le_trans HB45.out.size HB56.out.size)))
    have HG7 : Hid (w7.heap[w4.heap.size]? = some (.cells #[.int .i64 t, .int .i64 v, .int .i64 bi, .int .i64 bt, .slice av4 nv4 cv4, .slice al4 nl4 cl4, .slice ad4 nd4 cd4, .slice ea4 len ec4] 39 (0, 0))) := zA0 ((HB67.out.block _ (Nat.lt_of_lt_of_le (zA4 HG5.out) HB56.out.size)).trans ((HB56.out.block _ (zA4 HG5.out)).trans HG5.out))
    have HG8 : Hid (w7.heap[w6.heap.size]? = some (.cells #[.int .i64 t, .int .i64 v, .int .i64 bi, .int .i64 bt, .slice av6 nv6 cv6, .slice al6 nl6 cl6, .slice ad6 nd6 cd6, .slice ea6 len ec6] 39 (0, 0))) := zA0 (by rw [hw7]; exact heap_alloc_new w6 _)
    have HR7 : Hid (Rep w7 (NBr w5.heap.size w7) zC6 (#[.int .i64 t, .int .i64 v, .int .i64 bi, .int .i64 bt, .slice av6 nv6 cv6, .slice al6 nl6 cl6, .slice ad6 nd6 cd6, .slice ea6 len ec6] : Array Value).toList (dec m)) := zA0 (HR6.out.keptN HB67.out.size (fun j _ h2 => HB67.out.block j h2) (Nat.le_refl _))
    have HSM := zA0 (zY0 (#[.int .i64 t, .int .i64 v, .int .i64 bi, .int .i64 bt, .slice av4 nv4 cv4, .slice al4 nl4 cl4, .slice ad4 nd4 cd4, .slice ea4 len ec4] : Array Value).toList (#[.int .i64 t, .int .i64 v, .int .i64 bi, .int .i64 bt, .slice av6 nv6 cv6, .slice al6 nl6 cl6, .slice ad6 nd6 cd6, .slice ea6 len ec6] : Array Value).toList m w7 (HR4.out.kept HB47.out.size (fun j hj => HB47.out.block j hj) (fun j hj => Nat.lt_of_lt_of_le hj HB47.out.size)) (HR7.out.kept (Nat.le_refl _) (fun _ _ => rfl) (fun j hj => hj.2.1)) HG.out.okd HML.out)
    have HB7 : Hid (Below w.heap.size w w7) := zA0 (HB4.out.trans (HB47.out.mono HB4.out.size))
    go_upto_region 9 with (fail)
    rw [<- hw7]
    clear hw7
    go_wp2_with (first
     | (refine wpList_load_row rfl 39 (.tmp 6) rfl w4.heap.size rfl 39 #[.int .i64 t, .int .i64 v, .int .i64 bi, .int .i64 bt, .slice av4 nv4 cv4, .slice al4 nl4 cl4, .slice ad4 nd4 cd4, .slice ea4 len ec4] (0, 0) _ HG7.out Tryz.underlying39 rfl zD3 ?_)
     | (refine wpList_load_row rfl 39 (.tmp 8) rfl w6.heap.size rfl 39 #[.int .i64 t, .int .i64 v, .int .i64 bi, .int .i64 bt, .slice av6 nv6 cv6, .slice al6 nl6 cl6, .slice ad6 nd6 cd6, .slice ea6 len ec6] (0, 0) _ HG8.out Tryz.underlying39 rfl zD3 ?_))
    refine Calls.mono HSM.out ?_
    rintro e w8 ⟨rfl, hB8⟩
    have HB78 := zA0 hB8
    have HB48 : Hid (Below w4.heap.size w4 w8) := zA0 (HB47.out.trans (hB8.mono HB47.out.size))
    have HB8 : Hid (Below w.heap.size w w8) := zA0 (HB7.out.trans (hB8.mono HB7.out.size))
    have HD8 : Hid (Dsk w8 p M4 6 F4) := zA0 (HDW.out.below HB48.out)
    have HG88 : Hid (w8.heap[w6.heap.size]? = some (.cells #[.int .i64 t, .int .i64 v, .int .i64 bi, .int .i64 bt, .slice av6 nv6 cv6, .slice al6 nl6 cl6, .slice ad6 nd6 cd6, .slice ea6 len ec6] 39 (0, 0))) := zA0 ((hB8.block _ (zA4 HG8.out)).trans HG8.out)
    have HR8 : Hid (Rep w8 (NBr w5.heap.size w8) zC6 (#[.int .i64 t, .int .i64 v, .int .i64 bi, .int .i64 bt, .slice av6 nv6 cv6, .slice al6 nl6 cl6, .slice ad6 nd6 cd6, .slice ea6 len ec6] : Array Value).toList (dec m)) := zA0 (HR7.out.keptN hB8.size (fun j _ h2 => hB8.block j h2) (Nat.le_refl _))
    have HNF : Hid (∀ k, w5.heap.size <= k -> ¬ F4 k) := zA0 (fun k hk e => by have := HDW.out.flt _ e; have := HB45.out.size; omega)
    clear hB8 HSM
    go_wp2_with fail
    refine (yV0 0 p 6 M4 F4 w8 HD8.out (by omega)).mono ?_
    rintro e w9 ⟨F9, rfl, hd9, hfr9⟩
    rw [HG.out.cln.crash] at hd9
    have HD9 := zA0 hd9
    have HB9 : Hid (Below w.heap.size w w9) := zA0 (HB8.out.trans (hfr9.below HB8.out.size HF4.out))
    have HF9 : Hid (∀ k, F9 k -> w.heap.size <= k) := zA0 (hfr9.above HB8.out.size HF4.out)
    have HNF9 : Hid (∀ k, w5.heap.size <= k -> k < w8.heap.size -> ¬ F9 k) := zA0 (fun k h1 h2 => hfr9.notF h2 (HNF.out k h1))
    have HG9 : Hid (w9.heap[w6.heap.size]? = some (.cells #[.int .i64 t, .int .i64 v, .int .i64 bi, .int .i64 bt, .slice av6 nv6 cv6, .slice al6 nl6 cl6, .slice ad6 nd6 cd6, .slice ea6 len ec6] 39 (0, 0))) := zA0 ((hfr9.block _ (zA4 HG88.out) (HNF.out _ HB56.out.size)).trans HG88.out)
    have HR9 : Hid (Rep w9 (fun k => w5.heap.size <= k /\ k < w8.heap.size) zC6 (#[.int .i64 t, .int .i64 v, .int .i64 bi, .int .i64 bt, .slice av6 nv6 cv6, .slice al6 nl6 cl6, .slice ad6 nd6 cd6, .slice ea6 len ec6] : Array Value).toList (dec m)) := zA0 (HR8.out.kept hfr9.size (fun j hj => hfr9.block j hj.2.1 (HNF.out j hj.1)) (fun j hj => ⟨hj.1, hj.2.1⟩))
    have HS89 : Hid (w8.heap.size <= w9.heap.size) := zA0 hfr9.size
    clear hd9 hfr9
    go_wp2_with fail
    refine (yN7 p 6 M4 F9 w9 HD9.out).mono ?_
    rintro e wa ⟨z, rfl, hz, _, hBa⟩
    have hc : cOf M4.files lgN = l.take k := by unfold cOf; rw [HLG.out]; rfl
    rw [show (if (M4.files lgN).isSome = true then (0 : Int) else 12) = 0 from by rw [HLG.out]; rfl]
    rw [hc] at hz
    obtain ⟨za, zc, rfl, _, hzb⟩ := hz.bs (by rw [List.length_take]; have := HL.out; omega)
    have HBa : Hid (Below w.heap.size w wa) := zA0 (HB9.out.trans (hBa.mono HB9.out.size))
    have HDa : Hid (Dsk wa p M4 6 F9) := zA0 (HD9.out.below hBa)
    have HGa : Hid (wa.heap[w6.heap.size]? = some (.cells #[.int .i64 t, .int .i64 v, .int .i64 bi, .int .i64 bt, .slice av6 nv6 cv6, .slice al6 nl6 cl6, .slice ad6 nd6 cd6, .slice ea6 len ec6] 39 (0, 0))) := zA0 ((hBa.block _ (zA4 HG9.out)).trans HG9.out)
    have HRa : Hid (Rep wa (fun k => w5.heap.size <= k /\ k < w8.heap.size) zC6 (#[.int .i64 t, .int .i64 v, .int .i64 bi, .int .i64 bt, .slice av6 nv6 cv6, .slice al6 nl6 cl6, .slice ad6 nd6 cd6, .slice ea6 len ec6] : Array Value).toList (dec m)) := zA0 (HR9.out.kept hBa.size (fun j hj => hBa.block j (Nat.lt_of_lt_of_le hj.2 HS89.out)) (fun j hj => hj))
    have HSa : Hid (w8.heap.size <= wa.heap.size) := zA0 (Nat.le_trans HS89.out hBa.size)
    have hkc : k <= cap := by have := HKL.out; have := HC.out; have := HN.out; omega
    have hsl := zS1 a n cap k (k : Int) rfl hkc
    have htl : (l.take k).length = k := by rw [List.length_take]; have := HKL.out; omega
    have HSA := zA0 (zJ1 za a (l.take k).length k zc cap (l.take k) (l.take k) wa rfl htl.symm hzb ((HBS.out.grow HBa.out).takeN k))
    clear hz hBa hc hzb hkc htl
    generalize (l.take k).length = tk at HSA ⊢
    go_wp2_with fail
    refine Calls.mono HSA.out ?_
    rintro e wb ⟨rfl, nq, rfl⟩
    rw [show decide True = true from rfl]
    have HBb : Hid (Below w.heap.size w (wa.drewN nq)) := zA0 ⟨HBa.out.os, HBa.out.tape, HBa.out.output, HBa.out.size, HBa.out.block⟩
    have HBab : Hid (Below wa.heap.size wa (wa.drewN nq)) := zA0 ⟨rfl, rfl, rfl, Nat.le_refl _, fun _ _ => rfl⟩
    obtain ⟨wb, hwb⟩ : ∃ wb, wb = wa.drewN nq := ⟨_, rfl⟩
    rw [<- hwb] at HBb HBab ⊢
    clear hwb HSA hsl
    have HDb : Hid (Dsk wb p M4 6 F9) := zA0 (HDa.out.below HBab.out)
    have HOP := zA0 (zW2 p 6 M4 F9 wb HDb.out HG.out.cln.left HG.out.cln.fw (by omega))
    go_wp2_with fail
    refine Calls.mono HOP.out ?_
    intro e wc ho
    unfold OpP at ho
    rw [HG.out.rd] at ho
    simp only at ho
    obtain ⟨q2, Fc, csc, rfl, _, hrc, hfrc, _⟩ := ho
    have HBc : Hid (Below w.heap.size w wc) := zA0 (HBb.out.trans (hfrc.below HBb.out.size HF9.out))
    have HSb : Hid (w8.heap.size <= wb.heap.size) := zA0 (Nat.le_trans HSa.out HBab.out.size)
    have HGc : Hid (wc.heap[w6.heap.size]? = some (.cells #[.int .i64 t, .int .i64 v, .int .i64 bi, .int .i64 bt, .slice av6 nv6 cv6, .slice al6 nl6 cl6, .slice ad6 nd6 cd6, .slice ea6 len ec6] 39 (0, 0))) := zA0 ((hfrc.block _ (Nat.lt_of_lt_of_le (zA4 HG88.out) HSb.out) (HNF9.out _ HB56.out.size (zA4 HG88.out))).trans ((HBab.out.block _ (zA4 HGa.out)).trans HGa.out))
    have HRc6 : Hid (Rep wc (fun k => k < wc.heap.size) zC6 (#[.int .i64 t, .int .i64 v, .int .i64 bi, .int .i64 bt, .slice av6 nv6 cv6, .slice al6 nl6 cl6, .slice ad6 nd6 cd6, .slice ea6 len ec6] : Array Value).toList (dec m)) := zA0 ((HRa.out.kept (S' := fun k => w5.heap.size <= k /\ k < w8.heap.size) HBab.out.size (fun j hj => HBab.out.block j (Nat.lt_of_lt_of_le hj.2 HSa.out)) (fun j hj => hj)).kept hfrc.size (fun j hj => hfrc.block j (Nat.lt_of_lt_of_le hj.2 HSb.out) (HNF9.out j hj.1 hj.2)) (fun j hj => Nat.lt_of_lt_of_le (Nat.lt_of_lt_of_le hj.2 HSb.out) hfrc.size))
    have HRc : Hid (Rep wc (fun k => k < wc.heap.size) zC6 csc (dec m)) := zA0 (hrc.kept (Nat.le_refl _) (fun _ _ => rfl) (fun k hk => hk.1))
    obtain ⟨avc, nvc, cvc, alc, nlc, clc, adc, ndc, cdc, eac, ecc, hcsc, _, _⟩ := zF7 HRc.out
    rw [<- HT.out, <- HV.out, <- HBI.out, <- HBT.out, <- HLE.out] at hcsc
    subst hcsc
    clear hrc hfrc HOP
    obtain ⟨wd, hwd⟩ : ∃ wd, wd = wc.alloc (.cells #[.int .i64 t, .int .i64 v, .int .i64 bi, .int .i64 bt, .slice avc nvc cvc, .slice alc nlc clc, .slice adc ndc cdc, .slice eac len ecc] 39) := ⟨_, rfl⟩
    have HBcd : Hid (Below wc.heap.size wc wd) := zA0 (by rw [hwd]; exact zB7 wc _)
    have HGd : Hid (wd.heap[wc.heap.size]? = some (.cells #[.int .i64 t, .int .i64 v, .int .i64 bi, .int .i64 bt, .slice avc nvc cvc, .slice alc nlc clc, .slice adc ndc cdc, .slice eac len ecc] 39 (0, 0))) := zA0 (by rw [hwd]; exact heap_alloc_new wc _)
    have HG6d : Hid (wd.heap[w6.heap.size]? = some (.cells #[.int .i64 t, .int .i64 v, .int .i64 bi, .int .i64 bt, .slice av6 nv6 cv6, .slice al6 nl6 cl6, .slice ad6 nd6 cd6, .slice ea6 len ec6] 39 (0, 0))) := zA0 ((HBcd.out.block _ (zA4 HGc.out)).trans HGc.out)
    have HBd : Hid (Below w.heap.size w wd) := zA0 (HBc.out.trans (HBcd.out.mono HBc.out.size))
    have HSD := zA0 (zY0 (#[.int .i64 t, .int .i64 v, .int .i64 bi, .int .i64 bt, .slice avc nvc cvc, .slice alc nlc clc, .slice adc ndc cdc, .slice eac len ecc] : Array Value).toList (#[.int .i64 t, .int .i64 v, .int .i64 bi, .int .i64 bt, .slice av6 nv6 cv6, .slice al6 nl6 cl6, .slice ad6 nd6 cd6, .slice ea6 len ec6] : Array Value).toList m wd (HRc.out.kept HBcd.out.size (fun j hj => HBcd.out.block j hj) (fun j hj => Nat.lt_of_lt_of_le hj HBcd.out.size)) (HRc6.out.kept HBcd.out.size (fun j hj => HBcd.out.block j hj) (fun j hj => Nat.lt_of_lt_of_le hj HBcd.out.size)) HG.out.okd HML.out)
    go_upto_region 16 with (fail)
    rw [<- hwd]
    clear hwd
    go_wp2_with (first
     | (refine wpList_load_row rfl 39 (.tmp 16) rfl wc.heap.size rfl 39 #[.int .i64 t, .int .i64 v, .int .i64 bi, .int .i64 bt, .slice avc nvc cvc, .slice alc nlc clc, .slice adc ndc cdc, .slice eac len ecc] (0, 0) _ HGd.out Tryz.underlying39 rfl zD3 ?_)
     | (refine wpList_load_row rfl 39 (.tmp 8) rfl w6.heap.size rfl 39 #[.int .i64 t, .int .i64 v, .int .i64 bi, .int .i64 bt, .slice av6 nv6 cv6, .slice al6 nl6 cl6, .slice ad6 nd6 cd6, .slice ea6 len ec6] (0, 0) _ HG6d.out Tryz.underlying39 rfl zD3 ?_))
    refine Calls.mono HSD.out ?_
    rintro e we ⟨rfl, hBe⟩
    have HBe : Hid (Below w.heap.size w we) := zA0 (HBd.out.trans (hBe.mono HBd.out.size))
    clear hBe HSD
    go_wp2_with fail
    refine (zY6 we).mono ?_
    rintro e wf ⟨rfl, hBf⟩
    have HBf : Hid (Below w.heap.size w wf) := zA0 (HBe.out.trans (hBf.mono HBe.out.size))
    clear hBf
    go_wp2
    go_ret
    exact ⟨rfl, HBf.out⟩
end
section
open Go.ChangeShapes Go.WideShapes Go.ChangeAt Go.RowKit
theorem Tryz.bytes5 : Tryz.prog.bytesOf 5 = 1 := by kernel_rfl
theorem Tryz.cells5 : Tryz.prog.cellsOf 5 = 1 := by kernel_rfl
theorem kD3 (n : Int) (h : (Lit.int .u8 n).wf = true) : 0 <= n /\ n <= 255 := bounds_u8 h
def zG5 (zs : List Int) : List UInt8 := zs.map fun n => UInt8.ofNat n.toNat
theorem yA9 (zs : List Int) (hw : ∀ n ∈ zs, (Lit.int .u8 n).wf = true) (len j : Nat) (hj : j < len) (hl : len <= zs.length) : bat (zG5 (zs.take len)) j = zs.getD j 0 := by
 have hj2 : j < zs.length := by omega
 have hb := kD3 (zs[j]) (hw _ (List.getElem_mem hj2))
 simp [bat, bn, zG5, List.getD, hj, hj2]
 omega
theorem yO1 {H : Type} {enc : TypeId × Value -> H} {W : World} {a : Option Addr} {len cap : Nat} {d : DataW H} {p : List MemPlace} (h : DataW.Trod enc Tryz.prog W 0 (fun _ => true) true 22 (.slice a len cap) d p)
    (hreach : ∀ elems spare, d = .slice elems spare -> (elems.length + spare.length) * Tryz.prog.bytesOf 5 <= reachBytes) : ∃ l : List UInt8, len = l.length /\ len <= cap /\ Bs W a l /\ len <= 140737488351232 := by
 obtain ⟨fuel, hf⟩ := h
 rcases open_ints Tryz.underlying22 Tryz.underlying5 Tryz.cells5 hf with ⟨hcs, _⟩ | ⟨x, l, c, zs, hcs, _, hl, hm, hz, hx, hcell, hwz⟩
 · simp [Value.cells] at hcs
   obtain ⟨rfl, rfl, rfl⟩ := hcs
   exact ⟨[], rfl, Nat.le_refl _, ⟨by simp, fun h => absurd rfl h⟩, by omega⟩
 · simp [Value.cells] at hcs
   obtain ⟨rfl, rfl, rfl⟩ := hcs
   simp only [Prod.mk.injEq] at hx
   simp only [if_true] at hz
   have hr := hreach _ _ hx.1
   rw [Tryz.bytes5] at hr
   simp only [lits, List.length_map, List.length_take, List.length_drop, reachBytes] at hr
   refine ⟨zG5 (zs.take len), by simp [zG5]; omega, hl, ⟨by simp [zG5]; omega, fun hne => ?_⟩, by omega⟩
   have hlen : 0 < len := by
    rcases Nat.eq_zero_or_pos len with h0 | h0
    · subst h0; simp [zG5] at hne
    · exact h0
   obtain ⟨b, off, spot⟩ := x
   have hc0 := hcell 0 (by omega)
   have hspot : spot = none := by simpa [Addr.add] using World.cell?_spot hc0
   subst hspot
   refine ⟨b, off, rfl, World.block_lt_of_cell? W _ (by simpa [Addr.add] using hc0), fun j hj => ?_⟩
   have hj2 : j < len := by simp [zG5] at hj; omega
   rw [yA9 zs hwz len j hj2 (by omega), <- hcell j (by omega), Addr.add_lit]
theorem yX1 {H : Type} {enc : TypeId × Value -> H} {W : World} {a : Option Addr} {len cap : Nat} {d : DataW H} {p : List MemPlace} (h : DataW.Trod enc Tryz.prog W 0 (fun _ => true) true 22 (.slice a len cap) d p)
    (hreach : ∀ elems spare, d = .slice elems spare -> (elems.length + spare.length) * Tryz.prog.bytesOf 5 <= reachBytes) : ∃ l : List UInt8, len = l.length /\ len <= cap /\ Bs W a l := by
 obtain ⟨l, h1, h2, h3, _⟩ := yO1 h hreach
 exact ⟨l, h1, h2, h3⟩
end
end Go.Proofs.YtocoimjhglackaaGreat
