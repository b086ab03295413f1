/- Whe -/
import Derived.Test.YtocoimjhglackaaGreatQ45
set_option maxHeartbeats 8000000
set_option maxRecDepth 100000
namespace Go.Proofs.YtocoimjhglackaaGreat
section
open Go.RowKit Go.Maps
theorem zX8 (tmps : Array Value) (W : World) (g : Nat) (cs : Array Value) (x : Int) (y : Bool) (hs : cs.size = 8) (h2 : tmps[2]?.getD undef = .pointer (some ⟨g, 0, none⟩)) (h3 : tmps[3]?.getD undef = .int .i64 x) (h4 : tmps[4]?.getD undef = .bool y) (hg : W.heap[g]? = some (.cells cs 39 (0, 0))) : (results Tryz.f14 tmps).run Tryz.prog W = .ok (.tuple #[.agg cs, .int .i64 x, .bool y]) W := by
 have hl := run_loadVar_row (P := Tryz.prog) W g 39 39 cs (0, 0) _ hg Tryz.underlying39 rfl (by rw [hs]; exact zD3)
 simp [results, Tryz.results14, asAddr, h2, h3, h4, hl]
def RfP (w : World) (l : List UInt8) (e : Ending) (w' : World) : Prop := Below w.heap.size w w' /\ match rdF sd0 l with
 | none => e = .returned (.tuple #[.agg Z39, .int .i64 0, .bool false])
 | some (s, n) => ∃ cs : Array Value, e = .returned (.tuple #[.agg cs, .int .i64 (n : Int), .bool true]) /\ Rep w' (NBr w.heap.size w') zC6 cs.toList (dec s)
theorem xS2 (w : World) (S : Nat -> Prop) : Rep w S zC6 Z39.toList (dec sd0) := zO1 0 0 _ _ _ _ _ zE9 none 0 [] (zG6 w S) ⟨by simp, fun h => absurd rfl h⟩
theorem zY1 (a : Option Addr) (n cap : Nat) (l : List UInt8) (w : World) (hn : n = l.length) (hcap : n <= cap) (hb : Bs w a l) (hbl : ∀ y, a = some y -> y.block < w.heap.size) (hl : l.length <= 1048576) : Calls Tryz.prog 14 #[.slice a n cap] w (RfP w l) := by
 have HN := zA0 hn
 have HC := zA0 hcap
 have HB := zA0 hb
 have HBL := zA0 hbl
 have HL := zA0 hl
 have hl2 : (n : Int) <= 1048576 := by omega
 have HG0 : Hid (((w.alloc (.cells Z39 39)).alloc (.cells Z39 39)).heap[w.heap.size]? = some (.cells Z39 39 (0, 0))) := zA0 ((Below.heap_alloc _ _ _ (by simp)).trans (heap_alloc_new w _))
 have HG1 : Hid (((w.alloc (.cells Z39 39)).alloc (.cells Z39 39)).heap[w.heap.size + 1]? = some (.cells Z39 39 (0, 0))) := zA0 (by
  have := heap_alloc_new (w.alloc (.cells Z39 39)) (.cells Z39 39)
  rwa [World.size_alloc] at this)
 have HB0 : Hid (Below w.heap.size w ((w.alloc (.cells Z39 39)).alloc (.cells Z39 39))) := zA0 ((zB7 w _).alloc (by simp) _)
 clear hn hcap hb hbl hl
 go_enter Tryz.func14, Tryz.ntmps14
 go_wp2
 first | go_region | skip
 go_wp2
 go_loopw [6] (fun i wr => ∃ (k : Nat) (s : Sd) (cs : List Value), k <= n /\ i = .int .i64 (k : Int) /\ Hid (wr.heap[w.heap.size + 1]? = some (.cells cs.toArray 39 (0, 0))) /\ Hid (Rep wr (NBr (w.heap.size + 2) wr) zC6 cs (dec s)) /\ Hid (Okd s) /\ Hid (rdF sd0 l = (rdF s (l.drop k)).map fun r => (r.1, k + r.2)) /\ Hid (s.bs.length <= k) /\ Hid (Below w.heap.size w wr) /\ Hid (wr.heap[w.heap.size]? = some (.cells Z39 39 (0, 0)))) (fun i _ => n - (intOf i).toNat)
 case atStart => exact ⟨0, sd0, Z39.toList, Nat.zero_le _, rfl, HG1, zA0 (xS2 _ _), zA0 okd0, zA0 (by simp), zA0 (Nat.le_refl _), HB0, HG0⟩
 case round =>
  obtain ⟨k, s, cs, hk, rfl, HQr, HPr, HOK, HR, HLK, HBr, HGr⟩ := hrel
  obtain ⟨av, nv, cv, al, nl, cl, ad, nd, cd, ea, ec, he, _, _⟩ := zF7 HPr.out
  have hml : (s.bs.map dE).length = s.bs.length := by simp
  simp only [dec] at he
  rw [hml] at he
  obtain ⟨bi, hbi⟩ : ∃ bi, bi = (snV s).1 := ⟨_, rfl⟩
  obtain ⟨bt, hbt⟩ : ∃ bt, bt = (snV s).2.1 := ⟨_, rfl⟩
  obtain ⟨len, hlen⟩ : ∃ len, len = s.bs.length := ⟨_, rfl⟩
  rw [<- hbi, <- hbt, <- hlen] at he
  have HBI : Hid (bi = s.base) := zA0 (by rw [hbi]; exact HOK.out.snI)
  subst he
  clear hbi hbt hlen hml
  by_cases hlt : k < n
  · obtain ⟨a', hsl, hbs, hbk⟩ := yC2 a n cap k l wr HN.out HC.out hk (HB.out.grow HBr.out) (fun y hy => Nat.lt_of_lt_of_le (HBL.out y hy) HBr.out.size)
    have hd : n - k = (l.drop k).length := by rw [List.length_drop, <- HN.out]
    have HU := zA0 (yB4 a' (n - k) (cap - k) (l.drop k) wr hd (by have := HC.out; omega) hbs)
    obtain ⟨m, hm⟩ : ∃ m, m = n - k := ⟨_, rfl⟩
    obtain ⟨c, hc⟩ : ∃ c, c = cap - k := ⟨_, rfl⟩
    rw [<- hm, <- hc] at hsl HU
    clear hbs hbk hd hm hc
    go_wp2_with fail
    refine HU.out.mono ?_
    rintro e wu ⟨v, rfl, hbo, hst⟩
    have hBu := hst.belowN
    have HBu : Hid (Below w.heap.size w wu) := zA0 (HBr.out.trans (hBu.mono HBr.out.size))
    have HGu : Hid (wu.heap[w.heap.size]? = some (.cells Z39 39 (0, 0))) := zA0 ((hBu.block _ (zA4 HGr.out)).trans HGr.out)
    have HQu : Hid (wu.heap[w.heap.size + 1]? = some (.cells #[.int .i64 s.t, .int .i64 s.v, .int .i64 bi, .int .i64 bt, .slice av nv cv, .slice al nl cl, .slice ad nd cd, .slice ea len ec] 39 (0, 0))) := zA0 ((hBu.block _ (zA4 HQr.out)).trans HQr.out)
    have HPu : Hid (Rep wu (NBr (w.heap.size + 2) wu) zC6 (#[.int .i64 s.t, .int .i64 s.v, .int .i64 bi, .int .i64 bt, .slice av nv cv, .slice al nl cl, .slice ad nd cd, .slice ea len ec] : Array Value).toList (dec s)) := zA0 (HPr.out.keptN hBu.size (fun j _ h2 => hBu.block j h2) (Nat.le_refl _))
    obtain ⟨va, vn, vc, hvv⟩ : ∃ a n c, v = .slice a n c := by obtain ⟨a, c, h, _⟩ := hbo.form; exact ⟨a, _, c, h⟩
    subst hvv
    have HBV := zA0 (SlR.own hbo)
    clear hbo hst hBu HU hsl HPr HQr
    by_cases herr : (unf (l.drop k)).err = 0
    · by_cases hus : (unf (l.drop k)).used = 0
      · have HR2 : Hid (rdF sd0 l = some (s, k)) := zA0 (by rw [HR.out, zK7 herr hus]; rfl)
        rw [herr, hus]
        generalize (unf (l.drop k)).kind = kd at *
        generalize (unf (l.drop k)).place = pl at *
        generalize (unf (l.drop k)).body = bo at *
        clear herr hus
        go_wp2_with (first
         | (refine wpList_load_row rfl 39 (.tmp 5) rfl (w.heap.size + 1) rfl 39 #[.int .i64 s.t, .int .i64 s.v, .int .i64 bi, .int .i64 bt, .slice av nv cv, .slice al nl cl, .slice ad nd cd, .slice ea len ec] (0, 0) _ HQu.out Tryz.underlying39 rfl zD3 ?_)
         | (refine zA7 rfl 39 (.tmp 2) (.tmp 39) rfl w.heap.size #[.int .i64 s.t, .int .i64 s.v, .int .i64 bi, .int .i64 bt, .slice av nv cv, .slice al nl cl, .slice ad nd cd, .slice ea len ec] rfl rfl 39 Z39 HGu.out zD3 rfl (by simp [Value.oneCell']) ?nz))
        case nz =>
         intro w9 hw9h
         have G9 : Hid (w9.heap[w.heap.size]? = some (.cells #[.int .i64 s.t, .int .i64 s.v, .int .i64 bi, .int .i64 bt, .slice av nv cv, .slice al nl cl, .slice ad nd cd, .slice ea len ec] 39 (0, 0))) := zA0 (by rw [hw9h.out]; exact setRow_heap _ _ _ _ 39 _ HGu.out)
         have HB9 : Hid (Below w.heap.size (wu) w9) := zA0 (by rw [hw9h.out]; exact ⟨rfl, rfl, rfl, by simp [World.setRow], fun k hk => setRow_other _ _ _ _ (by omega)⟩)
         have HREP9 : Hid (Rep w9 (NBr w.heap.size w9) zC6 (#[.int .i64 s.t, .int .i64 s.v, .int .i64 bi, .int .i64 bt, .slice av nv cv, .slice al nl cl, .slice ad nd cd, .slice ea len ec] : Array Value).toList (dec s)) := zA0 (HPu.out.keptN HB9.out.size (fun j h1 _ => by rw [hw9h.out]; exact setRow_other _ _ _ _ (by omega)) (by omega))
         clear hw9h
         go_wp2
         refine bodyPost_ret (v := .tuple #[.agg #[.int .i64 s.t, .int .i64 s.v, .int .i64 bi, .int .i64 bt, .slice av nv cv, .slice al nl cl, .slice ad nd cd, .slice ea len ec], .int .i64 (k : Int), .bool true]) ?_ rfl ⟨HBu.out.trans HB9.out, by rw [HR2.out]; exact ⟨_, rfl, HREP9.out⟩⟩
         exact zX8 _ _ w.heap.size _ _ _ rfl rfl rfl rfl G9.out
      · have HST := zA0 (yS4 (s := s) herr hus)
        obtain ⟨us, hu⟩ : ∃ us : Nat, (unf (l.drop k)).used = (us : Int) := ⟨(unf (l.drop k)).used.toNat, by have := HST.out.1; omega⟩
        rw [hu] at HST
        simp only [Int.toNat_natCast] at HST
        rw [herr, hu]
        generalize (unf (l.drop k)).kind = kd at *
        generalize (unf (l.drop k)).place = pl at *
        generalize (unf (l.drop k)).body = bo at *
        clear herr hus hu
        obtain ⟨u1, u2, k0, pl0, pl1, bol, STEP0⟩ := HST.out
        rw [List.length_drop, <- HN.out] at u2
        have u3 : k + us <= n := by omega
        have us0 : ((us : Int) == 0) = false := by rw [beq_eq_false_iff_ne]; omega
        have STEP := zA0 STEP0
        have PL0 := zA0 pl0
        have BOL := zA0 bol
        have HBS : Hid (vn = bo.length /\ Bs wu va bo /\ vn <= vc /\ ∀ y, va = some y -> y.block < wu.heap.size) := zA0 (by obtain ⟨q1, q3, q2, q4⟩ := yE0 HBV.out bol; exact ⟨q1, q2, q3, q4⟩)
        clear STEP0 HST pl0 pl1 bol k0
        by_cases hk1 : kd = 1
        · subst hk1
          have ET : Hid (zG3 s 1 pl bo = zQ4 s pl bo) := zA0 (by unfold zG3; simp)
          go_wp2_with fail
          refine (yN3 va vn vc bo wu HBS.out.1 HBS.out.2.1 BOL.out).mono ?_
          rintro e w3 ⟨hx, hy, rfl, hxy, hb3⟩
          have HB3 := zA0 hb3
          have HBWu := HBu
          have HBW3 : Hid (Below w.heap.size w w3) := zA0 (HBu.out.trans (hb3.mono HBu.out.size))
          have HG3 : Hid (w3.heap[w.heap.size]? = some (.cells Z39 39 (0, 0))) := zA0 ((hb3.block _ (zA4 HGu.out)).trans HGu.out)
          have HQ3 : Hid (w3.heap[w.heap.size + 1]? = some (.cells #[.int .i64 s.t, .int .i64 s.v, .int .i64 bi, .int .i64 bt, .slice av nv cv, .slice al nl cl, .slice ad nd cd, .slice ea len ec] 39 (0, 0))) := zA0 ((hb3.block _ (zA4 HQu.out)).trans HQu.out)
          have HP3 : Hid (Rep w3 (NBr (w.heap.size + 2) w3) zC6 (#[.int .i64 s.t, .int .i64 s.v, .int .i64 bi, .int .i64 bt, .slice av nv cv, .slice al nl cl, .slice ad nd cd, .slice ea len ec] : Array Value).toList (dec s)) := zA0 (HPu.out.keptN hb3.size (fun j _ h2 => hb3.block j h2) (Nat.le_refl _))
          have HSZ3 : Hid (w.heap.size + 2 <= w3.heap.size) := zA0 (zA4 HQ3.out)
          have HXY := zA0 hxy
          clear hb3 hxy
          by_cases ok : okH bo
          · rw [decide_eq_true ok]
            by_cases hp : pl = 0
            · have HTN : Hid (zQ4 s pl bo = some ⟨(dH bo).1, (dH bo).2, s.sn, s.base, s.bs⟩) := zA0 (if_pos ⟨ok, hp⟩)
              have HR2 : Hid (rdF sd0 l = (rdF ⟨(dH bo).1, (dH bo).2, s.sn, s.base, s.bs⟩ (l.drop (k + us))).map fun r => (r.1, k + us + r.2)) := zA0 (by
               rw [HR.out, STEP.out, ET.out, HTN.out]
               simp only [Option.bind_some, List.drop_drop, Option.map_map]
               congr 1
               funext r
               simp [Nat.add_assoc])
              have HOK2 := zA0 (zK5 (s' := ⟨(dH bo).1, (dH bo).2, s.sn, s.base, s.bs⟩) HOK.out PL0.out (by rw [ET.out]; exact HTN.out))
              obtain ⟨e1, e2⟩ := HXY.out ok
              have HE1 := zA0 e1
              have HE2 := zA0 e2
              have q0 : w3.cell? ⟨w.heap.size + 1, 0, none⟩ = some (.int .i64 s.t) := by rw [cell_of_row _ _ _ _ 39 (0, 0) HQ3.out]; rfl
              have q1 : w3.cell? ⟨w.heap.size + 1, 1, none⟩ = some (.int .i64 s.v) := by rw [cell_of_row _ _ _ _ 39 (0, 0) HQ3.out]; rfl
              have fq : ∀ o, w3.frozen? ⟨w.heap.size + 1, o, none⟩ = false := fun o => by simp [World.frozen?, HQ3.out]
              have lq := zA4 HQ3.out
              subst hp
              clear ok e1 e2
              go_wp2
              go_roundw
              case rel =>
               obtain ⟨w6, hw6⟩ : ∃ w6, w6 = ((w3.setCell ⟨w.heap.size + 1, 0, none⟩ (.int .i64 hx)).setCell ⟨w.heap.size + 1, 1, none⟩ (.int .i64 hy)).alloc (.cells #[.int .i64 hx, .int .i64 hy] 31) := ⟨_, rfl⟩
               rw [<- hw6]
               have hk6 : ∀ j, j ≠ w.heap.size + 1 -> j < w3.heap.size -> w6.heap[j]? = w3.heap[j]? := fun j hj hl => by rw [hw6]; exact (Below.heap_alloc _ _ _ (by simpa using hl)).trans ((zB3 _ _ _ _ j hj).trans (zB3 _ _ _ _ j hj))
               have hs6 : w6.heap.size = w3.heap.size + 1 := by rw [hw6]; simp
               have hq6 : w6.heap[w.heap.size + 1]? = some (.cells #[.int .i64 hx, .int .i64 hy, .int .i64 bi, .int .i64 bt, .slice av nv cv, .slice al nl cl, .slice ad nd cd, .slice ea len ec] 39 (0, 0)) := by
                have a2 := heap_setCell_same _ _ 0 _ 39 (.int .i64 hx) HQ3.out
                have a3 := heap_setCell_same _ _ 1 _ 39 (.int .i64 hy) a2
                rw [hw6]
                refine (Below.heap_alloc _ _ _ (by simpa using zA4 HQ3.out)).trans ?_
                rw [a3]; rfl
               have hb6 : Below w.heap.size w3 w6 := by rw [hw6]; exact (((Below.refl _ w3).setCell (p := ⟨w.heap.size + 1, 0, none⟩) (by simp) _).setCell (p := ⟨w.heap.size + 1, 1, none⟩) (by simp) _).alloc (by have := HSZ3.out; simp; omega) _
               refine ⟨k + us, ⟨(dH bo).1, (dH bo).2, s.sn, s.base, s.bs⟩, [.int .i64 hx, .int .i64 hy, .int .i64 bi, .int .i64 bt, .slice av nv cv, .slice al nl cl, .slice ad nd cd, .slice ea len ec], u3, by go_num, zA0 ?_, zA0 ?_, HOK2, HR2, zA0 (by have := HLK.out; show s.bs.length <= _; omega), zA0 (HBW3.out.trans hb6), zA0 ((hk6 _ (by omega) (zA4 HG3.out)).trans HG3.out)⟩
               · exact hq6
               · have hP := HP3.out.keptN (lo' := w.heap.size + 2) (w' := w6) (by rw [hs6]; omega) (fun j h1 h2 => hk6 j (by omega) h2) (Nat.le_refl _)
                 obtain ⟨av', nv', cv', al', nl', cl', ad', nd', cd', ea', ec', he, h1, h2⟩ := zF7 hP
                 simp only [List.cons.injEq, and_true] at he
                 obtain ⟨_, _, g2, g3, g4, g5, g6, g7⟩ := he
                 rw [HE1.out, HE2.out]
                 have := zO1 (dH bo).1 (dH bo).2 _ _ _ _ _ _ ea' ec' _ h1 h2
                 rw [<- g2, <- g3, <- g4, <- g5, <- g6, <- g7] at this
                 exact this
              case measure => simp [intOf]; omega
            · have HTN : Hid (zQ4 s pl bo = none) := zA0 (if_neg (fun h => hp h.2))
              have HR2 : Hid (rdF sd0 l = none) := zA0 (by rw [HR.out, STEP.out, ET.out, HTN.out]; rfl)
              have hp2 : (pl != 0) = true := by simpa using hp
              have HG4 : Hid ((w3.alloc (.cells #[.int .i64 hx, .int .i64 hy] 31)).heap[w.heap.size]? = some (.cells Z39 39 (0, 0))) := zA0 ((Below.heap_alloc _ _ _ (zA4 HG3.out)).trans HG3.out)
              have HB4 : Hid (Below w.heap.size w (w3.alloc (.cells #[.int .i64 hx, .int .i64 hy] 31))) := zA0 (HBW3.out.alloc HBW3.out.size _)
              clear hp ok
              go_wp2_with (refine zA7 rfl 39 (.tmp 2) (.tmp 56) rfl w.heap.size Z39 rfl rfl 39 Z39 HG4.out zD3 rfl (by simp [Z39, Value.oneCell']) ?nz)
              case nz =>
               intro w9 hw9h
               have G9 : Hid (w9.heap[w.heap.size]? = some (.cells Z39 39 (0, 0))) := zA0 (by rw [hw9h.out]; exact setRow_heap _ _ _ _ 39 _ HG4.out)
               have HB9 : Hid (Below w.heap.size (w3.alloc (.cells #[.int .i64 hx, .int .i64 hy] 31)) w9) := zA0 (by rw [hw9h.out]; exact ⟨rfl, rfl, rfl, by simp [World.setRow], fun k hk => setRow_other _ _ _ _ (by omega)⟩)
               clear hw9h
               go_wp2
               refine bodyPost_ret (v := .tuple #[.agg Z39, .int .i64 0, .bool false]) ?_ rfl ⟨HB4.out.trans HB9.out, by rw [HR2.out]⟩
               exact zX8 _ _ w.heap.size _ _ _ rfl rfl rfl rfl G9.out
          · rw [decide_eq_false ok]
            have HTN : Hid (zQ4 s pl bo = none) := zA0 (if_neg (fun h => ok h.1))
            have HR2 : Hid (rdF sd0 l = none) := zA0 (by rw [HR.out, STEP.out, ET.out, HTN.out]; rfl)
            have HG4 : Hid ((w3.alloc (.cells #[.int .i64 hx, .int .i64 hy] 31)).heap[w.heap.size]? = some (.cells Z39 39 (0, 0))) := zA0 ((Below.heap_alloc _ _ _ (zA4 HG3.out)).trans HG3.out)
            have HB4 : Hid (Below w.heap.size w (w3.alloc (.cells #[.int .i64 hx, .int .i64 hy] 31))) := zA0 (HBW3.out.alloc HBW3.out.size _)
            clear ok
            go_wp2_with (refine zA7 rfl 39 (.tmp 2) (.tmp 56) rfl w.heap.size Z39 rfl rfl 39 Z39 HG4.out zD3 rfl (by simp [Z39, Value.oneCell']) ?nz)
            case nz =>
             intro w9 hw9h
             have G9 : Hid (w9.heap[w.heap.size]? = some (.cells Z39 39 (0, 0))) := zA0 (by rw [hw9h.out]; exact setRow_heap _ _ _ _ 39 _ HG4.out)
             have HB9 : Hid (Below w.heap.size (w3.alloc (.cells #[.int .i64 hx, .int .i64 hy] 31)) w9) := zA0 (by rw [hw9h.out]; exact ⟨rfl, rfl, rfl, by simp [World.setRow], fun k hk => setRow_other _ _ _ _ (by omega)⟩)
             clear hw9h
             go_wp2
             refine bodyPost_ret (v := .tuple #[.agg Z39, .int .i64 0, .bool false]) ?_ rfl ⟨HB4.out.trans HB9.out, by rw [HR2.out]⟩
             exact zX8 _ _ w.heap.size _ _ _ rfl rfl rfl rfl G9.out
        · by_cases hk2 : kd = 2
          · subst hk2
            have ET : Hid (zG3 s 2 pl bo = zK4 s pl bo) := zA0 (by unfold zG3; simp)
            go_wp2_with fail
            refine (yX7 va vn vc bo wu HBS.out.1 HBS.out.2.2.1 HBS.out.2.1 HBS.out.2.2.2).mono ?_
            rintro e w3 ⟨es, v, rfl, hrep, hval, hb3⟩
            have HB3 := zA0 hb3
            have HBWu := HBu
            have HBW3 : Hid (Below w.heap.size w w3) := zA0 (HBu.out.trans (hb3.mono HBu.out.size))
            have HG3 : Hid (w3.heap[w.heap.size]? = some (.cells Z39 39 (0, 0))) := zA0 ((hb3.block _ (zA4 HGu.out)).trans HGu.out)
            have HQ3 : Hid (w3.heap[w.heap.size + 1]? = some (.cells #[.int .i64 s.t, .int .i64 s.v, .int .i64 bi, .int .i64 bt, .slice av nv cv, .slice al nl cl, .slice ad nd cd, .slice ea len ec] 39 (0, 0))) := zA0 ((hb3.block _ (zA4 HQu.out)).trans HQu.out)
            have HP3 : Hid (Rep w3 (NBr (w.heap.size + 2) w3) zC6 (#[.int .i64 s.t, .int .i64 s.v, .int .i64 bi, .int .i64 bt, .slice av nv cv, .slice al nl cl, .slice ad nd cd, .slice ea len ec] : Array Value).toList (dec s)) := zA0 (HPu.out.keptN hb3.size (fun j _ h2 => hb3.block j h2) (Nat.le_refl _))
            have HSZ3 : Hid (w.heap.size + 2 <= w3.heap.size) := zA0 (zA4 HQ3.out)
            obtain ⟨rr, hrr, hel⟩ := zF4 hrep
            have HE := zA0 hrr
            have HEL := zA0 hel
            have HREP : Hid (Rep w3 (NBr (w.heap.size + 2) w3) zA8 es v) := zA0 (hrep.keptN (Nat.le_refl _) (fun _ _ _ => rfl) (zA4 HQu.out))
            have HVAL := zA0 hval
            have HCI : Hid ((Tryz.prog.info? 73).map (·.size) = some es.toArray.size) := by show _ = _; rw [List.size_toArray]; exact zI6 hel
            have HCS : Hid (es.toArray.size = zB2.size) := by show _ = _; rw [List.size_toArray, hel]; rfl
            have HCO : Hid (es.toArray.all (·.oneCell') = true) := hrep.all
            clear hrr hel hrep hval hb3
            obtain ⟨ok, hok⟩ : ∃ ok, ok = decide ((de zA8 (some bo)).2 = some []) := ⟨_, rfl⟩
            rw [<- hok]
            have HOKB := zA0 hok
            clear hok
            go_wp2_with (refine zA7 rfl 73 (.tmp 14) (.tmp 64) rfl w3.heap.size es.toArray rfl rfl 73 zB2 (heap_alloc_new w3 (.cells zB2 73)) HCI.out HCS.out.symm HCO.out ?nx)
            case nx =>
             intro w4 hw4h
             have hw4 := hw4h.out
             have hB4 : Below w3.heap.size w3 w4 := by rw [hw4]; exact ((Below.refl _ _).alloc (Nat.le_refl _) _).trans ⟨rfl, rfl, rfl, by simp [World.setRow], fun k hk => setRow_other _ _ _ _ (by omega)⟩
             have GX4 : Hid (w4.heap[w3.heap.size]? = some (.cells es.toArray 73 (0, 0))) := zA0 (by rw [hw4]; exact setRow_heap _ _ _ _ 73 _ (heap_alloc_new w3 _))
             have HBW4 : Hid (Below w.heap.size w w4) := zA0 (HBW3.out.trans (hB4.mono HBW3.out.size))
             have HG4 : Hid (w4.heap[w.heap.size]? = some (.cells Z39 39 (0, 0))) := zA0 ((hB4.block _ (zA4 HG3.out)).trans HG3.out)
             have HQ4 : Hid (w4.heap[w.heap.size + 1]? = some (.cells #[.int .i64 s.t, .int .i64 s.v, .int .i64 bi, .int .i64 bt, .slice av nv cv, .slice al nl cl, .slice ad nd cd, .slice ea len ec] 39 (0, 0))) := zA0 ((hB4.block _ (zA4 HQ3.out)).trans HQ3.out)
             have HP4 : Hid (Rep w4 (NBr (w.heap.size + 2) w4) zC6 (#[.int .i64 s.t, .int .i64 s.v, .int .i64 bi, .int .i64 bt, .slice av nv cv, .slice al nl cl, .slice ad nd cd, .slice ea len ec] : Array Value).toList (dec s)) := zA0 (HP3.out.keptN hB4.size (fun j _ h2 => hB4.block j h2) (Nat.le_refl _))
             have HSZ4 : Hid (w.heap.size + 2 <= w4.heap.size) := zA0 (zA4 HQ4.out)
             have HR4 : Hid (Rep w4 (NBr (w.heap.size + 2) w4) zA8 es v) := zA0 (HREP.out.keptN hB4.size (fun j _ h2 => hB4.block j h2) (Nat.le_refl _))
             have x4 : w4.cell? ⟨w3.heap.size, 0, none⟩ = some (.int .i64 (eI v)) := by rw [cell_of_row _ _ _ _ 73 (0, 0) GX4.out, HE.out]; rfl
             have lx4 := zA4 GX4.out
             obtain ⟨bb, hbb⟩ : ∃ bb, bb = decide (s.base < eI v /\ eI v <= s.base + s.bs.length + 1) := ⟨_, rfl⟩
             have HBB := zA0 hbb
             clear hw4 hw4h hB4 hbb
             generalize hI : eI v = I at *
             go_wp2_with (refine wpList_load_row rfl 39 (.tmp 5) rfl (w.heap.size + 1) rfl 39 #[.int .i64 s.t, .int .i64 s.v, .int .i64 bi, .int .i64 bt, .slice av nv cv, .slice al nl cl, .slice ad nd cd, .slice ea len ec] (0, 0) _ HQ4.out Tryz.underlying39 rfl zD3 ?_)
             refine (yP9 (NBr (w.heap.size + 2) w4) (#[.int .i64 s.t, .int .i64 s.v, .int .i64 bi, .int .i64 bt, .slice av nv cv, .slice al nl cl, .slice ad nd cd, .slice ea len ec] : Array Value).toList s I bb w4 HP4.out (fun k h => h.2.1) HOK.out HBB.out.symm).mono ?_
             rintro e w5 ⟨rfl, hB5⟩
             have HBW5 : Hid (Below w.heap.size w w5) := zA0 (HBW4.out.trans (hB5.mono HBW4.out.size))
             have HG5 : Hid (w5.heap[w.heap.size]? = some (.cells Z39 39 (0, 0))) := zA0 ((hB5.block _ (zA4 HG4.out)).trans HG4.out)
             have HQ5 : Hid (w5.heap[w.heap.size + 1]? = some (.cells #[.int .i64 s.t, .int .i64 s.v, .int .i64 bi, .int .i64 bt, .slice av nv cv, .slice al nl cl, .slice ad nd cd, .slice ea len ec] 39 (0, 0))) := zA0 ((hB5.block _ (zA4 HQ4.out)).trans HQ4.out)
             have HP5 : Hid (Rep w5 (NBr (w.heap.size + 2) w5) zC6 (#[.int .i64 s.t, .int .i64 s.v, .int .i64 bi, .int .i64 bt, .slice av nv cv, .slice al nl cl, .slice ad nd cd, .slice ea len ec] : Array Value).toList (dec s)) := zA0 (HP4.out.keptN hB5.size (fun j _ h2 => hB5.block j h2) (Nat.le_refl _))
             have HSZ5 : Hid (w.heap.size + 2 <= w5.heap.size) := zA0 (zA4 HQ5.out)
             have GX5 : Hid (w5.heap[w3.heap.size]? = some (.cells es.toArray 73 (0, 0))) := zA0 ((hB5.block _ (zA4 GX4.out)).trans GX4.out)
             have HR5 : Hid (Rep w5 (NBr (w.heap.size + 2) w5) zA8 es v) := zA0 (HR4.out.keptN hB5.size (fun j _ h2 => hB5.block j h2) (Nat.le_refl _))
             have x5 : w5.cell? ⟨w3.heap.size, 0, none⟩ = some (.int .i64 I) := by rw [cell_of_row _ _ _ _ 73 (0, 0) GX5.out, HE.out]; rfl
             have lx5 := zA4 GX5.out
             clear hB5 x4 lx4
             by_cases hall : okE bo /\ I = pl /\ bb = true
             · obtain ⟨h1, h2, h3⟩ := hall
               have hv : v = dE bo := HVAL.out h1
               have hIe : eI (dE bo) = pl := by rw [<- hv, hI]; exact h2
               have hm : s.base < pl /\ pl <= s.base + s.bs.length + 1 := by
                have := HBB.out
                rw [h3, h2] at this
                exact of_decide_eq_true this.symm
               have HTN : Hid (zK4 s pl bo = some ⟨s.t, s.v, s.sn, s.base, s.bs.take (eI (dE bo) - s.base - 1).toNat ++ [bo]⟩) := zA0 (by unfold zK4; rw [if_pos ⟨h1, hIe.symm, by rw [hIe]; exact hm.1, by rw [hIe]; exact hm.2⟩])
               have HR2 : Hid (rdF sd0 l = (rdF ⟨s.t, s.v, s.sn, s.base, s.bs.take (eI (dE bo) - s.base - 1).toNat ++ [bo]⟩ (l.drop (k + us))).map fun r => (r.1, k + us + r.2)) := zA0 (by
                rw [HR.out, STEP.out, ET.out, HTN.out]
                simp only [Option.bind_some, List.drop_drop, Option.map_map]
                congr 1
                funext r
                simp [Nat.add_assoc])
               have HOK2 := zA0 (zK5 (s' := ⟨s.t, s.v, s.sn, s.base, s.bs.take (eI (dE bo) - s.base - 1).toNat ++ [bo]⟩) HOK.out PL0.out (by rw [ET.out]; exact HTN.out))
               have hok1 : ok = true := by rw [HOKB.out]; exact decide_eq_true h1
               have HPUT := zA0 (kE2 (w.heap.size + 2) (#[.int .i64 s.t, .int .i64 s.v, .int .i64 bi, .int .i64 bt, .slice av nv cv, .slice al nl cl, .slice ad nd cd, .slice ea len ec] : Array Value).toList es s bo (eI (dE bo) - s.base - 1).toNat w5 HP5.out (by rw [<- hv]; exact HR5.out) HOK.out (by rw [hIe]; omega) (by rw [hIe]; omega) HSZ5.out (by have := HLK.out; omega))
               have HL2 : Hid ((s.bs.take (eI (dE bo) - s.base - 1).toNat ++ [bo]).length <= k + us) := zA0 (by have := HLK.out; rw [List.length_append, List.length_take]; simp only [List.length_cons, List.length_nil]; omega)
               subst hok1 h3 h2
               clear h1 hv hIe hm
               go_wp2_with (first
                | (refine wpList_load_row rfl 39 (.tmp 5) rfl (w.heap.size + 1) rfl 39 #[.int .i64 s.t, .int .i64 s.v, .int .i64 bi, .int .i64 bt, .slice av nv cv, .slice al nl cl, .slice ad nd cd, .slice ea len ec] (0, 0) _ HQ5.out Tryz.underlying39 rfl zD3 ?_)
                | (refine wpList_load_row rfl 73 (.tmp 14) rfl w3.heap.size rfl 73 es.toArray (0, 0) _ GX5.out Tryz.underlying73 rfl HCI.out ?_))
               refine HPUT.out.mono ?_
               rintro e w6 ⟨cs6, rfl, hr6, hB6⟩
               have hl6 : cs6.length = 8 := hr6.len
               have HQ6 : Hid (w6.heap[w.heap.size + 1]? = some (.cells #[.int .i64 s.t, .int .i64 s.v, .int .i64 bi, .int .i64 bt, .slice av nv cv, .slice al nl cl, .slice ad nd cd, .slice ea len ec] 39 (0, 0))) := zA0 ((hB6.block _ (zA4 HQ5.out)).trans HQ5.out)
               have HG6 : Hid (w6.heap[w.heap.size]? = some (.cells Z39 39 (0, 0))) := zA0 ((hB6.block _ (zA4 HG5.out)).trans HG5.out)
               have HBW6 : Hid (Below w.heap.size w w6) := zA0 (HBW5.out.trans (hB6.mono HBW5.out.size))
               have HR6 := zA0 hr6
               have HC6 : Hid ((Tryz.prog.info? 39).map (·.size) = some cs6.toArray.size) := by show _ = _; rw [List.size_toArray, hl6]; exact zD3
               have HS6 : Hid ((#[.int .i64 s.t, .int .i64 s.v, .int .i64 bi, .int .i64 bt, .slice av nv cv, .slice al nl cl, .slice ad nd cd, .slice ea len ec] : Array Value).size = cs6.toArray.size) := zA0 (by show 8 = cs6.toArray.size; rw [List.size_toArray, hl6])
               have HA6 : Hid (cs6.toArray.all (·.oneCell') = true) := hr6.all
               clear hr6 hB6 hl6
               go_wp2_with (refine zA7 rfl 39 (.tmp 5) (.tmp 85) rfl (w.heap.size + 1) cs6.toArray rfl rfl 39 #[.int .i64 s.t, .int .i64 s.v, .int .i64 bi, .int .i64 bt, .slice av nv cv, .slice al nl cl, .slice ad nd cd, .slice ea len ec] HQ6.out HC6.out HS6.out HA6.out ?ny)
               case ny =>
                intro w7 hw7h
                have hk7 : ∀ j, j ≠ w.heap.size + 1 -> w7.heap[j]? = w6.heap[j]? := fun j hj => by rw [hw7h.out]; exact setRow_other _ _ _ _ hj
                have HQ7 : Hid (w7.heap[w.heap.size + 1]? = some (.cells cs6.toArray 39 (0, 0))) := zA0 (by rw [hw7h.out]; exact setRow_heap _ _ _ _ 39 _ HQ6.out)
                have hB7 : Below w.heap.size w6 w7 := by rw [hw7h.out]; exact ⟨rfl, rfl, rfl, by simp [World.setRow], fun k hk => setRow_other _ _ _ _ (by omega)⟩
                have HR7 : Hid (Rep w7 (NBr (w.heap.size + 2) w7) zC6 cs6 (dec ⟨s.t, s.v, s.sn, s.base, s.bs.take (eI (dE bo) - s.base - 1).toNat ++ [bo]⟩)) := zA0 (HR6.out.keptN hB7.size (fun j h1 _ => hk7 j (by omega)) (Nat.le_refl _))
                have HBW7 := zA0 (HBW6.out.trans hB7)
                have HG7 := zA0 ((hk7 _ (by omega)).trans HG6.out)
                clear hw7h hk7 hB7
                go_wp2
                go_roundw
                case rel => exact ⟨k + us, ⟨s.t, s.v, s.sn, s.base, s.bs.take (eI (dE bo) - s.base - 1).toNat ++ [bo]⟩, cs6, u3, by go_num, HQ7, HR7, HOK2, HR2, HL2, HBW7, HG7⟩
                case measure => simp [intOf]; omega
             · have HTN : Hid (zK4 s pl bo = none) := zA0 (by
                 unfold zK4
                 rw [if_neg]
                 rintro ⟨h1, h2, h3, h4⟩
                 have hv : v = dE bo := HVAL.out h1
                 have hIe : eI (dE bo) = I := by rw [<- hv]; exact hI
                 rw [hIe] at h2 h3 h4
                 exact hall ⟨h1, h2.symm, by rw [HBB.out]; exact decide_eq_true ⟨h3, h4⟩⟩)
               have HR2 : Hid (rdF sd0 l = none) := zA0 (by rw [HR.out, STEP.out, ET.out, HTN.out]; rfl)
               have hcase : ok = false \/ (ok = true /\ I ≠ pl) \/ (ok = true /\ I = pl /\ bb = false) := by
                cases hok : ok with
                | false => exact .inl rfl
                | true =>
                 have h1 : okE bo := of_decide_eq_true (by rw [<- HOKB.out]; exact hok)
                 by_cases h2 : I = pl
                 · refine .inr (.inr ⟨rfl, h2, ?_⟩)
                   cases hb : bb with
                   | false => rfl
                   | true => exact absurd ⟨h1, h2, hb⟩ hall
                 · exact .inr (.inl ⟨rfl, h2⟩)
               clear hall
               rcases hcase with h1 | ⟨h1, h2⟩ | ⟨h1, h2, h3⟩
               · subst h1
                 go_wp2_with (refine zA7 rfl 39 (.tmp 2) (.tmp 82) rfl w.heap.size Z39 rfl rfl 39 Z39 HG5.out zD3 rfl (by simp [Z39, Value.oneCell']) ?nz)
                 case nz =>
                  intro w9 hw9h
                  have G9 : Hid (w9.heap[w.heap.size]? = some (.cells Z39 39 (0, 0))) := zA0 (by rw [hw9h.out]; exact setRow_heap _ _ _ _ 39 _ HG5.out)
                  have HB9 : Hid (Below w.heap.size (w5) w9) := zA0 (by rw [hw9h.out]; exact ⟨rfl, rfl, rfl, by simp [World.setRow], fun k hk => setRow_other _ _ _ _ (by omega)⟩)
                  clear hw9h
                  go_wp2
                  refine bodyPost_ret (v := .tuple #[.agg Z39, .int .i64 0, .bool false]) ?_ rfl ⟨HBW5.out.trans HB9.out, by rw [HR2.out]⟩
                  exact zX8 _ _ w.heap.size _ _ _ rfl rfl rfl rfl G9.out
               · subst h1
                 have h2' : (I != pl) = true := by simpa using h2
                 clear h2
                 go_wp2_with (refine zA7 rfl 39 (.tmp 2) (.tmp 82) rfl w.heap.size Z39 rfl rfl 39 Z39 HG5.out zD3 rfl (by simp [Z39, Value.oneCell']) ?nz)
                 case nz =>
                  intro w9 hw9h
                  have G9 : Hid (w9.heap[w.heap.size]? = some (.cells Z39 39 (0, 0))) := zA0 (by rw [hw9h.out]; exact setRow_heap _ _ _ _ 39 _ HG5.out)
                  have HB9 : Hid (Below w.heap.size (w5) w9) := zA0 (by rw [hw9h.out]; exact ⟨rfl, rfl, rfl, by simp [World.setRow], fun k hk => setRow_other _ _ _ _ (by omega)⟩)
                  clear hw9h
                  go_wp2
                  refine bodyPost_ret (v := .tuple #[.agg Z39, .int .i64 0, .bool false]) ?_ rfl ⟨HBW5.out.trans HB9.out, by rw [HR2.out]⟩
                  exact zX8 _ _ w.heap.size _ _ _ rfl rfl rfl rfl G9.out
               · subst h1 h2 h3
                 go_wp2_with (refine zA7 rfl 39 (.tmp 2) (.tmp 82) rfl w.heap.size Z39 rfl rfl 39 Z39 HG5.out zD3 rfl (by simp [Z39, Value.oneCell']) ?nz)
                 case nz =>
                  intro w9 hw9h
                  have G9 : Hid (w9.heap[w.heap.size]? = some (.cells Z39 39 (0, 0))) := zA0 (by rw [hw9h.out]; exact setRow_heap _ _ _ _ 39 _ HG5.out)
                  have HB9 : Hid (Below w.heap.size (w5) w9) := zA0 (by rw [hw9h.out]; exact ⟨rfl, rfl, rfl, by simp [World.setRow], fun k hk => setRow_other _ _ _ _ (by omega)⟩)
                  clear hw9h
                  go_wp2
                  refine bodyPost_ret (v := .tuple #[.agg Z39, .int .i64 0, .bool false]) ?_ rfl ⟨HBW5.out.trans HB9.out, by rw [HR2.out]⟩
                  exact zX8 _ _ w.heap.size _ _ _ rfl rfl rfl rfl G9.out
          · by_cases hk3 : kd = 3
            · subst hk3
              have ET : Hid (zG3 s 3 pl bo = zP2 s pl bo) := zA0 (by unfold zG3; simp)
              go_wp2_with fail
              refine (yG0 va vn vc bo wu HBS.out.1 HBS.out.2.2.1 HBS.out.2.1 HBS.out.2.2.2).mono ?_
              rintro e w3 ⟨ss, v, rfl, hrep, hval, hb3⟩
              have HB3 := zA0 hb3
              have HBWu := HBu
              have HBW3 : Hid (Below w.heap.size w w3) := zA0 (HBu.out.trans (hb3.mono HBu.out.size))
              have HG3 : Hid (w3.heap[w.heap.size]? = some (.cells Z39 39 (0, 0))) := zA0 ((hb3.block _ (zA4 HGu.out)).trans HGu.out)
              have HQ3 : Hid (w3.heap[w.heap.size + 1]? = some (.cells #[.int .i64 s.t, .int .i64 s.v, .int .i64 bi, .int .i64 bt, .slice av nv cv, .slice al nl cl, .slice ad nd cd, .slice ea len ec] 39 (0, 0))) := zA0 ((hb3.block _ (zA4 HQu.out)).trans HQu.out)
              have HP3 : Hid (Rep w3 (NBr (w.heap.size + 2) w3) zC6 (#[.int .i64 s.t, .int .i64 s.v, .int .i64 bi, .int .i64 bt, .slice av nv cv, .slice al nl cl, .slice ad nd cd, .slice ea len ec] : Array Value).toList (dec s)) := zA0 (HPu.out.keptN hb3.size (fun j _ h2 => hb3.block j h2) (Nat.le_refl _))
              have HSZ3 : Hid (w.heap.size + 2 <= w3.heap.size) := zA0 (zA4 HQ3.out)
              have HREP : Hid (Rep w3 (NBr (w.heap.size + 2) w3) zA2 ss v) := zA0 (hrep.keptN (Nat.le_refl _) (fun _ _ _ => rfl) (zA4 HQu.out))
              have HVAL := zA0 hval
              obtain ⟨sav, scv, sal, scl, sad, scd, hss, _, _, _, _⟩ := zJ9 hrep
              obtain ⟨snv, hsnv⟩ : ∃ x, x = v.2.2.1.1.length := ⟨_, rfl⟩
              obtain ⟨snl, hsnl⟩ : ∃ x, x = v.2.2.1.2.length := ⟨_, rfl⟩
              obtain ⟨snd, hsnd⟩ : ∃ x, x = v.2.2.2.length := ⟨_, rfl⟩
              obtain ⟨vi, hvi⟩ : ∃ x, x = v.1 := ⟨_, rfl⟩
              obtain ⟨vt, hvt⟩ : ∃ x, x = v.2.1 := ⟨_, rfl⟩
              rw [<- hsnv, <- hsnl, <- hsnd, <- hvi, <- hvt] at hss
              subst hss
              have HVI := zA0 hvi
              clear hrep hval hb3 hsnv hsnl hsnd hvi hvt
              obtain ⟨ok, hok⟩ : ∃ ok, ok = decide ((de zA2 (some bo)).2 = some []) := ⟨_, rfl⟩
              rw [<- hok]
              have HOKB := zA0 hok
              clear hok
              have HG4 : Hid ((w3.alloc (.cells #[.int .i64 vi, .int .i64 vt, .slice sav snv scv, .slice sal snl scl, .slice sad snd scd] 36)).heap[w.heap.size]? = some (.cells Z39 39 (0, 0))) := zA0 ((Below.heap_alloc _ _ _ (zA4 HG3.out)).trans HG3.out)
              have HB4 : Hid (Below w.heap.size w (w3.alloc (.cells #[.int .i64 vi, .int .i64 vt, .slice sav snv scv, .slice sal snl scl, .slice sad snd scd] 36))) := zA0 (HBW3.out.alloc HBW3.out.size _)
              by_cases hall : okS bo /\ vi = pl
              · obtain ⟨h1, h2⟩ := hall
                have hv : v = dS bo := HVAL.out h1
                have hIe : sI (dS bo) = vi := by rw [HVI.out, hv]; rfl
                have HTN : Hid (zP2 s pl bo = some ⟨s.t, s.v, some bo, sI (dS bo), []⟩) := zA0 (by unfold zP2; rw [if_pos ⟨h1, by rw [hIe]; exact h2.symm⟩])
                have HR2 : Hid (rdF sd0 l = (rdF ⟨s.t, s.v, some bo, sI (dS bo), []⟩ (l.drop (k + us))).map fun r => (r.1, k + us + r.2)) := zA0 (by
                 rw [HR.out, STEP.out, ET.out, HTN.out]
                 simp only [Option.bind_some, List.drop_drop, Option.map_map]
                 congr 1
                 funext r
                 simp [Nat.add_assoc])
                have HOK2 := zA0 (zK5 (s' := ⟨s.t, s.v, some bo, sI (dS bo), []⟩) HOK.out PL0.out (by rw [ET.out]; exact HTN.out))
                have hok1 : ok = true := by rw [HOKB.out]; exact decide_eq_true h1
                have HV := zA0 hv
                have q2 : w3.cell? ⟨w.heap.size + 1, 2, none⟩ = some (.int .i64 bi) := by rw [cell_of_row _ _ _ _ 39 (0, 0) HQ3.out]; rfl
                have q3 : w3.cell? ⟨w.heap.size + 1, 3, none⟩ = some (.int .i64 bt) := by rw [cell_of_row _ _ _ _ 39 (0, 0) HQ3.out]; rfl
                have q4 : w3.cell? ⟨w.heap.size + 1, 4, none⟩ = some (.slice av nv cv) := by rw [cell_of_row _ _ _ _ 39 (0, 0) HQ3.out]; rfl
                have q5 : w3.cell? ⟨w.heap.size + 1, 5, none⟩ = some (.slice al nl cl) := by rw [cell_of_row _ _ _ _ 39 (0, 0) HQ3.out]; rfl
                have q6 : w3.cell? ⟨w.heap.size + 1, 6, none⟩ = some (.slice ad nd cd) := by rw [cell_of_row _ _ _ _ 39 (0, 0) HQ3.out]; rfl
                have q7 : w3.cell? ⟨w.heap.size + 1, 7, none⟩ = some (.slice ea len ec) := by rw [cell_of_row _ _ _ _ 39 (0, 0) HQ3.out]; rfl
                have fq : ∀ o, w3.frozen? ⟨w.heap.size + 1, o, none⟩ = false := fun o => by simp [World.frozen?, HQ3.out]
                have lq := zA4 HQ3.out
                subst hok1 h2
                clear h1 hv hIe
                go_wp2
                go_roundw
                case rel =>
                 obtain ⟨w6, hw6⟩ : ∃ w6, w6 = ((((((w3.setCell ⟨w.heap.size + 1, 2, none⟩ (.int .i64 vi)).setCell ⟨w.heap.size + 1, 3, none⟩ (.int .i64 vt)).setCell ⟨w.heap.size + 1, 4, none⟩ (.slice sav snv scv)).setCell ⟨w.heap.size + 1, 5, none⟩ (.slice sal snl scl)).setCell ⟨w.heap.size + 1, 6, none⟩ (.slice sad snd scd)).setCell ⟨w.heap.size + 1, 7, none⟩ (.slice none 0 0)).alloc (.cells #[.int .i64 vi, .int .i64 vt, .slice sav snv scv, .slice sal snl scl, .slice sad snd scd] 36) := ⟨_, rfl⟩
                 rw [<- hw6]
                 have hk6 : ∀ j, j ≠ w.heap.size + 1 -> j < w3.heap.size -> w6.heap[j]? = w3.heap[j]? := fun j hj hl => by rw [hw6]; exact (Below.heap_alloc _ _ _ (by simpa using hl)).trans ((zB3 _ _ _ _ j hj).trans ((zB3 _ _ _ _ j hj).trans ((zB3 _ _ _ _ j hj).trans ((zB3 _ _ _ _ j hj).trans ((zB3 _ _ _ _ j hj).trans (zB3 _ _ _ _ j hj))))))
                 have hs6 : w6.heap.size = w3.heap.size + 1 := by rw [hw6]; simp
                 have hq6 : w6.heap[w.heap.size + 1]? = some (.cells #[.int .i64 s.t, .int .i64 s.v, .int .i64 vi, .int .i64 vt, .slice sav snv scv, .slice sal snl scl, .slice sad snd scd, .slice none 0 0] 39 (0, 0)) := by
                  have a2 := heap_setCell_same _ _ 2 _ 39 (.int .i64 vi) HQ3.out
                  have a3 := heap_setCell_same _ _ 3 _ 39 (.int .i64 vt) a2
                  have a4 := heap_setCell_same _ _ 4 _ 39 (.slice sav snv scv) a3
                  have a5 := heap_setCell_same _ _ 5 _ 39 (.slice sal snl scl) a4
                  have a6 := heap_setCell_same _ _ 6 _ 39 (.slice sad snd scd) a5
                  have a7 := heap_setCell_same _ _ 7 _ 39 (.slice none 0 0) a6
                  rw [hw6]
                  refine (Below.heap_alloc _ _ _ (by simpa using zA4 HQ3.out)).trans ?_
                  rw [a7]; rfl
                 have hb6 : Below w.heap.size w3 w6 := by rw [hw6]; exact (((((((Below.refl _ w3).setCell (p := ⟨w.heap.size + 1, 2, none⟩) (by simp) _).setCell (p := ⟨w.heap.size + 1, 3, none⟩) (by simp) _).setCell (p := ⟨w.heap.size + 1, 4, none⟩) (by simp) _).setCell (p := ⟨w.heap.size + 1, 5, none⟩) (by simp) _).setCell (p := ⟨w.heap.size + 1, 6, none⟩) (by simp) _).setCell (p := ⟨w.heap.size + 1, 7, none⟩) (by simp) _).alloc (by have := HSZ3.out; simp; omega) _
                 refine ⟨k + us, ⟨s.t, s.v, some bo, sI (dS bo), []⟩, [.int .i64 s.t, .int .i64 s.v, .int .i64 vi, .int .i64 vt, .slice sav snv scv, .slice sal snl scl, .slice sad snd scd, .slice none 0 0], u3, by go_num, zA0 hq6, zA0 ?_, HOK2, HR2, zA0 (Nat.zero_le _), zA0 (HBW3.out.trans hb6), zA0 ((hk6 _ (by omega) (zA4 HG3.out)).trans HG3.out)⟩
                 have hP := HREP.out.keptN (lo' := w.heap.size + 2) (w' := w6) (by rw [hs6]; omega) (fun j h1 h2 => hk6 j (by omega) h2) (Nat.le_refl _)
                 rw [HV.out] at hP
                 exact zO1 s.t s.v _ _ _ _ _ (dS bo) none 0 [] hP ⟨by simp, fun h => absurd rfl h⟩
                case measure => simp [intOf]; omega
              · have HTN : Hid (zP2 s pl bo = none) := zA0 (by
                  unfold zP2
                  rw [if_neg]
                  rintro ⟨h1, h2⟩
                  have hv : v = dS bo := HVAL.out h1
                  exact hall ⟨h1, by rw [HVI.out, hv, h2]; rfl⟩)
                have HR2 : Hid (rdF sd0 l = none) := zA0 (by rw [HR.out, STEP.out, ET.out, HTN.out]; rfl)
                have hcase : ok = false \/ (ok = true /\ vi ≠ pl) := by
                 cases hok : ok with
                 | false => exact .inl rfl
                 | true =>
                  have h1 : okS bo := of_decide_eq_true (by rw [<- HOKB.out]; exact hok)
                  exact .inr ⟨rfl, fun h2 => hall ⟨h1, h2⟩⟩
                clear hall
                rcases hcase with h1 | ⟨h1, h2⟩
                · subst h1
                  go_wp2_with (refine zA7 rfl 39 (.tmp 2) (.tmp 101) rfl w.heap.size Z39 rfl rfl 39 Z39 HG4.out zD3 rfl (by simp [Z39, Value.oneCell']) ?nz)
                  case nz =>
                   intro w9 hw9h
                   have G9 : Hid (w9.heap[w.heap.size]? = some (.cells Z39 39 (0, 0))) := zA0 (by rw [hw9h.out]; exact setRow_heap _ _ _ _ 39 _ HG4.out)
                   have HB9 : Hid (Below w.heap.size (w3.alloc (.cells #[.int .i64 vi, .int .i64 vt, .slice sav snv scv, .slice sal snl scl, .slice sad snd scd] 36)) w9) := zA0 (by rw [hw9h.out]; exact ⟨rfl, rfl, rfl, by simp [World.setRow], fun k hk => setRow_other _ _ _ _ (by omega)⟩)
                   clear hw9h
                   go_wp2
                   refine bodyPost_ret (v := .tuple #[.agg Z39, .int .i64 0, .bool false]) ?_ rfl ⟨HB4.out.trans HB9.out, by rw [HR2.out]⟩
                   exact zX8 _ _ w.heap.size _ _ _ rfl rfl rfl rfl G9.out
                · subst h1
                  have h2' : (vi != pl) = true := by simpa using h2
                  clear h2
                  go_wp2_with (refine zA7 rfl 39 (.tmp 2) (.tmp 101) rfl w.heap.size Z39 rfl rfl 39 Z39 HG4.out zD3 rfl (by simp [Z39, Value.oneCell']) ?nz)
                  case nz =>
                   intro w9 hw9h
                   have G9 : Hid (w9.heap[w.heap.size]? = some (.cells Z39 39 (0, 0))) := zA0 (by rw [hw9h.out]; exact setRow_heap _ _ _ _ 39 _ HG4.out)
                   have HB9 : Hid (Below w.heap.size (w3.alloc (.cells #[.int .i64 vi, .int .i64 vt, .slice sav snv scv, .slice sal snl scl, .slice sad snd scd] 36)) w9) := zA0 (by rw [hw9h.out]; exact ⟨rfl, rfl, rfl, by simp [World.setRow], fun k hk => setRow_other _ _ _ _ (by omega)⟩)
                   clear hw9h
                   go_wp2
                   refine bodyPost_ret (v := .tuple #[.agg Z39, .int .i64 0, .bool false]) ?_ rfl ⟨HB4.out.trans HB9.out, by rw [HR2.out]⟩
                   exact zX8 _ _ w.heap.size _ _ _ rfl rfl rfl rfl G9.out
            · have HR2 : Hid (rdF sd0 l = none) := zA0 (by rw [HR.out, STEP.out]; unfold zG3; rw [if_neg hk1, if_neg hk2, if_neg hk3]; rfl)
              have q1 : (kd == 1) = false := by simpa using hk1
              have q2 : (kd == 2) = false := by simpa using hk2
              have q3 : (kd == 3) = false := by simpa using hk3
              clear hk1 hk2 hk3
              go_wp2_with (refine zA7 rfl 39 (.tmp 2) (.tmp 42) rfl w.heap.size Z39 rfl rfl 39 Z39 HGu.out zD3 rfl (by simp [Z39, Value.oneCell']) ?nz)
              case nz =>
               intro w9 hw9h
               have G9 : Hid (w9.heap[w.heap.size]? = some (.cells Z39 39 (0, 0))) := zA0 (by rw [hw9h.out]; exact setRow_heap _ _ _ _ 39 _ HGu.out)
               have HB9 : Hid (Below w.heap.size (wu) w9) := zA0 (by rw [hw9h.out]; exact ⟨rfl, rfl, rfl, by simp [World.setRow], fun k hk => setRow_other _ _ _ _ (by omega)⟩)
               clear hw9h
               go_wp2
               refine bodyPost_ret (v := .tuple #[.agg Z39, .int .i64 0, .bool false]) ?_ rfl ⟨HBu.out.trans HB9.out, by rw [HR2.out]⟩
               exact zX8 _ _ w.heap.size _ _ _ rfl rfl rfl rfl G9.out
    · have HR2 : Hid (rdF sd0 l = none) := zA0 (by rw [HR.out, zS6 herr]; rfl)
      generalize (unf (l.drop k)).err = er at *
      generalize (unf (l.drop k)).used = us at *
      generalize (unf (l.drop k)).kind = kd at *
      generalize (unf (l.drop k)).place = pl at *
      generalize (unf (l.drop k)).body = bo at *
      have er1 : (er == 0) = false := by simpa using herr
      have er2 : (er != 0) = true := by simpa using herr
      clear herr
      go_wp2_with (refine zA7 rfl 39 (.tmp 2) (.tmp 36) rfl w.heap.size Z39 rfl rfl 39 Z39 HGu.out zD3 rfl (by simp [Z39, Value.oneCell']) ?nz)
      case nz =>
       intro w9 hw9h
       have G9 : Hid (w9.heap[w.heap.size]? = some (.cells Z39 39 (0, 0))) := zA0 (by rw [hw9h.out]; exact setRow_heap _ _ _ _ 39 _ HGu.out)
       have HB9 : Hid (Below w.heap.size (wu) w9) := zA0 (by rw [hw9h.out]; exact ⟨rfl, rfl, rfl, by simp [World.setRow], fun k hk => setRow_other _ _ _ _ (by omega)⟩)
       clear hw9h
       go_wp2
       refine bodyPost_ret (v := .tuple #[.agg Z39, .int .i64 0, .bool false]) ?_ rfl ⟨HBu.out.trans HB9.out, by rw [HR2.out]⟩
       exact zX8 _ _ w.heap.size _ _ _ rfl rfl rfl rfl G9.out
  · have hkn : k = n := by omega
    have HR2 : Hid (rdF sd0 l = some (s, k)) := zA0 (by rw [HR.out, List.drop_eq_nil_of_le (by rw [<- HN.out]; omega), zS5]; rfl)
    subst hkn
    go_wp2_with (first
     | (refine wpList_load_row rfl 39 (.tmp 5) rfl (w.heap.size + 1) rfl 39 #[.int .i64 s.t, .int .i64 s.v, .int .i64 bi, .int .i64 bt, .slice av nv cv, .slice al nl cl, .slice ad nd cd, .slice ea len ec] (0, 0) _ HQr.out Tryz.underlying39 rfl zD3 ?_)
     | (refine zA7 rfl 39 (.tmp 2) (.tmp 108) rfl w.heap.size #[.int .i64 s.t, .int .i64 s.v, .int .i64 bi, .int .i64 bt, .slice av nv cv, .slice al nl cl, .slice ad nd cd, .slice ea len ec] rfl rfl 39 Z39 HGr.out zD3 rfl (by simp [Value.oneCell']) ?nz))
    case nz =>
     intro w9 hw9h
     have G9 : Hid (w9.heap[w.heap.size]? = some (.cells #[.int .i64 s.t, .int .i64 s.v, .int .i64 bi, .int .i64 bt, .slice av nv cv, .slice al nl cl, .slice ad nd cd, .slice ea len ec] 39 (0, 0))) := zA0 (by rw [hw9h.out]; exact setRow_heap _ _ _ _ 39 _ HGr.out)
     have HB9 : Hid (Below w.heap.size (wr) w9) := zA0 (by rw [hw9h.out]; exact ⟨rfl, rfl, rfl, by simp [World.setRow], fun k hk => setRow_other _ _ _ _ (by omega)⟩)
     have HREP9 : Hid (Rep w9 (NBr w.heap.size w9) zC6 (#[.int .i64 s.t, .int .i64 s.v, .int .i64 bi, .int .i64 bt, .slice av nv cv, .slice al nl cl, .slice ad nd cd, .slice ea len ec] : Array Value).toList (dec s)) := zA0 (HPr.out.keptN HB9.out.size (fun j h1 _ => by rw [hw9h.out]; exact setRow_other _ _ _ _ (by omega)) (by omega))
     clear hw9h
     go_wp2
     refine bodyPost_ret (v := .tuple #[.agg #[.int .i64 s.t, .int .i64 s.v, .int .i64 bi, .int .i64 bt, .slice av nv cv, .slice al nl cl, .slice ad nd cd, .slice ea len ec], .int .i64 (k : Int), .bool true]) ?_ rfl ⟨HBr.out.trans HB9.out, by rw [HR2.out]; exact ⟨_, rfl, HREP9.out⟩⟩
     exact zX8 _ _ w.heap.size _ _ _ rfl rfl rfl rfl G9.out
end
end Go.Proofs.YtocoimjhglackaaGreat
