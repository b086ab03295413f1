/- Messages as rows of cells; register. -/
import Derived.Test.YtkienmncifonnaaDoorRw
namespace Go.Proofs.YtkienmncifonnaaDoor
open Go.RowKit Go.Maps
variable {D : Nat} {w w' : World} {p : Nat} {s : Sg} {n c pd : Nat} {mv : Value} {G : Nat → Prop}

structure Ms where
  kd : Int
  fr : Int
  to : Int
  cx : Int
  hi : Int
  op : Int
  bt : Int
  ep : Int
  cd : Int
  vl : Int
  aa : Option Addr
  al : List Al
  ac : Nat
/- the cells of a message that are looked at -/
structure MsR (X : Array Value) (m : Ms) : Prop where
  sz : X.size = 46
  one : X.all (·.oneCell') = true
  f0 : X[0]? = some (.int .i64 m.kd)
  f1 : X[1]? = some (.int .i64 m.fr)
  f2 : X[2]? = some (.int .i64 m.to)
  f8 : X[8]? = some (.int .i64 m.cx)
  f11 : X[11]? = some (.int .i64 m.hi)
  f16 : X[16]? = some (.int .i64 m.op)
  f31 : X[31]? = some (.int .i64 m.bt)
  f32 : X[32]? = some (.int .i64 m.ep)
  f43 : X[43]? = some (.int .i64 m.cd)
  f44 : X[44]? = some (.int .i64 m.vl)
  f45 : X[45]? = some (.slice m.aa m.al.length m.ac)
def rgB (a : Ag) (m : Ms) : Bool := decide (m.cd = 0) && decide (0 < m.vl) && decide (m.cx = a.bt) && decide (m.op = 5)
def rgA (a : Ag) (m : Ms) : Ag := { a with ep := m.vl, le := a.ck + 8, bs := 0, tk := 0, t0 := 0, t1 := 0, t2 := 0, t3 := 0, t4 := 0, t5 := 0, t6 := 0, t7 := 0 }
def rgS (s : Sg) (m : Ms) : Sg := if rgB s.a m = true then { s with a := rgA s.a m } else s
theorem below_dd (W : World) : Below W.heap.size W W.drew.drew := ⟨rfl, rfl, rfl, Nat.le_refl _, fun _ _ => rfl⟩
theorem below_drew {B : Nat} {a w : World} (h : Below B a w) : Below B a w.drew := h.drew
set_option maxHeartbeats 4000000 in
set_option maxRecDepth 100000 in
theorem register_any (X : Array Value) (m : Ms) (h : AgS D w p s n c) (hX : MsR X m) (hck : 0 ≤ s.a.ck ∧ s.a.ck ≤ 1099511627776) :
    Calls Tryd.prog 23 #[.pointer (some ⟨p, 0, none⟩), .agg X] w fun e w' => e = .returned (.tuple #[]) ∧ AgS D w' p (rgS s m) n c ∧ FrA D w w' := by
  obtain ⟨pd, mv, G, h⟩ := h
  obtain ⟨W0, hW0⟩ : ∃ y, y = w.alloc (.cells X 51) := ⟨_, rfl⟩
  have hb : Below w.heap.size w W0 := by rw [hW0]; exact (Below.refl _ w).alloc (Nat.le_refl _) _
  have hq : W0.heap[w.heap.size]? = some (.cells X 51 (0, 0)) := by rw [hW0]; exact heap_alloc_new w _
  have hA := h.below hb
  have q := fun j => cell_of_row W0 w.heap.size j X 51 (0, 0) hq
  have r8 := (q 8).trans hX.f8
  have r16 := (q 16).trans hX.f16
  have r43 := (q 43).trans hX.f43
  have r44 := (q 44).trans hX.f44
  have c5 : W0.cell? ⟨p, 5, none⟩ = some (.int .i64 s.a.bt) := hA.b.at_ 5
  have lp := hA.b.lt
  have HX := hidOf hX
  obtain ⟨r, hr⟩ : ∃ r, r = rgS s m := ⟨_, rfl⟩
  have HR := hidOf hr
  have HA := hidOf (hA.below (w' := W0.drew) ⟨rfl, rfl, rfl, Nat.le_refl _, fun _ _ => rfl⟩)
  have HA0 := hidOf hA
  have HF0 : Hid (FrA D w W0) := hidOf (.of_below hb)
  have HF : Hid (FrA D w W0.drew) := hidOf (.of_below hb.drew)
  rw [← hr]
  obtain ⟨hc0, hc1⟩ := hck
  clear hb hq hA q hr h hX
  have no : rgB s.a m = false → r = s := fun e => by rw [HR.out]; unfold rgS; rw [e]; rfl
  by_cases e1 : m.cd = 0
  · have e1b : (m.cd != 0) = false := by simp [e1]
    by_cases e2 : m.vl ≤ 0
    · skip
      obtain rfl := no (by simp [rgB]; omega)
      clear e1
      clear no HR
      go_enter Tryd.func23, Tryd.ntmps23
      go_upto_region 1 with (fail)
      rw [← hW0]
      clear hW0
      go_region
      go_wp2
      (try simp only [Exit.inBlock, Exit.then]); refine bodyPost_ret (results_none rfl _ _ _) rfl ?_
      exact ⟨rfl, ⟨pd, mv, G, HA.out⟩, HF.out⟩
    · by_cases e3 : m.cx = s.a.bt
      · have e3b : (m.cx != s.a.bt) = false := by simp [e3]
        by_cases e4 : m.op = 5
        · have e4b : (m.op != 5) = false := by simp [e4]
          have er : r = { s with a := rgA s.a m } := by rw [HR.out]; unfold rgS; rw [if_pos (by simp [rgB, e1, e3, e4]; omega)]
          rw [er]
          have lpd := HA.out.b.lt
          have c6 : W0.cell? ⟨p, 6, none⟩ = some (.int .i64 s.a.ck) := HA.out.b.at_ 6
          have c9 : W0.cell? ⟨p, 9, none⟩ = some (.int .i64 s.a.ep) := HA.out.b.at_ 9
          have z9 : W0.frozen? ⟨p, 9, none⟩ = false := HA0.out.b.fr 9
          have c10 : W0.cell? ⟨p, 10, none⟩ = some (.int .i64 s.a.le) := HA.out.b.at_ 10
          have z10 : W0.frozen? ⟨p, 10, none⟩ = false := HA0.out.b.fr 10
          have c11 : W0.cell? ⟨p, 11, none⟩ = some (.int .i64 s.a.bs) := HA.out.b.at_ 11
          have z11 : W0.frozen? ⟨p, 11, none⟩ = false := HA0.out.b.fr 11
          have c12 : W0.cell? ⟨p, 12, none⟩ = some (.int .i64 s.a.tk) := HA.out.b.at_ 12
          have z12 : W0.frozen? ⟨p, 12, none⟩ = false := HA0.out.b.fr 12
          have c13 : W0.cell? ⟨p, 13, none⟩ = some (.int .i64 s.a.t0) := HA.out.b.at_ 13
          have z13 : W0.frozen? ⟨p, 13, none⟩ = false := HA0.out.b.fr 13
          have c14 : W0.cell? ⟨p, 14, none⟩ = some (.int .i64 s.a.t1) := HA.out.b.at_ 14
          have z14 : W0.frozen? ⟨p, 14, none⟩ = false := HA0.out.b.fr 14
          have c15 : W0.cell? ⟨p, 15, none⟩ = some (.int .i64 s.a.t2) := HA.out.b.at_ 15
          have z15 : W0.frozen? ⟨p, 15, none⟩ = false := HA0.out.b.fr 15
          have c16 : W0.cell? ⟨p, 16, none⟩ = some (.int .i64 s.a.t3) := HA.out.b.at_ 16
          have z16 : W0.frozen? ⟨p, 16, none⟩ = false := HA0.out.b.fr 16
          have c17 : W0.cell? ⟨p, 17, none⟩ = some (.int .i64 s.a.t4) := HA.out.b.at_ 17
          have z17 : W0.frozen? ⟨p, 17, none⟩ = false := HA0.out.b.fr 17
          have c18 : W0.cell? ⟨p, 18, none⟩ = some (.int .i64 s.a.t5) := HA.out.b.at_ 18
          have z18 : W0.frozen? ⟨p, 18, none⟩ = false := HA0.out.b.fr 18
          have c19 : W0.cell? ⟨p, 19, none⟩ = some (.int .i64 s.a.t6) := HA.out.b.at_ 19
          have z19 : W0.frozen? ⟨p, 19, none⟩ = false := HA0.out.b.fr 19
          have c20 : W0.cell? ⟨p, 20, none⟩ = some (.int .i64 s.a.t7) := HA.out.b.at_ 20
          have z20 : W0.frozen? ⟨p, 20, none⟩ = false := HA0.out.b.fr 20
          have k0 := HA0.out
          have f0 := HF0.out
          have k1 := k0.set1 (a' := { s.a with ep := m.vl }) 9 (.int .i64 m.vl) rfl
          have f1 := f0.trans (FrA.setp k0.b k0.hp 9 (.int .i64 m.vl))
          have k2 := k1.set1 (a' := { s.a with ep := m.vl, le := s.a.ck + 8 }) 10 (.int .i64 (s.a.ck + 8)) rfl
          have f2 := f1.trans (FrA.setp k1.b k1.hp 10 (.int .i64 (s.a.ck + 8)))
          have k3 := k2.set1 (a' := { s.a with ep := m.vl, le := s.a.ck + 8, bs := 0 }) 11 (.int .i64 0) rfl
          have f3 := f2.trans (FrA.setp k2.b k2.hp 11 (.int .i64 0))
          have k4 := k3.set1 (a' := { s.a with ep := m.vl, le := s.a.ck + 8, bs := 0, tk := 0 }) 12 (.int .i64 0) rfl
          have f4 := f3.trans (FrA.setp k3.b k3.hp 12 (.int .i64 0))
          have k5 := k4.set1 (a' := { s.a with ep := m.vl, le := s.a.ck + 8, bs := 0, tk := 0, t0 := 0 }) 13 (.int .i64 0) rfl
          have f5 := f4.trans (FrA.setp k4.b k4.hp 13 (.int .i64 0))
          have k6 := k5.set1 (a' := { s.a with ep := m.vl, le := s.a.ck + 8, bs := 0, tk := 0, t0 := 0, t1 := 0 }) 14 (.int .i64 0) rfl
          have f6 := f5.trans (FrA.setp k5.b k5.hp 14 (.int .i64 0))
          have k7 := k6.set1 (a' := { s.a with ep := m.vl, le := s.a.ck + 8, bs := 0, tk := 0, t0 := 0, t1 := 0, t2 := 0 }) 15 (.int .i64 0) rfl
          have f7 := f6.trans (FrA.setp k6.b k6.hp 15 (.int .i64 0))
          have k8 := k7.set1 (a' := { s.a with ep := m.vl, le := s.a.ck + 8, bs := 0, tk := 0, t0 := 0, t1 := 0, t2 := 0, t3 := 0 }) 16 (.int .i64 0) rfl
          have f8 := f7.trans (FrA.setp k7.b k7.hp 16 (.int .i64 0))
          have k9 := k8.set1 (a' := { s.a with ep := m.vl, le := s.a.ck + 8, bs := 0, tk := 0, t0 := 0, t1 := 0, t2 := 0, t3 := 0, t4 := 0 }) 17 (.int .i64 0) rfl
          have f9 := f8.trans (FrA.setp k8.b k8.hp 17 (.int .i64 0))
          have k10 := k9.set1 (a' := { s.a with ep := m.vl, le := s.a.ck + 8, bs := 0, tk := 0, t0 := 0, t1 := 0, t2 := 0, t3 := 0, t4 := 0, t5 := 0 }) 18 (.int .i64 0) rfl
          have f10 := f9.trans (FrA.setp k9.b k9.hp 18 (.int .i64 0))
          have k11 := k10.set1 (a' := { s.a with ep := m.vl, le := s.a.ck + 8, bs := 0, tk := 0, t0 := 0, t1 := 0, t2 := 0, t3 := 0, t4 := 0, t5 := 0, t6 := 0 }) 19 (.int .i64 0) rfl
          have f11 := f10.trans (FrA.setp k10.b k10.hp 19 (.int .i64 0))
          have k12 := k11.set1 (a' := { s.a with ep := m.vl, le := s.a.ck + 8, bs := 0, tk := 0, t0 := 0, t1 := 0, t2 := 0, t3 := 0, t4 := 0, t5 := 0, t6 := 0, t7 := 0 }) 20 (.int .i64 0) rfl
          have f12 := f11.trans (FrA.setp k11.b k11.hp 20 (.int .i64 0))
          have KK := hidOf k12
          have FF := hidOf f12
          have KD := hidOf (KK.out.below (below_dd _))
          have FD := hidOf (FF.out.trans (.of_below (below_dd _)))
          clear k0 f0 k1 f1 k2 f2 k3 f3 k4 f4 k5 f5 k6 f6 k7 f7 k8 f8 k9 f9 k10 f10 k11 f11 k12 f12
          clear no HR er
          go_enter Tryd.func23, Tryd.ntmps23
          go_upto_region 1 with (fail)
          rw [← hW0]
          clear hW0
          go_region
          go_wp2
          go_region
          all_goals
            go_wp2
            go_end0
            exact ⟨rfl, ⟨pd, mv, G, KD.out⟩, FD.out⟩
        · have e4b : (m.op != 5) = true := by simp [e4]
          obtain rfl := no (by simp [rgB]; simp [e4])
          clear e1 e3 e4
          clear no HR
          go_enter Tryd.func23, Tryd.ntmps23
          go_upto_region 1 with (fail)
          rw [← hW0]
          clear hW0
          go_region
          go_wp2
          (try simp only [Exit.inBlock, Exit.then]); refine bodyPost_ret (results_none rfl _ _ _) rfl ?_
          exact ⟨rfl, ⟨pd, mv, G, HA.out⟩, HF.out⟩
      · have e3b : (m.cx != s.a.bt) = true := by simp [e3]
        obtain rfl := no (by simp [rgB]; simp [e3])
        clear e1 e3
        clear no HR
        go_enter Tryd.func23, Tryd.ntmps23
        go_upto_region 1 with (fail)
        rw [← hW0]
        clear hW0
        go_region
        go_wp2
        (try simp only [Exit.inBlock, Exit.then]); refine bodyPost_ret (results_none rfl _ _ _) rfl ?_
        exact ⟨rfl, ⟨pd, mv, G, HA.out⟩, HF.out⟩
  · have e1b : (m.cd != 0) = true := by simp [e1]
    obtain rfl := no (by simp [rgB]; simp [e1])
    clear e1
    clear no HR
    go_enter Tryd.func23, Tryd.ntmps23
    go_upto_region 1 with (fail)
    rw [← hW0]
    clear hW0
    go_region
    go_wp2
    (try simp only [Exit.inBlock, Exit.then]); refine bodyPost_ret (results_none rfl _ _ _) rfl ?_
    exact ⟨rfl, ⟨pd, mv, G, HA.out⟩, HF.out⟩
end Go.Proofs.YtkienmncifonnaaDoor
