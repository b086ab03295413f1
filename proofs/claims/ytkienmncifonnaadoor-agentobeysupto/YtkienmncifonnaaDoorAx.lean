/- beats: send, take. -/
import Derived.Test.YtkienmncifonnaaDoorAw
namespace Go.Proofs.YtkienmncifonnaaDoor
open Go.RowKit Go.Maps Go.Lib
variable {D : Nat} {w w' : World} {p : Nat} {s : Sg} {n c pd : Nat} {mv : Value} {G : Nat → Prop}

def tkU (a : Ag) (i v : Int) : Ag :=
  if i = 0 then { a with t0 := v } else if i = 1 then { a with t1 := v } else if i = 2 then { a with t2 := v } else if i = 3 then { a with t3 := v }
  else if i = 4 then { a with t4 := v } else if i = 5 then { a with t5 := v } else if i = 6 then { a with t6 := v } else { a with t7 := v }
def tkG (a : Ag) (i : Int) : Int :=
  if i = 0 then a.t0 else if i = 1 then a.t1 else if i = 2 then a.t2 else if i = 3 then a.t3
  else if i = 4 then a.t4 else if i = 5 then a.t5 else if i = 6 then a.t6 else a.t7
def sdA (a : Ag) (v : Int) : Ag := tkU { a with bs := a.bs + 1 } ((a.bs + 1) % 8) v
set_option maxHeartbeats 4000000 in
set_option maxRecDepth 100000 in
theorem send_any (h : AgS D w p s n c) (v : Int) (h1 : 0 ≤ s.a.bs ∧ s.a.bs ≤ 1099511627776) :
    Calls Tryd.prog 32 #[.pointer (some ⟨p, 11, none⟩), .int .i64 v] w fun e w' => e = .returned (.int .i64 (s.a.bs + 1)) ∧ AgS D w' p { s with a := sdA s.a v } n c ∧ FrA D w w' := by
  obtain ⟨pd, mv, G, h⟩ := h
  have lp := h.b.lt
  have c11 : w.cell? ⟨p, 11, none⟩ = some (.int .i64 s.a.bs) := h.b.at_ 11
  have f11 := h.b.fr 11
  have k1 := h.set1 (a' := { s.a with bs := s.a.bs + 1 }) 11 (.int .i64 (s.a.bs + 1)) rfl
  have q : AgR D (w.setCell ⟨p, 11, none⟩ (.int .i64 (s.a.bs + 1))).drew p { s with a := { s.a with bs := s.a.bs + 1 } } n c pd mv G := k1.below ⟨rfl, rfl, rfl, Nat.le_refl _, fun _ _ => rfl⟩
  have hf0 := (FrA.setp (D := D) h.b h.hp 11 (.int .i64 (s.a.bs + 1))).trans (FrA.of_below (w' := (w.setCell ⟨p, 11, none⟩ (.int .i64 (s.a.bs + 1))).drew) ⟨rfl, rfl, rfl, Nat.le_refl _, fun _ _ => rfl⟩)
  obtain ⟨hb0, hb1⟩ := h1
  have hcase : (s.a.bs + 1) % 8 = 0 ∨ (s.a.bs + 1) % 8 = 1 ∨ (s.a.bs + 1) % 8 = 2 ∨ (s.a.bs + 1) % 8 = 3 ∨ (s.a.bs + 1) % 8 = 4 ∨ (s.a.bs + 1) % 8 = 5 ∨ (s.a.bs + 1) % 8 = 6 ∨ (s.a.bs + 1) % 8 = 7 := by omega
  have Q := hidOf q
  have HF := hidOf hf0
  have c13 : w.cell? ⟨p, 13, none⟩ = some (.int .i64 s.a.t0) := h.b.at_ 13
  have c14 : w.cell? ⟨p, 14, none⟩ = some (.int .i64 s.a.t1) := h.b.at_ 14
  have c15 : w.cell? ⟨p, 15, none⟩ = some (.int .i64 s.a.t2) := h.b.at_ 15
  have c16 : w.cell? ⟨p, 16, none⟩ = some (.int .i64 s.a.t3) := h.b.at_ 16
  have c17 : w.cell? ⟨p, 17, none⟩ = some (.int .i64 s.a.t4) := h.b.at_ 17
  have c18 : w.cell? ⟨p, 18, none⟩ = some (.int .i64 s.a.t5) := h.b.at_ 18
  have c19 : w.cell? ⟨p, 19, none⟩ = some (.int .i64 s.a.t6) := h.b.at_ 19
  have c20 : w.cell? ⟨p, 20, none⟩ = some (.int .i64 s.a.t7) := h.b.at_ 20
  have f13 := h.b.fr 13
  have f14 := h.b.fr 14
  have f15 := h.b.fr 15
  have f16 := h.b.fr 16
  have f17 := h.b.fr 17
  have f18 := h.b.fr 18
  have f19 := h.b.fr 19
  have f20 := h.b.fr 20
  have HS : Hid (∀ (j : Nat) (a' : Ag), (agC { s.a with bs := s.a.bs + 1 } pd mv).setIfInBounds j (.int .i64 v) = agC a' pd mv → sdA s.a v = a' → AgS D ((w.setCell ⟨p, 11, none⟩ (.int .i64 (s.a.bs + 1))).drew.setCell ⟨p, j, none⟩ (.int .i64 v)) p { s with a := sdA s.a v } n c ∧ FrA D w ((w.setCell ⟨p, 11, none⟩ (.int .i64 (s.a.bs + 1))).drew.setCell ⟨p, j, none⟩ (.int .i64 v))) := hidOf (fun j a' e1 e2 => by
    rw [e2]
    exact ⟨⟨pd, mv, G, Q.out.set1 j (.int .i64 v) e1⟩, HF.out.trans (.setp Q.out.b Q.out.hp j _)⟩)
  clear h k1 q hf0
  rcases hcase with e | e | e | e | e | e | e | e
  all_goals
    go_enter Tryd.func32, Tryd.ntmps32
    go_wp2
    go_region
    go_wp2
    go_ret
    exact ⟨rfl, HS.out _ _ rfl (by unfold sdA; rw [e]; first | done | rfl)⟩
def tkB (a : Ag) (b : Int) : Bool := decide (b ≤ a.bs) && decide (a.bs - 8 < b) && decide (a.tk < b)
def tkA (a : Ag) (b : Int) : Ag := if tkB a b then { a with tk := b } else a
def tkV (a : Ag) (b : Int) : Int := if tkB a b then tkG a (b % 8) else 0
set_option maxHeartbeats 4000000 in
set_option maxRecDepth 100000 in
theorem take_any (h : AgS D w p s n c) (b : Int) (h1 : 0 ≤ s.a.bs ∧ s.a.bs ≤ 1099511627776) (h2 : 0 ≤ s.a.tk) :
    Calls Tryd.prog 36 #[.pointer (some ⟨p, 11, none⟩), .int .i64 b] w fun e w' => e = .returned (.tuple #[.int .i64 (tkV s.a b), .bool (tkB s.a b)]) ∧ AgS D w' p { s with a := tkA s.a b } n c ∧ FrA D w w' := by
  have H0 := hidOf h
  obtain ⟨pd, mv, G, h⟩ := h
  have lp := h.b.lt
  have c11 : w.cell? ⟨p, 11, none⟩ = some (.int .i64 s.a.bs) := h.b.at_ 11
  have c12 : w.cell? ⟨p, 12, none⟩ = some (.int .i64 s.a.tk) := h.b.at_ 12
  have f12 := h.b.fr 12
  have c13 : w.cell? ⟨p, 13, none⟩ = some (.int .i64 s.a.t0) := h.b.at_ 13
  have c14 : w.cell? ⟨p, 14, none⟩ = some (.int .i64 s.a.t1) := h.b.at_ 14
  have c15 : w.cell? ⟨p, 15, none⟩ = some (.int .i64 s.a.t2) := h.b.at_ 15
  have c16 : w.cell? ⟨p, 16, none⟩ = some (.int .i64 s.a.t3) := h.b.at_ 16
  have c17 : w.cell? ⟨p, 17, none⟩ = some (.int .i64 s.a.t4) := h.b.at_ 17
  have c18 : w.cell? ⟨p, 18, none⟩ = some (.int .i64 s.a.t5) := h.b.at_ 18
  have c19 : w.cell? ⟨p, 19, none⟩ = some (.int .i64 s.a.t6) := h.b.at_ 19
  have c20 : w.cell? ⟨p, 20, none⟩ = some (.int .i64 s.a.t7) := h.b.at_ 20
  obtain ⟨hb0, hb1⟩ := h1
  have HK := hidOf (h.set1 (a' := { s.a with tk := b }) 12 (.int .i64 b) rfl)
  have HF := hidOf (FrA.setp (D := D) h.b h.hp 12 (.int .i64 b))
  obtain ⟨x, hx⟩ : ∃ x, x = tkB s.a b := ⟨_, rfl⟩
  obtain ⟨y, hy⟩ : ∃ y, y = tkV s.a b := ⟨_, rfl⟩
  obtain ⟨z, hz⟩ : ∃ z, z = tkA s.a b := ⟨_, rfl⟩
  have HX := hidOf hx
  have HY := hidOf hy
  have HZ := hidOf hz
  rw [← hx, ← hy, ← hz]
  clear hx hy hz h
  have no : tkB s.a b = false → x = false ∧ y = 0 ∧ z = s.a := fun e => by
    rw [HX.out, HY.out, HZ.out]; unfold tkV tkA; rw [e]; exact ⟨rfl, rfl, rfl⟩
  by_cases e1 : s.a.bs < b
  · obtain ⟨rfl, rfl, rfl⟩ := no (by simp [tkB]; omega)
    clear no HX HY HZ HK HF
    go_enter Tryd.func36, Tryd.ntmps36
    go_wp2
    go_ret2
    exact ⟨rfl, H0.out, .refl _⟩
  · by_cases e2 : b ≤ s.a.bs - 8
    · obtain ⟨rfl, rfl, rfl⟩ := no (by simp [tkB]; omega)
      clear no HX HY HZ HK HF
      go_enter Tryd.func36, Tryd.ntmps36
      go_wp2
      go_ret2
      exact ⟨rfl, H0.out, .refl _⟩
    · by_cases e3 : b ≤ s.a.tk
      · obtain ⟨rfl, rfl, rfl⟩ := no (by simp [tkB]; omega)
        clear no HX HY HZ HK HF
        go_enter Tryd.func36, Tryd.ntmps36
        go_wp2
        go_ret2
        exact ⟨rfl, H0.out, .refl _⟩
      · have yes : tkB s.a b = true := by simp [tkB]; omega
        have ex : x = true := HX.out.trans yes
        have ez : z = { s.a with tk := b } := by rw [HZ.out]; unfold tkA; rw [yes]; rfl
        have HV : Hid (∀ v, tkG s.a (b % 8) = v → y = v) := hidOf (fun v e => by rw [HY.out]; unfold tkV; rw [yes]; exact e)
        subst ex ez
        have hcase : b % 8 = 0 ∨ b % 8 = 1 ∨ b % 8 = 2 ∨ b % 8 = 3 ∨ b % 8 = 4 ∨ b % 8 = 5 ∨ b % 8 = 6 ∨ b % 8 = 7 := by omega
        clear yes HX HY HZ no
        rcases hcase with e | e | e | e | e | e | e | e
        all_goals
          have ey := HV.out _ (by rw [e]; first | done | rfl)
          subst ey
          go_enter Tryd.func36, Tryd.ntmps36
          go_wp2
          go_ret2
          exact ⟨rfl, ⟨pd, mv, G, HK.out⟩, HF.out⟩
end Go.Proofs.YtkienmncifonnaaDoor
