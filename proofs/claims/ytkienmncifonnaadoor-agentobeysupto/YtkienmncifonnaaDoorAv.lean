/- begin, giveUp, keepUp. -/
import Derived.Test.YtkienmncifonnaaDoorAs
namespace Go.Proofs.YtkienmncifonnaaDoor
open Go.RowKit Go.Maps Go.Lib
variable {D : Nat} {w w' : World} {p : Nat} {s : Sg} {n c pd : Nat} {mv : Value} {G : Nat → Prop}

def begE (s : Sg) : Int := if s.f = 1099511627776 then 2 else if s.lf = 0 then 11 else if lessOne s.lf = 0 then 11 else 0
def begS (s : Sg) : Sg :=
  if s.f = 1099511627776 then s else if s.lf = 0 then s else if lessOne s.lf = 0 then { s with f := s.f + 1, L := s.L ++ [s.f + 1], lf := lessOne s.lf }
  else { s with a := { s.a with bt := s.f + 1 }, f := s.f + 1, d := s.f + 1, L := [], lf := lessOne (lessOne s.lf) }
theorem bytes_bs (w : World) (f : Nat) (hf : f ≤ 2199023255552) : Bs (bytesWorld w 5 (decS f)) (some ⟨w.heap.size, 0, none⟩) (decDigits f) := by
  have hl := dec_len f hf
  refine ⟨by omega, fun _ => ⟨w.heap.size, 0, rfl, by rw [bytesWorld_size]; omega, fun j hj => ?_⟩⟩
  have := bytesWorld_cell w 5 (decS f) j (by simpa [decS, ByteArray.size] using hj)
  rw [show (0 + j) = j by omega, this]
  simp [decS, bat, bn]
set_option maxHeartbeats 2000000 in
set_option maxRecDepth 100000 in
theorem begin_any (h : AgS D w p s n c) (ht : Tb D w) (hf : s.f ≤ 1099511627776) (hc : c + 1 ≤ 2199023255552) :
    Calls Tryd.prog 18 #[.pointer (some ⟨p, 0, none⟩)] w fun e w' => e = .returned (.int .i64 (begE s)) ∧ AgS D w' p (begS s) n (c + 1) ∧ FrA D w w' := by
  obtain ⟨pd, mv, G, h⟩ := h
  have hD : D ≤ w.heap.size := Nat.le_trans h.hp (Nat.le_of_lt h.b.lt)
  have c4 : w.cell? ⟨p, 4, none⟩ = some (.pointer (some ⟨pd, 0, none⟩)) := h.b.at_ 4
  have lp := h.b.lt
  have HL := hidOf (lastBoot_any D pd s.f s.d c s.L s.lf G w h.k hf ht hD)
  have HT := hidOf ht
  have H := hidOf h
  have HDD := hidOf hD
  clear ht h hD
  by_cases h0 : s.f = 1099511627776
  · have e0 : begE s = 2 := by unfold begE; rw [if_pos h0]
    have e1 : begS s = s := by unfold begS; rw [if_pos h0]
    rw [e0, e1]
    have hz : ((s.f : Int) == 1099511627776) = true := by simp [h0]
    clear h0 e0 e1
    go_enter Tryd.func18, Tryd.ntmps18
    go_wp2_with (go_at_call 17; refine HL.out.mono ?_; rintro e w1 ⟨rfl, hb⟩; have HB := hidOf hb; have c4 : w1.cell? ⟨p, 4, none⟩ = some (.pointer (some ⟨pd, 0, none⟩)) := (H.out.below hb).b.at_ 4; clear hb)
    go_ret
    exact ⟨rfl, ⟨pd, mv, G, (H.out.below HB.out).more (Nat.le_succ c) (by omega)⟩, .of_below HB.out⟩
  · have hz : ((s.f : Int) == 1099511627776) = false := by simp; omega
    have hk : s.f + 1 ≤ 2199023255552 := by omega
    have hlen : Hid ((decS (s.f + 1)).size = (decDigits (s.f + 1)).length) := hidOf (by simp [decS, ByteArray.size])
    have HI := hidOf (itoa_any (s.f + 1) hk D)
    have kc : ∀ (W : World) (x : ByteArray), (convert 9 38 (.string x)).run Tryd.prog W = .ok (.slice (some ⟨W.heap.size, 0, none⟩) x.size (grownCap W x.size 0 5)) (bytesWorld W 5 x) := fun W x => Lib.run_convert_string_bytes W 9 38 5 x Tryd.underlying9 Tryd.underlying38 Tryd.underlying5
    have hnum : ((s.f : Int) + 1) = ((s.f + 1 : Nat) : Int) := by omega
    obtain ⟨K, hK⟩ : ∃ K : Nat, K = s.f + 1 := ⟨_, rfl⟩
    rw [← hK] at hnum hlen HI hk
    have HK := hidOf hK
    obtain ⟨S, hS⟩ : ∃ S : ByteArray, S = decS K := ⟨_, rfl⟩
    rw [← hS] at hlen HI
    have HS := hidOf hS
    rw [← hnum] at HI
    have HN := hidOf hnum
    clear hnum
    have hwr : IntKind.i64.wrap ((s.f : Int) + 1) = (s.f : Int) + 1 := IntWalk.i64_in _ (by omega)
    have KK : Hid (∀ W W', AgR D W p s n c pd mv G → Below W.heap.size W W' → W'.cell? ⟨p, 4, none⟩ = some (.pointer (some ⟨pd, 0, none⟩))) := hidOf (fun W W' hW hb => (hW.below hb).b.at_ 4)
    clear hK hS
    by_cases h1 : s.lf = 0
    · have e0 : begE s = 11 := by unfold begE; rw [if_neg h0, if_pos h1]
      have e1 : begS s = s := by unfold begS; rw [if_neg h0, if_pos h1]
      rw [e0, e1]
      have HP : Hid (∀ W a m cap, AgR D W p s n c pd mv G → Calls Tryd.prog 29 #[.pointer (some ⟨pd, 0, none⟩), .string bootB, .slice a m cap] W fun e w' => e = .returned (.int .i64 11) ∧ Below W.heap.size W w') := hidOf (fun W a m cap hW => putB_cut pd s.f s.d c m cap s.L a G W (by rw [← h1]; exact hW.k))
      clear h0 h1 e0 e1
      go_enter Tryd.func18, Tryd.ntmps18
      go_wp2_with (go_at_call 17; refine HL.out.mono ?_; rintro e w1 ⟨rfl, hb⟩; have HB := hidOf hb; have c4 : w1.cell? ⟨p, 4, none⟩ = some (.pointer (some ⟨pd, 0, none⟩)) := (H.out.below hb).b.at_ 4; have HBd := hidOf hb.drew; have HT1 := hidOf (HT.out.below (HBd.out.mono HDD.out)); clear hb)
      refine wp_region_held_drew (S := fun w' : World => w'.cell? ⟨p, 4, none⟩ = some (.pointer (some ⟨pd, 0, none⟩))) (by kernel_rfl) c4 (fun hHeld => ?_)
      refine wpAnyH_take (i := 0) (oi := { dst := some 20, op := Op.move (Operand.tmp 0), type := 23, pos := "boot.go:36", after := #[], guard := none }) (v := .pointer (some ⟨p, 0, none⟩)) rfl (by kernel_rfl) (by kernel_rfl) (by kernel_rfl) (fun _ _ _ h => h) (Or.inl ⟨by rfl, ?_⟩) hHeld ?_
      · (intro w hSw; (try dsimp only at hSw); go_simp)
      try simp only [Act.put, List.setIfInBounds_toArray, List.set_cons_zero, List.set_cons_succ]
      refine wpAnyH_take (i := 1) (oi := { dst := some 21, op := Op.nilCheck (Operand.tmp 20), type := 0, pos := "boot.go:36", after := #[{ on := 0, ground := Ground.data }], guard := none }) (v := .pointer (some ⟨p, 0, none⟩)) rfl (by kernel_rfl) (by kernel_rfl) (by kernel_rfl) (fun _ _ _ h => h) (Or.inl ⟨by rfl, ?_⟩) hHeld ?_
      · (intro w hSw; (try dsimp only at hSw); go_simp)
      try simp only [Act.put, List.setIfInBounds_toArray, List.set_cons_zero, List.set_cons_succ]
      refine wpAnyH_take (i := 2) (oi := { dst := some 22, op := Op.fieldAddr 77 (Operand.tmp 21) 3, type := 0, pos := "boot.go:36", after := #[{ on := 1, ground := Ground.data }], guard := none }) (v := .pointer (some ⟨p, 4, none⟩)) rfl (by kernel_rfl) (by kernel_rfl) (by kernel_rfl) (fun _ _ _ h => h) (Or.inl ⟨by rfl, ?_⟩) hHeld ?_
      · (intro w hSw; (try dsimp only at hSw); go_simp)
      try simp only [Act.put, List.setIfInBounds_toArray, List.set_cons_zero, List.set_cons_succ]
      refine wpAnyH_take (i := 3) (oi := { dst := some 23, op := Op.load 31 (Operand.tmp 22), type := 31, pos := "boot.go:36", after := #[{ on := 2, ground := Ground.data }], guard := none }) (v := .pointer (some ⟨pd, 0, none⟩)) rfl (by kernel_rfl) (by kernel_rfl) (by kernel_rfl) (fun _ _ _ h => h) (Or.inl ⟨by rfl, ?_⟩) hHeld ?_
      · (intro w hSw; (try dsimp only at hSw); go_simp)
      try simp only [Act.put, List.setIfInBounds_toArray, List.set_cons_zero, List.set_cons_succ]
      refine wpAnyH_take (i := 4) (oi := { dst := some 24, op := Op.move (Operand.tmp 3), type := 3, pos := "boot.go:36", after := #[], guard := none }) (v := .int .i64 (s.f : Int)) rfl (by kernel_rfl) (by kernel_rfl) (by kernel_rfl) (fun _ _ _ h => h) (Or.inl ⟨by rfl, ?_⟩) hHeld ?_
      · (intro w hSw; (try dsimp only at hSw); go_simp)
      try simp only [Act.put, List.setIfInBounds_toArray, List.set_cons_zero, List.set_cons_succ]
      refine wpAnyH_take (i := 5) (oi := { dst := some 25, op := Op.binOp BinOp.add 3 (Operand.tmp 24) (Operand.const (Value.int IntKind.i64 1)) 3, type := 3, pos := "boot.go:36", after := #[{ on := 4, ground := Ground.data }], guard := none }) (v := .int .i64 ((s.f : Int) + 1)) rfl (by kernel_rfl) (by kernel_rfl) (by kernel_rfl) (fun _ _ _ h => h) (Or.inl ⟨by rfl, ?_⟩) hHeld ?_
      · (intro w hSw; (try dsimp only at hSw); go_simp)
      try simp only [Act.put, List.setIfInBounds_toArray, List.set_cons_zero, List.set_cons_succ]
      refine wpAnyH_ready (rs := [6]) (by kernel_rfl) (by simp) ?_
      refine AllReadyH.cons (o := { dst := some 26, op := Op.call { callee := Callee.value (Operand.func 28), args := #[Operand.tmp 25], argTypes := #[3] }, type := 9, pos := "boot.go:36", after := #[{ on := 5, ground := Ground.data }], guard := none }) rfl (fun K hK => ?_) AllReadyH.nil
      go_simp
      refine (HI.out _ HT1.out (Nat.le_trans HDD.out HBd.out.size)).mono ?_
      rintro e w2 ⟨rfl, _, hb⟩
      have HB2 := hidOf (HBd.out.trans (hb.mono HBd.out.size))
      have d4 : w2.cell? ⟨p, 4, none⟩ = some (.pointer (some ⟨pd, 0, none⟩)) := KK.out _ _ H.out HB2.out
      have HB3 := hidOf (HB2.out.trans (below_bytes HB2.out.size 5 S))
      have d5 : (bytesWorld w2 5 S).cell? ⟨p, 4, none⟩ = some (.pointer (some ⟨pd, 0, none⟩)) := KK.out _ _ H.out HB3.out
      clear hb
      refine hK.out _ _ d4 (fun hHeld1 => ?_)
      clear hK K
      try simp only [Act.put, List.setIfInBounds_toArray, List.set_cons_zero, List.set_cons_succ]
      refine wpAnyH_ready (rs := [7]) (by kernel_rfl) (by simp) ?_
      refine AllReadyH.cons (o := { dst := some 27, op := Op.convert 9 38 (Operand.tmp 26), type := 38, pos := "boot.go:36", after := #[{ on := 6, ground := Ground.data }], guard := none }) rfl (fun K hK => ?_) AllReadyH.nil
      go_simp
      refine hK.out _ _ d5 (fun hHeld2 => ?_)
      clear hK K
      try simp only [Act.put, List.setIfInBounds_toArray, List.set_cons_zero, List.set_cons_succ]
      refine wpAnyH_ready (rs := [8]) (by kernel_rfl) (by simp) ?_
      refine AllReadyH.cons (o := { dst := some 28, op := Op.call { callee := Callee.value (Operand.func 29), args := #[Operand.tmp 23, Operand.const (Value.string { data := #[98, 111, 111, 116] }), Operand.tmp 27], argTypes := #[31, 9, 38] }, type := 24, pos := "boot.go:36", after := #[{ on := 3, ground := Ground.data }, { on := 7, ground := Ground.data }, { on := 6, ground := Ground.chain }], guard := none }) rfl (fun K hK => ?_) AllReadyH.nil
      go_simp
      refine (HP.out _ _ _ _ (H.out.below HB3.out)).mono ?_
      rintro e w4 ⟨rfl, hb⟩
      have HB4 := hidOf (HB3.out.trans (hb.mono HB3.out.size))
      have d6 : w4.cell? ⟨p, 4, none⟩ = some (.pointer (some ⟨pd, 0, none⟩)) := KK.out _ _ H.out HB4.out
      clear hb
      refine hK.out _ _ d6 (fun hHeld3 => ?_)
      clear hK K
      try simp only [Act.put, List.setIfInBounds_toArray, List.set_cons_zero, List.set_cons_succ]
      refine wpAnyH_take (i := 9) (oi := { dst := some 5, op := Op.assign (Operand.tmp 28), type := 24, pos := "boot.go:36", after := #[{ on := 8, ground := Ground.data }, { on := 8, ground := Ground.chain }, { on := 0, ground := Ground.phase }, { on := 1, ground := Ground.phase }, { on := 2, ground := Ground.phase }, { on := 3, ground := Ground.phase }, { on := 4, ground := Ground.phase }, { on := 5, ground := Ground.phase }, { on := 6, ground := Ground.phase }, { on := 7, ground := Ground.phase }, { on := 8, ground := Ground.phase }], guard := none }) (v := .int .i64 11) rfl (by kernel_rfl) (by kernel_rfl) (by kernel_rfl) (fun _ _ _ h => h) (Or.inl ⟨by rfl, ?_⟩) hHeld3 ?_
      · (intro w hSw; (try dsimp only at hSw); go_simp)
      try simp only [Act.put, List.setIfInBounds_toArray, List.set_cons_zero, List.set_cons_succ]
      refine wpAnyH_done (by kernel_rfl) ?_ _
      go_wp2
      go_ret
      exact ⟨rfl, ⟨pd, mv, G, (H.out.below HB4.out).more (Nat.le_succ c) (by omega)⟩, .of_below HB4.out⟩
    · have HP : Hid (∀ W a cap, AgR D W p s n c pd mv G → Bs W a (decDigits K) → Calls Tryd.prog 29 #[.pointer (some ⟨pd, 0, none⟩), .string bootB, .slice a (decDigits K).length cap] W fun e w' => e = .returned (.int .i64 0) ∧ ∃ G', AgR D w' p { s with f := K, L := s.L ++ [K], lf := lessOne s.lf } n (c + 1) pd mv G' ∧ FrA D W w') := hidOf (fun W a cap hW hB => by
        refine (putB_ok pd s.f s.d c cap K s.L s.lf a G W hW.k h1 (by rw [HK.out]; omega) hk hB (by omega)).mono ?_
        rintro e w' ⟨rfl, G', g1, g2⟩
        exact ⟨rfl, G', hW.disk g1 g2⟩)
      by_cases h2 : lessOne s.lf = 0
      · have e0 : begE s = 11 := by unfold begE; rw [if_neg h0, if_neg h1, if_pos h2]
        have e1 : begS s = { s with f := K, L := s.L ++ [K], lf := lessOne s.lf } := by unfold begS; rw [if_neg h0, if_neg h1, if_pos h2, HK.out]
        rw [e0, e1]
        have HY : Hid (∀ W G', AgR D W p { s with f := K, L := s.L ++ [K], lf := lessOne s.lf } n (c + 1) pd mv G' → Calls Tryd.prog 30 #[.pointer (some ⟨pd, 0, none⟩)] W fun e w' => e = .returned (.int .i64 11) ∧ w' = W) := hidOf (fun W G' hW => syncB_cut pd K s.d (c + 1) (s.L ++ [K]) G' W (by have := hW.k; rw [show ({ s with f := K, L := s.L ++ [K], lf := lessOne s.lf } : Sg).lf = 0 from h2] at this; exact this))
        clear h0 h1 h2 e0 e1
        go_enter Tryd.func18, Tryd.ntmps18
        go_wp2_with (go_at_call 17; refine HL.out.mono ?_; rintro e w1 ⟨rfl, hb⟩; have HB := hidOf hb; have c4 : w1.cell? ⟨p, 4, none⟩ = some (.pointer (some ⟨pd, 0, none⟩)) := (H.out.below hb).b.at_ 4; have HBd := hidOf hb.drew; have HT1 := hidOf (HT.out.below (HBd.out.mono HDD.out)); clear hb)
        refine wp_region_held_drew (S := fun w' : World => w'.cell? ⟨p, 4, none⟩ = some (.pointer (some ⟨pd, 0, none⟩))) (by kernel_rfl) c4 (fun hHeld => ?_)
        refine wpAnyH_take (i := 0) (oi := { dst := some 20, op := Op.move (Operand.tmp 0), type := 23, pos := "boot.go:36", after := #[], guard := none }) (v := .pointer (some ⟨p, 0, none⟩)) rfl (by kernel_rfl) (by kernel_rfl) (by kernel_rfl) (fun _ _ _ h => h) (Or.inl ⟨by rfl, ?_⟩) hHeld ?_
        · (intro w hSw; (try dsimp only at hSw); go_simp)
        try simp only [Act.put, List.setIfInBounds_toArray, List.set_cons_zero, List.set_cons_succ]
        refine wpAnyH_take (i := 1) (oi := { dst := some 21, op := Op.nilCheck (Operand.tmp 20), type := 0, pos := "boot.go:36", after := #[{ on := 0, ground := Ground.data }], guard := none }) (v := .pointer (some ⟨p, 0, none⟩)) rfl (by kernel_rfl) (by kernel_rfl) (by kernel_rfl) (fun _ _ _ h => h) (Or.inl ⟨by rfl, ?_⟩) hHeld ?_
        · (intro w hSw; (try dsimp only at hSw); go_simp)
        try simp only [Act.put, List.setIfInBounds_toArray, List.set_cons_zero, List.set_cons_succ]
        refine wpAnyH_take (i := 2) (oi := { dst := some 22, op := Op.fieldAddr 77 (Operand.tmp 21) 3, type := 0, pos := "boot.go:36", after := #[{ on := 1, ground := Ground.data }], guard := none }) (v := .pointer (some ⟨p, 4, none⟩)) rfl (by kernel_rfl) (by kernel_rfl) (by kernel_rfl) (fun _ _ _ h => h) (Or.inl ⟨by rfl, ?_⟩) hHeld ?_
        · (intro w hSw; (try dsimp only at hSw); go_simp)
        try simp only [Act.put, List.setIfInBounds_toArray, List.set_cons_zero, List.set_cons_succ]
        refine wpAnyH_take (i := 3) (oi := { dst := some 23, op := Op.load 31 (Operand.tmp 22), type := 31, pos := "boot.go:36", after := #[{ on := 2, ground := Ground.data }], guard := none }) (v := .pointer (some ⟨pd, 0, none⟩)) rfl (by kernel_rfl) (by kernel_rfl) (by kernel_rfl) (fun _ _ _ h => h) (Or.inl ⟨by rfl, ?_⟩) hHeld ?_
        · (intro w hSw; (try dsimp only at hSw); go_simp)
        try simp only [Act.put, List.setIfInBounds_toArray, List.set_cons_zero, List.set_cons_succ]
        refine wpAnyH_take (i := 4) (oi := { dst := some 24, op := Op.move (Operand.tmp 3), type := 3, pos := "boot.go:36", after := #[], guard := none }) (v := .int .i64 (s.f : Int)) rfl (by kernel_rfl) (by kernel_rfl) (by kernel_rfl) (fun _ _ _ h => h) (Or.inl ⟨by rfl, ?_⟩) hHeld ?_
        · (intro w hSw; (try dsimp only at hSw); go_simp)
        try simp only [Act.put, List.setIfInBounds_toArray, List.set_cons_zero, List.set_cons_succ]
        refine wpAnyH_take (i := 5) (oi := { dst := some 25, op := Op.binOp BinOp.add 3 (Operand.tmp 24) (Operand.const (Value.int IntKind.i64 1)) 3, type := 3, pos := "boot.go:36", after := #[{ on := 4, ground := Ground.data }], guard := none }) (v := .int .i64 ((s.f : Int) + 1)) rfl (by kernel_rfl) (by kernel_rfl) (by kernel_rfl) (fun _ _ _ h => h) (Or.inl ⟨by rfl, ?_⟩) hHeld ?_
        · (intro w hSw; (try dsimp only at hSw); go_simp)
        try simp only [Act.put, List.setIfInBounds_toArray, List.set_cons_zero, List.set_cons_succ]
        refine wpAnyH_ready (rs := [6]) (by kernel_rfl) (by simp) ?_
        refine AllReadyH.cons (o := { dst := some 26, op := Op.call { callee := Callee.value (Operand.func 28), args := #[Operand.tmp 25], argTypes := #[3] }, type := 9, pos := "boot.go:36", after := #[{ on := 5, ground := Ground.data }], guard := none }) rfl (fun K hK => ?_) AllReadyH.nil
        go_simp
        refine (HI.out _ HT1.out (Nat.le_trans HDD.out HBd.out.size)).mono ?_
        rintro e w2 ⟨rfl, _, hb⟩
        have HB2 := hidOf (HBd.out.trans (hb.mono HBd.out.size))
        have d4 : w2.cell? ⟨p, 4, none⟩ = some (.pointer (some ⟨pd, 0, none⟩)) := KK.out _ _ H.out HB2.out
        have HB3 := hidOf (HB2.out.trans (below_bytes HB2.out.size 5 S))
        have d5 : (bytesWorld w2 5 S).cell? ⟨p, 4, none⟩ = some (.pointer (some ⟨pd, 0, none⟩)) := KK.out _ _ H.out HB3.out
        clear hb
        refine hK.out _ _ d4 (fun hHeld1 => ?_)
        clear hK K
        try simp only [Act.put, List.setIfInBounds_toArray, List.set_cons_zero, List.set_cons_succ]
        refine wpAnyH_ready (rs := [7]) (by kernel_rfl) (by simp) ?_
        refine AllReadyH.cons (o := { dst := some 27, op := Op.convert 9 38 (Operand.tmp 26), type := 38, pos := "boot.go:36", after := #[{ on := 6, ground := Ground.data }], guard := none }) rfl (fun K hK => ?_) AllReadyH.nil
        go_simp
        refine hK.out _ _ d5 (fun hHeld2 => ?_)
        clear hK K
        try simp only [Act.put, List.setIfInBounds_toArray, List.set_cons_zero, List.set_cons_succ]
        refine wpAnyH_ready (rs := [8]) (by kernel_rfl) (by simp) ?_
        refine AllReadyH.cons (o := { dst := some 28, op := Op.call { callee := Callee.value (Operand.func 29), args := #[Operand.tmp 23, Operand.const (Value.string { data := #[98, 111, 111, 116] }), Operand.tmp 27], argTypes := #[31, 9, 38] }, type := 24, pos := "boot.go:36", after := #[{ on := 3, ground := Ground.data }, { on := 7, ground := Ground.data }, { on := 6, ground := Ground.chain }], guard := none }) rfl (fun K hK => ?_) AllReadyH.nil
        go_simp
        rw [hlen.out]
        refine (HP.out _ _ _ (H.out.below HB3.out) (by rw [HS.out]; exact bytes_bs _ _ hk)).mono ?_
        rintro e w4 ⟨rfl, G', hag, hfr⟩
        have d6 : w4.cell? ⟨p, 4, none⟩ = some (.pointer (some ⟨pd, 0, none⟩)) := hag.b.at_ 4
        have HA := hidOf hag
        have HF := hidOf ((FrA.of_below HB3.out).trans hfr)
        clear hag hfr
        refine hK.out _ _ d6 (fun hHeld3 => ?_)
        clear hK K
        try simp only [Act.put, List.setIfInBounds_toArray, List.set_cons_zero, List.set_cons_succ]
        refine wpAnyH_take (i := 9) (oi := { dst := some 5, op := Op.assign (Operand.tmp 28), type := 24, pos := "boot.go:36", after := #[{ on := 8, ground := Ground.data }, { on := 8, ground := Ground.chain }, { on := 0, ground := Ground.phase }, { on := 1, ground := Ground.phase }, { on := 2, ground := Ground.phase }, { on := 3, ground := Ground.phase }, { on := 4, ground := Ground.phase }, { on := 5, ground := Ground.phase }, { on := 6, ground := Ground.phase }, { on := 7, ground := Ground.phase }, { on := 8, ground := Ground.phase }], guard := none }) (v := .int .i64 0) rfl (by kernel_rfl) (by kernel_rfl) (by kernel_rfl) (fun _ _ _ h => h) (Or.inl ⟨by rfl, ?_⟩) hHeld3 ?_
        · (intro w hSw; (try dsimp only at hSw); go_simp)
        try simp only [Act.put, List.setIfInBounds_toArray, List.set_cons_zero, List.set_cons_succ]
        refine wpAnyH_done (by kernel_rfl) ?_ _
        go_wp2_with (go_at_call 30; refine (HY.out _ _ HA.out).mono ?_; rintro e w5 ⟨rfl, rfl⟩)
        go_ret
        exact ⟨rfl, ⟨pd, mv, _, HA.out⟩, HF.out⟩
      · have e0 : begE s = 0 := by unfold begE; rw [if_neg h0, if_neg h1, if_neg h2]
        have e1 : begS s = { s with a := { s.a with bt := (K : Int) }, f := K, d := K, L := [], lf := lessOne (lessOne s.lf) } := by unfold begS; rw [if_neg h0, if_neg h1, if_neg h2, HK.out]; simp
        rw [e0, e1]
        have HY : Hid (∀ W G', AgR D W p { s with f := K, L := s.L ++ [K], lf := lessOne s.lf } n (c + 1) pd mv G' → Calls Tryd.prog 30 #[.pointer (some ⟨pd, 0, none⟩)] W fun e w' => e = .returned (.int .i64 0) ∧ ∃ G2, AgR D w' p { s with f := K, d := K, L := [], lf := lessOne (lessOne s.lf) } n (c + 1) pd mv G2 ∧ FrA D W w') := hidOf (fun W G' hW => by
          refine (syncB_ok pd K s.d (c + 1) (s.L ++ [K]) (lessOne s.lf) G' W hW.k h2 (by omega)).mono ?_
          rintro e w' ⟨rfl, G2, g1, g2⟩
          exact ⟨rfl, G2, hW.disk g1 g2⟩)
        clear h0 h1 h2 e0 e1
        go_enter Tryd.func18, Tryd.ntmps18
        go_wp2_with (go_at_call 17; refine HL.out.mono ?_; rintro e w1 ⟨rfl, hb⟩; have HB := hidOf hb; have c4 : w1.cell? ⟨p, 4, none⟩ = some (.pointer (some ⟨pd, 0, none⟩)) := (H.out.below hb).b.at_ 4; have HBd := hidOf hb.drew; have HT1 := hidOf (HT.out.below (HBd.out.mono HDD.out)); clear hb)
        refine wp_region_held_drew (S := fun w' : World => w'.cell? ⟨p, 4, none⟩ = some (.pointer (some ⟨pd, 0, none⟩))) (by kernel_rfl) c4 (fun hHeld => ?_)
        refine wpAnyH_take (i := 0) (oi := { dst := some 20, op := Op.move (Operand.tmp 0), type := 23, pos := "boot.go:36", after := #[], guard := none }) (v := .pointer (some ⟨p, 0, none⟩)) rfl (by kernel_rfl) (by kernel_rfl) (by kernel_rfl) (fun _ _ _ h => h) (Or.inl ⟨by rfl, ?_⟩) hHeld ?_
        · (intro w hSw; (try dsimp only at hSw); go_simp)
        try simp only [Act.put, List.setIfInBounds_toArray, List.set_cons_zero, List.set_cons_succ]
        refine wpAnyH_take (i := 1) (oi := { dst := some 21, op := Op.nilCheck (Operand.tmp 20), type := 0, pos := "boot.go:36", after := #[{ on := 0, ground := Ground.data }], guard := none }) (v := .pointer (some ⟨p, 0, none⟩)) rfl (by kernel_rfl) (by kernel_rfl) (by kernel_rfl) (fun _ _ _ h => h) (Or.inl ⟨by rfl, ?_⟩) hHeld ?_
        · (intro w hSw; (try dsimp only at hSw); go_simp)
        try simp only [Act.put, List.setIfInBounds_toArray, List.set_cons_zero, List.set_cons_succ]
        refine wpAnyH_take (i := 2) (oi := { dst := some 22, op := Op.fieldAddr 77 (Operand.tmp 21) 3, type := 0, pos := "boot.go:36", after := #[{ on := 1, ground := Ground.data }], guard := none }) (v := .pointer (some ⟨p, 4, none⟩)) rfl (by kernel_rfl) (by kernel_rfl) (by kernel_rfl) (fun _ _ _ h => h) (Or.inl ⟨by rfl, ?_⟩) hHeld ?_
        · (intro w hSw; (try dsimp only at hSw); go_simp)
        try simp only [Act.put, List.setIfInBounds_toArray, List.set_cons_zero, List.set_cons_succ]
        refine wpAnyH_take (i := 3) (oi := { dst := some 23, op := Op.load 31 (Operand.tmp 22), type := 31, pos := "boot.go:36", after := #[{ on := 2, ground := Ground.data }], guard := none }) (v := .pointer (some ⟨pd, 0, none⟩)) rfl (by kernel_rfl) (by kernel_rfl) (by kernel_rfl) (fun _ _ _ h => h) (Or.inl ⟨by rfl, ?_⟩) hHeld ?_
        · (intro w hSw; (try dsimp only at hSw); go_simp)
        try simp only [Act.put, List.setIfInBounds_toArray, List.set_cons_zero, List.set_cons_succ]
        refine wpAnyH_take (i := 4) (oi := { dst := some 24, op := Op.move (Operand.tmp 3), type := 3, pos := "boot.go:36", after := #[], guard := none }) (v := .int .i64 (s.f : Int)) rfl (by kernel_rfl) (by kernel_rfl) (by kernel_rfl) (fun _ _ _ h => h) (Or.inl ⟨by rfl, ?_⟩) hHeld ?_
        · (intro w hSw; (try dsimp only at hSw); go_simp)
        try simp only [Act.put, List.setIfInBounds_toArray, List.set_cons_zero, List.set_cons_succ]
        refine wpAnyH_take (i := 5) (oi := { dst := some 25, op := Op.binOp BinOp.add 3 (Operand.tmp 24) (Operand.const (Value.int IntKind.i64 1)) 3, type := 3, pos := "boot.go:36", after := #[{ on := 4, ground := Ground.data }], guard := none }) (v := .int .i64 ((s.f : Int) + 1)) rfl (by kernel_rfl) (by kernel_rfl) (by kernel_rfl) (fun _ _ _ h => h) (Or.inl ⟨by rfl, ?_⟩) hHeld ?_
        · (intro w hSw; (try dsimp only at hSw); go_simp)
        try simp only [Act.put, List.setIfInBounds_toArray, List.set_cons_zero, List.set_cons_succ]
        refine wpAnyH_ready (rs := [6]) (by kernel_rfl) (by simp) ?_
        refine AllReadyH.cons (o := { dst := some 26, op := Op.call { callee := Callee.value (Operand.func 28), args := #[Operand.tmp 25], argTypes := #[3] }, type := 9, pos := "boot.go:36", after := #[{ on := 5, ground := Ground.data }], guard := none }) rfl (fun K hK => ?_) AllReadyH.nil
        go_simp
        refine (HI.out _ HT1.out (Nat.le_trans HDD.out HBd.out.size)).mono ?_
        rintro e w2 ⟨rfl, _, hb⟩
        have HB2 := hidOf (HBd.out.trans (hb.mono HBd.out.size))
        have d4 : w2.cell? ⟨p, 4, none⟩ = some (.pointer (some ⟨pd, 0, none⟩)) := KK.out _ _ H.out HB2.out
        have HB3 := hidOf (HB2.out.trans (below_bytes HB2.out.size 5 S))
        have d5 : (bytesWorld w2 5 S).cell? ⟨p, 4, none⟩ = some (.pointer (some ⟨pd, 0, none⟩)) := KK.out _ _ H.out HB3.out
        clear hb
        refine hK.out _ _ d4 (fun hHeld1 => ?_)
        clear hK K
        try simp only [Act.put, List.setIfInBounds_toArray, List.set_cons_zero, List.set_cons_succ]
        refine wpAnyH_ready (rs := [7]) (by kernel_rfl) (by simp) ?_
        refine AllReadyH.cons (o := { dst := some 27, op := Op.convert 9 38 (Operand.tmp 26), type := 38, pos := "boot.go:36", after := #[{ on := 6, ground := Ground.data }], guard := none }) rfl (fun K hK => ?_) AllReadyH.nil
        go_simp
        refine hK.out _ _ d5 (fun hHeld2 => ?_)
        clear hK K
        try simp only [Act.put, List.setIfInBounds_toArray, List.set_cons_zero, List.set_cons_succ]
        refine wpAnyH_ready (rs := [8]) (by kernel_rfl) (by simp) ?_
        refine AllReadyH.cons (o := { dst := some 28, op := Op.call { callee := Callee.value (Operand.func 29), args := #[Operand.tmp 23, Operand.const (Value.string { data := #[98, 111, 111, 116] }), Operand.tmp 27], argTypes := #[31, 9, 38] }, type := 24, pos := "boot.go:36", after := #[{ on := 3, ground := Ground.data }, { on := 7, ground := Ground.data }, { on := 6, ground := Ground.chain }], guard := none }) rfl (fun K hK => ?_) AllReadyH.nil
        go_simp
        rw [hlen.out]
        refine (HP.out _ _ _ (H.out.below HB3.out) (by rw [HS.out]; exact bytes_bs _ _ hk)).mono ?_
        rintro e w4 ⟨rfl, G', hag, hfr⟩
        have d6 : w4.cell? ⟨p, 4, none⟩ = some (.pointer (some ⟨pd, 0, none⟩)) := hag.b.at_ 4
        have HA := hidOf hag
        have HF := hidOf ((FrA.of_below HB3.out).trans hfr)
        clear hag hfr
        refine hK.out _ _ d6 (fun hHeld3 => ?_)
        clear hK K
        try simp only [Act.put, List.setIfInBounds_toArray, List.set_cons_zero, List.set_cons_succ]
        refine wpAnyH_take (i := 9) (oi := { dst := some 5, op := Op.assign (Operand.tmp 28), type := 24, pos := "boot.go:36", after := #[{ on := 8, ground := Ground.data }, { on := 8, ground := Ground.chain }, { on := 0, ground := Ground.phase }, { on := 1, ground := Ground.phase }, { on := 2, ground := Ground.phase }, { on := 3, ground := Ground.phase }, { on := 4, ground := Ground.phase }, { on := 5, ground := Ground.phase }, { on := 6, ground := Ground.phase }, { on := 7, ground := Ground.phase }, { on := 8, ground := Ground.phase }], guard := none }) (v := .int .i64 0) rfl (by kernel_rfl) (by kernel_rfl) (by kernel_rfl) (fun _ _ _ h => h) (Or.inl ⟨by rfl, ?_⟩) hHeld3 ?_
        · (intro w hSw; (try dsimp only at hSw); go_simp)
        try simp only [Act.put, List.setIfInBounds_toArray, List.set_cons_zero, List.set_cons_succ]
        refine wpAnyH_done (by kernel_rfl) ?_ _
        go_wp2_with (go_at_call 30; refine (HY.out _ _ HA.out).mono ?_; rintro e w5 ⟨rfl, G2, hag, hfr⟩; have HA2 := hidOf hag; have HF2 := hidOf (HF.out.trans hfr); have lp5 := hag.b.lt; have f5 := hag.b.fr 5; have d7 : w5.cell? ⟨p, 5, none⟩ = some (.int .i64 s.a.bt) := hag.b.at_ 5; clear hag hfr)
        go_ret
        refine ⟨rfl, ⟨pd, mv, G2, ?_⟩, HF2.out.trans (.setp HA2.out.b HA2.out.hp 5 _)⟩
        rw [HN.out]
        exact HA2.out.set1 5 _ rfl
end Go.Proofs.YtkienmncifonnaaDoor
