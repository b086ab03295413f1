/- reports. -/
import Derived.Test.YtkienmncifonnaaDoorRn
namespace Go.Proofs.YtkienmncifonnaaDoor
open Go.RowKit Go.Maps
variable {D : Nat} {w w' : World} {p : Nat} {s : Sg} {n c pd : Nat} {mv : Value} {G : Nat → Prop}

def rpC (x : Int × Int) : Array Value := #[.int .i64 x.1, .int .i64 x.2]
theorem rpC_size (x : Int × Int) : (rpC x).size = 2 := rfl
theorem rp_one (x : Int × Int) : ∀ u ∈ (rpC x).toList, u.oneCell' = true := by
  intro u hu
  simp [rpC] at hu
  rcases hu with rfl | rfl <;> rfl
theorem if118 : IfR 118 2 16 := IfR.of (z := .agg (rpC (0, 0))) (by kernel_rfl) rfl
theorem built118 (x y : Int) : Tryd.prog.built 118 [(0, .int .i64 x), (1, .int .i64 y)] = some (rpC (x, y)) := by kernel_rfl
theorem field_s (y : Ak) (w : World) : (Instr.field 86 (.agg (akC y)) 1).run Tryd.prog w = .ok (.int .i64 y.s) w := by kernel_rfl
theorem wpList_fieldS {ops : Array Oper} {rest : List Oper} {o : Oper} {a : Act} {w : World} {Q : Exit → Act → World → Prop} (hg : o.guard = none) (x : Operand) (ho : o.op = .field 86 x 1) (y : Ak) (hx : a.eval x = .agg (akC y))
    (h : wpList Tryd.prog ops Q rest (a.put o.dst (.int .i64 y.s)) w) : wpList Tryd.prog ops Q (o :: rest) a w := by
  refine wpList_plain hg fun K hK => ?_
  unfold Oper.wp
  simp [execOp, ho, hx, field_s, Result.andThen]
  exact hK _ _ h
set_option maxHeartbeats 4000000 in
set_option maxRecDepth 100000 in
theorem reports_any (h : AgS D w p s n c) (hn : n ≤ 1099511627776) (hok : TkOk s.T) :
    Calls Tryd.prog 33 #[.pointer (some ⟨p, 0, none⟩)] w fun e w' => ∃ a l cp, e = .returned (.slice a l cp) ∧ Below w.heap.size w w' := by
  have HK := hidOf (known_any h hn)
  have HIF := hidOf if118
  obtain ⟨pd, mv, G, h⟩ := h
  have H := hidOf h
  have HOK := hidOf hok
  have hpl := h.b.lt
  clear h hok
  go_enter Tryd.func33, Tryd.ntmps33
  go_wp2_with (go_at_call 21; refine HK.out.mono ?_; rintro e w1 ⟨v, L, rfl, hkn, hrow, hln, hb⟩; have HKN := hidOf hkn; have HB1 := hidOf hb; have hrow2 : OwR w.heap.size 3 1 iC w1 v L := (by unfold OwR; rw [rows_iC]; exact hrow); obtain ⟨va, vc, hv, hrd⟩ := hrow2.rd (D := w.heap.size) iC_size; subst hv; have HRD := hidOf hrd; clear hkn hb hrow hrow2 hrd)
  have HA1 := hidOf (H.out.below HB1.out)
  obtain ⟨w0, hw0⟩ : ∃ y, y = w1 := ⟨_, rfl⟩
  subst hw0
  go_loopw [3, 9] (fun o i wr => ∃ (k : Nat) (v : Value) (R : List (Int × Int)), k ≤ L.length ∧ R.length = k ∧ i = .int .i64 (k : Int) ∧ o = v ∧ Hid (OwR w.heap.size 118 2 rpC wr v R) ∧ Hid (RdR w.heap.size 3 1 iC wr va L) ∧ Hid (AgR D wr p s n c pd mv G) ∧ Hid (Below w.heap.size w wr)) (fun _ i _ => L.length - (intOf i).toNat)
  case atStart => exact ⟨0, _, [], Nat.zero_le _, rfl, rfl, rfl, hidOf OwR.nil, HRD, HA1, HB1⟩
  case round =>
    obtain ⟨k, v, R, hk, hR, rfl, rfl, HO, HR, HA, HB⟩ := hrel
    by_cases hlt : k < L.length
    · have hltz : (k : Int) < (L.length : Int) := by omega
      obtain ⟨x, hx⟩ : ∃ x, L[k]? = some x := ⟨_, List.getElem?_eq_getElem hlt⟩
      obtain ⟨b, off, hva, hbl, hcell⟩ := HR.out.at_ hx
      subst hva
      have ci : wr.cell? ⟨b, off + k, none⟩ = some (.int .i64 x) := by have := hcell 0 _ rfl; simpa [iC] using this
      obtain ⟨va, vc2, hv, _⟩ := HO.out.slice
      subst hv
      rw [hR] at HO ⊢
      have c21 : wr.cell? ⟨p, 21, none⟩ = some mv := HA.out.b.at_ 21
      have lpr := HA.out.b.lt
      have hmem : x ∈ L := List.mem_of_getElem? hx
      have hso := (HKN.out.mem x).1 hmem
      obtain ⟨a0, ha0⟩ := Option.isSome_iff_exists.1 hso
      have hwf := (HOK.out.ok x a0 ha0).2
      obtain ⟨a, ha⟩ : ∃ a, a = getA s.T x := ⟨_, rfl⟩
      have hlk : (Instr.lookup 75 mv (.int .i64 x) false).run Tryd.prog wr = .ok (.agg (akC a)) wr := by rw [HA.out.t.look hwf, ← ha]; rfl
      clear hx hcell hmem hso ha0 hwf ha
      by_cases h64 : (k : Int) = 64
      · have e64 : ((k : Int) == 64) = true := by simp [h64]
        clear h64
        go_wp2
        go_ret
        trace_state
        first | exact ⟨_, _, _, rfl, HB.out⟩ | exact ⟨⟨_, _, _, rfl⟩, HB.out⟩
      · have e64 : ((k : Int) == 64) = false := by simp [h64]
        clear h64
        go_wp2_with (first | (refine wpList_fieldS rfl (.tmp 23) rfl a rfl ?_) | (refine wpList_buildE rfl 118 #[(0, .tmp 17), (1, .tmp 24)] rfl [(0, .int .i64 x), (1, .int .i64 a.s)] rfl (rpC (x, a.s)) (built118 x a.s) ?_) | (at_builtin; go_loud (refine wpList_appR _ rfl _ _ 42 rfl w.heap.size 118 2 16 Tryd.underlying42 HIF.out (by decide) rpC_size _ R rfl (HO.out.grow (below1 _ _)) (x, a.s) ⟨wr.heap.size, 0, none⟩ 1 rfl (fun j u hj => cell_news _ (rpC (x, a.s)) 118 j u hj) (rp_one _) (by unfold maxLen; omega) (by omega) (by have := HB.out.size; simp; omega) ?_; intro v5 w5 ho5 hg5 hv5; have HO5 := hidOf ho5; have HG5 := hidOf hg5; clear ho5 hg5 hv5)))
        go_roundw
        case rel =>
          have HB3 := hidOf (below1 wr (.cells (rpC (x, a.s)) 118))
          have HO3 := HO.out.grow HB3.out
          have hk5 := HO3.gKeepA HG5.out (by decide)
          exact ⟨k + 1, _, R ++ [(x, a.s)], by omega, by simp [hR], by go_num, rfl, HO5, hidOf ((HR.out.grow HB3.out).gr HO3 HG5.out (by decide) (Nat.le_refl _)), hidOf ((HA.out.below HB3.out).keepA hk5), hidOf ((HB.out.trans (HB3.out.mono HB.out.size)).grown HG5.out (by have := HB.out.size; have := HB3.out.size; omega) (fun q hq => HO3.lo q hq))⟩
        case measure => simp [intOf]; omega
    · obtain rfl : k = L.length := by omega
      have hltz : ¬ (L.length : Int) < (L.length : Int) := by omega
      obtain ⟨va, vc2, hv, _⟩ := HO.out.slice
      subst hv
      go_wp2
      go_ret

      first | exact ⟨_, _, _, rfl, HB.out⟩ | exact ⟨⟨_, _, _, rfl⟩, HB.out⟩
end Go.Proofs.YtkienmncifonnaaDoor
