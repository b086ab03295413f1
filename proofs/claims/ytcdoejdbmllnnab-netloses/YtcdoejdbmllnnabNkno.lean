/- The law's own example: a message is sent, doubled, delivered; what it answers. And the number Ctx of a message in its cells. -/
import Derived.Test.YtcdoejdbmllnnabNdel
namespace Go.Proofs.Ytcdoejdbmllnnab
open Go.RowKit

def ctxOf (v : Vl F_msg) : Int := v.2.2.2.2.2.2.2.2.1
def toOf (v : Vl F_msg) : Int := v.2.2.1
def withCtx (v : Vl F_msg) (n : Int) : Vl F_msg := (v.1, v.2.1, v.2.2.1, v.2.2.2.1, v.2.2.2.2.1, v.2.2.2.2.2.1, v.2.2.2.2.2.2.1, v.2.2.2.2.2.2.2.1, n, v.2.2.2.2.2.2.2.2.2)
theorem ctx_with (v : Vl F_msg) (n : Int) : ctxOf (withCtx v n) = n := rfl
theorem ctx_cells {w : World} {S : Nat → Prop} {cs : List Value} {v : Vl F_msg} (h : Rep w S F_msg cs v) :
    cs[2]? = some (.int .i64 (toOf v)) ∧ cs[8]? = some (.int .i64 (ctxOf v)) ∧ ∀ n, Rep w S F_msg (cs.set 8 (.int .i64 n)) (withCtx v n) := by
  obtain ⟨_, _, rfl, r0, _, _, rfl, r1, _, _, rfl, r2, _, _, rfl, r3, _, _, rfl, r4, _, _, rfl, r5, _, _, rfl, r6, _, _, rfl, r7, _, t, rfl, r8, rest⟩ := h
  simp only [Rep] at r0 r1 r2 r3 r4 r5 r6 r7 r8
  subst r0 r1 r2 r3 r4 r5 r6 r7 r8
  refine ⟨rfl, rfl, fun n => ⟨_, _, rfl, rfl, _, _, rfl, rfl, _, _, rfl, rfl, _, _, rfl, rfl, _, _, rfl, rfl, _, _, rfl, rfl, _, _, rfl, rfl, _, _, rfl, rfl, [.int .i64 n], t, rfl, rfl, rest⟩⟩

def Km : List Value := [.int .i64 1, .int .i64 0, .int .i64 2, .int .i64 0, .int .i64 0, .int .i64 0, .int .i64 0, .bool false, .int .i64 0, .int .i64 0, .int .i64 0, .int .i64 0, .slice none 0 0, .slice none 0 0, .slice none 0 0, .slice none 0 0, .int .i64 0, .int .i64 0, .int .i64 0, .int .i64 0, .int .i64 0, .int .i64 0, .int .i64 0, .slice none 0 0, .int .i64 0, .bool false, .int .i64 0, .int .i64 0, .int .i64 0, .bool false, .bool false, .int .i64 0, .int .i64 0, .int .i64 0, .slice none 0 0, .int .i64 0, .int .i64 0, .int .i64 0, .slice none 0 0, .slice none 0 0, .bool false, .slice none 0 0, .slice none 0 0, .int .i64 0, .int .i64 0, .slice none 0 0]
def Kv : Vl F_msg := (1, 0, 2, 0, 0, 0, 0, false, 0, 0, 0, 0, [], Zv_conf, [], Zv_cmd, Zv_result)
theorem km_rep (w : World) (S : Nat → Prop) : Rep w S F_msg Km Kv := mk_msg 1 0 2 0 0 0 0 false 0 0 0 0 none 0 [] (.slice none 0 0) (.slice none 0 0) Zv_conf none 0 [] (.int .i64 0) (.int .i64 0) (.int .i64 0) (.int .i64 0) (.int .i64 0) (.int .i64 0) (.int .i64 0) (.slice none 0 0) (.int .i64 0) (.bool false) (.int .i64 0) (.int .i64 0) (.int .i64 0) (.bool false) (.bool false) (.int .i64 0) (.int .i64 0) (.int .i64 0) (.slice none 0 0) (.int .i64 0) (.int .i64 0) (.int .i64 0) (.slice none 0 0) (.slice none 0 0) (.bool false) (.slice none 0 0) (.slice none 0 0) Zv_cmd (.int .i64 0) (.int .i64 0) (.slice none 0 0) Zv_result ⟨by simp, fun h => absurd rfl h⟩ (rz_conf w S) ⟨Nat.le_refl _, ⟨by simp, fun h => absurd rfl h⟩, fun h => absurd rfl h⟩ (rz_cmd w S) (rz_result w S)
theorem kv_ok : (en F_msg Kv).2 = false := by kernel_rfl
theorem kv_to : toOf Kv = 2 := rfl

set_option maxHeartbeats 1600000 in
set_option maxRecDepth 100000 in
theorem known_any (w : World) : Calls Try.prog 7 #[] w fun e w' => e = .returned (.bool true) ∧ Below w.heap.size w w' := by
  have hB1 : Below w.heap.size w (w.alloc (.cells #[.int .i64 2, .slice none 0 0] 60)) := (Below.refl _ _).alloc (Nat.le_refl _) _
  have HB1 := hidOf hB1
  have HN1 := hidOf (netR_new w 2 (by omega))
  obtain ⟨b, hb⟩ : ∃ b, Hid ((en F_msg Kv).1 = b) := ⟨_, rfl⟩
  have HD : Hid ((de F_msg (some b)).2 = some [] ∧ (de F_msg (some b)).1 = Kv) := by
    have h := de_en F_msg Kv [] kv_ok
    rw [List.append_nil, hb.out] at h
    show _ ∧ _
    rw [h]; exact ⟨rfl, rfl⟩
  clear hB1
  go_enter Try.func7, Try.ntmps7
  go_wp2_with fail
  refine (new_ok 2 w (by omega) (by omega)).mono ?_
  rintro e w1 ⟨rfl, rfl⟩
  go_wp2_with fail
  refine (send_ok w.heap.size 2 [] none Km Kv _ HN1.out (by simp) (km_rep _ _) kv_ok).mono ?_
  rintro e w2 ⟨rfl, r2, hn2, hs2⟩
  rw [hb.out, List.nil_append, cut_all 2 [b] (by simp)] at hn2
  have HN2 := hidOf hn2
  have HS2 := hidOf hs2
  clear hn2 hs2
  go_wp2_with fail
  refine (copy_ok w.heap.size 2 [b] r2 0 b _ HN2.out (by simp) rfl).mono ?_
  rintro e w3 ⟨rfl, r3, hn3, hs3⟩
  rw [cut_all 2 ([b] ++ [b]) (by simp)] at hn3
  have HN3 := hidOf hn3
  have HS3 := hidOf (HS2.out.trans hs3)
  clear hn3 hs3 HN2 HS2
  go_wp2_with fail
  refine (deliver_ok w.heap.size 2 ([b] ++ [b]) r3 1 b _ HN3.out rfl).mono ?_
  rintro e w4 ⟨cl, vv, he, hrep, hval, hn4, hs4⟩
  have hv : vv = Kv := (hval HD.out.1).trans HD.out.2
  subst hv
  rw [show ([b] ++ [b]).take 1 ++ ([b] ++ [b]).drop (1 + 1) = [b] from rfl] at hn4
  have hcs : cl.toArray.size = Zr_msg.size := by rw [List.size_toArray, hrep.len]; kernel_rfl
  have hco : cl.toArray.all (·.oneCell') = true := hrep.all
  have hto : cl.toArray[2]? = some (.int .i64 2) := by rw [List.getElem?_toArray, (ctx_cells hrep).1, kv_to]
  rw [show decide ((de F_msg (some b)).2 = some []) = true from by simp [HD.out.1]] at he
  obtain ⟨cs, hcl⟩ : ∃ cs, cl.toArray = cs := ⟨_, rfl⟩
  rw [hcl] at he hcs hco hto
  subst he
  have HCS := hidOf hcs
  have HCO := hidOf hco
  have HTO := hidOf hto
  have HCI : Hid ((Try.prog.info? 48).map (·.size) = some cs.size) := by show _ = _; rw [hcs]; exact Zr_msg_i
  have HN4 := hidOf hn4
  have HS4 := hidOf (HS3.out.trans hs4)
  clear hn4 hs4 HN3 HS3 hrep hval hcl hcs hco hto
  go_wp2_with (refine wpList_store_rowF rfl 48 (.tmp 4) (.tmp 17) rfl w4.heap.size cs rfl rfl 48 Zr_msg (heap_alloc_new w4 (.cells Zr_msg 48)) HCI.out HCS.out.symm HCO.out ?next)
  case next =>
    intro w5 hw5h
    have hw5 := hw5h.out
    have hB5 : Below w4.heap.size w4 w5 := by rw [hw5]; exact ((Below.refl _ _).alloc (Nat.le_refl _) _).trans ⟨rfl, rfl, rfl, by simp [World.setRow], fun k hk => setRow_other _ _ _ _ (by omega)⟩
    have g5 : w5.heap[w4.heap.size]? = some (.cells cs 48 (0, 0)) := by rw [hw5]; exact setRow_heap _ _ _ _ 48 _ (heap_alloc_new w4 _)
    have c5 : w5.cell? ⟨w4.heap.size, 2, none⟩ = some (.int .i64 2) := by rw [cell_of_row w5 _ 2 _ 48 (0, 0) g5]; exact HTO.out
    have HN5 := hidOf (HN4.out.grow hB5)
    have HS5 := hidOf (HS4.out.trans (NS.of_below hB5))
    clear hw5 hw5h hB5 g5 HN4 HS4
    go_wp2_with fail
    refine (len_any w.heap.size 2 [b] r3 w5 HN5.out).mono ?_
    rintro e w6 ⟨rfl, hw6⟩
    subst hw6
    rw [show (([b] : List (List UInt8)).length : Int) = 1 from rfl]
    go_wp2_with fail
    refine (lose_ok w.heap.size 2 [b] r3 0 _ HN5.out (by simp)).mono ?_
    rintro e w7 ⟨rfl, hn7, hs7⟩
    have HN7 := hidOf hn7
    have HS7 := hidOf (HS5.out.trans hs7)
    clear hn7 hs7 HN5 HS5 c5
    go_wp2_with fail
    refine (lose_no w.heap.size 2 _ r3 0 _ HN7.out (by simp [hasB])).mono ?_
    rintro e w8 ⟨rfl, hw8⟩
    subst hw8
    go_wp2
    go_ret
    exact ⟨rfl, HB1.out.trans (HS7.out.below HB1.out.size (Nat.le_refl _) (fun k hk => by cases hk))⟩

end Go.Proofs.Ytcdoejdbmllnnab
