/- The bytes of a record are told by themselves: what is read of them is read of them whatever stands behind. Plain mathematics, the records by program (wip/gen/rec.py). -/
import Derived.Test.YtpbokgeaolpiaabRld
import Derived.Test.YtpbokgeaolpiaabRle
namespace Go.Proofs.Ytpbokgeaolpiaab
open Go.RowKit

def Pre (P : Option (List UInt8) → Option (List UInt8)) : Prop := ∀ l r, P (some l) = some r → ∃ c, l = c ++ r ∧ ∀ y, P (some (c ++ y)) = some y
theorem pre_comp {P Q : Option (List UInt8) → Option (List UInt8)} (hP : Pre P) (hQ : Pre Q) (hn : Q none = none) : Pre (fun s => Q (P s)) := by
  intro l r h
  cases hp : P (some l) with
  | none => simp only [hp, hn] at h; cases h
  | some m =>
    simp only [hp] at h
    obtain ⟨c, rfl, hc⟩ := hP l m hp
    obtain ⟨d, rfl, hd⟩ := hQ m r h
    exact ⟨c ++ d, by rw [List.append_assoc], fun y => by simp only [List.append_assoc, hc, hd]⟩
theorem num_pre (l r : List UInt8) (h : numS (some l) = some r) : ∃ c, l = c ++ r ∧ ∀ y, numS (some (c ++ y)) = some y ∧ numV (some (c ++ y)) = numV (some l) := by
  unfold numS at h
  cases hd : decA 6 0 0 l with
  | none => simp [hd] at h
  | some x =>
    obtain ⟨u, r'⟩ := x
    simp [hd] at h
    subst h
    obtain ⟨c, rfl, hc⟩ := decA_pre 6 0 0 l r' u hd
    refine ⟨c, rfl, fun y => ⟨by simp [numS, hc y], by simp [numV, hc y, hd]⟩⟩
theorem pre_num : Pre numS := fun l r h => by
  obtain ⟨c, e, hc⟩ := num_pre l r h
  exact ⟨c, e, fun y => (hc y).1⟩
theorem pre_tru : Pre truS := fun l r h => by
  unfold truS at h
  by_cases hv : numV (some l) = 0 ∨ numV (some l) = 1
  · rw [if_pos hv] at h
    obtain ⟨c, e, hc⟩ := num_pre l r h
    exact ⟨c, e, fun y => by unfold truS; rw [(hc y).2, if_pos hv, (hc y).1]⟩
  · rw [if_neg hv] at h; cases h
theorem cnt_pre (m : Int) (l r : List UInt8) (h : cntS m (some l) = some r) : ∃ c, l = c ++ r ∧ ∀ y, cntS m (some (c ++ y)) = some y ∧ cntV m (some (c ++ y)) = cntV m (some l) := by
  unfold cntS at h
  by_cases hv : numV (some l) < 0 ∨ m < numV (some l)
  · rw [if_pos hv] at h; cases h
  · rw [if_neg hv] at h
    obtain ⟨c, e, hc⟩ := num_pre l r h
    refine ⟨c, e, fun y => ⟨?_, ?_⟩⟩
    · unfold cntS; rw [(hc y).2, if_neg hv, (hc y).1]
    · unfold cntV; rw [(hc y).2]
theorem pre_it {P : Option (List UInt8) → Option (List UInt8)} (hP : Pre P) (hn : P none = none) (k : Nat) : Pre (itP P k) := by
  induction k with
  | zero => intro l r h; exact ⟨[], by cases h; rfl, fun y => rfl⟩
  | succ k ih => have h := pre_comp ih hP hn; exact h
theorem it_none {P : Option (List UInt8) → Option (List UInt8)} (hn : P none = none) (k : Nat) : itP P k none = none := by
  have := itP_none P hn none 0 k rfl
  rwa [Nat.zero_add] at this
theorem pre_lst {P : Option (List UInt8) → Option (List UInt8)} (hP : Pre P) (hn : P none = none) : Pre (lstS P) := fun l r h => by
  unfold lstS at h
  cases hc : cntS 64 (some l) with
  | none => rw [hc, it_none hn] at h; cases h
  | some m =>
    rw [hc] at h
    obtain ⟨c, e, hcc⟩ := cnt_pre 64 l m hc
    obtain ⟨d, e2, hd⟩ := pre_it hP hn _ m r h
    refine ⟨c ++ d, by rw [e, e2, List.append_assoc], fun y => ?_⟩
    unfold lstS
    rw [List.append_assoc, (hcc (d ++ y)).1, (hcc (d ++ y)).2]
    exact hd y
theorem pre_byt : Pre bytS := fun l r h => by
  unfold bytS at h
  cases hc : cntS 65536 (some l) with
  | none => simp [hc] at h
  | some m =>
    rw [hc] at h
    simp only [Option.bind_some] at h
    by_cases hl : m.length < cntV 65536 (some l)
    · rw [if_pos hl] at h; cases h
    · rw [if_neg hl] at h
      cases h
      obtain ⟨c, e, hcc⟩ := cnt_pre 65536 l m hc
      have hN : (m.take (cntV 65536 (some l))).length = cntV 65536 (some l) := by rw [List.length_take]; omega
      refine ⟨c ++ m.take (cntV 65536 (some l)), by rw [List.append_assoc, List.take_append_drop]; exact e, fun y => ?_⟩
      unfold bytS
      rw [List.append_assoc, (hcc _).1, (hcc _).2]
      simp only [Option.bind_some]
      rw [if_neg (by rw [List.length_append]; omega), List.drop_append_of_le_length (by omega), List.drop_of_length_le (by omega), List.nil_append]
/- one byte more, or one less -/
theorem pre_more {P : Option (List UInt8) → Option (List UInt8)} (hP : Pre P) (l : List UInt8) (x : UInt8) (h : P (some l) = some []) : P (some (l ++ [x])) ≠ some [] := by
  obtain ⟨c, e, hc⟩ := hP l [] h
  rw [List.append_nil] at e
  subst e
  rw [hc [x]]
  simp
theorem pre_less {P : Option (List UInt8) → Option (List UInt8)} (hP : Pre P) (l : List UInt8) (x : UInt8) (h : P (some (l ++ [x])) = some []) : P (some l) ≠ some [] := fun h2 => pre_more hP l x h2 h

theorem pre_res : Pre P_res := by
  have h := (pre_comp pre_num pre_num numS_none)
  exact h
theorem pre_conf : Pre P_conf := by
  have h := (pre_comp (pre_lst pre_num numS_none) (pre_lst pre_num numS_none) (lstS_none numS))
  exact h
theorem pre_alloc : Pre P_alloc := by
  have h := (pre_comp (pre_comp (pre_comp (pre_comp (pre_comp (pre_comp (pre_comp (pre_comp (pre_comp pre_num pre_num numS_none) pre_num numS_none) pre_num numS_none) pre_num numS_none) pre_num numS_none) pre_num numS_none) pre_res P_res_none) pre_tru truS_none) pre_num numS_none)
  exact h
theorem pre_report : Pre P_report := by
  have h := (pre_comp pre_num pre_num numS_none)
  exact h
theorem pre_group : Pre P_group := by
  have h := (pre_comp pre_num pre_res P_res_none)
  exact h
theorem pre_job : Pre P_job := by
  have h := (pre_comp (pre_comp (pre_comp (pre_comp (pre_comp (pre_comp pre_num pre_num numS_none) pre_num numS_none) pre_num numS_none) (pre_lst pre_group P_group_none) (lstS_none P_group)) pre_num numS_none) pre_tru truS_none)
  exact h
theorem pre_node : Pre P_node := by
  have h := (pre_comp (pre_comp (pre_comp (pre_comp (pre_comp (pre_comp pre_num pre_res P_res_none) pre_tru truS_none) pre_tru truS_none) pre_num numS_none) pre_num numS_none) pre_num numS_none)
  exact h
theorem pre_plan : Pre P_plan := by
  have h := (pre_comp (pre_comp (pre_comp (pre_comp (pre_comp pre_num pre_num numS_none) pre_num numS_none) (pre_lst pre_num numS_none) (lstS_none numS)) (pre_lst pre_alloc P_alloc_none) (lstS_none P_alloc)) pre_tru truS_none)
  exact h
theorem pre_result : Pre P_result := by
  have h := (pre_comp (pre_comp pre_num pre_num numS_none) (pre_lst pre_alloc P_alloc_none) (lstS_none P_alloc))
  exact h
theorem pre_cmd : Pre P_cmd := by
  have h := (pre_comp (pre_comp (pre_comp (pre_comp (pre_comp (pre_comp (pre_comp pre_num pre_num numS_none) pre_num numS_none) pre_job P_job_none) pre_node P_node_none) (pre_lst pre_report P_report_none) (lstS_none P_report)) pre_plan P_plan_none) pre_conf P_conf_none)
  exact h
theorem pre_entry : Pre P_entry := by
  have h := (pre_comp (pre_comp pre_num pre_num numS_none) pre_cmd P_cmd_none)
  exact h
theorem pre_eval : Pre P_eval := by
  have h := (pre_comp (pre_comp (pre_comp pre_num pre_num numS_none) pre_num numS_none) pre_num numS_none)
  exact h
theorem pre_deploy : Pre P_deploy := by
  have h := (pre_comp (pre_comp (pre_comp pre_num pre_num numS_none) pre_num numS_none) pre_num numS_none)
  exact h
theorem pre_seen : Pre P_seen := by
  have h := (pre_comp (pre_comp pre_num pre_num numS_none) pre_result P_result_none)
  exact h
theorem pre_store : Pre P_store := by
  have h := (pre_comp (pre_comp (pre_comp (pre_comp (pre_comp (pre_comp (pre_comp (pre_comp pre_num pre_num numS_none) (pre_lst pre_job P_job_none) (lstS_none P_job)) (pre_lst pre_job P_job_none) (lstS_none P_job)) (pre_lst pre_node P_node_none) (lstS_none P_node)) (pre_lst pre_alloc P_alloc_none) (lstS_none P_alloc)) (pre_lst pre_eval P_eval_none) (lstS_none P_eval)) (pre_lst pre_deploy P_deploy_none) (lstS_none P_deploy)) (pre_lst pre_seen P_seen_none) (lstS_none P_seen))
  exact h
theorem pre_msg : Pre P_msg := by
  have h := (pre_comp (pre_comp (pre_comp (pre_comp (pre_comp (pre_comp (pre_comp (pre_comp (pre_comp (pre_comp (pre_comp (pre_comp (pre_comp (pre_comp (pre_comp (pre_comp pre_num pre_num numS_none) pre_num numS_none) pre_num numS_none) pre_num numS_none) pre_num numS_none) pre_num numS_none) pre_tru truS_none) pre_num numS_none) pre_num numS_none) pre_num numS_none) pre_num numS_none) (pre_lst pre_entry P_entry_none) (lstS_none P_entry)) pre_conf P_conf_none) pre_byt bytS_none) pre_cmd P_cmd_none) pre_result P_result_none)
  exact h
end Go.Proofs.Ytpbokgeaolpiaab
