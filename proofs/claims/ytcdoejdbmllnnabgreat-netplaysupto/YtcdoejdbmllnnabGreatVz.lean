/- Records of zero values. Made by program (wip/gen/whv.py). -/
import Derived.Test.YtcdoejdbmllnnabGreatVfm
namespace Go.Proofs.YtcdoejdbmllnnabGreat
open Go.RowKit
def Zv_res : Vl F_res := (0, 0)
theorem rz_res (w : World) (S : Nat → Prop) : Rep w S F_res [.int .i64 0, .int .i64 0] Zv_res := mk_res 0 0
def Zv_conf : Vl F_conf := ([], [])
theorem rz_conf (w : World) (S : Nat → Prop) : Rep w S F_conf [.slice none 0 0, .slice none 0 0] Zv_conf := mk_conf none 0 [] none 0 [] ⟨by simp, fun h => absurd rfl h⟩ ⟨by simp, fun h => absurd rfl h⟩
def Zv_alloc : Vl F_alloc := (0, 0, 0, 0, 0, 0, 0, Zv_res, false, 0)
theorem rz_alloc (w : World) (S : Nat → Prop) : Rep w S F_alloc [.int .i64 0, .int .i64 0, .int .i64 0, .int .i64 0, .int .i64 0, .int .i64 0, .int .i64 0, .int .i64 0, .int .i64 0, .bool false, .int .i64 0] Zv_alloc := mk_alloc 0 0 0 0 0 0 0 (.int .i64 0) (.int .i64 0) Zv_res false 0 (rz_res w S)
def Zv_report : Vl F_report := (0, 0)
theorem rz_report (w : World) (S : Nat → Prop) : Rep w S F_report [.int .i64 0, .int .i64 0] Zv_report := mk_report 0 0
def Zv_group : Vl F_group := (0, Zv_res)
theorem rz_group (w : World) (S : Nat → Prop) : Rep w S F_group [.int .i64 0, .int .i64 0, .int .i64 0] Zv_group := mk_group 0 (.int .i64 0) (.int .i64 0) Zv_res (rz_res w S)
def Zv_job : Vl F_job := (0, 0, 0, 0, [], 0, false)
theorem rz_job (w : World) (S : Nat → Prop) : Rep w S F_job [.int .i64 0, .int .i64 0, .int .i64 0, .int .i64 0, .slice none 0 0, .int .i64 0, .bool false] Zv_job := mk_job 0 0 0 0 none 0 [] 0 false ⟨by simp, fun h => absurd rfl h⟩
def Zv_node : Vl F_node := (0, Zv_res, false, false, 0, 0, 0)
theorem rz_node (w : World) (S : Nat → Prop) : Rep w S F_node [.int .i64 0, .int .i64 0, .int .i64 0, .bool false, .bool false, .int .i64 0, .int .i64 0, .int .i64 0] Zv_node := mk_node 0 (.int .i64 0) (.int .i64 0) Zv_res false false 0 0 0 (rz_res w S)
def Zv_plan : Vl F_plan := (0, 0, 0, [], [], false)
theorem rz_plan (w : World) (S : Nat → Prop) : Rep w S F_plan [.int .i64 0, .int .i64 0, .int .i64 0, .slice none 0 0, .slice none 0 0, .bool false] Zv_plan := mk_plan 0 0 0 none 0 [] none 0 [] false ⟨by simp, fun h => absurd rfl h⟩ ⟨by simp, fun h => absurd rfl h⟩
def Zv_result : Vl F_result := (0, 0, [])
theorem rz_result (w : World) (S : Nat → Prop) : Rep w S F_result [.int .i64 0, .int .i64 0, .slice none 0 0] Zv_result := mk_result 0 0 none 0 [] ⟨by simp, fun h => absurd rfl h⟩
def Zv_cmd : Vl F_cmd := (0, 0, 0, Zv_job, Zv_node, [], Zv_plan, Zv_conf)
theorem rz_cmd (w : World) (S : Nat → Prop) : Rep w S F_cmd [.int .i64 0, .int .i64 0, .int .i64 0, .int .i64 0, .int .i64 0, .int .i64 0, .int .i64 0, .slice none 0 0, .int .i64 0, .bool false, .int .i64 0, .int .i64 0, .int .i64 0, .bool false, .bool false, .int .i64 0, .int .i64 0, .int .i64 0, .slice none 0 0, .int .i64 0, .int .i64 0, .int .i64 0, .slice none 0 0, .slice none 0 0, .bool false, .slice none 0 0, .slice none 0 0] Zv_cmd := mk_cmd 0 0 0 (.int .i64 0) (.int .i64 0) (.int .i64 0) (.int .i64 0) (.slice none 0 0) (.int .i64 0) (.bool false) Zv_job (.int .i64 0) (.int .i64 0) (.int .i64 0) (.bool false) (.bool false) (.int .i64 0) (.int .i64 0) (.int .i64 0) Zv_node none 0 [] (.int .i64 0) (.int .i64 0) (.int .i64 0) (.slice none 0 0) (.slice none 0 0) (.bool false) Zv_plan (.slice none 0 0) (.slice none 0 0) Zv_conf (rz_job w S) (rz_node w S) ⟨by simp, fun h => absurd rfl h⟩ (rz_plan w S) (rz_conf w S)
def Zv_entry : Vl F_entry := (0, 0, Zv_cmd)
theorem rz_entry (w : World) (S : Nat → Prop) : Rep w S F_entry [.int .i64 0, .int .i64 0, .int .i64 0, .int .i64 0, .int .i64 0, .int .i64 0, .int .i64 0, .int .i64 0, .int .i64 0, .slice none 0 0, .int .i64 0, .bool false, .int .i64 0, .int .i64 0, .int .i64 0, .bool false, .bool false, .int .i64 0, .int .i64 0, .int .i64 0, .slice none 0 0, .int .i64 0, .int .i64 0, .int .i64 0, .slice none 0 0, .slice none 0 0, .bool false, .slice none 0 0, .slice none 0 0] Zv_entry := mk_entry 0 0 (.int .i64 0) (.int .i64 0) (.int .i64 0) (.int .i64 0) (.int .i64 0) (.int .i64 0) (.int .i64 0) (.slice none 0 0) (.int .i64 0) (.bool false) (.int .i64 0) (.int .i64 0) (.int .i64 0) (.bool false) (.bool false) (.int .i64 0) (.int .i64 0) (.int .i64 0) (.slice none 0 0) (.int .i64 0) (.int .i64 0) (.int .i64 0) (.slice none 0 0) (.slice none 0 0) (.bool false) (.slice none 0 0) (.slice none 0 0) Zv_cmd (rz_cmd w S)
def Zv_eval : Vl F_eval := (0, 0, 0, 0)
theorem rz_eval (w : World) (S : Nat → Prop) : Rep w S F_eval [.int .i64 0, .int .i64 0, .int .i64 0, .int .i64 0] Zv_eval := mk_eval 0 0 0 0
def Zv_deploy : Vl F_deploy := (0, 0, 0, 0)
theorem rz_deploy (w : World) (S : Nat → Prop) : Rep w S F_deploy [.int .i64 0, .int .i64 0, .int .i64 0, .int .i64 0] Zv_deploy := mk_deploy 0 0 0 0
def Zv_seen : Vl F_seen := (0, 0, Zv_result)
theorem rz_seen (w : World) (S : Nat → Prop) : Rep w S F_seen [.int .i64 0, .int .i64 0, .int .i64 0, .int .i64 0, .slice none 0 0] Zv_seen := mk_seen 0 0 (.int .i64 0) (.int .i64 0) (.slice none 0 0) Zv_result (rz_result w S)
def Zv_store : Vl F_store := (0, 0, [], [], [], [], [], [], [])
theorem rz_store (w : World) (S : Nat → Prop) : Rep w S F_store [.int .i64 0, .int .i64 0, .slice none 0 0, .slice none 0 0, .slice none 0 0, .slice none 0 0, .slice none 0 0, .slice none 0 0, .slice none 0 0] Zv_store := mk_store 0 0 none 0 [] none 0 [] none 0 [] none 0 [] none 0 [] none 0 [] none 0 [] ⟨by simp, fun h => absurd rfl h⟩ ⟨by simp, fun h => absurd rfl h⟩ ⟨by simp, fun h => absurd rfl h⟩ ⟨by simp, fun h => absurd rfl h⟩ ⟨by simp, fun h => absurd rfl h⟩ ⟨by simp, fun h => absurd rfl h⟩ ⟨by simp, fun h => absurd rfl h⟩
def Zv_snapshot : Vl F_snapshot := (0, 0, Zv_conf, [])
theorem rz_snapshot (w : World) (S : Nat → Prop) : Rep w S F_snapshot [.int .i64 0, .int .i64 0, .slice none 0 0, .slice none 0 0, .slice none 0 0] Zv_snapshot := mk_snapshot 0 0 (.slice none 0 0) (.slice none 0 0) Zv_conf none 0 [] (rz_conf w S) ⟨Nat.le_refl _, ⟨by simp, fun h => absurd rfl h⟩, fun h => absurd rfl h⟩
def Zv_msg : Vl F_msg := (0, 0, 0, 0, 0, 0, 0, false, 0, 0, 0, 0, [], Zv_conf, [], Zv_cmd, Zv_result)
theorem rz_msg (w : World) (S : Nat → Prop) : Rep w S F_msg [.int .i64 0, .int .i64 0, .int .i64 0, .int .i64 0, .int .i64 0, .int .i64 0, .int .i64 0, .bool false, .int .i64 0, .int .i64 0, .int .i64 0, .int .i64 0, .slice none 0 0, .slice none 0 0, .slice none 0 0, .slice none 0 0, .int .i64 0, .int .i64 0, .int .i64 0, .int .i64 0, .int .i64 0, .int .i64 0, .int .i64 0, .slice none 0 0, .int .i64 0, .bool false, .int .i64 0, .int .i64 0, .int .i64 0, .bool false, .bool false, .int .i64 0, .int .i64 0, .int .i64 0, .slice none 0 0, .int .i64 0, .int .i64 0, .int .i64 0, .slice none 0 0, .slice none 0 0, .bool false, .slice none 0 0, .slice none 0 0, .int .i64 0, .int .i64 0, .slice none 0 0] Zv_msg := mk_msg 0 0 0 0 0 0 0 false 0 0 0 0 none 0 [] (.slice none 0 0) (.slice none 0 0) Zv_conf none 0 [] (.int .i64 0) (.int .i64 0) (.int .i64 0) (.int .i64 0) (.int .i64 0) (.int .i64 0) (.int .i64 0) (.slice none 0 0) (.int .i64 0) (.bool false) (.int .i64 0) (.int .i64 0) (.int .i64 0) (.bool false) (.bool false) (.int .i64 0) (.int .i64 0) (.int .i64 0) (.slice none 0 0) (.int .i64 0) (.int .i64 0) (.int .i64 0) (.slice none 0 0) (.slice none 0 0) (.bool false) (.slice none 0 0) (.slice none 0 0) Zv_cmd (.int .i64 0) (.int .i64 0) (.slice none 0 0) Zv_result ⟨by simp, fun h => absurd rfl h⟩ (rz_conf w S) ⟨Nat.le_refl _, ⟨by simp, fun h => absurd rfl h⟩, fun h => absurd rfl h⟩ (rz_cmd w S) (rz_result w S)

end Go.Proofs.YtcdoejdbmllnnabGreat
