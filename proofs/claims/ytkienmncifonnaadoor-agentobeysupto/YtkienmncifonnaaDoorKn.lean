/- The IDs of the tasks that are known, sorted: the library's contracts at this program. -/
import Derived.Shelf.SlIterI.Nil
import Derived.Shelf.SortM.Plain
import Derived.Shelf.SortM.SortNone
import Derived.Test.YtkienmncifonnaaDoorAs
import Derived.OwnWalkIn
import Derived.LoopNIn
namespace Go.Proofs.YtkienmncifonnaaDoor
open Go.RowKit Go.Maps Go.Sort Go.Shelf

def keysAR : Go.Shelf.Ren := ⟨fun | 7 => 35 | 10 => 55 | n => n, fun | 23 => 75 | 26 => 3 | 3 => 86 | 28 => 101 | 0 => 0 | 27 => 100 | 33 => 120 | 4 => 4 | n => n, fun | n => n⟩
def sortedAR : Go.Shelf.Ren := ⟨fun | 6 => 34 | 8 => 53 | 9 => 54 | 11 => 66 | 13 => 68 | 12 => 67 | 23 => 84 | 24 => 85 | 14 => 75 | 15 => 76 | 16 => 77 | 17 => 78 | 18 => 79 | 19 => 80 | 20 => 81 | 21 => 82 | 22 => 83 | 25 => 92 | 26 => 93 | 27 => 94 | 28 => 95 | 29 => 96 | 30 => 97 | 31 => 100 | n => n, fun | 26 => 3 | 28 => 101 | 24 => 34 | 0 => 0 | 3 => 3 | 37 => 136 | 48 => 159 | 50 => 138 | 4 => 4 | 40 => 152 | 39 => 151 | 45 => 103 | 5 => 5 | 9 => 9 | 51 => 167 | 55 => 171 | 57 => 173 | 58 => 174 | 33 => 120 | n => n, fun | n => n⟩
def sortAR : Go.Shelf.Ren := ⟨fun | 5 => 54 | 8 => 68 | 7 => 67 | 19 => 84 | 20 => 85 | 10 => 75 | 11 => 76 | 12 => 77 | 13 => 78 | 14 => 79 | 15 => 80 | 16 => 81 | 17 => 82 | 18 => 83 | 30 => 92 | 31 => 93 | 32 => 94 | 33 => 95 | 34 => 96 | 35 => 97 | 40 => 100 | n => n, fun | 23 => 34 | 25 => 3 | 3 => 3 | 32 => 136 | 22 => 34 | 0 => 0 | 44 => 159 | 46 => 138 | 4 => 4 | 36 => 152 | 35 => 151 | 41 => 103 | 5 => 5 | 9 => 9 | 53 => 167 | 57 => 171 | 63 => 173 | 64 => 174 | n => n, fun | n => n⟩
set_option maxRecDepth 100000 in
theorem keysA : SlLaysZI.n7 Tryd.prog keysAR := { mixed := by kernel_rfl, f7 := ⟨Tryd.f35.name, by decide, Tryd.func35.trans (congrArg some (by kernel_rfl))⟩, f10 := ⟨Tryd.f55.name, by decide, Tryd.func55.trans (congrArg some (by kernel_rfl))⟩, t0 := Tryd.underlying0, a0 := Tryd.isAgg0, z0 := Tryd.sizeOf0, v0 := Tryd.zeroValue0, t4 := Tryd.underlying4, a4 := Tryd.isAgg4, z4 := Tryd.sizeOf4, v4 := Tryd.zeroValue4, t23 := Tryd.underlying75, a23 := Tryd.isAgg75, z23 := Tryd.sizeOf75, v23 := Tryd.zeroValue75, t26 := Tryd.underlying3, a26 := Tryd.isAgg3, z26 := Tryd.sizeOf3, v26 := Tryd.zeroValue3, t27 := Tryd.underlying100, a27 := Tryd.isAgg100, z27 := Tryd.sizeOf100, v27 := Tryd.zeroValue100, t28 := Tryd.underlying101, a28 := Tryd.isAgg101, z28 := Tryd.sizeOf101, v28 := Tryd.zeroValue101, t33 := Tryd.underlying120, a33 := Tryd.isAgg120, z33 := Tryd.sizeOf120, v33 := Tryd.zeroValue120 }
set_option maxRecDepth 100000 in
theorem sortedA : SlLaysZI.n6 Tryd.prog sortedAR := { mixed := by kernel_rfl, f6 := ⟨Tryd.f34.name, by decide, Tryd.func34.trans (congrArg some (by kernel_rfl))⟩, f8 := ⟨Tryd.f53.name, by decide, Tryd.func53.trans (congrArg some (by kernel_rfl))⟩, f11 := ⟨Tryd.f66.name, by decide, Tryd.func66.trans (congrArg some (by kernel_rfl))⟩, t0 := Tryd.underlying0, a0 := Tryd.isAgg0, z0 := Tryd.sizeOf0, v0 := Tryd.zeroValue0, t24 := Tryd.underlying34, a24 := Tryd.isAgg34, z24 := Tryd.sizeOf34, v24 := Tryd.zeroValue34, t26 := Tryd.underlying3, a26 := Tryd.isAgg3, z26 := Tryd.sizeOf3, v26 := Tryd.zeroValue3, t28 := Tryd.underlying101, a28 := Tryd.isAgg101, z28 := Tryd.sizeOf101, v28 := Tryd.zeroValue101, i26 := by kernel_rfl }
set_option maxRecDepth 100000 in
theorem sortA : SlLaysM.n5 Tryd.prog sortAR := { mixed := by kernel_rfl, f5 := ⟨Tryd.f54.name, by decide, Tryd.func54.trans (congrArg some (by kernel_rfl))⟩, f7 := ⟨Tryd.f67.name, by decide, Tryd.func67.trans (congrArg some (by kernel_rfl))⟩, f8 := Tryd.func68.trans (congrArg some (by kernel_rfl)), f10 := ⟨Tryd.f75.name, by decide, Tryd.func75.trans (congrArg some (by kernel_rfl))⟩, f11 := ⟨Tryd.f76.name, by decide, Tryd.func76.trans (congrArg some (by kernel_rfl))⟩, f12 := ⟨Tryd.f77.name, by decide, Tryd.func77.trans (congrArg some (by kernel_rfl))⟩, f13 := ⟨Tryd.f78.name, by decide, Tryd.func78.trans (congrArg some (by kernel_rfl))⟩, f14 := ⟨Tryd.f79.name, by decide, Tryd.func79.trans (congrArg some (by kernel_rfl))⟩, f15 := ⟨Tryd.f80.name, by decide, Tryd.func80.trans (congrArg some (by kernel_rfl))⟩, f16 := ⟨Tryd.f81.name, by decide, Tryd.func81.trans (congrArg some (by kernel_rfl))⟩, f17 := ⟨Tryd.f82.name, by decide, Tryd.func82.trans (congrArg some (by kernel_rfl))⟩, f18 := ⟨Tryd.f83.name, by decide, Tryd.func83.trans (congrArg some (by kernel_rfl))⟩, f19 := Tryd.func84.trans (congrArg some (by kernel_rfl)), f20 := Tryd.func85.trans (congrArg some (by kernel_rfl)), f30 := ⟨Tryd.f92.name, by decide, Tryd.func92.trans (congrArg some (by kernel_rfl))⟩, f31 := Tryd.func93.trans (congrArg some (by kernel_rfl)), f32 := Tryd.func94.trans (congrArg some (by kernel_rfl)), f33 := ⟨Tryd.f95.name, by decide, Tryd.func95.trans (congrArg some (by kernel_rfl))⟩, f34 := ⟨Tryd.f96.name, by decide, Tryd.func96.trans (congrArg some (by kernel_rfl))⟩, f35 := ⟨Tryd.f97.name, by decide, Tryd.func97.trans (congrArg some (by kernel_rfl))⟩, f40 := ⟨Tryd.f100.name, by decide, Tryd.func100.trans (congrArg some (by kernel_rfl))⟩, t0 := Tryd.underlying0, a0 := Tryd.isAgg0, z0 := Tryd.sizeOf0, v0 := Tryd.zeroValue0, t3 := Tryd.underlying3, a3 := Tryd.isAgg3, z3 := Tryd.sizeOf3, v3 := Tryd.zeroValue3, t4 := Tryd.underlying4, a4 := Tryd.isAgg4, z4 := Tryd.sizeOf4, v4 := Tryd.zeroValue4, t5 := Tryd.underlying5, a5 := Tryd.isAgg5, z5 := Tryd.sizeOf5, v5 := Tryd.zeroValue5, t9 := Tryd.underlying9, a9 := Tryd.isAgg9, z9 := Tryd.sizeOf9, v9 := Tryd.zeroValue9, t22 := Tryd.underlying34, a22 := Tryd.isAgg34, z22 := Tryd.sizeOf34, v22 := Tryd.zeroValue34, t23 := Tryd.underlying34, a23 := Tryd.isAgg34, z23 := Tryd.sizeOf34, v23 := Tryd.zeroValue34, t25 := Tryd.underlying3, a25 := Tryd.isAgg3, z25 := Tryd.sizeOf3, v25 := Tryd.zeroValue3, t32 := Tryd.underlying136, a32 := Tryd.isAgg136, z32 := Tryd.sizeOf136, v32 := Tryd.zeroValue136, t35 := Tryd.underlying151, a35 := Tryd.isAgg151, z35 := Tryd.sizeOf151, v35 := Tryd.zeroValue151, t36 := Tryd.underlying152, a36 := Tryd.isAgg152, z36 := Tryd.sizeOf152, v36 := Tryd.zeroValue152, t41 := Tryd.underlying103, a41 := Tryd.isAgg103, z41 := Tryd.sizeOf103, v41 := Tryd.zeroValue103, t44 := Tryd.underlying159, a44 := Tryd.isAgg159, z44 := Tryd.sizeOf159, v44 := Tryd.zeroValue159, t46 := Tryd.underlying138, a46 := Tryd.isAgg138, z46 := Tryd.sizeOf138, v46 := Tryd.zeroValue138, t53 := Tryd.underlying167, a53 := Tryd.isAgg167, z53 := Tryd.sizeOf167, v53 := Tryd.zeroValue167, t57 := Tryd.underlying171, a57 := Tryd.isAgg171, z57 := Tryd.sizeOf171, v57 := Tryd.zeroValue171, t63 := Tryd.underlying173, a63 := Tryd.isAgg173, z63 := Tryd.sizeOf173, v63 := Tryd.zeroValue173, t64 := Tryd.underlying174, a64 := Tryd.isAgg174, z64 := Tryd.sizeOf174, v64 := Tryd.zeroValue174 }


theorem sortsA (m : Nat) : AnyZI.SortsIn Tryd.prog sortedAR Fence.wide m :=
  ⟨fun blk off cap ss W hH hblk hsz => callsIn_wide.2 (AnyM.slices_Sort_int sortA blk off cap ss W hH hblk hsz),
   fun p cap W => callsIn_wide.2 (AnyM.slices_Sort_int_none sortA p cap W)⟩
theorem mapsKeys (mb : Option Nat) (W : World) : CallsIn Fence.wide 5 Tryd.prog 35 #[.map mb] W fun e w' => e = .returned (.func (.func 55) #[] #[.pointer (some ⟨W.heap.size, 0, none⟩)]) ∧ w' = W.alloc (.cells #[.map mb] 75) :=
  AnyZI.keys_in keysA Fence.wide 5 trivial rfl mb W
def srt (ss : List Int) : List Int := ss.mergeSort (fun x y => decide (x ≤ y))
set_option maxHeartbeats 1000000 in
theorem sortedKeys {H : Type} (b nn : Nat) (D0 : DataW H) (R : Value → Option (DataW H × List MemPlace)) (w : World) (hown : w.ownsMap Tryd.prog 3 R b nn D0) (hmax : Maps.size D0 ≤ maxLen) (hbytes : Maps.size D0 * 8 ≤ 140737488355328) :
    CallsIn Fence.wide 5 Tryd.prog 34 #[.func (.func 55) #[] #[.pointer (some ⟨w.heap.size, 0, none⟩)]] (w.alloc (.cells #[.map (some b)] 75)) fun e w' => ∃ (v : Value) (ss : List Int), e = .returned v ∧ ss.Perm (intKeys D0) ∧
      w'.ownsRow (w.alloc (.cells #[.map (some b)] 75)).heap.size 3 1 v ss.length ((srt ss).map encZ) ∧ (v = .slice none 0 0 ↔ ss = []) ∧ Below (w.alloc (.cells #[.map (some b)] 75)).heap.size (w.alloc (.cells #[.map (some b)] 75)) w' := by
  have hbl := hown.lt
  have hseq : SeqGives Fence.wide 2 Tryd.prog 55 #[.pointer (some ⟨w.heap.size, 0, none⟩)] encZ (fun ss => ss.Perm (intKeys D0)) (Maps.size D0) (w.alloc (.cells #[.map (some b)] 75)) :=
    AnyZI.keys_gives (ρ := keysAR) { keysA with } Fence.wide _ trivial rfl (by omega) w.heap.size b nn D0 _ (by simp) (by simp) (by
      obtain ⟨es, clock, hb, Ft, hs, hD⟩ := hown
      exact ⟨es, clock, (Below.heap_alloc _ _ b hbl).trans hb, Ft, hs, hD⟩)
  exact AnyZI.sorted_in sortedA Fence.wide 5 trivial trivial trivial trivial rfl (by omega) (sortsA _) (enters_of Tryd.func54 (by kernel_rfl) rfl) 55 #[.pointer (some ⟨w.heap.size, 0, none⟩)] trivial (enters_of Tryd.func55 (by kernel_rfl) rfl) _ _ hmax hbytes _ hseq
set_option maxHeartbeats 1000000 in
theorem sortedKeysNil (w : World) :
    CallsIn Fence.wide 5 Tryd.prog 34 #[.func (.func 55) #[] #[.pointer (some ⟨w.heap.size, 0, none⟩)]] (w.alloc (.cells #[.map none] 75)) fun e w' => ∃ (v : Value) (ss : List Int), e = .returned v ∧ ss = [] ∧
      w'.ownsRow (w.alloc (.cells #[.map none] 75)).heap.size 3 1 v ss.length ((srt ss).map encZ) ∧ (v = .slice none 0 0 ↔ ss = []) ∧ Below (w.alloc (.cells #[.map none] 75)).heap.size (w.alloc (.cells #[.map none] 75)) w' := by
  have hseq : SeqGives Fence.wide 2 Tryd.prog 55 #[.pointer (some ⟨w.heap.size, 0, none⟩)] encZ (fun ss : List Int => ss = []) 0 (w.alloc (.cells #[.map none] 75)) :=
    AnyZI.keys_gives_nil (ρ := keysAR) { keysA with } Fence.wide _ trivial rfl w.heap.size _ (by simp) (by simp)
  exact AnyZI.sorted_in sortedA Fence.wide 5 trivial trivial trivial trivial rfl (by omega) (sortsA _) (enters_of Tryd.func54 (by kernel_rfl) rfl) 55 #[.pointer (some ⟨w.heap.size, 0, none⟩)] trivial (enters_of Tryd.func55 (by kernel_rfl) rfl) _ 0 (Nat.zero_le _) (by omega) _ hseq

variable {D : Nat} {w w' : World} {p : Nat} {s : Sg} {n c pd : Nat} {mv : Value} {G : Nat → Prop}
/- the IDs of tasks, rising -/
structure Kn (T : TM) (L : List Int) : Prop where
  mem : ∀ k, k ∈ L ↔ (T k).isSome = true
  ord : L.Pairwise (fun x y => x < y)
theorem TkD.size_le {b n : Nat} {D0 : DataW Value} (h : MapA w b n D0) : Maps.size D0 ≤ n := by
  obtain ⟨es, clock, hb, F, hs, hD⟩ := h
  rw [hD]
  simp [Maps.size, length_sorted]
  exact hs

theorem intKeys_mem {b n : Nat} {D0 : DataW Value} (h : MapA w b n D0) : (intKeys D0).Nodup ∧ ∀ x, x ∈ intKeys D0 ↔ Maps.has D0 (.int .i64 x) = true := by
  obtain ⟨es, hD, hpw, _⟩ := World.ownsMap.entries h law3
  obtain ⟨es', hD', hko⟩ := World.ownsMap.keysOf h
  obtain rfl : es = es' := by rw [hD] at hD'; simpa using hD'
  subst hD
  have hk : ∀ p ∈ es, ∃ x, p.1 = .int .i64 x := fun p hp => by obtain ⟨v, hv⟩ := hko p hp; obtain ⟨x, _, hx, _⟩ := Maps.keyOf_i64 Tryd.underlying3 hv; exact ⟨x, hx⟩
  refine ⟨?_, fun x => ?_⟩
  · show (es.map fun p => Go.intOf p.1).Nodup
    refine List.pairwise_map.2 (hpw.imp_of_mem fun {p q} hp' hq' hne e => hne ?_)
    obtain ⟨a, ha⟩ := hk p hp'
    obtain ⟨b, hb⟩ := hk q hq'
    rw [ha, hb] at e ⊢
    exact congrArg _ e
  · rw [has_eq, List.any_eq_true]
    show x ∈ es.map (fun p => Go.intOf p.1) ↔ _
    rw [List.mem_map]
    constructor
    · rintro ⟨p, hp', rfl⟩
      obtain ⟨a, ha⟩ := hk p hp'
      exact ⟨p, hp', by rw [ha]; simp [Lit.sameKey, Go.intOf]⟩
    · rintro ⟨p, hp', hs⟩
      obtain ⟨a, ha⟩ := hk p hp'
      rw [ha] at hs
      exact ⟨p, hp', by rw [ha]; simpa [Lit.sameKey, Go.intOf] using hs⟩
theorem intKeys_len (D0 : DataW Value) : (intKeys D0).length ≤ Maps.size D0 := by
  cases D0 <;> simp [intKeys, Maps.size]
theorem srt_kn {b n : Nat} {D0 : DataW Value} {T : TM} (h : MapA w b n D0) (ht : TkD D0 T) {ss : List Int} (hp : ss.Perm (intKeys D0)) : Kn T (srt ss) := by
  obtain ⟨hnd, hm⟩ := intKeys_mem h
  have hp2 : (srt ss).Perm (intKeys D0) := (List.mergeSort_perm ss _).trans hp
  refine ⟨fun k => by rw [hp2.mem_iff, hm, ht.has], ?_⟩
  have h1 : (srt ss).Pairwise (fun x y => x ≤ y) := by
    have := List.pairwise_mergeSort (le := fun x y : Int => decide (x ≤ y)) (fun a b c h1 h2 => by simp at *; omega) (fun a b => by simp; omega) ss
    exact this.imp (fun h => by simpa using h)
  have h2 : (srt ss).Nodup := hp2.nodup_iff.2 hnd
  exact (h1.and h2).imp (fun ⟨a, b⟩ => by have : _ ≠ _ := b; omega)
theorem srt_len (ss : List Int) : (srt ss).length = ss.length := (List.mergeSort_perm ss _).length_eq
theorem srt_nil (ss : List Int) : srt ss = [] ↔ ss = [] := by
  rw [← List.length_eq_zero_iff, srt_len, List.length_eq_zero_iff]
set_option maxHeartbeats 1000000 in
set_option maxRecDepth 100000 in
theorem known_any (h : AgS D w p s n c) (hn : n ≤ 1099511627776) :
    Calls Tryd.prog 21 #[.pointer (some ⟨p, 0, none⟩)] w fun e w' => ∃ (v : Value) (L : List Int), e = .returned v ∧ Kn s.T L ∧ w'.ownsRow w.heap.size 3 1 v L.length (L.map encZ) ∧ L.length ≤ n ∧ Below w.heap.size w w' := by
  obtain ⟨pd, mv, G, h⟩ := h
  have lp := h.b.lt
  have c21 : w.cell? ⟨p, 21, none⟩ = some mv := h.b.at_ 21
  have ht := h.t
  refine (callsIn_wide (n := 6)).1 ?_
  have hfK : Fence.wide.fn 35 := trivial
  have hfS : Fence.wide.fn 34 := trivial
  have cK := mapsKeys
  rcases ht with ⟨rfl, hT⟩ | ⟨b, D0, rfl, hm, hd⟩
  · have cS := sortedKeysNil w
    have HT := hidOf hT
    clear h hT
    refine callsIn_of_wp Tryd.func21 rfl trivial ?_ rfl
    simp only [Tryd.ntmps21, List.size_toArray, List.length_cons, List.length_nil, Nat.reduceAdd, Nat.reduceSub, Array.replicate_succ, Array.replicate_zero, List.push_toArray, List.append_toArray, List.nil_append, List.cons_append]
    gi_wp2_with (first
      | (gi_at_call 35; refine (cK _ _).mono ?_; rintro e w' ⟨rfl, rfl⟩)
      | (gi_at_call 34; refine cS.mono ?_; rintro e w' ⟨v, ss, rfl, hS, hrow, hnil, hb⟩))
    go_ret
    refine ⟨v, srt ss, rfl, ?_, ?_, by rw [srt_len, hS]; exact Nat.zero_le _, ((Below.refl _ w).alloc (Nat.le_refl _) _).trans (hb.mono (by simp))⟩
    · rw [HT.out, hS]; exact ⟨fun k => by simp [tk0, srt], by simp [srt]⟩
    · rw [srt_len]; exact ownsRow_base_a hrow (by simp)
  · have hsz := TkD.size_le hm
    have cS := sortedKeys b n D0 RV w hm (by unfold maxLen; omega) (by omega)
    have HM := hidOf hm
    have HD := hidOf hd
    clear h hm hd
    refine callsIn_of_wp Tryd.func21 rfl trivial ?_ rfl
    simp only [Tryd.ntmps21, List.size_toArray, List.length_cons, List.length_nil, Nat.reduceAdd, Nat.reduceSub, Array.replicate_succ, Array.replicate_zero, List.push_toArray, List.append_toArray, List.nil_append, List.cons_append]
    gi_wp2_with (first
      | (gi_at_call 35; refine (cK _ _).mono ?_; rintro e w' ⟨rfl, rfl⟩)
      | (gi_at_call 34; refine cS.mono ?_; rintro e w' ⟨v, ss, rfl, hS, hrow, hnil, hb⟩))
    go_ret
    exact ⟨v, srt ss, rfl, srt_kn HM.out HD.out hS, by rw [srt_len]; exact ownsRow_base_a hrow (by simp), by rw [srt_len, hS.length_eq]; exact Nat.le_trans (intKeys_len D0) hsz, ((Below.refl _ w).alloc (Nat.le_refl _) _).trans (hb.mono (by simp))⟩

end Go.Proofs.YtkienmncifonnaaDoor
