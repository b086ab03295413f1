/- What the calls of a disk ask first; copies of bytes. -/
import Derived.Test.YtkienmncifonnaaDoorDdo
import Derived.LoopTactic
namespace Go.Proofs.YtkienmncifonnaaDoor
open Go.RowKit Go.Maps

def okNames (L : List ByteArray) : Bool := L.all fun s => nameL s.data.toList
def refE (L : List ByteArray) (left : Int) : Int := if okNames L = true then (if left = 0 then 11 else 0) else 1
set_option maxHeartbeats 1000000 in
theorem refusal_any (p bF bD g : Nat) (dn : Value) (left : Int) (L : List ByteArray) (cap : Nat) (w : World) (hd : DskB w p bF bD dn left) (hg : ∀ i s, L[i]? = some s → w.cell? ⟨g, i, none⟩ = some (.string s)) (hgl : g < w.heap.size) (hl : L.length ≤ 4) : Calls Tryd.prog 43 #[.pointer (some ⟨p, 0, none⟩), .slice (some ⟨g, 0, none⟩) L.length cap] w fun e w' => e = .returned (.int .i64 (refE L left)) ∧ w' = w := by
  have HG := hidOf hg
  have HD := hidOf hd
  have hcut := hidOf (isCut_any p bF bD dn left w hd)
  clear hg hd
  go_enter Tryd.func43, Tryd.ntmps43
  go_wp2
  go_loop [9] (fun i => ∃ k : Nat, k ≤ L.length ∧ i = .int .i64 (k : Int) ∧ Hid (∀ j s, j < k → L[j]? = some s → nameL s.data.toList = true)) (fun i => L.length - (intOf i).toNat)
  case atStart => exact ⟨0, Nat.zero_le _, rfl, hidOf (fun j s h _ => by omega)⟩
  case round =>
    obtain ⟨k, hk, rfl, H⟩ := hrel
    by_cases hlt : k < L.length
    · have hltz : (k : Int) < (L.length : Int) := by omega
      obtain ⟨s, hs⟩ : ∃ s, L[k]? = some s := ⟨_, List.getElem?_eq_getElem hlt⟩
      have c0 := HG.out k s hs
      have HS := hidOf hs
      clear hs
      cases hn : nameL s.data.toList with
      | true =>
        have HN := hidOf hn
        have hc := hidOf (isName_any s w)
        rw [hn] at hc
        clear hn
        go_wp2_with (go_at_call 38; refine hc.out.mono ?_; rintro e w' ⟨rfl, rfl⟩)
        go_round
        case rel =>
          refine ⟨k + 1, by omega, by go_num, hidOf (fun j t hj ht => ?_)⟩
          by_cases e : j < k
          · exact H.out j t e ht
          · have : j = k := by omega
            subst this
            rw [HS.out] at ht
            cases ht
            exact HN.out
        case measure => simp [intOf]; omega
      | false =>
        have HN := hidOf hn
        have hc := hidOf (isName_any s w)
        rw [hn] at hc
        clear hn
        go_wp2_with (go_at_call 38; refine hc.out.mono ?_; rintro e w' ⟨rfl, rfl⟩)
        go_ret
        refine ⟨?_, rfl⟩
        have : okNames L = false := by
          unfold okNames
          rw [List.all_eq_false]
          exact ⟨s, List.mem_of_getElem? HS.out, by simp [HN.out]⟩
        unfold refE
        rw [this]
        rfl
    · have hltz : ¬ (k : Int) < (L.length : Int) := by omega
      have hok : okNames L = true := by
        unfold okNames
        rw [List.all_eq_true]
        intro s hs
        obtain ⟨i, hi, rfl⟩ := List.getElem_of_mem hs
        exact H.out i _ (by omega) (List.getElem?_eq_getElem hi)
      have HOK := hidOf hok
      clear hok
      by_cases h0 : left = 0
      · have e0 : decide (left = 0) = true := by simp [h0]
        rw [e0] at hcut
        have HZ := hidOf h0
        clear e0 h0
        go_wp2_with (go_at_call 49; refine hcut.out.mono ?_; rintro e w' ⟨rfl, rfl⟩)
        go_ret
        refine ⟨?_, rfl⟩
        unfold refE
        rw [if_pos HOK.out, if_pos HZ.out]
        rfl
      · have e0 : decide (left = 0) = false := by simp [h0]
        rw [e0] at hcut
        have HZ := hidOf h0
        clear e0 h0
        go_wp2_with (go_at_call 49; refine hcut.out.mono ?_; rintro e w' ⟨rfl, rfl⟩)
        go_ret
        refine ⟨?_, rfl⟩
        unfold refE
        rw [if_pos HOK.out, if_neg HZ.out]
        rfl

def roomB (sz : Int) (hs : Bool) (m : Nat) : Bool := decide (sz ≤ 1048576) && (hs || decide (m < 64))
set_option maxHeartbeats 1000000 in
set_option maxRecDepth 100000 in
theorem hasRoom_any (p bF bD n : Nat) (D : DataW Value) (dn : Value) (left sz : Int) (s : ByteArray) (w : World) (hd : DskB w p bF bD dn left) (hm : MapR w bF n D) (hs : s.size ≤ maxLen) : Calls Tryd.prog 44 #[.pointer (some ⟨p, 0, none⟩), .string s, .int .i64 sz] w fun e w' => e = .returned (.bool (roomB sz (Maps.has D (.string s.data.toList)) (Maps.size D))) ∧ w' = w := by
  have hc := has_any p bF bD n D dn left s w hd hm hs
  change Calls _ _ _ _ fun e w' => e = .returned (.bool (Maps.has D (.string s.data.toList))) ∧ _ at hc
  have c0 := hd.c0
  have lp := hd.lt
  have hlen : (Builtin.len_ #[79] 3 #[.map (some bF)]).run Tryd.prog w = .ok (.int .i64 (Maps.size D)) w := World.ownsMap.len hm Tryd.underlying79 3
  clear hd hm
  generalize Maps.has D (.string s.data.toList) = d at *
  generalize Maps.size D = m at *
  have hc := hidOf hc
  by_cases h1 : sz ≤ 1048576
  · cases d
    · by_cases h2 : m < 64
      · have e : roomB sz false m = true := by simp [roomB, h1, h2]
        have h2z : (m : Int) < 64 := by omega
        rw [e]
        go_enter Tryd.func44, Tryd.ntmps44
        go_wp2_with (go_at_call 64; refine hc.out.mono ?_; rintro e w' ⟨rfl, rfl⟩)
        go_ret
        exact ⟨rfl, rfl⟩
      · have e : roomB sz false m = false := by simp [roomB, h2]
        have h2z : decide ((m : Int) < 64) = false := by simp; omega
        rw [e]
        go_enter Tryd.func44, Tryd.ntmps44
        go_wp2_with (go_at_call 64; refine hc.out.mono ?_; rintro e w' ⟨rfl, rfl⟩)
        go_ret
        exact ⟨rfl, rfl⟩
    · have e : roomB sz true m = true := by simp [roomB, h1]
      rw [e]
      go_enter Tryd.func44, Tryd.ntmps44
      go_wp2_with (go_at_call 64; refine hc.out.mono ?_; rintro e w' ⟨rfl, rfl⟩)
      go_ret
      exact ⟨rfl, rfl⟩
  · have e : roomB sz d m = false := by simp [roomB, h1]
    rw [e]
    go_enter Tryd.func44, Tryd.ntmps44
    go_wp2_with (go_at_call 64; refine hc.out.mono ?_; rintro e w' ⟨rfl, rfl⟩)
    go_ret
    exact ⟨rfl, rfl⟩

theorem eqNilNo (a : Addr) (n cap : Nat) (w : World) : (binOp .eql 38 (.slice (some a) n cap) (.slice none 0 0)).run Tryd.prog w = .ok (.bool false) w := by
  have e : ∃ d, Op.maxDepth = d + 1 := ⟨Op.maxDepth - 1, by decide⟩
  obtain ⟨d, e⟩ := e
  unfold binOp Op.equal
  rw [e]
  simp [go_sem, Op.equalIn, run_underlying Tryd.underlying38]
theorem eqNilYes (n cap : Nat) (w : World) : (binOp .eql 38 (.slice none n cap) (.slice none 0 0)).run Tryd.prog w = .ok (.bool true) w := by
  have e : ∃ d, Op.maxDepth = d + 1 := ⟨Op.maxDepth - 1, by decide⟩
  obtain ⟨d, e⟩ := e
  unfold binOp Op.equal
  rw [e]
  simp [go_sem, Op.equalIn, run_underlying Tryd.underlying38]
theorem wpList_append_s {ops : Array Oper} {rest : List Oper} {o : Oper} {a : Act} {Q : Exit → Act → World → Prop} (w : World) (hgd : o.guard = none) (s x : Operand)
    (ho : o.op = .call { callee := .builtin .append, args := #[s, x], argTypes := #[38, 38] })
    (v : Value) (l : List UInt8) (hs : a.eval s = v) (hown : SlR w v l) (xv : Value) (news : List UInt8) (hx : a.eval x = xv) (hsrc : Src Tryd.prog 1 38 xv news.length (vals news) w) (hlen : l.length + news.length ≤ 211106232532992)
    (h : ∀ v' w', SlR w' v' (l ++ news) → App w w' none v v' → wpList Tryd.prog ops Q rest (a.put o.dst v') w') : wpList Tryd.prog ops Q (o :: rest) a w :=
  wpList_plain hgd fun _ hK => oper_append_s w s x ho v l hs hown xv news hx hsrc hlen fun v' w' h1 h2 => hK _ _ (h v' w' h1 h2)
theorem SlR.empty (w : World) : SlR (w.alloc (.cells #[] 5)) (.slice (some ⟨w.heap.size, 0, none⟩) 0 0) [] :=
  .inr ⟨w.heap.size, 0, #[], rfl, heap_alloc_new w _, Nat.le_refl _, by simp, by unfold maxLen; simp, rfl⟩
/- a copy of bytes, in a row of its own -/
def Frs (w : World) (z : Value) : Prop := ∀ k, z.ownBlock = some k → w.heap.size ≤ k
set_option maxHeartbeats 1000000 in
set_option maxRecDepth 100000 in
theorem bclone_any (a : Option Addr) (cap : Nat) (d : List UInt8) (w : World) (hB : Bs w a d) (hn : a = none → d = []) : Calls Tryd.prog 39 #[.slice a d.length cap] w fun e w' => ∃ z, e = .returned z ∧ SlR w' z d ∧ Frs w z ∧ Below w.heap.size w w' := by
  cases a with
  | none =>
    have hd := hn rfl
    subst hd
    clear hn hB
    have heq := eqNilYes 0 cap w
    change Calls Tryd.prog 39 #[.slice none 0 cap] w _
    go_enter Tryd.func39, Tryd.ntmps39
    go_wp2
    go_ret
    exact ⟨_, rfl, SlR.nil _, fun k hk => (by cases hk), Below.refl _ _⟩
  | some a =>
    have HB := hidOf hB
    have hl := hB.1
    clear hn hB
    have heq := eqNilNo a d.length cap w
    go_enter Tryd.func39, Tryd.ntmps39
    go_wp2_with (at_builtin; refine wpList_append_s _ rfl (.tmp 5) (.tmp 6) rfl (.slice (some ⟨w.heap.size, 0, none⟩) 0 0) [] rfl (SlR.empty w) (.slice (some a) d.length cap) d rfl ((HB.out.alloc _).src Tryd.underlying38 cap) (by simpa using hl) ?_; intro z w2 hz hap)
    go_ret
    have hb : Below w.heap.size w w2 := ((Below.refl _ w).alloc (Nat.le_refl _) _).trans ⟨hap.os, hap.tape, hap.output, hap.size, fun k hk => hap.block k (by simp; omega) (by simp) (fun h => absurd h (Nat.lt_irrefl 0))⟩
    refine ⟨z, rfl, by simpa using hz, fun k hk => ?_, hb⟩
    rcases hap.new with ⟨e1, _, _⟩ | ⟨k', e1, e2⟩
    · rw [hk] at e1
      have : k = w.heap.size := by simpa [Value.ownBlock] using e1
      omega
    · rw [hk] at e1
      cases e1
      simp at e2
      omega
end Go.Proofs.YtkienmncifonnaaDoor
