/- slices.Clone of each kind of list. -/
import Derived.Test.YtkokkdekbilkjaaPk
namespace Go.Proofs.Ytkokkdekbilkjaa
open Go.RowKit Go.Shelf
attribute [local go_sem] Oper.semAt_some
/- onto an empty list: a new row, or that list -/
theorem run_app0s {lo : Nat} (w : World) (t e ty : TypeId) (i : TypeInfo) (z : Value) (ht : Try.prog.underlying t = some (.slice e)) (hi : Try.prog.info? e = some i) (hz : i.zero = some z) (hzs : z.cells.size = i.size) (ad : Nat) (hlo : lo ≤ ad) (had : w.heap[ad]? = some (.cells #[] e (0, 0))) (hle : lo ≤ w.heap.size) (x : Value) (n : Nat) (news : List Value) (hs : Src Try.prog i.size t x n news w) (hn : n * i.bytes ≤ 140737488355328) (hnb : n ≤ 140737488355328) :
    ∃ v' w', (Builtin.append_ #[t, t] ty #[.slice (some ⟨ad, 0, none⟩) 0 0, x]).run Try.prog w = .ok v' w' ∧ Below w.heap.size w w' ∧ w'.ownsRow lo e i.size v' n news := by
  rcases Nat.eq_zero_or_pos n with h0 | h0
  · subst h0
    have hnil : news = [] := List.eq_nil_of_length_eq_zero (by rw [hs.newsLen]; omega)
    subst hnil
    refine ⟨.slice (some ⟨ad, 0, none⟩) 0 0, w, ?_, Below.refl _ _, by simp, .inr ⟨ad, 0, #[], rfl, hlo, had, Nat.le_refl _, by unfold maxLen; simp, by simp, by simp⟩⟩
    have hl : (Builtin.lenOf x).run Try.prog w = .ok 0 w := hs.len w
    have hc := hs.cells
    rcases hs.kind with ⟨e', hk⟩ | hk <;> simp [Builtin.append_, run_underlying ht, sizeOf, typeInfo, hi, hl, hc, storeCells]
  · have hr := run_append_grow_src (P := Try.prog) w t t ty e i z ht hi hz (some ⟨ad, 0, none⟩) 0 0 [] (run_firstCells_some w.drew i.size 0 ⟨ad, 0, none⟩ 0 0 [] (by simp) (by intro j v hj; simp at hj)) x n news hs (by omega) (by omega) (growslice_fits (by omega) (by simpa using hn))
    simp only [Nat.zero_add] at hr
    have hg := grownCap_ge w n 0 e
    have hm : grownCap w n 0 e ≤ maxLen := grownCap_le_maxLen w _ 0 e (by unfold maxLen; omega)
    refine ⟨_, _, hr, ((bdrew w).alloc (by simp) _), hs.newsLen, .inr ⟨_, _, _, rfl, hle, heap_alloc_new w.drew _, hg, hm, ?_, ?_⟩⟩
    · simp only [Array.size_append, List.size_toArray, List.nil_append, size_zeroCells, hzs, hs.newsLen]
      rw [← Nat.add_mul, Nat.add_sub_of_le hg]
    · have ht2 : ∀ (r : Array Value), (news.toArray ++ r).toList.take (n * i.size) = news := fun r => by
        rw [Array.toList_append, ← hs.newsLen]
        simp
      exact ht2 _
theorem wpList_app0s {ops : Array Oper} {rest : List Oper} {o : Oper} {a : Act} {Q : Exit → Act → World → Prop} (w : World) (hgd : o.guard = none) (s x : Operand) (t : TypeId) (ho : o.op = .call { callee := .builtin .append, args := #[s, x], argTypes := #[t, t] })
    (e : TypeId) (z : Value) (k y : Nat) (ht : Try.prog.underlying t = some (.slice e)) (hinfo : (Try.prog.info? e).map (fun i => (i.zero, i.size, i.bytes)) = some (some z, k, y)) (hzs : z.cells.size = k) {α : Type} (cs : α → List Value) (hk : ∀ x, (cs x).length = k) (h1 : ∀ x, ∀ u ∈ cs x, u.oneCell' = true) (h0 : 0 < k) (h0y : 0 < y)
    (lo b0 : Nat) (hlo : lo ≤ b0) (had : w.heap[b0]? = some (.cells #[] e (0, 0))) (hle : lo ≤ w.heap.size)
    (ad : Option Addr) (L : List α) (cap : Nat) (S : Nat → Prop) (hs : a.eval s = .slice (some ⟨b0, 0, none⟩) 0 0) (hxe : a.eval x = .slice ad L.length cap) (hv : Fl w S k y cs ad L)
    (h : ∀ a' c' w', w'.ownsRow lo e k (.slice a' L.length c') L.length (fl cs L) → Below w.heap.size w w' → wpList Try.prog ops Q rest (a.put o.dst (.slice a' L.length c')) w') : wpList Try.prog ops Q (o :: rest) a w := by
  refine wpList_plain hgd fun K hK => ?_
  obtain ⟨i, hi, hz, e1, e2⟩ := info_parts hinfo
  subst e1
  subst e2
  have hbd := hv.bd
  obtain ⟨v', w', hr1, h2, h3⟩ := run_app0s (lo := lo) w t e o.type i z ht hi hz hzs b0 hlo had hle _ L.length _ (hv.src hk h1 h0 ht cap) hbd (by have : L.length * 1 ≤ L.length * i.bytes := Nat.mul_le_mul_left _ h0y; omega)
  obtain ⟨a', c', rfl⟩ : ∃ a' c', v' = .slice a' L.length c' := by
    rcases h3.2 with ⟨rfl, hn⟩ | ⟨g, cap, cur, rfl, _⟩
    · exact ⟨none, 0, by rw [hn]⟩
    · exact ⟨_, _, rfl⟩
  unfold Oper.wp execOp
  simp only [ho, resolve, invoke, builtin, Sem.run_bind, Sem.run_pure, Result.andThen_ok, List.map_toArray, List.map_cons, List.map_nil, hs, hxe, hr1]
  exact hK _ _ (h a' c' w' h3 h2)
/- what a clone is -/
def CloneP {α : Type} (cs : α → List Value) (e k : Nat) (w : World) (L : List α) (r : Ending) (w' : World) : Prop := ∃ a' c', r = .returned (.slice a' L.length c') ∧ w'.ownsRow w.heap.size e k (.slice a' L.length c') L.length (fl cs L) ∧ Below w.heap.size w w'
theorem Fl.alloc {α : Type} {w : World} {S : Nat → Prop} {k y : Nat} {cs : α → List Value} {a : Option Addr} {L : List α} (h : Fl w S k y cs a L) (hk : ∀ x, (cs x).length = k) (h0 : 0 < k) (o : Obj) : Fl (w.alloc o) (fun _ => True) k y cs a L := by
  refine ⟨h.bd, fun hne => ?_⟩
  obtain ⟨b, off, rfl, hS, hc⟩ := h.pl hne
  have hlen : 0 < L.length := List.length_pos_iff.2 hne
  refine ⟨b, off, rfl, trivial, fun i hi => range_of (hc i hi) ((below1 w o).block b ?_)⟩
  have h1 := hc i hi
  have h2 : 0 < (cs L[i]).length := by rw [hk]; exact h0
  exact cell_lt (h1 0 _ (List.getElem?_eq_getElem h2))
theorem eqNilNo23 (a : Addr) (n cap : Nat) (w : World) : (binOp .eql 23 (.slice (some a) n cap) (.slice none 0 0)).run Try.prog w = .ok (.bool false) w := by
  have e : ∃ d, Op.maxDepth = d + 1 := ⟨Op.maxDepth - 1, by decide⟩
  obtain ⟨d, e⟩ := e
  unfold binOp Op.equal
  rw [e]
  simp [go_sem, Op.equalIn, run_underlying Try.underlying23]
theorem eqNilYes23 (n cap : Nat) (w : World) : (binOp .eql 23 (.slice none n cap) (.slice none 0 0)).run Try.prog w = .ok (.bool true) w := by
  have e : ∃ d, Op.maxDepth = d + 1 := ⟨Op.maxDepth - 1, by decide⟩
  obtain ⟨d, e⟩ := e
  unfold binOp Op.equal
  rw [e]
  simp [go_sem, Op.equalIn, run_underlying Try.underlying23]
set_option maxRecDepth 100000 in
set_option maxHeartbeats 1000000 in
theorem clone66_any (a : Option Addr) (cap : Nat) (L : List Nd) (S : Nat → Prop) (w : World) (hL : Fl w S 8 56 Nd.cs a L) : Calls Try.prog 66 #[.slice a L.length cap] w fun x w' => CloneP Nd.cs 64 8 w L x w' := by
  cases a with
  | none =>
    have hd : L = [] := Classical.byContradiction (fun h => by obtain ⟨b, o, h2, _⟩ := hL.pl h; cases h2)
    subst hd
    clear hL
    have heq := eqNilYes23 0 cap w
    change Calls Try.prog 66 #[.slice none 0 cap] w _
    go_enter Try.func66, Try.ntmps66
    go_wp2
    go_ret
    exact ⟨none, 0, rfl, ⟨by simp [fl], .inl ⟨rfl, rfl⟩⟩, Below.refl _ _⟩
  | some a =>
    have heq := eqNilNo23 a L.length cap w
    have HL := hidOf (hL.alloc Nd.len (by decide) (.cells #[] 64))
    clear hL
    go_enter Try.func66, Try.ntmps66
    go_wp2_with (at_builtin; refine wpList_app0s _ rfl (.tmp 5) (.tmp 6) 23 rfl 64 _ 8 56 Try.underlying23 info64 rfl Nd.cs Nd.len Nd.one (by decide) (by decide) w.heap.size w.heap.size (Nat.le_refl _) (heap_alloc_new w _) (by simp) (some a) L cap (fun _ => True) rfl rfl HL.out ?_; intro a' c' w2 hown hb; have HO := hidOf hown; have HB := hidOf ((below1 w (.cells #[] 64)).trans (hb.mono (by simp))); clear hown hb)
    go_ret
    exact ⟨a', c', rfl, HO.out, HB.out⟩
theorem eqNilNo24 (a : Addr) (n cap : Nat) (w : World) : (binOp .eql 24 (.slice (some a) n cap) (.slice none 0 0)).run Try.prog w = .ok (.bool false) w := by
  have e : ∃ d, Op.maxDepth = d + 1 := ⟨Op.maxDepth - 1, by decide⟩
  obtain ⟨d, e⟩ := e
  unfold binOp Op.equal
  rw [e]
  simp [go_sem, Op.equalIn, run_underlying Try.underlying24]
theorem eqNilYes24 (n cap : Nat) (w : World) : (binOp .eql 24 (.slice none n cap) (.slice none 0 0)).run Try.prog w = .ok (.bool true) w := by
  have e : ∃ d, Op.maxDepth = d + 1 := ⟨Op.maxDepth - 1, by decide⟩
  obtain ⟨d, e⟩ := e
  unfold binOp Op.equal
  rw [e]
  simp [go_sem, Op.equalIn, run_underlying Try.underlying24]
set_option maxRecDepth 100000 in
set_option maxHeartbeats 1000000 in
theorem clone67_any (a : Option Addr) (cap : Nat) (L : List Al) (S : Nat → Prop) (w : World) (hL : Fl w S 11 88 Al.cs a L) : Calls Try.prog 67 #[.slice a L.length cap] w fun x w' => CloneP Al.cs 33 11 w L x w' := by
  cases a with
  | none =>
    have hd : L = [] := Classical.byContradiction (fun h => by obtain ⟨b, o, h2, _⟩ := hL.pl h; cases h2)
    subst hd
    clear hL
    have heq := eqNilYes24 0 cap w
    change Calls Try.prog 67 #[.slice none 0 cap] w _
    go_enter Try.func67, Try.ntmps67
    go_wp2
    go_ret
    exact ⟨none, 0, rfl, ⟨by simp [fl], .inl ⟨rfl, rfl⟩⟩, Below.refl _ _⟩
  | some a =>
    have heq := eqNilNo24 a L.length cap w
    have HL := hidOf (hL.alloc Al.len (by decide) (.cells #[] 33))
    clear hL
    go_enter Try.func67, Try.ntmps67
    go_wp2_with (at_builtin; refine wpList_app0s _ rfl (.tmp 5) (.tmp 6) 24 rfl 33 _ 11 88 Try.underlying24 info33 rfl Al.cs Al.len Al.one (by decide) (by decide) w.heap.size w.heap.size (Nat.le_refl _) (heap_alloc_new w _) (by simp) (some a) L cap (fun _ => True) rfl rfl HL.out ?_; intro a' c' w2 hown hb; have HO := hidOf hown; have HB := hidOf ((below1 w (.cells #[] 33)).trans (hb.mono (by simp))); clear hown hb)
    go_ret
    exact ⟨a', c', rfl, HO.out, HB.out⟩
theorem eqNilNo25 (a : Addr) (n cap : Nat) (w : World) : (binOp .eql 25 (.slice (some a) n cap) (.slice none 0 0)).run Try.prog w = .ok (.bool false) w := by
  have e : ∃ d, Op.maxDepth = d + 1 := ⟨Op.maxDepth - 1, by decide⟩
  obtain ⟨d, e⟩ := e
  unfold binOp Op.equal
  rw [e]
  simp [go_sem, Op.equalIn, run_underlying Try.underlying25]
theorem eqNilYes25 (n cap : Nat) (w : World) : (binOp .eql 25 (.slice none n cap) (.slice none 0 0)).run Try.prog w = .ok (.bool true) w := by
  have e : ∃ d, Op.maxDepth = d + 1 := ⟨Op.maxDepth - 1, by decide⟩
  obtain ⟨d, e⟩ := e
  unfold binOp Op.equal
  rw [e]
  simp [go_sem, Op.equalIn, run_underlying Try.underlying25]
set_option maxRecDepth 100000 in
set_option maxHeartbeats 1000000 in
theorem clone68_any (a : Option Addr) (cap : Nat) (L : List Qd) (S : Nat → Prop) (w : World) (hL : Fl w S 4 32 Qd.cs a L) : Calls Try.prog 68 #[.slice a L.length cap] w fun x w' => CloneP Qd.cs 69 4 w L x w' := by
  cases a with
  | none =>
    have hd : L = [] := Classical.byContradiction (fun h => by obtain ⟨b, o, h2, _⟩ := hL.pl h; cases h2)
    subst hd
    clear hL
    have heq := eqNilYes25 0 cap w
    change Calls Try.prog 68 #[.slice none 0 cap] w _
    go_enter Try.func68, Try.ntmps68
    go_wp2
    go_ret
    exact ⟨none, 0, rfl, ⟨by simp [fl], .inl ⟨rfl, rfl⟩⟩, Below.refl _ _⟩
  | some a =>
    have heq := eqNilNo25 a L.length cap w
    have HL := hidOf (hL.alloc Qd.len (by decide) (.cells #[] 69))
    clear hL
    go_enter Try.func68, Try.ntmps68
    go_wp2_with (at_builtin; refine wpList_app0s _ rfl (.tmp 5) (.tmp 6) 25 rfl 69 _ 4 32 Try.underlying25 info69 rfl Qd.cs Qd.len Qd.one (by decide) (by decide) w.heap.size w.heap.size (Nat.le_refl _) (heap_alloc_new w _) (by simp) (some a) L cap (fun _ => True) rfl rfl HL.out ?_; intro a' c' w2 hown hb; have HO := hidOf hown; have HB := hidOf ((below1 w (.cells #[] 69)).trans (hb.mono (by simp))); clear hown hb)
    go_ret
    exact ⟨a', c', rfl, HO.out, HB.out⟩
theorem eqNilNo26 (a : Addr) (n cap : Nat) (w : World) : (binOp .eql 26 (.slice (some a) n cap) (.slice none 0 0)).run Try.prog w = .ok (.bool false) w := by
  have e : ∃ d, Op.maxDepth = d + 1 := ⟨Op.maxDepth - 1, by decide⟩
  obtain ⟨d, e⟩ := e
  unfold binOp Op.equal
  rw [e]
  simp [go_sem, Op.equalIn, run_underlying Try.underlying26]
theorem eqNilYes26 (n cap : Nat) (w : World) : (binOp .eql 26 (.slice none n cap) (.slice none 0 0)).run Try.prog w = .ok (.bool true) w := by
  have e : ∃ d, Op.maxDepth = d + 1 := ⟨Op.maxDepth - 1, by decide⟩
  obtain ⟨d, e⟩ := e
  unfold binOp Op.equal
  rw [e]
  simp [go_sem, Op.equalIn, run_underlying Try.underlying26]
set_option maxRecDepth 100000 in
set_option maxHeartbeats 1000000 in
theorem clone69_any (a : Option Addr) (cap : Nat) (L : List Qd) (S : Nat → Prop) (w : World) (hL : Fl w S 4 32 Qd.cs a L) : Calls Try.prog 69 #[.slice a L.length cap] w fun x w' => CloneP Qd.cs 73 4 w L x w' := by
  cases a with
  | none =>
    have hd : L = [] := Classical.byContradiction (fun h => by obtain ⟨b, o, h2, _⟩ := hL.pl h; cases h2)
    subst hd
    clear hL
    have heq := eqNilYes26 0 cap w
    change Calls Try.prog 69 #[.slice none 0 cap] w _
    go_enter Try.func69, Try.ntmps69
    go_wp2
    go_ret
    exact ⟨none, 0, rfl, ⟨by simp [fl], .inl ⟨rfl, rfl⟩⟩, Below.refl _ _⟩
  | some a =>
    have heq := eqNilNo26 a L.length cap w
    have HL := hidOf (hL.alloc Qd.len (by decide) (.cells #[] 73))
    clear hL
    go_enter Try.func69, Try.ntmps69
    go_wp2_with (at_builtin; refine wpList_app0s _ rfl (.tmp 5) (.tmp 6) 26 rfl 73 _ 4 32 Try.underlying26 info73 rfl Qd.cs Qd.len Qd.one (by decide) (by decide) w.heap.size w.heap.size (Nat.le_refl _) (heap_alloc_new w _) (by simp) (some a) L cap (fun _ => True) rfl rfl HL.out ?_; intro a' c' w2 hown hb; have HO := hidOf hown; have HB := hidOf ((below1 w (.cells #[] 73)).trans (hb.mono (by simp))); clear hown hb)
    go_ret
    exact ⟨a', c', rfl, HO.out, HB.out⟩
theorem eqNilNo27 (a : Addr) (n cap : Nat) (w : World) : (binOp .eql 27 (.slice (some a) n cap) (.slice none 0 0)).run Try.prog w = .ok (.bool false) w := by
  have e : ∃ d, Op.maxDepth = d + 1 := ⟨Op.maxDepth - 1, by decide⟩
  obtain ⟨d, e⟩ := e
  unfold binOp Op.equal
  rw [e]
  simp [go_sem, Op.equalIn, run_underlying Try.underlying27]
theorem eqNilYes27 (n cap : Nat) (w : World) : (binOp .eql 27 (.slice none n cap) (.slice none 0 0)).run Try.prog w = .ok (.bool true) w := by
  have e : ∃ d, Op.maxDepth = d + 1 := ⟨Op.maxDepth - 1, by decide⟩
  obtain ⟨d, e⟩ := e
  unfold binOp Op.equal
  rw [e]
  simp [go_sem, Op.equalIn, run_underlying Try.underlying27]
set_option maxRecDepth 100000 in
set_option maxHeartbeats 1000000 in
theorem clone70_any (a : Option Addr) (cap : Nat) (L : List Ss) (S : Nat → Prop) (w : World) (hL : Fl w S 5 56 Ss.cs a L) : Calls Try.prog 70 #[.slice a L.length cap] w fun x w' => CloneP Ss.cs 52 5 w L x w' := by
  cases a with
  | none =>
    have hd : L = [] := Classical.byContradiction (fun h => by obtain ⟨b, o, h2, _⟩ := hL.pl h; cases h2)
    subst hd
    clear hL
    have heq := eqNilYes27 0 cap w
    change Calls Try.prog 70 #[.slice none 0 cap] w _
    go_enter Try.func70, Try.ntmps70
    go_wp2
    go_ret
    exact ⟨none, 0, rfl, ⟨by simp [fl], .inl ⟨rfl, rfl⟩⟩, Below.refl _ _⟩
  | some a =>
    have heq := eqNilNo27 a L.length cap w
    have HL := hidOf (hL.alloc Ss.len (by decide) (.cells #[] 52))
    clear hL
    go_enter Try.func70, Try.ntmps70
    go_wp2_with (at_builtin; refine wpList_app0s _ rfl (.tmp 5) (.tmp 6) 27 rfl 52 _ 5 56 Try.underlying27 info52 rfl Ss.cs Ss.len Ss.one (by decide) (by decide) w.heap.size w.heap.size (Nat.le_refl _) (heap_alloc_new w _) (by simp) (some a) L cap (fun _ => True) rfl rfl HL.out ?_; intro a' c' w2 hown hb; have HO := hidOf hown; have HB := hidOf ((below1 w (.cells #[] 52)).trans (hb.mono (by simp))); clear hown hb)
    go_ret
    exact ⟨a', c', rfl, HO.out, HB.out⟩
theorem eqNilNo22 (a : Addr) (n cap : Nat) (w : World) : (binOp .eql 22 (.slice (some a) n cap) (.slice none 0 0)).run Try.prog w = .ok (.bool false) w := by
  have e : ∃ d, Op.maxDepth = d + 1 := ⟨Op.maxDepth - 1, by decide⟩
  obtain ⟨d, e⟩ := e
  unfold binOp Op.equal
  rw [e]
  simp [go_sem, Op.equalIn, run_underlying Try.underlying22]
theorem eqNilYes22 (n cap : Nat) (w : World) : (binOp .eql 22 (.slice none n cap) (.slice none 0 0)).run Try.prog w = .ok (.bool true) w := by
  have e : ∃ d, Op.maxDepth = d + 1 := ⟨Op.maxDepth - 1, by decide⟩
  obtain ⟨d, e⟩ := e
  unfold binOp Op.equal
  rw [e]
  simp [go_sem, Op.equalIn, run_underlying Try.underlying22]
set_option maxRecDepth 100000 in
set_option maxHeartbeats 1000000 in
theorem clone83_any (a : Option Addr) (cap : Nat) (L : List Js) (S : Nat → Prop) (w : World) (hL : Fl w S 7 72 Js.cs a L) : Calls Try.prog 83 #[.slice a L.length cap] w fun x w' => CloneP Js.cs 55 7 w L x w' := by
  cases a with
  | none =>
    have hd : L = [] := Classical.byContradiction (fun h => by obtain ⟨b, o, h2, _⟩ := hL.pl h; cases h2)
    subst hd
    clear hL
    have heq := eqNilYes22 0 cap w
    change Calls Try.prog 83 #[.slice none 0 cap] w _
    go_enter Try.func83, Try.ntmps83
    go_wp2
    go_ret
    exact ⟨none, 0, rfl, ⟨by simp [fl], .inl ⟨rfl, rfl⟩⟩, Below.refl _ _⟩
  | some a =>
    have heq := eqNilNo22 a L.length cap w
    have HL := hidOf (hL.alloc Js.len (by decide) (.cells #[] 55))
    clear hL
    go_enter Try.func83, Try.ntmps83
    go_wp2_with (at_builtin; refine wpList_app0s _ rfl (.tmp 5) (.tmp 6) 22 rfl 55 _ 7 72 Try.underlying22 info55 rfl Js.cs Js.len Js.one (by decide) (by decide) w.heap.size w.heap.size (Nat.le_refl _) (heap_alloc_new w _) (by simp) (some a) L cap (fun _ => True) rfl rfl HL.out ?_; intro a' c' w2 hown hb; have HO := hidOf hown; have HB := hidOf ((below1 w (.cells #[] 55)).trans (hb.mono (by simp))); clear hown hb)
    go_ret
    exact ⟨a', c', rfl, HO.out, HB.out⟩
theorem eqNilNo53 (a : Addr) (n cap : Nat) (w : World) : (binOp .eql 53 (.slice (some a) n cap) (.slice none 0 0)).run Try.prog w = .ok (.bool false) w := by
  have e : ∃ d, Op.maxDepth = d + 1 := ⟨Op.maxDepth - 1, by decide⟩
  obtain ⟨d, e⟩ := e
  unfold binOp Op.equal
  rw [e]
  simp [go_sem, Op.equalIn, run_underlying Try.underlying53]
theorem eqNilYes53 (n cap : Nat) (w : World) : (binOp .eql 53 (.slice none n cap) (.slice none 0 0)).run Try.prog w = .ok (.bool true) w := by
  have e : ∃ d, Op.maxDepth = d + 1 := ⟨Op.maxDepth - 1, by decide⟩
  obtain ⟨d, e⟩ := e
  unfold binOp Op.equal
  rw [e]
  simp [go_sem, Op.equalIn, run_underlying Try.underlying53]
set_option maxRecDepth 100000 in
set_option maxHeartbeats 1000000 in
theorem clone84_any (a : Option Addr) (cap : Nat) (L : List Gp) (S : Nat → Prop) (w : World) (hL : Fl w S 3 24 Gp.cs a L) : Calls Try.prog 84 #[.slice a L.length cap] w fun x w' => CloneP Gp.cs 57 3 w L x w' := by
  cases a with
  | none =>
    have hd : L = [] := Classical.byContradiction (fun h => by obtain ⟨b, o, h2, _⟩ := hL.pl h; cases h2)
    subst hd
    clear hL
    have heq := eqNilYes53 0 cap w
    change Calls Try.prog 84 #[.slice none 0 cap] w _
    go_enter Try.func84, Try.ntmps84
    go_wp2
    go_ret
    exact ⟨none, 0, rfl, ⟨by simp [fl], .inl ⟨rfl, rfl⟩⟩, Below.refl _ _⟩
  | some a =>
    have heq := eqNilNo53 a L.length cap w
    have HL := hidOf (hL.alloc Gp.len (by decide) (.cells #[] 57))
    clear hL
    go_enter Try.func84, Try.ntmps84
    go_wp2_with (at_builtin; refine wpList_app0s _ rfl (.tmp 5) (.tmp 6) 53 rfl 57 _ 3 24 Try.underlying53 info57 rfl Gp.cs Gp.len Gp.one (by decide) (by decide) w.heap.size w.heap.size (Nat.le_refl _) (heap_alloc_new w _) (by simp) (some a) L cap (fun _ => True) rfl rfl HL.out ?_; intro a' c' w2 hown hb; have HO := hidOf hown; have HB := hidOf ((below1 w (.cells #[] 57)).trans (hb.mono (by simp))); clear hown hb)
    go_ret
    exact ⟨a', c', rfl, HO.out, HB.out⟩
end Go.Proofs.Ytkokkdekbilkjaa
