/- HeapBoxes, walked. -/
import Derived.Test.YtmkbndiliehdcaaHbs
namespace Go.Proofs.Ytmkbndiliehdcaa
open Go.RowKit Go.Conc Go.ChangeShapes Go.WideShapes Go.ChangeAt

theorem open_il_sized {H : Type} {enc : TypeId × Value → H} {w : World} {a : Option Addr} {cap : Nat} {l : List Int} {d : DataW H} {p : List MemPlace} {Z : Prop} (h : DataW.Trod enc Try.prog w 0 (fun _ => true) true 41 (.slice a l.length cap) d p) (_z : Z) : l.length ≤ 9223372036854775807 := by
  obtain ⟨fuel, hf⟩ := h
  rcases open_ints (k := .i64) Try.underlying41 Try.underlying3 (by kernel_rfl) hf with ⟨e, _⟩ | ⟨a', len', cap', zs, e, _, hlc, hcm, _⟩
  · simp [Value.cells] at e
    obtain ⟨_, e2, _⟩ := e
    rw [e2]
    simp
  · simp [Value.cells] at e
    unfold maxLen at hcm
    omega

/- what stands in every round -/
structure Bst (w wr : World) (room : Nat) (Q : List Int) (v : Value) : Prop where
  box : BoxS wr (fun b => some b ≠ v.ownBlock) (w.heap.size + 1) w.heap.size room Q
  inn : InR wr v Q
  bel : Below w.heap.size w wr
  own : ∀ k, v.ownBlock = some k → w.heap.size ≤ k
theorem Bst.ne {w wr : World} {room : Nat} {Q : List Int} {v : Value} (h : Bst w wr room Q v) : some (w.heap.size + 1) ≠ v.ownBlock ∧ some w.heap.size ≠ v.ownBlock := by
  obtain ⟨h1, buf, s, r, h2, _⟩ := h.box
  refine ⟨fun e => ?_, fun e => ?_⟩
  · obtain ⟨_, cs, h3⟩ := h.inn.lt _ e.symm
    injection Option.some.inj (h1.symm.trans h3) with _ e2
    exact absurd e2 (by decide)
  · obtain ⟨_, cs, h3⟩ := h.inn.lt _ e.symm
    rw [h2] at h3; cases h3
theorem Bst.rs {w wr w' : World} {room : Nat} {Q Q' : List Int} {v : Value} (h : Bst w wr room Q v) (hb : BoxS w' (fun b => some b ≠ v.ownBlock) (w.heap.size + 1) w.heap.size room Q') (hs : RS wr w' w.heap.size) : BoxS w' (fun b => some b ≠ v.ownBlock) (w.heap.size + 1) w.heap.size room Q' ∧ InR w' v Q ∧ Below w.heap.size w w' ∧ ∀ k, v.ownBlock = some k → w.heap.size ≤ k :=
  ⟨hb, h.inn.kept (fun k hk => hs.block k (h.inn.lt k hk).1 (fun e => h.ne.2 (by rw [← e]; exact hk.symm))), h.bel.trans (hs.below h.bel.size (Nat.le_refl _)), h.own⟩

theorem BoxS.kept2 {w w' : World} {S : Nat → Prop} {r0 : Option Nat} {p c room : Nat} {Q : List Int} (h : BoxS w S p c room Q) (hk : ∀ k, k < w.heap.size → some k ≠ r0 → w'.heap[k]? = w.heap[k]?) (hgp : some p ≠ r0) (hgc : some c ≠ r0) (hS : ∀ b, S b → some b ≠ r0) : BoxS w' S p c room Q := by
  obtain ⟨h1, buf, s, r, h2, h3, h4⟩ := h
  refine ⟨(hk p (heap_lt h1) hgp).trans h1, buf, s, r, (hk c (heap_lt h2) hgc).trans h2, h3, fun i hi => ?_⟩
  obtain ⟨b, h5, h6, h7⟩ := h4 i hi
  exact ⟨b, h5, h6, (hk b (heap_lt h7) (hS b h6)).trans h7⟩
theorem InR.tail0 {w : World} {g off : Nat} {Q : List Int} (h : InR w (.slice (some ⟨g, off + 1, none⟩) Q.length 0) Q) : InR w (.slice (some ⟨g, off, none⟩) Q.length 0) Q := by
  rcases h with ⟨e, _⟩ | ⟨g', off', cap, cur, e, h2, h3, h4, h5, h6⟩
  · cases e
  · injection e with e1 _ e3
    injection e1 with e4
    injection e4 with e5 e6
    subst e5
    subst e3
    exact .inr ⟨g, off, 0, cur, rfl, h2, by omega, h4, h5, fun j hj => by omega⟩
theorem Bst.app {w w2 w3 : World} {room : Nat} {Q : List Int} {v v3 : Value} {X : Obj} (hb : BoxS w2 (fun b => some b ≠ v.ownBlock) (w.heap.size + 1) w.heap.size room Q) (bel : Below w.heap.size w w2) (own : ∀ k, v.ownBlock = some k → w.heap.size ≤ k)
    (hne : some (w.heap.size + 1) ≠ v.ownBlock ∧ some w.heap.size ≠ v.ownBlock) (hg : (w2.alloc X).grownBy w3 v.ownBlock) (how : v3.ownBlock = v.ownBlock ∨ v3.ownBlock = some (w2.alloc X).heap.size) (hin : InR w3 v3 Q) : Bst w w3 room Q v3 := by
  have hb2 : BoxS (w2.alloc X) (fun b => some b ≠ v.ownBlock ∧ some b ≠ v3.ownBlock) (w.heap.size + 1) w.heap.size room Q := by
    refine (hb.grow ((Below.refl _ _).alloc (Nat.le_refl _) X)).mono fun b hb1 hb2 => ⟨hb2, ?_⟩
    rcases how with e | e
    · rw [e]; exact hb2
    · rw [e]; intro e2; have := Option.some.inj e2; omega
  have hb3 := hb2.kept2 (fun k hk hr => hg.block k hk hr) hne.1 hne.2 (fun b h => h.1)
  refine ⟨hb3.mono fun b _ h => h.2, hin, (bel.alloc bel.size X).grown hg (Nat.le_trans bel.size (by simp)) own, ?_⟩
  intro k hk
  rcases how with e | e
  · exact own k (e ▸ hk)
  · rw [e] at hk; cases hk; exact Nat.le_trans bel.size (by simp)

set_option maxHeartbeats 4000000 in
set_option maxRecDepth 100000 in
theorem lawBoxes (w : World) (room : Int) (_hr : (Lit.int .i64 room).wf = true) (a : Option Addr) (cap : Nat) (l : List Int) (hi : Ints w a l) (hl : l.length ≤ 9223372036854775807) : Calls Try.prog 5 #[.int .i64 room, .slice a l.length cap] w fun e w' => e = .returned (.bool true) ∧ Below w.heap.size w w' := by
  have HI := hidOf hi
  clear hi _hr
  by_cases hroom : room < 1 ∨ 1024 < room
  · have HN := hidOf (fun w => newbox_no room w hroom)
    rcases hroom with hr | hr
    · go_enter Try.func5, Try.ntmps5
      go_wp2_with (first
        | (go_at_call 19; refine (HN.out _).mono ?_; rintro e w1 ⟨rfl, rfl⟩)
        | (go_at_call 9; refine (known_any _).mono ?_; rintro e w1 ⟨rfl, hb1⟩))
      go_ret
      exact ⟨rfl, hb1⟩
    · have hr1 : ¬ room < 1 := by omega
      go_enter Try.func5, Try.ntmps5
      go_wp2_with (first
        | (go_at_call 19; refine (HN.out _).mono ?_; rintro e w1 ⟨rfl, rfl⟩)
        | (go_at_call 9; refine (known_any _).mono ?_; rintro e w1 ⟨rfl, hb1⟩))
      go_ret
      exact ⟨rfl, hb1⟩
  · obtain ⟨n, rfl⟩ : ∃ n : Nat, room = (n : Int) := ⟨room.toNat, by omega⟩
    have hn1 : 1 ≤ n := by omega
    have hn2 : n ≤ 1024 := by omega
    have e1 : ¬ (n : Int) < 1 := by omega
    have e2 : ¬ (1024 : Int) < (n : Int) := by omega
    clear hroom
    have HN := hidOf (fun w => newbox_ok n w hn1 hn2)
    go_enter Try.func5, Try.ntmps5
    go_wp2_with (first
      | (go_at_call 19; refine (HN.out _).mono ?_; rintro e w1 ⟨rfl, rfl⟩)
      | (go_at_call 9; refine (known_any _).mono ?_; rintro e w1 ⟨rfl, hb1⟩; have H1 : Hid (Bst w w1 n [] (.slice none 0 0)) := hidOf ⟨(boxS_new w _ n).grow hb1, .inl ⟨rfl, rfl⟩, (below2 w _ _).trans (hb1.mono (by simp; omega)), fun k hk => by cases hk⟩; clear hb1))
    go_loopw [6, 7] (fun s6 i wr => ∃ (k : Nat) (Q : List Int), i = .int .i64 (k : Int) ∧ k ≤ l.length ∧ Q.length ≤ n ∧ Hid (Bst w wr n Q s6)) (fun _ i _ => l.length - (intOf i).toNat)
    case atStart => exact ⟨0, [], rfl, Nat.zero_le _, Nat.zero_le _, H1⟩
    case round =>
      obtain ⟨k, Q, rfl, hk, hQn, H⟩ := hrel
      obtain ⟨av, cv, hv⟩ := H.out.inn.slice
      subst hv
      by_cases hlt : k < l.length
      · have hltz : (k : Int) < (l.length : Int) := by omega
        obtain ⟨b, off, hab, hbl, hcs⟩ := HI.out.at H.out.bel k hlt
        have c0 := hcs k hlt
        subst hab
        obtain ⟨x, hx⟩ : ∃ x, x = nth l k := ⟨_, rfl⟩
        rw [← hx] at c0
        clear hx hcs
        by_cases hx0 : 0 ≤ x
        · by_cases hfull : Q.length < n
          · have hfz : (Q.length : Int) < (n : Int) := by omega
            have HPU := hidOf (put_okS _ (w.heap.size + 1) w.heap.size n Q x wr H.out.box (fun e => absurd (H.out.inn.lt _ e.symm).1 (Nat.lt_irrefl _)) hfull)
            go_wp2_with (first
              | (go_at_call 20; refine HPU.out.mono ?_; rintro e w2 ⟨rfl, h2, n2⟩; have c1 : w2.cell? ⟨b, off + k, none⟩ = some (.int .i64 x) := (((n2.below H.out.bel.size (Nat.le_refl _)).cell (p := ⟨b, off + k, none⟩) hbl).trans c0); have c2 : ∀ o : Obj, (w2.alloc o).cell? ⟨b, off + k, none⟩ = some (.int .i64 x) := (fun o => (((Below.refl w2.heap.size w2).alloc (Nat.le_refl _) o).cell (p := ⟨b, off + k, none⟩) (Nat.lt_of_lt_of_le hbl (Nat.le_trans H.out.bel.size n2.size))).trans c1); obtain ⟨g1, g2, g3, g4⟩ := H.out.rs h2 n2; have H2 : Hid (Bst w w2 n (Q ++ [x]) (.slice av Q.length cv) → True) := hidOf (fun _ => trivial); have HG := hidOf (And.intro g1 (And.intro g2 (And.intro g3 g4))); clear h2 n2 g1 g2 g3 g4 H2)
              | (at_builtin; refine wpList_append_q _ rfl (.tmp 53) (.tmp 58) rfl (.slice av Q.length cv) Q rfl (HG.out.2.1.kept (fun k hk => Below.heap_alloc w2 _ k (HG.out.2.1.lt k hk).1)) w2.heap.size x rfl (by simp [go_sem]) (by omega) ?_; intro v3 w3 hin3 hg3 how3; have H3 := hidOf (Bst.app HG.out.1 HG.out.2.2.1 HG.out.2.2.2 H.out.ne hg3 how3 hin3); obtain ⟨a3, c3, hv3⟩ := hin3.slice; subst hv3; have hle3 : (Q ++ [x]).length = Q.length + 1 := (by simp); clear hin3 hg3 how3)
              | (go_at_call 22; refine (boxlen_anyS _ (w.heap.size + 1) w.heap.size n (Q ++ [x]) _ H3.out.box).mono ?_; rintro e w4 ⟨rfl, rfl⟩))
            go_roundw
            case rel => exact ⟨k + 1, Q ++ [x], by go_num, by omega, by rw [hle3]; omega, by rw [hle3] at H3; exact H3⟩
            case measure => simp [intOf]; omega
          · have hfz : ¬ (Q.length : Int) < (n : Int) := by omega
            have HPU := hidOf (put_noS _ (w.heap.size + 1) w.heap.size n Q x wr H.out.box (by omega))
            go_wp2_with (first
              | (go_at_call 20; refine HPU.out.mono ?_; rintro e w2 ⟨rfl, h2, n2⟩; obtain ⟨g1, g2, g3, g4⟩ := H.out.rs h2 n2; have H3 : Hid (Bst w w2 n Q (.slice av Q.length cv)) := hidOf ⟨g1, g2, g3, g4⟩; clear h2 n2 g1 g2 g3 g4)
              | (go_at_call 22; refine (boxlen_anyS _ (w.heap.size + 1) w.heap.size n Q _ H3.out.box).mono ?_; rintro e w4 ⟨rfl, rfl⟩))
            go_roundw
            case rel => exact ⟨k + 1, Q, by go_num, by omega, hQn, H3⟩
            case measure => simp [intOf]; omega
        · cases Q with
          | nil =>
            have HTA := hidOf (take_noS _ (w.heap.size + 1) w.heap.size n wr H.out.box)
            go_wp2_with (first
              | (go_at_call 21; refine HTA.out.mono ?_; rintro e w2 ⟨rfl, rfl⟩)
              | (go_at_call 22; refine (boxlen_anyS _ (w.heap.size + 1) w.heap.size n [] _ H.out.box).mono ?_; rintro e w4 ⟨rfl, rfl⟩))
            go_roundw
            case rel => exact ⟨k + 1, [], by go_num, by omega, hQn, H⟩
            case measure => simp [intOf]; omega
          | cons y Q =>
            obtain ⟨g, off2, cap2, hv2, hy, hin2, hcm⟩ := H.out.inn.tail
            simp only [List.length_cons] at hv2
            injection hv2 with hv3 _ hv5
            subst hv3
            subst hv5
            unfold maxLen at hcm
            have HIN := hidOf hin2
            have HTA := hidOf (take_okS _ (w.heap.size + 1) w.heap.size n y Q wr H.out.box)
            have hgl := (H.out.inn.lt g rfl).1
            have hgne : g ≠ w.heap.size := fun e => H.out.ne.2 (by rw [← e]; rfl)
            have hqz : (0 : Int) < (Q.length : Int) + 1 := by omega
            simp only [List.length_cons] at hQn
            clear hin2
            cases cap2 with
            | zero =>
              go_wp2_with (first
                | (go_at_call 21; refine HTA.out.mono ?_; rintro e w2 ⟨rfl, h2, n2⟩; have cy : w2.cell? ⟨g, off2, none⟩ = some (.int .i64 y) := (World.cell?_of_block (a := ⟨g, off2, none⟩) (n2.block g hgl hgne)).trans hy; have H3 : Hid (Bst w w2 n Q (.slice (some ⟨g, off2, none⟩) Q.length 0)) := hidOf ⟨h2, (HIN.out.tail0).kept (fun k hk => by cases hk; exact n2.block g hgl hgne), H.out.bel.trans (n2.below H.out.bel.size (Nat.le_refl _)), fun k hk => H.out.own k hk⟩; clear h2 n2)
                | (go_at_call 22; refine (boxlen_anyS _ (w.heap.size + 1) w.heap.size n Q _ H3.out.box).mono ?_; rintro e w4 ⟨rfl, rfl⟩))
              go_roundw
              case rel => exact ⟨k + 1, Q, by go_num, by omega, by omega, H3⟩
              case measure => simp [intOf]; omega
            | succ cap2 =>
              go_wp2_with (first
                | (go_at_call 21; refine HTA.out.mono ?_; rintro e w2 ⟨rfl, h2, n2⟩; have cy : w2.cell? ⟨g, off2, none⟩ = some (.int .i64 y) := (World.cell?_of_block (a := ⟨g, off2, none⟩) (n2.block g hgl hgne)).trans hy; have H3 : Hid (Bst w w2 n Q (.slice (some ⟨g, off2 + 1, none⟩) Q.length (cap2 + 1))) := hidOf ⟨h2, HIN.out.kept (fun k hk => by cases hk; exact n2.block g hgl hgne), H.out.bel.trans (n2.below H.out.bel.size (Nat.le_refl _)), fun k hk => H.out.own k hk⟩; clear h2 n2)
                | (go_at_call 22; refine (boxlen_anyS _ (w.heap.size + 1) w.heap.size n Q _ H3.out.box).mono ?_; rintro e w4 ⟨rfl, rfl⟩))
              go_roundw
              case rel => exact ⟨k + 1, Q, by go_num, by omega, by omega, H3⟩
              case measure => simp [intOf]; omega
      · have hltz : ¬ (k : Int) < (l.length : Int) := by omega
        go_wp2
        go_ret
        exact ⟨rfl, H.out.bel⟩

end Go.Proofs.Ytmkbndiliehdcaa
