/- What Frame returns: the bytes of the frame in a row of its own, or ErrArg. -/
import Derived.Test.YtpbokgeaolpiaabApps
namespace Go.Proofs.Ytpbokgeaolpiaab
open Go.RowKit

def fr0 (k p : Nat) (b : List UInt8) : List UInt8 := hb b.length 4 ++ (hb k 1 ++ (hb p 6 ++ b))
def fr (k p : Nat) (b : List UInt8) : List UInt8 := fr0 k p b ++ lo4 (nsum (fr0 k p b))
theorem fr0_length (k p : Nat) (b : List UInt8) : (fr0 k p b).length = b.length + 11 := by simp only [fr0, List.length_append, hb_length]; omega
theorem fr_length (k p : Nat) (b : List UInt8) : (fr k p b).length = b.length + 15 := by simp only [fr, List.length_append, fr0_length]; rfl

theorem made (n : Nat) (h : n ≤ 1048576) : ∃ cs : Array Value, cs.size = n + 15 ∧ ∀ w : World, (Instr.makeSlice 33 (.int .i64 0) (.int .i64 (11 + (n : Int) + 4))).run Try.prog w = .ok (.slice (some ⟨w.heap.size, 0, none⟩) 0 (n + 15)) (w.alloc (.cells cs 5)) := by
  obtain ⟨i, hi, hz0, hz1, hz2⟩ := info_parts Try.info5
  refine ⟨madeCells (Value.int .u8 0).cells ((11 + (n : Int) + 4).toNat * i.size), ?_, fun w => ?_⟩
  · rw [size_madeCells, hz1]; omega
  · have := run_make (P := Try.prog) w 33 5 i (.int .u8 0) Try.underlying33 hi hz0 .i64 .i64 0 (11 + (n : Int) + 4) (by omega) (by omega) (by rw [hz2]; omega) (by omega)
    rw [this]
    have e : (11 + (n : Int) + 4).toNat = n + 15 := by omega
    rw [e]; rfl
theorem own_made (w : World) (cs : Array Value) (n : Nat) (h : n ≤ 1048576) (hs : cs.size = n + 15) : Own (w.alloc (.cells cs 5)) (.slice (some ⟨w.heap.size, 0, none⟩) 0 (n + 15)) [] :=
  .inr ⟨w.heap.size, n + 15, cs, rfl, heap_alloc_new w _, by simp, by unfold maxLen; omega, hs, by simp [vals]⟩

def okF (kind place : Int) (n : Nat) : Prop := 0 ≤ kind ∧ kind ≤ 255 ∧ 0 ≤ place ∧ place ≤ 1099511627776 ∧ n ≤ 1048576

set_option maxHeartbeats 400000 in
theorem frame_ok (kind place : Int) (a : Option Addr) (n cap : Nat) (l : List UInt8) (w : World) (hn : n = l.length) (h : Bs w a l) (hok : okF kind place n) :
    Calls Try.prog 16 #[.int .i64 kind, .int .i64 place, .slice a n cap] w fun e w' => ∃ v', e = .returned (.tuple #[v', .int .i64 0]) ∧ Own w' v' (fr kind.toNat place.toNat l) ∧ Stp w w' none v'.ownBlock := by
  obtain ⟨k0, k1, p0, p1, n1⟩ := hok
  obtain ⟨cs, hcs, hmk⟩ := made n n1
  have HN : Hid (n = l.length) := hn
  clear hn
  go_enter Try.func16, Try.ntmps16
  have st0 : Stp w (w.alloc (.cells cs 5)) none (some w.heap.size) := ⟨rfl, rfl, rfl, by simp, fun k hk _ => Below.heap_alloc w _ k hk, .inr ⟨_, rfl, Nat.le_refl _⟩⟩
  go_wp2_with fail
  refine (appendHigh_any _ [] _ _ _ (by omega) (by omega) (by omega) (by simp) (own_made w cs n n1 hcs)).mono ?_
  rintro e w1 ⟨v1, rfl, o1, s1⟩
  have st1 := st0.trans s1
  rw [Int.toNat_natCast] at o1
  go_wp2_with fail
  refine (appendHigh_any v1 _ _ _ _ k0 (by omega) (by omega) (by simp [hb_length]) o1).mono ?_
  rintro e w2 ⟨v2, rfl, o2, s2⟩
  have st2 := st1.trans s2
  go_wp2_with fail
  refine (appendHigh_any v2 _ _ _ _ p0 (by omega) (by omega) (by simp [hb_length]) o2).mono ?_
  rintro e w3 ⟨v3, rfl, o3, s3⟩
  have st3 := st2.trans s3
  have hbs : Bs w3 a l := h.grow (st3.below _ (Nat.le_refl _) (fun k hk => by cases hk))
  have hsrc := hbs.src (P := Try.prog) Try.underlying33 cap
  rw [← HN.out] at hsrc
  go_wp2_with (at_builtin; refine wpList_append_b _ rfl (.tmp 43) (.tmp 44) rfl _ _ rfl o3 _ l rfl ?src ?len ?k)
  case src => rw [← HN.out]; exact hsrc
  case len => have := HN.out; simp only [List.length_append, hb_length, List.length_nil]; omega
  case k =>
    intro v4 w4 o4 s4
    have st4 := st3.trans s4
    have hfr : hb n 4 ++ (hb kind.toNat 1 ++ (hb place.toNat 6 ++ l)) = fr0 kind.toNat place.toNat l := by rw [HN.out]; rfl
    rw [hfr] at o4
    clear hfr
    go_wp2_with fail
    refine (appendSum_any v4 _ _ (by rw [fr0_length, ← HN.out]; omega) o4).mono ?_
    rintro e w5 ⟨v5, rfl, o5, s5⟩
    have st5 := st4.trans s5
    go_wp2
    go_ret2
    exact ⟨v5, rfl, o5, st5⟩

set_option maxHeartbeats 400000 in
theorem frame_no (kind place : Int) (a : Option Addr) (n cap : Nat) (w : World) (hn : n ≤ 211106232532992) (hok : ¬ okF kind place n) :
    Calls Try.prog 16 #[.int .i64 kind, .int .i64 place, .slice a n cap] w fun e w' => e = .returned (.tuple #[.slice none 0 0, .int .i64 1]) ∧ w' = w := by
  unfold okF at hok
  go_enter Try.func16, Try.ntmps16
  by_cases h1 : kind < 0
  · go_wp2
    go_ret2
    exact ⟨rfl, rfl⟩
  by_cases h2 : 255 < kind
  · go_wp2
    go_ret2
    exact ⟨rfl, rfl⟩
  by_cases h3 : place < 0
  · go_wp2
    go_ret2
    exact ⟨rfl, rfl⟩
  by_cases h4 : 1099511627776 < place
  · go_wp2
    go_ret2
    exact ⟨rfl, rfl⟩
  have h5 : 1048576 < n := by omega
  go_wp2
  go_ret2
  exact ⟨rfl, rfl⟩

end Go.Proofs.Ytpbokgeaolpiaab
