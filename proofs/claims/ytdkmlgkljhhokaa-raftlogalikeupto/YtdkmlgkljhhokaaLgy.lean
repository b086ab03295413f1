/- Accept. -/
import Derived.Test.YtdkmlgkljhhokaaLgx
namespace Go.Proofs.Ytdkmlgkljhhokaa
open Go.RowKit

section
variable {w0 w : World} {p : Nat} {M : Lg} {v : Value}
def AcP (w0 w : World) (p : Nat) (v : Value) (X : Int) (B : Bool) (M' : Lg) (e : Ending) (w' : World) : Prop := ∃ v', e = .returned (.tuple #[.int .i64 X, .bool B]) ∧ LgR w0 w' 72 p M' v' ∧ Chg w w' (Sp p v) ∧ Nx w v v'
theorem AcP.mk {w' : World} {X : Int} {B : Bool} {M' : Lg} {v' : Value} (h1 : LgR w0 w' 72 p M' v') (h2 : Chg w w' (Sp p v)) (h3 : Nx w v v') : AcP w0 w p v X B M' (.returned (.tuple #[.int .i64 X, .bool B])) w' := ⟨v', rfl, h1, h2, h3⟩
theorem ne_lt {D : List En} {k : Nat} (h : k < D.length) : D ≠ [] := fun e => by rw [e] at h; simp at h
def hdIx : List En → Int
  | [] => 0
  | x :: _ => x.ix
theorem freshD_drop {M : Lg} {D : List En} {k : Nat} {e : En} (hk : D[k]? = some e) : freshD M (D.drop k) = if hasB M e.ix e.tm = true then freshD M (D.drop (k + 1)) else e :: D.drop (k + 1) := by
  rw [drop_at hk]; rfl
set_option maxHeartbeats 4000000 in
set_option maxRecDepth 100000 in
theorem accept_any (h : LgR w0 w 72 p M v) (i t : Int) (xa : Option Addr) (xc : Nat) (D : List En) (hx : EsR w0 w (.slice xa D.length xc) D) (hxp : D ≠ [] → (Value.slice xa D.length xc).ownBlock ≠ some p) (hxv : D ≠ [] → ∀ b, (Value.slice xa D.length xc).ownBlock = some b → v.ownBlock ≠ some b) (hlen : M.L.length + D.length ≤ 33554432) : Calls Try.prog 18 #[.pointer (some ⟨p, 0, none⟩), .int .i64 i, .int .i64 t, .slice xa D.length xc] w (AcP w0 w p v (accX M i t D) (accB M i t D) (accM M i t D)) := by
  have H := hidOf h
  have HH := hidOf (fun (w' : World) (hd : Dr w w') (i t : Int) => has_any (h.below hd.bel) i t)
  have hw0 := h.w0le
  cases hh : hasB M i t with
  | false =>
    have HE : Hid (accB M i t D = false ∧ accX M i t D = 0 ∧ accM M i t D = M) := by
      have e : accB M i t D = false := by unfold accB; rw [hh]; rfl
      exact hidOf ⟨e, by unfold accX; rw [if_neg (by rw [e]; decide)], by unfold accM; rw [if_neg (by rw [e]; decide)]⟩
    rw [HE.out.1, HE.out.2.1, HE.out.2.2]
    have HI := hidOf (HH.out w (Dr.refl w) i t)
    rw [hh] at HI
    clear h hx hxp hxv HH hh
    generalize D.length = n at *
    go_enter Try.func18, Try.ntmps18
    go_wp2_with (go_at_call 35; refine HI.out.mono ?_; rintro e w1 ⟨rfl, nq, rfl⟩)
    go_ret2
    exact AcP.mk (H.out.below (bdrewN _ _)) (Chg.bel (bdrewN _ _)) (Nx.refl _ _)
  | true =>
    obtain ⟨⟨g1, g2⟩, g3⟩ := hasB_iff.1 hh
    have hil := h.wf.lastI_le
    have hb0 := h.wf.b0
    have HM : Hid (∀ w', Dr w w' → Calls Try.prog 36 #[.int .i64 i, .int .i64 t, .slice xa D.length xc] w' fun e w2 => e = .returned (.bool (mayB i t D)) ∧ w2 = w') := hidOf (fun w' hd => mayCome_any w0 w' _ D i t (hx.below hw0 hd.bel) (by omega) (by omega))
    have HI := hidOf (HH.out w (Dr.refl w) i t)
    rw [hh] at HI
    cases hm : mayB i t D with
    | false =>
      have HE : Hid (accB M i t D = false ∧ accX M i t D = 0 ∧ accM M i t D = M) := by
        have e : accB M i t D = false := by unfold accB; rw [hh, hm]; rfl
        exact hidOf ⟨e, by unfold accX; rw [if_neg (by rw [e]; decide)], by unfold accM; rw [if_neg (by rw [e]; decide)]⟩
      rw [HE.out.1, HE.out.2.1, HE.out.2.2]
      rw [hm] at HM
      clear h hx hxp hxv HH hh hm g1 g2 g3
      generalize D.length = n at *
      go_enter Try.func18, Try.ntmps18
      go_wp2_with (first | (go_at_call 35; refine HI.out.mono ?_; rintro e w1 ⟨rfl, nq, rfl⟩) | (go_at_call 36; refine (HM.out _ ((Dr.refl w).dn _)).mono ?_; rintro e w1 ⟨rfl, rfl⟩))
      go_ret2
      exact AcP.mk (H.out.below (bdrewN _ _)) (Chg.bel (bdrewN _ _)) (Nx.refl _ _)
    | true =>
      rw [hm] at HM
      have hacc : accB M i t D = true := by unfold accB; rw [hh, hm]; rfl
      have HAX : Hid (accX M i t D = hdIx (freshD M D) ∧ accM M i t D = replM M (freshD M D)) := hidOf ⟨by unfold accX; rw [if_pos hacc]; cases freshD M D <;> rfl, by unfold accM; rw [if_pos hacc]⟩
      have HFS := hidOf (freshD_suffix g1 g2 g3 hm)
      have HWA := hidOf (h.wf.acc i t D)
      rw [hacc]
      have HX := hidOf hx
      have HXP := hidOf hxp
      have HXV := hidOf hxv
      have HLN := hidOf hlen
      clear h hx hxp hxv hh hm hacc g1 g2 g3
      have hdl : D.length ≤ 33554432 := by omega
      clear hlen
      go_enter Try.func18, Try.ntmps18
      go_wp2_with (first | (go_at_call 35; refine HI.out.mono ?_; rintro e w1 ⟨rfl, nq, rfl⟩) | (go_at_call 36; refine (HM.out _ ((Dr.refl w).dn _)).mono ?_; rintro e w1 ⟨rfl, rfl⟩))
      go_loopw [25] (fun kv wr => ∃ k : Nat, k ≤ D.length ∧ kv = .int .i64 (k : Int) ∧ Hid (freshD M D = freshD M (D.drop k)) ∧ ∃ n, wr = w.drewN n) (fun kv _ => D.length - (intOf kv).toNat)
      case atStart => exact ⟨0, Nat.zero_le _, rfl, hidOf rfl, _, rfl⟩
      case round =>
        obtain ⟨k, hk, rfl, HK, n, rfl⟩ := hrel
        by_cases hlt : k < D.length
        · have hltz : (k : Int) < (D.length : Int) := by omega
          obtain ⟨e, he⟩ : ∃ e, D[k]? = some e := ⟨_, List.getElem?_eq_getElem hlt⟩
          obtain ⟨b, off, cap, c, hv, hb, d0, d1, _, _⟩ := HX.out.at he
          cases hv
          have HFD : Hid (freshD M D = if hasB M e.ix e.tm = true then freshD M (D.drop (k + 1)) else e :: D.drop (k + 1)) := hidOf (HK.out.trans (freshD_drop he))
          have HHE := hidOf (fun (w' : World) (hd : Dr w w') => HH.out w' hd e.ix e.tm)
          cases hhe : hasB M e.ix e.tm with
          | true =>
            rw [hhe] at HFD HHE
            have HF2 : Hid (freshD M D = freshD M (D.drop (k + 1))) := hidOf (by rw [HFD.out, if_pos rfl])
            clear HFD he hhe HH HFS
            obtain ⟨ix, tm, op, id⟩ := e
            dsimp only at d0 d1 HHE
            go_upto_region 6 with (fail)
            go_region_held3 (fun w' => w'.cell? ⟨b, off + k * 29, none⟩ = some (.int .i64 ix) ∧ w'.cell? ⟨b, off + k * 29 + 1, none⟩ = some (.int .i64 tm)) (go_keep) (first | (go_at_call 35; refine (HHE.out _ (((Dr.refl w).dn _).d)).mono ?_; rintro e w1 ⟨rfl, nq2, rfl⟩))
            go_wp2
            go_roundw
            case rel => exact ⟨k + 1, by omega, by go_num, HF2, _, rfl⟩
            case measure => simp [intOf]; omega
          | false =>
            rw [hhe] at HFD HHE
            have HF2 : Hid (freshD M D = e :: D.drop (k + 1)) := hidOf (by rw [HFD.out, if_neg (by decide)])
            have HSB := hidOf (HX.out.sub (j := k) (m := D.length - k) hlt (by omega))
            have HDK : Hid ((D.drop k).take (D.length - k) = e :: D.drop (k + 1)) := hidOf (by rw [List.take_of_length_le (by simp), drop_at he])
            have HEL : Hid ((e :: D.drop (k + 1)).length = D.length - k) := hidOf (by rw [← drop_at he, List.length_drop])
            obtain ⟨kk, hkk, hkl⟩ : ∃ kk : Nat, e.ix = M.bi + 1 + kk ∧ kk ≤ M.L.length := by
              rcases HFS.out with q | ⟨k', x, E, q1, _, _, _, _, q6, q7, _⟩
              · rw [HF2.out] at q; cases q
              · rw [HF2.out] at q1
                cases q1
                unfold lastI at q7
                exact ⟨(e.ix - M.bi - 1).toNat, by omega, by omega⟩
            have HMA : Hid (accM M i t D = ⟨M.bi, M.bt, M.L.take kk ++ e :: D.drop (k + 1)⟩ ∧ accX M i t D = e.ix) := by
              rw [HAX.out.1, HAX.out.2, HF2.out]
              refine hidOf ⟨?_, rfl⟩
              show Lg.mk _ _ _ = _
              rw [show (e.ix - M.bi - 1).toNat = kk by omega]
            obtain ⟨b', off', hab, _, hck, hck2, hsub⟩ := HSB.out
            cases hab
            rw [HDK.out] at hsub
            have HREP : Hid (∀ w', Dr w w' → Calls Try.prog 37 #[.pointer (some ⟨p, 0, none⟩), .slice (some ⟨b, off + k * 29, none⟩) (D.length - k) (xc - k)] w' (ReP w0 w' p v ⟨M.bi, M.bt, M.L.take kk ++ e :: D.drop (k + 1)⟩)) := hidOf (fun w' hd => by
              have := replace_any (H.out.below hd.bel) (some ⟨b, off + k * 29, none⟩) (xc - k) kk e (D.drop (k + 1)) (by rw [HEL.out]; exact hsub.below hw0 hd.bel) (HXP.out (ne_lt hlt)) hkk hkl (by rw [← HMA.out.1]; exact HWA.out) (by rw [HEL.out]; have := HLN.out; omega)
              rw [HEL.out] at this
              exact this)
            rw [HMA.out.1, HMA.out.2]
            have hne : ¬ xc = k := by omega
            have hkd : k ≤ D.length := by omega
            have HBB : Hid (b ≠ p ∧ v.ownBlock ≠ some b) := hidOf ⟨fun e => HXP.out (ne_lt hlt) (by rw [e]; rfl), HXV.out (ne_lt hlt) b rfl⟩
            clear HFD he hhe HH HFS HSB hsub hkk hkl HMA HAX HWA
            generalize hDL : D.length = dl at *
            generalize D.drop (k + 1) = E at *
            obtain ⟨ix, tm, op, id⟩ := e
            dsimp only at d0 d1 HHE ⊢
            go_upto_region 6 with (fail)
            go_region_held3 (fun w' => w'.cell? ⟨b, off + k * 29, none⟩ = some (.int .i64 ix) ∧ w'.cell? ⟨b, off + k * 29 + 1, none⟩ = some (.int .i64 tm)) (go_keep) (first | (go_at_call 35; refine (HHE.out _ (((Dr.refl w).dn _).d)).mono ?_; rintro e w1 ⟨rfl, nq2, rfl⟩))
            go_wp2_with fail
            refine (HREP.out _ ((Dr.refl w).dn _)).mono ?_
            rintro en w4 ⟨v4, rfl, r1, r2, r3⟩
            have R1 := hidOf r1
            have R2 := hidOf r2
            have R3 := hidOf r3
            have hb4 : w4.heap[b]? = w.heap[b]? := r2.block b hb (fun e => e.elim HBB.out.1 HBB.out.2)
            have e0 : w4.cell? ⟨b, off + k * 29, none⟩ = some (.int .i64 ix) := (World.cell?_of_block (w := w) hb4).trans d0
            have hb5 : b < w4.heap.size := Nat.lt_of_lt_of_le hb r2.size
            clear r1 r2 r3 hb4
            go_wp2
            go_ret2
            exact AcP.mk R1.out ((Chg.bel (bdrewN _ _)).trans R2.out (fun _ e => .inl e)) (fun k hk => R3.out k hk)
        · have hltz : ¬ (k : Int) < (D.length : Int) := by omega
          have HF2 : Hid (freshD M D = []) := hidOf (by rw [HK.out, List.drop_eq_nil_of_le (by omega)]; rfl)
          have HMA : Hid (accM M i t D = M ∧ accX M i t D = 0) := by
            rw [HAX.out.1, HAX.out.2, HF2.out]
            exact hidOf ⟨rfl, rfl⟩
          clear HAX
          go_wp2
          go_ret2
          rw [HMA.out.1, HMA.out.2]
          exact AcP.mk (H.out.below (bdrewN _ _)) (Chg.bel (bdrewN _ _)) (Nx.refl _ _)
end
end Go.Proofs.Ytdkmlgkljhhokaa
