/- The law of one byte more or less: what Get takes is neither taken with one byte behind it, nor with its last byte gone. Made by program (wip/gen/more.py). -/
import Derived.Test.YtpbokgeaolpiaabRwc
import Derived.Test.YtpbokgeaolpiaabRwm
import Derived.Test.YtpbokgeaolpiaabRws
import Derived.Test.YtpbokgeaolpiaabRpre
import Derived.Test.YtpbokgeaolpiaabRby
import Derived.Test.YtpbokgeaolpiaabKnow
import Derived.Test.YtpbokgeaolpiaabOpen
namespace Go.Proofs.Ytpbokgeaolpiaab
open Go.RowKit

theorem or3 {P : Option (List UInt8) → Option (List UInt8)} (hP : Pre P) (m : List UInt8) (y x : UInt8) {A B C : Bool} (hA : decide (P (some (m ++ [y])) = some []) = A) (hB : decide (P (some (m ++ [y] ++ [x])) = some []) = B) (hC : decide (P (some m) = some []) = C) :
    A = false ∨ A = true ∧ B = false ∧ C = false := by
  cases A with
  | false => exact .inl rfl
  | true =>
    have h := of_decide_eq_true hA
    refine .inr ⟨rfl, ?_, ?_⟩
    · rw [← hB]; exact decide_eq_false (pre_more hP _ x h)
    · rw [← hC]; exact decide_eq_false (pre_less hP m y h)

set_option maxHeartbeats 1000000 in
set_option maxRecDepth 100000 in
theorem lawMore (w : World) (a : Option Addr) (cap : Nat) (l : List UInt8) (x : UInt8) (hcap : l.length ≤ cap) (hbs : Bs w a l) (hlen : l.length ≤ 140737488351232) :
    Calls Try.prog 5 #[.slice a l.length cap, .int .u8 (x.toNat : Int)] w fun e w' => e = .returned (.bool true) ∧ Below w.heap.size w w' := by
  rcases List.eq_nil_or_concat l with rfl | ⟨m, y, rfl⟩
  · go_enter Try.func5, Try.ntmps5
    go_wp2_with fail
    refine (known_any w).mono ?_
    rintro e w' ⟨rfl, bk⟩
    go_wp2
    go_ret
    exact ⟨rfl, bk⟩
  · obtain ⟨k, hk⟩ : ∃ k, m.length = k := ⟨_, rfl⟩
    rw [List.concat_eq_append] at *
    obtain ⟨l, HL⟩ : ∃ l, Hid (m ++ [y] = l) := ⟨_, rfl⟩
    have hm1 : l.length = k + 1 := by rw [← HL.out]; simp [hk]
    have HK : Hid (m.length = k) := hk
    clear hk
    rw [HL.out] at hcap hbs hlen ⊢
    rw [hm1]
    go_enter Try.func5, Try.ntmps5
    go_wp2_with (at_builtin; refine wpList_append_b _ rfl (.tmp 28) (.tmp 29) rfl (.slice none 0 0) [] rfl (.inl ⟨rfl, rfl⟩) (.slice a (k + 1) cap) l rfl ?src ?len ?next)
    case src => have := hbs.src (P := Try.prog) Try.underlying33 cap; rwa [hm1] at this ⊢
    case len => simp only [List.length_nil]; omega
    case next =>
    intro v1 w1 o1 s1
    go_wp2_with (at_builtin; refine wpList_append_b _ rfl (.tmp 31) (.tmp 33) rfl v1 l rfl (o1.alloc _) (.slice (some ⟨w1.heap.size, 0, none⟩) 1 1) [x] rfl ?src ?len ?next)
    case src => exact src_one _ _ _ rfl _ rfl
    case len => simp only [List.length_cons, List.length_nil]; omega
    case next =>
    intro v2 u0 o2 s2
    have hk := HK.out
    have hne : l ≠ [] := by intro e; rw [e] at hm1; simp at hm1
    have hba : ∀ (w2 : World), w.heap.size ≤ w2.heap.size → ∀ z, a = some z → z.block < w2.heap.size := by
      intro w2 h2 z hz
      obtain ⟨b, off, rfl, hlt, _⟩ := hbs.2 hne
      cases hz; exact Nat.lt_of_lt_of_le hlt h2
    have hbm : Bs w a m := by have := hbs.firstAny k; rwa [← HL.out, List.take_append_of_le_length (by omega), List.take_of_length_le (by omega)] at this
    have hmcap : m.length ≤ cap := by omega
    have LEN0 : Hid (k + 1 = l.length) := hm1.symm
    have LEN2 : Hid (k = m.length) := hk.symm
    obtain ⟨Amsg, Hmsg0⟩ : ∃ A, Hid (decide (P_msg (some l) = some []) = A) := ⟨_, rfl⟩
    obtain ⟨Bmsg, Hmsg1⟩ : ∃ A, Hid (decide (P_msg (some (l ++ [x])) = some []) = A) := ⟨_, rfl⟩
    obtain ⟨Cmsg, Hmsg2⟩ : ∃ A, Hid (decide (P_msg (some m) = some []) = A) := ⟨_, rfl⟩
    have ormsg : Hid (Amsg = false ∨ Amsg = true ∧ Bmsg = false ∧ Cmsg = false) := or3 pre_msg m y x (by rw [HL.out]; exact Hmsg0.out) (by rw [HL.out]; exact Hmsg1.out) Hmsg2.out
    obtain ⟨Astore, Hstore0⟩ : ∃ A, Hid (decide (P_store (some l) = some []) = A) := ⟨_, rfl⟩
    obtain ⟨Bstore, Hstore1⟩ : ∃ A, Hid (decide (P_store (some (l ++ [x])) = some []) = A) := ⟨_, rfl⟩
    obtain ⟨Cstore, Hstore2⟩ : ∃ A, Hid (decide (P_store (some m) = some []) = A) := ⟨_, rfl⟩
    have orstore : Hid (Astore = false ∨ Astore = true ∧ Bstore = false ∧ Cstore = false) := or3 pre_store m y x (by rw [HL.out]; exact Hstore0.out) (by rw [HL.out]; exact Hstore1.out) Hstore2.out
    obtain ⟨Acmd, Hcmd0⟩ : ∃ A, Hid (decide (P_cmd (some l) = some []) = A) := ⟨_, rfl⟩
    obtain ⟨Bcmd, Hcmd1⟩ : ∃ A, Hid (decide (P_cmd (some (l ++ [x])) = some []) = A) := ⟨_, rfl⟩
    obtain ⟨Ccmd, Hcmd2⟩ : ∃ A, Hid (decide (P_cmd (some m) = some []) = A) := ⟨_, rfl⟩
    have orcmd : Hid (Acmd = false ∨ Acmd = true ∧ Bcmd = false ∧ Ccmd = false) := or3 pre_cmd m y x (by rw [HL.out]; exact Hcmd0.out) (by rw [HL.out]; exact Hcmd1.out) Hcmd2.out
    have hsl : ∀ w, (Instr.slice 33 (.slice a (k + 1) cap) none (some (.int .i64 (k : Int))) none).run Try.prog w = .ok (.slice a k cap) w := fun w => slice_h33 a (k + 1) cap k (by omega) w
    clear hk
    have BW : Below w.heap.size w u0 := by
      have B1 : Below w.heap.size w w1 := s1.belowN
      refine B1.trans ((((Below.refl _ _).alloc (Nat.le_refl _) _).mono B1.size).trans (s2.below _ (by simp [World.size_alloc]; have := B1.size; omega) ?_))
      intro b hb
      rcases s1.row with e | ⟨c, e, hc⟩
      · rw [e] at hb; cases hb
      · rw [e] at hb; cases hb; exact hc
    obtain ⟨la, lc, hv2, hb2⟩ := o2.form
    have hbl := hb2 (by rw [List.length_append]; simp only [List.length_cons, List.length_nil]; omega)
    have hlcap : (l ++ [x]).length ≤ lc := by have := (hv2 ▸ o2).cap; exact this
    have hla : ∀ (w2 : World), u0.heap.size ≤ w2.heap.size → ∀ z, la = some z → z.block < w2.heap.size := by
      intro w2 h2 z hz
      obtain ⟨b, off, rfl, hlt, _⟩ := hbl.2 (by simp)
      cases hz; exact Nat.lt_of_lt_of_le hlt h2
    have LEN1 : Hid (k + 2 = (l ++ [x]).length) := by show _ = _; rw [List.length_append]; simp [hm1]
    rw [← LEN1.out] at hv2
    subst hv2
    replace hbs := hbs.grow BW
    replace hbm := hbm.grow BW
    replace hba : ∀ (w2 : World), u0.heap.size ≤ w2.heap.size → ∀ z, a = some z → z.block < w2.heap.size := fun w2 h2 => hba w2 (Nat.le_trans BW.size h2)
    have CAP0 : Hid (k + 1 ≤ cap) := by show _ ≤ _; omega
    have CAP1 : Hid (k + 2 ≤ lc) := by show _ ≤ _; rw [LEN1.out]; exact hlcap
    have CAP2 : Hid (k ≤ cap) := by show _ ≤ _; omega
    have B0 : Below u0.heap.size u0 u0 := Below.refl _ _
    clear o1 o2 s1 s2 hb2
    go_wp2_with fail
    refine (get_msg a (k + 1) cap l u0 LEN0.out CAP0.out (hbs.grow B0) (hba _ B0.size)).mono ?_
    rintro e v1 ⟨cs1, hcs, hco, he, b1⟩
    rw [Hmsg0.out] at he
    subst he
    have HCS1 : Hid (cs1.size = Zr_msg.size) := hcs
    have HCO1 : Hid (cs1.all (·.oneCell') = true) := hco
    have HCI1 : Hid ((Try.prog.info? 69).map (·.size) = some cs1.size) := by show _ = _; rw [hcs]; exact Zr_msg_i
    have C1 := B0.trans (b1.mono B0.size)
    clear b1 B0 hcs hco
    go_wp2_with (refine wpList_store_rowF rfl 69 (.tmp 6) (.tmp 38) rfl v1.heap.size cs1 rfl rfl 69 Zr_msg (heap_alloc_new v1 (.cells Zr_msg 69)) HCI1.out HCS1.out.symm HCO1.out ?next)
    case next =>
      intro u1 hu
      have hu2 := hu.out
      have T1 : Below v1.heap.size v1 u1 := by
        rw [hu2]
        exact ((Below.refl _ _).alloc (Nat.le_refl _) _).trans ⟨rfl, rfl, rfl, by simp [World.setRow], fun kk hkk => setRow_other _ _ _ _ (by omega)⟩
      have B1 : Below u0.heap.size u0 u1 := C1.trans (T1.mono C1.size)
      clear hu hu2 T1 C1 HCS1 HCO1 HCI1
      go_wp2_with fail
      refine (get_msg la (k + 2) lc (l ++ [x]) u1 LEN1.out CAP1.out (hbl.grow B1) (hla _ B1.size)).mono ?_
      rintro e v2 ⟨cs2, hcs, hco, he, b2⟩
      rw [Hmsg1.out] at he
      subst he
      have HCS2 : Hid (cs2.size = Zr_msg.size) := hcs
      have HCO2 : Hid (cs2.all (·.oneCell') = true) := hco
      have HCI2 : Hid ((Try.prog.info? 69).map (·.size) = some cs2.size) := by show _ = _; rw [hcs]; exact Zr_msg_i
      have C2 := B1.trans (b2.mono B1.size)
      clear b2 B1 hcs hco
      go_wp2_with (refine wpList_store_rowF rfl 69 (.tmp 8) (.tmp 43) rfl v2.heap.size cs2 rfl rfl 69 Zr_msg (heap_alloc_new v2 (.cells Zr_msg 69)) HCI2.out HCS2.out.symm HCO2.out ?next)
      case next =>
        intro u2 hu
        have hu2 := hu.out
        have T2 : Below v2.heap.size v2 u2 := by
          rw [hu2]
          exact ((Below.refl _ _).alloc (Nat.le_refl _) _).trans ⟨rfl, rfl, rfl, by simp [World.setRow], fun kk hkk => setRow_other _ _ _ _ (by omega)⟩
        have B2 : Below u0.heap.size u0 u2 := C2.trans (T2.mono C2.size)
        clear hu hu2 T2 C2 HCS2 HCO2 HCI2
        go_wp2_with fail
        refine (get_msg a (k) cap m u2 LEN2.out CAP2.out (hbm.grow B2) (hba _ B2.size)).mono ?_
        rintro e v3 ⟨cs3, hcs, hco, he, b3⟩
        rw [Hmsg2.out] at he
        subst he
        have HCS3 : Hid (cs3.size = Zr_msg.size) := hcs
        have HCO3 : Hid (cs3.all (·.oneCell') = true) := hco
        have HCI3 : Hid ((Try.prog.info? 69).map (·.size) = some cs3.size) := by show _ = _; rw [hcs]; exact Zr_msg_i
        have C3 := B2.trans (b3.mono B2.size)
        clear b3 B2 hcs hco
        go_wp2_with (refine wpList_store_rowF rfl 69 (.tmp 10) (.tmp 52) rfl v3.heap.size cs3 rfl rfl 69 Zr_msg (heap_alloc_new v3 (.cells Zr_msg 69)) HCI3.out HCS3.out.symm HCO3.out ?next)
        case next =>
          intro u3 hu
          have hu2 := hu.out
          have T3 : Below v3.heap.size v3 u3 := by
            rw [hu2]
            exact ((Below.refl _ _).alloc (Nat.le_refl _) _).trans ⟨rfl, rfl, rfl, by simp [World.setRow], fun kk hkk => setRow_other _ _ _ _ (by omega)⟩
          have B3 : Below u0.heap.size u0 u3 := C3.trans (T3.mono C3.size)
          clear hu hu2 T3 C3 HCS3 HCO3 HCI3
          rcases ormsg.out with e | ⟨e, e2, e3⟩
          · subst e
            go_wp2_with fail
            refine (get_store a (k + 1) cap l u3 LEN0.out CAP0.out (hbs.grow B3) (hba _ B3.size)).mono ?_
            rintro e v4 ⟨cs4, hcs, hco, he, b4⟩
            rw [Hstore0.out] at he
            subst he
            have HCS4 : Hid (cs4.size = Zr_store.size) := hcs
            have HCO4 : Hid (cs4.all (·.oneCell') = true) := hco
            have HCI4 : Hid ((Try.prog.info? 29).map (·.size) = some cs4.size) := by show _ = _; rw [hcs]; exact Zr_store_i
            have C4 := B3.trans (b4.mono B3.size)
            clear b4 B3 hcs hco
            go_wp2_with (refine wpList_store_rowF rfl 29 (.tmp 12) (.tmp 64) rfl v4.heap.size cs4 rfl rfl 29 Zr_store (heap_alloc_new v4 (.cells Zr_store 29)) HCI4.out HCS4.out.symm HCO4.out ?next)
            case next =>
              intro u4 hu
              have hu2 := hu.out
              have T4 : Below v4.heap.size v4 u4 := by
                rw [hu2]
                exact ((Below.refl _ _).alloc (Nat.le_refl _) _).trans ⟨rfl, rfl, rfl, by simp [World.setRow], fun kk hkk => setRow_other _ _ _ _ (by omega)⟩
              have B4 : Below u0.heap.size u0 u4 := C4.trans (T4.mono C4.size)
              clear hu hu2 T4 C4 HCS4 HCO4 HCI4
              go_wp2_with fail
              refine (get_store la (k + 2) lc (l ++ [x]) u4 LEN1.out CAP1.out (hbl.grow B4) (hla _ B4.size)).mono ?_
              rintro e v5 ⟨cs5, hcs, hco, he, b5⟩
              rw [Hstore1.out] at he
              subst he
              have HCS5 : Hid (cs5.size = Zr_store.size) := hcs
              have HCO5 : Hid (cs5.all (·.oneCell') = true) := hco
              have HCI5 : Hid ((Try.prog.info? 29).map (·.size) = some cs5.size) := by show _ = _; rw [hcs]; exact Zr_store_i
              have C5 := B4.trans (b5.mono B4.size)
              clear b5 B4 hcs hco
              go_wp2_with (refine wpList_store_rowF rfl 29 (.tmp 14) (.tmp 69) rfl v5.heap.size cs5 rfl rfl 29 Zr_store (heap_alloc_new v5 (.cells Zr_store 29)) HCI5.out HCS5.out.symm HCO5.out ?next)
              case next =>
                intro u5 hu
                have hu2 := hu.out
                have T5 : Below v5.heap.size v5 u5 := by
                  rw [hu2]
                  exact ((Below.refl _ _).alloc (Nat.le_refl _) _).trans ⟨rfl, rfl, rfl, by simp [World.setRow], fun kk hkk => setRow_other _ _ _ _ (by omega)⟩
                have B5 : Below u0.heap.size u0 u5 := C5.trans (T5.mono C5.size)
                clear hu hu2 T5 C5 HCS5 HCO5 HCI5
                go_wp2_with fail
                refine (get_store a (k) cap m u5 LEN2.out CAP2.out (hbm.grow B5) (hba _ B5.size)).mono ?_
                rintro e v6 ⟨cs6, hcs, hco, he, b6⟩
                rw [Hstore2.out] at he
                subst he
                have HCS6 : Hid (cs6.size = Zr_store.size) := hcs
                have HCO6 : Hid (cs6.all (·.oneCell') = true) := hco
                have HCI6 : Hid ((Try.prog.info? 29).map (·.size) = some cs6.size) := by show _ = _; rw [hcs]; exact Zr_store_i
                have C6 := B5.trans (b6.mono B5.size)
                clear b6 B5 hcs hco
                go_wp2_with (refine wpList_store_rowF rfl 29 (.tmp 16) (.tmp 78) rfl v6.heap.size cs6 rfl rfl 29 Zr_store (heap_alloc_new v6 (.cells Zr_store 29)) HCI6.out HCS6.out.symm HCO6.out ?next)
                case next =>
                  intro u6 hu
                  have hu2 := hu.out
                  have T6 : Below v6.heap.size v6 u6 := by
                    rw [hu2]
                    exact ((Below.refl _ _).alloc (Nat.le_refl _) _).trans ⟨rfl, rfl, rfl, by simp [World.setRow], fun kk hkk => setRow_other _ _ _ _ (by omega)⟩
                  have B6 : Below u0.heap.size u0 u6 := C6.trans (T6.mono C6.size)
                  clear hu hu2 T6 C6 HCS6 HCO6 HCI6
                  rcases orstore.out with e | ⟨e, e2, e3⟩
                  · subst e
                    go_wp2_with fail
                    refine (get_cmd a (k + 1) cap l u6 LEN0.out CAP0.out (hbs.grow B6) (hba _ B6.size)).mono ?_
                    rintro e v7 ⟨cs7, hcs, hco, he, b7⟩
                    rw [Hcmd0.out] at he
                    subst he
                    have HCS7 : Hid (cs7.size = Zr_cmd.size) := hcs
                    have HCO7 : Hid (cs7.all (·.oneCell') = true) := hco
                    have HCI7 : Hid ((Try.prog.info? 65).map (·.size) = some cs7.size) := by show _ = _; rw [hcs]; exact Zr_cmd_i
                    have C7 := B6.trans (b7.mono B6.size)
                    clear b7 B6 hcs hco
                    go_wp2_with (refine wpList_store_rowF rfl 65 (.tmp 18) (.tmp 90) rfl v7.heap.size cs7 rfl rfl 65 Zr_cmd (heap_alloc_new v7 (.cells Zr_cmd 65)) HCI7.out HCS7.out.symm HCO7.out ?next)
                    case next =>
                      intro u7 hu
                      have hu2 := hu.out
                      have T7 : Below v7.heap.size v7 u7 := by
                        rw [hu2]
                        exact ((Below.refl _ _).alloc (Nat.le_refl _) _).trans ⟨rfl, rfl, rfl, by simp [World.setRow], fun kk hkk => setRow_other _ _ _ _ (by omega)⟩
                      have B7 : Below u0.heap.size u0 u7 := C7.trans (T7.mono C7.size)
                      clear hu hu2 T7 C7 HCS7 HCO7 HCI7
                      go_wp2_with fail
                      refine (get_cmd la (k + 2) lc (l ++ [x]) u7 LEN1.out CAP1.out (hbl.grow B7) (hla _ B7.size)).mono ?_
                      rintro e v8 ⟨cs8, hcs, hco, he, b8⟩
                      rw [Hcmd1.out] at he
                      subst he
                      have HCS8 : Hid (cs8.size = Zr_cmd.size) := hcs
                      have HCO8 : Hid (cs8.all (·.oneCell') = true) := hco
                      have HCI8 : Hid ((Try.prog.info? 65).map (·.size) = some cs8.size) := by show _ = _; rw [hcs]; exact Zr_cmd_i
                      have C8 := B7.trans (b8.mono B7.size)
                      clear b8 B7 hcs hco
                      go_wp2_with (refine wpList_store_rowF rfl 65 (.tmp 20) (.tmp 95) rfl v8.heap.size cs8 rfl rfl 65 Zr_cmd (heap_alloc_new v8 (.cells Zr_cmd 65)) HCI8.out HCS8.out.symm HCO8.out ?next)
                      case next =>
                        intro u8 hu
                        have hu2 := hu.out
                        have T8 : Below v8.heap.size v8 u8 := by
                          rw [hu2]
                          exact ((Below.refl _ _).alloc (Nat.le_refl _) _).trans ⟨rfl, rfl, rfl, by simp [World.setRow], fun kk hkk => setRow_other _ _ _ _ (by omega)⟩
                        have B8 : Below u0.heap.size u0 u8 := C8.trans (T8.mono C8.size)
                        clear hu hu2 T8 C8 HCS8 HCO8 HCI8
                        go_wp2_with fail
                        refine (get_cmd a (k) cap m u8 LEN2.out CAP2.out (hbm.grow B8) (hba _ B8.size)).mono ?_
                        rintro e v9 ⟨cs9, hcs, hco, he, b9⟩
                        rw [Hcmd2.out] at he
                        subst he
                        have HCS9 : Hid (cs9.size = Zr_cmd.size) := hcs
                        have HCO9 : Hid (cs9.all (·.oneCell') = true) := hco
                        have HCI9 : Hid ((Try.prog.info? 65).map (·.size) = some cs9.size) := by show _ = _; rw [hcs]; exact Zr_cmd_i
                        have C9 := B8.trans (b9.mono B8.size)
                        clear b9 B8 hcs hco
                        go_wp2_with (refine wpList_store_rowF rfl 65 (.tmp 22) (.tmp 104) rfl v9.heap.size cs9 rfl rfl 65 Zr_cmd (heap_alloc_new v9 (.cells Zr_cmd 65)) HCI9.out HCS9.out.symm HCO9.out ?next)
                        case next =>
                          intro u9 hu
                          have hu2 := hu.out
                          have T9 : Below v9.heap.size v9 u9 := by
                            rw [hu2]
                            exact ((Below.refl _ _).alloc (Nat.le_refl _) _).trans ⟨rfl, rfl, rfl, by simp [World.setRow], fun kk hkk => setRow_other _ _ _ _ (by omega)⟩
                          have B9 : Below u0.heap.size u0 u9 := C9.trans (T9.mono C9.size)
                          clear hu hu2 T9 C9 HCS9 HCO9 HCI9
                          rcases orcmd.out with e | ⟨e, e2, e3⟩
                          · subst e
                            go_wp2_with fail
                            refine (known_any u9).mono ?_
                            rintro e w' ⟨rfl, bk⟩
                            go_wp2
                            go_ret
                            exact ⟨rfl, BW.trans ((B9.trans (bk.mono B9.size)).mono BW.size)⟩
                          · subst e; subst e2; subst e3
                            go_wp2_with fail
                            refine (known_any u9).mono ?_
                            rintro e w' ⟨rfl, bk⟩
                            go_wp2
                            go_ret
                            exact ⟨rfl, BW.trans ((B9.trans (bk.mono B9.size)).mono BW.size)⟩
                  · subst e; subst e2; subst e3
                    go_wp2_with fail
                    refine (get_cmd a (k + 1) cap l u6 LEN0.out CAP0.out (hbs.grow B6) (hba _ B6.size)).mono ?_
                    rintro e v7 ⟨cs7, hcs, hco, he, b7⟩
                    rw [Hcmd0.out] at he
                    subst he
                    have HCS7 : Hid (cs7.size = Zr_cmd.size) := hcs
                    have HCO7 : Hid (cs7.all (·.oneCell') = true) := hco
                    have HCI7 : Hid ((Try.prog.info? 65).map (·.size) = some cs7.size) := by show _ = _; rw [hcs]; exact Zr_cmd_i
                    have C7 := B6.trans (b7.mono B6.size)
                    clear b7 B6 hcs hco
                    go_wp2_with (refine wpList_store_rowF rfl 65 (.tmp 18) (.tmp 90) rfl v7.heap.size cs7 rfl rfl 65 Zr_cmd (heap_alloc_new v7 (.cells Zr_cmd 65)) HCI7.out HCS7.out.symm HCO7.out ?next)
                    case next =>
                      intro u7 hu
                      have hu2 := hu.out
                      have T7 : Below v7.heap.size v7 u7 := by
                        rw [hu2]
                        exact ((Below.refl _ _).alloc (Nat.le_refl _) _).trans ⟨rfl, rfl, rfl, by simp [World.setRow], fun kk hkk => setRow_other _ _ _ _ (by omega)⟩
                      have B7 : Below u0.heap.size u0 u7 := C7.trans (T7.mono C7.size)
                      clear hu hu2 T7 C7 HCS7 HCO7 HCI7
                      go_wp2_with fail
                      refine (get_cmd la (k + 2) lc (l ++ [x]) u7 LEN1.out CAP1.out (hbl.grow B7) (hla _ B7.size)).mono ?_
                      rintro e v8 ⟨cs8, hcs, hco, he, b8⟩
                      rw [Hcmd1.out] at he
                      subst he
                      have HCS8 : Hid (cs8.size = Zr_cmd.size) := hcs
                      have HCO8 : Hid (cs8.all (·.oneCell') = true) := hco
                      have HCI8 : Hid ((Try.prog.info? 65).map (·.size) = some cs8.size) := by show _ = _; rw [hcs]; exact Zr_cmd_i
                      have C8 := B7.trans (b8.mono B7.size)
                      clear b8 B7 hcs hco
                      go_wp2_with (refine wpList_store_rowF rfl 65 (.tmp 20) (.tmp 95) rfl v8.heap.size cs8 rfl rfl 65 Zr_cmd (heap_alloc_new v8 (.cells Zr_cmd 65)) HCI8.out HCS8.out.symm HCO8.out ?next)
                      case next =>
                        intro u8 hu
                        have hu2 := hu.out
                        have T8 : Below v8.heap.size v8 u8 := by
                          rw [hu2]
                          exact ((Below.refl _ _).alloc (Nat.le_refl _) _).trans ⟨rfl, rfl, rfl, by simp [World.setRow], fun kk hkk => setRow_other _ _ _ _ (by omega)⟩
                        have B8 : Below u0.heap.size u0 u8 := C8.trans (T8.mono C8.size)
                        clear hu hu2 T8 C8 HCS8 HCO8 HCI8
                        go_wp2_with fail
                        refine (get_cmd a (k) cap m u8 LEN2.out CAP2.out (hbm.grow B8) (hba _ B8.size)).mono ?_
                        rintro e v9 ⟨cs9, hcs, hco, he, b9⟩
                        rw [Hcmd2.out] at he
                        subst he
                        have HCS9 : Hid (cs9.size = Zr_cmd.size) := hcs
                        have HCO9 : Hid (cs9.all (·.oneCell') = true) := hco
                        have HCI9 : Hid ((Try.prog.info? 65).map (·.size) = some cs9.size) := by show _ = _; rw [hcs]; exact Zr_cmd_i
                        have C9 := B8.trans (b9.mono B8.size)
                        clear b9 B8 hcs hco
                        go_wp2_with (refine wpList_store_rowF rfl 65 (.tmp 22) (.tmp 104) rfl v9.heap.size cs9 rfl rfl 65 Zr_cmd (heap_alloc_new v9 (.cells Zr_cmd 65)) HCI9.out HCS9.out.symm HCO9.out ?next)
                        case next =>
                          intro u9 hu
                          have hu2 := hu.out
                          have T9 : Below v9.heap.size v9 u9 := by
                            rw [hu2]
                            exact ((Below.refl _ _).alloc (Nat.le_refl _) _).trans ⟨rfl, rfl, rfl, by simp [World.setRow], fun kk hkk => setRow_other _ _ _ _ (by omega)⟩
                          have B9 : Below u0.heap.size u0 u9 := C9.trans (T9.mono C9.size)
                          clear hu hu2 T9 C9 HCS9 HCO9 HCI9
                          rcases orcmd.out with e | ⟨e, e2, e3⟩
                          · subst e
                            go_wp2_with fail
                            refine (known_any u9).mono ?_
                            rintro e w' ⟨rfl, bk⟩
                            go_wp2
                            go_ret
                            exact ⟨rfl, BW.trans ((B9.trans (bk.mono B9.size)).mono BW.size)⟩
                          · subst e; subst e2; subst e3
                            go_wp2_with fail
                            refine (known_any u9).mono ?_
                            rintro e w' ⟨rfl, bk⟩
                            go_wp2
                            go_ret
                            exact ⟨rfl, BW.trans ((B9.trans (bk.mono B9.size)).mono BW.size)⟩
          · subst e; subst e2; subst e3
            go_wp2_with fail
            refine (get_store a (k + 1) cap l u3 LEN0.out CAP0.out (hbs.grow B3) (hba _ B3.size)).mono ?_
            rintro e v4 ⟨cs4, hcs, hco, he, b4⟩
            rw [Hstore0.out] at he
            subst he
            have HCS4 : Hid (cs4.size = Zr_store.size) := hcs
            have HCO4 : Hid (cs4.all (·.oneCell') = true) := hco
            have HCI4 : Hid ((Try.prog.info? 29).map (·.size) = some cs4.size) := by show _ = _; rw [hcs]; exact Zr_store_i
            have C4 := B3.trans (b4.mono B3.size)
            clear b4 B3 hcs hco
            go_wp2_with (refine wpList_store_rowF rfl 29 (.tmp 12) (.tmp 64) rfl v4.heap.size cs4 rfl rfl 29 Zr_store (heap_alloc_new v4 (.cells Zr_store 29)) HCI4.out HCS4.out.symm HCO4.out ?next)
            case next =>
              intro u4 hu
              have hu2 := hu.out
              have T4 : Below v4.heap.size v4 u4 := by
                rw [hu2]
                exact ((Below.refl _ _).alloc (Nat.le_refl _) _).trans ⟨rfl, rfl, rfl, by simp [World.setRow], fun kk hkk => setRow_other _ _ _ _ (by omega)⟩
              have B4 : Below u0.heap.size u0 u4 := C4.trans (T4.mono C4.size)
              clear hu hu2 T4 C4 HCS4 HCO4 HCI4
              go_wp2_with fail
              refine (get_store la (k + 2) lc (l ++ [x]) u4 LEN1.out CAP1.out (hbl.grow B4) (hla _ B4.size)).mono ?_
              rintro e v5 ⟨cs5, hcs, hco, he, b5⟩
              rw [Hstore1.out] at he
              subst he
              have HCS5 : Hid (cs5.size = Zr_store.size) := hcs
              have HCO5 : Hid (cs5.all (·.oneCell') = true) := hco
              have HCI5 : Hid ((Try.prog.info? 29).map (·.size) = some cs5.size) := by show _ = _; rw [hcs]; exact Zr_store_i
              have C5 := B4.trans (b5.mono B4.size)
              clear b5 B4 hcs hco
              go_wp2_with (refine wpList_store_rowF rfl 29 (.tmp 14) (.tmp 69) rfl v5.heap.size cs5 rfl rfl 29 Zr_store (heap_alloc_new v5 (.cells Zr_store 29)) HCI5.out HCS5.out.symm HCO5.out ?next)
              case next =>
                intro u5 hu
                have hu2 := hu.out
                have T5 : Below v5.heap.size v5 u5 := by
                  rw [hu2]
                  exact ((Below.refl _ _).alloc (Nat.le_refl _) _).trans ⟨rfl, rfl, rfl, by simp [World.setRow], fun kk hkk => setRow_other _ _ _ _ (by omega)⟩
                have B5 : Below u0.heap.size u0 u5 := C5.trans (T5.mono C5.size)
                clear hu hu2 T5 C5 HCS5 HCO5 HCI5
                go_wp2_with fail
                refine (get_store a (k) cap m u5 LEN2.out CAP2.out (hbm.grow B5) (hba _ B5.size)).mono ?_
                rintro e v6 ⟨cs6, hcs, hco, he, b6⟩
                rw [Hstore2.out] at he
                subst he
                have HCS6 : Hid (cs6.size = Zr_store.size) := hcs
                have HCO6 : Hid (cs6.all (·.oneCell') = true) := hco
                have HCI6 : Hid ((Try.prog.info? 29).map (·.size) = some cs6.size) := by show _ = _; rw [hcs]; exact Zr_store_i
                have C6 := B5.trans (b6.mono B5.size)
                clear b6 B5 hcs hco
                go_wp2_with (refine wpList_store_rowF rfl 29 (.tmp 16) (.tmp 78) rfl v6.heap.size cs6 rfl rfl 29 Zr_store (heap_alloc_new v6 (.cells Zr_store 29)) HCI6.out HCS6.out.symm HCO6.out ?next)
                case next =>
                  intro u6 hu
                  have hu2 := hu.out
                  have T6 : Below v6.heap.size v6 u6 := by
                    rw [hu2]
                    exact ((Below.refl _ _).alloc (Nat.le_refl _) _).trans ⟨rfl, rfl, rfl, by simp [World.setRow], fun kk hkk => setRow_other _ _ _ _ (by omega)⟩
                  have B6 : Below u0.heap.size u0 u6 := C6.trans (T6.mono C6.size)
                  clear hu hu2 T6 C6 HCS6 HCO6 HCI6
                  rcases orstore.out with e | ⟨e, e2, e3⟩
                  · subst e
                    go_wp2_with fail
                    refine (get_cmd a (k + 1) cap l u6 LEN0.out CAP0.out (hbs.grow B6) (hba _ B6.size)).mono ?_
                    rintro e v7 ⟨cs7, hcs, hco, he, b7⟩
                    rw [Hcmd0.out] at he
                    subst he
                    have HCS7 : Hid (cs7.size = Zr_cmd.size) := hcs
                    have HCO7 : Hid (cs7.all (·.oneCell') = true) := hco
                    have HCI7 : Hid ((Try.prog.info? 65).map (·.size) = some cs7.size) := by show _ = _; rw [hcs]; exact Zr_cmd_i
                    have C7 := B6.trans (b7.mono B6.size)
                    clear b7 B6 hcs hco
                    go_wp2_with (refine wpList_store_rowF rfl 65 (.tmp 18) (.tmp 90) rfl v7.heap.size cs7 rfl rfl 65 Zr_cmd (heap_alloc_new v7 (.cells Zr_cmd 65)) HCI7.out HCS7.out.symm HCO7.out ?next)
                    case next =>
                      intro u7 hu
                      have hu2 := hu.out
                      have T7 : Below v7.heap.size v7 u7 := by
                        rw [hu2]
                        exact ((Below.refl _ _).alloc (Nat.le_refl _) _).trans ⟨rfl, rfl, rfl, by simp [World.setRow], fun kk hkk => setRow_other _ _ _ _ (by omega)⟩
                      have B7 : Below u0.heap.size u0 u7 := C7.trans (T7.mono C7.size)
                      clear hu hu2 T7 C7 HCS7 HCO7 HCI7
                      go_wp2_with fail
                      refine (get_cmd la (k + 2) lc (l ++ [x]) u7 LEN1.out CAP1.out (hbl.grow B7) (hla _ B7.size)).mono ?_
                      rintro e v8 ⟨cs8, hcs, hco, he, b8⟩
                      rw [Hcmd1.out] at he
                      subst he
                      have HCS8 : Hid (cs8.size = Zr_cmd.size) := hcs
                      have HCO8 : Hid (cs8.all (·.oneCell') = true) := hco
                      have HCI8 : Hid ((Try.prog.info? 65).map (·.size) = some cs8.size) := by show _ = _; rw [hcs]; exact Zr_cmd_i
                      have C8 := B7.trans (b8.mono B7.size)
                      clear b8 B7 hcs hco
                      go_wp2_with (refine wpList_store_rowF rfl 65 (.tmp 20) (.tmp 95) rfl v8.heap.size cs8 rfl rfl 65 Zr_cmd (heap_alloc_new v8 (.cells Zr_cmd 65)) HCI8.out HCS8.out.symm HCO8.out ?next)
                      case next =>
                        intro u8 hu
                        have hu2 := hu.out
                        have T8 : Below v8.heap.size v8 u8 := by
                          rw [hu2]
                          exact ((Below.refl _ _).alloc (Nat.le_refl _) _).trans ⟨rfl, rfl, rfl, by simp [World.setRow], fun kk hkk => setRow_other _ _ _ _ (by omega)⟩
                        have B8 : Below u0.heap.size u0 u8 := C8.trans (T8.mono C8.size)
                        clear hu hu2 T8 C8 HCS8 HCO8 HCI8
                        go_wp2_with fail
                        refine (get_cmd a (k) cap m u8 LEN2.out CAP2.out (hbm.grow B8) (hba _ B8.size)).mono ?_
                        rintro e v9 ⟨cs9, hcs, hco, he, b9⟩
                        rw [Hcmd2.out] at he
                        subst he
                        have HCS9 : Hid (cs9.size = Zr_cmd.size) := hcs
                        have HCO9 : Hid (cs9.all (·.oneCell') = true) := hco
                        have HCI9 : Hid ((Try.prog.info? 65).map (·.size) = some cs9.size) := by show _ = _; rw [hcs]; exact Zr_cmd_i
                        have C9 := B8.trans (b9.mono B8.size)
                        clear b9 B8 hcs hco
                        go_wp2_with (refine wpList_store_rowF rfl 65 (.tmp 22) (.tmp 104) rfl v9.heap.size cs9 rfl rfl 65 Zr_cmd (heap_alloc_new v9 (.cells Zr_cmd 65)) HCI9.out HCS9.out.symm HCO9.out ?next)
                        case next =>
                          intro u9 hu
                          have hu2 := hu.out
                          have T9 : Below v9.heap.size v9 u9 := by
                            rw [hu2]
                            exact ((Below.refl _ _).alloc (Nat.le_refl _) _).trans ⟨rfl, rfl, rfl, by simp [World.setRow], fun kk hkk => setRow_other _ _ _ _ (by omega)⟩
                          have B9 : Below u0.heap.size u0 u9 := C9.trans (T9.mono C9.size)
                          clear hu hu2 T9 C9 HCS9 HCO9 HCI9
                          rcases orcmd.out with e | ⟨e, e2, e3⟩
                          · subst e
                            go_wp2_with fail
                            refine (known_any u9).mono ?_
                            rintro e w' ⟨rfl, bk⟩
                            go_wp2
                            go_ret
                            exact ⟨rfl, BW.trans ((B9.trans (bk.mono B9.size)).mono BW.size)⟩
                          · subst e; subst e2; subst e3
                            go_wp2_with fail
                            refine (known_any u9).mono ?_
                            rintro e w' ⟨rfl, bk⟩
                            go_wp2
                            go_ret
                            exact ⟨rfl, BW.trans ((B9.trans (bk.mono B9.size)).mono BW.size)⟩
                  · subst e; subst e2; subst e3
                    go_wp2_with fail
                    refine (get_cmd a (k + 1) cap l u6 LEN0.out CAP0.out (hbs.grow B6) (hba _ B6.size)).mono ?_
                    rintro e v7 ⟨cs7, hcs, hco, he, b7⟩
                    rw [Hcmd0.out] at he
                    subst he
                    have HCS7 : Hid (cs7.size = Zr_cmd.size) := hcs
                    have HCO7 : Hid (cs7.all (·.oneCell') = true) := hco
                    have HCI7 : Hid ((Try.prog.info? 65).map (·.size) = some cs7.size) := by show _ = _; rw [hcs]; exact Zr_cmd_i
                    have C7 := B6.trans (b7.mono B6.size)
                    clear b7 B6 hcs hco
                    go_wp2_with (refine wpList_store_rowF rfl 65 (.tmp 18) (.tmp 90) rfl v7.heap.size cs7 rfl rfl 65 Zr_cmd (heap_alloc_new v7 (.cells Zr_cmd 65)) HCI7.out HCS7.out.symm HCO7.out ?next)
                    case next =>
                      intro u7 hu
                      have hu2 := hu.out
                      have T7 : Below v7.heap.size v7 u7 := by
                        rw [hu2]
                        exact ((Below.refl _ _).alloc (Nat.le_refl _) _).trans ⟨rfl, rfl, rfl, by simp [World.setRow], fun kk hkk => setRow_other _ _ _ _ (by omega)⟩
                      have B7 : Below u0.heap.size u0 u7 := C7.trans (T7.mono C7.size)
                      clear hu hu2 T7 C7 HCS7 HCO7 HCI7
                      go_wp2_with fail
                      refine (get_cmd la (k + 2) lc (l ++ [x]) u7 LEN1.out CAP1.out (hbl.grow B7) (hla _ B7.size)).mono ?_
                      rintro e v8 ⟨cs8, hcs, hco, he, b8⟩
                      rw [Hcmd1.out] at he
                      subst he
                      have HCS8 : Hid (cs8.size = Zr_cmd.size) := hcs
                      have HCO8 : Hid (cs8.all (·.oneCell') = true) := hco
                      have HCI8 : Hid ((Try.prog.info? 65).map (·.size) = some cs8.size) := by show _ = _; rw [hcs]; exact Zr_cmd_i
                      have C8 := B7.trans (b8.mono B7.size)
                      clear b8 B7 hcs hco
                      go_wp2_with (refine wpList_store_rowF rfl 65 (.tmp 20) (.tmp 95) rfl v8.heap.size cs8 rfl rfl 65 Zr_cmd (heap_alloc_new v8 (.cells Zr_cmd 65)) HCI8.out HCS8.out.symm HCO8.out ?next)
                      case next =>
                        intro u8 hu
                        have hu2 := hu.out
                        have T8 : Below v8.heap.size v8 u8 := by
                          rw [hu2]
                          exact ((Below.refl _ _).alloc (Nat.le_refl _) _).trans ⟨rfl, rfl, rfl, by simp [World.setRow], fun kk hkk => setRow_other _ _ _ _ (by omega)⟩
                        have B8 : Below u0.heap.size u0 u8 := C8.trans (T8.mono C8.size)
                        clear hu hu2 T8 C8 HCS8 HCO8 HCI8
                        go_wp2_with fail
                        refine (get_cmd a (k) cap m u8 LEN2.out CAP2.out (hbm.grow B8) (hba _ B8.size)).mono ?_
                        rintro e v9 ⟨cs9, hcs, hco, he, b9⟩
                        rw [Hcmd2.out] at he
                        subst he
                        have HCS9 : Hid (cs9.size = Zr_cmd.size) := hcs
                        have HCO9 : Hid (cs9.all (·.oneCell') = true) := hco
                        have HCI9 : Hid ((Try.prog.info? 65).map (·.size) = some cs9.size) := by show _ = _; rw [hcs]; exact Zr_cmd_i
                        have C9 := B8.trans (b9.mono B8.size)
                        clear b9 B8 hcs hco
                        go_wp2_with (refine wpList_store_rowF rfl 65 (.tmp 22) (.tmp 104) rfl v9.heap.size cs9 rfl rfl 65 Zr_cmd (heap_alloc_new v9 (.cells Zr_cmd 65)) HCI9.out HCS9.out.symm HCO9.out ?next)
                        case next =>
                          intro u9 hu
                          have hu2 := hu.out
                          have T9 : Below v9.heap.size v9 u9 := by
                            rw [hu2]
                            exact ((Below.refl _ _).alloc (Nat.le_refl _) _).trans ⟨rfl, rfl, rfl, by simp [World.setRow], fun kk hkk => setRow_other _ _ _ _ (by omega)⟩
                          have B9 : Below u0.heap.size u0 u9 := C9.trans (T9.mono C9.size)
                          clear hu hu2 T9 C9 HCS9 HCO9 HCI9
                          rcases orcmd.out with e | ⟨e, e2, e3⟩
                          · subst e
                            go_wp2_with fail
                            refine (known_any u9).mono ?_
                            rintro e w' ⟨rfl, bk⟩
                            go_wp2
                            go_ret
                            exact ⟨rfl, BW.trans ((B9.trans (bk.mono B9.size)).mono BW.size)⟩
                          · subst e; subst e2; subst e3
                            go_wp2_with fail
                            refine (known_any u9).mono ?_
                            rintro e w' ⟨rfl, bk⟩
                            go_wp2
                            go_ret
                            exact ⟨rfl, BW.trans ((B9.trans (bk.mono B9.size)).mono BW.size)⟩

theorem lawMoreX (W : World) (a : Option Addr) (len cap : Nat) (l : List UInt8) (hn : len = l.length) (hc : len ≤ cap) (hb : Bs W a l) (hr : len ≤ 140737488351232) (x : Int) (hx : (Lit.int .u8 x).wf = true) :
    Calls Try.prog 5 #[.slice a len cap, .int .u8 x] W fun e w' => e = .returned (.bool true) ∧ Below W.heap.size W w' := by
  subst hn
  have h := bounds_u8 hx
  have e : x = ((UInt8.ofNat x.toNat).toNat : Int) := by simp; omega
  rw [e]
  exact lawMore W a cap l _ hc hb hr

end Go.Proofs.Ytpbokgeaolpiaab
