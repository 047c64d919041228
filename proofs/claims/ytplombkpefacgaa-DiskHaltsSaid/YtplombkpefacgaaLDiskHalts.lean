/- The law manciplelaw05.DiskHalts returns true whatever it is called with, and what it was called with reads as it did. No condition. -/
import Derived.Test.YtplombkpefacgaaLaw
import Derived.Test.YtplombkpefacgaaDkP
import Derived.Deep.RegionWith
import Derived.Deep.DeepCutAuto
import Derived.Deep.CutRange
import Derived.Outline
namespace Go.Proofs.Ytplombkpefacgaa.LDiskHalts
open Go.ChangeShapes Go.WideShapes Go.ChangeAt Go.RowKit Go.IntWalk Go.Proofs.Mem Law
set_option linter.unusedVariables false
open Go.Proofs.Ytplombkpefacgaa.Disk Go.Proofs.Each
set_option linter.unusedSimpArgs false
theorem n_mod (n : Int) (h : 0 ≤ n ∧ n ≤ 255) : 0 ≤ n % 40 ∧ n % 40 < 40 ∧ wrap64 (n % 40) = n % 40 ∧ IntKind.i64.wrap (n % 40) = n % 40 := ⟨by omega, by omega, wrap64_in _ (by omega), IntWalk.i64_in _ (by omega)⟩
set_option maxRecDepth 100000 in
set_option maxHeartbeats 8000000 in
theorem walk (w : World) (l : Value) (xl : List Disk.Oi) (hl : SS Disk.cOi 5 w w.heap.size l xl) (bl : ∀ o ∈ xl, Disk.OiAt w w.heap.size o) (n : Int) (hn : 0 ≤ n ∧ n ≤ 255) (f : Value) (xf : List Disk.Ft) (hf : SS Disk.cFt 4 w w.heap.size f xf) (bf : ∀ o ∈ xf, Disk.Ft.Ok o) :
    Calls Try.prog 7 #[l, .int .u8 n, f] w fun e w' => e = .returned (.bool true) ∧ Below w.heap.size w w' := by
  obtain ⟨A, c, rfl, hlc, hcm⟩ := hl.form
  obtain ⟨Af, cf, rfl, hfc, hfm⟩ := hf.form
  unfold maxLen at hcm hfm
  have HV := Lib.hid (fun W (hW : Below w.heap.size w W) => heavy_any W 8 8 A c xl hcm hlc ((hl.below hW).more hW.size) (fun x hx => (bl x hx).ok))
  have HL := Lib.hid hl
  have BL := Lib.hid bl
  have HF := Lib.hid hf
  have BF := Lib.hid bf
  have hl60 : hvy 8 8 xl = false → xl.length ≤ 60 := fun hh => by
    rcases Nat.lt_or_ge 60 xl.length with h | h
    · unfold hvy at hh; rw [decide_eq_true h] at hh; simp at hh
    · exact h
  have NW := Lib.hid (fun W => new_at 8 8 W 8 8 rfl rfl (by decide) (by decide))
  have H60 := Lib.hid hl60
  clear hl bl hl60 hf bf
  obtain ⟨q, hq⟩ : ∃ q, q = hvy 8 8 xl := ⟨_, rfl⟩
  have HQ := Lib.hid hq
  have HV0 := Lib.hid (HV.out w (Below.refl _ _))
  rw [← hq] at HV0
  clear hq
  obtain ⟨qf, hqf⟩ : ∃ q, decide (60 < (xf.length : Int)) = q := ⟨_, rfl⟩
  have hqf2 : decide (60 < xf.length) = qf := by rw [← hqf]; exact decide_eq_decide.2 (by omega)
  have HQF := Lib.hid (show qf = false → xf.length ≤ 60 from fun h => by rw [← hqf2] at h; simpa using h)
  obtain ⟨n0, n40, wn, wn'⟩ := n_mod n hn
  have HM9 := Lib.hid (show n % 40 ≤ 9223372036854775807 from Int.le_trans (Int.le_of_lt n40) (by decide))
  have HN0 := Lib.hid n0
  have HN4 := Lib.hid (And.intro n0 n40)
  go_enter Try.func7, Try.ntmps7
  cases q
  case true =>
    go_wp2_with (first
      | (go_at_call 9; (with_reducible refine HV0.out.mono ?_); rintro e w1 ⟨rfl, rfl⟩)
      | (go_at_call 10; (with_reducible refine (known_any _).mono ?_); rintro e w3 ⟨rfl, hb3⟩; have HB3 := Lib.hid hb3; clear hb3)
      | fail)
    go_ret
    exact ⟨rfl, HB3.out⟩
  cases qf
  case true =>
    go_wp2_with (first
      | (go_at_call 9; (with_reducible refine HV0.out.mono ?_); rintro e w1 ⟨rfl, rfl⟩)
      | (go_at_call 10; (with_reducible refine (known_any _).mono ?_); rintro e w3 ⟨rfl, hb3⟩; have HB3 := Lib.hid hb3; clear hb3)
      | fail)
    go_ret
    exact ⟨rfl, HB3.out⟩
  have h60 := H60.out HQ.out.symm
  have hf60 := HQF.out rfl
  go_wp2_with (first
    | (go_at_call 9; (with_reducible refine HV0.out.mono ?_); rintro e w1 ⟨rfl, rfl⟩)
    | (go_at_call 10; (with_reducible refine (known_any _).mono ?_); rintro e w3 ⟨rfl, hb3⟩; have HB3 := Lib.hid hb3; clear hb3)
    | fail)
  (with_reducible refine (NW.out _).mono ?_)
  rintro e w4 ⟨rfl, o1⟩
  have O1 : Hid (Out w3 w4 (fun k => if k = 0 then 8 else 8) 2) := Lib.hid o1
  have HB4 := Lib.hid (show Below w1.heap.size w1 w4 from by obtain ⟨_, _, _, _, _, h⟩ := o1; exact step_ HB3.out h)
  clear o1
  go_wp2_with fail
  (with_reducible refine (NW.out _).mono ?_)
  rintro e w5 ⟨rfl, o2⟩
  have RS := Lib.hid (Pp.start O1.out (show Out w4 w5 (fun k => if k = 0 then 8 else 8) 2 from o2) HB3.out.size)
  have HB5 := Lib.hid (show Below w1.heap.size w1 w5 from by obtain ⟨_, _, _, _, _, h⟩ := o2; exact step_ HB4.out h)
  clear o2
  obtain ⟨a, ea⟩ : ∃ a, a = w3.heap.size := ⟨_, rfl⟩
  obtain ⟨b, eb⟩ : ∃ b, b = w4.heap.size := ⟨_, rfl⟩
  rw [← ea, ← eb] at RS
  rw [← ea, ← eb]
  clear ea eb
  go_wp2_with fail
  (with_reducible refine (pp_halt RS.out (n % 40) HM9.out).mono ?_)
  rintro e w6 ⟨rfl, p6, b6, f6⟩
  have R6 := Lib.hid (RelH.start (fun k hk => by split <;> rfl) (n % 40) HN0.out p6)
  have HB6 := Lib.hid (HB5.out.trans b6)
  clear p6 b6 f6
  go_wp2
  clear wn wn'
  generalize n % 40 = m at *
  go_loopw [10, 9] (fun i lv wr => ∃ (j : Nat) (lf : Int), i = .int .i64 j ∧ lv = .int .i64 lf ∧ j ≤ xl.length ∧ (-(j : Int) ≤ lf ∧ lf ≤ 40) ∧ Hid (RelH w1.heap.size wr a b j lf) ∧ Hid (Below w1.heap.size w1 wr)) (fun i _ _ => xl.length - (intOf i).toNat)
  case atStart => exact ⟨0, m, rfl, rfl, by omega, by have := HN4.out; omega, R6, HB6⟩
  case round =>
    obtain ⟨j, lf, rfl, rfl, hj, hlf, HR, HBL⟩ := hrel
    by_cases hlt : j < xl.length
    · have HX := Lib.hid (BL.out xl[j] (List.getElem_mem hlt))
      obtain ⟨bo, off, rfl, hb, hcell⟩ := (HL.out.below HBL.out).at_ (List.getElem?_eq_getElem hlt)
      generalize xl[j] = x at *
      obtain ⟨o, xa, xb⟩ := x
      obtain ⟨A1, c1, e1, _⟩ := HX.out.2.1.form
      obtain ⟨A2, c2, e2, _⟩ := HX.out.2.2.form
      simp only at e1 e2
      subst e1 e2
      obtain ⟨L1, hL1⟩ : ∃ L, L = o.xs.length := ⟨_, rfl⟩
      obtain ⟨L2, hL2⟩ : ∃ L, L = o.fs.length := ⟨_, rfl⟩
      rw [← hL1, ← hL2] at HX hcell
      have y0 : wr.cell? ⟨bo, off + j * 5, none⟩ = some (.int .u8 o.k) := hcell 0 _ rfl
      have y1 : wr.cell? ⟨bo, off + j * 5 + 1, none⟩ = some (.int .u8 o.f) := hcell 1 _ rfl
      have y2 : wr.cell? ⟨bo, off + j * 5 + 2, none⟩ = some (.int .i64 o.s) := hcell 2 _ rfl
      have y3 : wr.cell? ⟨bo, off + j * 5 + 3, none⟩ = some (.slice A1 L1 c1) := hcell 3 _ rfl
      have y4 : wr.cell? ⟨bo, off + j * 5 + 4, none⟩ = some (.slice A2 L2 c2) := hcell 4 _ rfl
      have hm9 : o.k.tmod 9 = o.k % 9 := Int.tmod_eq_emod_of_nonneg HX.out.1.1.1
      obtain ⟨k9, hk9⟩ : ∃ k9, o.k % 9 = k9 := ⟨_, rfl⟩
      have HK9 := Lib.hid hk9
      rw [hk9] at hm9
      clear hk9
      obtain ⟨w5', hw5⟩ : ∃ w', wr.alloc (.cells (opC o (.slice A1 L1 c1) (.slice A2 L2 c2)) 33) = w' := ⟨_, rfl⟩
      obtain ⟨ob, hob⟩ : ∃ ob, wr.heap.size = ob := ⟨_, rfl⟩
      have BX := Lib.hid (Box.new wr (opC o (.slice A1 L1 c1) (.slice A2 L2 c2)) 33)
      have HBW := Lib.hid (new_ HBL.out (.cells (opC o (.slice A1 L1 c1) (.slice A2 L2 c2)) 33))
      have RW := Lib.hid (show ∃ D E : Dv, Pp (fun x => none_ x ∨ x = wr.heap.size) w1.heap.size (wr.alloc (.cells (opC o (.slice A1 L1 c1) (.slice A2 L2 c2)) 33)) a b D E ∧ Hs D E lf ∧ E.Few j from by
        obtain ⟨D, E, hp, hs, fe⟩ := HR.out
        exact ⟨D, E, hp.fresh _, hs, fe⟩)
      have HL1 := Lib.hid hL1
      rw [hw5, hob] at BX RW
      rw [hw5] at HBW
      have kb := BX.out.cell
      clear hcell hL1 hL2
      go_upto_region 13 with fail
      clear hw5 hob y0 y1 y2 y3 y4
      by_cases h68 : k9 = 6 ∨ k9 = 8
      · have R8H := Lib.hid (show RelH w1.heap.size w5' a b (j + 1) lf from by
          obtain ⟨D, E, hp, hs, fe⟩ := RW.out
          exact ⟨D, E, hp.less (fun x hx => .inl hx), hs, fe.more (Nat.le_succ _)⟩)
        rcases h68 with h6 | h6
        · have d6 : (k9 == 6) = true := by rw [h6]; rfl
          clear h6
          go_wp2
          go_roundw
          case rel => exact ⟨j + 1, lf, by go_num, rfl, by omega, by omega, R8H, HBW⟩
          case measure => simp [intOf]; omega
        · have d6 : (k9 == 6) = false := by rw [h6]; rfl
          have d8 : (k9 == 8) = true := by rw [h6]; rfl
          clear h6
          go_wp2
          go_roundw
          case rel => exact ⟨j + 1, lf, by go_num, rfl, by omega, by omega, R8H, HBW⟩
          case measure => simp [intOf]; omega
      · have d6 : (k9 == 6) = false := by rw [beq_eq_false_iff_ne]; omega
        have d8 : (k9 == 8) = false := by rw [beq_eq_false_iff_ne]; omega
        go_upto_region 14 with fail
        obtain ⟨f2, hf2⟩ : ∃ q, decide (o.f < 2) = q := ⟨_, rfl⟩
        obtain ⟨s0, hs0⟩ : ∃ q, decide (0 ≤ o.s) = q := ⟨_, rfl⟩
        obtain ⟨s8, hs8⟩ : ∃ q, decide (o.s < 8) = q := ⟨_, rfl⟩
        obtain ⟨k3, hk3⟩ : ∃ q, decide (k9 < 3) = q := ⟨_, rfl⟩
        obtain ⟨l8, hl8⟩ : ∃ q, ((L1 : Int) == 128) = q := ⟨_, rfl⟩
        obtain ⟨k5, hk5⟩ : ∃ q, (k9 == 5) = q := ⟨_, rfl⟩
        obtain ⟨k4, hk4⟩ : ∃ q, decide (k9 < 4) = q := ⟨_, rfl⟩
        have hl8' : (L1 == 128) = l8 := by rw [← hl8, Bool.eq_iff_iff, beq_iff_eq, beq_iff_eq]; omega
        have hl8'' : decide (L1 = 128) = l8 := by rw [← hl8']; rfl
        have CN := Lib.hid (show cnts o = if k4 = true then (f2 && s0 && s8 && (k3 || l8)) else (k5 && f2) from by
          unfold cnts
          rw [HK9.out, ← hf2, ← hs0, ← hs8, ← hk3, ← hl8'', HL1.out, ← hk4, ← hk5]
          simp only [Bool.decide_and, Bool.decide_or, Bool.and_assoc, decide_eq_true_eq]
          by_cases h5 : k9 = 5
          · rw [if_pos h5, if_neg (by omega), h5]; rfl
          · rw [if_neg h5]
            by_cases h4 : k9 < 4
            · rw [if_pos h4, if_pos h4]
            · rw [if_neg h4, if_neg h4, beq_eq_false_iff_ne.2 h5]; rfl)
        clear hl8' hl8''
        go_cut [12] (fun v wx => v = .bool (k5 && f2) ∧ wx = w5')
        case first =>
          cases k5
          · go_wp2
            go_meet
            exact ⟨rfl, rfl⟩
          · cases f2
            all_goals
              go_wp2
              go_meet
              exact ⟨rfl, rfl⟩
        obtain ⟨rfl, rfl⟩ := hcut
        obtain ⟨kf, hkf⟩ : ∃ q, (k5 && f2) = q := ⟨_, rfl⟩
        rw [hkf] at CN
        rw [hkf]
        clear hkf
        go_upto_if 79 with fail
        go_cut [12] (fun v wx => v = .bool (cnts o) ∧ wx = wc)
        case first =>
          cases k4
          · go_wp2
            go_meet
            exact ⟨by rw [CN.out]; rfl, rfl⟩
          · cases f2 <;> cases s0 <;> cases s8 <;> cases k3 <;> cases l8
            all_goals
              go_wp2
              go_meet
              exact ⟨by rw [CN.out]; rfl, rfl⟩
        case rest =>
          obtain ⟨rfl, rfl⟩ := hcut
          clear hs0 hs8 hk3 hl8 hk5 hk4 hf2 CN d6 d8 hm9 h68
          obtain ⟨D, E, hp, hs, fe⟩ := RW.out
          have FW := Lib.hid (And.intro hs fe)
          have FD := Lib.hid ((fe.of_f hs.f).more (show j ≤ 100000 by omega))
          have FE := Lib.hid (fe.more (show j ≤ 100000 by omega))
          have HDF := Lib.hid (fun (w' : World) (hb : Below w1.heap.size w1 w') => (HX.out.2.1.below hb).more hb.size)
          have PA := Lib.hid (pp_plays hp FD.out o HX.out.1 (.slice A1 L1 c1) (.slice A2 L2 c2) (fun w' hb _ => HDF.out w' (HBW.out.trans hb)) ⟨_, _, _, rfl⟩)
          obtain ⟨qd, hqd⟩ : ∃ q, (plD D o).dead = q := ⟨_, rfl⟩
          clear hp hs fe
          go_upto_region 17 with fail
          go_wp2_with fail
          (with_reducible refine PA.out.mono ?_)
          rintro e w7 ⟨rfl, p7, b7, f7⟩
          have BX7 := Lib.hid (BX.out.fr f7 (fun h => h (.inr rfl)))
          clear kb
          have kb := BX7.out.cell
          have HB7 := Lib.hid (HBW.out.trans b7)
          have P7 := Lib.hid p7
          have PB := Lib.hid (pp_plays p7.swap FE.out o HX.out.1 (.slice A1 L1 c1) (.slice A2 L2 c2) (fun w' hb _ => HDF.out w' (HB7.out.trans hb)) ⟨_, _, _, rfl⟩)
          clear p7 b7 f7
          obtain ⟨cq, hcq⟩ : ∃ q, cnts o = q := ⟨_, rfl⟩
          rw [hcq]
          have HCQ := Lib.hid hcq
          clear hcq
          cases cq
          · go_wp2_with fail
            (with_reducible refine PB.out.mono ?_)
            rintro e w8 ⟨rfl, p8, b8, _⟩
            have R8 := Lib.hid (show RelH w1.heap.size w8 a b (j + 1) lf from by
              have hn := FW.out.1.none HX.out.1 HCQ.out
              refine ⟨D, E, ?_, FW.out.1, FW.out.2.more (Nat.le_succ _)⟩
              have := p8.swap.less (K' := none_) (fun x hx => .inl hx)
              rwa [hn.1, hn.2] at this)
            have hdd : decide (lf < 0) = qd := by rw [← hqd, (FW.out.1.none HX.out.1 HCQ.out).1]; exact FW.out.1.dead.symm
            have HB8 := Lib.hid (HB7.out.trans b8)
            have HA := Lib.hid (pp_halted p8.swap)
            rw [hqd] at HA
            clear p8 b8
            go_wp2_with fail
            (with_reducible refine HA.out.mono ?_)
            rintro e w9 ⟨rfl, rfl⟩
            go_wp2
            go_roundw
            case rel => exact ⟨j + 1, lf, by go_num, rfl, by omega, by omega, R8, HB8⟩
            case measure => simp [intOf]; omega
          · obtain ⟨lf1, hlf1⟩ : ∃ z, lf - 1 = z := ⟨_, rfl⟩
            have WL := Lib.hid (show wrap64 (lf - 1) = lf1 by rw [wrap64_in _ (by omega)]; exact hlf1)
            have BB1 := Lib.hid (show -((j + 1 : Nat) : Int) ≤ lf1 ∧ lf1 ≤ 40 by omega)
            by_cases hpos : 0 < lf
            · have d0 : decide (0 < lf) = true := decide_eq_true hpos
              have HPO := Lib.hid hpos
              clear hpos
              go_wp2_with fail
              (with_reducible refine PB.out.mono ?_)
              rintro e w8 ⟨rfl, p8, b8, _⟩
              have HS8 := Lib.hid (FW.out.1.both HX.out.1 HCQ.out HPO.out)
              rw [hlf1] at HS8
              have R8 := Lib.hid (show RelH w1.heap.size w8 a b (j + 1) lf1 from
                ⟨_, _, p8.swap.less (K' := none_) (fun x hx => .inl hx), HS8.out, plD_few FW.out.1.lim' FW.out.2 o⟩)
              have hdd : decide (lf1 < 0) = qd := by rw [← hqd]; exact HS8.out.dead.symm
              have HB8 := Lib.hid (HB7.out.trans b8)
              have HA := Lib.hid (pp_halted p8.swap)
              rw [hqd] at HA
              clear p8 b8
              have wl := WL.out
              go_wp2_with fail
              clear wl
              (with_reducible refine HA.out.mono ?_)
              rintro e w9 ⟨rfl, rfl⟩
              go_wp2
              go_roundw
              case rel => exact ⟨j + 1, lf1, by go_num, rfl, by omega, BB1.out, R8, HB8⟩
              case measure => simp [intOf]; omega
            · have d0 : decide (0 < lf) = false := decide_eq_false hpos
              have HPO := Lib.hid hpos
              clear hpos
              have HS8 := Lib.hid (FW.out.1.one HX.out.1 HCQ.out HPO.out)
              rw [hlf1] at HS8
              have R8 := Lib.hid (show RelH w1.heap.size w7 a b (j + 1) lf1 from
                ⟨_, _, P7.out.less (K' := none_) (fun x hx => .inl hx), HS8.out, FW.out.2.more (Nat.le_succ _)⟩)
              have hdd : decide (lf1 < 0) = qd := by rw [← hqd]; exact HS8.out.dead.symm
              have HA := Lib.hid (pp_halted P7.out)
              rw [hqd] at HA
              have wl := WL.out
              go_wp2_with fail
              clear wl
              (with_reducible refine HA.out.mono ?_)
              rintro e w9 ⟨rfl, rfl⟩
              go_wp2
              go_roundw
              case rel => exact ⟨j + 1, lf1, by go_num, rfl, by omega, BB1.out, R8, HB7⟩
              case measure => simp [intOf]; omega
    · have hjj : j ≤ 60 := by omega
      go_wp2
      go_loopw [13] (fun i wz => ∃ k : Nat, i = .int .u8 k ∧ k ≤ 2 ∧ Hid (RelH w1.heap.size wz a b j lf) ∧ Hid (Below w1.heap.size w1 wz)) (fun i _ => 2 - (intOf i).toNat)
      case atStart => exact ⟨0, rfl, by omega, HR, HBL⟩
      case round =>
        obtain ⟨k, rfl, hk, HR2, HB2⟩ := hrel
        obtain ⟨D, E, hp, hs, fe⟩ := HR2.out
        have HP := Lib.hid hp
        have FW := Lib.hid (And.intro hs fe)
        clear hp hs fe
        by_cases hk2 : k < 2
        · have dk : decide ((k : Int) < 2) = true := by simp; omega
          have wk : IntKind.u8.wrap ((k : Int) + 1) = (k : Int) + 1 := by rw [IntKind.wrap_u8]; omega
          have WK := Lib.hid wk
          clear wk
          go_wp2_with fail
          (with_reducible refine (pp_image HP.out k k rfl hk2).mono ?_)
          rintro e w6 ⟨v6, l6, rfl, s6, m6, p6, b6⟩
          have S6 := Lib.hid s6
          have M6 := Lib.hid m6
          have P6 := Lib.hid p6
          have HB6 := Lib.hid (step_ HB2.out b6)
          clear s6 m6 p6 b6
          go_wp2_with fail
          (with_reducible refine (pp_image P6.out.swap k k rfl hk2).mono ?_)
          rintro e w7 ⟨v7, l7, rfl, s7, m7, p7, b7⟩
          have S7 := Lib.hid s7
          have S67 := Lib.hid (S6.out.sc (Sc.of_below b7))
          have EQ := Lib.hid (show l6.map (·.2) = l7.map (·.2) from by rw [M6.out, m7, FW.out.1.f])
          have P7 := Lib.hid p7.swap
          have HB7 := Lib.hid (step_ HB6.out b7)
          clear s7 m7 p7 b7
          go_wp2_with fail
          (with_reducible refine (Blk.same_blocks _ _ _ _ _ _ _ S67.out S7.out).mono ?_)
          rintro e w8 ⟨rfl, d, rfl⟩
          rw [decide_eq_true EQ.out]
          have wk := WK.out
          go_wp2
          clear wk
          go_roundw
          case rel => exact ⟨k + 1, by go_num, by omega, Lib.hid ⟨D, E, P7.out.later (below_drewN (Below.refl _ _) d), FW.out⟩, Lib.hid (below_drewN HB7.out d)⟩
          case measure => simp [intOf]; omega
        · have dk : decide ((k : Int) < 2) = false := by simp; omega
          have f1 := Lib.hid ((FW.out.2.of_f FW.out.1.f).more (show j ≤ 100000 by omega))
          have f2 := Lib.hid (FW.out.2.more (show j ≤ 100000 by omega))
          obtain ⟨X, hX⟩ : ∃ X, E.crash xf = X := ⟨_, rfl⟩
          have hXD : D.crash xf = X := by rw [crash_eq FW.out.1.f]; exact hX
          have HXF := Lib.hid (show X.Few 0 ∧ X.lim = false ∧ X.dead = false ∧ (X.f 0).length = 8 ∧ (X.f 1).length = 8 from by
            rw [← hX]
            exact ⟨crash_few _ _, rfl, rfl, by rw [crash_len]; exact FW.out.1.len 0 (by decide), by rw [crash_len]; exact FW.out.1.len 1 (by decide)⟩)
          have C1 := Lib.hid (pp_crash HP.out (.slice Af xf.length cf) xf ((HF.out.below HB2.out).more HB2.out.size) BF.out (by omega) f1.out)
          rw [hXD] at C1
          go_wp2_with fail
          (with_reducible refine C1.out.mono ?_)
          rintro e w6 ⟨rfl, p6, b6, _⟩
          have HB6 := Lib.hid (HB2.out.trans b6)
          have C2 := Lib.hid (pp_crash p6.swap (.slice Af xf.length cf) xf ((HF.out.below HB6.out).more HB6.out.size) BF.out (by omega) f2.out)
          rw [hX] at C2
          clear p6 b6 hX hXD
          go_wp2_with fail
          (with_reducible refine C2.out.mono ?_)
          rintro e w7 ⟨rfl, p7, b7, _⟩
          have HB7 := Lib.hid (HB6.out.trans b7)
          have B8 := Lib.hid (Box.new w7 #[.int .u8 1] 5)
          have P8 := Lib.hid (p7.swap.fresh (.cells #[.int .u8 1] 5))
          have HB8 := Lib.hid (new_ HB7.out (.cells #[.int .u8 1] 5))
          have C3 := Lib.hid (pp_one P8.out (HXF.out.1.more (by decide)) w7.heap.size (.inr rfl) B8.out (by rw [HXF.out.2.2.2.1]; decide))
          clear p7 b7
          go_wp2_with fail
          (with_reducible refine C3.out.mono ?_)
          rintro e w9 ⟨rfl, p9, b9⟩
          have HB9 := Lib.hid (HB8.out.trans b9)
          have B10 := Lib.hid (Box.new w9 #[.int .u8 1] 5)
          have P10 := Lib.hid ((p9.less (K' := none_) (fun x hx => .inl hx)).swap.fresh (.cells #[.int .u8 1] 5))
          have HB10 := Lib.hid (new_ HB9.out (.cells #[.int .u8 1] 5))
          have C4 := Lib.hid (pp_one P10.out (HXF.out.1.more (by decide)) w9.heap.size (.inr rfl) B10.out (by rw [HXF.out.2.2.2.1]; decide))
          clear p9 b9
          go_wp2_with fail
          (with_reducible refine C4.out.mono ?_)
          rintro e w11 ⟨rfl, p11, b11⟩
          obtain ⟨Y, hY⟩ : ∃ Y, plD X o1 = Y := ⟨_, rfl⟩
          rw [hY] at p11
          have HYF := Lib.hid (show Y.Few 1 ∧ Y.dead = false ∧ (Y.f 0).length = 8 ∧ (Y.f 1).length = 8 from by
            rw [← hY]
            exact ⟨plD_few HXF.out.2.1 HXF.out.1 o1, o1_dead HXF.out.2.1 HXF.out.2.2.1, by rw [plD_len HXF.out.2.1]; exact HXF.out.2.2.2.1, by rw [plD_len HXF.out.2.1]; exact HXF.out.2.2.2.2⟩)
          have P11 := Lib.hid (p11.swap.less (K' := none_) (fun x hx => .inl hx))
          have HB11 := Lib.hid (HB10.out.trans b11)
          clear p11 b11 hY
          obtain ⟨s, hs⟩ : ∃ s, (Y.f 0)[0]? = some s := ⟨_, List.getElem?_eq_getElem (by rw [HYF.out.2.2.1]; decide)⟩
          have HS := Lib.hid (show s.wait.length ≤ 100000 from Nat.le_trans (HYF.out.1 0 (by decide) s (List.mem_of_getElem? hs)) (by decide))
          have HSS := Lib.hid hs
          clear hs
          go_wp2_with fail
          (with_reducible refine (pp_read P11.out 0 0 0 rfl (by decide) 0 rfl s HSS.out HS.out).mono ?_)
          rintro e w12 ⟨u12, rfl, o12, y12, p12, b12⟩
          have O12 := Lib.hid o12
          have Y12 := Lib.hid y12
          have P12 := Lib.hid p12
          have HB12 := Lib.hid (step_ HB11.out b12)
          clear o12 y12 p12 b12
          go_wp2_with fail
          (with_reducible refine (pp_read P12.out.swap 0 0 0 rfl (by decide) 0 rfl s HSS.out HS.out).mono ?_)
          rintro e w13 ⟨u13, rfl, o13, _, p13, b13⟩
          have I12 := Lib.hid (IR.of_own (own_below O12.out b13))
          have I13 := Lib.hid (IR.of_own o13)
          have P13 := Lib.hid p13.swap
          have HB13 := Lib.hid (step_ HB12.out b13)
          clear o13 p13 b13
          have HA := Lib.hid (pp_halted P13.out)
          rw [HYF.out.2.1] at HA
          go_wp2_with fail
          (with_reducible refine HA.out.mono ?_)
          rintro e w14 ⟨rfl, rfl⟩
          go_wp2_with fail
          (with_reducible refine (pp_image P13.out 0 0 rfl (by decide)).mono ?_)
          rintro e w15 ⟨v15, l15, rfl, s15, m15, p15, b15⟩
          have S15 := Lib.hid s15
          have M15 := Lib.hid m15
          have P15 := Lib.hid p15.swap
          have J12 := Lib.hid ((I12.out.below b15).more b15.size)
          have J13 := Lib.hid ((I13.out.below b15).more b15.size)
          have HB15 := Lib.hid (step_ HB13.out b15)
          clear s15 m15 p15 b15
          go_wp2_with fail
          (with_reducible refine (pp_image P15.out 0 0 rfl (by decide)).mono ?_)
          rintro e w16 ⟨v16, l16, rfl, s16, m16, p16, b16⟩
          have S16 := Lib.hid s16
          have S15' := Lib.hid (S15.out.sc (Sc.of_below b16))
          have EQ := Lib.hid (show l15.map (·.2) = l16.map (·.2) from by rw [M15.out, m16])
          have P16 := Lib.hid p16.swap
          have K12 := Lib.hid ((J12.out.below b16).more b16.size)
          have K13 := Lib.hid ((J13.out.below b16).more b16.size)
          have HB16 := Lib.hid (step_ HB15.out b16)
          clear s16 m16 p16 b16
          go_wp2_with fail
          (with_reducible refine (Blk.same_blocks _ _ _ _ _ _ _ S15'.out S16.out).mono ?_)
          rintro e w17 ⟨rfl, d, rfl⟩
          rw [decide_eq_true EQ.out]
          have P17 := Lib.hid (P16.out.later (below_drewN (Below.refl _ _) d))
          go_wp2_with fail
          (with_reducible refine (pp_image P17.out 1 1 rfl (by decide)).mono ?_)
          rintro e w18 ⟨v18, l18, rfl, s18, m18, p18, b18⟩
          have S18 := Lib.hid s18
          have M18 := Lib.hid m18
          have P18 := Lib.hid p18.swap
          have L12 := Lib.hid (((K12.out.drewN d).below b18).more b18.size)
          have L13 := Lib.hid (((K13.out.drewN d).below b18).more b18.size)
          have HB18 := Lib.hid (step_ (below_drewN HB16.out d) b18)
          clear s18 m18 p18 b18
          go_wp2_with fail
          (with_reducible refine (pp_image P18.out 1 1 rfl (by decide)).mono ?_)
          rintro e w19 ⟨v19, l19, rfl, s19, m19, p19, b19⟩
          have S19 := Lib.hid s19
          have S18' := Lib.hid (S18.out.sc (Sc.of_below b19))
          have EQ2 := Lib.hid (show l18.map (·.2) = l19.map (·.2) from by rw [M18.out, m19])
          have M12 := Lib.hid ((L12.out.below b19).more b19.size)
          have M13 := Lib.hid ((L13.out.below b19).more b19.size)
          have HB19 := Lib.hid (step_ HB18.out b19)
          clear s19 m19 p19 b19
          go_wp2_with fail
          (with_reducible refine (Blk.same_blocks _ _ _ _ _ _ _ S18'.out S19.out).mono ?_)
          rintro e w20 ⟨rfl, d2, rfl⟩
          rw [decide_eq_true EQ2.out]
          go_wp2_with fail
          (with_reducible refine (Blk.same_any _ _ s.cur s.cur _ _ _ (M12.out.drewN d2) (M13.out.drewN d2) Y12.out Y12.out).mono ?_)
          rintro e w21 ⟨rfl, rfl⟩
          rw [decide_eq_true rfl]
          go_wp2
          go_ret
          exact ⟨rfl, below_drewN HB19.out d2⟩


set_option maxRecDepth 100000 in
theorem lifted (os : Os) (started : os.Started) (H : Type) (enc : TypeId × Value → H) :
    ReturnsInHanded {} Try.checked os 7 .any (Rows.diskHaltsSpec.pre6 enc Try.prog Try.f7 Rows.diskHaltsRow.domain false) (Rows.diskHaltsSpec.post enc Try.prog Try.f7 false true false false) := by
  refine returnsInHanded_of_change (C := Try.checked) own started (by kernel_rfl) Try.func7
    (ChangeSpec.witness6 (enc := enc) (C := Try.checked) false ⟨#[], #[.slice none 0 0, .int .u8 0, .slice none 0 0], []⟩ 8 (by kernel_rfl) (by kernel_rfl) (by kernel_rfl) (by kernel_rfl)) ?_
  intro W base args ds gs before hval0 hW hcnd _
  have hval : ∀ (j : Nat) t v, Try.f7.params[j]? = some t → args[j]? = some v → Value.okWide Try.prog W .any base t v := hval0
  have hW' := hW
  obtain ⟨p, q, hA0, hV, rfl, hfz, hnd⟩ := hW
  have hA1 : DataW.TrodAll enc Try.prog W 0 (fun _ => true) true Try.f7.params.toList args.toList ds p := hA0
  have hA := hA1
  rw [Try.params7] at hA hval
  obtain ⟨v0, vs0, d0, ds0, p0, q0, hargs, rfl, rfl, h0, r0⟩ := trodAll_cons hA
  obtain ⟨v1, vs1, d1, ds1, p1, q1, rfl, rfl, rfl, h1, r1⟩ := trodAll_cons r0
  obtain ⟨v2, vs2, d2, ds2, p2, q2, rfl, rfl, rfl, h2, r2⟩ := trodAll_cons r1
  obtain ⟨rfl, rfl, rfl⟩ := trodAll_nil r2
  obtain rfl : args = #[v0, v1, v2] := by cases args; simp_all
  obtain ⟨rfl, rfl⟩ := trodVars_none hV
  obtain ⟨xl, i0, wf0⟩ := Disk.open_opns (hval 0 22 v0 rfl rfl) h0
  obtain ⟨n, rfl, rfl, rfl, wf1⟩ := open_int Try.underlying5 (hval 1 5 v1 rfl rfl) h1
  obtain ⟨xf, i2, wf2⟩ := Disk.open_fts (hval 2 31 v2 rfl rfl) h2
  clear hA0 hval0
  refine (walk W v0 xl i0 wf0 n (bounds_u8 wf1) v2 xf i2 wf2).mono fun e W' ⟨he, bel⟩ => ?_
  subst he
  exact ⟨_, rfl, _, _, _, [], _, [], hW', trodAll_mk1 (shut_bool Try.underlying4 _), args_again laidOut bel (by kernel_rfl) hA1, rfl, bel.frame _, fun h => by cases h⟩

theorem over : Rows.diskHaltsRow.holds Try.pinned (OpenSpec.ofChange Rows.diskHaltsSpec) :=
  OpenClaim.holds_of_wide 7 Try.f7 rfl rfl rfl rfl rfl rfl rfl ⟨rfl, rfl, rfl, rfl, rfl⟩ rfl rfl rfl rfl rfl (by kernel_rfl) Try.func7 (by kernel_rfl)
    (of_decide_eq_true (by kernel_rfl)) (by unfold Func.isWrapper; first | (rw [if_pos (by decide +kernel)]; kernel_rfl) | (rw [if_neg (by decide +kernel)]; exact ⟨rfl, rfl⟩))
    (fun os started H enc _ => lifted os started H enc)

theorem proved : Rows.DiskHaltsSaid := over
end Go.Proofs.Ytplombkpefacgaa.LDiskHalts
