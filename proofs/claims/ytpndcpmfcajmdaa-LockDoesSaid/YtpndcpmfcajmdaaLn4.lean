import Derived.Test.YtpndcpmfcajmdaaLaw
import Derived.Test.YtpndcpmfcajmdaaLn0
import Derived.Test.YtpndcpmfcajmdaaLn1
import Derived.Test.YtpndcpmfcajmdaaLn2
import Derived.Test.YtpndcpmfcajmdaaLn3
import Derived.BigCall
import Derived.BigGuard
import Derived.Lib.SliceRun
import Derived.WalkKit
namespace Go.Proofs.Ytpndcpmfcajmdaa.Srt
open Go.ChangeShapes Go.WideShapes Go.ChangeAt Go.RowKit Go.IntWalk Go.Proofs.Mem
set_option linter.unusedVariables false
set_option maxRecDepth 100000 in
set_option maxHeartbeats 16000000 in
theorem pdq_any (m : Nat) : ∀ (w : World) (g n cap a b lim : Nat) (d : Array Int) (h : RA w g cap d) (hn : d.size = n) (h0 : n ≤ 1000000) (h1 : a ≤ b) (h2 : b ≤ n) (hB : Sort.Below lt a b d) (hm : b - a ≤ m) (hlim : lim ≤ 1000),
    Calls Try.prog 56 #[.slice (some ⟨g, 0, none⟩) n cap, .int .i64 a, .int .i64 b, .int .i64 lim] w fun e w' => e = .returned (.tuple #[]) ∧ (∃ d', RA w' g cap d' ∧ Sort.PermIn a b d d' ∧ Sort.SortedIn lt a b d') ∧ Fr (fun x => x = g) w w' := by
  refine Nat.strongRecOn m fun m ih => ?_
  intro w g n cap a b lim d h hn h0 h1 h2 hB hm hlim
  have IH := Lib.hid ih
  have HR := Lib.hid h
  have HI := Lib.hid (Srt0.Inv.start h1 (by omega) hB)
  have HN := Lib.hid (⟨hn, h0, h2, hm⟩ : d.size = n ∧ n ≤ 1000000 ∧ b ≤ n ∧ b - a ≤ m)
  have HL := Lib.hid hlim
  clear h hn h0 h1 h2 hB hm hlim ih
  go_enter Try.func56, Try.ntmps56
  go_wp2
  go_loopw [1, 2, 3, 8, 9] (fun s1 s2 s3 s8 s9 wr => ∃ (x y l : Nat) (p q : Bool) (ys : Array Int), s1 = .int .i64 x ∧ s2 = .int .i64 y ∧ s3 = .int .i64 l ∧ s8 = .bool p ∧ s9 = .bool q ∧ l ≤ 1000 ∧ Hid (RA wr g cap ys) ∧ Hid (Srt0.Inv a b d x y ys) ∧ Hid (Fr (fun x => x = g) w wr)) (fun s1 s2 _ _ _ _ => (intOf s2).toNat - (intOf s1).toNat)
  case atStart => exact ⟨a, b, lim, true, true, d, rfl, rfl, rfl, rfl, rfl, HL.out, HR, HI, Lib.hid (Fr.refl _ _)⟩
  case round =>
    obtain ⟨x, y, l, p, q, ys, rfl, rfl, rfl, rfl, rfl, hl, HO, HV, HF⟩ := hrel
    obtain ⟨w1, rfl⟩ : ∃ w1, w1 = wr := ⟨wr, rfl⟩
    clear HR HI HL
    have hsz : ys.size = n := by rw [HV.out.perm.1]; exact HN.out.1
    have hxy : a ≤ x ∧ x ≤ y ∧ y ≤ b ∧ b ≤ n := ⟨HV.out.h1, HV.out.h2, HV.out.h3, by have := HV.out.h4; omega⟩
    obtain ⟨L, hL⟩ : ∃ x', x' = y - x := ⟨_, rfl⟩
    have sL : (y : Int) - (x : Int) = (L : Int) := by omega
    have hn6 := HN.out.2.1
    have bx : (x : Int) ≤ 1000000 := by omega
    have by' : (y : Int) ≤ 1000000 := by omega
    have bl : (l : Int) ≤ 1000 := by omega
    have HX := Lib.hid (⟨hxy.1, hxy.2.1, hxy.2.2.1, hxy.2.2.2, hL, hsz, hn6⟩ : a ≤ x ∧ x ≤ y ∧ y ≤ b ∧ b ≤ n ∧ L = y - x ∧ ys.size = n ∧ n ≤ 1000000)
    clear hxy hsz hn6
    by_cases h12 : L ≤ 12
    · have d1 : decide ((L : Int) ≤ 12) = true := by simp; omega
      have d1' : decide (L ≤ 12) = true := by simp; omega
      have CL := Lib.hid (isort_any w1 g n cap x y ys HO.out HX.out.2.2.2.2.2.1 HX.out.2.2.2.2.2.2 (by have := HX.out; omega) (by have := HX.out; omega))
      obtain ⟨hp1, hp2⟩ := Sort.insertionSort_holds Sort.swo_ltInt ys x y (by have := HX.out; omega) (by have := HX.out; omega)
      have HP := Lib.hid (((HV.out.step hp1).done hp2))
      clear hp1 hp2 h12 hL hl
      go_wp2_with fail
      (with_reducible refine CL.out.mono ?_)
      rintro e w2 ⟨rfl, q2, q3⟩
      have Q2 := Lib.hid q2
      have Q3 := Lib.hid q3
      clear q2 q3
      go_wp2
      refine bodyPost_ret (results_none rfl _ _ _) rfl ?_
      exact ⟨rfl, ⟨_, Q2.out, HP.out.1, HP.out.2⟩, HF.out.trans Q3.out⟩
    · have d1 : decide ((L : Int) ≤ 12) = false := by simp; omega
      have d1' : decide (L ≤ 12) = false := by simp; omega
      have H12 := Lib.hid (show x + 12 < y by omega)
      clear h12 hL
      by_cases hl0 : l = 0
      · subst hl0
        have CL := Lib.hid (heap_any w1 g n cap x y ys HO.out HX.out.2.2.2.2.2.1 HX.out.2.2.2.2.2.2 (by have := H12.out; omega) (by have := HX.out; omega))
        obtain ⟨hp1, hp2⟩ := Sort.heapSort_holds Sort.swo_ltInt ys x y (by have := HX.out; omega) (by have := HX.out; omega)
        have HP := Lib.hid (((HV.out.step hp1).done hp2))
        clear hp1 hp2 hl
        go_wp2_with fail
        (with_reducible refine CL.out.mono ?_)
        rintro e w2 ⟨rfl, q2, q3⟩
        have Q2 := Lib.hid q2
        have Q3 := Lib.hid q3
        clear q2 q3
        go_wp2
        refine bodyPost_ret (results_none rfl _ _ _) rfl ?_
        exact ⟨rfl, ⟨_, Q2.out, HP.out.1, HP.out.2⟩, HF.out.trans Q3.out⟩
      · have d2 : decide ((l : Int) = 0) = false := by simp; omega
        have d2' : decide (l = 0) = false := by simp; omega
        have d2'' : ((l : Int) == 0) = false := by simp; omega
        obtain ⟨l', hl'⟩ : ∃ x', l = x' + 1 := ⟨l - 1, by omega⟩
        have sl : (l : Int) - 1 = (l' : Int) := by omega
        have HLL := Lib.hid (⟨hl, hl'⟩ : l ≤ 1000 ∧ l = l' + 1)
        clear hl hl' hl0
        go_upto_if 35 with fail
        go_cut [3] from 34 to 41 (fun s wx => ∃ (l2 : Nat) (zs : Array Int), s = .int .i64 l2 ∧ l2 ≤ 1000 ∧ Hid (RA wx g cap zs) ∧ Hid (Srt0.Inv a b d x y zs) ∧ Hid (Fr (fun x => x = g) w wx))
        case first =>
          cases p with
          | true =>
            go_wp2
            go_meet
            exact ⟨l, ys, rfl, HLL.out.1, HO, HV, HF⟩
          | false =>
            have CL := Lib.hid (brk_any w1 g n cap x y ys HO.out HX.out.2.2.2.2.2.1 HX.out.2.2.2.2.2.2 H12.out (by have := HX.out; omega))
            go_wp2_with fail
            (with_reducible refine CL.out.mono ?_)
            rintro e w2 ⟨rfl, ⟨zs, q1, q2⟩, q3⟩
            have Q1 := Lib.hid q1
            have Q2 := Lib.hid (HV.out.step q2)
            have Q3 := Lib.hid (HF.out.trans q3)
            clear q1 q2 q3
            go_wp2
            go_meet
            exact ⟨l', zs, rfl, by have := HLL.out; omega, Q1, Q2, Q3⟩
        case rest =>
          obtain ⟨l2, zs, rfl, hl2, HO2, HV2, HF2⟩ := hcut
          obtain ⟨w2, rfl⟩ : ∃ x', x' = wc := ⟨wc, rfl⟩
          clear HO HV HF sl HLL d2 d2' d2'' bl
          have HL2 := Lib.hid hl2
          have bl : (l2 : Int) ≤ 1000 := by omega
          clear hl2
          have HZ2 := Lib.hid (show zs.size = n by rw [HV2.out.perm.1]; exact HN.out.1)
          have CP := Lib.hid (pivot_any w2 g n cap x y zs HO2.out HZ2.out HX.out.2.2.2.2.2.2 H12.out (by have := HX.out; omega))
          go_wp2_with fail
          (with_reducible refine CP.out.mono ?_)
          rintro e w3 ⟨pv, t, rfl, HPV, HBW⟩
          have HO3 := Lib.hid (HO2.out.later HBW.out)
          have HF3 := Lib.hid (HF2.out.below HBW.out)
          go_upto_if 50 with fail
          go_cut [11, 12] from 49 to 60 (fun s u wx => ∃ (pv : Nat) (t : Int) (zs : Array Int), s = .int .i64 pv ∧ u = .int .i64 t ∧ x ≤ pv ∧ pv < y ∧ Hid (RA wx g cap zs) ∧ Hid (Srt0.Inv a b d x y zs) ∧ Hid (Fr (fun x => x = g) w wx))
          case first =>
            by_cases ht : t = 2
            · subst ht
              have CR := Lib.hid (rev_any w3 g n cap x y zs HO3.out HZ2.out HX.out.2.2.2.2.2.2 (by have := H12.out; omega) (by have := HX.out; omega))
              obtain ⟨y1, hy1⟩ : ∃ x', x' = y - 1 := ⟨_, rfl⟩
              obtain ⟨o, ho⟩ : ∃ x', x' = pv - x := ⟨_, rfl⟩
              obtain ⟨pv2, hpv2⟩ : ∃ x', x' = y1 - o := ⟨_, rfl⟩
              have t1 : (y : Int) - 1 = (y1 : Int) := by have := H12.out; omega
              have t2 : (pv : Int) - (x : Int) = (o : Int) := by have := HPV.out; omega
              have t3 : (y1 : Int) - (o : Int) = (pv2 : Int) := by have := HPV.out; omega
              have b1 : (pv : Int) ≤ 1000000 := by have := HPV.out; omega
              have b2 : (y1 : Int) ≤ 1000000 := by omega
              have b3 : (o : Int) ≤ 1000000 := by omega
              have b4 : (pv2 : Int) ≤ 1000000 := by omega
              have HPV2 := Lib.hid (show x ≤ pv2 ∧ pv2 < y by have := HPV.out; omega)
              clear hy1 ho hpv2
              go_wp2_with fail
              (with_reducible refine CR.out.mono ?_)
              rintro e w4 ⟨rfl, ⟨z4, q1, q2⟩, q3⟩
              have Q1 := Lib.hid q1
              have Q2 := Lib.hid (HV2.out.step q2)
              have Q3 := Lib.hid (HF3.out.trans q3)
              clear q1 q2 q3
              go_wp2
              go_meet
              exact ⟨pv2, 1, z4, rfl, rfl, HPV2.out.1, HPV2.out.2, Q1, Q2, Q3⟩
            · have n2 : decide (t = 2) = false := by simp; exact ht
              have n2' : (t == 2) = false := by simp; exact ht
              clear ht
              first | rw [n2] | rw [n2']
              go_wp2
              go_meet
              exact ⟨pv, t, zs, rfl, rfl, HPV.out.1, HPV.out.2, HO3, HV2, HF3⟩
          case rest =>
            obtain ⟨pv, t, z5, rfl, rfl, hpv1, hpv2, HO5, HV5, HF5⟩ := hcut
            obtain ⟨w5, rfl⟩ : ∃ x', x' = wc := ⟨wc, rfl⟩
            clear HO2 HV2 HF2 HZ2 CP HPV HBW HO3 HF3
            have HPV := Lib.hid (⟨hpv1, hpv2⟩ : x ≤ pv ∧ pv < y)
            have HZ5 := Lib.hid (show z5.size = n by rw [HV5.out.perm.1]; exact HN.out.1)
            clear hpv1 hpv2
            go_upto_region 15 with fail
            go_cut [68] from 61 to 68 (fun v wx => ∃ r : Bool, v = .bool r ∧ w5 = wx)
            case first =>
              by_cases h1 : t = 1
              · subst h1
                cases p <;> cases q <;> (go_wp2; go_meet; exact ⟨_, rfl, rfl⟩)
              · have n2 : decide (t = 1) = false := by simp; exact h1
                have n2' : (t == 1) = false := by simp; exact h1
                cases p <;> cases q <;> (go_wp2; go_meet; exact ⟨_, rfl, rfl⟩)
            case rest =>
              obtain ⟨r, rfl, rfl⟩ := hcut
              go_upto_if 68 with fail
              go_cut [] from 68 to 72 (fun wx => ∃ (zs : Array Int), Hid (RA wx g cap zs) ∧ Hid (Srt0.Inv a b d x y zs) ∧ Hid (Fr (fun x => x = g) w wx))
              case first =>
                cases r with
                | false =>
                  go_wp2
                  go_meet
                  exact ⟨z5, HO5, HV5, HF5⟩
                | true =>
                  have CL := Lib.hid (pins_any w5 g n cap x y z5 HO5.out HZ5.out HX.out.2.2.2.2.2.2 (by have := H12.out; omega) (by have := HX.out; omega))
                  obtain ⟨hp1, hp2⟩ := Sort.partialInsertionSort_holds Sort.swo_ltInt z5 x y (by have := H12.out; omega) (by have := HX.out; have := HZ5.out; omega) HV5.out.below
                  have HP1 := Lib.hid (HV5.out.step hp1)
                  have HP2 := Lib.hid hp2
                  clear hp1 hp2
                  obtain ⟨z6, r2, hzr⟩ : ∃ z6 r2, Sort.partialInsertionSort lt z5 x y = (z6, r2) := ⟨_, _, rfl⟩
                  have HP1' : Hid (Srt0.Inv a b d x y z6) := by have h := HP1.out; unfold lt at hzr; rw [hzr] at h; exact Lib.hid h
                  have HP2' : Hid (r2 = true → Sort.SortedIn lt x y z6) := by have h := HP2.out; unfold lt at hzr; rw [hzr] at h; exact Lib.hid h
                  rw [hzr] at CL
                  clear HP1 HP2 hzr
                  go_wp2_with fail
                  (with_reducible refine CL.out.mono ?_)
                  rintro e w6 ⟨rfl, q2, q3⟩
                  have Q2 := Lib.hid q2
                  have Q3 := Lib.hid (HF5.out.trans q3)
                  clear q2 q3
                  cases r2 with
                  | true =>
                    go_wp2
                    refine bodyPost_ret (results_none rfl _ _ _) rfl ?_
                    have HD := HP1'.out.done (HP2'.out (by trivial))
                    exact ⟨rfl, ⟨_, Q2.out, HD.1, HD.2⟩, Q3.out⟩
                  | false =>
                    go_wp2
                    go_meet
                    exact ⟨z6, Q2, HP1', Q3⟩
              case rest =>
                obtain ⟨z6, HO6, HV6, HF6⟩ := hcut
                obtain ⟨w6, rfl⟩ : ∃ x', x' = wc := ⟨wc, rfl⟩
                clear HO5 HV5 HF5 HZ5
                have HZ6 := Lib.hid (show z6.size = n by rw [HV6.out.perm.1]; exact HN.out.1)
                rename_i hK
                refine hK _ _ ?_
                go_upto_region 17 with fail
                go_cut [87] from 73 to 87 (fun v wx => ∃ r : Bool, v = .bool r ∧ Hid (r = true → 0 < x ∧ lt z6[x - 1]! z6[pv]! = false) ∧ Hid (RA wx g cap z6) ∧ Hid (Fr (fun x => x = g) w wx))
                case first =>
                  by_cases hx0 : 0 < x
                  · have e1 : decide ((0 : Int) < (x : Int)) = true := by simp; omega
                    have e1' : decide (0 < x) = true := by simp; omega
                    obtain ⟨x1, hx1⟩ : ∃ x', x = x' + 1 := ⟨x - 1, by omega⟩
                    have sx : (x : Int) - 1 = (x1 : Int) := by omega
                    have i0 : x1 < n := by have := HX.out; have := H12.out; omega
                    have i1 : pv < n := by have := HX.out; have := HPV.out; omega
                    have c0 := fun k => (HO6.out.drewN k).cell x1 (by have := HZ6.out; omega)
                    have c1 := fun k => (HO6.out.drewN k).cell pv (by have := HZ6.out; omega)
                    obtain ⟨u, hu⟩ : ∃ u, z6[x1]! = u := ⟨_, rfl⟩
                    obtain ⟨v, hv⟩ : ∃ v, z6[pv]! = v := ⟨_, rfl⟩
                    rw [hu] at c0
                    rw [hv] at c1
                    obtain ⟨r, hr⟩ : ∃ r, lt u v = r := ⟨_, rfl⟩
                    have HRR := Lib.hid (show (!r) = true → 0 < x ∧ lt z6[x - 1]! z6[pv]! = false by
                      intro e
                      rw [show x - 1 = x1 by omega, hu, hv, hr]
                      exact ⟨hx0, by simpa using e⟩)
                    have CL := less_as _ _ hr
                    clear hu hv hr hx1 hx0
                    go_quiet (first | (go_at_call 68; exact quiet_l (CL.out _)))
                    go_wp2
                    go_meet
                    exact ⟨_, rfl, HRR, Lib.hid (HO6.out.drewN _), Lib.hid (HF6.out.drewN _)⟩
                  · have e1 : decide ((0 : Int) < (x : Int)) = false := by simp; omega
                    have e1' : decide (0 < x) = false := by simp; omega
                    go_quiet (fail)
                    go_wp2
                    go_meet
                    exact ⟨false, rfl, Lib.hid (fun e => by cases e), Lib.hid (HO6.out.drewN _), Lib.hid (HF6.out.drewN _)⟩
                case rest =>
                  obtain ⟨r, rfl, HRR, HO7, HF7⟩ := hcut
                  obtain ⟨w7, rfl⟩ : ∃ x', x' = wc := ⟨wc, rfl⟩
                  clear HO6 HF6
                  cases r with
                  | true =>
                    have CL := Lib.hid (peq_any w7 g n cap x y pv z6 HO7.out HZ6.out HX.out.2.2.2.2.2.2 HPV.out.1 HPV.out.2 (by have := HX.out; omega))
                    obtain ⟨hv1, hv2⟩ := HV6.out.equal HPV.out.1 HPV.out.2 (HRR.out rfl).1 (HRR.out rfl).2
                    have HV8 := Lib.hid hv1
                    have HM := Lib.hid hv2
                    clear hv1 hv2
                    unfold lt at CL
                    generalize (Sort.partitionEqual Sort.ltInt z6 x y pv).1 = mid at *
                    generalize (Sort.partitionEqual Sort.ltInt z6 x y pv).2 = z8 at *
                    go_wp2_with fail
                    (with_reducible refine CL.out.mono ?_)
                    rintro e w8 ⟨rfl, q2, q3⟩
                    have Q2 := Lib.hid q2
                    have Q3 := Lib.hid (HF7.out.trans q3)
                    clear q2 q3
                    go_wp2
                    go_roundw
                    case rel => exact ⟨mid, y, l2, p, q, z8, rfl, rfl, rfl, rfl, rfl, HL2.out, Q2, HV8, Q3⟩
                    case measure => simp [intOf]; have := HM.out; have := HV8.out.h2; have := H12.out; omega
                  | false =>
                    have CL := Lib.hid (part_any w7 g n cap x y pv z6 HO7.out HZ6.out HX.out.2.2.2.2.2.2 HPV.out.1 HPV.out.2 (by have := HX.out; omega))
                    obtain ⟨hp1, hp2⟩ := Srt0.prt_of x y pv z6 HPV.out.1 HPV.out.2 (by have := HX.out; have := HZ6.out; omega)
                    have HV8 := Lib.hid (HV6.out.step hp1)
                    have HPP := Lib.hid hp2
                    clear hp1 hp2
                    unfold lt at CL
                    generalize (Sort.partition Sort.ltInt z6 x y pv).1 = mid at *
                    generalize (Sort.partition Sort.ltInt z6 x y pv).2.1 = ap at *
                    generalize (Sort.partition Sort.ltInt z6 x y pv).2.2 = z8 at *
                    go_wp2_with fail
                    (with_reducible refine CL.out.mono ?_)
                    rintro e w8 ⟨rfl, q2, q3⟩
                    have Q2 := Lib.hid q2
                    have Q3 := Lib.hid (HF7.out.trans q3)
                    have HZ8 := Lib.hid (show z8.size = n by rw [HV8.out.perm.1]; exact HN.out.1)
                    clear q2 q3
                    have hm1 := HPP.out.h1
                    have hm2 := HPP.out.h2
                    have hX := HX.out
                    have h12 := H12.out
                    obtain ⟨le, hle⟩ : ∃ x', x' = mid - x := ⟨_, rfl⟩
                    obtain ⟨ri, hri⟩ : ∃ x', x' = y - mid := ⟨_, rfl⟩
                    obtain ⟨th, hth⟩ : ∃ x', x' = L / 8 := ⟨_, rfl⟩
                    obtain ⟨m1, hm1'⟩ : ∃ x', x' = mid + 1 := ⟨_, rfl⟩
                    have t1 : (mid : Int) - (x : Int) = (le : Int) := by omega
                    have t2 : (y : Int) - (mid : Int) = (ri : Int) := by omega
                    have t3 : Int.tdiv (L : Int) 8 = (th : Int) := by rw [Int.tdiv_eq_ediv_of_nonneg (by omega)]; omega
                    have t4 : (mid : Int) + 1 = (m1 : Int) := by omega
                    have bm : (mid : Int) ≤ 1000000 := by omega
                    have b2 : (le : Int) ≤ 1000000 := by omega
                    have b3 : (ri : Int) ≤ 1000000 := by omega
                    have b4 : (th : Int) ≤ 1000000 := by omega
                    have b5 : (L : Int) ≤ 1000000 := by omega
                    have HK := Lib.hid (⟨hm1, hm2, hle, hri, hm1'⟩ : x ≤ mid ∧ mid < y ∧ le = mid - x ∧ ri = y - mid ∧ m1 = mid + 1)
                    have CA := Lib.hid (IH.out (mid - x) (by have := HN.out; omega) w8 g n cap x mid l2 z8 Q2.out HZ8.out hX.2.2.2.2.2.2 hm1 (by omega) (HV8.out.below.mono (by omega)) (Nat.le_refl _) HL2.out)
                    have CB := Lib.hid (IH.out (y - m1) (by have := HN.out; omega) w8 g n cap m1 y l2 z8 Q2.out HZ8.out hX.2.2.2.2.2.2 (by omega) (by omega) (by rw [hm1']; exact HPP.out.belowR) (Nat.le_refl _) HL2.out)
                    clear hm1 hm2 hX h12 hle hri hth hm1'
                    by_cases hlr : le < ri
                    · have d1 : decide ((le : Int) < (ri : Int)) = true := by simp; omega
                      have d1' : decide (le < ri) = true := by simp; omega
                      clear hlr
                      obtain ⟨p2, hp2⟩ : ∃ p2, decide ((th : Int) ≤ (le : Int)) = p2 := ⟨_, rfl⟩
                      go_wp2_with fail
                      (with_reducible refine CA.out.mono ?_)
                      rintro e w9 ⟨rfl, ⟨z9, q1, q2, q3⟩, q4⟩
                      have Q9 := Lib.hid q1
                      have HV9 := Lib.hid (show Srt0.Inv a b d m1 y z9 by rw [HK.out.2.2.2.2]; exact HV8.out.left HPP.out q2 q3)
                      have QF := Lib.hid (Q3.out.trans q4)
                      clear q1 q2 q3 q4
                      go_wp2
                      go_roundw
                      case rel => exact ⟨m1, y, l2, _, _, z9, rfl, rfl, rfl, rfl, rfl, HL2.out, Q9, HV9, QF⟩
                      case measure => simp [intOf]; have := HK.out; omega
                    · have d1 : decide ((le : Int) < (ri : Int)) = false := by simp; omega
                      have d1' : decide (le < ri) = false := by simp; omega
                      clear hlr
                      go_wp2_with fail
                      (with_reducible refine CB.out.mono ?_)
                      rintro e w9 ⟨rfl, ⟨z9, q1, q2, q3⟩, q4⟩
                      have Q9 := Lib.hid q1
                      have HV9 := Lib.hid (show Srt0.Inv a b d x mid z9 by rw [HK.out.2.2.2.2] at q2 q3; exact HV8.out.right HPP.out q2 q3)
                      have QF := Lib.hid (Q3.out.trans q4)
                      clear q1 q2 q3 q4
                      go_wp2
                      go_roundw
                      case rel => exact ⟨x, mid, l2, _, _, z9, rfl, rfl, rfl, rfl, rfl, HL2.out, Q9, HV9, QF⟩
                      case measure => simp [intOf]; have := HK.out; omega
set_option maxRecDepth 100000 in
theorem sort_any (w : World) (g n cap : Nat) (d : Array Int) (h : RA w g cap d) (hn : d.size = n) (h0 : n ≤ 1000000) :
    Calls Try.prog 43 #[.slice (some ⟨g, 0, none⟩) n cap] w fun e w' => e = .returned (.tuple #[]) ∧ (∃ d', RA w' g cap d' ∧ Sort.PermIn 0 n d d' ∧ Sort.SortedIn lt 0 n d') ∧ Fr (fun x => x = g) w w' := by
  have CL := Lib.hid (len_any n h0 w)
  have hk : bitLen n ≤ 20 := by
    by_cases e : n = 0
    · subst e; decide
    · exact (pow_facts n (by omega) h0).2.2
  have CP := Lib.hid (pdq_any n w g n cap 0 n (bitLen n) d h hn h0 (Nat.zero_le _) (Nat.le_refl _) (.inl rfl) (by omega) (by omega))
  generalize bitLen n = k at *
  have cw : IntKind.u64.wrap (n : Int) = n := by rw [IntKind.wrap_u64]; omega
  clear h hn h0 hk
  go_enter Try.func43, Try.ntmps43
  go_wp2_with (first
    | (go_at_call 57; (with_reducible refine CL.out.mono ?_); rintro e w1 ⟨rfl, rfl⟩)
    | (go_at_call 56; (refine CP.out.mono ?_); rintro e w2 ⟨rfl, h2, h3⟩; have H2 := Lib.hid h2; have H3 := Lib.hid h3; clear h2 h3))
  go_end0
  exact ⟨rfl, H2.out, H3.out⟩
end Go.Proofs.Ytpndcpmfcajmdaa.Srt
namespace Go.Proofs.Ytpndcpmfcajmdaa.Srt
open Go.ChangeShapes Go.WideShapes Go.ChangeAt Go.RowKit Go.IntWalk Go.Proofs.Mem
set_option linter.unusedVariables false
set_option linter.unusedSimpArgs false
def cptTo (d : Array Int) : Nat → List Int
  | 0 => []
  | j + 1 => if j = 0 ∨ d[j]! ≠ d[j - 1]! then cptTo d j ++ [d[j]!] else cptTo d j
theorem cptTo_len (d : Array Int) : ∀ j, (cptTo d j).length ≤ j
  | 0 => Nat.le_refl _
  | j + 1 => by
    have := cptTo_len d j
    unfold cptTo
    split
    · rw [List.length_append]; simp; omega
    · omega
theorem cptTo_yes {d : Array Int} {j : Nat} (h : d[j + 1]! ≠ d[j]!) : cptTo d (j + 1 + 1) = cptTo d (j + 1) ++ [d[j + 1]!] := by
  rw [cptTo, if_pos (.inr h)]
theorem cptTo_no {d : Array Int} {j : Nat} (h : d[j + 1]! = d[j]!) : cptTo d (j + 1 + 1) = cptTo d (j + 1) := by
  rw [cptTo, if_neg (by rintro (h1 | h1); · omega
                        · exact h1 h)]
theorem cptTo_mem (d : Array Int) : ∀ j x, x ∈ cptTo d j ↔ ∃ i, i < j ∧ d[i]! = x
  | 0, x => by simp [cptTo]
  | j + 1, x => by
    have ih := cptTo_mem d j x
    unfold cptTo
    split
    · rw [List.mem_append, ih, List.mem_singleton]
      constructor
      · rintro (⟨i, h1, h2⟩ | h1)
        · exact ⟨i, by omega, h2⟩
        · exact ⟨j, by omega, h1.symm⟩
      · rintro ⟨i, h1, h2⟩
        by_cases e : i = j
        · subst e; exact .inr h2.symm
        · exact .inl ⟨i, by omega, h2⟩
    · rename_i hn
      rw [ih]
      simp only [not_or, ne_eq, Decidable.not_not] at hn
      constructor
      · rintro ⟨i, h1, h2⟩; exact ⟨i, by omega, h2⟩
      · rintro ⟨i, h1, h2⟩
        by_cases e : i = j
        · subst e; exact ⟨i - 1, by omega, by rw [← hn.2]; exact h2⟩
        · exact ⟨i, by omega, h2⟩
theorem cptTo_sorted {d : Array Int} : ∀ j, (∀ i, i + 1 < j → d[i]! ≤ d[i + 1]!) → (cptTo d j).Pairwise (· < ·) ∧ ∀ x ∈ cptTo d j, x ≤ d[j - 1]!
  | 0, _ => ⟨List.Pairwise.nil, fun x h => by cases h⟩
  | j + 1, h => by
    obtain ⟨h1, h2⟩ := cptTo_sorted (d := d) j (fun i hi => h i (by omega))
    unfold cptTo
    split
    · rename_i hc
      by_cases e : j = 0
      · subst e
        exact ⟨by simp [cptTo], by simp [cptTo]⟩
      · have h3 := h (j - 1) (by omega)
        rw [show j - 1 + 1 = j by omega] at h3
        have h4 : d[j - 1]! < d[j]! := by
          rcases hc with h5 | h5
          · exact absurd h5 e
          · omega
        refine ⟨List.pairwise_append.2 ⟨h1, by simp, fun a ha b hb => ?_⟩, fun x hx => ?_⟩
        · rw [List.mem_singleton.1 hb]
          have := h2 a ha; omega
        · rw [Nat.add_sub_cancel]
          rcases List.mem_append.1 hx with h5 | h5
          · have := h2 x h5; omega
          · rw [List.mem_singleton.1 h5]; exact Int.le_refl _
    · rename_i hn
      simp only [not_or, ne_eq, Decidable.not_not] at hn
      refine ⟨h1, fun x hx => ?_⟩
      rw [Nat.add_sub_cancel, hn.2]
      exact h2 x hx
variable {W W' : World} {g cap : Nat} {d : Array Int} {S : Nat → Prop}
theorem RA.zeros : ∀ (m o : Nat) (W : World) (d : Array Int), RA W g cap d → ∃ d', RA (W.setCells g o (List.replicate m (.int .u32 0))) g cap d' ∧ d'.size = d.size ∧ ∀ i, i < o → d'[i]! = d[i]!
  | 0, o, W, d, h => ⟨d, h, rfl, fun _ _ => rfl⟩
  | m + 1, o, W, d, h => by
    obtain ⟨d', h1, h2, h3⟩ := RA.zeros m (o + 1) (W.setCell ⟨g, o, none⟩ (.int .u32 0)) (d.setIfInBounds o 0) (h.set_ o 0)
    refine ⟨d', h1, by rw [h2]; simp, fun i hi => ?_⟩
    rw [h3 i (by omega)]
    simp only [Array.getElem!_eq_getD, Array.getD_eq_getD_getElem?]
    rw [Array.getElem?_setIfInBounds_ne (by omega)]
theorem fr_zeros {w : World} : ∀ (m o : Nat) (W : World), Fr (fun x => x = g) w W → Fr (fun x => x = g) w (W.setCells g o (List.replicate m (.int .u32 0)))
  | 0, o, W, h => h
  | m + 1, o, W, h => fr_zeros m (o + 1) _ (h.setCell (p := ⟨g, o, none⟩) (.inl rfl) _)
theorem RA.front (h : RA W g cap d) {ys : List Int} (hy : ys.length ≤ d.size) (he : ∀ i, i < ys.length → d[i]! = ys[i]!) : RA W g cap ys.toArray := by
  obtain ⟨cur, hb, hs, hle, hc, ht⟩ := h
  refine ⟨cur, hb, hs, by simp; omega, hc, ?_⟩
  have h2 : cur.toList.take ys.length = (cur.toList.take d.size).take ys.length := by rw [List.take_take, Nat.min_eq_left hy]
  show cur.toList.take ys.length = ys.map _
  rw [h2, ht]
  apply List.ext_getElem?
  intro i
  by_cases hi : i < ys.length
  · have hi2 : i < d.size := by omega
    have := he i hi
    rw [getElem!_pos d i hi2, getElem!_pos ys i hi] at this
    rw [List.getElem?_take_of_lt hi]
    simp [hi, hi2, this]
  · rw [List.getElem?_eq_none (by simp; omega), List.getElem?_eq_none (by simp; omega)]
theorem set_self (z : Array Int) {a : Nat} (x : Int) (h : a < z.size) : (z.setIfInBounds a x)[a]! = x := by
  simp [Array.getElem!_eq_getD, Array.getD_eq_getD_getElem?, h]
theorem set_else (z : Array Int) {a l : Nat} (x : Int) (h : a ≠ l) : (z.setIfInBounds a x)[l]! = z[l]! := by
  simp only [Array.getElem!_eq_getD, Array.getD_eq_getD_getElem?]
  rw [Array.getElem?_setIfInBounds_ne h]
set_option maxRecDepth 100000 in
set_option maxHeartbeats 8000000 in
theorem compact_any (w : World) (g n cap : Nat) (d : Array Int) (h : RA w g cap d) (hn : d.size = n) (h0 : n ≤ 1000000) :
    Calls Try.prog 46 #[.slice (some ⟨g, 0, none⟩) n cap] w fun e w' => e = .returned (.slice (some ⟨g, 0, none⟩) (cptTo d n).length cap) ∧ RA w' g cap (cptTo d n).toArray ∧ Fr (fun x => x = g) w w' := by
  have HR := Lib.hid h
  have HN := Lib.hid hn
  have hcap : n ≤ cap := by have := h.le; omega
  have hcm : cap ≤ 9223372036854775807 := by obtain ⟨_, _, _, _, hc, _⟩ := h; unfold maxLen at hc; omega
  clear h hn
  by_cases h2 : n < 2
  · have d1 : decide ((n : Int) < 2) = true := by simp; omega
    have HE : Hid (RA w g cap (cptTo d n).toArray ∧ (cptTo d n).length = n) := Lib.hid (by
      have hl : (cptTo d n).length = n := by
        match n, h2 with
        | 0, _ => rfl
        | 1, _ => simp [cptTo]
      refine ⟨HR.out.front (by rw [HN.out]; omega) (fun i hi => ?_), hl⟩
      match n, h2 with
      | 0, _ => simp [cptTo] at hi
      | 1, _ =>
        have : i = 0 := by omega
        subst this
        simp [cptTo])
    go_enter Try.func46, Try.ntmps46
    go_wp2
    go_ret
    exact ⟨by rw [HE.out.2]; rfl, HE.out.1, Fr.refl _ _⟩
  · have d1 : decide ((n : Int) < 2) = false := by simp; omega
    have d1' : decide (n < 2) = false := by simp; omega
    have bn : (n : Int) ≤ 1000000 := by omega
    have HT2 : Hid ((cptTo d 1).length = 1 ∧ ∀ i, i < 1 → d[i]! = (cptTo d 1)[i]!) := Lib.hid (by
      refine ⟨by simp [cptTo], fun i hi => ?_⟩
      have : i = 0 := by omega
      subst this
      simp [cptTo])
    go_enter Try.func46, Try.ntmps46
    go_wp2
    go_loopw [3] (fun s3 wr => ∃ (k dd : Nat), 1 ≤ k ∧ k ≤ n ∧ s3 = .int .i64 k ∧ Hid (wr = w.drewN dd) ∧ Hid ((cptTo d k).length = k ∧ ∀ i, i < k → d[i]! = (cptTo d k)[i]!)) (fun s3 _ => n - (intOf s3).toNat)
    case atStart => exact ⟨1, 0, Nat.le_refl _, by omega, rfl, Lib.hid rfl, HT2⟩
    case round =>
      obtain ⟨k, dd, hk1, hk, rfl, HD, HC⟩ := hrel
      by_cases hl : k < n
      · obtain ⟨j, hj⟩ : ∃ j, k = j + 1 := ⟨k - 1, by omega⟩
        have HJ := Lib.hid hj
        have hjs : (k : Int) - 1 = (j : Int) := by omega
        have e1 : decide ((k : Int) < (n : Int)) = true := by simp; omega
        have e1' : decide (k < n) = true := by simp; omega
        have hjn : j < n := by omega
        have HRw := Lib.hid (show RA wr g cap d by rw [HD.out]; exact HR.out.drewN dd)
        have ca : ∀ d', (wr.drewN d').cell? ⟨g, k, none⟩ = some (.int .u32 d[k]!) := fun d' => (HRw.out.drewN d').cell k (by have := HN.out; omega)
        have cb : ∀ d', (wr.drewN d').cell? ⟨g, j, none⟩ = some (.int .u32 d[j]!) := fun d' => (HRw.out.drewN d').cell j (by have := HN.out; omega)
        obtain ⟨x, hx⟩ : ∃ x, d[k]! = x := ⟨_, rfl⟩
        obtain ⟨y, hy⟩ : ∃ y, d[j]! = y := ⟨_, rfl⟩
        rw [hx] at ca
        rw [hy] at cb
        have HX := Lib.hid hx
        have HY := Lib.hid hy
        have bk : (k : Int) ≤ 1000000 := by omega
        clear hj hx hy
        by_cases hxy : x = y
        · have q1 : (x == y) = true := by simp [hxy]
          have HXY := Lib.hid hxy
          clear hxy
          go_upto_region 6 with fail
          go_quiet (fail)
          clear ca cb
          go_wp2
          obtain ⟨m, hm⟩ : ∃ m, n - k = m := ⟨_, rfl⟩
          obtain ⟨c2, hc2⟩ : ∃ c2, cap - k = c2 := ⟨_, rfl⟩
          rw [hm, hc2]
          have HM := Lib.hid (show n = k + m ∧ cap = k + c2 from ⟨by omega, by omega⟩)
          have hm1 : 1 ≤ m := by omega
          have hmc : m ≤ c2 := by omega
          have bm : (m : Int) ≤ 1000000 := by omega
          have HK := Lib.hid (show k = j + 1 from HJ.out)
          have HC2 := Lib.hid (show (cptTo d (k + 1)).length = k ∧ ∀ i, i < k → d[i]! = (cptTo d (k + 1))[i]! by
            have hj := HJ.out
            have ht := cptTo_no (d := d) (j := j) (by rw [← hj, HX.out, HY.out]; exact HXY.out)
            rw [← hj] at ht
            rw [ht]; exact HC.out)
          have HRW := Lib.hid (HRw.out.drewN nq)
          have HF := Lib.hid (show Fr (fun x => x = g) w (wr.drewN nq) by rw [HD.out]; exact ((Fr.refl _ _).drewN dd).drewN nq)
          generalize wr.drewN nq = w1 at HRW HF ⊢
          clear HRw HD HC hjs hm hc2 d1 d1' e1 e1' q1 HX HY HXY HJ hjn
          go_loopw [3, 5] (fun s3 s5 wr => ∃ (a i : Nat) (z : Array Int), 1 ≤ i ∧ i ≤ m ∧ s3 = .int .i64 a ∧ s5 = .int .i64 i ∧ 1 ≤ a ∧ a + 1 ≤ k + i ∧ Hid (RA wr g cap z) ∧ Hid (z.size = n) ∧ Hid ((cptTo d (k + i)).length = a ∧ (∀ l, l < a → z[l]! = (cptTo d (k + i))[l]!) ∧ ∀ l, k + i ≤ l + 1 → z[l]! = d[l]!) ∧ Hid (Fr (fun x => x = g) w wr)) (fun _ s5 _ => m - (intOf s5).toNat)
          case atStart =>
            exact ⟨k, 1, d, Nat.le_refl _, hm1, rfl, rfl, hk1, by omega, HRW, HN, Lib.hid ⟨HC2.out.1, fun l hl => HC2.out.2 l hl, fun _ _ => rfl⟩, HF⟩
          case round =>
            obtain ⟨a, i, z, hi1, him, rfl, rfl, ha1, hak, HZ, HZN, HI, HF2⟩ := hrel
            obtain ⟨w2, rfl⟩ : ∃ w2, w2 = wr := ⟨wr, rfl⟩
            by_cases hil : i < m
            · have e1 : decide ((i : Int) < (m : Int)) = true := by simp; omega
              have e1' : decide (i < m) = true := by simp; omega
              obtain ⟨b, hb⟩ : ∃ b, i = b + 1 := ⟨i - 1, by omega⟩
              have HB := Lib.hid hb
              have hbs : (i : Int) - 1 = (b : Int) := by omega
              have hbm : b < m := by omega
              have bi : (i : Int) ≤ 1000000 := by omega
              have ba : (a : Int) ≤ 1000000 := by have := HM.out; omega
              have hc1 : z[k + i]! = d[k + i]! := HI.out.2.2 _ (by omega)
              have hc0 : z[k + b]! = d[k + b]! := HI.out.2.2 _ (by omega)
              obtain ⟨x, hx⟩ : ∃ x, d[k + i]! = x := ⟨_, rfl⟩
              obtain ⟨y, hy⟩ : ∃ y, d[k + b]! = y := ⟨_, rfl⟩
              have ca : ∀ d', (w2.drewN d').cell? ⟨g, k + i, none⟩ = some (.int .u32 x) := fun d' => by rw [← hx, ← hc1]; exact (HZ.out.drewN d').cell (k + i) (by have := HZN.out; have := HM.out; omega)
              have cb : ∀ d', (w2.drewN d').cell? ⟨g, k + b, none⟩ = some (.int .u32 y) := fun d' => by rw [← hy, ← hc0]; exact (HZ.out.drewN d').cell (k + b) (by have := HZN.out; have := HM.out; omega)
              have HX := Lib.hid hx
              have HY := Lib.hid hy
              clear hb hc1 hc0 hx hy
              by_cases hxy : x = y
              · have q1 : (x != y) = false := by simp [hxy]
                have HXY := Lib.hid hxy
                clear hxy
                go_upto_region 11 with fail
                go_quiet (fail)
                clear ca cb
                go_wp2
                go_roundw
                case rel =>
                  refine ⟨a, i + 1, z, by omega, by omega, rfl, by go_num, ha1, by omega, Lib.hid (HZ.out.drewN nq), HZN, Lib.hid ?_, Lib.hid (HF2.out.drewN nq)⟩
                  have hb := HB.out
                  have ht := cptTo_no (d := d) (j := k + b) (by rw [show k + b + 1 = k + i by omega, HX.out, HY.out]; exact HXY.out)
                  rw [show k + b + 1 + 1 = k + (i + 1) by omega, show k + b + 1 = k + i by omega] at ht
                  rw [ht]
                  exact ⟨HI.out.1, HI.out.2.1, fun l hl => HI.out.2.2 l (by omega)⟩
                case measure => simp [intOf]; omega
              · have q1 : (x != y) = true := by simp [hxy]
                have HXY := Lib.hid hxy
                clear hxy
                go_upto_region 11 with fail
                go_quiet (fail)
                clear ca cb
                have HZ2 := Lib.hid (HZ.out.drewN nq)
                have HF3 := Lib.hid (HF2.out.drewN nq)
                generalize w2.drewN nq = w3 at HZ2 HF3 ⊢
                have hc1 : z[k + i]! = x := by rw [HI.out.2.2 _ (by omega)]; exact HX.out
                have ca : w3.cell? ⟨g, k + i, none⟩ = some (.int .u32 x) := by rw [← hc1]; exact HZ2.out.cell (k + i) (by have := HZN.out; have := HM.out; omega)
                have cz : w3.cell? ⟨g, a, none⟩ = some (.int .u32 z[a]!) := HZ2.out.cell a (by have := HZN.out; have := HM.out; omega)
                have fz : w3.frozen? ⟨g, a, none⟩ = false := HZ2.out.frozen a
                have han : a < n := by have := HM.out; omega
                clear hc1
                go_wp2
                go_roundw
                case rel =>
                  refine ⟨a + 1, i + 1, z.setIfInBounds a x, by omega, by omega, by go_num, by go_num, by omega, by omega, Lib.hid (HZ2.out.set_ a x), Lib.hid (by rw [Array.size_setIfInBounds]; exact HZN.out), Lib.hid ?_, Lib.hid (HF3.out.setCell (p := ⟨g, a, none⟩) (.inl rfl) _)⟩
                  have hb := HB.out
                  have ht := cptTo_yes (d := d) (j := k + b) (by rw [show k + b + 1 = k + i by omega, HX.out, HY.out]; exact HXY.out)
                  rw [show k + b + 1 + 1 = k + (i + 1) by omega, show k + b + 1 = k + i by omega, HX.out] at ht
                  obtain ⟨p1, p2, p3⟩ := HI.out
                  rw [ht]
                  refine ⟨by rw [List.length_append, p1]; rfl, fun l hl => ?_, fun l hl => ?_⟩
                  · by_cases hla : l < a
                    · rw [set_else z x (by omega), p2 l hla]
                      simp [List.getElem?_append, p1, hla, List.getElem!_eq_getElem?_getD]
                    · have : l = a := by omega
                      subst this
                      rw [set_self z x (by have := HZN.out; omega)]
                      simp [List.getElem?_append, p1, List.getElem!_eq_getElem?_getD]
                  · rw [set_else z x (by omega)]
                    exact p3 l (by omega)
                case measure => simp [intOf]; omega
            · have e1 : decide ((i : Int) < (m : Int)) = false := by simp; omega
              have e1' : decide (i < m) = false := by simp; omega
              obtain rfl : i = m := by omega
              have hkn := HM.out.1
              have HI2 := Lib.hid (show (cptTo d n).length = a ∧ ∀ l, l < a → z[l]! = (cptTo d n)[l]! by rw [hkn]; exact ⟨HI.out.1, HI.out.2.1⟩)
              have han : a < n := by omega
              obtain ⟨r, hr⟩ : ∃ r, n - a = r := ⟨_, rfl⟩
              have hcl : ∀ (ty : TypeId) (c : Nat), (Builtin.clear_ #[38] ty #[.slice (some ⟨g, a, none⟩) r c]).run Try.prog w2 = .ok (.tuple #[]) (w2.setCells g a (List.replicate r (.int .u32 0))) := fun ty c =>
                Lib.run_clear_slice w2 _ 29 ty (.int .u32 0) Try.underlying38 (fun _ => by kernel_rfl) rfl rfl g a r c (by omega)
                  (fun l hl => by rw [HZ.out.cell (a + l) (by have := HZN.out; omega)]; rfl) (fun l hl => HZ.out.frozen (a + l))
              obtain ⟨z', hz1, hz2, hz3⟩ := RA.zeros r a w2 z HZ.out
              have HR2 := Lib.hid (hz1.front (ys := cptTo d n) (by rw [HI2.out.1, hz2, HZN.out]; omega) (fun l hl => by rw [HI2.out.1] at hl; rw [hz3 l hl]; exact HI2.out.2 l hl))
              have HF4 := Lib.hid (fr_zeros r a w2 HF2.out)
              have HA := Lib.hid HI2.out.1
              have hac : ¬ cap = a := by omega
              clear hz1 hz2 hz3 hkn
              go_wp2
              go_ret
              exact ⟨by rw [HA.out]; rfl, HR2.out, HF4.out⟩
        · have q1 : (x == y) = false := by simp [hxy]
          have HXY := Lib.hid hxy
          clear hxy
          go_upto_region 6 with fail
          go_quiet (fail)
          clear ca cb
          go_wp2
          go_roundw
          case rel =>
            refine ⟨k + 1, dd + nq, by omega, by omega, by go_num, Lib.hid (by rw [HD.out]; simp [World.drewN, Nat.add_assoc]), Lib.hid ?_⟩
            have hj := HJ.out
            have hne : d[j + 1]! ≠ d[j]! := by rw [← hj, HX.out, HY.out]; exact HXY.out
            have ht := cptTo_yes hne
            rw [← hj] at ht
            obtain ⟨p1, p2⟩ := HC.out
            rw [ht]
            refine ⟨by rw [List.length_append, p1]; rfl, fun i hi => ?_⟩
            by_cases hik : i < k
            · rw [p2 i hik]
              simp [List.getElem?_append, p1, hik, List.getElem!_eq_getElem?_getD]
            · have : i = k := by omega
              subst this
              simp [List.getElem?_append, p1, List.getElem!_eq_getElem?_getD]
          case measure => simp [intOf]; omega
      · have e1 : decide ((k : Int) < (n : Int)) = false := by simp; omega
        have e1' : decide (k < n) = false := by simp; omega
        obtain rfl : k = n := by omega
        have HRw := Lib.hid (show RA wr g cap d by rw [HD.out]; exact HR.out.drewN dd)
        go_wp2
        go_ret
        exact ⟨by rw [HC.out.1]; rfl, HRw.out.front (by rw [HC.out.1, HN.out]; exact Nat.le_refl _) (fun i hi => HC.out.2 i (by rw [HC.out.1] at hi; exact hi)), by rw [HD.out]; exact (Fr.refl _ _).drewN dd⟩
set_option maxRecDepth 100000 in
set_option maxHeartbeats 4000000 in
theorem ins_nil (w : World) : Calls Try.prog 62 #[.slice none 0 0, .int .i64 0, .int .i64 0] w fun e w' => e = .returned (.tuple #[]) ∧ w' = w := by
  go_enter Try.func62, Try.ntmps62
  go_wp2
  refine wp_loop_rounds 1 ?_
  rw [rounds_succ]
  go_wp2
  go_end0
  exact ⟨rfl, rfl⟩
set_option maxRecDepth 100000 in
set_option maxHeartbeats 4000000 in
theorem pdq_nil (w : World) (l : Int) : Calls Try.prog 56 #[.slice none 0 0, .int .i64 0, .int .i64 0, .int .i64 l] w fun e w' => e = .returned (.tuple #[]) ∧ w' = w := by
  have CI := Lib.hid (ins_nil w)
  go_enter Try.func56, Try.ntmps56
  go_wp2
  refine wp_loop_rounds 1 ?_
  rw [rounds_succ]
  go_wp2_with fail
  (with_reducible refine CI.out.mono ?_)
  rintro e w1 ⟨rfl, rfl⟩
  go_wp2
  refine bodyPost_ret (results_none rfl _ _ _) rfl ?_
  exact ⟨rfl, rfl⟩
set_option maxRecDepth 100000 in
set_option maxHeartbeats 4000000 in
theorem sort_nil (w : World) : Calls Try.prog 43 #[.slice none 0 0] w fun e w' => e = .returned (.tuple #[]) ∧ w' = w := by
  have CL := Lib.hid (show Calls Try.prog 57 #[.int .u64 0] w fun e w' => (∃ k : Int, e = .returned (.int .i64 k)) ∧ w = w' from (len_any 0 (by decide) w).mono fun e w' h => ⟨⟨_, h.1⟩, h.2⟩)
  have CP := Lib.hid (pdq_nil w)
  go_enter Try.func43, Try.ntmps43
  go_wp2_with fail
  (with_reducible refine CL.out.mono ?_)
  rintro e w1 ⟨⟨k, rfl⟩, rfl⟩
  go_wp2_with fail
  (with_reducible refine (CP.out _).mono ?_)
  rintro e w1 ⟨rfl, rfl⟩
  go_wp2
  go_end0
  exact ⟨rfl, rfl⟩
end Go.Proofs.Ytpndcpmfcajmdaa.Srt
namespace Go.Proofs.Ytpndcpmfcajmdaa.Lock
open Go.ChangeShapes Go.WideShapes Go.ChangeAt Go.RowKit Go.IntWalk Go.Proofs.Mem Law Go.Shelf
set_option linter.unusedVariables false
set_option linter.unusedSimpArgs false
attribute [local go_sem] Oper.semAt_some
theorem u32_iz : (Try.prog.info? 29).map (fun i => (i.zero, i.size, i.bytes)) = some (some (.int .u32 0), 1, 4) := by kernel_rfl
theorem own_sc {A B : World} {base n size : Nat} {e : TypeId} {v : Value} {xs : List Value} (h : A.ownsRow base e size v n xs) (sc : Sc A B) : B.ownsRow base e size v n xs :=
  ⟨h.1, h.2.imp id fun ⟨g, cap, cur, h1, h2, h3, h4⟩ => ⟨g, cap, cur, h1, h2, sc _ _ _ _ h3, h4⟩⟩
theorem own_far_ {W : World} {b n s : Nat} {e : TypeId} {v : Value} {xs : List Value} (h : W.ownsRow b e s v n xs) {p : Addr} (hp : v.ownBlock ≠ some p.block) (x : Value) : (W.setCell p x).ownsRow b e s v n xs :=
  h.kept (grownBy_set W p x) (.inr hp)
def ApI (w0 : World) (g : Nat) (ss : List Int) (W : World) : Prop :=
  (∃ v, Box W g #[v] 38 ∧ W.ownsRow (g + 1) 29 1 v ss.length (ss.map (.int .u32))) ∧ Fr (fun k => g ≤ k) w0 W
theorem apI_own (w0 : World) (g B : Nat) (hB : g ≤ B) : OwnFrom B (ApI w0 g) :=
  OwnFrom.and (ownFrom_scz fun s A B h sc hz => by
    obtain ⟨v, h1, h2⟩ := h
    exact ⟨v, h1.sc sc, own_sc h2 sc⟩) (ownFrom_fr fun k hk => Nat.le_trans hB hk)
set_option maxRecDepth 100000 in
set_option maxHeartbeats 4000000 in
theorem appendSeq_any (w : World) (Bm b nn : Nat) (f : Int → Option Hd) (hBm : Bm < w.heap.size) (hm : w.cell? ⟨Bm, 0, none⟩ = some (.map (some b))) (hf : FM KU hdEE w b nn f) (hn : nn ≤ 1000000) :
    Calls Try.prog 55 #[.slice none 0 0, .func (.func 44) #[] #[.pointer (some ⟨Bm, 0, none⟩)]] w fun e w' => ∃ v ss, e = .returned v ∧ KeysOf f nn ss ∧ w'.ownsRow w.heap.size 29 1 v ss.length (ss.map (.int .u32)) ∧ Below w.heap.size w w' := by
  obtain ⟨i0, hi0, hz0, hz1, hz2⟩ := info_parts u32_iz
  refine (callsIn_wide (n := 3)).1 ?_
  refine callsIn_of_wp_marks Try.func55 rfl trivial ?_ rfl
  simp only [Try.ntmps55, List.size_toArray, List.length_cons, List.length_nil, Nat.reduceAdd, Nat.reduceSub, Array.replicate_succ, Array.replicate_zero, List.push_toArray, List.append_toArray, List.nil_append, List.cons_append]
  gi_wp2
  obtain ⟨w0, hw0⟩ : ∃ w0, w.alloc (.cells #[.slice none 0 0] 38) = w0 := ⟨_, rfl⟩
  have z0 : Box w0 w.heap.size #[.slice none 0 0] 38 := by rw [← hw0]; exact Box.new _ _ _
  have b0 : Below w.heap.size w w0 := by rw [← hw0]; exact new_ (Below.refl _ _) _
  have s0 : w0.heap.size = w.heap.size + 1 := by rw [← hw0]; simp
  obtain ⟨g, hg⟩ : ∃ g, w.heap.size = g := ⟨_, rfl⟩
  rw [hg] at z0 s0
  rw [hw0, hg]
  have hst : SeqStopsK Fence.wide 2 Try.prog 44 #[.pointer (some ⟨Bm, 0, none⟩)] (fun x : Int => #[Value.int .u32 x]) KeepsWalks (KeysOf f nn) (fun _ => True) nn w0 := keys_stops Fence.wide 2 trivial rfl (by omega) Bm b nn f w0 (by omega) ((b0.cell (p := ⟨Bm, 0, none⟩) hBm).trans hm) (hf.later b0)
  have B0 := Lib.hid b0
  have S0 := Lib.hid s0
  have HG := Lib.hid hg
  have Z0 := Lib.hid z0
  clear hw0 b0 s0 z0 hm hf
  refine wpIn_rangeFunc_one 5 rfl (by omega) (gf := 44) (lb := #[.pointer (some ⟨Bm, 0, none⟩)]) rfl trivial (enters_of Try.func44 (by kernel_rfl) rfl)
    hst walksK_t (fun W l o o' hl h h1 h2 => walksK_b W l o o' hl h h1 h2) (Below.refl _ _)
    (ApI w0 g) (fun _ _ _ => False) (apI_own w0 g _ (by have := S0.out; omega)) (fun _ _ _ _ _ hs _ _ => hs)
    ⟨⟨_, Z0.out, World.ownsRow_nil _ _ _ _⟩, Fr.refl _ _⟩ ?assign ?body ?done ?stop
  case assign =>
    intro l x W K hK
    gi_wp2
    exact hK
  case body =>
    rintro l pre x W ⟨⟨v, hbx, hown⟩, hfr⟩ hlt
    have BX := Lib.hid hbx
    have OWN := Lib.hid hown
    have FR := Lib.hid hfr
    have c0 : W.cell? ⟨g, 0, none⟩ = some v := hbx.cell 0
    have c1 : (W.alloc (.cells #[.int .u32 x] 29)).cell? ⟨g, 0, none⟩ = some v := (hbx.alloc _).cell 0
    have LT := Lib.hid hbx.lt
    clear hbx hown hfr
    simp only [List.setIfInBounds_toArray, List.set_cons_zero, List.set_cons_succ]
    gi_wp2_with (first
      | (gi_at_builtin; refine wpListIn_append_own _ rfl _ _ _ rfl (g + 1) 29 i0 (.int .u32 0) 1 4 Try.underlying38 hi0 hz0 hz1 hz2 rfl (by decide) v pre.length (pre.map (.int .u32)) rfl (OWN.out.alloc _) ⟨W.heap.size, 0, none⟩ 1 1 [_] rfl rfl (cell_one_new _ _ _) (by simp [Value.oneCell']) (by unfold maxLen; omega) (by omega) (by have := LT.out; simp; omega) ?_
         intro v5 w5 hown5 hg5 _
         obtain ⟨g5, cap5, rfl⟩ := ownsRow_succ hown5
         have OWN5 := Lib.hid hown5
         have HG5 := Lib.hid hg5
         have BX5 := Lib.hid ((BX.out.alloc _).grown hg5 (fun e => by have := (OWN.out.lt _ e).1; omega))
         have x7 : w5.cell? ⟨g, 0, none⟩ = some v := BX5.out.cell 0
         have x8 : w5.frozen? ⟨g, 0, none⟩ = false := BX5.out.frozen 0
         clear hown5 hg5))
    have KO := (((KeepsOthers.alloc W (.cells #[.int .u32 x] 29)).trans (keeps_grown (OWN.out.alloc _) HG5.out)).trans (KeepsOthers.setCell w5 ⟨g, 0, none⟩ (.slice (some ⟨g5, 0, none⟩) (pre.length + 1) cap5)))
    have F1 : Fr (fun k => g ≤ k) W (w5.setCell ⟨g, 0, none⟩ (.slice (some ⟨g5, 0, none⟩) (pre.length + 1) cap5)) :=
      (fr_grown ((Fr.refl _ _).alloc _) (OWN.out.alloc _) HG5.out (fun k hk => by show g ≤ k; omega)).setCell (p := ⟨g, 0, none⟩) (.inl (Nat.le_refl _)) _
    refine ⟨KO, KO.walks, ⟨.slice (some ⟨g5, 0, none⟩) (pre.length + 1) cap5, BX5.out.set_ 0 _, ?_⟩, FR.out.trans F1⟩
    have hh := OWN5.out
    rw [List.length_append, List.map_append]
    exact own_far_ hh (p := ⟨g, 0, none⟩) (fun e => by have := (hh.lt _ e).1; simp at this; omega) _
  case done =>
    rintro D ys W hD hK0 ⟨⟨v, hbx, hown⟩, hfr⟩ hK
    have c6 := hbx.cell 0
    have OWN := Lib.hid hown
    have FR := Lib.hid hfr
    have KEY := Lib.hid hK0
    clear hbx hown hfr hK0
    gi_wp2
    refine ⟨by simp, .inl ⟨_, _, rfl, run_takeDeferred hK, ?_⟩⟩
    refine ⟨_, results_tmp rfl _ _ _, _, ys, rfl, KEY.out, ?_, ?_⟩
    · have := own_sc OWN.out (sc_put (.deferred none) hK rfl)
      exact own_lower this (by have := HG.out; omega)
    · exact (B0.out.trans (FR.out.to_below (fun k hk => by have := HG.out; omega) (by have := S0.out; have := HG.out; omega))).trans (belowK_b (w := w0) B0.out.size W D _ _ hD hK rfl rfl)
  case stop =>
    rintro D c pre W _ _ h _
    exact h.elim
theorem collect_any (w : World) (Bm b nn : Nat) (f : Int → Option Hd) (hBm : Bm < w.heap.size) (hm : w.cell? ⟨Bm, 0, none⟩ = some (.map (some b))) (hf : FM KU hdEE w b nn f) (hn : nn ≤ 1000000) :
    Calls Try.prog 42 #[.func (.func 44) #[] #[.pointer (some ⟨Bm, 0, none⟩)]] w fun e w' => ∃ v ss, e = .returned v ∧ KeysOf f nn ss ∧ w'.ownsRow w.heap.size 29 1 v ss.length (ss.map (.int .u32)) ∧ Below w.heap.size w w' := by
  have CA := Lib.hid (appendSeq_any w Bm b nn f hBm hm hf hn)
  clear hm hf
  go_enter Try.func42, Try.ntmps42
  go_wp2_with fail
  (with_reducible refine (CA.out).mono ?_)
  rintro e w1 ⟨v, ss, rfl, h1, h2, h3⟩
  have H1 := Lib.hid h1
  have H2 := Lib.hid h2
  clear h1 h2
  go_wp2
  go_ret
  exact ⟨v, ss, rfl, H1.out, H2.out, h3⟩
theorem perm_sorted {xs : List Int} {n : Nat} {d : Array Int} (h1 : Sort.PermIn 0 n xs.toArray d) (h2 : Sort.SortedIn Srt.lt 0 n d) (hn : xs.length = n) : d.toList.Perm xs ∧ d.size = n ∧ ∀ i, i + 1 < n → d[i]! ≤ d[i + 1]! := by
  obtain ⟨e1, _, e2⟩ := h1
  have hs : d.size = n := by rw [e1]; simpa using hn
  refine ⟨?_, hs, fun i hi => Srt0.lt_false.1 (h2 i (i + 1) (Nat.zero_le _) (by omega) hi)⟩
  have a1 : (d.extract 0 n).toList = d.toList := by rw [← hs]; simp
  have a2 : (xs.toArray.extract 0 n).toList = xs := by rw [← hn]; simp
  rw [a1, a2] at e2
  exact e2
theorem sorted_le {d : Array Int} (h : ∀ i, i + 1 < d.size → d[i]! ≤ d[i + 1]!) : d.toList.Pairwise (· ≤ ·) := by
  have h2 : ∀ j i, i + j < d.size → d[i]! ≤ d[i + j]! := by
    intro j
    induction j with
    | zero => intro i _; exact Int.le_refl _
    | succ j ih => intro i hi; exact Int.le_trans (ih i (by omega)) (h (i + j) (by omega))
  rw [List.pairwise_iff_getElem]
  intro i j hi hj hij
  have := h2 (j - i) i (by simp at hj; omega)
  rw [show i + (j - i) = j by omega] at this
  simp at hi hj
  simpa [hi, hj] using this
set_option maxRecDepth 100000 in
set_option maxHeartbeats 4000000 in
theorem sortedKeys_any (w : World) (Bm b nn : Nat) (f : Int → Option Hd) (hBm : Bm < w.heap.size) (hm : w.cell? ⟨Bm, 0, none⟩ = some (.map (some b))) (hf : FM KU hdEE w b nn f) (hn : nn ≤ 1000000) :
    Calls Try.prog 29 #[.func (.func 44) #[] #[.pointer (some ⟨Bm, 0, none⟩)]] w fun e w' => ∃ (v : Value) (fr : List Int), e = .returned v ∧ (fr.Pairwise (· < ·) ∧ ∀ x, x ∈ fr ↔ (f x).isSome) ∧ fr.length ≤ nn ∧ w'.ownsRow w.heap.size 29 1 v fr.length (fr.map (.int .u32)) ∧ Below w.heap.size w w' := by
  have CC := Lib.hid (collect_any w Bm b nn f hBm hm hf hn)
  have HF := Lib.hid hf
  clear hm hf
  go_enter Try.func29, Try.ntmps29
  go_wp2_with fail
  (with_reducible refine (CC.out).mono ?_)
  rintro e w1 ⟨v, ss, rfl, h1, h2, h3⟩
  have H1 := Lib.hid h1
  have H2 := Lib.hid h2
  have H3 := Lib.hid h3
  clear h1 h2 h3
  have h2 := H2.out
  rcases h2.2 with ⟨rfl, hz⟩ | ⟨g, cap, cur, rfl, _⟩
  · have hs : ss = [] := List.eq_nil_of_length_eq_zero hz
    subst hs
    have CN := Lib.hid (Srt.sort_nil w1)
    clear h2 hz
    go_wp2_with fail
    (with_reducible refine (CN.out).mono ?_)
    rintro e w2 ⟨rfl, rfl⟩
    go_wp2
    go_ret
    exact ⟨_, [], rfl, ⟨List.Pairwise.nil, H1.out.mem⟩, Nat.zero_le _, H2.out, H3.out⟩
  · clear h2
    obtain ⟨q1, q2, q3⟩ := Srt.RA.of_own H2.out
    have CS := Lib.hid (Srt.sort_any w1 g ss.length cap ss.toArray q1 (by simp) (by have := H1.out.len; omega))
    have Q3 := Lib.hid q3
    clear q1 q2 q3
    go_wp2_with fail
    (with_reducible refine (CS.out).mono ?_)
    rintro e w2 ⟨rfl, ⟨d, p1, p2, p3⟩, p4⟩
    have P1 := Lib.hid p1
    have P4 := Lib.hid p4
    obtain ⟨r1, r2, r3⟩ := perm_sorted p2 p3 rfl
    have R := Lib.hid (show (d.toList.Pairwise (· < ·) ∧ ∀ x, x ∈ d.toList ↔ (f x).isSome) ∧ d.size = ss.length from ⟨⟨(List.Pairwise.and (sorted_le (by rw [r2]; exact r3)) (r1.nodup_iff.2 H1.out.nd)).imp (fun {a b} h => by omega), fun x => r1.mem_iff.trans (H1.out.mem x)⟩, r2⟩)
    clear p1 p2 p3 p4 r1 r2 r3
    go_wp2
    go_ret
    refine ⟨.slice (some ⟨g, 0, none⟩) ss.length cap, d.toList, rfl, R.out.1, by have := Array.length_toList (xs := d); have := R.out.2; have := H1.out.len; omega, ?_, H3.out.trans (P4.out.to_below (fun k hk => by rw [hk]; exact Q3.out) H3.out.size)⟩
    have := P1.out.own R.out.2 Q3.out
    rw [show d.toList.length = ss.length from Array.length_toList.trans R.out.2]
    exact this
end Go.Proofs.Ytpndcpmfcajmdaa.Lock
namespace Go.Proofs.Ytpndcpmfcajmdaa.Lock
open Go.ChangeShapes Go.WideShapes Go.ChangeAt Go.RowKit Go.IntWalk Go.Proofs.Mem Law Go.Shelf Go.Proofs.Each
set_option linter.unusedVariables false
set_option linter.unusedSimpArgs false
structure OfL (T : Tb) (t : Int) (l : List Ky) : Prop where
  mem : ∀ k, k ∈ l ↔ T.has k t = true
  srt : l.Pairwise klt
theorem sorted_uniq {l m : List Ky} (h : l.Pairwise klt) (k : m.Pairwise klt) (e : ∀ x, x ∈ l ↔ x ∈ m) : l = m := by
  induction l generalizing m with
  | nil => cases m with
    | nil => rfl
    | cons y m => exact absurd ((e y).2 (List.mem_cons_self ..)) (by simp)
  | cons x l ih =>
    cases m with
    | nil => exact absurd ((e x).1 (List.mem_cons_self ..)) (by simp)
    | cons y m =>
      rw [List.pairwise_cons] at h k
      have hxy : x = y := by
        rcases List.mem_cons.1 ((e x).1 (List.mem_cons_self ..)) with h1 | h1
        · exact h1
        · rcases List.mem_cons.1 ((e y).2 (List.mem_cons_self ..)) with h2 | h2
          · exact h2.symm
          · exact absurd (klt_trans (h.1 y h2) (k.1 x h1)) (klt_irrefl x)
      subst hxy
      rw [ih h.2 k.2 (fun z => ?_)]
      constructor
      · intro hz
        rcases List.mem_cons.1 ((e z).1 (List.mem_cons_of_mem _ hz)) with h1 | h1
        · subst h1; exact absurd (h.1 z hz) (klt_irrefl z)
        · exact h1
      · intro hz
        rcases List.mem_cons.1 ((e z).2 (List.mem_cons_of_mem _ hz)) with h1 | h1
        · subst h1; exact absurd (k.1 z hz) (klt_irrefl z)
        · exact h1
theorem OfL.uniq {T : Tb} {t : Int} {l m : List Ky} (h : OfL T t l) (k : OfL T t m) : l = m := sorted_uniq h.srt k.srt (fun x => (h.mem x).trans (k.mem x).symm)
theorem klt_strict {l : List Ky} (h : l.Pairwise (fun x y => ¬ klt y x)) (hn : l.Nodup) : l.Pairwise klt := by
  refine (List.Pairwise.and h hn).imp (fun {x y} ⟨h1, h2⟩ => ?_)
  by_cases h3 : klt x y
  · exact h3
  · exact absurd (klt_total h3 h1) h2
structure Gat (T : Tb) (t : Int) (K : Ky → Option (Option Nat)) (left : Ky → Bool) (ks : List Ky) : Prop where
  mem : ∀ k, k ∈ ks ↔ (left k = false ∧ (K k).isSome = true ∧ T.has k t = true)
  nd : ks.Nodup
theorem Gat.skip {T : Tb} {t : Int} {K : Ky → Option (Option Nat)} {left : Ky → Bool} {ks : List Ky} (h : Gat T t K left ks) {x : Ky} (hx : T.has x t = false) : Gat T t K (but left x) ks := by
  refine ⟨fun k => ?_, h.nd⟩
  rw [h.mem k]
  by_cases e : k = x
  · subst e; rw [hx]; simp
  · unfold but; simp [e]
theorem Gat.take {T : Tb} {t : Int} {K : Ky → Option (Option Nat)} {left : Ky → Bool} {ks : List Ky} (h : Gat T t K left ks) {x : Ky} {b : Option Nat} (hx : T.has x t = true) (hk : K x = some b) (hl : left x = true) : Gat T t K (but left x) (ks ++ [x]) := by
  have hn : x ∉ ks := fun hm => by rw [((h.mem x).1 hm).1] at hl; cases hl
  refine ⟨fun k => ?_, ?_⟩
  · rw [List.mem_append, h.mem k, List.mem_singleton]
    by_cases e : k = x
    · subst e; unfold but; simp [hx, hk]
    · unfold but; simp [e]
  · rw [List.nodup_append]
    exact ⟨h.nd, by simp, fun a ha b hb => by rw [List.mem_singleton.1 hb]; exact fun e => hn (e ▸ ha)⟩
theorem nm_info : (Try.prog.info? 81).map (fun i => (i.zero, i.size, i.bytes)) = some (some (.agg #[.int .u8 0, .int .u32 0, .int .u32 0]), 3, 12) := by kernel_rfl
set_option maxRecDepth 100000 in
set_option maxHeartbeats 8000000 in
theorem of_any (w : World) (S : Nat → Prop) (N L t : Nat) (T : Tb) (txn : Int) (h : TabAt w S N L t T) (ht : U32 txn) (hN : N ≤ 50000) :
    Calls Try.prog 33 #[.pointer (some ⟨t, 0, none⟩), .int .u32 txn] w fun e w' => ∃ v ks, e = .returned v ∧ SS cKy 3 w' w'.heap.size v ks ∧ OfL T txn ks ∧ ks.length ≤ N ∧ (∀ b, v.ownBlock = some b → w.heap.size ≤ b) ∧ Below w.heap.size w w' := by
  obtain ⟨col, mk, mw, nk, nw, K, h⟩ := h
  obtain ⟨j0, hj0, hj1, hj2, hj3⟩ := info_parts nm_info
  have b1 := new_ (Below.refl w.heap.size w) (.cells #[.int .u32 txn] 29)
  have X3 := Box.new w #[.int .u32 txn] 29
  have h1 := h.later b1
  obtain ⟨x3, hx3⟩ : ∃ x3, w.heap.size = x3 := ⟨_, rfl⟩
  rw [hx3] at X3 b1
  have hs1 : (w.alloc (.cells #[.int .u32 txn] 29)).heap.size = x3 + 1 := by rw [← hx3]; simp
  have hts := h.old t h.st
  rw [hx3] at hts ⊢
  obtain ⟨w1, hw1⟩ : ∃ w1, w.alloc (.cells #[.int .u32 txn] 29) = w1 := ⟨_, rfl⟩
  rw [hw1] at X3 b1 h1 hs1
  have k0 : w1.cell? ⟨t, 0, none⟩ = some (.map (some mk)) := by rw [h1.box.cell 0]; rfl
  have HT := Lib.hid h1
  have HX := Lib.hid X3
  have HB := Lib.hid b1
  have HS := Lib.hid hs1
  have HTX := Lib.hid ht
  have HM := Lib.hid h1.fk
  have HNN := Lib.hid hN
  have HSX := Lib.hid (show ∀ y, S y → y < x3 from fun y hy => by rw [← hx3]; exact h.old y hy)
  clear h h1 X3 b1 hs1 ht hN
  go_enter Try.func33, Try.ntmps33
  go_upto_region 2 with fail
  go_wp2_with (first
    | (at_range; refine wpList_range_fm (E := KK) (V := ptrEE) rfl _ _ rfl _ Try.underlying56 rfl HM.out ?_; intro w2 cnt hfr hcnt hbw hsz))
  obtain ⟨r, hr⟩ : ∃ r, w1.heap.size = r := ⟨_, rfl⟩
  rw [hr] at hfr ⊢
  have hrx : r = x3 + 1 := by rw [← hr]; exact HS.out
  have HB2 := Lib.hid (show Below x3 w w2 from HB.out.trans (hbw.mono (by rw [hr]; omega)))
  have HT2 := Lib.hid (HT.out.later hbw)
  have HX2 := Lib.hid (HX.out.later hbw)
  have HFR := Lib.hid hfr
  have HCN := Lib.hid (show ([] : List Ky).length + cnt ≤ N from by have := HT.out.hk; simp; omega)
  have HG := Lib.hid (show Gat T txn K (fun x => (K x).isSome) [] from ⟨fun k => by cases hh : (K k).isSome <;> simp, List.nodup_nil⟩)
  have HRX := Lib.hid (show r = x3 + 1 ∧ x3 + 2 ≤ w2.heap.size by rw [hsz, hr]; omega)
  clear hbw hfr hsz hr hrx hcnt k0 HB HX HT HM HS
  go_frame
  go_loopw [5, 6, 7, 8] (fun s5 _ _ _ wr => ∃ (left : Ky → Bool) (cnt : Nat) (A : Option Addr) (n c : Nat) (ks : List Ky), s5 = .slice A n c ∧ Hid (n = ks.length) ∧ Hid (FR KK ptrEE wr mk r nk K left cnt) ∧ Hid (wr.ownsRow (x3 + 2) 81 3 (.slice A n c) ks.length (ks.flatMap cKy)) ∧ Hid (Gat T txn K left ks) ∧ Hid (ks.length + cnt ≤ N) ∧ Hid (TabW wr S N L t T col mk mw nk nw K) ∧ Hid (Below x3 w wr) ∧ Hid (Box wr x3 #[.int .u32 txn] 29) ∧ Hid (x3 + 2 ≤ wr.heap.size)) (fun _ _ _ _ wr => wr.rangeLeft mk r)
  case atStart => exact ⟨_, _, _, _, _, [], rfl, Lib.hid rfl, HFR, Lib.hid (World.ownsRow_nil _ _ _ _), HG, HCN, HT2, HB2, HX2, Lib.hid HRX.out.2⟩
  case round =>
    obtain ⟨left, cnt, A, n5, c5, ks, rfl, HN5, HFR2, HO, HG2, HCN2, HT, HB, HX, HZ⟩ := hrel
    obtain ⟨w2, rfl⟩ : ∃ w2, w2 = wr := ⟨wr, rfl⟩
    clear HFR HB2 HT2 HX2 HCN HG
    go_wp2_with (first
      | (at_next; refine wpList_next_fm (E := KK) (V := ptrEE) rfl _ rfl rfl HFR2.out ?_ ?_))
    · intro hl0
      have HOL := Lib.hid (show ∀ ks', ks'.Perm ks → ks'.Pairwise (fun x y => ¬ klt y x) → OfL T txn ks' from fun ks' hp hs => by
        refine ⟨fun k => ?_, klt_strict hs (hp.nodup_iff.2 HG2.out.nd)⟩
        rw [hp.mem_iff, HG2.out.mem k]
        constructor
        · exact fun h => h.2.2
        · intro h
          obtain ⟨b, hK⟩ := HT.out.has_ h
          exact ⟨hl0 k (FMok HFR2.out.fm hK), by rw [hK]; rfl, h⟩)
      have hown := HO.out
      have HSO := Lib.hid (sorted_any w2 (.slice A n5 c5) ks (x3 + 2) (by have := HCN2.out; have := HNN.out; omega) hown)
      have HBS := Lib.hid (show ∀ w', Fr (fun x => (Value.slice A n5 c5).ownBlock = some x) w2 w' → Below x3 w w' from fun w' hf => HB.out.trans (hf.to_below (fun k hk => by have := (HO.out.lt k hk).1; omega) (by have := HZ.out; omega)))
      have HRW := Lib.hid (show ∀ b, (Value.slice A n5 c5).ownBlock = some b → x3 ≤ b from fun b hb => by have := (HO.out.lt b hb).1; omega)
      have HKL := Lib.hid (show ks.length ≤ N by have := HCN2.out; omega)
      clear hl0 hown
      go_wp2_with (first
        | (go_at_call 50; (with_reducible refine HSO.out.mono ?_); rintro e w' ⟨rfl, hq⟩))
      go_ret
      obtain ⟨ks', h1, h2, h3, h4⟩ := hq
      exact ⟨_, ks', rfl, h1, HOL.out ks' h2 h3, by rw [h2.length_eq]; exact HKL.out, HRW.out, HBS.out _ h4⟩
    · intro x b w3 cnt' hx hlx hfx hfr3 hlt hF3 hsz3 hen
      have hSr : ∀ y, S y → ¬ y = r := fun y hy e => by have := HRX.out; have := HSX.out y hy; omega
      have hb4 := new_ (Below.refl w3.heap.size w3) (.cells #[.int .u8 x.k, .int .u32 x.a, .int .u32 x.b] 31)
      have HT4 := Lib.hid ((HT.out.far hF3 hSr).later hb4)
      obtain ⟨e, m, n, lv, rfl, hEA⟩ := HT4.out.is hfx
      obtain ⟨en, hTe⟩ : ∃ en, T.ent x = en := ⟨_, rfl⟩
      rw [hTe] at hEA
      have ek : KK.kv x = .agg #[.int .u8 x.k, .int .u32 x.a, .int .u32 x.b] := rfl
      have em : ptrEE.ev (some e) = .pointer (some ⟨e, 0, none⟩) := rfl
      rw [ek, em] at hen
      rw [ek, em]
      have hHas : T.has x txn = en.has txn := by unfold Tb.has; rw [hTe]
      have HFR4 := Lib.hid (hfr3.fr (S := fun _ => False) (Fr.of_below hb4) id id)
      have HLT := Lib.hid (⟨hlt, HFR2.out.left_eq, HFR4.out.left_eq⟩ : cnt' < cnt ∧ w2.rangeLeft mk r = cnt ∧ (w3.alloc (.cells #[.int .u8 x.k, .int .u32 x.a, .int .u32 x.b] 31)).rangeLeft mk r = cnt')
      have HO4 := Lib.hid (own_below (own_frS HO.out hF3 (fun b hb e => by have := (HO.out.lt b hb).1; have := HRX.out; omega)) hb4)
      have HX4 := Lib.hid ((HX.out.fr hF3 (by have := HRX.out; omega)).later hb4)
      have HB4 := Lib.hid (show Below x3 w (w3.alloc (.cells #[.int .u8 x.k, .int .u32 x.a, .int .u32 x.b] 31)) from (HB.out.trans (hF3.to_below (fun k hk => by have := HRX.out; omega) (by have := HZ.out; omega))).trans (hb4.mono (by have := HZ.out; omega)))
      have HK6 := Lib.hid (Box.new w3 #[.int .u8 x.k, .int .u32 x.a, .int .u32 x.b] 31)
      have HZ4 := Lib.hid (show x3 + 2 ≤ w3.heap.size by have := HZ.out; omega)
      have HZ5 := Lib.hid (show w3.heap.size < (w3.alloc (.cells #[.int .u8 x.k, .int .u32 x.a, .int .u32 x.b] 31)).heap.size by simp)
      clear hsz3
      have HFX := Lib.hid hfx
      have HLX := Lib.hid hlx
      have HHS := Lib.hid hHas
      go_upto_region 6 with fail
      obtain ⟨x6, hx6⟩ : ∃ x6, w3.heap.size = x6 := ⟨_, rfl⟩
      obtain ⟨w4, hw4⟩ : ∃ w4, w3.alloc (.cells #[.int .u8 x.k, .int .u32 x.a, .int .u32 x.b] 31) = w4 := ⟨_, rfl⟩
      rw [hx6, hw4] at HK6 HZ5
      rw [hw4] at HT4 hEA HFR4 HLT HO4 HX4 HB4
      rw [hx6] at HZ4
      rw [hx6, hw4]
      have CH := Lib.hid (holds_any w4 e m n lv en.hv txn hEA.box hEA.fm HTX.out)
      have kX : w4.cell? ⟨x3, 0, none⟩ = some (.int .u32 txn) := by rw [HX4.out.cell 0]; rfl
      have CC := Lib.hid (contains_any w4 lv en.line 47 #[.pointer (some ⟨x3, 0, none⟩)] (isT txn) (enters_of Try.func47 (by kernel_rfl) rfl) hEA.ln.ss (fun W y hy hb => by
        have hl := HX4.out.lt
        exact (of_1 W y x3 txn (by have := hb.size; omega) ((hb.cell (p := ⟨x3, 0, none⟩) hl).trans kX)).mono fun _ _ ⟨h1, h2⟩ => ⟨h1, hb.trans (h2.mono hb.size)⟩))
      obtain ⟨Al, cl, hlv, _, _⟩ := hEA.ln.form
      have c1 : w4.cell? ⟨e, 1, none⟩ = some lv := by rw [hEA.box.cell 1]; rfl
      have hq : en.has txn = ((en.hv txn).isSome || en.line.any (isT txn)) := rfl
      obtain ⟨q1, hq1⟩ : ∃ q, (en.hv txn).isSome = q := ⟨_, rfl⟩
      obtain ⟨q2, hq2⟩ : ∃ q, en.line.any (isT txn) = q := ⟨_, rfl⟩
      rw [hq1, hq2] at hq
      rw [hq1] at CH
      rw [hq2] at CC
      have HQ := Lib.hid (HHS.out.trans hq)
      have k60 : w4.cell? ⟨x6, 0, none⟩ = some (.int .u8 x.k) := by rw [HK6.out.cell 0]; rfl
      have k61 : w4.cell? ⟨x6, 1, none⟩ = some (.int .u32 x.a) := by rw [HK6.out.cell 1]; rfl
      have k62 : w4.cell? ⟨x6, 2, none⟩ = some (.int .u32 x.b) := by rw [HK6.out.cell 2]; rfl
      clear hx hlx hfx hfr3 hlt hF3 hen hSr hb4 hTe hEA hHas HT HB HX HO HFR2 HZ hx6 hw4 hq hq1 hq2 HHS
      subst hlv
      have SKIP : Hid (T.has x txn = false → Gat T txn K (but left x) ks) := Lib.hid (fun h => HG2.out.skip h)
      have TAKE : Hid (T.has x txn = true → Gat T txn K (but left x) (ks ++ [x])) := Lib.hid (fun h => HG2.out.take h HFX.out HLX.out)
      cases q1 with
      | true =>
        go_wp2_with (first
          | (go_at_call 48; (with_reducible refine CH.out.mono ?_); rintro er wr ⟨rfl, rfl⟩)
          | (at_builtin; refine wpList_push_ss (F := cKy) (sz := 3) _ rfl _ _ _ rfl (x3 + 2) 81 j0 _ 12 Try.underlying79 hj0 hj1 hj2 hj3 rfl (by decide) cKy_len cKy_one _ ks rfl (own_below HO4.out (new_ (Below.refl _ _) (.cells #[.int .u8 x.k, .int .u32 x.a, .int .u32 x.b] 81))) w4.heap.size x 81 rfl (Box.new w4 _ _) (by have := HCN2.out; have := HNN.out; unfold maxLen; omega) (by have := HCN2.out; have := HNN.out; omega) (by have := HZ4.out; have := HZ5.out; simp; omega) ?_; intro v9 w9 hown ht9))
        have tt := (RowTo.of_below (new_ (Below.refl w4.heap.size w4) (.cells #[.int .u8 x.k, .int .u32 x.a, .int .u32 x.b] 81)) (.slice A n5 c5)).trans ht9
        have hrow : ∀ b, (Value.slice A n5 c5).ownBlock = some b → x3 + 2 ≤ b := fun b hb => (HO4.out.lt b hb).1
        obtain ⟨A9, n9, c9, rfl⟩ : ∃ A n c, v9 = .slice A n c := by
          rcases hown.2 with ⟨rfl, _⟩ | ⟨g, cap, cur, rfl, _⟩
          · exact ⟨_, _, _, rfl⟩
          · exact ⟨_, _, _, rfl⟩
        have hn9 : n9 = (ks ++ [x]).length := by
          rcases hown.2 with ⟨e1, e2⟩ | ⟨g, cap, cur, e1, _⟩
          · simp at e2
          · injection e1 with _ e2 _
        have hFR9 : FR KK ptrEE w9 mk r nk K (but left x) cnt' := HFR4.out.fr tt.fr (fun hb => by have := hrow _ hb; have := HSX.out mk HT4.out.sk; omega) (fun hb => by have := hrow _ hb; have := HRX.out; omega)
        have hG : T.has x txn = true := by rw [HQ.out]; rfl
        refine ⟨⟨_, cnt', A9, n9, c9, ks ++ [x], rfl, Lib.hid hn9, Lib.hid hFR9, Lib.hid hown, Lib.hid (TAKE.out hG), Lib.hid (by have := HCN2.out; have := HLT.out.1; simp; omega),
          Lib.hid (HT4.out.far tt.fr (fun y hy hb => by have := hrow _ hb; have := HSX.out y hy; omega)), Lib.hid (HB4.out.trans (tt.below (fun k hk => by have := hrow k hk; omega) (by have := HZ4.out; have := HZ5.out; omega))),
          Lib.hid (HX4.out.fr tt.fr (fun hb => by have := hrow _ hb; omega)), Lib.hid (by have := tt.fr.size; have := HZ4.out; have := HZ5.out; omega)⟩, ?_⟩
        rw [hFR9.left_eq, HLT.out.2.1]
        exact HLT.out.1
      | false =>
        cases q2 with
        | true =>
          go_wp2_with (first
            | (go_at_call 48; (with_reducible refine CH.out.mono ?_); rintro er wr ⟨rfl, rfl⟩)
            | (go_at_call 49; (with_reducible refine CC.out.mono ?_); rintro er w5 ⟨rfl, hcb⟩; have HCB := Lib.hid hcb; have l60 : w5.cell? ⟨x6, 0, none⟩ = some (.int .u8 x.k) := by rw [(HK6.out.later hcb).cell 0]; rfl
               have l61 : w5.cell? ⟨x6, 1, none⟩ = some (.int .u32 x.a) := by rw [(HK6.out.later hcb).cell 1]; rfl
               have l62 : w5.cell? ⟨x6, 2, none⟩ = some (.int .u32 x.b) := by rw [(HK6.out.later hcb).cell 2]; rfl
               clear hcb k60 k61 k62)
            | (at_builtin; refine wpList_push_ss (F := cKy) (sz := 3) _ rfl _ _ _ rfl (x3 + 2) 81 j0 _ 12 Try.underlying79 hj0 hj1 hj2 hj3 rfl (by decide) cKy_len cKy_one _ ks rfl (own_below (own_below HO4.out HCB.out) (new_ (Below.refl _ _) (.cells #[.int .u8 x.k, .int .u32 x.a, .int .u32 x.b] 81))) w5.heap.size x 81 rfl (Box.new w5 _ _) (by have := HCN2.out; have := HNN.out; unfold maxLen; omega) (by have := HCN2.out; have := HNN.out; omega) (by have := HCB.out.size; have := HZ4.out; have := HZ5.out; simp; omega) ?_; intro v9 w9 hown ht9))
          have tt := ((RowTo.of_below HCB.out (.slice A n5 c5)).trans (RowTo.of_below (new_ (Below.refl w5.heap.size w5) (.cells #[.int .u8 x.k, .int .u32 x.a, .int .u32 x.b] 81)) (.slice A n5 c5))).trans ht9
          have hrow : ∀ b, (Value.slice A n5 c5).ownBlock = some b → x3 + 2 ≤ b := fun b hb => (HO4.out.lt b hb).1
          obtain ⟨A9, n9, c9, rfl⟩ : ∃ A n c, v9 = .slice A n c := by
            rcases hown.2 with ⟨rfl, _⟩ | ⟨g, cap, cur, rfl, _⟩
            · exact ⟨_, _, _, rfl⟩
            · exact ⟨_, _, _, rfl⟩
          have hn9 : n9 = (ks ++ [x]).length := by
            rcases hown.2 with ⟨e1, e2⟩ | ⟨g, cap, cur, e1, _⟩
            · simp at e2
            · injection e1 with _ e2 _
          have hFR9 : FR KK ptrEE w9 mk r nk K (but left x) cnt' := HFR4.out.fr tt.fr (fun hb => by have := hrow _ hb; have := HSX.out mk HT4.out.sk; omega) (fun hb => by have := hrow _ hb; have := HRX.out; omega)
          have hG : T.has x txn = true := by rw [HQ.out]; rfl
          refine ⟨⟨_, cnt', A9, n9, c9, ks ++ [x], rfl, Lib.hid hn9, Lib.hid hFR9, Lib.hid hown, Lib.hid (TAKE.out hG), Lib.hid (by have := HCN2.out; have := HLT.out.1; simp; omega),
            Lib.hid (HT4.out.far tt.fr (fun y hy hb => by have := hrow _ hb; have := HSX.out y hy; omega)), Lib.hid (HB4.out.trans (tt.below (fun k hk => by have := hrow k hk; omega) (by have := HZ4.out; have := HZ5.out; omega))),
            Lib.hid (HX4.out.fr tt.fr (fun hb => by have := hrow _ hb; omega)), Lib.hid (by have := tt.fr.size; have := HZ4.out; have := HZ5.out; omega)⟩, ?_⟩
          rw [hFR9.left_eq, HLT.out.2.1]
          exact HLT.out.1
        | false =>
          go_wp2_with (first
            | (go_at_call 48; (with_reducible refine CH.out.mono ?_); rintro er wr ⟨rfl, rfl⟩)
            | (go_at_call 49; (with_reducible refine CC.out.mono ?_); rintro er w5 ⟨rfl, hcb⟩; have HCB := Lib.hid hcb; have l60 : w5.cell? ⟨x6, 0, none⟩ = some (.int .u8 x.k) := by rw [(HK6.out.later hcb).cell 0]; rfl
               have l61 : w5.cell? ⟨x6, 1, none⟩ = some (.int .u32 x.a) := by rw [(HK6.out.later hcb).cell 1]; rfl
               have l62 : w5.cell? ⟨x6, 2, none⟩ = some (.int .u32 x.b) := by rw [(HK6.out.later hcb).cell 2]; rfl
               clear hcb k60 k61 k62))
          refine ⟨⟨_, cnt', A, n5, c5, ks, rfl, HN5, Lib.hid (HFR4.out.fr (S := fun _ => False) (Fr.of_below HCB.out) id id), Lib.hid (own_below HO4.out HCB.out), Lib.hid (SKIP.out (by rw [HQ.out]; rfl)), Lib.hid (by have := HCN2.out; have := HLT.out.1; omega), Lib.hid (HT4.out.later HCB.out), Lib.hid (HB4.out.trans (HCB.out.mono (by have := HZ4.out; have := HZ5.out; omega))), Lib.hid (HX4.out.later HCB.out), Lib.hid (by have := HCB.out.size; have := HZ4.out; have := HZ5.out; omega)⟩, ?_⟩
          rw [(HFR4.out.fr (S := fun _ => False) (Fr.of_below HCB.out) id id).left_eq, HLT.out.2.1]
          exact HLT.out.1
end Go.Proofs.Ytpndcpmfcajmdaa.Lock
namespace Go.Proofs.Ytpndcpmfcajmdaa.Lock
open Go.ChangeShapes Go.WideShapes Go.ChangeAt Go.RowKit Go.IntWalk Go.Proofs.Mem Law
set_option linter.unusedVariables false
structure Lo where
  kd : Int
  t : Int
  k : Ky
  m : Int
def cLo (x : Lo) : List Value := [.int .u8 x.kd, .int .u32 x.t, .int .u8 x.k.k, .int .u32 x.k.a, .int .u32 x.k.b, .int .u8 x.m]
def Lo.Ok (x : Lo) : Prop := (0 ≤ x.kd ∧ x.kd ≤ 255) ∧ U32 x.t ∧ x.k.ok ∧ 0 ≤ x.m ∧ x.m ≤ 255
theorem cellsLo : Try.prog.cellsOf 33 = 6 := by kernel_rfl
theorem cells8 : Try.prog.cellsOf 5 = 1 := by kernel_rfl
theorem cells32 : Try.prog.cellsOf 29 = 1 := by kernel_rfl
theorem list6 {l : List Value} (h : l.length = 6) : ∃ a b c d e f, l = [a, b, c, d, e, f] := by
  match l, h with
  | [a, b, c, d, e, f], _ => exact ⟨a, b, c, d, e, f, rfl⟩
section
variable {H : Type} {enc : TypeId × Value → H} {W : World} {base : Nat} {spare : Nat → Bool} {held : Bool}
theorem one_int {k : IntKind} {t : TypeId} {n : Nat} {c : Value} {o : Option (DataW H × List MemPlace)} (ht : Try.prog.underlying t = some (.int k)) (h : DataW.trod enc Try.prog W base spare held n t [c] = o) (ho : o.isSome = true) : ∃ x, c = .int k x ∧ (Lit.int k x).wf = true := by
  cases o with
  | none => cases ho
  | some y =>
    obtain ⟨x, e, _, hw⟩ := DataW.trod_int ht h
    injection e with e _
    exact ⟨x, e, hw⟩
theorem some_at {α : Type} {l : List α} {i : Nat} (h : i < l.length) : (l[i]?).isSome = true := by simp [h]
theorem one_key {n : Nat} {a0 a1 a2 : Value} {o : Option (DataW H × List MemPlace)} (h : DataW.trod enc Try.prog W base spare held n 31 [a0, a1, a2] = o) (ho : o.isSome = true) : ∃ x : Ky, x.ok ∧ a0 = .int .u8 x.k ∧ a1 = .int .u32 x.a ∧ a2 = .int .u32 x.b := by
  cases o with
  | none => cases ho
  | some y =>
    obtain ⟨xs, n', _, _, _, hl, hg⟩ := DataW.trod_struct Try.underlying31 h
    have h0 := hg 0 _ rfl
    have h1 := hg 1 _ rfl
    have h2 := hg 2 _ rfl
    simp [cells8, cells32] at h0 h1 h2 hl
    obtain ⟨x0, rfl, w0⟩ := one_int Try.underlying5 h0 (some_at (by omega))
    obtain ⟨x1, rfl, w1⟩ := one_int Try.underlying29 h1 (some_at (by omega))
    obtain ⟨x2, rfl, w2⟩ := one_int Try.underlying29 h2 (some_at (by omega))
    exact ⟨⟨x0, x1, x2⟩, ⟨w0, w1, w2⟩, rfl, rfl, rfl⟩
theorem one_lo {n : Nat} {a0 a1 a2 a3 a4 a5 : Value} {o : Option (DataW H × List MemPlace)} (h : DataW.trod enc Try.prog W base spare held n 33 [a0, a1, a2, a3, a4, a5] = o) (ho : o.isSome = true) : ∃ x : Lo, [a0, a1, a2, a3, a4, a5] = cLo x ∧ x.Ok := by
  cases o with
  | none => cases ho
  | some y =>
    obtain ⟨xs, n', _, _, _, hl, hg⟩ := DataW.trod_struct Try.underlying33 h
    have h0 := hg 0 _ rfl
    have h1 := hg 1 _ rfl
    have h2 := hg 2 _ rfl
    have h3 := hg 3 _ rfl
    simp [cells8, cells32, cellsK] at h0 h1 h2 h3 hl
    obtain ⟨x0, rfl, w0⟩ := one_int Try.underlying5 h0 (some_at (by omega))
    obtain ⟨x1, rfl, w1⟩ := one_int Try.underlying29 h1 (some_at (by omega))
    obtain ⟨x, hx, rfl, rfl, rfl⟩ := one_key h2 (some_at (by omega))
    obtain ⟨x3, rfl, w3⟩ := one_int Try.underlying5 h3 (some_at (by omega))
    exact ⟨⟨x0, x1, x, x3⟩, rfl, bounds_u8 w0, bounds_u32 w1, hx, bounds_u8 w3⟩
set_option maxRecDepth 100000 in
theorem open_los {r : Reach} {b0 : Nat} {v : Value} {d : DataW H} {p : List MemPlace} (hv : Value.okWide Try.prog W r b0 22 v) (h : DataW.Trod enc Try.prog W 0 (fun _ => true) true 22 v d p) : ∃ xs : List Lo, SS cLo 6 W W.heap.size v xs ∧ ∀ x ∈ xs, x.Ok := by
  refine open_SS cLo Lo.Ok Try.underlying22 cellsLo (by decide) (fun cs n y hcs hf => ?_) hv h
  obtain ⟨a0, a1, a2, a3, a4, a5, rfl⟩ := list6 hcs
  obtain ⟨x, e, hx⟩ := one_lo hf rfl
  exact ⟨x, e, hx⟩
end
end Go.Proofs.Ytpndcpmfcajmdaa.Lock
namespace Go.Proofs.Mem
open Go.RowKit Go.WideShapes
set_option linter.unusedVariables false
section
variable {α : Type} {F : α → List Value} {sz : Nat}
theorem SS.take {w : World} {B : Nat} {A : Option Addr} {n c : Nat} {xs : List α} (h : SS F sz w B (.slice A n c) xs) (k : Nat) (hk : k ≤ xs.length) : SS F sz w B (.slice A k c) (xs.take k) := by
  obtain ⟨A', c', e, h1, h2, h3⟩ := h
  injection e with e1 e2 e3
  subst e1 e3
  refine ⟨A, c, by rw [List.length_take, Nat.min_eq_left hk], by rw [List.length_take]; omega, h2, fun i x hx => ?_⟩
  rw [List.getElem?_take] at hx
  split at hx
  · exact h3 i x hx
  · cases hx
theorem wpList_append_ss {P : Program} (w : World) {ops : Array Oper} {rest : List Oper} {o : Oper} {a : Act} {Q : Exit → Act → World → Prop} (hgd : o.guard = none) (s x : Operand) (t : TypeId)
    (ho : o.op = .call { callee := .builtin .append, args := #[s, x], argTypes := #[t, t] })
    (base : Nat) (e : TypeId) (i : TypeInfo) (z : Value) (bytes : Nat) (ht : P.underlying t = some (.slice e)) (hi : P.info? e = some i) (hz : i.zero = some z)
    (hsize : i.size = sz) (hby : i.bytes = bytes) (hzs : z.cells.size = sz) (hsz : 0 < sz) (hF : ∀ y, (F y).length = sz) (h1 : ∀ y : α, ∀ u ∈ F y, u.oneCell' = true)
    (v : Value) (xs : List α) (hs : a.eval s = v) (hown : w.ownsRow base e sz v xs.length (xs.flatMap F))
    (B : Nat) (u : Value) (ys : List α) (hx : a.eval x = u) (hr : SS F sz w B u ys) (h63 : xs.length + ys.length ≤ maxLen) (hbytes : (xs.length + ys.length) * bytes ≤ 140737488355328) (hbase : base ≤ w.heap.size)
    (h : ∀ v' w', w'.ownsRow base e sz v' (xs ++ ys).length ((xs ++ ys).flatMap F) → RowTo w w' v v' → wpList P ops Q rest (a.put o.dst v') w') : wpList P ops Q (o :: rest) a w := by
  refine wpList_plain hgd fun K hK' => ?_
  obtain ⟨A, c, rfl, hc1, hc2, hat⟩ := hr
  cases A with
  | none =>
    obtain rfl : ys = [] := by
      cases ys with
      | nil => rfl
      | cons y0 ys =>
        obtain ⟨_, _, e', _⟩ := hat 0 y0 rfl
        cases e'
    have hrun : (Builtin.append_ #[t, t] o.type #[v, .slice none 0 c]).run P w = .ok v w := by
      rcases hown.2 with ⟨rfl, hn⟩ | ⟨g, cap, cur, rfl, _, _, hnc, _⟩
      · simp [Builtin.append_, run_underlying ht, sizeOf, typeInfo, hi, Builtin.lenOf, Builtin.firstCells]
      · simp [Builtin.append_, run_underlying ht, sizeOf, typeInfo, hi, Builtin.lenOf, Builtin.firstCells, hnc, storeCells]
    unfold Oper.wp
    simp [execOp, ho, resolve, invoke, builtin, hs, hx, hrun, Result.andThen]
    exact hK' _ _ (h v w (by simpa using hown) (RowTo.refl _ _))
  | some ad =>
    obtain ⟨v', w', hrun, h2, h3, _, h5⟩ := run_append_own_at (P := P) (w := w) base t o.type e i z sz bytes ht hi hz hsize hby hzs hsz v xs.length _ hown ad ys.length c (ys.flatMap F) (flat_len hF _) (by
      intro j u' hj
      have hjl : j < ys.length * sz := by
        rw [← flat_len hF]
        exact (List.getElem?_eq_some_iff.1 hj).1
      have hi : j / sz < ys.length := Nat.div_lt_of_lt_mul (by rw [Nat.mul_comm]; exact hjl)
      have hyi := List.getElem?_eq_getElem hi
      obtain ⟨b', off', e', _, hc⟩ := hat _ _ hyi
      injection e' with e'
      subst e'
      have hjj : j / sz * sz + j % sz = j := Nat.div_add_mod' j sz
      rw [← hjj, flat_at hF _ _ _ _ hyi (Nat.mod_lt _ hsz)] at hj
      rw [Go.WideShapes.add_plain, ← hc _ _ hj]
      congr 2
      omega) (fun u' hu => by
      obtain ⟨y, _, hy⟩ := List.mem_flatMap.1 hu
      exact h1 y u' hy) h63 hbytes hbase
    unfold Oper.wp
    simp [execOp, ho, resolve, invoke, builtin, hs, hx, hrun, Result.andThen]
    exact hK' _ _ (h v' w' (by rw [List.length_append, List.flatMap_append]; exact h2) (RowTo.app h3 h5))
end
end Go.Proofs.Mem
