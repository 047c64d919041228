import Derived.Test.YteldfoplhcnljaaSo9
import Derived.Test.YteldfoplhcnljaaSo0
/- slices.Sort at numbers of 32 bits, of whatever length. -/
namespace Go.Proofs.Yteldfoplhcnljaa.Srt
open Go.ChangeShapes Go.WideShapes Go.ChangeAt Go.RowKit Go.IntWalk Go.Proofs.Mem
set_option linter.unusedVariables false
set_option maxRecDepth 100000 in
set_option maxHeartbeats 16000000 in
theorem pdq_any (m : Nat) : ∀ (w : World) (g n cap a b lim : Nat) (d : Array Int) (h : RA w g cap d) (hn : d.size = n) (h0 : n ≤ 1000000) (h1 : a ≤ b) (h2 : b ≤ n) (hB : Sort.Below lt a b d) (hm : b - a ≤ m) (hlim : lim ≤ 1000),
    Calls Try.prog 27 #[.slice (some ⟨g, 0, none⟩) n cap, .int .i64 a, .int .i64 b, .int .i64 lim] w fun e w' => e = .returned (.tuple #[]) ∧ (∃ d', RA w' g cap d' ∧ Sort.PermIn a b d d' ∧ Sort.SortedIn lt a b d') ∧ Fr (fun x => x = g) w w' := by
  refine Nat.strongRecOn m fun m ih => ?_
  intro w g n cap a b lim d h hn h0 h1 h2 hB hm hlim
  have IH := Lib.hid ih
  have HR := Lib.hid h
  have HI := Lib.hid (Srt0.Inv.start h1 (by omega) hB)
  have HN := Lib.hid (⟨hn, h0, h2, hm⟩ : d.size = n ∧ n ≤ 1000000 ∧ b ≤ n ∧ b - a ≤ m)
  have HL := Lib.hid hlim
  clear h hn h0 h1 h2 hB hm hlim ih
  go_enter Try.func27, Try.ntmps27
  go_wp2
  go_loopw [1, 2, 3, 8, 9] (fun s1 s2 s3 s8 s9 wr => ∃ (x y l : Nat) (p q : Bool) (ys : Array Int), s1 = .int .i64 x ∧ s2 = .int .i64 y ∧ s3 = .int .i64 l ∧ s8 = .bool p ∧ s9 = .bool q ∧ l ≤ 1000 ∧ Hid (RA wr g cap ys) ∧ Hid (Srt0.Inv a b d x y ys) ∧ Hid (Fr (fun x => x = g) w wr)) (fun s1 s2 _ _ _ _ => (intOf s2).toNat - (intOf s1).toNat)
  case atStart => exact ⟨a, b, lim, true, true, d, rfl, rfl, rfl, rfl, rfl, HL.out, HR, HI, Lib.hid (Fr.refl _ _)⟩
  case round =>
    obtain ⟨x, y, l, p, q, ys, rfl, rfl, rfl, rfl, rfl, hl, HO, HV, HF⟩ := hrel
    obtain ⟨w1, rfl⟩ : ∃ w1, w1 = wr := ⟨wr, rfl⟩
    clear HR HI HL
    have hsz : ys.size = n := by rw [HV.out.perm.1]; exact HN.out.1
    have hxy : a ≤ x ∧ x ≤ y ∧ y ≤ b ∧ b ≤ n := ⟨HV.out.h1, HV.out.h2, HV.out.h3, by have := HV.out.h4; omega⟩
    obtain ⟨L, hL⟩ : ∃ x', x' = y - x := ⟨_, rfl⟩
    have sL : (y : Int) - (x : Int) = (L : Int) := by omega
    have hn6 := HN.out.2.1
    have bx : (x : Int) ≤ 1000000 := by omega
    have by' : (y : Int) ≤ 1000000 := by omega
    have bl : (l : Int) ≤ 1000 := by omega
    have HX := Lib.hid (⟨hxy.1, hxy.2.1, hxy.2.2.1, hxy.2.2.2, hL, hsz, hn6⟩ : a ≤ x ∧ x ≤ y ∧ y ≤ b ∧ b ≤ n ∧ L = y - x ∧ ys.size = n ∧ n ≤ 1000000)
    clear hxy hsz hn6
    by_cases h12 : L ≤ 12
    · have d1 : decide ((L : Int) ≤ 12) = true := by simp; omega
      have d1' : decide (L ≤ 12) = true := by simp; omega
      have CL := Lib.hid (isort_any w1 g n cap x y ys HO.out HX.out.2.2.2.2.2.1 HX.out.2.2.2.2.2.2 (by have := HX.out; omega) (by have := HX.out; omega))
      obtain ⟨hp1, hp2⟩ := Sort.insertionSort_holds Sort.swo_ltInt ys x y (by have := HX.out; omega) (by have := HX.out; omega)
      have HP := Lib.hid (((HV.out.step hp1).done hp2))
      clear hp1 hp2 h12 hL hl
      go_wp2_with fail
      (with_reducible refine CL.out.mono ?_)
      rintro e w2 ⟨rfl, q2, q3⟩
      have Q2 := Lib.hid q2
      have Q3 := Lib.hid q3
      clear q2 q3
      go_wp2
      refine bodyPost_ret (results_none rfl _ _ _) rfl ?_
      exact ⟨rfl, ⟨_, Q2.out, HP.out.1, HP.out.2⟩, HF.out.trans Q3.out⟩
    · have d1 : decide ((L : Int) ≤ 12) = false := by simp; omega
      have d1' : decide (L ≤ 12) = false := by simp; omega
      have H12 := Lib.hid (show x + 12 < y by omega)
      clear h12 hL
      by_cases hl0 : l = 0
      · subst hl0
        have CL := Lib.hid (heap_any w1 g n cap x y ys HO.out HX.out.2.2.2.2.2.1 HX.out.2.2.2.2.2.2 (by have := H12.out; omega) (by have := HX.out; omega))
        obtain ⟨hp1, hp2⟩ := Sort.heapSort_holds Sort.swo_ltInt ys x y (by have := HX.out; omega) (by have := HX.out; omega)
        have HP := Lib.hid (((HV.out.step hp1).done hp2))
        clear hp1 hp2 hl
        go_wp2_with fail
        (with_reducible refine CL.out.mono ?_)
        rintro e w2 ⟨rfl, q2, q3⟩
        have Q2 := Lib.hid q2
        have Q3 := Lib.hid q3
        clear q2 q3
        go_wp2
        refine bodyPost_ret (results_none rfl _ _ _) rfl ?_
        exact ⟨rfl, ⟨_, Q2.out, HP.out.1, HP.out.2⟩, HF.out.trans Q3.out⟩
      · have d2 : decide ((l : Int) = 0) = false := by simp; omega
        have d2' : decide (l = 0) = false := by simp; omega
        have d2'' : ((l : Int) == 0) = false := by simp; omega
        obtain ⟨l', hl'⟩ : ∃ x', l = x' + 1 := ⟨l - 1, by omega⟩
        have sl : (l : Int) - 1 = (l' : Int) := by omega
        have HLL := Lib.hid (⟨hl, hl'⟩ : l ≤ 1000 ∧ l = l' + 1)
        clear hl hl' hl0
        go_upto_if 35 with fail
        go_cut [3] from 34 to 41 (fun s wx => ∃ (l2 : Nat) (zs : Array Int), s = .int .i64 l2 ∧ l2 ≤ 1000 ∧ Hid (RA wx g cap zs) ∧ Hid (Srt0.Inv a b d x y zs) ∧ Hid (Fr (fun x => x = g) w wx))
        case first =>
          cases p with
          | true =>
            go_wp2
            go_meet
            exact ⟨l, ys, rfl, HLL.out.1, HO, HV, HF⟩
          | false =>
            have CL := Lib.hid (brk_any w1 g n cap x y ys HO.out HX.out.2.2.2.2.2.1 HX.out.2.2.2.2.2.2 H12.out (by have := HX.out; omega))
            go_wp2_with fail
            (with_reducible refine CL.out.mono ?_)
            rintro e w2 ⟨rfl, ⟨zs, q1, q2⟩, q3⟩
            have Q1 := Lib.hid q1
            have Q2 := Lib.hid (HV.out.step q2)
            have Q3 := Lib.hid (HF.out.trans q3)
            clear q1 q2 q3
            go_wp2
            go_meet
            exact ⟨l', zs, rfl, by have := HLL.out; omega, Q1, Q2, Q3⟩
        case rest =>
          obtain ⟨l2, zs, rfl, hl2, HO2, HV2, HF2⟩ := hcut
          obtain ⟨w2, rfl⟩ : ∃ x', x' = wc := ⟨wc, rfl⟩
          clear HO HV HF sl HLL d2 d2' d2'' bl
          have HL2 := Lib.hid hl2
          have bl : (l2 : Int) ≤ 1000 := by omega
          clear hl2
          have HZ2 := Lib.hid (show zs.size = n by rw [HV2.out.perm.1]; exact HN.out.1)
          have CP := Lib.hid (pivot_any w2 g n cap x y zs HO2.out HZ2.out HX.out.2.2.2.2.2.2 H12.out (by have := HX.out; omega))
          go_wp2_with fail
          (with_reducible refine CP.out.mono ?_)
          rintro e w3 ⟨pv, t, rfl, HPV, HBW⟩
          have HO3 := Lib.hid (HO2.out.later HBW.out)
          have HF3 := Lib.hid (HF2.out.below HBW.out)
          go_upto_if 50 with fail
          go_cut [11, 12] from 49 to 60 (fun s u wx => ∃ (pv : Nat) (t : Int) (zs : Array Int), s = .int .i64 pv ∧ u = .int .i64 t ∧ x ≤ pv ∧ pv < y ∧ Hid (RA wx g cap zs) ∧ Hid (Srt0.Inv a b d x y zs) ∧ Hid (Fr (fun x => x = g) w wx))
          case first =>
            by_cases ht : t = 2
            · subst ht
              have CR := Lib.hid (rev_any w3 g n cap x y zs HO3.out HZ2.out HX.out.2.2.2.2.2.2 (by have := H12.out; omega) (by have := HX.out; omega))
              obtain ⟨y1, hy1⟩ : ∃ x', x' = y - 1 := ⟨_, rfl⟩
              obtain ⟨o, ho⟩ : ∃ x', x' = pv - x := ⟨_, rfl⟩
              obtain ⟨pv2, hpv2⟩ : ∃ x', x' = y1 - o := ⟨_, rfl⟩
              have t1 : (y : Int) - 1 = (y1 : Int) := by have := H12.out; omega
              have t2 : (pv : Int) - (x : Int) = (o : Int) := by have := HPV.out; omega
              have t3 : (y1 : Int) - (o : Int) = (pv2 : Int) := by have := HPV.out; omega
              have b1 : (pv : Int) ≤ 1000000 := by have := HPV.out; omega
              have b2 : (y1 : Int) ≤ 1000000 := by omega
              have b3 : (o : Int) ≤ 1000000 := by omega
              have b4 : (pv2 : Int) ≤ 1000000 := by omega
              have HPV2 := Lib.hid (show x ≤ pv2 ∧ pv2 < y by have := HPV.out; omega)
              clear hy1 ho hpv2
              go_wp2_with fail
              (with_reducible refine CR.out.mono ?_)
              rintro e w4 ⟨rfl, ⟨z4, q1, q2⟩, q3⟩
              have Q1 := Lib.hid q1
              have Q2 := Lib.hid (HV2.out.step q2)
              have Q3 := Lib.hid (HF3.out.trans q3)
              clear q1 q2 q3
              go_wp2
              go_meet
              exact ⟨pv2, 1, z4, rfl, rfl, HPV2.out.1, HPV2.out.2, Q1, Q2, Q3⟩
            · have n2 : decide (t = 2) = false := by simp; exact ht
              have n2' : (t == 2) = false := by simp; exact ht
              clear ht
              first | rw [n2] | rw [n2']
              go_wp2
              go_meet
              exact ⟨pv, t, zs, rfl, rfl, HPV.out.1, HPV.out.2, HO3, HV2, HF3⟩
          case rest =>
            obtain ⟨pv, t, z5, rfl, rfl, hpv1, hpv2, HO5, HV5, HF5⟩ := hcut
            obtain ⟨w5, rfl⟩ : ∃ x', x' = wc := ⟨wc, rfl⟩
            clear HO2 HV2 HF2 HZ2 CP HPV HBW HO3 HF3
            have HPV := Lib.hid (⟨hpv1, hpv2⟩ : x ≤ pv ∧ pv < y)
            have HZ5 := Lib.hid (show z5.size = n by rw [HV5.out.perm.1]; exact HN.out.1)
            clear hpv1 hpv2
            go_upto_region 15 with fail
            go_cut [68] from 61 to 68 (fun v wx => ∃ r : Bool, v = .bool r ∧ w5 = wx)
            case first =>
              by_cases h1 : t = 1
              · subst h1
                cases p <;> cases q <;> (go_wp2; go_meet; exact ⟨_, rfl, rfl⟩)
              · have n2 : decide (t = 1) = false := by simp; exact h1
                have n2' : (t == 1) = false := by simp; exact h1
                cases p <;> cases q <;> (go_wp2; go_meet; exact ⟨_, rfl, rfl⟩)
            case rest =>
              obtain ⟨r, rfl, rfl⟩ := hcut
              go_upto_if 68 with fail
              go_cut [] from 68 to 72 (fun wx => ∃ (zs : Array Int), Hid (RA wx g cap zs) ∧ Hid (Srt0.Inv a b d x y zs) ∧ Hid (Fr (fun x => x = g) w wx))
              case first =>
                cases r with
                | false =>
                  go_wp2
                  go_meet
                  exact ⟨z5, HO5, HV5, HF5⟩
                | true =>
                  have CL := Lib.hid (pins_any w5 g n cap x y z5 HO5.out HZ5.out HX.out.2.2.2.2.2.2 (by have := H12.out; omega) (by have := HX.out; omega))
                  obtain ⟨hp1, hp2⟩ := Sort.partialInsertionSort_holds Sort.swo_ltInt z5 x y (by have := H12.out; omega) (by have := HX.out; have := HZ5.out; omega) HV5.out.below
                  have HP1 := Lib.hid (HV5.out.step hp1)
                  have HP2 := Lib.hid hp2
                  clear hp1 hp2
                  obtain ⟨z6, r2, hzr⟩ : ∃ z6 r2, Sort.partialInsertionSort lt z5 x y = (z6, r2) := ⟨_, _, rfl⟩
                  have HP1' : Hid (Srt0.Inv a b d x y z6) := by have h := HP1.out; unfold lt at hzr; rw [hzr] at h; exact Lib.hid h
                  have HP2' : Hid (r2 = true → Sort.SortedIn lt x y z6) := by have h := HP2.out; unfold lt at hzr; rw [hzr] at h; exact Lib.hid h
                  rw [hzr] at CL
                  clear HP1 HP2 hzr
                  go_wp2_with fail
                  (with_reducible refine CL.out.mono ?_)
                  rintro e w6 ⟨rfl, q2, q3⟩
                  have Q2 := Lib.hid q2
                  have Q3 := Lib.hid (HF5.out.trans q3)
                  clear q2 q3
                  cases r2 with
                  | true =>
                    go_wp2
                    refine bodyPost_ret (results_none rfl _ _ _) rfl ?_
                    have HD := HP1'.out.done (HP2'.out (by trivial))
                    exact ⟨rfl, ⟨_, Q2.out, HD.1, HD.2⟩, Q3.out⟩
                  | false =>
                    go_wp2
                    go_meet
                    exact ⟨z6, Q2, HP1', Q3⟩
              case rest =>
                obtain ⟨z6, HO6, HV6, HF6⟩ := hcut
                obtain ⟨w6, rfl⟩ : ∃ x', x' = wc := ⟨wc, rfl⟩
                clear HO5 HV5 HF5 HZ5
                have HZ6 := Lib.hid (show z6.size = n by rw [HV6.out.perm.1]; exact HN.out.1)
                rename_i hK
                refine hK _ _ ?_
                go_upto_region 17 with fail
                go_cut [87] from 73 to 87 (fun v wx => ∃ r : Bool, v = .bool r ∧ Hid (r = true → 0 < x ∧ lt z6[x - 1]! z6[pv]! = false) ∧ Hid (RA wx g cap z6) ∧ Hid (Fr (fun x => x = g) w wx))
                case first =>
                  by_cases hx0 : 0 < x
                  · have e1 : decide ((0 : Int) < (x : Int)) = true := by simp; omega
                    have e1' : decide (0 < x) = true := by simp; omega
                    obtain ⟨x1, hx1⟩ : ∃ x', x = x' + 1 := ⟨x - 1, by omega⟩
                    have sx : (x : Int) - 1 = (x1 : Int) := by omega
                    have i0 : x1 < n := by have := HX.out; have := H12.out; omega
                    have i1 : pv < n := by have := HX.out; have := HPV.out; omega
                    have c0 := fun k => (HO6.out.drewN k).cell x1 (by have := HZ6.out; omega)
                    have c1 := fun k => (HO6.out.drewN k).cell pv (by have := HZ6.out; omega)
                    obtain ⟨u, hu⟩ : ∃ u, z6[x1]! = u := ⟨_, rfl⟩
                    obtain ⟨v, hv⟩ : ∃ v, z6[pv]! = v := ⟨_, rfl⟩
                    rw [hu] at c0
                    rw [hv] at c1
                    obtain ⟨r, hr⟩ : ∃ r, lt u v = r := ⟨_, rfl⟩
                    have HRR := Lib.hid (show (!r) = true → 0 < x ∧ lt z6[x - 1]! z6[pv]! = false by
                      intro e
                      rw [show x - 1 = x1 by omega, hu, hv, hr]
                      exact ⟨hx0, by simpa using e⟩)
                    have CL := less_as _ _ hr
                    clear hu hv hr hx1 hx0
                    go_quiet (first | (go_at_call 25; exact quiet_l (CL.out _)))
                    go_wp2
                    go_meet
                    exact ⟨_, rfl, HRR, Lib.hid (HO6.out.drewN _), Lib.hid (HF6.out.drewN _)⟩
                  · have e1 : decide ((0 : Int) < (x : Int)) = false := by simp; omega
                    have e1' : decide (0 < x) = false := by simp; omega
                    go_quiet (fail)
                    go_wp2
                    go_meet
                    exact ⟨false, rfl, Lib.hid (fun e => by cases e), Lib.hid (HO6.out.drewN _), Lib.hid (HF6.out.drewN _)⟩
                case rest =>
                  obtain ⟨r, rfl, HRR, HO7, HF7⟩ := hcut
                  obtain ⟨w7, rfl⟩ : ∃ x', x' = wc := ⟨wc, rfl⟩
                  clear HO6 HF6
                  cases r with
                  | true =>
                    have CL := Lib.hid (peq_any w7 g n cap x y pv z6 HO7.out HZ6.out HX.out.2.2.2.2.2.2 HPV.out.1 HPV.out.2 (by have := HX.out; omega))
                    obtain ⟨hv1, hv2⟩ := HV6.out.equal HPV.out.1 HPV.out.2 (HRR.out rfl).1 (HRR.out rfl).2
                    have HV8 := Lib.hid hv1
                    have HM := Lib.hid hv2
                    clear hv1 hv2
                    unfold lt at CL
                    generalize (Sort.partitionEqual Sort.ltInt z6 x y pv).1 = mid at *
                    generalize (Sort.partitionEqual Sort.ltInt z6 x y pv).2 = z8 at *
                    go_wp2_with fail
                    (with_reducible refine CL.out.mono ?_)
                    rintro e w8 ⟨rfl, q2, q3⟩
                    have Q2 := Lib.hid q2
                    have Q3 := Lib.hid (HF7.out.trans q3)
                    clear q2 q3
                    go_wp2
                    go_roundw
                    case rel => exact ⟨mid, y, l2, p, q, z8, rfl, rfl, rfl, rfl, rfl, HL2.out, Q2, HV8, Q3⟩
                    case measure => simp [intOf]; have := HM.out; have := HV8.out.h2; have := H12.out; omega
                  | false =>
                    have CL := Lib.hid (part_any w7 g n cap x y pv z6 HO7.out HZ6.out HX.out.2.2.2.2.2.2 HPV.out.1 HPV.out.2 (by have := HX.out; omega))
                    obtain ⟨hp1, hp2⟩ := Srt0.prt_of x y pv z6 HPV.out.1 HPV.out.2 (by have := HX.out; have := HZ6.out; omega)
                    have HV8 := Lib.hid (HV6.out.step hp1)
                    have HPP := Lib.hid hp2
                    clear hp1 hp2
                    unfold lt at CL
                    generalize (Sort.partition Sort.ltInt z6 x y pv).1 = mid at *
                    generalize (Sort.partition Sort.ltInt z6 x y pv).2.1 = ap at *
                    generalize (Sort.partition Sort.ltInt z6 x y pv).2.2 = z8 at *
                    go_wp2_with fail
                    (with_reducible refine CL.out.mono ?_)
                    rintro e w8 ⟨rfl, q2, q3⟩
                    have Q2 := Lib.hid q2
                    have Q3 := Lib.hid (HF7.out.trans q3)
                    have HZ8 := Lib.hid (show z8.size = n by rw [HV8.out.perm.1]; exact HN.out.1)
                    clear q2 q3
                    have hm1 := HPP.out.h1
                    have hm2 := HPP.out.h2
                    have hX := HX.out
                    have h12 := H12.out
                    obtain ⟨le, hle⟩ : ∃ x', x' = mid - x := ⟨_, rfl⟩
                    obtain ⟨ri, hri⟩ : ∃ x', x' = y - mid := ⟨_, rfl⟩
                    obtain ⟨th, hth⟩ : ∃ x', x' = L / 8 := ⟨_, rfl⟩
                    obtain ⟨m1, hm1'⟩ : ∃ x', x' = mid + 1 := ⟨_, rfl⟩
                    have t1 : (mid : Int) - (x : Int) = (le : Int) := by omega
                    have t2 : (y : Int) - (mid : Int) = (ri : Int) := by omega
                    have t3 : Int.tdiv (L : Int) 8 = (th : Int) := by rw [Int.tdiv_eq_ediv_of_nonneg (by omega)]; omega
                    have t4 : (mid : Int) + 1 = (m1 : Int) := by omega
                    have bm : (mid : Int) ≤ 1000000 := by omega
                    have b2 : (le : Int) ≤ 1000000 := by omega
                    have b3 : (ri : Int) ≤ 1000000 := by omega
                    have b4 : (th : Int) ≤ 1000000 := by omega
                    have b5 : (L : Int) ≤ 1000000 := by omega
                    have HK := Lib.hid (⟨hm1, hm2, hle, hri, hm1'⟩ : x ≤ mid ∧ mid < y ∧ le = mid - x ∧ ri = y - mid ∧ m1 = mid + 1)
                    have CA := Lib.hid (IH.out (mid - x) (by have := HN.out; omega) w8 g n cap x mid l2 z8 Q2.out HZ8.out hX.2.2.2.2.2.2 hm1 (by omega) (HV8.out.below.mono (by omega)) (Nat.le_refl _) HL2.out)
                    have CB := Lib.hid (IH.out (y - m1) (by have := HN.out; omega) w8 g n cap m1 y l2 z8 Q2.out HZ8.out hX.2.2.2.2.2.2 (by omega) (by omega) (by rw [hm1']; exact HPP.out.belowR) (Nat.le_refl _) HL2.out)
                    clear hm1 hm2 hX h12 hle hri hth hm1'
                    by_cases hlr : le < ri
                    · have d1 : decide ((le : Int) < (ri : Int)) = true := by simp; omega
                      have d1' : decide (le < ri) = true := by simp; omega
                      clear hlr
                      obtain ⟨p2, hp2⟩ : ∃ p2, decide ((th : Int) ≤ (le : Int)) = p2 := ⟨_, rfl⟩
                      go_wp2_with fail
                      (with_reducible refine CA.out.mono ?_)
                      rintro e w9 ⟨rfl, ⟨z9, q1, q2, q3⟩, q4⟩
                      have Q9 := Lib.hid q1
                      have HV9 := Lib.hid (show Srt0.Inv a b d m1 y z9 by rw [HK.out.2.2.2.2]; exact HV8.out.left HPP.out q2 q3)
                      have QF := Lib.hid (Q3.out.trans q4)
                      clear q1 q2 q3 q4
                      go_wp2
                      go_roundw
                      case rel => exact ⟨m1, y, l2, _, _, z9, rfl, rfl, rfl, rfl, rfl, HL2.out, Q9, HV9, QF⟩
                      case measure => simp [intOf]; have := HK.out; omega
                    · have d1 : decide ((le : Int) < (ri : Int)) = false := by simp; omega
                      have d1' : decide (le < ri) = false := by simp; omega
                      clear hlr
                      go_wp2_with fail
                      (with_reducible refine CB.out.mono ?_)
                      rintro e w9 ⟨rfl, ⟨z9, q1, q2, q3⟩, q4⟩
                      have Q9 := Lib.hid q1
                      have HV9 := Lib.hid (show Srt0.Inv a b d x mid z9 by rw [HK.out.2.2.2.2] at q2 q3; exact HV8.out.right HPP.out q2 q3)
                      have QF := Lib.hid (Q3.out.trans q4)
                      clear q1 q2 q3 q4
                      go_wp2
                      go_roundw
                      case rel => exact ⟨x, mid, l2, _, _, z9, rfl, rfl, rfl, rfl, rfl, HL2.out, Q9, HV9, QF⟩
                      case measure => simp [intOf]; have := HK.out; omega
set_option maxRecDepth 100000 in
theorem sort_any (w : World) (g n cap : Nat) (d : Array Int) (h : RA w g cap d) (hn : d.size = n) (h0 : n ≤ 1000000) :
    Calls Try.prog 24 #[.slice (some ⟨g, 0, none⟩) n cap] w fun e w' => e = .returned (.tuple #[]) ∧ (∃ d', RA w' g cap d' ∧ Sort.PermIn 0 n d d' ∧ Sort.SortedIn lt 0 n d') ∧ Fr (fun x => x = g) w w' := by
  have CL := Lib.hid (len_any n h0 w)
  have hk : bitLen n ≤ 20 := by
    by_cases e : n = 0
    · subst e; decide
    · exact (pow_facts n (by omega) h0).2.2
  have CP := Lib.hid (pdq_any n w g n cap 0 n (bitLen n) d h hn h0 (Nat.zero_le _) (Nat.le_refl _) (.inl rfl) (by omega) (by omega))
  generalize bitLen n = k at *
  have cw : IntKind.u64.wrap (n : Int) = n := by rw [IntKind.wrap_u64]; omega
  clear h hn h0 hk
  go_enter Try.func24, Try.ntmps24
  go_wp2_with (first
    | (go_at_call 28; (with_reducible refine CL.out.mono ?_); rintro e w1 ⟨rfl, rfl⟩)
    | (go_at_call 27; (refine CP.out.mono ?_); rintro e w2 ⟨rfl, h2, h3⟩; have H2 := Lib.hid h2; have H3 := Lib.hid h3; clear h2 h3))
  go_end0
  exact ⟨rfl, H2.out, H3.out⟩
end Go.Proofs.Yteldfoplhcnljaa.Srt
