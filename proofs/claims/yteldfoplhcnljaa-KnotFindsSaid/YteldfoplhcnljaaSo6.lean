import Derived.Test.YteldfoplhcnljaaSo5
import Derived.Deep.CutRange
import Derived.Deep.CutBlock
/- Those that are as great as the pivot are put in front. -/
namespace Go.Proofs.Yteldfoplhcnljaa.Srt
open Go.ChangeShapes Go.WideShapes Go.ChangeAt Go.RowKit Go.IntWalk Go.Proofs.Mem
set_option linter.unusedVariables false
set_option maxRecDepth 100000 in
set_option maxHeartbeats 8000000 in
theorem peq_any (w : World) (g n cap a b p : Nat) (d : Array Int) (h : RA w g cap d) (hn : d.size = n) (h0 : n ≤ 1000000) (h1 : a ≤ p) (h2 : p < b) (h3 : b ≤ n) :
    Calls Try.prog 36 #[.slice (some ⟨g, 0, none⟩) n cap, .int .i64 a, .int .i64 b, .int .i64 p] w fun e w' => e = .returned (.int .i64 (Sort.partitionEqual lt d a b p).1) ∧ RA w' g cap (Sort.partitionEqual lt d a b p).2 ∧ Fr (fun x => x = g) w w' := by
  have HR := Lib.hid h
  have HN := Lib.hid hn
  have HF := Lib.hid (Fr.refl (fun x => x = g) w)
  obtain ⟨m, zf, hmz⟩ : ∃ m zf, Sort.partitionEqual lt d a b p = (m, zf) := ⟨_, _, rfl⟩
  rw [hmz]
  obtain ⟨ys, hys⟩ : ∃ ys, ys = Sort.swp d a p := ⟨_, rfl⟩
  obtain ⟨a1, ha1⟩ : ∃ x, x = a + 1 := ⟨_, rfl⟩
  obtain ⟨b1, hb1⟩ : ∃ x, x = b - 1 := ⟨_, rfl⟩
  have HMZ := Lib.hid (show Sort.partEqLoop lt a a1 b1 ys = (m, zf) by rw [← hmz, hys, ha1, hb1]; rfl)
  have s1 : (a : Int) + 1 = (a1 : Int) := by omega
  have s2 : (b : Int) - 1 = (b1 : Int) := by omega
  have ba : (a : Int) ≤ 1000000 := by omega
  have bb : (b : Int) ≤ 1000000 := by omega
  have in1 : a < n := by omega
  have in2 : p < n := by omega
  have HB := Lib.hid (⟨h0, h1, h2, h3, ha1, hb1⟩ : n ≤ 1000000 ∧ a ≤ p ∧ p < b ∧ b ≤ n ∧ a1 = a + 1 ∧ b1 = b - 1)
  have HYS := Lib.hid hys
  have HZ5 := Lib.hid (show ys.size = n by rw [hys, Sort.swp_size]; exact hn)
  clear h hn hmz hys h0 h1 h2 h3 ha1 hb1
  go_enter Try.func36, Try.ntmps36
  have c0 := HR.out.cell a (by have := HN.out; omega)
  have c1 := HR.out.cell p (by have := HN.out; omega)
  obtain ⟨x, hx⟩ : ∃ x, d[a]! = x := ⟨_, rfl⟩
  obtain ⟨y, hy⟩ : ∃ y, d[p]! = y := ⟨_, rfl⟩
  rw [hx] at c0
  rw [hy] at c1
  have HXX := Lib.hid hx
  have HYY := Lib.hid hy
  have f0 := HR.out.frozen a
  have f1 := HR.out.frozen p
  have c2 := (HR.out.set_ a y).cell p (by rw [Array.size_setIfInBounds]; have := HN.out; omega)
  have f2 := (HR.out.set_ a y).frozen p
  generalize (d.setIfInBounds a y)[p]! = v2 at c2
  clear hx hy
  go_upto_region 1 with fail
  go_region
  have HO1 := Lib.hid (show RA ((w.setCell ⟨g, a, none⟩ (.int .u32 y)).setCell ⟨g, p, none⟩ (.int .u32 x)) g cap ys by rw [HYS.out, ← HXX.out, ← HYY.out]; exact HR.out.swp a p)
  have HF1 := Lib.hid (show Fr (fun x => x = g) w ((w.setCell ⟨g, a, none⟩ (.int .u32 y)).setCell ⟨g, p, none⟩ (.int .u32 x)) from fr_swp HF.out)
  clear c0 c1 f0 f1 c2 f2 HR
  go_wp2
  have HO6 := Lib.hid HO1.out.drew
  have HF6 := Lib.hid HF1.out.drew
  clear HO1 HF1 HXX HYY HYS HN HF
  generalize World.drew _ = w2 at *
  go_loopw [9, 10] (fun s t wr => ∃ (i j : Nat) (zs : Array Int), a < i ∧ i ≤ j + 2 ∧ j < b ∧ i ≤ b + 1 ∧ s = .int .i64 i ∧ t = .int .i64 j ∧ Hid (RA wr g cap zs) ∧ Hid (zs.size = n) ∧ Hid (Sort.partEqLoop lt a i j zs = (m, zf)) ∧ Hid (Fr (fun x => x = g) w wr)) (fun s t _ => (intOf t).toNat + 2 - (intOf s).toNat)
  case atStart => exact ⟨a1, b1, ys, by have := HB.out; omega, by have := HB.out; omega, by have := HB.out; omega, by have := HB.out; omega, rfl, rfl, HO6, HZ5, HMZ, HF6⟩
  case round =>
    obtain ⟨i, j, zs, hi1, hi2, hj, hi3, rfl, rfl, HO7, HZ, HE7, HF7⟩ := hrel
    obtain ⟨w7, rfl⟩ : ∃ w7, w7 = wr := ⟨wr, rfl⟩
    clear HO6 HZ5 HMZ HF6
    have bi : (i : Int) ≤ 1000002 := by have := HB.out; omega
    have bj : (j : Int) ≤ 1000000 := by have := HB.out; omega
    obtain ⟨I2, hI2⟩ : ∃ I, Sort.scanUp (fun x => !lt zs[a]! x) zs j i = I := ⟨_, rfl⟩
    obtain ⟨J2, hJ2⟩ : ∃ J, Sort.scanDown (fun x => lt zs[a]! x) zs I2 j = J := ⟨_, rfl⟩
    have HS1 := Lib.hid hI2
    have HS2 := Lib.hid hJ2
    have HPL := Lib.hid (show (if I2 > J2 then (I2, zs) else Sort.partEqLoop lt a (I2 + 1) (J2 - 1) (Sort.swp zs I2 J2)) = (m, zf) by have h := Sort.partEqLoop_eq lt a i j zs; rw [hI2, hJ2] at h; exact h.symm.trans HE7.out)
    clear hI2 hJ2 HE7
    go_upto_block 2 with fail
    go_cut [9] from 29 to 45 (fun s wx => s = .int .i64 I2 ∧ i ≤ I2 ∧ I2 ≤ j + 2 ∧ Hid (RA wx g cap zs) ∧ Hid (Fr (fun x => x = g) w wx))
    case first =>
      go_wp2_with fail
      go_loopw [9] (fun s wr => ∃ k : Nat, i ≤ k ∧ k ≤ j + 2 ∧ s = .int .i64 k ∧ Hid (RA wr g cap zs) ∧ Hid (Sort.scanUp (fun x => !lt zs[a]! x) zs j k = I2) ∧ Hid (Fr (fun x => x = g) w wr)) (fun s _ => j + 2 - (intOf s).toNat)
      case atStart => exact ⟨i, by omega, by omega, rfl, HO7, HS1, HF7⟩
      case round =>
        obtain ⟨k, hk1, hk2, rfl, HO', HE, HF'⟩ := hrel
        obtain ⟨wv, rfl⟩ : ∃ wv, wv = wr := ⟨wr, rfl⟩
        have bk : (k : Int) ≤ 1000002 := by have := HB.out; omega
        by_cases hl : k ≤ j
        · have d1 : decide ((k : Int) ≤ (j : Int)) = true := by simp; omega
          have d2 : decide (k ≤ j) = true := by simp; omega
          obtain ⟨k', hk'⟩ : ∃ k', k' = k + 1 := ⟨k + 1, rfl⟩
          have sk : (k : Int) + 1 = (k' : Int) := by omega
          have i1 : k < n := by have := HB.out; omega
          have i0 : a < n := by have := HB.out; omega
          have ca := HO'.out.cell a (by have := HZ.out; omega)
          have ck := HO'.out.cell k (by have := HZ.out; omega)
          obtain ⟨x, hx⟩ : ∃ x, zs[k]! = x := ⟨_, rfl⟩
          obtain ⟨pv, hpv⟩ : ∃ x, zs[a]! = x := ⟨_, rfl⟩
          rw [hx] at ck
          rw [hpv] at ca
          have HXX := Lib.hid hx
          have HPV := Lib.hid hpv
          have HK := Lib.hid (⟨hk', hk1, hk2, hl⟩ : k' = k + 1 ∧ i ≤ k ∧ k ≤ j + 2 ∧ k ≤ j)
          obtain ⟨q, hq⟩ : ∃ q, lt pv x = q := ⟨_, rfl⟩
          have HQ := Lib.hid hq
          clear hx hpv hk' hk1 hk2 hl
          cases q with
          | false =>
            have CL := less_as _ _ hq
            clear hq
            go_upto_region 3 with fail
            go_quiet (first | (go_at_call 25; exact quiet_l (CL.out _)))
            go_wp2
            go_roundw
            case rel => exact ⟨k', by have := HK.out; omega, by have := HK.out; omega, rfl, Lib.hid (HO'.out.drewN _), Lib.hid ((up_go HK.out.1.symm (by have := HK.out; omega) (by have h1 := HXX.out; have h2 := HPV.out; have h3 := HQ.out; show (!lt zs[a]! zs[k]!) = true; rw [h1, h2, h3] <;> rfl)).symm.trans HE.out), Lib.hid (HF'.out.drewN _)⟩
            case measure => simp [intOf]; have := HK.out; omega
          | true =>
            have CL := less_as _ _ hq
            clear hq
            have e1 := Lib.hid (show k = I2 by rw [← HE.out, up_no (by have h1 := HXX.out; have h2 := HPV.out; have h3 := HQ.out; show (!lt zs[a]! zs[k]!) = false; rw [h1, h2, h3] <;> rfl)])
            go_upto_region 3 with fail
            go_quiet (first | (go_at_call 25; exact quiet_l (CL.out _)))
            go_wp2
            go_meet
            exact ⟨by rw [e1.out], by have := e1.out; have := HK.out; omega, by have := e1.out; have := HK.out; omega, Lib.hid (HO'.out.drewN _), Lib.hid (HF'.out.drewN _)⟩
        · have d1 : decide ((k : Int) ≤ (j : Int)) = false := by simp; omega
          have d2 : decide (k ≤ j) = false := by simp; omega
          have e1 := Lib.hid (show k = I2 by rw [← HE.out, up_end hl])
          have HK := Lib.hid (⟨hk1, hk2⟩ : i ≤ k ∧ k ≤ j + 2)
          clear hk1 hk2 hl
          go_upto_region 3 with fail
          go_quiet (fail)
          go_wp2
          go_meet
          exact ⟨by rw [e1.out], by have := e1.out; have := HK.out; omega, by have := e1.out; have := HK.out; omega, Lib.hid (HO'.out.drewN _), Lib.hid (HF'.out.drewN _)⟩
    case rest =>
      obtain ⟨rfl, hI1, hI2, HO3, HF3⟩ := hcut
      obtain ⟨w3, rfl⟩ : ∃ x, x = wc := ⟨wc, rfl⟩
      clear HS1
      go_upto_block 4 with fail
      go_cut [10] from 46 to 61 (fun s wx => s = .int .i64 J2 ∧ I2 ≤ J2 + 2 ∧ J2 ≤ j ∧ Hid (RA wx g cap zs) ∧ Hid (Fr (fun x => x = g) w wx))
      case first =>
        go_wp2_with fail
        go_loopw [10] (fun s wr => ∃ k : Nat, I2 ≤ k + 2 ∧ k ≤ j ∧ s = .int .i64 k ∧ Hid (RA wr g cap zs) ∧ Hid (Sort.scanDown (fun x => lt zs[a]! x) zs I2 k = J2) ∧ Hid (Fr (fun x => x = g) w wr)) (fun s _ => (intOf s).toNat)
        case atStart => exact ⟨j, by omega, by omega, rfl, HO3, HS2, HF3⟩
        case round =>
          obtain ⟨k, hk1, hk2, rfl, HO', HE, HF'⟩ := hrel
          obtain ⟨wv, rfl⟩ : ∃ wv, wv = wr := ⟨wr, rfl⟩
          have bk : (k : Int) ≤ 1000002 := by have := HB.out; omega
          by_cases hl : I2 ≤ k
          · have d1 : decide ((I2 : Int) ≤ (k : Int)) = true := by simp; omega
            have d2 : decide (I2 ≤ k) = true := by simp; omega
            obtain ⟨k', hk'⟩ : ∃ k', k = k' + 1 := ⟨k - 1, by omega⟩
            have sk : (k : Int) - 1 = (k' : Int) := by omega
            have i1 : k < n := by have := HB.out; omega
            have i0 : a < n := by have := HB.out; omega
            have ca := HO'.out.cell a (by have := HZ.out; omega)
            have ck := HO'.out.cell k (by have := HZ.out; omega)
            obtain ⟨x, hx⟩ : ∃ x, zs[k]! = x := ⟨_, rfl⟩
            obtain ⟨pv, hpv⟩ : ∃ x, zs[a]! = x := ⟨_, rfl⟩
            rw [hx] at ck
            rw [hpv] at ca
            have HXX := Lib.hid hx
            have HPV := Lib.hid hpv
            have HK := Lib.hid (⟨hk', hk1, hk2, hl⟩ : k = k' + 1 ∧ I2 ≤ k + 2 ∧ k ≤ j ∧ I2 ≤ k)
            obtain ⟨q, hq⟩ : ∃ q, lt pv x = q := ⟨_, rfl⟩
            have HQ := Lib.hid hq
            clear hx hpv hk' hk1 hk2 hl
            cases q with
            | true =>
              have CL := less_as _ _ hq
              clear hq
              go_upto_region 5 with fail
              go_quiet (first | (go_at_call 25; exact quiet_l (CL.out _)))
              go_wp2
              go_roundw
              case rel => exact ⟨k', by have := HK.out; omega, by have := HK.out; omega, rfl, Lib.hid (HO'.out.drewN _), Lib.hid ((dn_go HK.out.1 (by have := HK.out; omega) (by have h1 := HXX.out; have h2 := HPV.out; have h3 := HQ.out; show (lt zs[a]! zs[k]!) = true; rw [h1, h2, h3] <;> rfl)).symm.trans HE.out), Lib.hid (HF'.out.drewN _)⟩
              case measure => simp [intOf]; have := HK.out; omega
            | false =>
              have CL := less_as _ _ hq
              clear hq
              have e1 := Lib.hid (show k = J2 by rw [← HE.out, dn_no (by have h1 := HXX.out; have h2 := HPV.out; have h3 := HQ.out; show (lt zs[a]! zs[k]!) = false; rw [h1, h2, h3] <;> rfl)])
              go_upto_region 5 with fail
              go_quiet (first | (go_at_call 25; exact quiet_l (CL.out _)))
              go_wp2
              go_meet
              exact ⟨by rw [e1.out], by have := e1.out; have := HK.out; omega, by have := e1.out; have := HK.out; omega, Lib.hid (HO'.out.drewN _), Lib.hid (HF'.out.drewN _)⟩
          · have d1 : decide ((I2 : Int) ≤ (k : Int)) = false := by simp; omega
            have d2 : decide (I2 ≤ k) = false := by simp; omega
            have e1 := Lib.hid (show k = J2 by rw [← HE.out, dn_end hl])
            have HK := Lib.hid (⟨hk1, hk2⟩ : I2 ≤ k + 2 ∧ k ≤ j)
            clear hk1 hk2 hl
            go_upto_region 5 with fail
            go_quiet (fail)
            go_wp2
            go_meet
            exact ⟨by rw [e1.out], by have := e1.out; have := HK.out; omega, by have := e1.out; have := HK.out; omega, Lib.hid (HO'.out.drewN _), Lib.hid (HF'.out.drewN _)⟩
      case rest =>
        obtain ⟨rfl, hJ1, hJ2, HO4, HF4⟩ := hcut
        obtain ⟨w4, rfl⟩ : ∃ x, x = wc := ⟨wc, rfl⟩
        clear HS2 HO3 HF3
        have bI : (I2 : Int) ≤ 1000002 := by have := HB.out; omega
        have bJ : (J2 : Int) ≤ 1000002 := by have := HB.out; omega
        have iJ : J2 < n := by have := HB.out; omega
        by_cases hl : J2 < I2
        · have d1 : decide ((J2 : Int) < (I2 : Int)) = true := by simp; omega
          have d2 : decide (J2 < I2) = true := by simp; omega
          have hRR : (I2, zs) = (m, zf) := by rw [← HPL.out, if_pos hl]
          clear HPL
          injection hRR with e1 e2
          subst e1 e2
          go_wp2
          go_ret
          exact ⟨rfl, HO4.out, HF4.out⟩
        · have d1 : decide ((J2 : Int) < (I2 : Int)) = false := by simp; omega
          have d2 : decide (J2 < I2) = false := by simp; omega
          have HPM := Lib.hid (show Sort.partEqLoop lt a (I2 + 1) (J2 - 1) (Sort.swp zs I2 J2) = (m, zf) by rw [← HPL.out, if_neg hl])
          obtain ⟨I', hI'⟩ : ∃ x, x = I2 + 1 := ⟨_, rfl⟩
          obtain ⟨J', hJ'⟩ : ∃ x, x = J2 - 1 := ⟨_, rfl⟩
          rw [← hI', ← hJ'] at HPM
          have sI : (I2 : Int) + 1 = (I' : Int) := by omega
          have sJ : (J2 : Int) - 1 = (J' : Int) := by omega
          have iI : I2 < n := by have := HB.out; omega
          have HIJ := Lib.hid (⟨hI', hJ', hl, hI1, hI2, hJ1, hJ2, hi1, hi2, hj⟩ : I' = I2 + 1 ∧ J' = J2 - 1 ∧ ¬ J2 < I2 ∧ i ≤ I2 ∧ I2 ≤ j + 2 ∧ I2 ≤ J2 + 2 ∧ J2 ≤ j ∧ a < i ∧ i ≤ j + 2 ∧ j < b)
          clear hI' hJ' hl hI1 hI2 hJ1 hJ2 HPL
          have c0 := HO4.out.cell I2 (by have := HZ.out; omega)
          have c1 := HO4.out.cell J2 (by have := HZ.out; omega)
          obtain ⟨x, hx⟩ : ∃ x, zs[I2]! = x := ⟨_, rfl⟩
          obtain ⟨y, hy⟩ : ∃ y, zs[J2]! = y := ⟨_, rfl⟩
          rw [hx] at c0
          rw [hy] at c1
          have HXX := Lib.hid hx
          have HYY := Lib.hid hy
          have f0 := HO4.out.frozen I2
          have f1 := HO4.out.frozen J2
          have c2 := (HO4.out.set_ I2 y).cell J2 (by rw [Array.size_setIfInBounds]; have := HZ.out; omega)
          have f2 := (HO4.out.set_ I2 y).frozen J2
          generalize (zs.setIfInBounds I2 y)[J2]! = v2 at c2
          clear hx hy
          go_upto_region 8 with fail
          go_region
          go_wp2
          go_roundw
          case rel => exact ⟨I', J', Sort.swp zs I2 J2, by have := HIJ.out; omega, by have := HIJ.out; omega, by have := HIJ.out; omega, by have := HIJ.out; omega, rfl, rfl, Lib.hid (by rw [← HXX.out, ← HYY.out]; exact (HO4.out.swp I2 J2).drew), Lib.hid (by rw [Sort.swp_size]; exact HZ.out), HPM, Lib.hid (fr_swp HF4.out).drew⟩
          case measure => simp [intOf]; have := HIJ.out; omega
end Go.Proofs.Yteldfoplhcnljaa.Srt
