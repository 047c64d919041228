import Derived.Test.YtpndcpmfcajmdaaLn1
import Derived.Test.YtpndcpmfcajmdaaLn2
import Derived.Deep.CutBlock
import Derived.Deep.CutRange
import Derived.Laws.BitsAllLaws
namespace Go.Proofs.Ytpndcpmfcajmdaa.Srt
open Go.ChangeShapes Go.WideShapes Go.ChangeAt Go.RowKit Go.IntWalk Go.Proofs.Mem
set_option linter.unusedVariables false
theorem up_go {p : Int → Bool} {d : Array Int} {i j i' : Nat} (e : i + 1 = i') (h : i ≤ j) (hp : p d[i]! = true) : Sort.scanUp p d j i = Sort.scanUp p d j i' := by
  subst e; rw [Sort.scanUp, if_pos (by simp [hp, h])]
theorem up_no {p : Int → Bool} {d : Array Int} {i j : Nat} (hp : p d[i]! = false) : Sort.scanUp p d j i = i := by
  rw [Sort.scanUp, if_neg (by simp [hp])]
theorem up_end {p : Int → Bool} {d : Array Int} {i j : Nat} (h : ¬ i ≤ j) : Sort.scanUp p d j i = i := by
  rw [Sort.scanUp, if_neg (by simp; intro h1; omega)]
theorem dn_go {p : Int → Bool} {d : Array Int} {i j j' : Nat} (e : j = j' + 1) (h : i ≤ j) (hp : p d[j]! = true) : Sort.scanDown p d i j = Sort.scanDown p d i j' := by
  subst e; rw [Sort.scanDown, if_pos (by simp [hp, h])]
theorem dn_no {p : Int → Bool} {d : Array Int} {i j : Nat} (hp : p d[j]! = false) : Sort.scanDown p d i j = j := by
  cases j with
  | zero => rfl
  | succ j => rw [Sort.scanDown, if_neg (by simp [hp])]
theorem dn_end {p : Int → Bool} {d : Array Int} {i j : Nat} (h : ¬ i ≤ j) : Sort.scanDown p d i j = j := by
  cases j with
  | zero => rfl
  | succ j => rw [Sort.scanDown, if_neg (by simp; intro h1; omega)]
set_option maxRecDepth 100000 in
set_option maxHeartbeats 8000000 in
theorem part_any (w : World) (g n cap a b p : Nat) (d : Array Int) (h : RA w g cap d) (hn : d.size = n) (h0 : n ≤ 1000000) (h1 : a ≤ p) (h2 : p < b) (h3 : b ≤ n) :
    Calls Try.prog 70 #[.slice (some ⟨g, 0, none⟩) n cap, .int .i64 a, .int .i64 b, .int .i64 p] w fun e w' => e = .returned (.tuple #[.int .i64 (Sort.partition lt d a b p).1, .bool (Sort.partition lt d a b p).2.1]) ∧ RA w' g cap (Sort.partition lt d a b p).2.2 ∧ Fr (fun x => x = g) w w' := by
  have HR := Lib.hid h
  have HN := Lib.hid hn
  have HF := Lib.hid (Fr.refl (fun x => x = g) w)
  obtain ⟨R, hR⟩ : ∃ R, Sort.partition lt d a b p = R := ⟨_, rfl⟩
  rw [hR]
  obtain ⟨ys, hys⟩ : ∃ ys, ys = Sort.swp d a p := ⟨_, rfl⟩
  obtain ⟨a1, ha1⟩ : ∃ x, x = a + 1 := ⟨_, rfl⟩
  obtain ⟨b1, hb1⟩ : ∃ x, x = b - 1 := ⟨_, rfl⟩
  obtain ⟨I, hI⟩ : ∃ I, Sort.scanUp (fun x => lt x ys[a]!) ys b1 a1 = I := ⟨_, rfl⟩
  obtain ⟨J, hJ⟩ : ∃ J, Sort.scanDown (fun x => !lt x ys[a]!) ys I b1 = J := ⟨_, rfl⟩
  have HS1 := Lib.hid hI
  have HS2 := Lib.hid hJ
  have HRR := Lib.hid (show (if I > J then (J, true, Sort.swp ys J a) else ((Sort.partLoop lt a (I + 1) (J - 1) (Sort.swp ys I J)).1, false, Sort.swp (Sort.partLoop lt a (I + 1) (J - 1) (Sort.swp ys I J)).2 (Sort.partLoop lt a (I + 1) (J - 1) (Sort.swp ys I J)).1 a)) = R by
    rw [← hR, ← hJ, ← hI, hys, ha1, hb1]; rfl)
  have s1 : (a : Int) + 1 = (a1 : Int) := by omega
  have s2 : (b : Int) - 1 = (b1 : Int) := by omega
  have ba : (a : Int) ≤ 1000000 := by omega
  have bb : (b : Int) ≤ 1000000 := by omega
  have in1 : a < n := by omega
  have in2 : p < n := by omega
  have HB := Lib.hid (⟨h0, h1, h2, h3, ha1, hb1⟩ : n ≤ 1000000 ∧ a ≤ p ∧ p < b ∧ b ≤ n ∧ a1 = a + 1 ∧ b1 = b - 1)
  have hab : a1 ≤ b1 + 1 := by omega
  have HYS := Lib.hid hys
  have HZ := Lib.hid (show ys.size = n by rw [hys, Sort.swp_size]; exact hn)
  clear h hn hR hys hI hJ h0 h1 h2 h3 ha1 hb1
  go_enter Try.func70, Try.ntmps70
  have c0 := HR.out.cell a (by have := HN.out; omega)
  have c1 := HR.out.cell p (by have := HN.out; omega)
  obtain ⟨x, hx⟩ : ∃ x, d[a]! = x := ⟨_, rfl⟩
  obtain ⟨y, hy⟩ : ∃ y, d[p]! = y := ⟨_, rfl⟩
  rw [hx] at c0
  rw [hy] at c1
  have HXX := Lib.hid hx
  have HYY := Lib.hid hy
  have f0 := HR.out.frozen a
  have f1 := HR.out.frozen p
  have c2 := (HR.out.set_ a y).cell p (by rw [Array.size_setIfInBounds]; have := HN.out; omega)
  have f2 := (HR.out.set_ a y).frozen p
  generalize (d.setIfInBounds a y)[p]! = v2 at c2
  clear hx hy
  go_upto_region 1 with fail
  go_region
  have HO1 := Lib.hid (show RA ((w.setCell ⟨g, a, none⟩ (.int .u32 y)).setCell ⟨g, p, none⟩ (.int .u32 x)) g cap ys by rw [HYS.out, ← HXX.out, ← HYY.out]; exact HR.out.swp a p)
  have HF1 := Lib.hid (show Fr (fun x => x = g) w ((w.setCell ⟨g, a, none⟩ (.int .u32 y)).setCell ⟨g, p, none⟩ (.int .u32 x)) from fr_swp HF.out)
  clear c0 c1 f0 f1 c2 f2 HR
  go_upto_block 0 with fail
  have HO2 := Lib.hid HO1.out.drew
  have HF2 := Lib.hid HF1.out.drew
  clear HO1 HF1
  generalize World.drew _ = w2 at *
  go_cut [10] from 30 to 45 (fun s wx => s = .int .i64 I ∧ a1 ≤ I ∧ I ≤ b1 + 2 ∧ Hid (RA wx g cap ys) ∧ Hid (Fr (fun x => x = g) w wx))
  case first =>
    go_wp2_with fail
    go_loopw [10] (fun s wr => ∃ k : Nat, a1 ≤ k ∧ k ≤ b1 + 2 ∧ s = .int .i64 k ∧ Hid (RA wr g cap ys) ∧ Hid (Sort.scanUp (fun x => lt x ys[a]!) ys b1 k = I) ∧ Hid (Fr (fun x => x = g) w wr)) (fun s _ => b1 + 2 - (intOf s).toNat)
    case atStart => exact ⟨a1, by omega, by omega, rfl, HO2, HS1, HF2⟩
    case round =>
      obtain ⟨k, hk1, hk2, rfl, HO', HE, HF'⟩ := hrel
      obtain ⟨wv, rfl⟩ : ∃ wv, wv = wr := ⟨wr, rfl⟩
      have bk : (k : Int) ≤ 1000002 := by have := HB.out; omega
      by_cases hl : k ≤ b1
      · have d1 : decide ((k : Int) ≤ (b1 : Int)) = true := by simp; omega
        have d2 : decide (k ≤ b1) = true := by simp; omega
        obtain ⟨k', hk'⟩ : ∃ k', k' = k + 1 := ⟨k + 1, rfl⟩
        have sk : (k : Int) + 1 = (k' : Int) := by omega
        have i1 : k < n := by have := HB.out; omega
        have i0 : a < n := by have := HB.out; omega
        have ca := HO'.out.cell a (by have := HZ.out; omega)
        have ck := HO'.out.cell k (by have := HZ.out; omega)
        obtain ⟨x, hx⟩ : ∃ x, ys[k]! = x := ⟨_, rfl⟩
        obtain ⟨pv, hpv⟩ : ∃ x, ys[a]! = x := ⟨_, rfl⟩
        rw [hx] at ck
        rw [hpv] at ca
        have HXX := Lib.hid hx
        have HPV := Lib.hid hpv
        have HK := Lib.hid (⟨hk', hk1, hk2, hl⟩ : k' = k + 1 ∧ a1 ≤ k ∧ k ≤ b1 + 2 ∧ k ≤ b1)
        obtain ⟨q, hq⟩ : ∃ q, lt x pv = q := ⟨_, rfl⟩
        have HQ := Lib.hid hq
        clear hx hpv hk' hk1 hk2 hl
        cases q with
        | true =>
          have CL := less_as _ _ hq
          clear hq
          go_upto_region 3 with fail
          go_quiet (first | (go_at_call 68; exact quiet_l (CL.out _)))
          go_wp2
          go_roundw
          case rel => exact ⟨k', by have := HK.out; omega, by have := HK.out; omega, rfl, Lib.hid (HO'.out.drewN _), Lib.hid ((up_go HK.out.1.symm (by have := HK.out; omega) (by have h1 := HXX.out; have h2 := HPV.out; have h3 := HQ.out; show (lt ys[k]! ys[a]!) = true; rw [h1, h2, h3] <;> rfl)).symm.trans HE.out), Lib.hid (HF'.out.drewN _)⟩
          case measure => simp [intOf]; have := HK.out; omega
        | false =>
          have CL := less_as _ _ hq
          clear hq
          have e1 := Lib.hid (show k = I by rw [← HE.out, up_no (by have h1 := HXX.out; have h2 := HPV.out; have h3 := HQ.out; show (lt ys[k]! ys[a]!) = false; rw [h1, h2, h3] <;> rfl)])
          go_upto_region 3 with fail
          go_quiet (first | (go_at_call 68; exact quiet_l (CL.out _)))
          go_wp2
          go_meet
          exact ⟨by rw [e1.out], by have := e1.out; have := HK.out; omega, by have := e1.out; have := HK.out; omega, Lib.hid (HO'.out.drewN _), Lib.hid (HF'.out.drewN _)⟩
      · have d1 : decide ((k : Int) ≤ (b1 : Int)) = false := by simp; omega
        have d2 : decide (k ≤ b1) = false := by simp; omega
        have e1 := Lib.hid (show k = I by rw [← HE.out, up_end hl])
        have HK := Lib.hid (⟨hk1, hk2⟩ : a1 ≤ k ∧ k ≤ b1 + 2)
        clear hk1 hk2 hl
        go_upto_region 3 with fail
        go_quiet (fail)
        go_wp2
        go_meet
        exact ⟨by rw [e1.out], by have := e1.out; have := HK.out; omega, by have := e1.out; have := HK.out; omega, Lib.hid (HO'.out.drewN _), Lib.hid (HF'.out.drewN _)⟩
  case rest =>
    obtain ⟨rfl, hI1, hI2, HO3, HF3⟩ := hcut
    obtain ⟨w3, rfl⟩ : ∃ x, x = wc := ⟨wc, rfl⟩
    clear HS1 HO2 HF2
    go_upto_block 2 with fail
    go_cut [11] from 46 to 62 (fun s wx => s = .int .i64 J ∧ I ≤ J + 2 ∧ J ≤ b1 ∧ Hid (RA wx g cap ys) ∧ Hid (Fr (fun x => x = g) w wx))
    case first =>
      go_wp2_with fail
      go_loopw [11] (fun s wr => ∃ k : Nat, I ≤ k + 2 ∧ k ≤ b1 ∧ s = .int .i64 k ∧ Hid (RA wr g cap ys) ∧ Hid (Sort.scanDown (fun x => !lt x ys[a]!) ys I k = J) ∧ Hid (Fr (fun x => x = g) w wr)) (fun s _ => (intOf s).toNat)
      case atStart => exact ⟨b1, by omega, by omega, rfl, HO3, HS2, HF3⟩
      case round =>
        obtain ⟨k, hk1, hk2, rfl, HO', HE, HF'⟩ := hrel
        obtain ⟨wv, rfl⟩ : ∃ wv, wv = wr := ⟨wr, rfl⟩
        have bk : (k : Int) ≤ 1000002 := by have := HB.out; omega
        by_cases hl : I ≤ k
        · have d1 : decide ((I : Int) ≤ (k : Int)) = true := by simp; omega
          have d2 : decide (I ≤ k) = true := by simp; omega
          obtain ⟨k', hk'⟩ : ∃ k', k = k' + 1 := ⟨k - 1, by omega⟩
          have sk : (k : Int) - 1 = (k' : Int) := by omega
          have i1 : k < n := by have := HB.out; omega
          have i0 : a < n := by have := HB.out; omega
          have ca := HO'.out.cell a (by have := HZ.out; omega)
          have ck := HO'.out.cell k (by have := HZ.out; omega)
          obtain ⟨x, hx⟩ : ∃ x, ys[k]! = x := ⟨_, rfl⟩
          obtain ⟨pv, hpv⟩ : ∃ x, ys[a]! = x := ⟨_, rfl⟩
          rw [hx] at ck
          rw [hpv] at ca
          have HXX := Lib.hid hx
          have HPV := Lib.hid hpv
          have HK := Lib.hid (⟨hk', hk1, hk2, hl⟩ : k = k' + 1 ∧ I ≤ k + 2 ∧ k ≤ b1 ∧ I ≤ k)
          obtain ⟨q, hq⟩ : ∃ q, lt x pv = q := ⟨_, rfl⟩
          have HQ := Lib.hid hq
          clear hx hpv hk' hk1 hk2 hl
          cases q with
          | false =>
            have CL := less_as _ _ hq
            clear hq
            go_upto_region 5 with fail
            go_quiet (first | (go_at_call 68; exact quiet_l (CL.out _)))
            go_wp2
            go_roundw
            case rel => exact ⟨k', by have := HK.out; omega, by have := HK.out; omega, rfl, Lib.hid (HO'.out.drewN _), Lib.hid ((dn_go HK.out.1 (by have := HK.out; omega) (by have h1 := HXX.out; have h2 := HPV.out; have h3 := HQ.out; show (!lt ys[k]! ys[a]!) = true; rw [h1, h2, h3] <;> rfl)).symm.trans HE.out), Lib.hid (HF'.out.drewN _)⟩
            case measure => simp [intOf]; have := HK.out; omega
          | true =>
            have CL := less_as _ _ hq
            clear hq
            have e1 := Lib.hid (show k = J by rw [← HE.out, dn_no (by have h1 := HXX.out; have h2 := HPV.out; have h3 := HQ.out; show (!lt ys[k]! ys[a]!) = false; rw [h1, h2, h3] <;> rfl)])
            go_upto_region 5 with fail
            go_quiet (first | (go_at_call 68; exact quiet_l (CL.out _)))
            go_wp2
            go_meet
            exact ⟨by rw [e1.out], by have := e1.out; have := HK.out; omega, by have := e1.out; have := HK.out; omega, Lib.hid (HO'.out.drewN _), Lib.hid (HF'.out.drewN _)⟩
        · have d1 : decide ((I : Int) ≤ (k : Int)) = false := by simp; omega
          have d2 : decide (I ≤ k) = false := by simp; omega
          have e1 := Lib.hid (show k = J by rw [← HE.out, dn_end hl])
          have HK := Lib.hid (⟨hk1, hk2⟩ : I ≤ k + 2 ∧ k ≤ b1)
          clear hk1 hk2 hl
          go_upto_region 5 with fail
          go_quiet (fail)
          go_wp2
          go_meet
          exact ⟨by rw [e1.out], by have := e1.out; have := HK.out; omega, by have := e1.out; have := HK.out; omega, Lib.hid (HO'.out.drewN _), Lib.hid (HF'.out.drewN _)⟩
    case rest =>
      obtain ⟨rfl, hJ1, hJ2, HO4, HF4⟩ := hcut
      obtain ⟨w4, rfl⟩ : ∃ x, x = wc := ⟨wc, rfl⟩
      clear HS2 HO3 HF3
      have bI : (I : Int) ≤ 1000001 := by have := HB.out; omega
      have bJ : (J : Int) ≤ 1000001 := by have := HB.out; omega
      have iJ : J < n := by have := HB.out; omega
      by_cases hl : J < I
      · have d1 : decide ((J : Int) < (I : Int)) = true := by simp; omega
        have d2 : decide (J < I) = true := by simp; omega
        have hRR : (J, true, Sort.swp ys J a) = R := by rw [← HRR.out, if_pos hl]
        clear HRR
        subst hRR
        have c0 := HO4.out.cell J (by have := HZ.out; omega)
        have c1 := HO4.out.cell a (by have := HZ.out; omega)
        obtain ⟨x, hx⟩ : ∃ x, ys[J]! = x := ⟨_, rfl⟩
        obtain ⟨y, hy⟩ : ∃ y, ys[a]! = y := ⟨_, rfl⟩
        rw [hx] at c0
        rw [hy] at c1
        have HXX := Lib.hid hx
        have HYY := Lib.hid hy
        have f0 := HO4.out.frozen J
        have f1 := HO4.out.frozen a
        have c2 := (HO4.out.set_ J y).cell a (by rw [Array.size_setIfInBounds]; have := HZ.out; omega)
        have f2 := (HO4.out.set_ J y).frozen a
        generalize (ys.setIfInBounds J y)[a]! = v2 at c2
        clear hx hy
        go_upto_region 8 with fail
        go_region
        go_wp2
        go_ret2
        exact ⟨rfl, by rw [← HXX.out, ← HYY.out]; exact (HO4.out.swp J a).drew, (fr_swp HF4.out).drew⟩
      · have d1 : decide ((J : Int) < (I : Int)) = false := by simp; omega
        have d2 : decide (J < I) = false := by simp; omega
        obtain ⟨m, zf, hmz⟩ : ∃ m zf, Sort.partLoop lt a (I + 1) (J - 1) (Sort.swp ys I J) = (m, zf) := ⟨_, _, rfl⟩
        have hRR : (m, false, Sort.swp zf m a) = R := by rw [← HRR.out, if_neg hl, hmz]
        clear HRR
        subst hRR
        have HMZ := Lib.hid hmz
        obtain ⟨I', hI'⟩ : ∃ x, x = I + 1 := ⟨_, rfl⟩
        obtain ⟨J', hJ'⟩ : ∃ x, x = J - 1 := ⟨_, rfl⟩
        rw [← hI', ← hJ'] at HMZ
        have sI : (I : Int) + 1 = (I' : Int) := by omega
        have sJ : (J : Int) - 1 = (J' : Int) := by omega
        have iI : I < n := by have := HB.out; omega
        have HIJ := Lib.hid (⟨hI', hJ', hl, hI1, hI2, hJ1, hJ2⟩ : I' = I + 1 ∧ J' = J - 1 ∧ ¬ J < I ∧ a1 ≤ I ∧ I ≤ b1 + 2 ∧ I ≤ J + 2 ∧ J ≤ b1)
        clear hmz hI' hJ' hl hI1 hI2 hJ1 hJ2
        have c0 := HO4.out.cell I (by have := HZ.out; omega)
        have c1 := HO4.out.cell J (by have := HZ.out; omega)
        obtain ⟨x, hx⟩ : ∃ x, ys[I]! = x := ⟨_, rfl⟩
        obtain ⟨y, hy⟩ : ∃ y, ys[J]! = y := ⟨_, rfl⟩
        rw [hx] at c0
        rw [hy] at c1
        have HXX := Lib.hid hx
        have HYY := Lib.hid hy
        have f0 := HO4.out.frozen I
        have f1 := HO4.out.frozen J
        have c2 := (HO4.out.set_ I y).cell J (by rw [Array.size_setIfInBounds]; have := HZ.out; omega)
        have f2 := (HO4.out.set_ I y).frozen J
        generalize (ys.setIfInBounds I y)[J]! = v2 at c2
        clear hx hy
        go_upto_region 10 with fail
        go_region
        have HO5 := Lib.hid (show RA ((w4.setCell ⟨g, I, none⟩ (.int .u32 y)).setCell ⟨g, J, none⟩ (.int .u32 x)) g cap (Sort.swp ys I J) by rw [← HXX.out, ← HYY.out]; exact HO4.out.swp I J)
        have HF5 := Lib.hid (show Fr (fun x => x = g) w ((w4.setCell ⟨g, I, none⟩ (.int .u32 y)).setCell ⟨g, J, none⟩ (.int .u32 x)) from fr_swp HF4.out)
        have HZ5 := Lib.hid (show (Sort.swp ys I J).size = n by rw [Sort.swp_size]; exact HZ.out)
        clear c0 c1 f0 f1 c2 f2 HO4 HF4
        go_wp2
        have HO6 := Lib.hid HO5.out.drew
        have HF6 := Lib.hid HF5.out.drew
        clear HO5 HF5 HXX HYY
        generalize World.drew _ = w5 at *
        generalize Sort.swp ys I J = y5 at *
        clear HZ HYS
        go_loopw [10, 11] (fun s t wr => ∃ (i j : Nat) (zs : Array Int), a < i ∧ i ≤ j + 2 ∧ j < b ∧ s = .int .i64 i ∧ t = .int .i64 j ∧ Hid (RA wr g cap zs) ∧ Hid (zs.size = n) ∧ Hid (Sort.partLoop lt a i j zs = (m, zf)) ∧ Hid (Fr (fun x => x = g) w wr)) (fun s t _ => (intOf t).toNat + 2 - (intOf s).toNat)
        case atStart => exact ⟨I', J', y5, by have := HIJ.out; have := HB.out; omega, by have := HIJ.out; have := HB.out; omega, by have := HIJ.out; have := HB.out; omega, rfl, rfl, HO6, HZ5, HMZ, HF6⟩
        case round =>
          obtain ⟨i, j, zs, hi1, hi2, hj, rfl, rfl, HO7, HZ, HE7, HF7⟩ := hrel
          obtain ⟨w7, rfl⟩ : ∃ w7, w7 = wr := ⟨wr, rfl⟩
          clear HO6 HZ5 HMZ HF6
          have bi : (i : Int) ≤ 1000002 := by have := HB.out; omega
          have bj : (j : Int) ≤ 1000000 := by have := HB.out; omega
          obtain ⟨I2, hI2⟩ : ∃ I, Sort.scanUp (fun x => lt x zs[a]!) zs j i = I := ⟨_, rfl⟩
          obtain ⟨J2, hJ2⟩ : ∃ J, Sort.scanDown (fun x => !lt x zs[a]!) zs I2 j = J := ⟨_, rfl⟩
          have HS1 := Lib.hid hI2
          have HS2 := Lib.hid hJ2
          have HPL := Lib.hid (show (if I2 > J2 then (J2, zs) else Sort.partLoop lt a (I2 + 1) (J2 - 1) (Sort.swp zs I2 J2)) = (m, zf) by have h := Sort.partLoop_eq lt a i j zs; rw [hI2, hJ2] at h; exact h.symm.trans HE7.out)
          clear hI2 hJ2 HE7
          go_upto_block 6 with fail
          go_cut [10] from 99 to 114 (fun s wx => s = .int .i64 I2 ∧ i ≤ I2 ∧ I2 ≤ j + 2 ∧ Hid (RA wx g cap zs) ∧ Hid (Fr (fun x => x = g) w wx))
          case first =>
            go_wp2_with fail
            go_loopw [10] (fun s wr => ∃ k : Nat, i ≤ k ∧ k ≤ j + 2 ∧ s = .int .i64 k ∧ Hid (RA wr g cap zs) ∧ Hid (Sort.scanUp (fun x => lt x zs[a]!) zs j k = I2) ∧ Hid (Fr (fun x => x = g) w wr)) (fun s _ => j + 2 - (intOf s).toNat)
            case atStart => exact ⟨i, by omega, by omega, rfl, HO7, HS1, HF7⟩
            case round =>
              obtain ⟨k, hk1, hk2, rfl, HO', HE, HF'⟩ := hrel
              obtain ⟨wv, rfl⟩ : ∃ wv, wv = wr := ⟨wr, rfl⟩
              have bk : (k : Int) ≤ 1000002 := by have := HB.out; omega
              by_cases hl : k ≤ j
              · have d1 : decide ((k : Int) ≤ (j : Int)) = true := by simp; omega
                have d2 : decide (k ≤ j) = true := by simp; omega
                obtain ⟨k', hk'⟩ : ∃ k', k' = k + 1 := ⟨k + 1, rfl⟩
                have sk : (k : Int) + 1 = (k' : Int) := by omega
                have i1 : k < n := by have := HB.out; omega
                have i0 : a < n := by have := HB.out; omega
                have ca := HO'.out.cell a (by have := HZ.out; omega)
                have ck := HO'.out.cell k (by have := HZ.out; omega)
                obtain ⟨x, hx⟩ : ∃ x, zs[k]! = x := ⟨_, rfl⟩
                obtain ⟨pv, hpv⟩ : ∃ x, zs[a]! = x := ⟨_, rfl⟩
                rw [hx] at ck
                rw [hpv] at ca
                have HXX := Lib.hid hx
                have HPV := Lib.hid hpv
                have HK := Lib.hid (⟨hk', hk1, hk2, hl⟩ : k' = k + 1 ∧ i ≤ k ∧ k ≤ j + 2 ∧ k ≤ j)
                obtain ⟨q, hq⟩ : ∃ q, lt x pv = q := ⟨_, rfl⟩
                have HQ := Lib.hid hq
                clear hx hpv hk' hk1 hk2 hl
                cases q with
                | true =>
                  have CL := less_as _ _ hq
                  clear hq
                  go_upto_region 13 with fail
                  go_quiet (first | (go_at_call 68; exact quiet_l (CL.out _)))
                  go_wp2
                  go_roundw
                  case rel => exact ⟨k', by have := HK.out; omega, by have := HK.out; omega, rfl, Lib.hid (HO'.out.drewN _), Lib.hid ((up_go HK.out.1.symm (by have := HK.out; omega) (by have h1 := HXX.out; have h2 := HPV.out; have h3 := HQ.out; show (lt zs[k]! zs[a]!) = true; rw [h1, h2, h3] <;> rfl)).symm.trans HE.out), Lib.hid (HF'.out.drewN _)⟩
                  case measure => simp [intOf]; have := HK.out; omega
                | false =>
                  have CL := less_as _ _ hq
                  clear hq
                  have e1 := Lib.hid (show k = I2 by rw [← HE.out, up_no (by have h1 := HXX.out; have h2 := HPV.out; have h3 := HQ.out; show (lt zs[k]! zs[a]!) = false; rw [h1, h2, h3] <;> rfl)])
                  go_upto_region 13 with fail
                  go_quiet (first | (go_at_call 68; exact quiet_l (CL.out _)))
                  go_wp2
                  go_meet
                  exact ⟨by rw [e1.out], by have := e1.out; have := HK.out; omega, by have := e1.out; have := HK.out; omega, Lib.hid (HO'.out.drewN _), Lib.hid (HF'.out.drewN _)⟩
              · have d1 : decide ((k : Int) ≤ (j : Int)) = false := by simp; omega
                have d2 : decide (k ≤ j) = false := by simp; omega
                have e1 := Lib.hid (show k = I2 by rw [← HE.out, up_end hl])
                have HK := Lib.hid (⟨hk1, hk2⟩ : i ≤ k ∧ k ≤ j + 2)
                clear hk1 hk2 hl
                go_upto_region 13 with fail
                go_quiet (fail)
                go_wp2
                go_meet
                exact ⟨by rw [e1.out], by have := e1.out; have := HK.out; omega, by have := e1.out; have := HK.out; omega, Lib.hid (HO'.out.drewN _), Lib.hid (HF'.out.drewN _)⟩
          case rest =>
            obtain ⟨rfl, hI1, hI2, HO3, HF3⟩ := hcut
            obtain ⟨w3, rfl⟩ : ∃ x, x = wc := ⟨wc, rfl⟩
            clear HS1
            go_upto_block 8 with fail
            go_cut [11] from 115 to 131 (fun s wx => s = .int .i64 J2 ∧ I2 ≤ J2 + 2 ∧ J2 ≤ j ∧ Hid (RA wx g cap zs) ∧ Hid (Fr (fun x => x = g) w wx))
            case first =>
              go_wp2_with fail
              go_loopw [11] (fun s wr => ∃ k : Nat, I2 ≤ k + 2 ∧ k ≤ j ∧ s = .int .i64 k ∧ Hid (RA wr g cap zs) ∧ Hid (Sort.scanDown (fun x => !lt x zs[a]!) zs I2 k = J2) ∧ Hid (Fr (fun x => x = g) w wr)) (fun s _ => (intOf s).toNat)
              case atStart => exact ⟨j, by omega, by omega, rfl, HO3, HS2, HF3⟩
              case round =>
                obtain ⟨k, hk1, hk2, rfl, HO', HE, HF'⟩ := hrel
                obtain ⟨wv, rfl⟩ : ∃ wv, wv = wr := ⟨wr, rfl⟩
                have bk : (k : Int) ≤ 1000002 := by have := HB.out; omega
                by_cases hl : I2 ≤ k
                · have d1 : decide ((I2 : Int) ≤ (k : Int)) = true := by simp; omega
                  have d2 : decide (I2 ≤ k) = true := by simp; omega
                  obtain ⟨k', hk'⟩ : ∃ k', k = k' + 1 := ⟨k - 1, by omega⟩
                  have sk : (k : Int) - 1 = (k' : Int) := by omega
                  have i1 : k < n := by have := HB.out; omega
                  have i0 : a < n := by have := HB.out; omega
                  have ca := HO'.out.cell a (by have := HZ.out; omega)
                  have ck := HO'.out.cell k (by have := HZ.out; omega)
                  obtain ⟨x, hx⟩ : ∃ x, zs[k]! = x := ⟨_, rfl⟩
                  obtain ⟨pv, hpv⟩ : ∃ x, zs[a]! = x := ⟨_, rfl⟩
                  rw [hx] at ck
                  rw [hpv] at ca
                  have HXX := Lib.hid hx
                  have HPV := Lib.hid hpv
                  have HK := Lib.hid (⟨hk', hk1, hk2, hl⟩ : k = k' + 1 ∧ I2 ≤ k + 2 ∧ k ≤ j ∧ I2 ≤ k)
                  obtain ⟨q, hq⟩ : ∃ q, lt x pv = q := ⟨_, rfl⟩
                  have HQ := Lib.hid hq
                  clear hx hpv hk' hk1 hk2 hl
                  cases q with
                  | false =>
                    have CL := less_as _ _ hq
                    clear hq
                    go_upto_region 15 with fail
                    go_quiet (first | (go_at_call 68; exact quiet_l (CL.out _)))
                    go_wp2
                    go_roundw
                    case rel => exact ⟨k', by have := HK.out; omega, by have := HK.out; omega, rfl, Lib.hid (HO'.out.drewN _), Lib.hid ((dn_go HK.out.1 (by have := HK.out; omega) (by have h1 := HXX.out; have h2 := HPV.out; have h3 := HQ.out; show (!lt zs[k]! zs[a]!) = true; rw [h1, h2, h3] <;> rfl)).symm.trans HE.out), Lib.hid (HF'.out.drewN _)⟩
                    case measure => simp [intOf]; have := HK.out; omega
                  | true =>
                    have CL := less_as _ _ hq
                    clear hq
                    have e1 := Lib.hid (show k = J2 by rw [← HE.out, dn_no (by have h1 := HXX.out; have h2 := HPV.out; have h3 := HQ.out; show (!lt zs[k]! zs[a]!) = false; rw [h1, h2, h3] <;> rfl)])
                    go_upto_region 15 with fail
                    go_quiet (first | (go_at_call 68; exact quiet_l (CL.out _)))
                    go_wp2
                    go_meet
                    exact ⟨by rw [e1.out], by have := e1.out; have := HK.out; omega, by have := e1.out; have := HK.out; omega, Lib.hid (HO'.out.drewN _), Lib.hid (HF'.out.drewN _)⟩
                · have d1 : decide ((I2 : Int) ≤ (k : Int)) = false := by simp; omega
                  have d2 : decide (I2 ≤ k) = false := by simp; omega
                  have e1 := Lib.hid (show k = J2 by rw [← HE.out, dn_end hl])
                  have HK := Lib.hid (⟨hk1, hk2⟩ : I2 ≤ k + 2 ∧ k ≤ j)
                  clear hk1 hk2 hl
                  go_upto_region 15 with fail
                  go_quiet (fail)
                  go_wp2
                  go_meet
                  exact ⟨by rw [e1.out], by have := e1.out; have := HK.out; omega, by have := e1.out; have := HK.out; omega, Lib.hid (HO'.out.drewN _), Lib.hid (HF'.out.drewN _)⟩
            case rest =>
              obtain ⟨rfl, hJ1, hJ2, HO4, HF4⟩ := hcut
              obtain ⟨w4, rfl⟩ : ∃ x, x = wc := ⟨wc, rfl⟩
              clear HS2 HO3 HF3
              have bI : (I2 : Int) ≤ 1000002 := by have := HB.out; omega
              have bJ : (J2 : Int) ≤ 1000002 := by have := HB.out; omega
              have iJ : J2 < n := by have := HB.out; omega
              by_cases hl : J2 < I2
              · have d1 : decide ((J2 : Int) < (I2 : Int)) = true := by simp; omega
                have d2 : decide (J2 < I2) = true := by simp; omega
                have hRR : (J2, zs) = (m, zf) := by rw [← HPL.out, if_pos hl]
                clear HPL
                injection hRR with e1 e2
                subst e1 e2
                have c0 := HO4.out.cell J2 (by have := HZ.out; omega)
                have c1 := HO4.out.cell a (by have := HZ.out; omega)
                obtain ⟨x, hx⟩ : ∃ x, zs[J2]! = x := ⟨_, rfl⟩
                obtain ⟨y, hy⟩ : ∃ y, zs[a]! = y := ⟨_, rfl⟩
                rw [hx] at c0
                rw [hy] at c1
                have HXX := Lib.hid hx
                have HYY := Lib.hid hy
                have f0 := HO4.out.frozen J2
                have f1 := HO4.out.frozen a
                have c2 := (HO4.out.set_ J2 y).cell a (by rw [Array.size_setIfInBounds]; have := HZ.out; omega)
                have f2 := (HO4.out.set_ J2 y).frozen a
                generalize (zs.setIfInBounds J2 y)[a]! = v2 at c2
                clear hx hy
                go_upto_region 21 with fail
                go_region
                go_wp2
                go_ret2
                exact ⟨rfl, by rw [← HXX.out, ← HYY.out]; exact (HO4.out.swp J2 a).drew, (fr_swp HF4.out).drew⟩
              · have d1 : decide ((J2 : Int) < (I2 : Int)) = false := by simp; omega
                have d2 : decide (J2 < I2) = false := by simp; omega
                have HPM := Lib.hid (show Sort.partLoop lt a (I2 + 1) (J2 - 1) (Sort.swp zs I2 J2) = (m, zf) by rw [← HPL.out, if_neg hl])
                obtain ⟨I', hI'⟩ : ∃ x, x = I2 + 1 := ⟨_, rfl⟩
                obtain ⟨J', hJ'⟩ : ∃ x, x = J2 - 1 := ⟨_, rfl⟩
                rw [← hI', ← hJ'] at HPM
                have sI : (I2 : Int) + 1 = (I' : Int) := by omega
                have sJ : (J2 : Int) - 1 = (J' : Int) := by omega
                have iI : I2 < n := by have := HB.out; omega
                have HIJ := Lib.hid (⟨hI', hJ', hl, hI1, hI2, hJ1, hJ2, hi1, hi2, hj⟩ : I' = I2 + 1 ∧ J' = J2 - 1 ∧ ¬ J2 < I2 ∧ i ≤ I2 ∧ I2 ≤ j + 2 ∧ I2 ≤ J2 + 2 ∧ J2 ≤ j ∧ a < i ∧ i ≤ j + 2 ∧ j < b)
                clear hI' hJ' hl hI1 hI2 hJ1 hJ2 HPL
                have c0 := HO4.out.cell I2 (by have := HZ.out; omega)
                have c1 := HO4.out.cell J2 (by have := HZ.out; omega)
                obtain ⟨x, hx⟩ : ∃ x, zs[I2]! = x := ⟨_, rfl⟩
                obtain ⟨y, hy⟩ : ∃ y, zs[J2]! = y := ⟨_, rfl⟩
                rw [hx] at c0
                rw [hy] at c1
                have HXX := Lib.hid hx
                have HYY := Lib.hid hy
                have f0 := HO4.out.frozen I2
                have f1 := HO4.out.frozen J2
                have c2 := (HO4.out.set_ I2 y).cell J2 (by rw [Array.size_setIfInBounds]; have := HZ.out; omega)
                have f2 := (HO4.out.set_ I2 y).frozen J2
                generalize (zs.setIfInBounds I2 y)[J2]! = v2 at c2
                clear hx hy
                go_upto_region 18 with fail
                go_region
                go_wp2
                go_roundw
                case rel => exact ⟨I', J', Sort.swp zs I2 J2, by have := HIJ.out; omega, by have := HIJ.out; omega, by have := HIJ.out; omega, rfl, rfl, Lib.hid (by rw [← HXX.out, ← HYY.out]; exact (HO4.out.swp I2 J2).drew), Lib.hid (by rw [Sort.swp_size]; exact HZ.out), HPM, Lib.hid (fr_swp HF4.out).drew⟩
                case measure => simp [intOf]; have := HIJ.out; omega
end Go.Proofs.Ytpndcpmfcajmdaa.Srt
namespace Go.Proofs.Ytpndcpmfcajmdaa.Srt
open Go.ChangeShapes Go.WideShapes Go.ChangeAt Go.RowKit Go.IntWalk Go.Proofs.Mem
set_option linter.unusedVariables false
set_option maxRecDepth 100000 in
set_option maxHeartbeats 8000000 in
theorem peq_any (w : World) (g n cap a b p : Nat) (d : Array Int) (h : RA w g cap d) (hn : d.size = n) (h0 : n ≤ 1000000) (h1 : a ≤ p) (h2 : p < b) (h3 : b ≤ n) :
    Calls Try.prog 69 #[.slice (some ⟨g, 0, none⟩) n cap, .int .i64 a, .int .i64 b, .int .i64 p] w fun e w' => e = .returned (.int .i64 (Sort.partitionEqual lt d a b p).1) ∧ RA w' g cap (Sort.partitionEqual lt d a b p).2 ∧ Fr (fun x => x = g) w w' := by
  have HR := Lib.hid h
  have HN := Lib.hid hn
  have HF := Lib.hid (Fr.refl (fun x => x = g) w)
  obtain ⟨m, zf, hmz⟩ : ∃ m zf, Sort.partitionEqual lt d a b p = (m, zf) := ⟨_, _, rfl⟩
  rw [hmz]
  obtain ⟨ys, hys⟩ : ∃ ys, ys = Sort.swp d a p := ⟨_, rfl⟩
  obtain ⟨a1, ha1⟩ : ∃ x, x = a + 1 := ⟨_, rfl⟩
  obtain ⟨b1, hb1⟩ : ∃ x, x = b - 1 := ⟨_, rfl⟩
  have HMZ := Lib.hid (show Sort.partEqLoop lt a a1 b1 ys = (m, zf) by rw [← hmz, hys, ha1, hb1]; rfl)
  have s1 : (a : Int) + 1 = (a1 : Int) := by omega
  have s2 : (b : Int) - 1 = (b1 : Int) := by omega
  have ba : (a : Int) ≤ 1000000 := by omega
  have bb : (b : Int) ≤ 1000000 := by omega
  have in1 : a < n := by omega
  have in2 : p < n := by omega
  have HB := Lib.hid (⟨h0, h1, h2, h3, ha1, hb1⟩ : n ≤ 1000000 ∧ a ≤ p ∧ p < b ∧ b ≤ n ∧ a1 = a + 1 ∧ b1 = b - 1)
  have HYS := Lib.hid hys
  have HZ5 := Lib.hid (show ys.size = n by rw [hys, Sort.swp_size]; exact hn)
  clear h hn hmz hys h0 h1 h2 h3 ha1 hb1
  go_enter Try.func69, Try.ntmps69
  have c0 := HR.out.cell a (by have := HN.out; omega)
  have c1 := HR.out.cell p (by have := HN.out; omega)
  obtain ⟨x, hx⟩ : ∃ x, d[a]! = x := ⟨_, rfl⟩
  obtain ⟨y, hy⟩ : ∃ y, d[p]! = y := ⟨_, rfl⟩
  rw [hx] at c0
  rw [hy] at c1
  have HXX := Lib.hid hx
  have HYY := Lib.hid hy
  have f0 := HR.out.frozen a
  have f1 := HR.out.frozen p
  have c2 := (HR.out.set_ a y).cell p (by rw [Array.size_setIfInBounds]; have := HN.out; omega)
  have f2 := (HR.out.set_ a y).frozen p
  generalize (d.setIfInBounds a y)[p]! = v2 at c2
  clear hx hy
  go_upto_region 1 with fail
  go_region
  have HO1 := Lib.hid (show RA ((w.setCell ⟨g, a, none⟩ (.int .u32 y)).setCell ⟨g, p, none⟩ (.int .u32 x)) g cap ys by rw [HYS.out, ← HXX.out, ← HYY.out]; exact HR.out.swp a p)
  have HF1 := Lib.hid (show Fr (fun x => x = g) w ((w.setCell ⟨g, a, none⟩ (.int .u32 y)).setCell ⟨g, p, none⟩ (.int .u32 x)) from fr_swp HF.out)
  clear c0 c1 f0 f1 c2 f2 HR
  go_wp2
  have HO6 := Lib.hid HO1.out.drew
  have HF6 := Lib.hid HF1.out.drew
  clear HO1 HF1 HXX HYY HYS HN HF
  generalize World.drew _ = w2 at *
  go_loopw [9, 10] (fun s t wr => ∃ (i j : Nat) (zs : Array Int), a < i ∧ i ≤ j + 2 ∧ j < b ∧ i ≤ b + 1 ∧ s = .int .i64 i ∧ t = .int .i64 j ∧ Hid (RA wr g cap zs) ∧ Hid (zs.size = n) ∧ Hid (Sort.partEqLoop lt a i j zs = (m, zf)) ∧ Hid (Fr (fun x => x = g) w wr)) (fun s t _ => (intOf t).toNat + 2 - (intOf s).toNat)
  case atStart => exact ⟨a1, b1, ys, by have := HB.out; omega, by have := HB.out; omega, by have := HB.out; omega, by have := HB.out; omega, rfl, rfl, HO6, HZ5, HMZ, HF6⟩
  case round =>
    obtain ⟨i, j, zs, hi1, hi2, hj, hi3, rfl, rfl, HO7, HZ, HE7, HF7⟩ := hrel
    obtain ⟨w7, rfl⟩ : ∃ w7, w7 = wr := ⟨wr, rfl⟩
    clear HO6 HZ5 HMZ HF6
    have bi : (i : Int) ≤ 1000002 := by have := HB.out; omega
    have bj : (j : Int) ≤ 1000000 := by have := HB.out; omega
    obtain ⟨I2, hI2⟩ : ∃ I, Sort.scanUp (fun x => !lt zs[a]! x) zs j i = I := ⟨_, rfl⟩
    obtain ⟨J2, hJ2⟩ : ∃ J, Sort.scanDown (fun x => lt zs[a]! x) zs I2 j = J := ⟨_, rfl⟩
    have HS1 := Lib.hid hI2
    have HS2 := Lib.hid hJ2
    have HPL := Lib.hid (show (if I2 > J2 then (I2, zs) else Sort.partEqLoop lt a (I2 + 1) (J2 - 1) (Sort.swp zs I2 J2)) = (m, zf) by have h := Sort.partEqLoop_eq lt a i j zs; rw [hI2, hJ2] at h; exact h.symm.trans HE7.out)
    clear hI2 hJ2 HE7
    go_upto_block 2 with fail
    go_cut [9] from 29 to 45 (fun s wx => s = .int .i64 I2 ∧ i ≤ I2 ∧ I2 ≤ j + 2 ∧ Hid (RA wx g cap zs) ∧ Hid (Fr (fun x => x = g) w wx))
    case first =>
      go_wp2_with fail
      go_loopw [9] (fun s wr => ∃ k : Nat, i ≤ k ∧ k ≤ j + 2 ∧ s = .int .i64 k ∧ Hid (RA wr g cap zs) ∧ Hid (Sort.scanUp (fun x => !lt zs[a]! x) zs j k = I2) ∧ Hid (Fr (fun x => x = g) w wr)) (fun s _ => j + 2 - (intOf s).toNat)
      case atStart => exact ⟨i, by omega, by omega, rfl, HO7, HS1, HF7⟩
      case round =>
        obtain ⟨k, hk1, hk2, rfl, HO', HE, HF'⟩ := hrel
        obtain ⟨wv, rfl⟩ : ∃ wv, wv = wr := ⟨wr, rfl⟩
        have bk : (k : Int) ≤ 1000002 := by have := HB.out; omega
        by_cases hl : k ≤ j
        · have d1 : decide ((k : Int) ≤ (j : Int)) = true := by simp; omega
          have d2 : decide (k ≤ j) = true := by simp; omega
          obtain ⟨k', hk'⟩ : ∃ k', k' = k + 1 := ⟨k + 1, rfl⟩
          have sk : (k : Int) + 1 = (k' : Int) := by omega
          have i1 : k < n := by have := HB.out; omega
          have i0 : a < n := by have := HB.out; omega
          have ca := HO'.out.cell a (by have := HZ.out; omega)
          have ck := HO'.out.cell k (by have := HZ.out; omega)
          obtain ⟨x, hx⟩ : ∃ x, zs[k]! = x := ⟨_, rfl⟩
          obtain ⟨pv, hpv⟩ : ∃ x, zs[a]! = x := ⟨_, rfl⟩
          rw [hx] at ck
          rw [hpv] at ca
          have HXX := Lib.hid hx
          have HPV := Lib.hid hpv
          have HK := Lib.hid (⟨hk', hk1, hk2, hl⟩ : k' = k + 1 ∧ i ≤ k ∧ k ≤ j + 2 ∧ k ≤ j)
          obtain ⟨q, hq⟩ : ∃ q, lt pv x = q := ⟨_, rfl⟩
          have HQ := Lib.hid hq
          clear hx hpv hk' hk1 hk2 hl
          cases q with
          | false =>
            have CL := less_as _ _ hq
            clear hq
            go_upto_region 3 with fail
            go_quiet (first | (go_at_call 68; exact quiet_l (CL.out _)))
            go_wp2
            go_roundw
            case rel => exact ⟨k', by have := HK.out; omega, by have := HK.out; omega, rfl, Lib.hid (HO'.out.drewN _), Lib.hid ((up_go HK.out.1.symm (by have := HK.out; omega) (by have h1 := HXX.out; have h2 := HPV.out; have h3 := HQ.out; show (!lt zs[a]! zs[k]!) = true; rw [h1, h2, h3] <;> rfl)).symm.trans HE.out), Lib.hid (HF'.out.drewN _)⟩
            case measure => simp [intOf]; have := HK.out; omega
          | true =>
            have CL := less_as _ _ hq
            clear hq
            have e1 := Lib.hid (show k = I2 by rw [← HE.out, up_no (by have h1 := HXX.out; have h2 := HPV.out; have h3 := HQ.out; show (!lt zs[a]! zs[k]!) = false; rw [h1, h2, h3] <;> rfl)])
            go_upto_region 3 with fail
            go_quiet (first | (go_at_call 68; exact quiet_l (CL.out _)))
            go_wp2
            go_meet
            exact ⟨by rw [e1.out], by have := e1.out; have := HK.out; omega, by have := e1.out; have := HK.out; omega, Lib.hid (HO'.out.drewN _), Lib.hid (HF'.out.drewN _)⟩
        · have d1 : decide ((k : Int) ≤ (j : Int)) = false := by simp; omega
          have d2 : decide (k ≤ j) = false := by simp; omega
          have e1 := Lib.hid (show k = I2 by rw [← HE.out, up_end hl])
          have HK := Lib.hid (⟨hk1, hk2⟩ : i ≤ k ∧ k ≤ j + 2)
          clear hk1 hk2 hl
          go_upto_region 3 with fail
          go_quiet (fail)
          go_wp2
          go_meet
          exact ⟨by rw [e1.out], by have := e1.out; have := HK.out; omega, by have := e1.out; have := HK.out; omega, Lib.hid (HO'.out.drewN _), Lib.hid (HF'.out.drewN _)⟩
    case rest =>
      obtain ⟨rfl, hI1, hI2, HO3, HF3⟩ := hcut
      obtain ⟨w3, rfl⟩ : ∃ x, x = wc := ⟨wc, rfl⟩
      clear HS1
      go_upto_block 4 with fail
      go_cut [10] from 46 to 61 (fun s wx => s = .int .i64 J2 ∧ I2 ≤ J2 + 2 ∧ J2 ≤ j ∧ Hid (RA wx g cap zs) ∧ Hid (Fr (fun x => x = g) w wx))
      case first =>
        go_wp2_with fail
        go_loopw [10] (fun s wr => ∃ k : Nat, I2 ≤ k + 2 ∧ k ≤ j ∧ s = .int .i64 k ∧ Hid (RA wr g cap zs) ∧ Hid (Sort.scanDown (fun x => lt zs[a]! x) zs I2 k = J2) ∧ Hid (Fr (fun x => x = g) w wr)) (fun s _ => (intOf s).toNat)
        case atStart => exact ⟨j, by omega, by omega, rfl, HO3, HS2, HF3⟩
        case round =>
          obtain ⟨k, hk1, hk2, rfl, HO', HE, HF'⟩ := hrel
          obtain ⟨wv, rfl⟩ : ∃ wv, wv = wr := ⟨wr, rfl⟩
          have bk : (k : Int) ≤ 1000002 := by have := HB.out; omega
          by_cases hl : I2 ≤ k
          · have d1 : decide ((I2 : Int) ≤ (k : Int)) = true := by simp; omega
            have d2 : decide (I2 ≤ k) = true := by simp; omega
            obtain ⟨k', hk'⟩ : ∃ k', k = k' + 1 := ⟨k - 1, by omega⟩
            have sk : (k : Int) - 1 = (k' : Int) := by omega
            have i1 : k < n := by have := HB.out; omega
            have i0 : a < n := by have := HB.out; omega
            have ca := HO'.out.cell a (by have := HZ.out; omega)
            have ck := HO'.out.cell k (by have := HZ.out; omega)
            obtain ⟨x, hx⟩ : ∃ x, zs[k]! = x := ⟨_, rfl⟩
            obtain ⟨pv, hpv⟩ : ∃ x, zs[a]! = x := ⟨_, rfl⟩
            rw [hx] at ck
            rw [hpv] at ca
            have HXX := Lib.hid hx
            have HPV := Lib.hid hpv
            have HK := Lib.hid (⟨hk', hk1, hk2, hl⟩ : k = k' + 1 ∧ I2 ≤ k + 2 ∧ k ≤ j ∧ I2 ≤ k)
            obtain ⟨q, hq⟩ : ∃ q, lt pv x = q := ⟨_, rfl⟩
            have HQ := Lib.hid hq
            clear hx hpv hk' hk1 hk2 hl
            cases q with
            | true =>
              have CL := less_as _ _ hq
              clear hq
              go_upto_region 5 with fail
              go_quiet (first | (go_at_call 68; exact quiet_l (CL.out _)))
              go_wp2
              go_roundw
              case rel => exact ⟨k', by have := HK.out; omega, by have := HK.out; omega, rfl, Lib.hid (HO'.out.drewN _), Lib.hid ((dn_go HK.out.1 (by have := HK.out; omega) (by have h1 := HXX.out; have h2 := HPV.out; have h3 := HQ.out; show (lt zs[a]! zs[k]!) = true; rw [h1, h2, h3] <;> rfl)).symm.trans HE.out), Lib.hid (HF'.out.drewN _)⟩
              case measure => simp [intOf]; have := HK.out; omega
            | false =>
              have CL := less_as _ _ hq
              clear hq
              have e1 := Lib.hid (show k = J2 by rw [← HE.out, dn_no (by have h1 := HXX.out; have h2 := HPV.out; have h3 := HQ.out; show (lt zs[a]! zs[k]!) = false; rw [h1, h2, h3] <;> rfl)])
              go_upto_region 5 with fail
              go_quiet (first | (go_at_call 68; exact quiet_l (CL.out _)))
              go_wp2
              go_meet
              exact ⟨by rw [e1.out], by have := e1.out; have := HK.out; omega, by have := e1.out; have := HK.out; omega, Lib.hid (HO'.out.drewN _), Lib.hid (HF'.out.drewN _)⟩
          · have d1 : decide ((I2 : Int) ≤ (k : Int)) = false := by simp; omega
            have d2 : decide (I2 ≤ k) = false := by simp; omega
            have e1 := Lib.hid (show k = J2 by rw [← HE.out, dn_end hl])
            have HK := Lib.hid (⟨hk1, hk2⟩ : I2 ≤ k + 2 ∧ k ≤ j)
            clear hk1 hk2 hl
            go_upto_region 5 with fail
            go_quiet (fail)
            go_wp2
            go_meet
            exact ⟨by rw [e1.out], by have := e1.out; have := HK.out; omega, by have := e1.out; have := HK.out; omega, Lib.hid (HO'.out.drewN _), Lib.hid (HF'.out.drewN _)⟩
      case rest =>
        obtain ⟨rfl, hJ1, hJ2, HO4, HF4⟩ := hcut
        obtain ⟨w4, rfl⟩ : ∃ x, x = wc := ⟨wc, rfl⟩
        clear HS2 HO3 HF3
        have bI : (I2 : Int) ≤ 1000002 := by have := HB.out; omega
        have bJ : (J2 : Int) ≤ 1000002 := by have := HB.out; omega
        have iJ : J2 < n := by have := HB.out; omega
        by_cases hl : J2 < I2
        · have d1 : decide ((J2 : Int) < (I2 : Int)) = true := by simp; omega
          have d2 : decide (J2 < I2) = true := by simp; omega
          have hRR : (I2, zs) = (m, zf) := by rw [← HPL.out, if_pos hl]
          clear HPL
          injection hRR with e1 e2
          subst e1 e2
          go_wp2
          go_ret
          exact ⟨rfl, HO4.out, HF4.out⟩
        · have d1 : decide ((J2 : Int) < (I2 : Int)) = false := by simp; omega
          have d2 : decide (J2 < I2) = false := by simp; omega
          have HPM := Lib.hid (show Sort.partEqLoop lt a (I2 + 1) (J2 - 1) (Sort.swp zs I2 J2) = (m, zf) by rw [← HPL.out, if_neg hl])
          obtain ⟨I', hI'⟩ : ∃ x, x = I2 + 1 := ⟨_, rfl⟩
          obtain ⟨J', hJ'⟩ : ∃ x, x = J2 - 1 := ⟨_, rfl⟩
          rw [← hI', ← hJ'] at HPM
          have sI : (I2 : Int) + 1 = (I' : Int) := by omega
          have sJ : (J2 : Int) - 1 = (J' : Int) := by omega
          have iI : I2 < n := by have := HB.out; omega
          have HIJ := Lib.hid (⟨hI', hJ', hl, hI1, hI2, hJ1, hJ2, hi1, hi2, hj⟩ : I' = I2 + 1 ∧ J' = J2 - 1 ∧ ¬ J2 < I2 ∧ i ≤ I2 ∧ I2 ≤ j + 2 ∧ I2 ≤ J2 + 2 ∧ J2 ≤ j ∧ a < i ∧ i ≤ j + 2 ∧ j < b)
          clear hI' hJ' hl hI1 hI2 hJ1 hJ2 HPL
          have c0 := HO4.out.cell I2 (by have := HZ.out; omega)
          have c1 := HO4.out.cell J2 (by have := HZ.out; omega)
          obtain ⟨x, hx⟩ : ∃ x, zs[I2]! = x := ⟨_, rfl⟩
          obtain ⟨y, hy⟩ : ∃ y, zs[J2]! = y := ⟨_, rfl⟩
          rw [hx] at c0
          rw [hy] at c1
          have HXX := Lib.hid hx
          have HYY := Lib.hid hy
          have f0 := HO4.out.frozen I2
          have f1 := HO4.out.frozen J2
          have c2 := (HO4.out.set_ I2 y).cell J2 (by rw [Array.size_setIfInBounds]; have := HZ.out; omega)
          have f2 := (HO4.out.set_ I2 y).frozen J2
          generalize (zs.setIfInBounds I2 y)[J2]! = v2 at c2
          clear hx hy
          go_upto_region 8 with fail
          go_region
          go_wp2
          go_roundw
          case rel => exact ⟨I', J', Sort.swp zs I2 J2, by have := HIJ.out; omega, by have := HIJ.out; omega, by have := HIJ.out; omega, by have := HIJ.out; omega, rfl, rfl, Lib.hid (by rw [← HXX.out, ← HYY.out]; exact (HO4.out.swp I2 J2).drew), Lib.hid (by rw [Sort.swp_size]; exact HZ.out), HPM, Lib.hid (fr_swp HF4.out).drew⟩
          case measure => simp [intOf]; have := HIJ.out; omega
end Go.Proofs.Ytpndcpmfcajmdaa.Srt
namespace Go.Proofs.Ytpndcpmfcajmdaa.Srt
open Go.ChangeShapes Go.WideShapes Go.ChangeAt Go.RowKit Go.IntWalk Go.Proofs.Mem
set_option linter.unusedVariables false
theorem ss_go {d : Array Int} {b i i' : Nat} (e : i = i' + 1) (h : i < b) (hq : lt d[i]! d[i']! = false) : Sort.scanSorted lt d b i = Sort.scanSorted lt d b (i + 1) := by
  subst e; rw [Sort.scanSorted, if_pos (by simp [hq, h])]
theorem ss_no {d : Array Int} {b i i' : Nat} (e : i = i' + 1) (hq : lt d[i]! d[i']! = true) : Sort.scanSorted lt d b i = i := by
  subst e; rw [Sort.scanSorted, if_neg (by simp [hq])]
theorem ss_end {d : Array Int} {b i : Nat} (h : ¬ i < b) : Sort.scanSorted lt d b i = i := by
  rw [Sort.scanSorted, if_neg (by simp [h])]
theorem sh_go {d : Array Int} {j j' : Nat} (e : j = j' + 1) (hq : lt d[j]! d[j']! = true) : Sort.shiftDown lt j d = Sort.shiftDown lt j' (Sort.swp d j j') := by
  subst e; rw [Sort.shiftDown, if_neg (by simp [hq])]
theorem sh_no {d : Array Int} {j j' : Nat} (e : j = j' + 1) (hq : lt d[j]! d[j']! = false) : Sort.shiftDown lt j d = d := by
  subst e; rw [Sort.shiftDown, if_pos (by simp [hq])]
theorem su_go {d : Array Int} {b j j' : Nat} (e : j = j' + 1) (h : j < b) (hq : lt d[j]! d[j']! = true) : Sort.shiftUp lt b j d = Sort.shiftUp lt b (j + 1) (Sort.swp d j j') := by
  subst e; rw [Sort.shiftUp, if_pos h, if_neg (by simp [hq])]; rfl
theorem su_no {d : Array Int} {b j j' : Nat} (e : j = j' + 1) (h : j < b) (hq : lt d[j]! d[j']! = false) : Sort.shiftUp lt b j d = d := by
  subst e; rw [Sort.shiftUp, if_pos h, if_pos (by simp [hq])]
theorem su_end {d : Array Int} {b j : Nat} (h : ¬ j < b) : Sort.shiftUp lt b j d = d := by
  rw [Sort.shiftUp, if_neg h]
set_option maxRecDepth 100000 in
set_option maxHeartbeats 8000000 in
theorem pins_any (w : World) (g n cap a b : Nat) (d : Array Int) (h : RA w g cap d) (hn : d.size = n) (h0 : n ≤ 1000000) (h1 : a < b) (h2 : b ≤ n) :
    Calls Try.prog 67 #[.slice (some ⟨g, 0, none⟩) n cap, .int .i64 a, .int .i64 b] w fun e w' => e = .returned (.bool (Sort.partialInsertionSort lt d a b).2) ∧ RA w' g cap (Sort.partialInsertionSort lt d a b).1 ∧ Fr (fun x => x = g) w w' := by
  have HR := Lib.hid h
  have HN := Lib.hid hn
  have HF := Lib.hid (Fr.refl (fun x => x = g) w)
  obtain ⟨zf, qf, hR⟩ : ∃ zf qf, Sort.partialInsertionSort lt d a b = (zf, qf) := ⟨_, _, rfl⟩
  rw [hR]
  obtain ⟨a1, ha1⟩ : ∃ x, x = a + 1 := ⟨_, rfl⟩
  have HS := Lib.hid (show Sort.partialIns lt a b 5 a1 d = (zf, qf) by rw [← hR, ha1]; rfl)
  obtain ⟨L, hL⟩ : ∃ x, x = b - a := ⟨_, rfl⟩
  have s1 : (a : Int) + 1 = (a1 : Int) := by omega
  have s2 : (b : Int) - (a : Int) = (L : Int) := by omega
  have ba : (a : Int) ≤ 1000000 := by omega
  have bb : (b : Int) ≤ 1000000 := by omega
  have HB := Lib.hid (⟨h0, h1, h2, ha1, hL⟩ : n ≤ 1000000 ∧ a < b ∧ b ≤ n ∧ a1 = a + 1 ∧ L = b - a)
  clear h hn hR h0 h1 h2 ha1 hL
  go_enter Try.func67, Try.ntmps67
  go_wp2
  go_loopw [7, 8] (fun u v wr => ∃ (s i : Nat) (ys : Array Int), s ≤ 5 ∧ a1 ≤ i ∧ i ≤ b ∧ u = .int .i64 i ∧ v = .int .i64 (5 - (s : Int)) ∧ Hid (RA wr g cap ys) ∧ Hid (ys.size = n) ∧ Hid (Sort.partialIns lt a b s i ys = (zf, qf)) ∧ Hid (Fr (fun x => x = g) w wr)) (fun _ v _ => (5 - intOf v).toNat)
  case atStart => exact ⟨5, a1, d, Nat.le_refl _, Nat.le_refl _, by have := HB.out; omega, rfl, by simp, HR, HN, HS, HF⟩
  case round =>
    obtain ⟨s, i, ys, hs, hi1, hi2, rfl, rfl, HO, HZ, HE, HG⟩ := hrel
    obtain ⟨w1, rfl⟩ : ∃ w1, w1 = wr := ⟨wr, rfl⟩
    clear HR HN HS HF
    cases s with
    | zero =>
      have z1 : (5 : Int) - ((0 : Nat) : Int) = 5 := by decide
      rw [z1]
      have d1 : decide ((5 : Int) < 5) = false := by decide
      have e1 := HE.out
      injection e1 with e1 e2
      subst e1 e2
      go_wp2
      go_ret
      exact ⟨rfl, HO.out, HG.out⟩
    | succ s =>
      obtain ⟨c, hc⟩ : ∃ c : Nat, (c : Int) = 5 - ((s + 1 : Nat) : Int) := ⟨4 - s, by omega⟩
      rw [← hc]
      have d1 : decide ((c : Int) < 5) = true := by simp; omega
      have d1' : decide (c < 5) = true := by simp; omega
      have bc : (c : Int) ≤ 5 := by omega
      have sc : (c : Int) + 1 = 5 - (s : Int) := by omega
      obtain ⟨I, hI⟩ : ∃ I, Sort.scanSorted lt ys b i = I := ⟨_, rfl⟩
      have HS := Lib.hid hI
      have HE2 := Lib.hid (show (if I = b then (ys, true) else if b - a < 50 then (ys, false) else
          Sort.partialIns lt a b s I (if b - I ≥ 2 then Sort.shiftUp lt b (I + 1) (if I - a ≥ 2 then Sort.shiftDown lt (I - 1) (Sort.swp ys I (I - 1)) else Sort.swp ys I (I - 1)) else (if I - a ≥ 2 then Sort.shiftDown lt (I - 1) (Sort.swp ys I (I - 1)) else Sort.swp ys I (I - 1)))) = (zf, qf) by
        rw [← HE.out, Sort.partialIns, hI])
      have HI0 := Lib.hid (⟨hs, hi1, hi2⟩ : s + 1 ≤ 5 ∧ a1 ≤ i ∧ i ≤ b)
      clear hI hs HE hc
      go_upto_block 2 with fail
      go_cut [7] from 17 to 34 (fun u wx => u = .int .i64 I ∧ a1 ≤ I ∧ I ≤ b ∧ Hid (RA wx g cap ys) ∧ Hid (Fr (fun x => x = g) w wx))
      case first =>
        go_wp2_with fail
        go_loopw [7] (fun u wr => ∃ k : Nat, a1 ≤ k ∧ k ≤ b ∧ u = .int .i64 k ∧ Hid (RA wr g cap ys) ∧ Hid (Sort.scanSorted lt ys b k = I) ∧ Hid (Fr (fun x => x = g) w wr)) (fun u _ => b - (intOf u).toNat)
        case atStart => exact ⟨i, hi1, hi2, rfl, HO, HS, HG⟩
        case round =>
          obtain ⟨k, hk1, hk2, rfl, HO', HE, HF'⟩ := hrel
          obtain ⟨wv, rfl⟩ : ∃ wv, wv = wr := ⟨wr, rfl⟩
          have bk : (k : Int) ≤ 1000000 := by omega
          by_cases hl : k < b
          · have d2 : decide ((k : Int) < (b : Int)) = true := by simp; omega
            have d2' : decide (k < b) = true := by simp; omega
            obtain ⟨k', hk'⟩ : ∃ k', k = k' + 1 := ⟨k - 1, by have := HB.out; omega⟩
            obtain ⟨k2, hk2'⟩ : ∃ k2, k2 = k + 1 := ⟨_, rfl⟩
            have sk : (k : Int) - 1 = (k' : Int) := by omega
            have sk2 : (k : Int) + 1 = (k2 : Int) := by omega
            have i1 : k < n := by have := HB.out; omega
            have i0 : k' < n := by have := HB.out; omega
            have c0 := HO'.out.cell k (by have := HZ.out; omega)
            have c1 := HO'.out.cell k' (by have := HZ.out; omega)
            obtain ⟨x, hx⟩ : ∃ x, ys[k]! = x := ⟨_, rfl⟩
            obtain ⟨y, hy⟩ : ∃ y, ys[k']! = y := ⟨_, rfl⟩
            rw [hx] at c0
            rw [hy] at c1
            have HXX := Lib.hid hx
            have HYY := Lib.hid hy
            clear hx hy
            have HK := Lib.hid (⟨hk', hk2', hk1, hl⟩ : k = k' + 1 ∧ k2 = k + 1 ∧ a1 ≤ k ∧ k < b)
            obtain ⟨q, hq⟩ : ∃ q, lt x y = q := ⟨_, rfl⟩
            have HQ := Lib.hid (show lt ys[k]! ys[k']! = q by rw [HXX.out, HYY.out]; exact hq)
            have CL := less_as _ _ hq
            clear hq hk' hk2' hk1 hk2 hl
            cases q with
            | false =>
              go_upto_region 5 with fail
              go_quiet (first | (go_at_call 68; exact quiet_l (CL.out _)))
              go_wp2
              go_roundw
              case rel => exact ⟨k2, by have := HK.out; omega, by have := HK.out; omega, rfl, Lib.hid (HO'.out.drewN _), Lib.hid (by rw [HK.out.2.1]; exact (ss_go HK.out.1 HK.out.2.2.2 HQ.out).symm.trans HE.out), Lib.hid (HF'.out.drewN _)⟩
              case measure => simp [intOf]; have := HK.out; omega
            | true =>
              have e1 := Lib.hid (show k = I by rw [← HE.out, ss_no HK.out.1 HQ.out])
              go_upto_region 5 with fail
              go_quiet (first | (go_at_call 68; exact quiet_l (CL.out _)))
              go_wp2
              go_meet
              exact ⟨by rw [e1.out], by have := e1.out; have := HK.out; omega, by have := e1.out; have := HK.out; omega, Lib.hid (HO'.out.drewN _), Lib.hid (HF'.out.drewN _)⟩
          · have d2 : decide ((k : Int) < (b : Int)) = false := by simp; omega
            have d2' : decide (k < b) = false := by simp; omega
            have e1 := Lib.hid (show k = I by rw [← HE.out, ss_end hl])
            have HK := Lib.hid (⟨hk1, hk2⟩ : a1 ≤ k ∧ k ≤ b)
            clear hk1 hk2 hl
            go_upto_region 5 with fail
            go_quiet (fail)
            go_wp2
            go_meet
            exact ⟨by rw [e1.out], by have := e1.out; have := HK.out; omega, by have := e1.out; have := HK.out; omega, Lib.hid (HO'.out.drewN _), Lib.hid (HF'.out.drewN _)⟩
      case rest =>
        obtain ⟨rfl, hI1, hI2, HO2, HF2⟩ := hcut
        obtain ⟨w2, rfl⟩ : ∃ x, x = wc := ⟨wc, rfl⟩
        clear HO HG HS hi1 hi2
        have bI : (I : Int) ≤ 1000000 := by omega
        by_cases hIb : I = b
        · have hR : (ys, true) = (zf, qf) := by rw [← HE2.out, if_pos hIb]
          injection hR with e1 e2
          subst e1 e2
          subst hIb
          clear HE2
          go_wp2
          go_ret
          exact ⟨rfl, HO2.out, HF2.out⟩
        · have dI : decide ((I : Int) = (b : Int)) = false := by simp; omega
          have dI' : decide (I = b) = false := by simp; exact hIb
          have dI2 : ((I : Int) == (b : Int)) = false := by simp; omega
          by_cases hL : L < 50
          · have hR : (ys, false) = (zf, qf) := by rw [← HE2.out, if_neg hIb, if_pos (by have := HB.out; omega)]
            injection hR with e1 e2
            subst e1 e2
            clear HE2
            have dL : decide ((L : Int) < 50) = true := by simp; omega
            have dL' : decide (L < 50) = true := by simp; omega
            clear hIb
            go_wp2
            go_ret
            exact ⟨rfl, HO2.out, HF2.out⟩
          · have dL : decide ((L : Int) < 50) = false := by simp; omega
            have dL' : decide (L < 50) = false := by simp; omega
            obtain ⟨I1, hI1'⟩ : ∃ x, I = x + 1 := ⟨I - 1, by have := HB.out; omega⟩
            have sI1 : (I : Int) - 1 = (I1 : Int) := by omega
            obtain ⟨D, hD⟩ : ∃ x, x = I - a := ⟨_, rfl⟩
            have sD : (I : Int) - (a : Int) = (D : Int) := by have := HB.out; omega
            obtain ⟨U, hU⟩ : ∃ x, x = b - I := ⟨_, rfl⟩
            have sU : (b : Int) - (I : Int) = (U : Int) := by omega
            obtain ⟨I2, hI2'⟩ : ∃ x, x = I + 1 := ⟨_, rfl⟩
            have sI2 : (I : Int) + 1 = (I2 : Int) := by omega
            obtain ⟨y1, hy1⟩ : ∃ x, x = Sort.swp ys I I1 := ⟨_, rfl⟩
            obtain ⟨y2, hy2⟩ : ∃ x, x = if I - a ≥ 2 then Sort.shiftDown lt I1 y1 else y1 := ⟨_, rfl⟩
            obtain ⟨y3, hy3⟩ : ∃ x, x = if b - I ≥ 2 then Sort.shiftUp lt b I2 y2 else y2 := ⟨_, rfl⟩
            have HE3 := Lib.hid (show Sort.partialIns lt a b s I y3 = (zf, qf) by
              have h := HE2.out
              rw [if_neg hIb, if_neg (by have := HB.out; omega), show I - 1 = I1 by omega, ← hy1, ← hy2, ← hI2', ← hy3] at h
              exact h)
            have H2 := Lib.hid hy2
            have H3 := Lib.hid hy3
            have H1 := Lib.hid hy1
            have HJ := Lib.hid (⟨hI1, hI2, hI1', hD, hU, hI2'⟩ : a1 ≤ I ∧ I ≤ b ∧ I = I1 + 1 ∧ D = I - a ∧ U = b - I ∧ I2 = I + 1)
            have i0 : I < n := by have := HB.out; omega
            have i1 : I1 < n := by have := HB.out; omega
            have bI1 : (I1 : Int) ≤ 1000000 := by omega
            have bI2 : (I2 : Int) ≤ 1000001 := by omega
            clear HE2 hIb hL hI1 hI2 hI1' hD hU hI2' hy1 hy2 hy3
            have c0 := HO2.out.cell I (by have := HZ.out; omega)
            have c1 := HO2.out.cell I1 (by have := HZ.out; omega)
            obtain ⟨x, hx⟩ : ∃ x, ys[I]! = x := ⟨_, rfl⟩
            obtain ⟨y, hy⟩ : ∃ y, ys[I1]! = y := ⟨_, rfl⟩
            rw [hx] at c0
            rw [hy] at c1
            have HXX := Lib.hid hx
            have HYY := Lib.hid hy
            clear hx hy
            have f0 := HO2.out.frozen I
            have f1 := HO2.out.frozen I1
            have c2 := (HO2.out.set_ I y).cell I1 (by rw [Array.size_setIfInBounds]; have := HZ.out; omega)
            have f2 := (HO2.out.set_ I y).frozen I1
            generalize (ys.setIfInBounds I y)[I1]! = v2 at c2
            go_upto_region 11 with fail
            go_region
            have HO3 := Lib.hid (show RA ((w2.setCell ⟨g, I, none⟩ (.int .u32 y)).setCell ⟨g, I1, none⟩ (.int .u32 x)) g cap y1 by rw [H1.out, ← HXX.out, ← HYY.out]; exact HO2.out.swp I I1)
            have HF3 := Lib.hid (show Fr (fun x => x = g) w ((w2.setCell ⟨g, I, none⟩ (.int .u32 y)).setCell ⟨g, I1, none⟩ (.int .u32 x)) from fr_swp HF2.out)
            have HZ1 := Lib.hid (show y1.size = n by rw [H1.out, Sort.swp_size]; exact HZ.out)
            clear c0 c1 f0 f1 c2 f2 HO2 HF2 HXX HYY H1 HZ i0 i1
            go_upto_if 61 with fail
            have HO4 := Lib.hid HO3.out.drew
            have HF4 := Lib.hid HF3.out.drew
            clear HO3 HF3
            generalize World.drew _ = w4 at *
            go_cut [] from 61 to 94 (fun wx => Hid (RA wx g cap y2) ∧ Hid (y2.size = n) ∧ Hid (Fr (fun x => x = g) w wx))
            case first =>
              by_cases hc : 2 ≤ D
              · have dc : decide ((2 : Int) ≤ (D : Int)) = true := by simp; omega
                have dc' : decide (2 ≤ D) = true := by simp; omega
                have HY := Lib.hid (show Sort.shiftDown lt I1 y1 = y2 by rw [H2.out, if_pos (by have := HJ.out; omega)])
                have HC0 := Lib.hid hc
                clear hc
                rw [dc]
                go_wp2
                go_loopw [9] (fun u wr => ∃ (j : Nat) (zs : Array Int), j ≤ I1 ∧ u = .int .i64 j ∧ Hid (RA wr g cap zs) ∧ Hid (zs.size = n) ∧ Hid (Sort.shiftDown lt j zs = y2) ∧ Hid (Fr (fun x => x = g) w wr)) (fun u _ => (intOf u).toNat)
                case atStart => exact ⟨I1, y1, Nat.le_refl _, rfl, HO4, HZ1, HY, HF4⟩
                case round =>
                  obtain ⟨j, zs, hj1, rfl, HO5, HZ5, HE5, HF5⟩ := hrel
                  obtain ⟨w5, rfl⟩ : ∃ w5, w5 = wr := ⟨wr, rfl⟩
                  have bj : (j : Int) ≤ 1000001 := by have := HJ.out; omega
                  by_cases hl : 1 ≤ j
                  · have d2 : decide ((1 : Int) ≤ (j : Int)) = true := by simp; omega
                    have d2' : decide (1 ≤ j) = true := by simp; omega
                    obtain ⟨j', hj'⟩ : ∃ x, j = x + 1 := ⟨j - 1, by have := HJ.out; omega⟩
                    have sj : (j : Int) - 1 = (j' : Int) := by omega
                    obtain ⟨j2, hj2'⟩ : ∃ x, x = j + 1 := ⟨_, rfl⟩
                    have sj2 : (j : Int) + 1 = (j2 : Int) := by omega
                    have i0 : j < n := by have := HB.out; have := HJ.out; omega
                    have i1 : j' < n := by have := HB.out; have := HJ.out; omega
                    have c0 := HO5.out.cell j (by have := HZ5.out; omega)
                    have c1 := HO5.out.cell j' (by have := HZ5.out; omega)
                    obtain ⟨x, hx⟩ : ∃ x, zs[j]! = x := ⟨_, rfl⟩
                    obtain ⟨y, hy⟩ : ∃ y, zs[j']! = y := ⟨_, rfl⟩
                    rw [hx] at c0
                    rw [hy] at c1
                    have HXX := Lib.hid hx
                    have HYY := Lib.hid hy
                    clear hx hy
                    have HK := Lib.hid (⟨hj', hj2', hj1, hl⟩ : j = j' + 1 ∧ j2 = j + 1 ∧ j ≤ I1 ∧ 1 ≤ j)
                    obtain ⟨q, hq⟩ : ∃ q, lt x y = q := ⟨_, rfl⟩
                    have HQ := Lib.hid (show lt zs[j]! zs[j']! = q by rw [HXX.out, HYY.out]; exact hq)
                    have CL := less_as _ _ hq
                    clear hq hj' hj2' hj1 hl
                    cases q with
                    | true =>
                      go_upto_region 16 with fail
                      go_quiet (first | (go_at_call 68; exact quiet_l (CL.out _)))
                      have HO6 := Lib.hid (HO5.out.drewN nq)
                      have HF6 := Lib.hid (HF5.out.drewN nq)
                      clear c0 c1
                      generalize World.drewN _ _ = w6 at *
                      have c0 := HO6.out.cell j (by have := HZ5.out; omega)
                      have c1 := HO6.out.cell j' (by have := HZ5.out; omega)
                      rw [HXX.out] at c0
                      rw [HYY.out] at c1
                      have f0 := HO6.out.frozen j
                      have f1 := HO6.out.frozen j'
                      have c2 := (HO6.out.set_ j y).cell j' (by rw [Array.size_setIfInBounds]; have := HZ5.out; omega)
                      have f2 := (HO6.out.set_ j y).frozen j'
                      generalize (zs.setIfInBounds j y)[j']! = v2 at c2
                      go_upto_region 17 with fail
                      go_region
                      go_wp2
                      go_roundw
                      case rel => exact ⟨j', Sort.swp zs j j', by have := HK.out; omega, rfl, Lib.hid (by rw [← HXX.out, ← HYY.out]; exact (HO6.out.swp j j').drew), Lib.hid (by rw [Sort.swp_size]; exact HZ5.out), Lib.hid ((sh_go HK.out.1 HQ.out).symm.trans HE5.out), Lib.hid (fr_swp HF6.out).drew⟩
                      case measure => simp [intOf]; have := HK.out; omega
                    | false =>
                      have e1 := Lib.hid (show zs = y2 by rw [← HE5.out, sh_no HK.out.1 HQ.out])
                      go_upto_region 16 with fail
                      go_quiet (first | (go_at_call 68; exact quiet_l (CL.out _)))
                      go_wp2
                      go_meet
                      exact ⟨by rw [← e1.out]; exact (Lib.hid (HO5.out.drewN _)), by rw [← e1.out]; exact HZ5, (Lib.hid (HF5.out.drewN _))⟩
                  · have d2 : decide ((1 : Int) ≤ (j : Int)) = false := by simp; omega
                    have d2' : decide (1 ≤ j) = false := by simp; omega
                    have e1 := Lib.hid (show zs = y2 by rw [← HE5.out]; obtain rfl : j = 0 := (by omega); rfl)
                    clear hl
                    go_wp2
                    go_meet
                    exact ⟨by rw [← e1.out]; exact HO5, by rw [← e1.out]; exact HZ5, HF5⟩
              · have dc : decide ((2 : Int) ≤ (D : Int)) = false := by simp; omega
                have dc' : decide (2 ≤ D) = false := by simp; omega
                have e1 := Lib.hid (show y1 = y2 by rw [H2.out, if_neg (by have := HJ.out; omega)])
                clear hc
                rw [dc]
                go_wp2
                go_meet
                exact ⟨by rw [← e1.out]; exact HO4, by rw [← e1.out]; exact HZ1, HF4⟩
            case rest =>
              obtain ⟨HO5, HZ2, HF5⟩ := hcut
              obtain ⟨w5, rfl⟩ : ∃ x, x = wc := ⟨wc, rfl⟩
              clear HO4 HZ1 HF4 H2
              go_upto_if 98 with fail
              by_cases hc : 2 ≤ U
              · have dc : decide ((2 : Int) ≤ (U : Int)) = true := by simp; omega
                have dc' : decide (2 ≤ U) = true := by simp; omega
                have HY := Lib.hid (show Sort.shiftUp lt b I2 y2 = y3 by rw [H3.out, if_pos (by have := HJ.out; omega)])
                have HC0 := Lib.hid hc
                clear hc
                rw [dc]
                go_wp2
                go_loopw [10] (fun u wr => ∃ (j : Nat) (zs : Array Int), I2 ≤ j ∧ j ≤ b ∧ u = .int .i64 j ∧ Hid (RA wr g cap zs) ∧ Hid (zs.size = n) ∧ Hid (Sort.shiftUp lt b j zs = y3) ∧ Hid (Fr (fun x => x = g) w wr)) (fun u _ => b - (intOf u).toNat)
                case atStart => exact ⟨I2, y2, Nat.le_refl _, by have := HJ.out; have := HC0.out; omega, rfl, HO5, HZ2, HY, HF5⟩
                case round =>
                  obtain ⟨j, zs, hj1, hj2, rfl, HOa, HZ5, HE5, HFa⟩ := hrel
                  obtain ⟨w5, rfl⟩ : ∃ w5, w5 = wr := ⟨wr, rfl⟩
                  have bj : (j : Int) ≤ 1000001 := by have := HJ.out; omega
                  by_cases hl : j < b
                  · have d2 : decide ((j : Int) < (b : Int)) = true := by simp; omega
                    have d2' : decide (j < b) = true := by simp; omega
                    obtain ⟨j', hj'⟩ : ∃ x, j = x + 1 := ⟨j - 1, by have := HJ.out; omega⟩
                    have sj : (j : Int) - 1 = (j' : Int) := by omega
                    obtain ⟨j2, hj2'⟩ : ∃ x, x = j + 1 := ⟨_, rfl⟩
                    have sj2 : (j : Int) + 1 = (j2 : Int) := by omega
                    have i0 : j < n := by have := HB.out; have := HJ.out; omega
                    have i1 : j' < n := by have := HB.out; have := HJ.out; omega
                    have c0 := HOa.out.cell j (by have := HZ5.out; omega)
                    have c1 := HOa.out.cell j' (by have := HZ5.out; omega)
                    obtain ⟨x, hx⟩ : ∃ x, zs[j]! = x := ⟨_, rfl⟩
                    obtain ⟨y, hy⟩ : ∃ y, zs[j']! = y := ⟨_, rfl⟩
                    rw [hx] at c0
                    rw [hy] at c1
                    have HXX := Lib.hid hx
                    have HYY := Lib.hid hy
                    clear hx hy
                    have HK := Lib.hid (⟨hj', hj2', hj1, hl⟩ : j = j' + 1 ∧ j2 = j + 1 ∧ I2 ≤ j ∧ j < b)
                    obtain ⟨q, hq⟩ : ∃ q, lt x y = q := ⟨_, rfl⟩
                    have HQ := Lib.hid (show lt zs[j]! zs[j']! = q by rw [HXX.out, HYY.out]; exact hq)
                    have CL := less_as _ _ hq
                    clear hq hj' hj2' hj1 hj2 hl
                    cases q with
                    | true =>
                      go_upto_region 22 with fail
                      go_quiet (first | (go_at_call 68; exact quiet_l (CL.out _)))
                      have HO6 := Lib.hid (HOa.out.drewN nq)
                      have HF6 := Lib.hid (HFa.out.drewN nq)
                      clear c0 c1
                      generalize World.drewN _ _ = w6 at *
                      have c0 := HO6.out.cell j (by have := HZ5.out; omega)
                      have c1 := HO6.out.cell j' (by have := HZ5.out; omega)
                      rw [HXX.out] at c0
                      rw [HYY.out] at c1
                      have f0 := HO6.out.frozen j
                      have f1 := HO6.out.frozen j'
                      have c2 := (HO6.out.set_ j y).cell j' (by rw [Array.size_setIfInBounds]; have := HZ5.out; omega)
                      have f2 := (HO6.out.set_ j y).frozen j'
                      generalize (zs.setIfInBounds j y)[j']! = v2 at c2
                      go_upto_region 23 with fail
                      go_region
                      go_wp2
                      go_roundw
                      case rel => exact ⟨j2, Sort.swp zs j j', by have := HK.out; omega, by have := HK.out; omega, rfl, Lib.hid (by rw [← HXX.out, ← HYY.out]; exact (HO6.out.swp j j').drew), Lib.hid (by rw [Sort.swp_size]; exact HZ5.out), Lib.hid (by rw [HK.out.2.1]; exact (su_go HK.out.1 HK.out.2.2.2 HQ.out).symm.trans HE5.out), Lib.hid (fr_swp HF6.out).drew⟩
                      case measure => simp [intOf]; have := HK.out; omega
                    | false =>
                      have e1 := Lib.hid (show zs = y3 by rw [← HE5.out, su_no HK.out.1 HK.out.2.2.2 HQ.out])
                      go_upto_region 22 with fail
                      go_quiet (first | (go_at_call 68; exact quiet_l (CL.out _)))
                      go_wp2
                      go_roundw
                      case rel => exact ⟨s, I, y3, by have := HI0.out; omega, by have := HJ.out; omega, by have := HJ.out; omega, rfl, by rw [← sc], by rw [← e1.out]; exact (Lib.hid (HOa.out.drewN _)), by rw [← e1.out]; exact HZ5, HE3, (Lib.hid (HFa.out.drewN _))⟩
                      case measure => simp [intOf]; omega
                  · have d2 : decide ((j : Int) < (b : Int)) = false := by simp; omega
                    have d2' : decide (j < b) = false := by simp; omega
                    have e1 := Lib.hid (show zs = y3 by rw [← HE5.out, su_end hl])
                    clear hl
                    go_wp2
                    go_roundw
                    case rel => exact ⟨s, I, y3, by have := HI0.out; omega, by have := HJ.out; omega, by have := HJ.out; omega, rfl, by rw [← sc], by rw [← e1.out]; exact HOa, by rw [← e1.out]; exact HZ5, HE3, HFa⟩
                    case measure => simp [intOf]; omega
              · have dc : decide ((2 : Int) ≤ (U : Int)) = false := by simp; omega
                have dc' : decide (2 ≤ U) = false := by simp; omega
                have e1 := Lib.hid (show y2 = y3 by rw [H3.out, if_neg (by have := HJ.out; omega)])
                clear hc
                rw [dc]
                go_wp2
                go_roundw
                case rel => exact ⟨s, I, y3, by have := HI0.out; omega, by have := HJ.out; omega, by have := HJ.out; omega, rfl, by rw [← sc], by rw [← e1.out]; exact HO5, by rw [← e1.out]; exact HZ2, HE3, HF5⟩
                case measure => simp [intOf]; omega
end Go.Proofs.Ytpndcpmfcajmdaa.Srt
namespace Go.Proofs.Ytpndcpmfcajmdaa.Srt
open Go.ChangeShapes Go.WideShapes Go.ChangeAt Go.RowKit Go.IntWalk Go.Proofs.Mem
set_option linter.unusedVariables false
structure Ct (W : World) (g cap sb : Nat) (d : Array Int) : Prop where
  ra : RA W g cap d
  box : ∃ s : Int, Box W sb #[.int .i64 s] 3
  ne : g ≠ sb
theorem Ct.step {W W' : World} {g cap sb : Nat} {d : Array Int} (h : Ct W g cap sb d) (hf : Fr (fun x => x = sb) W W') (hb : ∃ s : Int, Box W' sb #[.int .i64 s] 3) : Ct W' g cap sb d :=
  ⟨h.ra.fr hf (fun e => h.ne e), hb, h.ne⟩
set_option maxRecDepth 100000 in
theorem order2_any (w : World) (g n cap a b sb : Nat) (d : Array Int) (h : Ct w g cap sb d) (hn : d.size = n) (h0 : n ≤ 1000000) (h1 : a < n) (h2 : b < n) :
    Calls Try.prog 94 #[.slice (some ⟨g, 0, none⟩) n cap, .int .i64 a, .int .i64 b, .pointer (some ⟨sb, 0, none⟩)] w fun e w' => ∃ x y : Nat, e = .returned (.tuple #[.int .i64 x, .int .i64 y]) ∧ Hid (x = a ∧ y = b ∨ x = b ∧ y = a) ∧ Hid (Ct w' g cap sb d) ∧ Hid (Fr (fun x => x = sb) w w') := by
  have HC := Lib.hid h
  obtain ⟨s, hs⟩ := h.box
  have HS := Lib.hid hs
  have c0 := fun k => (h.ra.drewN k).cell a (by omega)
  have c1 := fun k => (h.ra.drewN k).cell b (by omega)
  obtain ⟨x, hx⟩ : ∃ x, d[a]! = x := ⟨_, rfl⟩
  obtain ⟨y, hy⟩ : ∃ y, d[b]! = y := ⟨_, rfl⟩
  rw [hx] at c0
  rw [hy] at c1
  obtain ⟨q, hq⟩ : ∃ q, lt y x = q := ⟨_, rfl⟩
  have CL := less_as _ _ hq
  clear h hs hn hx hy hq
  cases q with
  | true =>
    go_enter Try.func94, Try.ntmps94
    go_upto_region 1 with fail
    go_quiet (first | (go_at_call 68; exact quiet_l (CL.out _)))
    have k0 := (HS.out.drewN nq).cell 0
    have f0 := (HS.out.drewN nq).frozen 0
    simp only [List.getElem?_toArray, List.getElem?_cons_zero] at k0
    go_wp2
    go_ret2
    exact ⟨b, a, rfl, Lib.hid (.inr ⟨rfl, rfl⟩), Lib.hid (HC.out.step (Fr.setCell (S := fun x => x = sb) (p := ⟨sb, 0, none⟩) ((Fr.refl _ _).drewN nq) (.inl rfl) _) ⟨_, (HS.out.drewN nq).set_ 0 _⟩), Lib.hid (Fr.setCell (S := fun x => x = sb) (p := ⟨sb, 0, none⟩) ((Fr.refl _ _).drewN nq) (.inl rfl) _)⟩
  | false =>
    go_enter Try.func94, Try.ntmps94
    go_upto_region 1 with fail
    go_quiet (first | (go_at_call 68; exact quiet_l (CL.out _)))
    go_wp2
    go_ret2
    exact ⟨a, b, rfl, Lib.hid (.inl ⟨rfl, rfl⟩), Lib.hid (HC.out.step ((Fr.refl _ _).drewN nq) ⟨_, HS.out.drewN nq⟩), Lib.hid ((Fr.refl _ _).drewN nq)⟩
set_option maxRecDepth 100000 in
theorem median_any (w : World) (g n cap a b c sb : Nat) (d : Array Int) (h : Ct w g cap sb d) (hn : d.size = n) (h0 : n ≤ 1000000) (h1 : a < n) (h2 : b < n) (h3 : c < n) :
    Calls Try.prog 82 #[.slice (some ⟨g, 0, none⟩) n cap, .int .i64 a, .int .i64 b, .int .i64 c, .pointer (some ⟨sb, 0, none⟩)] w fun e w' => ∃ m : Nat, e = .returned (.int .i64 m) ∧ Hid (m = a ∨ m = b ∨ m = c) ∧ Hid (Ct w' g cap sb d) ∧ Hid (Fr (fun x => x = sb) w w') := by
  have HC := Lib.hid h
  have HN := Lib.hid (⟨hn, h0, h1, h2, h3⟩ : d.size = n ∧ n ≤ 1000000 ∧ a < n ∧ b < n ∧ c < n)
  have C1 := Lib.hid (order2_any w g n cap a b sb d h hn h0 h1 h2)
  clear h hn h0 h1 h2 h3
  go_enter Try.func82, Try.ntmps82
  go_wp2_with fail
  (with_reducible refine (C1.out).mono ?_)
  rintro e w1 ⟨x1, y1, rfl, HX, HC1, HF1⟩
  have C2 := Lib.hid (order2_any w1 g n cap y1 c sb d HC1.out HN.out.1 HN.out.2.1 (by have := HX.out; have := HN.out; omega) (by have := HN.out; omega))
  go_wp2_with fail
  (with_reducible refine (C2.out).mono ?_)
  rintro e w2 ⟨x2, y2, rfl, HX2, HC2, HF2⟩
  have C3 := Lib.hid (order2_any w2 g n cap x1 x2 sb d HC2.out HN.out.1 HN.out.2.1 (by have := HX.out; have := HN.out; omega) (by have := HX.out; have := HX2.out; have := HN.out; omega))
  go_wp2_with fail
  (with_reducible refine (C3.out).mono ?_)
  rintro e w3 ⟨x3, y3, rfl, HX3, HC3, HF3⟩
  go_wp2
  go_ret
  exact ⟨y3, rfl, Lib.hid (by have := HX.out; have := HX2.out; have := HX3.out; omega), HC3, Lib.hid ((HF1.out.trans HF2.out).trans HF3.out)⟩
set_option maxRecDepth 100000 in
theorem medadj_any (w : World) (g n cap a sb : Nat) (d : Array Int) (h : Ct w g cap sb d) (hn : d.size = n) (h0 : n ≤ 1000000) (h1 : 1 ≤ a) (h2 : a + 1 < n) :
    Calls Try.prog 81 #[.slice (some ⟨g, 0, none⟩) n cap, .int .i64 a, .pointer (some ⟨sb, 0, none⟩)] w fun e w' => ∃ m : Nat, e = .returned (.int .i64 m) ∧ Hid (a ≤ m + 1 ∧ m ≤ a + 1) ∧ Hid (Ct w' g cap sb d) ∧ Hid (Fr (fun x => x = sb) w w') := by
  obtain ⟨a0, ha0⟩ : ∃ x, x = a - 1 := ⟨_, rfl⟩
  obtain ⟨a2, ha2⟩ : ∃ x, x = a + 1 := ⟨_, rfl⟩
  have s0 : (a : Int) - 1 = (a0 : Int) := by omega
  have s2 : (a : Int) + 1 = (a2 : Int) := by omega
  have ba : (a : Int) ≤ 1000000 := by omega
  have C1 := Lib.hid (median_any w g n cap a0 a a2 sb d h hn h0 (by omega) (by omega) (by omega))
  have HA := Lib.hid (⟨ha0, ha2, h1⟩ : a0 = a - 1 ∧ a2 = a + 1 ∧ 1 ≤ a)
  clear h hn h0 h1 h2 ha0 ha2
  go_enter Try.func81, Try.ntmps81
  go_wp2_with fail
  (with_reducible refine (C1.out).mono ?_)
  rintro e w1 ⟨m, rfl, HX, HC1, HF1⟩
  go_wp2
  go_ret
  exact ⟨m, rfl, Lib.hid (by have := HX.out; have := HA.out; omega), HC1, HF1⟩
set_option maxRecDepth 100000 in
set_option maxHeartbeats 4000000 in
theorem pivot_any (w : World) (g n cap a b : Nat) (d : Array Int) (h : RA w g cap d) (hn : d.size = n) (h0 : n ≤ 1000000) (h1 : a + 12 < b) (h2 : b ≤ n) :
    Calls Try.prog 65 #[.slice (some ⟨g, 0, none⟩) n cap, .int .i64 a, .int .i64 b] w fun e w' => ∃ (p : Nat) (t : Int), e = .returned (.tuple #[.int .i64 p, .int .i64 t]) ∧ Hid (a ≤ p ∧ p < b) ∧ Hid (Below w.heap.size w w') := by
  have HR := Lib.hid h
  obtain ⟨l, hl⟩ : ∃ x, x = b - a := ⟨_, rfl⟩
  obtain ⟨q, hq⟩ : ∃ x, x = l / 4 := ⟨_, rfl⟩
  obtain ⟨q2, hq2⟩ : ∃ x, x = q * 2 := ⟨_, rfl⟩
  obtain ⟨q3, hq3⟩ : ∃ x, x = q * 3 := ⟨_, rfl⟩
  obtain ⟨i, hi⟩ : ∃ x, x = a + q := ⟨_, rfl⟩
  obtain ⟨j, hj⟩ : ∃ x, x = a + q2 := ⟨_, rfl⟩
  obtain ⟨k, hk⟩ : ∃ x, x = a + q3 := ⟨_, rfl⟩
  have s1 : (b : Int) - (a : Int) = (l : Int) := by omega
  have s2 : Int.tdiv (l : Int) 4 = (q : Int) := by rw [Int.tdiv_eq_ediv_of_nonneg (by omega)]; omega
  have s3 : (q : Int) * 2 = (q2 : Int) := by omega
  have s4 : (q : Int) * 3 = (q3 : Int) := by omega
  have s5 : (a : Int) + (q : Int) = (i : Int) := by omega
  have s6 : (a : Int) + (q2 : Int) = (j : Int) := by omega
  have s7 : (a : Int) + (q3 : Int) = (k : Int) := by omega
  have bl : (l : Int) ≤ 1000000 := by omega
  have ba : (a : Int) ≤ 1000000 := by omega
  have bb : (b : Int) ≤ 1000000 := by omega
  have bq : (q : Int) ≤ 1000000 := by omega
  have bq2 : (q2 : Int) ≤ 1000000 := by omega
  have bq3 : (q3 : Int) ≤ 1000000 := by omega
  have d8 : decide ((8 : Int) ≤ (l : Int)) = true := by simp; omega
  have d8' : decide (8 ≤ l) = true := by simp; omega
  have HB := Lib.hid (⟨h0, h1, h2, hl, hq, hq2, hq3, hi, hj, hk⟩ : n ≤ 1000000 ∧ a + 12 < b ∧ b ≤ n ∧ l = b - a ∧ q = l / 4 ∧ q2 = q * 2 ∧ q3 = q * 3 ∧ i = a + q ∧ j = a + q2 ∧ k = a + q3)
  have hg := h.lt
  have B1 := Lib.hid (Box.new w #[.int .i64 0] 3)
  have HC := Lib.hid (⟨h.later ((Below.refl _ _).alloc (Nat.le_refl _) _), ⟨0, Box.new w _ _⟩, by omega⟩ : Ct (w.alloc (.cells #[.int .i64 0] 3)) g cap w.heap.size d)
  have HN := Lib.hid hn
  have HW := Lib.hid ((Below.refl w.heap.size w).alloc (Nat.le_refl _) (.cells #[.int .i64 0] 3))
  have HSZ := Lib.hid (show w.heap.size < (w.alloc (.cells #[.int .i64 0] 3)).heap.size from B1.out.lt)
  generalize hsb : w.heap.size = sb at *
  obtain ⟨w0, hw0⟩ : ∃ w0, w.alloc (.cells #[.int .i64 0] 3) = w0 := ⟨_, rfl⟩
  rw [hw0] at B1 HC HW HSZ
  have HFW := Lib.hid (fun W (hf : Fr (fun x => x = sb) w0 W) => (HW.out.trans (hf.to_below (fun k e => by rw [e]; exact Nat.le_refl _) (Nat.le_of_lt HSZ.out)) : Below sb w W))
  clear h hn h0 h1 h2 hl hq hq2 hq3 hi hj hk HR hg
  by_cases h50 : 50 ≤ l
  · have d50 : decide ((50 : Int) ≤ (l : Int)) = true := by simp; omega
    have d50' : decide (50 ≤ l) = true := by simp; omega
    have C1 := Lib.hid (medadj_any w0 g n cap i sb d HC.out HN.out HB.out.1 (by have := HB.out; omega) (by have := HB.out; omega))
    have H50 := Lib.hid h50
    clear h50
    go_enter Try.func65, Try.ntmps65
    go_wp2_with fail
    (with_reducible refine C1.out.mono ?_)
    rintro e w1 ⟨i1, rfl, HX1, HC1, HF1⟩
    have C2 := Lib.hid (medadj_any w1 g n cap j sb d HC1.out HN.out HB.out.1 (by have := HB.out; have := H50.out; omega) (by have := HB.out; have := H50.out; omega))
    go_wp2_with fail
    (with_reducible refine C2.out.mono ?_)
    rintro e w2 ⟨i2, rfl, HX2, HC2, HF2⟩
    have C3 := Lib.hid (medadj_any w2 g n cap k sb d HC2.out HN.out HB.out.1 (by have := HB.out; have := H50.out; omega) (by have := HB.out; have := H50.out; omega))
    go_wp2_with fail
    (with_reducible refine C3.out.mono ?_)
    rintro e w3 ⟨i3, rfl, HX3, HC3, HF3⟩
    have C4 := Lib.hid (median_any w3 g n cap i1 i2 i3 sb d HC3.out HN.out HB.out.1 (by have := HB.out; have := H50.out; have := HX1.out; omega) (by have := HB.out; have := H50.out; have := HX2.out; omega) (by have := HB.out; have := H50.out; have := HX3.out; omega))
    go_wp2_with fail
    (with_reducible refine C4.out.mono ?_)
    rintro e w9 ⟨pv, rfl, HX4, HC9, HF4⟩
    have HP9 := Lib.hid (show a ≤ pv ∧ pv < b by have := HB.out; have := H50.out; have := HX1.out; have := HX2.out; have := HX3.out; have := HX4.out; omega)
    have HF9 := Lib.hid (((HF1.out.trans HF2.out).trans HF3.out).trans HF4.out)
    obtain ⟨s9, hb9⟩ := HC9.out.box
    have HB9 := Lib.hid hb9
    clear hb9
    have k0 := HB9.out.cell 0
    simp only [List.getElem?_toArray, List.getElem?_cons_zero] at k0
    by_cases e0 : s9 = 0
    · subst e0
      go_wp2
      go_ret2
      exact ⟨pv, _, rfl, HP9, Lib.hid (HFW.out _ HF9.out)⟩
    · have n0 : decide (s9 = 0) = false := by simp; exact e0
      have n0' : (s9 == 0) = false := by simp; exact e0
      by_cases e12 : s9 = 12
      · subst e12
        go_wp2
        go_ret2
        exact ⟨pv, _, rfl, HP9, Lib.hid (HFW.out _ HF9.out)⟩
      · have n12 : decide (s9 = 12) = false := by simp; exact e12
        have n12' : (s9 == 12) = false := by simp; exact e12
        go_wp2
        go_ret2
        exact ⟨pv, _, rfl, HP9, Lib.hid (HFW.out _ HF9.out)⟩
  · have d50 : decide ((50 : Int) ≤ (l : Int)) = false := by simp; omega
    have d50' : decide (50 ≤ l) = false := by simp; omega
    clear h50
    have C4 := Lib.hid (median_any w0 g n cap i j k sb d HC.out HN.out HB.out.1 (by have := HB.out; omega) (by have := HB.out; omega) (by have := HB.out; omega))
    go_enter Try.func65, Try.ntmps65
    go_wp2_with fail
    (with_reducible refine C4.out.mono ?_)
    rintro e w9 ⟨pv, rfl, HX4, HC9, HF9⟩
    have HP9 := Lib.hid (show a ≤ pv ∧ pv < b by have := HB.out; have := HX4.out; omega)
    obtain ⟨s9, hb9⟩ := HC9.out.box
    have HB9 := Lib.hid hb9
    clear hb9
    have k0 := HB9.out.cell 0
    simp only [List.getElem?_toArray, List.getElem?_cons_zero] at k0
    by_cases e0 : s9 = 0
    · subst e0
      go_wp2
      go_ret2
      exact ⟨pv, _, rfl, HP9, Lib.hid (HFW.out _ HF9.out)⟩
    · have n0 : decide (s9 = 0) = false := by simp; exact e0
      have n0' : (s9 == 0) = false := by simp; exact e0
      by_cases e12 : s9 = 12
      · subst e12
        go_wp2
        go_ret2
        exact ⟨pv, _, rfl, HP9, Lib.hid (HFW.out _ HF9.out)⟩
      · have n12 : decide (s9 = 12) = false := by simp; exact e12
        have n12' : (s9 == 12) = false := by simp; exact e12
        go_wp2
        go_ret2
        exact ⟨pv, _, rfl, HP9, Lib.hid (HFW.out _ HF9.out)⟩
end Go.Proofs.Ytpndcpmfcajmdaa.Srt
namespace Go.Proofs.Ytpndcpmfcajmdaa.Srt
open Go.ChangeShapes Go.WideShapes Go.ChangeAt Go.RowKit Go.IntWalk Go.Proofs.Mem
set_option linter.unusedVariables false
theorem xor_bound (a b : Int) : 0 ≤ bits .xor .u64 a b ∧ bits .xor .u64 a b < 18446744073709551616 := by
  have h : bits .xor .u64 a b = IntKind.u64.wrap ((BitVec.ofInt 64 a ^^^ BitVec.ofInt 64 b).toNat : Int) := rfl
  rw [h, IntKind.wrap_u64]; omega
theorem and_bound (a b : Int) (h1 : 0 ≤ a) (h2 : a < 18446744073709551616) (h3 : 0 ≤ b) (h4 : b < 18446744073709551616) : 0 ≤ bits .and .u64 a b ∧ bits .and .u64 a b ≤ b := by
  rw [u64_and a b h1 h2 h3 h4]
  have := Nat.and_le_right (n := a.toNat) (m := b.toNat)
  omega
set_option maxRecDepth 100000 in
theorem next_any (w : World) (sb : Nat) (s : Int) (t : TypeId) (h : Box w sb #[.int .u64 s] t) :
    Calls Try.prog 80 #[.pointer (some ⟨sb, 0, none⟩)] w fun e w' => ∃ x : Int, e = .returned (.int .u64 x) ∧ Hid (0 ≤ x ∧ x < 18446744073709551616) ∧ Hid (Box w' sb #[.int .u64 x] t) ∧ Hid (Fr (fun x => x = sb) w w') := by
  have k0 := h.cell 0
  have f0 := h.frozen 0
  simp only [List.getElem?_toArray, List.getElem?_cons_zero] at k0
  have HB := Lib.hid h
  have HF := Lib.hid (Fr.refl (fun x => x = sb) w)
  clear h
  go_enter Try.func80, Try.ntmps80
  go_upto_region 2 with (go_region)
  generalize bits BinOp.xor .u64 s _ = s1
  have HB1 := Lib.hid (show Box (w.setCell ⟨sb, 0, none⟩ (.int .u64 s1)).drew sb #[.int .u64 s1] t from (HB.out.set_ 0 (.int .u64 s1)).drew)
  have HF1 := Lib.hid (show Fr (fun x => x = sb) w (w.setCell ⟨sb, 0, none⟩ (.int .u64 s1)).drew from (HF.out.setCell (.inl rfl) _).drew)
  generalize World.drew _ = w1 at *
  clear HB HF k0 f0
  have k0 := HB1.out.cell 0
  have f0 := HB1.out.frozen 0
  simp only [List.getElem?_toArray, List.getElem?_cons_zero] at k0
  go_upto_region 3 with (go_region)
  generalize bits BinOp.xor .u64 s1 _ = s2
  have HB2 := Lib.hid (show Box (w1.setCell ⟨sb, 0, none⟩ (.int .u64 s2)).drew sb #[.int .u64 s2] t from (HB1.out.set_ 0 (.int .u64 s2)).drew)
  have HF2 := Lib.hid (show Fr (fun x => x = sb) w (w1.setCell ⟨sb, 0, none⟩ (.int .u64 s2)).drew from (HF1.out.setCell (.inl rfl) _).drew)
  generalize World.drew _ = w2 at *
  clear HB1 HF1 k0 f0
  have k0 := HB2.out.cell 0
  have f0 := HB2.out.frozen 0
  simp only [List.getElem?_toArray, List.getElem?_cons_zero] at k0
  go_upto_region 4 with (go_region)
  have hx := Lib.hid (xor_bound s2 (IntKind.u64.wrap (s2 * 131072)))
  generalize bits BinOp.xor .u64 s2 _ = s3 at *
  have HB3 := Lib.hid (show Box (w2.setCell ⟨sb, 0, none⟩ (.int .u64 s3)).drew sb #[.int .u64 s3] t from (HB2.out.set_ 0 (.int .u64 s3)).drew)
  have HF3 := Lib.hid (show Fr (fun x => x = sb) w (w2.setCell ⟨sb, 0, none⟩ (.int .u64 s3)).drew from (HF2.out.setCell (.inl rfl) _).drew)
  generalize World.drew _ = w3 at *
  clear HB2 HF2 k0 f0
  have k0 := HB3.out.cell 0
  simp only [List.getElem?_toArray, List.getElem?_cons_zero] at k0
  go_wp2
  go_ret
  exact ⟨s3, rfl, hx, HB3, HF3⟩
set_option maxRecDepth 100000 in
theorem len_any (n : Nat) (hn : n ≤ 1000000) (w : World) : Calls Try.prog 57 #[.int .u64 n] w fun e w' => e = .returned (.int .i64 (bitLen n)) ∧ w = w' := by
  have CL := Lib.hid (Money.len64_any (n : Int) (by omega) (by omega) w)
  clear hn
  go_enter Try.func57, Try.ntmps57
  go_wp2_with (go_at_call 72; (with_reducible refine CL.out.mono ?_); rintro e w1 ⟨rfl, rfl⟩)
  go_ret
  exact ⟨by simp, rfl⟩
theorem pow_facts (n : Nat) (h1 : 1 ≤ n) (hn : n ≤ 1000000) : n < 2 ^ bitLen n ∧ 2 ^ bitLen n ≤ 2 * n ∧ bitLen n ≤ 20 := by
  obtain ⟨h2, h3⟩ := bitLen_spec n
  have h4 := h3 (by omega)
  have h0 : bitLen n ≠ 0 := by intro e; rw [e] at h2; simp at h2; omega
  obtain ⟨k, hk⟩ : ∃ k, bitLen n = k + 1 := ⟨bitLen n - 1, by omega⟩
  rw [hk] at h2 h4 ⊢
  simp only [Nat.add_sub_cancel] at h4
  refine ⟨h2, by rw [Nat.pow_succ]; omega, ?_⟩
  rcases Nat.lt_or_ge 19 k with h5 | h5
  · have := Nat.pow_le_pow_right (n := 2) (by omega) (show 20 ≤ k by omega)
    omega
  · omega
set_option maxRecDepth 100000 in
theorem npow_any (n : Nat) (h1 : 1 ≤ n) (hn : n ≤ 1000000) (w : World) : Calls Try.prog 79 #[.int .i64 n] w fun e w' => ∃ m : Nat, e = .returned (.int .u64 m) ∧ Hid (n < m ∧ m ≤ 2 * n) ∧ w = w' := by
  have CL := Lib.hid (len_any n hn w)
  have HP := Lib.hid (pow_facts n h1 hn)
  have cw : IntKind.u64.wrap (n : Int) = n := by rw [IntKind.wrap_u64]; omega
  have bn : (n : Int) ≤ 1000000 := by omega
  obtain ⟨k, hk⟩ : ∃ k, k = bitLen n := ⟨_, rfl⟩
  rw [← hk] at HP CL
  have hk20 : (k : Int) ≤ 20 := by have := HP.out; omega
  clear h1 hn hk
  go_enter Try.func79, Try.ntmps79
  go_wp2_with (go_at_call 57; (with_reducible refine CL.out.mono ?_); rintro e w1 ⟨rfl, rfl⟩)
  go_ret
  obtain ⟨m, hm⟩ : ∃ m, m = 2 ^ k := ⟨_, rfl⟩
  have h1 : ((2 : Int) ^ k) = (m : Int) := by rw [hm]; simp
  have h2 := Nat.pow_le_pow_right (n := 2) (by omega) (show k ≤ 20 by have := HP.out; omega)
  have h3 := HP.out
  rw [← hm] at h2 h3
  refine ⟨m, ?_, Lib.hid ⟨h3.1, h3.2.1⟩, rfl⟩
  have e : IntKind.u64.wrap ((2 : Int) ^ k) = (m : Int) := by
    rw [h1, IntKind.wrap_u64]; omega
  rw [e]; rfl
set_option maxRecDepth 100000 in
set_option maxHeartbeats 8000000 in
theorem brk_any (w : World) (g n cap a b : Nat) (d : Array Int) (h : RA w g cap d) (hn : d.size = n) (h0 : n ≤ 1000000) (h1 : a + 12 < b) (h2 : b ≤ n) :
    Calls Try.prog 64 #[.slice (some ⟨g, 0, none⟩) n cap, .int .i64 a, .int .i64 b] w fun e w' => e = .returned (.tuple #[]) ∧ (∃ d', RA w' g cap d' ∧ Sort.PermIn a b d d') ∧ Fr (fun x => x = g) w w' := by
  obtain ⟨l, hl⟩ : ∃ x, x = b - a := ⟨_, rfl⟩
  obtain ⟨q, hq⟩ : ∃ x, x = l / 4 := ⟨_, rfl⟩
  obtain ⟨q2, hq2⟩ : ∃ x, x = q * 2 := ⟨_, rfl⟩
  obtain ⟨aq, haq⟩ : ∃ x, x = a + q2 := ⟨_, rfl⟩
  obtain ⟨lo, hlo⟩ : ∃ x, x = aq - 1 := ⟨_, rfl⟩
  obtain ⟨hi, hhi⟩ : ∃ x, x = aq + 1 := ⟨_, rfl⟩
  have s1 : (b : Int) - (a : Int) = (l : Int) := by omega
  have s2 : Int.tdiv (l : Int) 4 = (q : Int) := by rw [Int.tdiv_eq_ediv_of_nonneg (by omega)]; omega
  have s3 : (q : Int) * 2 = (q2 : Int) := by omega
  have s4 : (a : Int) + (q2 : Int) = (aq : Int) := by omega
  have s5 : (aq : Int) - 1 = (lo : Int) := by omega
  have s6 : (aq : Int) + 1 = (hi : Int) := by omega
  have cw : IntKind.u64.wrap (l : Int) = l := by rw [IntKind.wrap_u64]; omega
  have bl : (l : Int) ≤ 1000000 := by omega
  have ba : (a : Int) ≤ 1000000 := by omega
  have bb : (b : Int) ≤ 1000000 := by omega
  have bq : (q : Int) ≤ 1000000 := by omega
  have bq2 : (q2 : Int) ≤ 1000000 := by omega
  have baq : (aq : Int) ≤ 1000000 := by omega
  have d8 : decide ((8 : Int) ≤ (l : Int)) = true := by simp; omega
  have d8' : decide (8 ≤ l) = true := by simp; omega
  have HP := Lib.hid (fun W => npow_any l (by omega) (by omega) W)
  have HB := Lib.hid (⟨h0, h1, h2, hl, hq, hq2, haq, hlo, hhi⟩ : n ≤ 1000000 ∧ a + 12 < b ∧ b ≤ n ∧ l = b - a ∧ q = l / 4 ∧ q2 = q * 2 ∧ aq = a + q2 ∧ lo = aq - 1 ∧ hi = aq + 1)
  have hg := h.lt
  have HR := Lib.hid h
  have HN := Lib.hid hn
  obtain ⟨sb, hsb⟩ : ∃ sb, sb = w.heap.size := ⟨_, rfl⟩
  have HSB := Lib.hid (show w.heap.size ≤ sb ∧ g ≠ sb by omega)
  have HW := Lib.hid (fun u => (by
    subst hsb
    exact ⟨Box.new w #[u] 128, (Fr.refl _ w).alloc _, h.later ((Below.refl _ _).alloc (Nat.le_refl _) _)⟩ :
    Box (w.alloc (.cells #[u] 128)) sb #[u] 128 ∧ Fr (fun x => x = g) w (w.alloc (.cells #[u] 128)) ∧ RA (w.alloc (.cells #[u] 128)) g cap d))
  have hsb' := hsb.symm
  clear h hn h0 h1 h2 hl hq hq2 haq hlo hhi hg hsb HR
  go_enter Try.func64, Try.ntmps64
  go_wp2_with fail
  (with_reducible refine (HP.out _).mono ?_)
  rintro e w0 ⟨m, rfl, HM, rfl⟩
  obtain ⟨b1, f1, r1⟩ := HW.out (.int .u64 (l : Int))
  have HX := Lib.hid b1
  have HF := Lib.hid f1
  have HO := Lib.hid r1
  clear b1 f1 r1
  generalize World.alloc _ _ = w0 at *
  have hm1 : 1 ≤ m := by have := HM.out; omega
  have bm : (m : Int) ≤ 2000000 := by have := HM.out; omega
  obtain ⟨m1, hm1'⟩ : ∃ x, m = x + 1 := ⟨m - 1, by omega⟩
  have sm : (m : Int) - 1 = (m1 : Int) := by omega
  have cm : IntKind.u64.wrap ((m : Int) - 1) = (m1 : Int) := by rw [IntKind.wrap_u64]; omega
  have cm' : IntKind.u64.wrap (m1 : Int) = (m1 : Int) := by rw [IntKind.wrap_u64]; omega
  have HM1 := Lib.hid (⟨hm1', hm1⟩ : m = m1 + 1 ∧ 1 ≤ m)
  clear hm1 hm1'
  go_wp2
  go_loopw [9] (fun u wr => ∃ (i : Nat) (ys : Array Int) (s : Int), lo ≤ i ∧ i ≤ hi + 1 ∧ u = .int .i64 i ∧ Hid (RA wr g cap ys) ∧ Hid (Sort.PermIn a b d ys) ∧ Hid (Box wr sb #[.int .u64 s] 128) ∧ Hid (Fr (fun x => x = g) w wr)) (fun u _ => hi + 1 - (intOf u).toNat)
  case atStart => exact ⟨lo, d, _, Nat.le_refl _, by have := HB.out; omega, rfl, HO, Lib.hid (Sort.permIn_refl _ _ _), HX, HF⟩
  case round =>
    obtain ⟨i, ys, s, hi1, hi2, rfl, HO1, HPe, HX1, HF1⟩ := hrel
    obtain ⟨w1, rfl⟩ : ∃ w1, w1 = wr := ⟨wr, rfl⟩
    clear HO HX HF
    have bi : (i : Int) ≤ 1000002 := by have := HB.out; omega
    have bhi : (hi : Int) ≤ 1000001 := by have := HB.out; omega
    by_cases hl : i ≤ hi
    · have d1 : decide ((i : Int) ≤ (hi : Int)) = true := by simp; omega
      have d1' : decide (i ≤ hi) = true := by simp; omega
      obtain ⟨i', hi'⟩ : ∃ x, x = i + 1 := ⟨_, rfl⟩
      have si : (i : Int) + 1 = (i' : Int) := by omega
      have HI := Lib.hid (⟨hi1, hi2, hl, hi'⟩ : lo ≤ i ∧ i ≤ hi + 1 ∧ i ≤ hi ∧ i' = i + 1)
      have hsz : ys.size = n := by rw [HPe.out.1]; exact HN.out
      have in0 : i < n := by have := HB.out; omega
      clear hi1 hi2 hl hi'
      have CN := Lib.hid (next_any w1 sb s _ HX1.out)
      go_wp2_with fail
      (with_reducible refine CN.out.mono ?_)
      rintro e w2 ⟨s2, rfl, HS2, HX2, hF2⟩
      have HO2 := Lib.hid (HO1.out.fr hF2.out (fun e => HSB.out.2 e))
      have HF2 := Lib.hid (HF1.out.trans' hF2.out (fun j hj e => by have := HSB.out; omega))
      obtain ⟨o, ho⟩ : ∃ o : Nat, (o : Int) = bits .and .u64 s2 (m1 : Int) := ⟨(bits .and .u64 s2 (m1 : Int)).toNat, by have := and_bound s2 m1 HS2.out.1 HS2.out.2 (by omega) (by have := HM1.out; omega); omega⟩
      have hom : o ≤ m1 := by have := and_bound s2 m1 HS2.out.1 HS2.out.2 (by omega) (by have := HM1.out; omega); omega
      have ho' := ho.symm
      have bo : (o : Int) ≤ 2000000 := by have := HM1.out; omega
      clear ho
      by_cases hol : l ≤ o
      · have d2 : decide ((l : Int) ≤ (o : Int)) = true := by simp; omega
        have d2' : decide (l ≤ o) = true := by simp; omega
        obtain ⟨o2, ho2⟩ : ∃ x, x = o - l := ⟨_, rfl⟩
        have so : (o : Int) - (l : Int) = (o2 : Int) := by omega
        have bo2 : (o2 : Int) ≤ 2000000 := by omega
        obtain ⟨at_, hat⟩ : ∃ x, x = a + o2 := ⟨_, rfl⟩
        have sa : (a : Int) + (o2 : Int) = (at_ : Int) := by omega
        have hab : at_ < b := by have := HB.out; have := HM.out; have := HM1.out; omega
        have in1 : at_ < n := by have := HB.out; omega
        have ba2 : (at_ : Int) ≤ 1000000 := by omega
        clear hol hom ho2
        have c0 := HO2.out.cell i (by omega)
        have c1 := HO2.out.cell at_ (by omega)
        obtain ⟨x, hx⟩ : ∃ x, ys[i]! = x := ⟨_, rfl⟩
        obtain ⟨y, hy⟩ : ∃ y, ys[at_]! = y := ⟨_, rfl⟩
        rw [hx] at c0
        rw [hy] at c1
        have HXX := Lib.hid hx
        have HYY := Lib.hid hy
        have f0 := HO2.out.frozen i
        have f1 := HO2.out.frozen at_
        have c2 := (HO2.out.set_ i y).cell at_ (by rw [Array.size_setIfInBounds]; omega)
        have f2 := (HO2.out.set_ i y).frozen at_
        generalize (ys.setIfInBounds i y)[at_]! = v2 at c2
        have HSZ := Lib.hid hsz
        have HAT := Lib.hid (⟨hat, hab⟩ : at_ = a + o2 ∧ at_ < b)
        clear hx hy hsz hat hab
        go_upto_region 10 with fail
        go_region
        go_wp2
        go_roundw
        case rel => exact ⟨i', Sort.swp ys i at_, s2, by have := HI.out; omega, by have := HI.out; omega, rfl, Lib.hid (by rw [← HXX.out, ← HYY.out]; exact (HO2.out.swp i at_).drew), Lib.hid (Sort.permIn_trans _ _ _ _ _ HPe.out (Sort.swp_permIn _ _ _ _ _ (by have := HI.out; have := HB.out; omega) (by have := HI.out; have := HB.out; omega) (by have := HAT.out; omega) (by have := HAT.out; omega) (by have := HSZ.out; have := HB.out; omega))), Lib.hid (((HX2.out.far (p := ⟨g, i, none⟩) (fun e => HSB.out.2 e.symm) _).far (p := ⟨g, at_, none⟩) (fun e => HSB.out.2 e.symm) _).drew), Lib.hid (fr_swp HF2.out).drew⟩
        case measure => simp [intOf]; have := HI.out; omega
      · have d2 : decide ((l : Int) ≤ (o : Int)) = false := by simp; omega
        have d2' : decide (l ≤ o) = false := by simp; omega
        obtain ⟨at_, hat⟩ : ∃ x, x = a + o := ⟨_, rfl⟩
        have sa : (a : Int) + (o : Int) = (at_ : Int) := by omega
        have hab : at_ < b := by have := HB.out; omega
        have in1 : at_ < n := by have := HB.out; omega
        have ba2 : (at_ : Int) ≤ 1000000 := by omega
        clear hol hom
        have c0 := HO2.out.cell i (by omega)
        have c1 := HO2.out.cell at_ (by omega)
        obtain ⟨x, hx⟩ : ∃ x, ys[i]! = x := ⟨_, rfl⟩
        obtain ⟨y, hy⟩ : ∃ y, ys[at_]! = y := ⟨_, rfl⟩
        rw [hx] at c0
        rw [hy] at c1
        have HXX := Lib.hid hx
        have HYY := Lib.hid hy
        have f0 := HO2.out.frozen i
        have f1 := HO2.out.frozen at_
        have c2 := (HO2.out.set_ i y).cell at_ (by rw [Array.size_setIfInBounds]; omega)
        have f2 := (HO2.out.set_ i y).frozen at_
        generalize (ys.setIfInBounds i y)[at_]! = v2 at c2
        have HSZ := Lib.hid hsz
        have HAT := Lib.hid (⟨hat, hab⟩ : at_ = a + o ∧ at_ < b)
        clear hx hy hsz hat hab
        go_upto_region 10 with fail
        go_region
        go_wp2
        go_roundw
        case rel => exact ⟨i', Sort.swp ys i at_, s2, by have := HI.out; omega, by have := HI.out; omega, rfl, Lib.hid (by rw [← HXX.out, ← HYY.out]; exact (HO2.out.swp i at_).drew), Lib.hid (Sort.permIn_trans _ _ _ _ _ HPe.out (Sort.swp_permIn _ _ _ _ _ (by have := HI.out; have := HB.out; omega) (by have := HI.out; have := HB.out; omega) (by have := HAT.out; omega) (by have := HAT.out; omega) (by have := HSZ.out; have := HB.out; omega))), Lib.hid (((HX2.out.far (p := ⟨g, i, none⟩) (fun e => HSB.out.2 e.symm) _).far (p := ⟨g, at_, none⟩) (fun e => HSB.out.2 e.symm) _).drew), Lib.hid (fr_swp HF2.out).drew⟩
        case measure => simp [intOf]; have := HI.out; omega
    · have d1 : decide ((i : Int) ≤ (hi : Int)) = false := by simp; omega
      have d1' : decide (i ≤ hi) = false := by simp; omega
      go_wp2
      go_end0
      exact ⟨rfl, ⟨ys, HO1.out, HPe.out⟩, HF1.out⟩
end Go.Proofs.Ytpndcpmfcajmdaa.Srt
