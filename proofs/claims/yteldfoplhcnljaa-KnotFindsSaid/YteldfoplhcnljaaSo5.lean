import Derived.Test.YteldfoplhcnljaaSo4
import Derived.Deep.CutRange
import Derived.Deep.CutBlock
/- A part of a row is parted at one of its numbers. -/
namespace Go.Proofs.Yteldfoplhcnljaa.Srt
open Go.ChangeShapes Go.WideShapes Go.ChangeAt Go.RowKit Go.IntWalk Go.Proofs.Mem
set_option linter.unusedVariables false
theorem up_go {p : Int → Bool} {d : Array Int} {i j i' : Nat} (e : i + 1 = i') (h : i ≤ j) (hp : p d[i]! = true) : Sort.scanUp p d j i = Sort.scanUp p d j i' := by
  subst e; rw [Sort.scanUp, if_pos (by simp [hp, h])]
theorem up_no {p : Int → Bool} {d : Array Int} {i j : Nat} (hp : p d[i]! = false) : Sort.scanUp p d j i = i := by
  rw [Sort.scanUp, if_neg (by simp [hp])]
theorem up_end {p : Int → Bool} {d : Array Int} {i j : Nat} (h : ¬ i ≤ j) : Sort.scanUp p d j i = i := by
  rw [Sort.scanUp, if_neg (by simp; intro h1; omega)]
theorem dn_go {p : Int → Bool} {d : Array Int} {i j j' : Nat} (e : j = j' + 1) (h : i ≤ j) (hp : p d[j]! = true) : Sort.scanDown p d i j = Sort.scanDown p d i j' := by
  subst e; rw [Sort.scanDown, if_pos (by simp [hp, h])]
theorem dn_no {p : Int → Bool} {d : Array Int} {i j : Nat} (hp : p d[j]! = false) : Sort.scanDown p d i j = j := by
  cases j with
  | zero => rfl
  | succ j => rw [Sort.scanDown, if_neg (by simp [hp])]
theorem dn_end {p : Int → Bool} {d : Array Int} {i j : Nat} (h : ¬ i ≤ j) : Sort.scanDown p d i j = j := by
  cases j with
  | zero => rfl
  | succ j => rw [Sort.scanDown, if_neg (by simp; intro h1; omega)]
set_option maxRecDepth 100000 in
set_option maxHeartbeats 8000000 in
theorem part_any (w : World) (g n cap a b p : Nat) (d : Array Int) (h : RA w g cap d) (hn : d.size = n) (h0 : n ≤ 1000000) (h1 : a ≤ p) (h2 : p < b) (h3 : b ≤ n) :
    Calls Try.prog 37 #[.slice (some ⟨g, 0, none⟩) n cap, .int .i64 a, .int .i64 b, .int .i64 p] w fun e w' => e = .returned (.tuple #[.int .i64 (Sort.partition lt d a b p).1, .bool (Sort.partition lt d a b p).2.1]) ∧ RA w' g cap (Sort.partition lt d a b p).2.2 ∧ Fr (fun x => x = g) w w' := by
  have HR := Lib.hid h
  have HN := Lib.hid hn
  have HF := Lib.hid (Fr.refl (fun x => x = g) w)
  obtain ⟨R, hR⟩ : ∃ R, Sort.partition lt d a b p = R := ⟨_, rfl⟩
  rw [hR]
  obtain ⟨ys, hys⟩ : ∃ ys, ys = Sort.swp d a p := ⟨_, rfl⟩
  obtain ⟨a1, ha1⟩ : ∃ x, x = a + 1 := ⟨_, rfl⟩
  obtain ⟨b1, hb1⟩ : ∃ x, x = b - 1 := ⟨_, rfl⟩
  obtain ⟨I, hI⟩ : ∃ I, Sort.scanUp (fun x => lt x ys[a]!) ys b1 a1 = I := ⟨_, rfl⟩
  obtain ⟨J, hJ⟩ : ∃ J, Sort.scanDown (fun x => !lt x ys[a]!) ys I b1 = J := ⟨_, rfl⟩
  have HS1 := Lib.hid hI
  have HS2 := Lib.hid hJ
  have HRR := Lib.hid (show (if I > J then (J, true, Sort.swp ys J a) else ((Sort.partLoop lt a (I + 1) (J - 1) (Sort.swp ys I J)).1, false, Sort.swp (Sort.partLoop lt a (I + 1) (J - 1) (Sort.swp ys I J)).2 (Sort.partLoop lt a (I + 1) (J - 1) (Sort.swp ys I J)).1 a)) = R by
    rw [← hR, ← hJ, ← hI, hys, ha1, hb1]; rfl)
  have s1 : (a : Int) + 1 = (a1 : Int) := by omega
  have s2 : (b : Int) - 1 = (b1 : Int) := by omega
  have ba : (a : Int) ≤ 1000000 := by omega
  have bb : (b : Int) ≤ 1000000 := by omega
  have in1 : a < n := by omega
  have in2 : p < n := by omega
  have HB := Lib.hid (⟨h0, h1, h2, h3, ha1, hb1⟩ : n ≤ 1000000 ∧ a ≤ p ∧ p < b ∧ b ≤ n ∧ a1 = a + 1 ∧ b1 = b - 1)
  have hab : a1 ≤ b1 + 1 := by omega
  have HYS := Lib.hid hys
  have HZ := Lib.hid (show ys.size = n by rw [hys, Sort.swp_size]; exact hn)
  clear h hn hR hys hI hJ h0 h1 h2 h3 ha1 hb1
  go_enter Try.func37, Try.ntmps37
  have c0 := HR.out.cell a (by have := HN.out; omega)
  have c1 := HR.out.cell p (by have := HN.out; omega)
  obtain ⟨x, hx⟩ : ∃ x, d[a]! = x := ⟨_, rfl⟩
  obtain ⟨y, hy⟩ : ∃ y, d[p]! = y := ⟨_, rfl⟩
  rw [hx] at c0
  rw [hy] at c1
  have HXX := Lib.hid hx
  have HYY := Lib.hid hy
  have f0 := HR.out.frozen a
  have f1 := HR.out.frozen p
  have c2 := (HR.out.set_ a y).cell p (by rw [Array.size_setIfInBounds]; have := HN.out; omega)
  have f2 := (HR.out.set_ a y).frozen p
  generalize (d.setIfInBounds a y)[p]! = v2 at c2
  clear hx hy
  go_upto_region 1 with fail
  go_region
  have HO1 := Lib.hid (show RA ((w.setCell ⟨g, a, none⟩ (.int .u32 y)).setCell ⟨g, p, none⟩ (.int .u32 x)) g cap ys by rw [HYS.out, ← HXX.out, ← HYY.out]; exact HR.out.swp a p)
  have HF1 := Lib.hid (show Fr (fun x => x = g) w ((w.setCell ⟨g, a, none⟩ (.int .u32 y)).setCell ⟨g, p, none⟩ (.int .u32 x)) from fr_swp HF.out)
  clear c0 c1 f0 f1 c2 f2 HR
  go_upto_block 0 with fail
  have HO2 := Lib.hid HO1.out.drew
  have HF2 := Lib.hid HF1.out.drew
  clear HO1 HF1
  generalize World.drew _ = w2 at *
  go_cut [10] from 30 to 45 (fun s wx => s = .int .i64 I ∧ a1 ≤ I ∧ I ≤ b1 + 2 ∧ Hid (RA wx g cap ys) ∧ Hid (Fr (fun x => x = g) w wx))
  case first =>
    go_wp2_with fail
    go_loopw [10] (fun s wr => ∃ k : Nat, a1 ≤ k ∧ k ≤ b1 + 2 ∧ s = .int .i64 k ∧ Hid (RA wr g cap ys) ∧ Hid (Sort.scanUp (fun x => lt x ys[a]!) ys b1 k = I) ∧ Hid (Fr (fun x => x = g) w wr)) (fun s _ => b1 + 2 - (intOf s).toNat)
    case atStart => exact ⟨a1, by omega, by omega, rfl, HO2, HS1, HF2⟩
    case round =>
      obtain ⟨k, hk1, hk2, rfl, HO', HE, HF'⟩ := hrel
      obtain ⟨wv, rfl⟩ : ∃ wv, wv = wr := ⟨wr, rfl⟩
      have bk : (k : Int) ≤ 1000002 := by have := HB.out; omega
      by_cases hl : k ≤ b1
      · have d1 : decide ((k : Int) ≤ (b1 : Int)) = true := by simp; omega
        have d2 : decide (k ≤ b1) = true := by simp; omega
        obtain ⟨k', hk'⟩ : ∃ k', k' = k + 1 := ⟨k + 1, rfl⟩
        have sk : (k : Int) + 1 = (k' : Int) := by omega
        have i1 : k < n := by have := HB.out; omega
        have i0 : a < n := by have := HB.out; omega
        have ca := HO'.out.cell a (by have := HZ.out; omega)
        have ck := HO'.out.cell k (by have := HZ.out; omega)
        obtain ⟨x, hx⟩ : ∃ x, ys[k]! = x := ⟨_, rfl⟩
        obtain ⟨pv, hpv⟩ : ∃ x, ys[a]! = x := ⟨_, rfl⟩
        rw [hx] at ck
        rw [hpv] at ca
        have HXX := Lib.hid hx
        have HPV := Lib.hid hpv
        have HK := Lib.hid (⟨hk', hk1, hk2, hl⟩ : k' = k + 1 ∧ a1 ≤ k ∧ k ≤ b1 + 2 ∧ k ≤ b1)
        obtain ⟨q, hq⟩ : ∃ q, lt x pv = q := ⟨_, rfl⟩
        have HQ := Lib.hid hq
        clear hx hpv hk' hk1 hk2 hl
        cases q with
        | true =>
          have CL := less_as _ _ hq
          clear hq
          go_upto_region 3 with fail
          go_quiet (first | (go_at_call 25; exact quiet_l (CL.out _)))
          go_wp2
          go_roundw
          case rel => exact ⟨k', by have := HK.out; omega, by have := HK.out; omega, rfl, Lib.hid (HO'.out.drewN _), Lib.hid ((up_go HK.out.1.symm (by have := HK.out; omega) (by have h1 := HXX.out; have h2 := HPV.out; have h3 := HQ.out; show (lt ys[k]! ys[a]!) = true; rw [h1, h2, h3] <;> rfl)).symm.trans HE.out), Lib.hid (HF'.out.drewN _)⟩
          case measure => simp [intOf]; have := HK.out; omega
        | false =>
          have CL := less_as _ _ hq
          clear hq
          have e1 := Lib.hid (show k = I by rw [← HE.out, up_no (by have h1 := HXX.out; have h2 := HPV.out; have h3 := HQ.out; show (lt ys[k]! ys[a]!) = false; rw [h1, h2, h3] <;> rfl)])
          go_upto_region 3 with fail
          go_quiet (first | (go_at_call 25; exact quiet_l (CL.out _)))
          go_wp2
          go_meet
          exact ⟨by rw [e1.out], by have := e1.out; have := HK.out; omega, by have := e1.out; have := HK.out; omega, Lib.hid (HO'.out.drewN _), Lib.hid (HF'.out.drewN _)⟩
      · have d1 : decide ((k : Int) ≤ (b1 : Int)) = false := by simp; omega
        have d2 : decide (k ≤ b1) = false := by simp; omega
        have e1 := Lib.hid (show k = I by rw [← HE.out, up_end hl])
        have HK := Lib.hid (⟨hk1, hk2⟩ : a1 ≤ k ∧ k ≤ b1 + 2)
        clear hk1 hk2 hl
        go_upto_region 3 with fail
        go_quiet (fail)
        go_wp2
        go_meet
        exact ⟨by rw [e1.out], by have := e1.out; have := HK.out; omega, by have := e1.out; have := HK.out; omega, Lib.hid (HO'.out.drewN _), Lib.hid (HF'.out.drewN _)⟩
  case rest =>
    obtain ⟨rfl, hI1, hI2, HO3, HF3⟩ := hcut
    obtain ⟨w3, rfl⟩ : ∃ x, x = wc := ⟨wc, rfl⟩
    clear HS1 HO2 HF2
    go_upto_block 2 with fail
    go_cut [11] from 46 to 62 (fun s wx => s = .int .i64 J ∧ I ≤ J + 2 ∧ J ≤ b1 ∧ Hid (RA wx g cap ys) ∧ Hid (Fr (fun x => x = g) w wx))
    case first =>
      go_wp2_with fail
      go_loopw [11] (fun s wr => ∃ k : Nat, I ≤ k + 2 ∧ k ≤ b1 ∧ s = .int .i64 k ∧ Hid (RA wr g cap ys) ∧ Hid (Sort.scanDown (fun x => !lt x ys[a]!) ys I k = J) ∧ Hid (Fr (fun x => x = g) w wr)) (fun s _ => (intOf s).toNat)
      case atStart => exact ⟨b1, by omega, by omega, rfl, HO3, HS2, HF3⟩
      case round =>
        obtain ⟨k, hk1, hk2, rfl, HO', HE, HF'⟩ := hrel
        obtain ⟨wv, rfl⟩ : ∃ wv, wv = wr := ⟨wr, rfl⟩
        have bk : (k : Int) ≤ 1000002 := by have := HB.out; omega
        by_cases hl : I ≤ k
        · have d1 : decide ((I : Int) ≤ (k : Int)) = true := by simp; omega
          have d2 : decide (I ≤ k) = true := by simp; omega
          obtain ⟨k', hk'⟩ : ∃ k', k = k' + 1 := ⟨k - 1, by omega⟩
          have sk : (k : Int) - 1 = (k' : Int) := by omega
          have i1 : k < n := by have := HB.out; omega
          have i0 : a < n := by have := HB.out; omega
          have ca := HO'.out.cell a (by have := HZ.out; omega)
          have ck := HO'.out.cell k (by have := HZ.out; omega)
          obtain ⟨x, hx⟩ : ∃ x, ys[k]! = x := ⟨_, rfl⟩
          obtain ⟨pv, hpv⟩ : ∃ x, ys[a]! = x := ⟨_, rfl⟩
          rw [hx] at ck
          rw [hpv] at ca
          have HXX := Lib.hid hx
          have HPV := Lib.hid hpv
          have HK := Lib.hid (⟨hk', hk1, hk2, hl⟩ : k = k' + 1 ∧ I ≤ k + 2 ∧ k ≤ b1 ∧ I ≤ k)
          obtain ⟨q, hq⟩ : ∃ q, lt x pv = q := ⟨_, rfl⟩
          have HQ := Lib.hid hq
          clear hx hpv hk' hk1 hk2 hl
          cases q with
          | false =>
            have CL := less_as _ _ hq
            clear hq
            go_upto_region 5 with fail
            go_quiet (first | (go_at_call 25; exact quiet_l (CL.out _)))
            go_wp2
            go_roundw
            case rel => exact ⟨k', by have := HK.out; omega, by have := HK.out; omega, rfl, Lib.hid (HO'.out.drewN _), Lib.hid ((dn_go HK.out.1 (by have := HK.out; omega) (by have h1 := HXX.out; have h2 := HPV.out; have h3 := HQ.out; show (!lt ys[k]! ys[a]!) = true; rw [h1, h2, h3] <;> rfl)).symm.trans HE.out), Lib.hid (HF'.out.drewN _)⟩
            case measure => simp [intOf]; have := HK.out; omega
          | true =>
            have CL := less_as _ _ hq
            clear hq
            have e1 := Lib.hid (show k = J by rw [← HE.out, dn_no (by have h1 := HXX.out; have h2 := HPV.out; have h3 := HQ.out; show (!lt ys[k]! ys[a]!) = false; rw [h1, h2, h3] <;> rfl)])
            go_upto_region 5 with fail
            go_quiet (first | (go_at_call 25; exact quiet_l (CL.out _)))
            go_wp2
            go_meet
            exact ⟨by rw [e1.out], by have := e1.out; have := HK.out; omega, by have := e1.out; have := HK.out; omega, Lib.hid (HO'.out.drewN _), Lib.hid (HF'.out.drewN _)⟩
        · have d1 : decide ((I : Int) ≤ (k : Int)) = false := by simp; omega
          have d2 : decide (I ≤ k) = false := by simp; omega
          have e1 := Lib.hid (show k = J by rw [← HE.out, dn_end hl])
          have HK := Lib.hid (⟨hk1, hk2⟩ : I ≤ k + 2 ∧ k ≤ b1)
          clear hk1 hk2 hl
          go_upto_region 5 with fail
          go_quiet (fail)
          go_wp2
          go_meet
          exact ⟨by rw [e1.out], by have := e1.out; have := HK.out; omega, by have := e1.out; have := HK.out; omega, Lib.hid (HO'.out.drewN _), Lib.hid (HF'.out.drewN _)⟩
    case rest =>
      obtain ⟨rfl, hJ1, hJ2, HO4, HF4⟩ := hcut
      obtain ⟨w4, rfl⟩ : ∃ x, x = wc := ⟨wc, rfl⟩
      clear HS2 HO3 HF3
      have bI : (I : Int) ≤ 1000001 := by have := HB.out; omega
      have bJ : (J : Int) ≤ 1000001 := by have := HB.out; omega
      have iJ : J < n := by have := HB.out; omega
      by_cases hl : J < I
      · have d1 : decide ((J : Int) < (I : Int)) = true := by simp; omega
        have d2 : decide (J < I) = true := by simp; omega
        have hRR : (J, true, Sort.swp ys J a) = R := by rw [← HRR.out, if_pos hl]
        clear HRR
        subst hRR
        have c0 := HO4.out.cell J (by have := HZ.out; omega)
        have c1 := HO4.out.cell a (by have := HZ.out; omega)
        obtain ⟨x, hx⟩ : ∃ x, ys[J]! = x := ⟨_, rfl⟩
        obtain ⟨y, hy⟩ : ∃ y, ys[a]! = y := ⟨_, rfl⟩
        rw [hx] at c0
        rw [hy] at c1
        have HXX := Lib.hid hx
        have HYY := Lib.hid hy
        have f0 := HO4.out.frozen J
        have f1 := HO4.out.frozen a
        have c2 := (HO4.out.set_ J y).cell a (by rw [Array.size_setIfInBounds]; have := HZ.out; omega)
        have f2 := (HO4.out.set_ J y).frozen a
        generalize (ys.setIfInBounds J y)[a]! = v2 at c2
        clear hx hy
        go_upto_region 8 with fail
        go_region
        go_wp2
        go_ret2
        exact ⟨rfl, by rw [← HXX.out, ← HYY.out]; exact (HO4.out.swp J a).drew, (fr_swp HF4.out).drew⟩
      · have d1 : decide ((J : Int) < (I : Int)) = false := by simp; omega
        have d2 : decide (J < I) = false := by simp; omega
        obtain ⟨m, zf, hmz⟩ : ∃ m zf, Sort.partLoop lt a (I + 1) (J - 1) (Sort.swp ys I J) = (m, zf) := ⟨_, _, rfl⟩
        have hRR : (m, false, Sort.swp zf m a) = R := by rw [← HRR.out, if_neg hl, hmz]
        clear HRR
        subst hRR
        have HMZ := Lib.hid hmz
        obtain ⟨I', hI'⟩ : ∃ x, x = I + 1 := ⟨_, rfl⟩
        obtain ⟨J', hJ'⟩ : ∃ x, x = J - 1 := ⟨_, rfl⟩
        rw [← hI', ← hJ'] at HMZ
        have sI : (I : Int) + 1 = (I' : Int) := by omega
        have sJ : (J : Int) - 1 = (J' : Int) := by omega
        have iI : I < n := by have := HB.out; omega
        have HIJ := Lib.hid (⟨hI', hJ', hl, hI1, hI2, hJ1, hJ2⟩ : I' = I + 1 ∧ J' = J - 1 ∧ ¬ J < I ∧ a1 ≤ I ∧ I ≤ b1 + 2 ∧ I ≤ J + 2 ∧ J ≤ b1)
        clear hmz hI' hJ' hl hI1 hI2 hJ1 hJ2
        have c0 := HO4.out.cell I (by have := HZ.out; omega)
        have c1 := HO4.out.cell J (by have := HZ.out; omega)
        obtain ⟨x, hx⟩ : ∃ x, ys[I]! = x := ⟨_, rfl⟩
        obtain ⟨y, hy⟩ : ∃ y, ys[J]! = y := ⟨_, rfl⟩
        rw [hx] at c0
        rw [hy] at c1
        have HXX := Lib.hid hx
        have HYY := Lib.hid hy
        have f0 := HO4.out.frozen I
        have f1 := HO4.out.frozen J
        have c2 := (HO4.out.set_ I y).cell J (by rw [Array.size_setIfInBounds]; have := HZ.out; omega)
        have f2 := (HO4.out.set_ I y).frozen J
        generalize (ys.setIfInBounds I y)[J]! = v2 at c2
        clear hx hy
        go_upto_region 10 with fail
        go_region
        have HO5 := Lib.hid (show RA ((w4.setCell ⟨g, I, none⟩ (.int .u32 y)).setCell ⟨g, J, none⟩ (.int .u32 x)) g cap (Sort.swp ys I J) by rw [← HXX.out, ← HYY.out]; exact HO4.out.swp I J)
        have HF5 := Lib.hid (show Fr (fun x => x = g) w ((w4.setCell ⟨g, I, none⟩ (.int .u32 y)).setCell ⟨g, J, none⟩ (.int .u32 x)) from fr_swp HF4.out)
        have HZ5 := Lib.hid (show (Sort.swp ys I J).size = n by rw [Sort.swp_size]; exact HZ.out)
        clear c0 c1 f0 f1 c2 f2 HO4 HF4
        go_wp2
        have HO6 := Lib.hid HO5.out.drew
        have HF6 := Lib.hid HF5.out.drew
        clear HO5 HF5 HXX HYY
        generalize World.drew _ = w5 at *
        generalize Sort.swp ys I J = y5 at *
        clear HZ HYS
        go_loopw [10, 11] (fun s t wr => ∃ (i j : Nat) (zs : Array Int), a < i ∧ i ≤ j + 2 ∧ j < b ∧ s = .int .i64 i ∧ t = .int .i64 j ∧ Hid (RA wr g cap zs) ∧ Hid (zs.size = n) ∧ Hid (Sort.partLoop lt a i j zs = (m, zf)) ∧ Hid (Fr (fun x => x = g) w wr)) (fun s t _ => (intOf t).toNat + 2 - (intOf s).toNat)
        case atStart => exact ⟨I', J', y5, by have := HIJ.out; have := HB.out; omega, by have := HIJ.out; have := HB.out; omega, by have := HIJ.out; have := HB.out; omega, rfl, rfl, HO6, HZ5, HMZ, HF6⟩
        case round =>
          obtain ⟨i, j, zs, hi1, hi2, hj, rfl, rfl, HO7, HZ, HE7, HF7⟩ := hrel
          obtain ⟨w7, rfl⟩ : ∃ w7, w7 = wr := ⟨wr, rfl⟩
          clear HO6 HZ5 HMZ HF6
          have bi : (i : Int) ≤ 1000002 := by have := HB.out; omega
          have bj : (j : Int) ≤ 1000000 := by have := HB.out; omega
          obtain ⟨I2, hI2⟩ : ∃ I, Sort.scanUp (fun x => lt x zs[a]!) zs j i = I := ⟨_, rfl⟩
          obtain ⟨J2, hJ2⟩ : ∃ J, Sort.scanDown (fun x => !lt x zs[a]!) zs I2 j = J := ⟨_, rfl⟩
          have HS1 := Lib.hid hI2
          have HS2 := Lib.hid hJ2
          have HPL := Lib.hid (show (if I2 > J2 then (J2, zs) else Sort.partLoop lt a (I2 + 1) (J2 - 1) (Sort.swp zs I2 J2)) = (m, zf) by have h := Sort.partLoop_eq lt a i j zs; rw [hI2, hJ2] at h; exact h.symm.trans HE7.out)
          clear hI2 hJ2 HE7
          go_upto_block 6 with fail
          go_cut [10] from 99 to 114 (fun s wx => s = .int .i64 I2 ∧ i ≤ I2 ∧ I2 ≤ j + 2 ∧ Hid (RA wx g cap zs) ∧ Hid (Fr (fun x => x = g) w wx))
          case first =>
            go_wp2_with fail
            go_loopw [10] (fun s wr => ∃ k : Nat, i ≤ k ∧ k ≤ j + 2 ∧ s = .int .i64 k ∧ Hid (RA wr g cap zs) ∧ Hid (Sort.scanUp (fun x => lt x zs[a]!) zs j k = I2) ∧ Hid (Fr (fun x => x = g) w wr)) (fun s _ => j + 2 - (intOf s).toNat)
            case atStart => exact ⟨i, by omega, by omega, rfl, HO7, HS1, HF7⟩
            case round =>
              obtain ⟨k, hk1, hk2, rfl, HO', HE, HF'⟩ := hrel
              obtain ⟨wv, rfl⟩ : ∃ wv, wv = wr := ⟨wr, rfl⟩
              have bk : (k : Int) ≤ 1000002 := by have := HB.out; omega
              by_cases hl : k ≤ j
              · have d1 : decide ((k : Int) ≤ (j : Int)) = true := by simp; omega
                have d2 : decide (k ≤ j) = true := by simp; omega
                obtain ⟨k', hk'⟩ : ∃ k', k' = k + 1 := ⟨k + 1, rfl⟩
                have sk : (k : Int) + 1 = (k' : Int) := by omega
                have i1 : k < n := by have := HB.out; omega
                have i0 : a < n := by have := HB.out; omega
                have ca := HO'.out.cell a (by have := HZ.out; omega)
                have ck := HO'.out.cell k (by have := HZ.out; omega)
                obtain ⟨x, hx⟩ : ∃ x, zs[k]! = x := ⟨_, rfl⟩
                obtain ⟨pv, hpv⟩ : ∃ x, zs[a]! = x := ⟨_, rfl⟩
                rw [hx] at ck
                rw [hpv] at ca
                have HXX := Lib.hid hx
                have HPV := Lib.hid hpv
                have HK := Lib.hid (⟨hk', hk1, hk2, hl⟩ : k' = k + 1 ∧ i ≤ k ∧ k ≤ j + 2 ∧ k ≤ j)
                obtain ⟨q, hq⟩ : ∃ q, lt x pv = q := ⟨_, rfl⟩
                have HQ := Lib.hid hq
                clear hx hpv hk' hk1 hk2 hl
                cases q with
                | true =>
                  have CL := less_as _ _ hq
                  clear hq
                  go_upto_region 13 with fail
                  go_quiet (first | (go_at_call 25; exact quiet_l (CL.out _)))
                  go_wp2
                  go_roundw
                  case rel => exact ⟨k', by have := HK.out; omega, by have := HK.out; omega, rfl, Lib.hid (HO'.out.drewN _), Lib.hid ((up_go HK.out.1.symm (by have := HK.out; omega) (by have h1 := HXX.out; have h2 := HPV.out; have h3 := HQ.out; show (lt zs[k]! zs[a]!) = true; rw [h1, h2, h3] <;> rfl)).symm.trans HE.out), Lib.hid (HF'.out.drewN _)⟩
                  case measure => simp [intOf]; have := HK.out; omega
                | false =>
                  have CL := less_as _ _ hq
                  clear hq
                  have e1 := Lib.hid (show k = I2 by rw [← HE.out, up_no (by have h1 := HXX.out; have h2 := HPV.out; have h3 := HQ.out; show (lt zs[k]! zs[a]!) = false; rw [h1, h2, h3] <;> rfl)])
                  go_upto_region 13 with fail
                  go_quiet (first | (go_at_call 25; exact quiet_l (CL.out _)))
                  go_wp2
                  go_meet
                  exact ⟨by rw [e1.out], by have := e1.out; have := HK.out; omega, by have := e1.out; have := HK.out; omega, Lib.hid (HO'.out.drewN _), Lib.hid (HF'.out.drewN _)⟩
              · have d1 : decide ((k : Int) ≤ (j : Int)) = false := by simp; omega
                have d2 : decide (k ≤ j) = false := by simp; omega
                have e1 := Lib.hid (show k = I2 by rw [← HE.out, up_end hl])
                have HK := Lib.hid (⟨hk1, hk2⟩ : i ≤ k ∧ k ≤ j + 2)
                clear hk1 hk2 hl
                go_upto_region 13 with fail
                go_quiet (fail)
                go_wp2
                go_meet
                exact ⟨by rw [e1.out], by have := e1.out; have := HK.out; omega, by have := e1.out; have := HK.out; omega, Lib.hid (HO'.out.drewN _), Lib.hid (HF'.out.drewN _)⟩
          case rest =>
            obtain ⟨rfl, hI1, hI2, HO3, HF3⟩ := hcut
            obtain ⟨w3, rfl⟩ : ∃ x, x = wc := ⟨wc, rfl⟩
            clear HS1
            go_upto_block 8 with fail
            go_cut [11] from 115 to 131 (fun s wx => s = .int .i64 J2 ∧ I2 ≤ J2 + 2 ∧ J2 ≤ j ∧ Hid (RA wx g cap zs) ∧ Hid (Fr (fun x => x = g) w wx))
            case first =>
              go_wp2_with fail
              go_loopw [11] (fun s wr => ∃ k : Nat, I2 ≤ k + 2 ∧ k ≤ j ∧ s = .int .i64 k ∧ Hid (RA wr g cap zs) ∧ Hid (Sort.scanDown (fun x => !lt x zs[a]!) zs I2 k = J2) ∧ Hid (Fr (fun x => x = g) w wr)) (fun s _ => (intOf s).toNat)
              case atStart => exact ⟨j, by omega, by omega, rfl, HO3, HS2, HF3⟩
              case round =>
                obtain ⟨k, hk1, hk2, rfl, HO', HE, HF'⟩ := hrel
                obtain ⟨wv, rfl⟩ : ∃ wv, wv = wr := ⟨wr, rfl⟩
                have bk : (k : Int) ≤ 1000002 := by have := HB.out; omega
                by_cases hl : I2 ≤ k
                · have d1 : decide ((I2 : Int) ≤ (k : Int)) = true := by simp; omega
                  have d2 : decide (I2 ≤ k) = true := by simp; omega
                  obtain ⟨k', hk'⟩ : ∃ k', k = k' + 1 := ⟨k - 1, by omega⟩
                  have sk : (k : Int) - 1 = (k' : Int) := by omega
                  have i1 : k < n := by have := HB.out; omega
                  have i0 : a < n := by have := HB.out; omega
                  have ca := HO'.out.cell a (by have := HZ.out; omega)
                  have ck := HO'.out.cell k (by have := HZ.out; omega)
                  obtain ⟨x, hx⟩ : ∃ x, zs[k]! = x := ⟨_, rfl⟩
                  obtain ⟨pv, hpv⟩ : ∃ x, zs[a]! = x := ⟨_, rfl⟩
                  rw [hx] at ck
                  rw [hpv] at ca
                  have HXX := Lib.hid hx
                  have HPV := Lib.hid hpv
                  have HK := Lib.hid (⟨hk', hk1, hk2, hl⟩ : k = k' + 1 ∧ I2 ≤ k + 2 ∧ k ≤ j ∧ I2 ≤ k)
                  obtain ⟨q, hq⟩ : ∃ q, lt x pv = q := ⟨_, rfl⟩
                  have HQ := Lib.hid hq
                  clear hx hpv hk' hk1 hk2 hl
                  cases q with
                  | false =>
                    have CL := less_as _ _ hq
                    clear hq
                    go_upto_region 15 with fail
                    go_quiet (first | (go_at_call 25; exact quiet_l (CL.out _)))
                    go_wp2
                    go_roundw
                    case rel => exact ⟨k', by have := HK.out; omega, by have := HK.out; omega, rfl, Lib.hid (HO'.out.drewN _), Lib.hid ((dn_go HK.out.1 (by have := HK.out; omega) (by have h1 := HXX.out; have h2 := HPV.out; have h3 := HQ.out; show (!lt zs[k]! zs[a]!) = true; rw [h1, h2, h3] <;> rfl)).symm.trans HE.out), Lib.hid (HF'.out.drewN _)⟩
                    case measure => simp [intOf]; have := HK.out; omega
                  | true =>
                    have CL := less_as _ _ hq
                    clear hq
                    have e1 := Lib.hid (show k = J2 by rw [← HE.out, dn_no (by have h1 := HXX.out; have h2 := HPV.out; have h3 := HQ.out; show (!lt zs[k]! zs[a]!) = false; rw [h1, h2, h3] <;> rfl)])
                    go_upto_region 15 with fail
                    go_quiet (first | (go_at_call 25; exact quiet_l (CL.out _)))
                    go_wp2
                    go_meet
                    exact ⟨by rw [e1.out], by have := e1.out; have := HK.out; omega, by have := e1.out; have := HK.out; omega, Lib.hid (HO'.out.drewN _), Lib.hid (HF'.out.drewN _)⟩
                · have d1 : decide ((I2 : Int) ≤ (k : Int)) = false := by simp; omega
                  have d2 : decide (I2 ≤ k) = false := by simp; omega
                  have e1 := Lib.hid (show k = J2 by rw [← HE.out, dn_end hl])
                  have HK := Lib.hid (⟨hk1, hk2⟩ : I2 ≤ k + 2 ∧ k ≤ j)
                  clear hk1 hk2 hl
                  go_upto_region 15 with fail
                  go_quiet (fail)
                  go_wp2
                  go_meet
                  exact ⟨by rw [e1.out], by have := e1.out; have := HK.out; omega, by have := e1.out; have := HK.out; omega, Lib.hid (HO'.out.drewN _), Lib.hid (HF'.out.drewN _)⟩
            case rest =>
              obtain ⟨rfl, hJ1, hJ2, HO4, HF4⟩ := hcut
              obtain ⟨w4, rfl⟩ : ∃ x, x = wc := ⟨wc, rfl⟩
              clear HS2 HO3 HF3
              have bI : (I2 : Int) ≤ 1000002 := by have := HB.out; omega
              have bJ : (J2 : Int) ≤ 1000002 := by have := HB.out; omega
              have iJ : J2 < n := by have := HB.out; omega
              by_cases hl : J2 < I2
              · have d1 : decide ((J2 : Int) < (I2 : Int)) = true := by simp; omega
                have d2 : decide (J2 < I2) = true := by simp; omega
                have hRR : (J2, zs) = (m, zf) := by rw [← HPL.out, if_pos hl]
                clear HPL
                injection hRR with e1 e2
                subst e1 e2
                have c0 := HO4.out.cell J2 (by have := HZ.out; omega)
                have c1 := HO4.out.cell a (by have := HZ.out; omega)
                obtain ⟨x, hx⟩ : ∃ x, zs[J2]! = x := ⟨_, rfl⟩
                obtain ⟨y, hy⟩ : ∃ y, zs[a]! = y := ⟨_, rfl⟩
                rw [hx] at c0
                rw [hy] at c1
                have HXX := Lib.hid hx
                have HYY := Lib.hid hy
                have f0 := HO4.out.frozen J2
                have f1 := HO4.out.frozen a
                have c2 := (HO4.out.set_ J2 y).cell a (by rw [Array.size_setIfInBounds]; have := HZ.out; omega)
                have f2 := (HO4.out.set_ J2 y).frozen a
                generalize (zs.setIfInBounds J2 y)[a]! = v2 at c2
                clear hx hy
                go_upto_region 21 with fail
                go_region
                go_wp2
                go_ret2
                exact ⟨rfl, by rw [← HXX.out, ← HYY.out]; exact (HO4.out.swp J2 a).drew, (fr_swp HF4.out).drew⟩
              · have d1 : decide ((J2 : Int) < (I2 : Int)) = false := by simp; omega
                have d2 : decide (J2 < I2) = false := by simp; omega
                have HPM := Lib.hid (show Sort.partLoop lt a (I2 + 1) (J2 - 1) (Sort.swp zs I2 J2) = (m, zf) by rw [← HPL.out, if_neg hl])
                obtain ⟨I', hI'⟩ : ∃ x, x = I2 + 1 := ⟨_, rfl⟩
                obtain ⟨J', hJ'⟩ : ∃ x, x = J2 - 1 := ⟨_, rfl⟩
                rw [← hI', ← hJ'] at HPM
                have sI : (I2 : Int) + 1 = (I' : Int) := by omega
                have sJ : (J2 : Int) - 1 = (J' : Int) := by omega
                have iI : I2 < n := by have := HB.out; omega
                have HIJ := Lib.hid (⟨hI', hJ', hl, hI1, hI2, hJ1, hJ2, hi1, hi2, hj⟩ : I' = I2 + 1 ∧ J' = J2 - 1 ∧ ¬ J2 < I2 ∧ i ≤ I2 ∧ I2 ≤ j + 2 ∧ I2 ≤ J2 + 2 ∧ J2 ≤ j ∧ a < i ∧ i ≤ j + 2 ∧ j < b)
                clear hI' hJ' hl hI1 hI2 hJ1 hJ2 HPL
                have c0 := HO4.out.cell I2 (by have := HZ.out; omega)
                have c1 := HO4.out.cell J2 (by have := HZ.out; omega)
                obtain ⟨x, hx⟩ : ∃ x, zs[I2]! = x := ⟨_, rfl⟩
                obtain ⟨y, hy⟩ : ∃ y, zs[J2]! = y := ⟨_, rfl⟩
                rw [hx] at c0
                rw [hy] at c1
                have HXX := Lib.hid hx
                have HYY := Lib.hid hy
                have f0 := HO4.out.frozen I2
                have f1 := HO4.out.frozen J2
                have c2 := (HO4.out.set_ I2 y).cell J2 (by rw [Array.size_setIfInBounds]; have := HZ.out; omega)
                have f2 := (HO4.out.set_ I2 y).frozen J2
                generalize (zs.setIfInBounds I2 y)[J2]! = v2 at c2
                clear hx hy
                go_upto_region 18 with fail
                go_region
                go_wp2
                go_roundw
                case rel => exact ⟨I', J', Sort.swp zs I2 J2, by have := HIJ.out; omega, by have := HIJ.out; omega, by have := HIJ.out; omega, rfl, rfl, Lib.hid (by rw [← HXX.out, ← HYY.out]; exact (HO4.out.swp I2 J2).drew), Lib.hid (by rw [Sort.swp_size]; exact HZ.out), HPM, Lib.hid (fr_swp HF4.out).drew⟩
                case measure => simp [intOf]; have := HIJ.out; omega
end Go.Proofs.Yteldfoplhcnljaa.Srt
