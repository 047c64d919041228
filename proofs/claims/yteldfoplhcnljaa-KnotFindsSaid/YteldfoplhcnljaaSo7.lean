import Derived.Test.YteldfoplhcnljaaSo6
/- A part of a row that is nearly sorted is sorted by some moves. -/
namespace Go.Proofs.Yteldfoplhcnljaa.Srt
open Go.ChangeShapes Go.WideShapes Go.ChangeAt Go.RowKit Go.IntWalk Go.Proofs.Mem
set_option linter.unusedVariables false
theorem ss_go {d : Array Int} {b i i' : Nat} (e : i = i' + 1) (h : i < b) (hq : lt d[i]! d[i']! = false) : Sort.scanSorted lt d b i = Sort.scanSorted lt d b (i + 1) := by
  subst e; rw [Sort.scanSorted, if_pos (by simp [hq, h])]
theorem ss_no {d : Array Int} {b i i' : Nat} (e : i = i' + 1) (hq : lt d[i]! d[i']! = true) : Sort.scanSorted lt d b i = i := by
  subst e; rw [Sort.scanSorted, if_neg (by simp [hq])]
theorem ss_end {d : Array Int} {b i : Nat} (h : ¬ i < b) : Sort.scanSorted lt d b i = i := by
  rw [Sort.scanSorted, if_neg (by simp [h])]
theorem sh_go {d : Array Int} {j j' : Nat} (e : j = j' + 1) (hq : lt d[j]! d[j']! = true) : Sort.shiftDown lt j d = Sort.shiftDown lt j' (Sort.swp d j j') := by
  subst e; rw [Sort.shiftDown, if_neg (by simp [hq])]
theorem sh_no {d : Array Int} {j j' : Nat} (e : j = j' + 1) (hq : lt d[j]! d[j']! = false) : Sort.shiftDown lt j d = d := by
  subst e; rw [Sort.shiftDown, if_pos (by simp [hq])]
theorem su_go {d : Array Int} {b j j' : Nat} (e : j = j' + 1) (h : j < b) (hq : lt d[j]! d[j']! = true) : Sort.shiftUp lt b j d = Sort.shiftUp lt b (j + 1) (Sort.swp d j j') := by
  subst e; rw [Sort.shiftUp, if_pos h, if_neg (by simp [hq])]; rfl
theorem su_no {d : Array Int} {b j j' : Nat} (e : j = j' + 1) (h : j < b) (hq : lt d[j]! d[j']! = false) : Sort.shiftUp lt b j d = d := by
  subst e; rw [Sort.shiftUp, if_pos h, if_pos (by simp [hq])]
theorem su_end {d : Array Int} {b j : Nat} (h : ¬ j < b) : Sort.shiftUp lt b j d = d := by
  rw [Sort.shiftUp, if_neg h]
set_option maxRecDepth 100000 in
set_option maxHeartbeats 8000000 in
theorem pins_any (w : World) (g n cap a b : Nat) (d : Array Int) (h : RA w g cap d) (hn : d.size = n) (h0 : n ≤ 1000000) (h1 : a < b) (h2 : b ≤ n) :
    Calls Try.prog 35 #[.slice (some ⟨g, 0, none⟩) n cap, .int .i64 a, .int .i64 b] w fun e w' => e = .returned (.bool (Sort.partialInsertionSort lt d a b).2) ∧ RA w' g cap (Sort.partialInsertionSort lt d a b).1 ∧ Fr (fun x => x = g) w w' := by
  have HR := Lib.hid h
  have HN := Lib.hid hn
  have HF := Lib.hid (Fr.refl (fun x => x = g) w)
  obtain ⟨zf, qf, hR⟩ : ∃ zf qf, Sort.partialInsertionSort lt d a b = (zf, qf) := ⟨_, _, rfl⟩
  rw [hR]
  obtain ⟨a1, ha1⟩ : ∃ x, x = a + 1 := ⟨_, rfl⟩
  have HS := Lib.hid (show Sort.partialIns lt a b 5 a1 d = (zf, qf) by rw [← hR, ha1]; rfl)
  obtain ⟨L, hL⟩ : ∃ x, x = b - a := ⟨_, rfl⟩
  have s1 : (a : Int) + 1 = (a1 : Int) := by omega
  have s2 : (b : Int) - (a : Int) = (L : Int) := by omega
  have ba : (a : Int) ≤ 1000000 := by omega
  have bb : (b : Int) ≤ 1000000 := by omega
  have HB := Lib.hid (⟨h0, h1, h2, ha1, hL⟩ : n ≤ 1000000 ∧ a < b ∧ b ≤ n ∧ a1 = a + 1 ∧ L = b - a)
  clear h hn hR h0 h1 h2 ha1 hL
  go_enter Try.func35, Try.ntmps35
  go_wp2
  go_loopw [7, 8] (fun u v wr => ∃ (s i : Nat) (ys : Array Int), s ≤ 5 ∧ a1 ≤ i ∧ i ≤ b ∧ u = .int .i64 i ∧ v = .int .i64 (5 - (s : Int)) ∧ Hid (RA wr g cap ys) ∧ Hid (ys.size = n) ∧ Hid (Sort.partialIns lt a b s i ys = (zf, qf)) ∧ Hid (Fr (fun x => x = g) w wr)) (fun _ v _ => (5 - intOf v).toNat)
  case atStart => exact ⟨5, a1, d, Nat.le_refl _, Nat.le_refl _, by have := HB.out; omega, rfl, by simp, HR, HN, HS, HF⟩
  case round =>
    obtain ⟨s, i, ys, hs, hi1, hi2, rfl, rfl, HO, HZ, HE, HG⟩ := hrel
    obtain ⟨w1, rfl⟩ : ∃ w1, w1 = wr := ⟨wr, rfl⟩
    clear HR HN HS HF
    cases s with
    | zero =>
      have z1 : (5 : Int) - ((0 : Nat) : Int) = 5 := by decide
      rw [z1]
      have d1 : decide ((5 : Int) < 5) = false := by decide
      have e1 := HE.out
      injection e1 with e1 e2
      subst e1 e2
      go_wp2
      go_ret
      exact ⟨rfl, HO.out, HG.out⟩
    | succ s =>
      obtain ⟨c, hc⟩ : ∃ c : Nat, (c : Int) = 5 - ((s + 1 : Nat) : Int) := ⟨4 - s, by omega⟩
      rw [← hc]
      have d1 : decide ((c : Int) < 5) = true := by simp; omega
      have d1' : decide (c < 5) = true := by simp; omega
      have bc : (c : Int) ≤ 5 := by omega
      have sc : (c : Int) + 1 = 5 - (s : Int) := by omega
      obtain ⟨I, hI⟩ : ∃ I, Sort.scanSorted lt ys b i = I := ⟨_, rfl⟩
      have HS := Lib.hid hI
      have HE2 := Lib.hid (show (if I = b then (ys, true) else if b - a < 50 then (ys, false) else
          Sort.partialIns lt a b s I (if b - I ≥ 2 then Sort.shiftUp lt b (I + 1) (if I - a ≥ 2 then Sort.shiftDown lt (I - 1) (Sort.swp ys I (I - 1)) else Sort.swp ys I (I - 1)) else (if I - a ≥ 2 then Sort.shiftDown lt (I - 1) (Sort.swp ys I (I - 1)) else Sort.swp ys I (I - 1)))) = (zf, qf) by
        rw [← HE.out, Sort.partialIns, hI])
      have HI0 := Lib.hid (⟨hs, hi1, hi2⟩ : s + 1 ≤ 5 ∧ a1 ≤ i ∧ i ≤ b)
      clear hI hs HE hc
      go_upto_block 2 with fail
      go_cut [7] from 17 to 34 (fun u wx => u = .int .i64 I ∧ a1 ≤ I ∧ I ≤ b ∧ Hid (RA wx g cap ys) ∧ Hid (Fr (fun x => x = g) w wx))
      case first =>
        go_wp2_with fail
        go_loopw [7] (fun u wr => ∃ k : Nat, a1 ≤ k ∧ k ≤ b ∧ u = .int .i64 k ∧ Hid (RA wr g cap ys) ∧ Hid (Sort.scanSorted lt ys b k = I) ∧ Hid (Fr (fun x => x = g) w wr)) (fun u _ => b - (intOf u).toNat)
        case atStart => exact ⟨i, hi1, hi2, rfl, HO, HS, HG⟩
        case round =>
          obtain ⟨k, hk1, hk2, rfl, HO', HE, HF'⟩ := hrel
          obtain ⟨wv, rfl⟩ : ∃ wv, wv = wr := ⟨wr, rfl⟩
          have bk : (k : Int) ≤ 1000000 := by omega
          by_cases hl : k < b
          · have d2 : decide ((k : Int) < (b : Int)) = true := by simp; omega
            have d2' : decide (k < b) = true := by simp; omega
            obtain ⟨k', hk'⟩ : ∃ k', k = k' + 1 := ⟨k - 1, by have := HB.out; omega⟩
            obtain ⟨k2, hk2'⟩ : ∃ k2, k2 = k + 1 := ⟨_, rfl⟩
            have sk : (k : Int) - 1 = (k' : Int) := by omega
            have sk2 : (k : Int) + 1 = (k2 : Int) := by omega
            have i1 : k < n := by have := HB.out; omega
            have i0 : k' < n := by have := HB.out; omega
            have c0 := HO'.out.cell k (by have := HZ.out; omega)
            have c1 := HO'.out.cell k' (by have := HZ.out; omega)
            obtain ⟨x, hx⟩ : ∃ x, ys[k]! = x := ⟨_, rfl⟩
            obtain ⟨y, hy⟩ : ∃ y, ys[k']! = y := ⟨_, rfl⟩
            rw [hx] at c0
            rw [hy] at c1
            have HXX := Lib.hid hx
            have HYY := Lib.hid hy
            clear hx hy
            have HK := Lib.hid (⟨hk', hk2', hk1, hl⟩ : k = k' + 1 ∧ k2 = k + 1 ∧ a1 ≤ k ∧ k < b)
            obtain ⟨q, hq⟩ : ∃ q, lt x y = q := ⟨_, rfl⟩
            have HQ := Lib.hid (show lt ys[k]! ys[k']! = q by rw [HXX.out, HYY.out]; exact hq)
            have CL := less_as _ _ hq
            clear hq hk' hk2' hk1 hk2 hl
            cases q with
            | false =>
              go_upto_region 5 with fail
              go_quiet (first | (go_at_call 25; exact quiet_l (CL.out _)))
              go_wp2
              go_roundw
              case rel => exact ⟨k2, by have := HK.out; omega, by have := HK.out; omega, rfl, Lib.hid (HO'.out.drewN _), Lib.hid (by rw [HK.out.2.1]; exact (ss_go HK.out.1 HK.out.2.2.2 HQ.out).symm.trans HE.out), Lib.hid (HF'.out.drewN _)⟩
              case measure => simp [intOf]; have := HK.out; omega
            | true =>
              have e1 := Lib.hid (show k = I by rw [← HE.out, ss_no HK.out.1 HQ.out])
              go_upto_region 5 with fail
              go_quiet (first | (go_at_call 25; exact quiet_l (CL.out _)))
              go_wp2
              go_meet
              exact ⟨by rw [e1.out], by have := e1.out; have := HK.out; omega, by have := e1.out; have := HK.out; omega, Lib.hid (HO'.out.drewN _), Lib.hid (HF'.out.drewN _)⟩
          · have d2 : decide ((k : Int) < (b : Int)) = false := by simp; omega
            have d2' : decide (k < b) = false := by simp; omega
            have e1 := Lib.hid (show k = I by rw [← HE.out, ss_end hl])
            have HK := Lib.hid (⟨hk1, hk2⟩ : a1 ≤ k ∧ k ≤ b)
            clear hk1 hk2 hl
            go_upto_region 5 with fail
            go_quiet (fail)
            go_wp2
            go_meet
            exact ⟨by rw [e1.out], by have := e1.out; have := HK.out; omega, by have := e1.out; have := HK.out; omega, Lib.hid (HO'.out.drewN _), Lib.hid (HF'.out.drewN _)⟩
      case rest =>
        obtain ⟨rfl, hI1, hI2, HO2, HF2⟩ := hcut
        obtain ⟨w2, rfl⟩ : ∃ x, x = wc := ⟨wc, rfl⟩
        clear HO HG HS hi1 hi2
        have bI : (I : Int) ≤ 1000000 := by omega
        by_cases hIb : I = b
        · have hR : (ys, true) = (zf, qf) := by rw [← HE2.out, if_pos hIb]
          injection hR with e1 e2
          subst e1 e2
          subst hIb
          clear HE2
          go_wp2
          go_ret
          exact ⟨rfl, HO2.out, HF2.out⟩
        · have dI : decide ((I : Int) = (b : Int)) = false := by simp; omega
          have dI' : decide (I = b) = false := by simp; exact hIb
          have dI2 : ((I : Int) == (b : Int)) = false := by simp; omega
          by_cases hL : L < 50
          · have hR : (ys, false) = (zf, qf) := by rw [← HE2.out, if_neg hIb, if_pos (by have := HB.out; omega)]
            injection hR with e1 e2
            subst e1 e2
            clear HE2
            have dL : decide ((L : Int) < 50) = true := by simp; omega
            have dL' : decide (L < 50) = true := by simp; omega
            clear hIb
            go_wp2
            go_ret
            exact ⟨rfl, HO2.out, HF2.out⟩
          · have dL : decide ((L : Int) < 50) = false := by simp; omega
            have dL' : decide (L < 50) = false := by simp; omega
            obtain ⟨I1, hI1'⟩ : ∃ x, I = x + 1 := ⟨I - 1, by have := HB.out; omega⟩
            have sI1 : (I : Int) - 1 = (I1 : Int) := by omega
            obtain ⟨D, hD⟩ : ∃ x, x = I - a := ⟨_, rfl⟩
            have sD : (I : Int) - (a : Int) = (D : Int) := by have := HB.out; omega
            obtain ⟨U, hU⟩ : ∃ x, x = b - I := ⟨_, rfl⟩
            have sU : (b : Int) - (I : Int) = (U : Int) := by omega
            obtain ⟨I2, hI2'⟩ : ∃ x, x = I + 1 := ⟨_, rfl⟩
            have sI2 : (I : Int) + 1 = (I2 : Int) := by omega
            obtain ⟨y1, hy1⟩ : ∃ x, x = Sort.swp ys I I1 := ⟨_, rfl⟩
            obtain ⟨y2, hy2⟩ : ∃ x, x = if I - a ≥ 2 then Sort.shiftDown lt I1 y1 else y1 := ⟨_, rfl⟩
            obtain ⟨y3, hy3⟩ : ∃ x, x = if b - I ≥ 2 then Sort.shiftUp lt b I2 y2 else y2 := ⟨_, rfl⟩
            have HE3 := Lib.hid (show Sort.partialIns lt a b s I y3 = (zf, qf) by
              have h := HE2.out
              rw [if_neg hIb, if_neg (by have := HB.out; omega), show I - 1 = I1 by omega, ← hy1, ← hy2, ← hI2', ← hy3] at h
              exact h)
            have H2 := Lib.hid hy2
            have H3 := Lib.hid hy3
            have H1 := Lib.hid hy1
            have HJ := Lib.hid (⟨hI1, hI2, hI1', hD, hU, hI2'⟩ : a1 ≤ I ∧ I ≤ b ∧ I = I1 + 1 ∧ D = I - a ∧ U = b - I ∧ I2 = I + 1)
            have i0 : I < n := by have := HB.out; omega
            have i1 : I1 < n := by have := HB.out; omega
            have bI1 : (I1 : Int) ≤ 1000000 := by omega
            have bI2 : (I2 : Int) ≤ 1000001 := by omega
            clear HE2 hIb hL hI1 hI2 hI1' hD hU hI2' hy1 hy2 hy3
            have c0 := HO2.out.cell I (by have := HZ.out; omega)
            have c1 := HO2.out.cell I1 (by have := HZ.out; omega)
            obtain ⟨x, hx⟩ : ∃ x, ys[I]! = x := ⟨_, rfl⟩
            obtain ⟨y, hy⟩ : ∃ y, ys[I1]! = y := ⟨_, rfl⟩
            rw [hx] at c0
            rw [hy] at c1
            have HXX := Lib.hid hx
            have HYY := Lib.hid hy
            clear hx hy
            have f0 := HO2.out.frozen I
            have f1 := HO2.out.frozen I1
            have c2 := (HO2.out.set_ I y).cell I1 (by rw [Array.size_setIfInBounds]; have := HZ.out; omega)
            have f2 := (HO2.out.set_ I y).frozen I1
            generalize (ys.setIfInBounds I y)[I1]! = v2 at c2
            go_upto_region 11 with fail
            go_region
            have HO3 := Lib.hid (show RA ((w2.setCell ⟨g, I, none⟩ (.int .u32 y)).setCell ⟨g, I1, none⟩ (.int .u32 x)) g cap y1 by rw [H1.out, ← HXX.out, ← HYY.out]; exact HO2.out.swp I I1)
            have HF3 := Lib.hid (show Fr (fun x => x = g) w ((w2.setCell ⟨g, I, none⟩ (.int .u32 y)).setCell ⟨g, I1, none⟩ (.int .u32 x)) from fr_swp HF2.out)
            have HZ1 := Lib.hid (show y1.size = n by rw [H1.out, Sort.swp_size]; exact HZ.out)
            clear c0 c1 f0 f1 c2 f2 HO2 HF2 HXX HYY H1 HZ i0 i1
            go_upto_if 61 with fail
            have HO4 := Lib.hid HO3.out.drew
            have HF4 := Lib.hid HF3.out.drew
            clear HO3 HF3
            generalize World.drew _ = w4 at *
            go_cut [] from 61 to 94 (fun wx => Hid (RA wx g cap y2) ∧ Hid (y2.size = n) ∧ Hid (Fr (fun x => x = g) w wx))
            case first =>
              by_cases hc : 2 ≤ D
              · have dc : decide ((2 : Int) ≤ (D : Int)) = true := by simp; omega
                have dc' : decide (2 ≤ D) = true := by simp; omega
                have HY := Lib.hid (show Sort.shiftDown lt I1 y1 = y2 by rw [H2.out, if_pos (by have := HJ.out; omega)])
                have HC0 := Lib.hid hc
                clear hc
                rw [dc]
                go_wp2
                go_loopw [9] (fun u wr => ∃ (j : Nat) (zs : Array Int), j ≤ I1 ∧ u = .int .i64 j ∧ Hid (RA wr g cap zs) ∧ Hid (zs.size = n) ∧ Hid (Sort.shiftDown lt j zs = y2) ∧ Hid (Fr (fun x => x = g) w wr)) (fun u _ => (intOf u).toNat)
                case atStart => exact ⟨I1, y1, Nat.le_refl _, rfl, HO4, HZ1, HY, HF4⟩
                case round =>
                  obtain ⟨j, zs, hj1, rfl, HO5, HZ5, HE5, HF5⟩ := hrel
                  obtain ⟨w5, rfl⟩ : ∃ w5, w5 = wr := ⟨wr, rfl⟩
                  have bj : (j : Int) ≤ 1000001 := by have := HJ.out; omega
                  by_cases hl : 1 ≤ j
                  · have d2 : decide ((1 : Int) ≤ (j : Int)) = true := by simp; omega
                    have d2' : decide (1 ≤ j) = true := by simp; omega
                    obtain ⟨j', hj'⟩ : ∃ x, j = x + 1 := ⟨j - 1, by have := HJ.out; omega⟩
                    have sj : (j : Int) - 1 = (j' : Int) := by omega
                    obtain ⟨j2, hj2'⟩ : ∃ x, x = j + 1 := ⟨_, rfl⟩
                    have sj2 : (j : Int) + 1 = (j2 : Int) := by omega
                    have i0 : j < n := by have := HB.out; have := HJ.out; omega
                    have i1 : j' < n := by have := HB.out; have := HJ.out; omega
                    have c0 := HO5.out.cell j (by have := HZ5.out; omega)
                    have c1 := HO5.out.cell j' (by have := HZ5.out; omega)
                    obtain ⟨x, hx⟩ : ∃ x, zs[j]! = x := ⟨_, rfl⟩
                    obtain ⟨y, hy⟩ : ∃ y, zs[j']! = y := ⟨_, rfl⟩
                    rw [hx] at c0
                    rw [hy] at c1
                    have HXX := Lib.hid hx
                    have HYY := Lib.hid hy
                    clear hx hy
                    have HK := Lib.hid (⟨hj', hj2', hj1, hl⟩ : j = j' + 1 ∧ j2 = j + 1 ∧ j ≤ I1 ∧ 1 ≤ j)
                    obtain ⟨q, hq⟩ : ∃ q, lt x y = q := ⟨_, rfl⟩
                    have HQ := Lib.hid (show lt zs[j]! zs[j']! = q by rw [HXX.out, HYY.out]; exact hq)
                    have CL := less_as _ _ hq
                    clear hq hj' hj2' hj1 hl
                    cases q with
                    | true =>
                      go_upto_region 16 with fail
                      go_quiet (first | (go_at_call 25; exact quiet_l (CL.out _)))
                      have HO6 := Lib.hid (HO5.out.drewN nq)
                      have HF6 := Lib.hid (HF5.out.drewN nq)
                      clear c0 c1
                      generalize World.drewN _ _ = w6 at *
                      have c0 := HO6.out.cell j (by have := HZ5.out; omega)
                      have c1 := HO6.out.cell j' (by have := HZ5.out; omega)
                      rw [HXX.out] at c0
                      rw [HYY.out] at c1
                      have f0 := HO6.out.frozen j
                      have f1 := HO6.out.frozen j'
                      have c2 := (HO6.out.set_ j y).cell j' (by rw [Array.size_setIfInBounds]; have := HZ5.out; omega)
                      have f2 := (HO6.out.set_ j y).frozen j'
                      generalize (zs.setIfInBounds j y)[j']! = v2 at c2
                      go_upto_region 17 with fail
                      go_region
                      go_wp2
                      go_roundw
                      case rel => exact ⟨j', Sort.swp zs j j', by have := HK.out; omega, rfl, Lib.hid (by rw [← HXX.out, ← HYY.out]; exact (HO6.out.swp j j').drew), Lib.hid (by rw [Sort.swp_size]; exact HZ5.out), Lib.hid ((sh_go HK.out.1 HQ.out).symm.trans HE5.out), Lib.hid (fr_swp HF6.out).drew⟩
                      case measure => simp [intOf]; have := HK.out; omega
                    | false =>
                      have e1 := Lib.hid (show zs = y2 by rw [← HE5.out, sh_no HK.out.1 HQ.out])
                      go_upto_region 16 with fail
                      go_quiet (first | (go_at_call 25; exact quiet_l (CL.out _)))
                      go_wp2
                      go_meet
                      exact ⟨by rw [← e1.out]; exact (Lib.hid (HO5.out.drewN _)), by rw [← e1.out]; exact HZ5, (Lib.hid (HF5.out.drewN _))⟩
                  · have d2 : decide ((1 : Int) ≤ (j : Int)) = false := by simp; omega
                    have d2' : decide (1 ≤ j) = false := by simp; omega
                    have e1 := Lib.hid (show zs = y2 by rw [← HE5.out]; obtain rfl : j = 0 := (by omega); rfl)
                    clear hl
                    go_wp2
                    go_meet
                    exact ⟨by rw [← e1.out]; exact HO5, by rw [← e1.out]; exact HZ5, HF5⟩
              · have dc : decide ((2 : Int) ≤ (D : Int)) = false := by simp; omega
                have dc' : decide (2 ≤ D) = false := by simp; omega
                have e1 := Lib.hid (show y1 = y2 by rw [H2.out, if_neg (by have := HJ.out; omega)])
                clear hc
                rw [dc]
                go_wp2
                go_meet
                exact ⟨by rw [← e1.out]; exact HO4, by rw [← e1.out]; exact HZ1, HF4⟩
            case rest =>
              obtain ⟨HO5, HZ2, HF5⟩ := hcut
              obtain ⟨w5, rfl⟩ : ∃ x, x = wc := ⟨wc, rfl⟩
              clear HO4 HZ1 HF4 H2
              go_upto_if 98 with fail
              by_cases hc : 2 ≤ U
              · have dc : decide ((2 : Int) ≤ (U : Int)) = true := by simp; omega
                have dc' : decide (2 ≤ U) = true := by simp; omega
                have HY := Lib.hid (show Sort.shiftUp lt b I2 y2 = y3 by rw [H3.out, if_pos (by have := HJ.out; omega)])
                have HC0 := Lib.hid hc
                clear hc
                rw [dc]
                go_wp2
                go_loopw [10] (fun u wr => ∃ (j : Nat) (zs : Array Int), I2 ≤ j ∧ j ≤ b ∧ u = .int .i64 j ∧ Hid (RA wr g cap zs) ∧ Hid (zs.size = n) ∧ Hid (Sort.shiftUp lt b j zs = y3) ∧ Hid (Fr (fun x => x = g) w wr)) (fun u _ => b - (intOf u).toNat)
                case atStart => exact ⟨I2, y2, Nat.le_refl _, by have := HJ.out; have := HC0.out; omega, rfl, HO5, HZ2, HY, HF5⟩
                case round =>
                  obtain ⟨j, zs, hj1, hj2, rfl, HOa, HZ5, HE5, HFa⟩ := hrel
                  obtain ⟨w5, rfl⟩ : ∃ w5, w5 = wr := ⟨wr, rfl⟩
                  have bj : (j : Int) ≤ 1000001 := by have := HJ.out; omega
                  by_cases hl : j < b
                  · have d2 : decide ((j : Int) < (b : Int)) = true := by simp; omega
                    have d2' : decide (j < b) = true := by simp; omega
                    obtain ⟨j', hj'⟩ : ∃ x, j = x + 1 := ⟨j - 1, by have := HJ.out; omega⟩
                    have sj : (j : Int) - 1 = (j' : Int) := by omega
                    obtain ⟨j2, hj2'⟩ : ∃ x, x = j + 1 := ⟨_, rfl⟩
                    have sj2 : (j : Int) + 1 = (j2 : Int) := by omega
                    have i0 : j < n := by have := HB.out; have := HJ.out; omega
                    have i1 : j' < n := by have := HB.out; have := HJ.out; omega
                    have c0 := HOa.out.cell j (by have := HZ5.out; omega)
                    have c1 := HOa.out.cell j' (by have := HZ5.out; omega)
                    obtain ⟨x, hx⟩ : ∃ x, zs[j]! = x := ⟨_, rfl⟩
                    obtain ⟨y, hy⟩ : ∃ y, zs[j']! = y := ⟨_, rfl⟩
                    rw [hx] at c0
                    rw [hy] at c1
                    have HXX := Lib.hid hx
                    have HYY := Lib.hid hy
                    clear hx hy
                    have HK := Lib.hid (⟨hj', hj2', hj1, hl⟩ : j = j' + 1 ∧ j2 = j + 1 ∧ I2 ≤ j ∧ j < b)
                    obtain ⟨q, hq⟩ : ∃ q, lt x y = q := ⟨_, rfl⟩
                    have HQ := Lib.hid (show lt zs[j]! zs[j']! = q by rw [HXX.out, HYY.out]; exact hq)
                    have CL := less_as _ _ hq
                    clear hq hj' hj2' hj1 hj2 hl
                    cases q with
                    | true =>
                      go_upto_region 22 with fail
                      go_quiet (first | (go_at_call 25; exact quiet_l (CL.out _)))
                      have HO6 := Lib.hid (HOa.out.drewN nq)
                      have HF6 := Lib.hid (HFa.out.drewN nq)
                      clear c0 c1
                      generalize World.drewN _ _ = w6 at *
                      have c0 := HO6.out.cell j (by have := HZ5.out; omega)
                      have c1 := HO6.out.cell j' (by have := HZ5.out; omega)
                      rw [HXX.out] at c0
                      rw [HYY.out] at c1
                      have f0 := HO6.out.frozen j
                      have f1 := HO6.out.frozen j'
                      have c2 := (HO6.out.set_ j y).cell j' (by rw [Array.size_setIfInBounds]; have := HZ5.out; omega)
                      have f2 := (HO6.out.set_ j y).frozen j'
                      generalize (zs.setIfInBounds j y)[j']! = v2 at c2
                      go_upto_region 23 with fail
                      go_region
                      go_wp2
                      go_roundw
                      case rel => exact ⟨j2, Sort.swp zs j j', by have := HK.out; omega, by have := HK.out; omega, rfl, Lib.hid (by rw [← HXX.out, ← HYY.out]; exact (HO6.out.swp j j').drew), Lib.hid (by rw [Sort.swp_size]; exact HZ5.out), Lib.hid (by rw [HK.out.2.1]; exact (su_go HK.out.1 HK.out.2.2.2 HQ.out).symm.trans HE5.out), Lib.hid (fr_swp HF6.out).drew⟩
                      case measure => simp [intOf]; have := HK.out; omega
                    | false =>
                      have e1 := Lib.hid (show zs = y3 by rw [← HE5.out, su_no HK.out.1 HK.out.2.2.2 HQ.out])
                      go_upto_region 22 with fail
                      go_quiet (first | (go_at_call 25; exact quiet_l (CL.out _)))
                      go_wp2
                      go_roundw
                      case rel => exact ⟨s, I, y3, by have := HI0.out; omega, by have := HJ.out; omega, by have := HJ.out; omega, rfl, by rw [← sc], by rw [← e1.out]; exact (Lib.hid (HOa.out.drewN _)), by rw [← e1.out]; exact HZ5, HE3, (Lib.hid (HFa.out.drewN _))⟩
                      case measure => simp [intOf]; omega
                  · have d2 : decide ((j : Int) < (b : Int)) = false := by simp; omega
                    have d2' : decide (j < b) = false := by simp; omega
                    have e1 := Lib.hid (show zs = y3 by rw [← HE5.out, su_end hl])
                    clear hl
                    go_wp2
                    go_roundw
                    case rel => exact ⟨s, I, y3, by have := HI0.out; omega, by have := HJ.out; omega, by have := HJ.out; omega, rfl, by rw [← sc], by rw [← e1.out]; exact HOa, by rw [← e1.out]; exact HZ5, HE3, HFa⟩
                    case measure => simp [intOf]; omega
              · have dc : decide ((2 : Int) ≤ (U : Int)) = false := by simp; omega
                have dc' : decide (2 ≤ U) = false := by simp; omega
                have e1 := Lib.hid (show y2 = y3 by rw [H3.out, if_neg (by have := HJ.out; omega)])
                clear hc
                rw [dc]
                go_wp2
                go_roundw
                case rel => exact ⟨s, I, y3, by have := HI0.out; omega, by have := HJ.out; omega, by have := HJ.out; omega, rfl, by rw [← sc], by rw [← e1.out]; exact HO5, by rw [← e1.out]; exact HZ2, HE3, HF5⟩
                case measure => simp [intOf]; omega
end Go.Proofs.Yteldfoplhcnljaa.Srt
