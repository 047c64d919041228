import Derived.Test.YteldfoplhcnljaaSo2
/- The heap of the sort of numbers of 32 bits. -/
namespace Go.Proofs.Yteldfoplhcnljaa.Srt
open Go.ChangeShapes Go.WideShapes Go.ChangeAt Go.RowKit Go.IntWalk Go.Proofs.Mem
set_option linter.unusedVariables false
theorem sd_end {hi F r : Nat} {d : Array Int} (h : hi ≤ 2 * r + 1) : Sort.siftDown lt hi F r d = d := by
  rw [Sort.siftDown, dif_pos h]
theorem sd_two {hi F r : Nat} {d : Array Int} {q : Bool} (h : 2 * r + 2 < hi) (h1 : lt d[F + (2 * r + 1)]! d[F + (2 * r + 1) + 1]! = true) (h2 : lt d[F + r]! d[F + (2 * r + 2)]! = q) :
    Sort.siftDown lt hi F r d = if q then Sort.siftDown lt hi F (2 * r + 2) (Sort.swp d (F + r) (F + (2 * r + 2))) else d := by
  rw [Sort.siftDown, dif_neg (by omega), if_pos (by rw [h1]; simp; omega), h2]
  cases q with
  | true => rw [if_neg (by decide), dif_pos h]; rfl
  | false => rfl
theorem sd_one {hi F r : Nat} {d : Array Int} {q : Bool} (h : 2 * r + 1 < hi) (h1 : hi ≤ 2 * r + 2 ∨ lt d[F + (2 * r + 1)]! d[F + (2 * r + 1) + 1]! = false) (h2 : lt d[F + r]! d[F + (2 * r + 1)]! = q) :
    Sort.siftDown lt hi F r d = if q then Sort.siftDown lt hi F (2 * r + 1) (Sort.swp d (F + r) (F + (2 * r + 1))) else d := by
  rw [Sort.siftDown, dif_neg (by omega), if_neg (by rcases h1 with h1 | h1 <;> simp [h1]; omega), h2]
  cases q <;> rfl
set_option maxRecDepth 100000 in
set_option maxHeartbeats 4000000 in
theorem sift_any (w : World) (g n cap lo hi F : Nat) (loI : Int) (hlo : loI = lo) (d : Array Int) (h : RA w g cap d) (hn : d.size = n) (h0 : n ≤ 1000000) (h1 : lo ≤ n) (h2 : F + hi ≤ n) :
    Calls Try.prog 40 #[.slice (some ⟨g, 0, none⟩) n cap, .int .i64 loI, .int .i64 hi, .int .i64 F] w fun e w' => e = .returned (.tuple #[]) ∧ RA w' g cap (Sort.siftDown lt hi F lo d) ∧ (Sort.siftDown lt hi F lo d).size = n ∧ Fr (fun x => x = g) w w' := by
  subst hlo
  have HR := Lib.hid h
  have HN := Lib.hid hn
  obtain ⟨R, hRR⟩ : ∃ R, Sort.siftDown lt hi F lo d = R := ⟨_, rfl⟩
  rw [hRR]
  have HS := Lib.hid hRR
  have bF : (F : Int) ≤ 1000000 := by omega
  have bh : (hi : Int) ≤ 1000000 := by omega
  have HB := Lib.hid h2
  have HL := Lib.hid h1
  have H0 := Lib.hid h0
  clear h hn hRR h1 h2 h0
  go_enter Try.func40, Try.ntmps40
  go_wp2
  go_loopw [8] (fun s wr => ∃ (r : Nat) (ys : Array Int), r ≤ n ∧ s = .int .i64 r ∧ Hid (RA wr g cap ys) ∧ Hid (ys.size = n) ∧ Hid (Sort.siftDown lt hi F r ys = R) ∧ Hid (Fr (fun x => x = g) w wr)) (fun s _ => n - (intOf s).toNat)
  case atStart => exact ⟨lo, d, HL.out, rfl, HR, HN, HS, Lib.hid (Fr.refl _ _)⟩
  case round =>
    obtain ⟨r, ys, hr, rfl, HO, HZ, HE, HF⟩ := hrel
    obtain ⟨w1, rfl⟩ : ∃ w1, w1 = wr := ⟨wr, rfl⟩
    obtain ⟨c1, hc1⟩ : ∃ c1, c1 = 2 * r + 1 := ⟨_, rfl⟩
    have sc : 2 * (r : Int) + 1 = (c1 : Int) := by omega
    have HC := Lib.hid hc1
    have br : (r : Int) ≤ 1000000 := by have := H0.out; omega
    have HRR := Lib.hid hr
    clear hc1 hr
    by_cases hl : hi ≤ c1
    · have d1 : decide ((hi : Int) ≤ (c1 : Int)) = true := by simp; omega
      have d1' : decide (hi ≤ c1) = true := by simp; omega
      have e1 := Lib.hid (show ys = R by rw [← HE.out, sd_end (by rw [← HC.out]; exact hl)])
      go_wp2
      go_end0
      exact ⟨rfl, by rw [← e1.out]; exact HO.out, by rw [← e1.out]; exact HZ.out, HF.out⟩
    · have d1 : decide ((hi : Int) ≤ (c1 : Int)) = false := by simp; omega
      have d1' : decide (hi ≤ c1) = false := by simp; omega
      have HLL := Lib.hid hl
      clear hl
      obtain ⟨c2, hc2⟩ : ∃ c2, c2 = c1 + 1 := ⟨_, rfl⟩
      obtain ⟨FR, hFR⟩ : ∃ x, x = F + r := ⟨_, rfl⟩
      obtain ⟨F1, hF1⟩ : ∃ x, x = F + c1 := ⟨_, rfl⟩
      obtain ⟨F2, hF2⟩ : ∃ x, x = F1 + 1 := ⟨_, rfl⟩
      have t0 : (c1 : Int) + 1 = (c2 : Int) := by omega
      have t1 : (F : Int) + (r : Int) = (FR : Int) := by omega
      have t2 : (F : Int) + (c1 : Int) = (F1 : Int) := by omega
      have t3 : (F1 : Int) + 1 = (F2 : Int) := by omega
      have t4 : (F : Int) + (c2 : Int) = (F2 : Int) := by omega
      have bc : (c1 : Int) ≤ 2000001 := by omega
      have iR : FR < n := by have := HB.out; have := HC.out; have := HLL.out; omega
      have i1 : F1 < n := by have := HB.out; have := HC.out; have := HLL.out; omega
      have cR := fun k => (HO.out.drewN k).cell FR (by have := HZ.out; omega)
      have cA := fun k => (HO.out.drewN k).cell F1 (by have := HZ.out; omega)
      have HX := Lib.hid (⟨hc2, hFR, hF1, hF2⟩ : c2 = c1 + 1 ∧ FR = F + r ∧ F1 = F + c1 ∧ F2 = F1 + 1)
      have eR : FR = F + r := hFR
      clear hc2 hFR hF1 hF2 eR
      obtain ⟨x, hx⟩ : ∃ x, ys[FR]! = x := ⟨_, rfl⟩
      obtain ⟨y, hy⟩ : ∃ y, ys[F1]! = y := ⟨_, rfl⟩
      have HXX := Lib.hid hx
      have HY := Lib.hid hy
      rw [hx] at cR
      rw [hy] at cA
      clear hx hy
      by_cases h2 : c2 < hi
      · have d2 : decide ((c2 : Int) < (hi : Int)) = true := by simp; omega
        have d2' : decide (c2 < hi) = true := by simp; omega
        have i2 : F2 < n := by have := HB.out; have := HX.out; omega
        have cB := fun k => (HO.out.drewN k).cell F2 (by have := HZ.out; omega)
        obtain ⟨z, hz⟩ : ∃ z, ys[F2]! = z := ⟨_, rfl⟩
        have HZZ := Lib.hid hz
        rw [hz] at cB
        have H2 := Lib.hid h2
        clear hz h2
        obtain ⟨p, hp⟩ : ∃ p, lt y z = p := ⟨_, rfl⟩
        have CP := less_as _ _ hp
        have HP := Lib.hid hp
        clear hp
        cases p with
        | true =>
          go_upto_region 3 with fail
          go_quiet (first | (go_at_call 25; exact quiet_l (CP.out _)))
          obtain ⟨q, hq⟩ : ∃ q, lt x z = q := ⟨_, rfl⟩
          have CL := less_as _ _ hq
          have HQ := Lib.hid (show Sort.siftDown lt hi F r ys = if q then Sort.siftDown lt hi F c2 (Sort.swp ys FR F2) else ys by
            obtain ⟨e1, e2, e3, e4⟩ := HX.out
            have e5 := HC.out
            have e6 := HXX.out
            have e7 := HZZ.out
            have e8 := HP.out; have e9 := H2.out; subst e4 e3 e2 e1 e5; rw [← e6, ← e7] at hq; rw [← HY.out, ← HZZ.out] at e8; exact sd_two (by omega) e8 hq)
          clear hq
          cases q with
          | true =>
            go_upto_region 5 with fail
            go_quiet (first | (go_at_call 25; exact quiet_add (CL.out _)))
            have fR := fun k => (HO.out.drewN k).frozen FR
            have fA := fun k => (HO.out.drewN k).frozen F2
            go_upto_region 6 with fail
            go_region
            go_wp2
            go_roundw
            case rel => exact ⟨c2, Sort.swp ys FR F2, by have := HX.out; have := HLL.out; have := HB.out; omega, rfl, Lib.hid (by rw [← HXX.out, ← HZZ.out]; exact (HO.out.drewN _).swp FR F2), Lib.hid (by rw [Sort.swp_size]; exact HZ.out), Lib.hid (by rw [← HE.out, HQ.out]; rfl), Lib.hid (fr_swp (HF.out.drewN _))⟩
            case measure => simp [intOf]; have := HX.out; have := HC.out; have := HLL.out; have := HB.out; omega
          | false =>
            go_upto_region 5 with fail
            go_quiet (first | (go_at_call 25; exact quiet_add (CL.out _)))
            have e1 := Lib.hid (show ys = R by rw [← HE.out, HQ.out]; rfl)
            go_wp2
            refine bodyPost_ret (results_none rfl _ _ _) rfl ?_
            exact ⟨rfl, by rw [← e1.out]; exact (HO.out.drewN _).drewN _, by rw [← e1.out]; exact HZ.out, (HF.out.drewN _).drewN _⟩
        | false =>
          go_upto_region 3 with fail
          go_quiet (first | (go_at_call 25; exact quiet_l (CP.out _)))
          obtain ⟨q, hq⟩ : ∃ q, lt x y = q := ⟨_, rfl⟩
          have CL := less_as _ _ hq
          have HQ := Lib.hid (show Sort.siftDown lt hi F r ys = if q then Sort.siftDown lt hi F c1 (Sort.swp ys FR F1) else ys by
            obtain ⟨e1, e2, e3, e4⟩ := HX.out
            have e5 := HC.out
            have e6 := HXX.out
            have e7 := HY.out
            have e8 := HP.out; have e9 := H2.out; subst e4 e3 e2 e1 e5; rw [← e6, ← e7] at hq; rw [← HY.out, ← HZZ.out] at e8; exact sd_one (by omega) (.inr e8) hq)
          clear hq
          cases q with
          | true =>
            go_upto_region 5 with fail
            go_quiet (first | (go_at_call 25; exact quiet_add (CL.out _)))
            have fR := fun k => (HO.out.drewN k).frozen FR
            have fA := fun k => (HO.out.drewN k).frozen F1
            go_upto_region 6 with fail
            go_region
            go_wp2
            go_roundw
            case rel => exact ⟨c1, Sort.swp ys FR F1, by have := HX.out; have := HLL.out; have := HB.out; omega, rfl, Lib.hid (by rw [← HXX.out, ← HY.out]; exact (HO.out.drewN _).swp FR F1), Lib.hid (by rw [Sort.swp_size]; exact HZ.out), Lib.hid (by rw [← HE.out, HQ.out]; rfl), Lib.hid (fr_swp (HF.out.drewN _))⟩
            case measure => simp [intOf]; have := HX.out; have := HC.out; have := HLL.out; have := HB.out; omega
          | false =>
            go_upto_region 5 with fail
            go_quiet (first | (go_at_call 25; exact quiet_add (CL.out _)))
            have e1 := Lib.hid (show ys = R by rw [← HE.out, HQ.out]; rfl)
            go_wp2
            refine bodyPost_ret (results_none rfl _ _ _) rfl ?_
            exact ⟨rfl, by rw [← e1.out]; exact (HO.out.drewN _).drewN _, by rw [← e1.out]; exact HZ.out, (HF.out.drewN _).drewN _⟩
      · have d2 : decide ((c2 : Int) < (hi : Int)) = false := by simp; omega
        have d2' : decide (c2 < hi) = false := by simp; omega
        have H2 := Lib.hid h2
        clear h2
        go_upto_region 3 with fail
        go_quiet (fail)
        obtain ⟨q, hq⟩ : ∃ q, lt x y = q := ⟨_, rfl⟩
        have CL := less_as _ _ hq
        have HQ := Lib.hid (show Sort.siftDown lt hi F r ys = if q then Sort.siftDown lt hi F c1 (Sort.swp ys FR F1) else ys by
          obtain ⟨e1, e2, e3, e4⟩ := HX.out
          have e5 := HC.out
          have e6 := HXX.out
          have e7 := HY.out
          have e9 := H2.out; have e10 := HLL.out; subst e4 e3 e2 e1 e5; rw [← e6, ← e7] at hq; exact sd_one (by omega) (.inl (by omega)) hq)
        clear hq
        cases q with
        | true =>
          go_upto_region 5 with fail
          go_quiet (first | (go_at_call 25; exact quiet_add (CL.out _)))
          have fR := fun k => (HO.out.drewN k).frozen FR
          have fA := fun k => (HO.out.drewN k).frozen F1
          go_upto_region 6 with fail
          go_region
          go_wp2
          go_roundw
          case rel => exact ⟨c1, Sort.swp ys FR F1, by have := HX.out; have := HLL.out; have := HB.out; omega, rfl, Lib.hid (by rw [← HXX.out, ← HY.out]; exact (HO.out.drewN _).swp FR F1), Lib.hid (by rw [Sort.swp_size]; exact HZ.out), Lib.hid (by rw [← HE.out, HQ.out]; rfl), Lib.hid (fr_swp (HF.out.drewN _))⟩
          case measure => simp [intOf]; have := HX.out; have := HC.out; have := HLL.out; have := HB.out; omega
        | false =>
          go_upto_region 5 with fail
          go_quiet (first | (go_at_call 25; exact quiet_add (CL.out _)))
          have e1 := Lib.hid (show ys = R by rw [← HE.out, HQ.out]; rfl)
          go_wp2
          refine bodyPost_ret (results_none rfl _ _ _) rfl ?_
          exact ⟨rfl, by rw [← e1.out]; exact (HO.out.drewN _).drewN _, by rw [← e1.out]; exact HZ.out, (HF.out.drewN _).drewN _⟩
theorem build_go {hi F k : Nat} {d : Array Int} : Sort.heapBuild lt hi F (k + 1) d = Sort.heapBuild lt hi F k (Sort.siftDown lt hi F k d) := rfl
theorem pop_go {F k : Nat} {d : Array Int} : Sort.heapPop lt F (k + 1) d = Sort.heapPop lt F k (Sort.siftDown lt k F 0 (Sort.swp d F (F + k))) := rfl
set_option maxRecDepth 100000 in
set_option maxHeartbeats 4000000 in
theorem heap_any (w : World) (g n cap a b : Nat) (d : Array Int) (h : RA w g cap d) (hn : d.size = n) (h0 : n ≤ 1000000) (h1 : a < b) (h2 : b ≤ n) :
    Calls Try.prog 31 #[.slice (some ⟨g, 0, none⟩) n cap, .int .i64 a, .int .i64 b] w fun e w' => e = .returned (.tuple #[]) ∧ RA w' g cap (Sort.heapSort lt d a b) ∧ Fr (fun x => x = g) w w' := by
  have HR := Lib.hid h
  have HN := Lib.hid hn
  obtain ⟨R, hRR⟩ : ∃ R, Sort.heapSort lt d a b = R := ⟨_, rfl⟩
  rw [hRR]
  have HS := Lib.hid hRR
  clear hRR
  obtain ⟨hi, hhi⟩ : ∃ x, x = b - a := ⟨_, rfl⟩
  obtain ⟨h1', hh1⟩ : ∃ x, x = hi - 1 := ⟨_, rfl⟩
  obtain ⟨m, hm⟩ : ∃ x, x = h1' / 2 := ⟨_, rfl⟩
  obtain ⟨M, hM⟩ : ∃ M, Sort.heapBuild lt hi a (m + 1) d = M := ⟨_, rfl⟩
  have HM := Lib.hid hM
  have HP := Lib.hid (show Sort.heapPop lt a hi M = R by rw [← HS.out, ← hM, hm, hh1, hhi]; rfl)
  have s1 : (b : Int) - (a : Int) = (hi : Int) := by omega
  have s2 : (hi : Int) - 1 = (h1' : Int) := by omega
  have s3 : Int.tdiv (h1' : Int) 2 = (m : Int) := by rw [Int.tdiv_eq_ediv_of_nonneg (by omega)]; omega
  have ba : (a : Int) ≤ 1000000 := by omega
  have bb : (b : Int) ≤ 1000000 := by omega
  have bm : (m : Int) ≤ 1000000 := by omega
  have bh : (hi : Int) ≤ 1000000 := by omega
  have HX := Lib.hid (⟨h0, h1, h2, hhi, hh1, hm⟩ : n ≤ 1000000 ∧ a < b ∧ b ≤ n ∧ hi = b - a ∧ h1' = hi - 1 ∧ m = h1' / 2)
  clear h hn hM h0 h1 h2 hhi hh1 hm HS
  go_enter Try.func31, Try.ntmps31
  go_wp2
  go_loopw [9] (fun s wr => ∃ (k : Nat) (ys : Array Int), k ≤ m + 1 ∧ s = .int .i64 ((k : Int) - 1) ∧ Hid (RA wr g cap ys) ∧ Hid (ys.size = n) ∧ Hid (Sort.heapBuild lt hi a k ys = M) ∧ Hid (Fr (fun x => x = g) w wr)) (fun s _ => (intOf s + 1).toNat)
  case atStart => exact ⟨m + 1, d, Nat.le_refl _, by simp, HR, HN, HM, Lib.hid (Fr.refl _ _)⟩
  case round =>
    obtain ⟨k, ys, hk, rfl, HO, HZ, HE, HF⟩ := hrel
    obtain ⟨w1, rfl⟩ : ∃ w1, w1 = wr := ⟨wr, rfl⟩
    cases k with
    | zero =>
      have z1 : ((0 : Nat) : Int) - 1 = -1 := by decide
      rw [z1]
      have d1 : decide (0 ≤ (-1 : Int)) = false := by decide
      have eM := Lib.hid (show Sort.heapPop lt a hi ys = R by rw [← HP.out, ← HE.out]; rfl)
      have H0 := HO
      clear hk
      go_wp2
      go_loopw [10] (fun s wr => ∃ (k : Nat) (ys : Array Int), k ≤ hi ∧ s = .int .i64 ((k : Int) - 1) ∧ Hid (RA wr g cap ys) ∧ Hid (ys.size = n) ∧ Hid (Sort.heapPop lt a k ys = R) ∧ Hid (Fr (fun x => x = g) w wr)) (fun s _ => (intOf s + 1).toNat)
      case atStart => exact ⟨hi, ys, Nat.le_refl _, by have := HX.out; congr 1; omega, HO, HZ, eM, HF⟩
      case round =>
        obtain ⟨k, zs, hk, rfl, HO2, HZ2, HE2, HF2⟩ := hrel
        obtain ⟨w2, rfl⟩ : ∃ w2, w2 = wr := ⟨wr, rfl⟩
        cases k with
        | zero =>
          have z1 : ((0 : Nat) : Int) - 1 = -1 := by decide
          rw [z1]
          have d1 : decide (0 ≤ (-1 : Int)) = false := by decide
          have e1 := Lib.hid (show zs = R from HE2.out)
          go_wp2
          go_end0
          exact ⟨rfl, by rw [← e1.out]; exact HO2.out, HF2.out⟩
        | succ k =>
          have s4 : ((k + 1 : Nat) : Int) - 1 = (k : Int) := by omega
          rw [s4]
          have d1 : decide (0 ≤ (k : Int)) = true := by simp
          have bk : (k : Int) ≤ 1000000 := by omega
          have hkk := Lib.hid hk
          obtain ⟨FK, hFK⟩ : ∃ x, x = a + k := ⟨_, rfl⟩
          have t1 : (a : Int) + (k : Int) = (FK : Int) := by omega
          have i0 : a < n := by have := HX.out; omega
          have i1 : FK < n := by have := HX.out; omega
          have c0 := HO2.out.cell a (by have := HZ2.out; omega)
          have cA := HO2.out.cell FK (by have := HZ2.out; omega)
          obtain ⟨x, hx⟩ : ∃ x, zs[a]! = x := ⟨_, rfl⟩
          obtain ⟨y, hy⟩ : ∃ y, zs[FK]! = y := ⟨_, rfl⟩
          rw [hx] at c0
          rw [hy] at cA
          have HXX := Lib.hid hx
          have HY := Lib.hid hy
          have f0 := HO2.out.frozen a
          have fA := HO2.out.frozen FK
          have c2 := (HO2.out.set_ a y).cell FK (by rw [Array.size_setIfInBounds]; have := HZ2.out; omega)
          have f2 := (HO2.out.set_ a y).frozen FK
          generalize (zs.setIfInBounds a y)[FK]! = v2 at c2
          have HFK := Lib.hid hFK
          clear hk s4 hx hy hFK
          go_upto_region 10 with fail
          go_region
          have HO3 : RA ((w2.setCell ⟨g, a, none⟩ (.int .u32 y)).setCell ⟨g, FK, none⟩ (.int .u32 x)).drew g cap (Sort.swp zs a FK) := by rw [← HXX.out, ← HY.out]; exact (HO2.out.swp a FK).drew
          have HF3 := Lib.hid (show Fr (fun x => x = g) w ((w2.setCell ⟨g, a, none⟩ (.int .u32 y)).setCell ⟨g, FK, none⟩ (.int .u32 x)).drew from (fr_swp HF2.out).drew)
          have CL := Lib.hid (sift_any _ g n cap 0 k a 0 rfl (Sort.swp zs a FK) HO3 (by rw [Sort.swp_size]; exact HZ2.out) HX.out.1 (by omega) (by have := HX.out; omega))
          clear HO3
          go_wp2_with fail
          (with_reducible refine CL.out.mono ?_)
          rintro e w3 ⟨rfl, q1, q2, q3⟩
          have Q1 := Lib.hid q1
          have Q2 := Lib.hid q2
          have Q3 := Lib.hid q3
          clear q1 q2 q3
          go_wp2
          go_roundw
          case rel => exact ⟨k, _, by have := hkk.out; omega, rfl, Q1, Q2, Lib.hid (by rw [← HE2.out, HFK.out]; rfl), Lib.hid (HF3.out.trans Q3.out)⟩
          case measure => simp [intOf]
    | succ k =>
      have s4 : ((k + 1 : Nat) : Int) - 1 = (k : Int) := by omega
      rw [s4]
      have d1 : decide (0 ≤ (k : Int)) = true := by simp
      have bk : (k : Int) ≤ 1000000 := by omega
      have hkk := Lib.hid hk
      have CL := Lib.hid (sift_any w1 g n cap k hi a k rfl ys HO.out HZ.out HX.out.1 (by have := HX.out; omega) (by have := HX.out; omega))
      clear hk s4
      go_wp2_with fail
      (with_reducible refine CL.out.mono ?_)
      rintro e w2 ⟨rfl, q1, q2, q3⟩
      have Q1 := Lib.hid q1
      have Q2 := Lib.hid q2
      have Q3 := Lib.hid q3
      clear q1 q2 q3
      go_wp2
      go_roundw
      case rel => exact ⟨k, _, by have := hkk.out; omega, rfl, Q1, Q2, Lib.hid (by rw [← HE.out]; rfl), Lib.hid (HF.out.trans Q3.out)⟩
      case measure => simp [intOf]
end Go.Proofs.Yteldfoplhcnljaa.Srt
