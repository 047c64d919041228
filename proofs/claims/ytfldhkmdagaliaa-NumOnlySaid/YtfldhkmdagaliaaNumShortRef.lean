import Derived.Test.YtfldhkmdagaliaaNumBytes
import Derived.Test.YtfldhkmdagaliaaMem2
/- The document's answer for Short: by trying. -/
namespace Go.Proofs.Ytfldhkmdagaliaa.NumBytes
open Go.ChangeShapes Go.WideShapes Go.ChangeAt Go.RowKit Go.IntWalk Go.Proofs.NumMath Go.Proofs.Mem Go.Proofs.NumShort NumInts
set_option linter.unusedVariables false

theorem split_at (xs : List Int) (j : Nat) (h : j < xs.length) : xs = xs.take j ++ xs.getD j 0 :: xs.drop (j + 1) ∧ xs.take (j + 1) = xs.take j ++ [xs.getD j 0] := by
  have e : xs.getD j 0 = xs[j] := by simp [List.getD, List.getElem?_eq_getElem h]
  rw [e]
  constructor
  · rw [← List.drop_eq_getElem_cons h, List.take_append_drop]
  · rw [List.take_succ_eq_append_getElem h]
theorem short_small (xs : List Int) (j : Nat) (h : j < xs.length) (hj : j ≤ 9) (hm : Many (xs.take j)) (hu : 0 ≤ xs.getD j 0 ∧ xs.getD j 0 < 128) :
    shortS xs = if ¬ (j = 9 ∧ 1 < xs.getD j 0) ∧ ¬ (xs.getD j 0 = 0 ∧ 0 < j) then (valL (xs.take (j + 1)), j + 1) else (0, 0) := by
  obtain ⟨e1, e2⟩ := split_at xs j h
  have hl : (xs.take j).length = j := by rw [List.length_take]; omega
  generalize xs.getD j 0 = u at *
  rw [e2, valL_snoc, hl]
  conv => lhs; rw [e1]
  unfold shortS
  rw [shortR_many _ _ 0 0 hm (by omega), hl]
  simp only [shortR, Nat.zero_add, Nat.mul_zero, Int.pow_zero, Int.one_mul, Int.zero_add]
  by_cases h9 : j = 9 ∧ 1 < u
  · rw [if_pos h9, if_neg (fun hh => hh.1 h9)]
  · rw [if_neg h9, if_neg (by omega)]
    by_cases hz : u = 0 ∧ 0 < j
    · rw [if_pos hz, if_neg (fun hh => hh.2 hz)]
    · rw [if_neg hz, if_pos ⟨h9, hz⟩]
theorem short_end (xs : List Int) (hm : Many xs) : shortS xs = (0, 0) := by
  have := shortR_any xs 0 0 hm
  exact Prod.ext this.2 this.1
theorem short_ten (xs : List Int) (h : 10 ≤ xs.length) (hm : Many (xs.take 10)) : shortS xs = (0, 0) := by
  obtain ⟨e1, e2⟩ := split_at xs 9 (by omega)
  rw [e2] at hm
  have hu := hm (xs.getD 9 0) (by simp)
  have hl : (xs.take 9).length = 9 := by rw [List.length_take]; omega
  generalize xs.getD 9 0 = u at *
  rw [e1]
  unfold shortS
  rw [shortR_many _ _ 0 0 (fun x hx => hm x (List.mem_append_left _ hx)) (by omega), hl]
  simp only [shortR, Nat.zero_add]
  rw [if_pos (by simp; omega)]
theorem short_sum (l : List Int) (u : Int) (j : Nat) (hl : l.length = j) (hj : j ≤ 9) : (valL l + u % 128 * pw (7 * j) % 18446744073709551616) % 18446744073709551616 = valL (l ++ [u]) % 18446744073709551616 := by
  rw [valL_snoc, hl, pw_of _ (by omega), Int.add_emod_emod]
theorem short_keep (l : List Int) (u : Int) (hl : l.length ≤ 8) (hu : 0 ≤ u) : valL (l ++ [u]) % 18446744073709551616 = valL (l ++ [u]) :=
  Int.emod_eq_of_lt (valL_lt _).1 (val_bd l u (by omega) hu (by omega))
theorem text_any {w : World} {B : Nat} {v : Value} {xs : List Int} (h : IR w B .u8 v xs) (m : Nat) :
    (convert 23 9 v).run Try.prog (w.drewN m) = .ok (.string (strOfNums xs)) (w.drewN m) :=
  (h.drewN m).text (P := Try.prog) (dst := 9) Try.underlying23 Try.underlying5 Try.underlying9

theorem Bytes.take {xs : List Int} (h : Bytes xs) (k : Nat) : Bytes (xs.take k) := fun x hx => h x (List.mem_of_mem_take hx)
set_option maxHeartbeats 4000000 in
theorem short_ref (v : Value) (xs : List Int) (w : World) (hv : IR w w.heap.size .u8 v xs) (hx : Bytes xs) :
    Calls Try.prog 35 #[v] w fun e w' => e = .returned (.tuple #[.int .u64 (shortS xs).1, .int .i64 (shortS xs).2]) ∧ Below w.heap.size w w' := by
  obtain ⟨A, c, rfl, hlc, hcm⟩ := hv.form
  unfold maxLen at hcm
  go_enter Try.func35, Try.ntmps35
  go_wp2
  go_loopw [4, 5] (fun m i wr => ∃ (j d : Nat) (q : Int), j ≤ 10 ∧ j ≤ xs.length ∧ i = .int .i64 j ∧ m = .int .u64 q ∧ 0 ≤ q ∧ q ≤ 18446744073709551615 ∧ Many (xs.take j) ∧ (j ≤ 9 → q = valL (xs.take j)) ∧ wr = w.drewN d) (fun _ i _ => 10 - (intOf i).toNat)
  case atStart => exact ⟨0, 0, 0, by omega, by omega, rfl, rfl, by omega, by omega, by intro x hx; simp at hx, fun _ => by simp [valL], rfl⟩
  case round =>
    obtain ⟨j, d, q, hj, hjl, rfl, rfl, hq0, hq1, hm, hq, rfl⟩ := hrel
    have HM := Lib.hid hm
    have HQ := Lib.hid hq
    clear hm hq
    by_cases hl1 : j < xs.length
    · have hd1 : decide ((j : Int) < (xs.length : Int)) = true := by simp; omega
      by_cases hl2 : j < 10
      · have hd2 : decide ((j : Int) < 10) = true := by simp; omega
        have hvd : IR (w.drewN d) w.heap.size .u8 (.slice A xs.length c) xs := hv.drewN d
        obtain ⟨b, off, rfl, hb, hcell⟩ := IR.index hv j hl1
        obtain ⟨hu0, hu1⟩ := hx.at_ j
        obtain ⟨e1, e2⟩ := split_at xs j hl1
        have hl : (xs.take j).length = j := by rw [List.length_take]; omega
        have hsm := short_small xs j hl1 (by omega) HM.out
        have hsum := short_sum (xs.take j) (xs.getD j 0) j hl (by omega)
        have hkeep := fun h8 => short_keep (xs.take j) (xs.getD j 0) (by rw [hl]; exact h8) hu0
        have hrt := ref_test (xs.take j) (xs.getD j 0) HM.out (by omega)
        rw [← HQ.out (by omega)] at hsum
        rw [← e2] at hsum hkeep hrt
        rw [hl] at hrt
        have hmany : ∀ h : 128 ≤ xs.getD j 0, Many (xs.take (j + 1)) := fun h => by rw [e2]; exact HM.out.snoc ⟨h, hu1⟩
        have HE1 := Lib.hid e1
        generalize hu : xs.getD j 0 = u at *
        have HSM := Lib.hid hsm
        have HSUM := Lib.hid hsum
        have HK := Lib.hid hkeep
        have HRT := Lib.hid hrt
        have HMY := Lib.hid hmany
        clear hu hsm hsum hkeep hrt hmany e1 e2 hl
        have hp := pw_lt (7 * j)
        go_wp2
        have s1 : IntKind.i64.wrap (7 * (j : Int)) = 7 * j := i64_in _ (by omega)
        have s2 : IntKind.u64.wrap (7 * (j : Int)) = 7 * j := u64_in _ (by omega)
        have s3 : u.tmod 128 = u % 128 := Int.tmod_eq_emod_of_nonneg hu0
        have s4 : IntKind.u64.wrap (u % 128) = u % 128 := u64_in _ (by omega)
        go_quiet ((go_at_call 38; exact quiet_add (power_any _ (by omega) (by omega) _)))
        clear s1 s2 s3 s4
        obtain ⟨V, hV, hV0, hV1, hVe⟩ : ∃ V : Int, IntKind.u64.wrap (q + IntKind.u64.wrap (u % 128 * pw (7 * j))) = V ∧ 0 ≤ V ∧ V ≤ 18446744073709551615 ∧ V = valL (xs.take (j + 1)) % 18446744073709551616 :=
          ⟨_, rfl, by rw [wrap_u64]; omega, by rw [wrap_u64]; omega, by rw [wrap_u64, wrap_u64]; exact HSUM.out⟩
        have HVE := Lib.hid hVe
        clear hVe
        by_cases h128 : 128 ≤ u
        · go_wp2
          go_roundw
          case rel => exact ⟨j + 1, _, V, by omega, by omega, by go_num, by rw [hV], hV0, hV1, HMY.out h128, fun h9 => by rw [HVE.out]; exact HK.out (by omega), rfl⟩
          case measure => simp [intOf]; omega
        · go_wp2_with fail
          (with_reducible refine (long_ref V hV0 hV1 _).mono ?_)
          rintro e w1 ⟨l, rfl, hown1, hb1⟩
          have hlr := IR.of_own hown1
          have hvr := ((hv.drewN (d + nq)).below hb1).take (m := j + 1) (by omega)
          have hbel : Below w.heap.size w w1 := (below_drewN (Below.refl _ _) (d + nq)).trans hb1
          have t1 := text_any hlr
          have t2 := text_any hvr
          clear hown1 hlr hvr
          have hV2 := longS_ok V hV0 hV1
          have hst := str_eq hV2.1 (Bytes.take hx (j + 1))
          have s1 : IntKind.i64.wrap ((j : Int) + 1) = j + 1 := i64_in _ (by omega)
          have s5 : ((j : Int) + 1).toNat = j + 1 := by omega
          have s6 : (j : Int) + 1 ≤ (c : Int) := by omega
          by_cases hP : ¬ (j = 9 ∧ 1 < u) ∧ ¬ (u = 0 ∧ 0 < j)
          · have hst2 : ((strOfNums (longS V)).toList == (strOfNums (xs.take (j + 1))).toList) = true := by
              rw [hst, decide_eq_true ((HRT.out ⟨hu0, by omega⟩ V HVE.out).2 hP)]
            have HP := Lib.hid hP
            clear hP hst
            go_wp2
            go_quiet (fail)
            go_wp2
            go_ret2
            have hs := HSM.out ⟨hu0, by omega⟩
            rw [if_pos HP.out] at hs
            have hv := (longS_canon V hV0 hV1).2
            rw [(HRT.out ⟨hu0, by omega⟩ V HVE.out).2 HP.out] at hv
            exact ⟨ret_two (by rw [hs]; exact hv.symm) (by rw [hs]; simp), below_drewN hbel _⟩
          · have hst2 : ((strOfNums (longS V)).toList == (strOfNums (xs.take (j + 1))).toList) = false := by
              rw [hst, decide_eq_false (fun e => hP ((HRT.out ⟨hu0, by omega⟩ V HVE.out).1 e))]
            have HP := Lib.hid hP
            clear hP hst
            go_wp2
            go_quiet (fail)
            go_wp2
            go_ret2
            have hs := HSM.out ⟨hu0, by omega⟩
            rw [if_neg HP.out] at hs
            exact ⟨ret_two (by rw [hs]) (by rw [hs]; simp), below_drewN hbel _⟩
      · have hd2 : decide ((j : Int) < 10) = false := by simp; omega
        have : j = 10 := by omega
        have hs := short_ten xs (by omega) (by have h := HM.out; rwa [this] at h)
        have HS := Lib.hid hs
        clear hs
        go_wp2
        go_ret2
        exact ⟨ret_two (by rw [HS.out]) (by rw [HS.out]; rfl), below_drewN (Below.refl _ _) d⟩
    · have hd1 : decide ((j : Int) < (xs.length : Int)) = false := by simp; omega
      have hs := short_end xs (by have := HM.out; rwa [List.take_of_length_le (by omega)] at this)
      have HS := Lib.hid hs
      clear hs
      go_wp2
      go_ret2
      exact ⟨ret_two (by rw [HS.out]) (by rw [HS.out]; rfl), below_drewN (Below.refl _ _) d⟩
end Go.Proofs.Ytfldhkmdagaliaa.NumBytes
