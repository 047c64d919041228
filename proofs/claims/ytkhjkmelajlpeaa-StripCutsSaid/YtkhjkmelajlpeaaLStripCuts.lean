/- The law manciplelaw07.StripCuts returns true whatever it is called with, and what it was called with reads as it did. No condition. -/
import Derived.Test.YtkhjkmelajlpeaaLaw
import Derived.Test.YtkhjkmelajlpeaaStrip6
import Derived.Test.YtkhjkmelajlpeaaSrOpen
namespace Go.Proofs.Ytkhjkmelajlpeaa.LStripCuts
open Go.ChangeShapes Go.WideShapes Go.ChangeAt Go.RowKit Go.IntWalk Go.Proofs.Mem Law
set_option linter.unusedVariables false
open Go.Proofs.Ytkhjkmelajlpeaa.Strip Go.Proofs.Ytkhjkmelajlpeaa.Blk
set_option maxRecDepth 100000 in
set_option maxHeartbeats 8000000 in
theorem walk (w : World) (s : Value) (xs : List Int) (hs : IR w w.heap.size .u8 s xs) (bs : Bytes xs) (k : Int) (hk : 0 ≤ k ∧ k ≤ 255) :
    Calls Try.prog 7 #[s, .int .u8 k] w fun e w' => e = .returned (.bool true) ∧ Below w.heap.size w w' := by
  obtain ⟨A, c, rfl, hlc, hcm⟩ := hs.form
  unfold maxLen at hcm
  have HV := Lib.hid hs
  have BB := Lib.hid bs
  clear hs bs
  by_cases hlen : 2000 < xs.length
  · have d1 : decide (2000 < (xs.length : Int)) = true := decide_eq_true (by omega)
    have d1' : decide (2000 < xs.length) = true := decide_eq_true hlen
    go_enter Try.func7, Try.ntmps7
    go_wp2_with fail
    (with_reducible refine (known_any _).mono ?_)
    rintro e w1 ⟨rfl, hb1⟩
    go_wp2
    go_ret
    exact ⟨rfl, hb1⟩
  · have d1 : decide (2000 < (xs.length : Int)) = false := decide_eq_false (by omega)
    have d1' : decide (2000 < xs.length) = false := decide_eq_false hlen
    have LB := Lib.hid (lay_bytes BB.out)
    obtain ⟨n, hn⟩ : ∃ n, cnt xs.length = n := ⟨_, rfl⟩
    have hn16 : n ≤ 16 := by rw [← hn]; unfold cnt; omega
    have CN := Lib.hid (fun W => count_len xs.length (by omega) W)
    rw [hn] at CN
    have HN := Lib.hid hn
    clear hn
    obtain ⟨j, hj, hjn⟩ : ∃ j : Nat, k % ((n : Int) + 1) = (j : Int) ∧ j ≤ n := ⟨(k % ((n : Int) + 1)).toNat, by have := Int.emod_nonneg k (show (n : Int) + 1 ≠ 0 by omega); omega, by have := Int.emod_lt_of_pos k (show (0 : Int) < (n : Int) + 1 by omega); omega⟩
    have BT := Lib.hid (show Bytes (xs.take (127 * j)) from fun x hx => BB.out x (List.mem_of_mem_take hx))
    obtain ⟨m, hmj⟩ : ∃ m : Nat, 127 * j = m := ⟨_, rfl⟩
    have hmi : 127 * (j : Int) = (m : Int) := by omega
    have HMJ := Lib.hid hmj
    clear hmj
    by_cases hm : m ≤ xs.length
    · have hm2 : (m : Int) ≤ (xs.length : Int) := by omega
      go_enter Try.func7, Try.ntmps7
      go_wp2_with fail
      (with_reducible refine (known_any _).mono ?_)
      rintro e w1 ⟨rfl, hb1⟩
      have HB1 := Lib.hid hb1
      clear hb1
      go_wp2_with fail
      (with_reducible refine (lay_any _ w.heap.size _ _ (HV.out.below HB1.out) HB1.out.size (by omega)).mono ?_)
      rintro e w3 ⟨v3, l3, rfl, tab3, hl3, hb3⟩
      have HB3 := Lib.hid (step_ HB1.out hb3)
      have hll : l3.length = n := by have := congrArg List.length hl3; rw [List.length_map, lay_len, HN.out] at this; exact this
      obtain ⟨sr3, hm3⟩ := sr_of_tab tab3 hl3 LB.out
      obtain ⟨A3, c3, rfl, hlc3, hcm3⟩ := sr3.form
      rw [List.length_map, hll] at sr3 hlc3
      rw [List.length_map, hll]
      unfold maxLen at hcm3
      have S3 := Lib.hid (sr_take sr3 hjn)
      have RE := Lib.hid (show readS (((l3.map (·.2)).take j).map (·.2)) = xs.take (127 * j) by rw [List.map_take, hm3, read_cut xs j (by rw [HN.out]; exact hjn)])
      have LN := Lib.hid (show ((l3.map (·.2)).take j).length ≤ 1000 by rw [List.length_take]; omega)
      clear tab3 hl3 hb3 hll sr3 hm3
      go_wp2_with fail
      (with_reducible refine (CN.out _).mono ?_)
      rintro e w4 ⟨rfl, rfl⟩
      go_wp2_with fail
      (with_reducible refine (read_any _ _ _ _ S3.out (Nat.le_refl _) LN.out).mono ?_)
      rintro e w5 ⟨v5, rfl, ow5, hb5⟩
      rw [RE.out] at ow5
      have I5 := Lib.hid (IR.of_own ow5)
      have HB5 := Lib.hid (step_ HB3.out hb5)
      have IT := Lib.hid ((HV.out.below HB5.out).take (m := m) (by omega))
      clear ow5 hb5
      go_wp2_with fail
      (with_reducible refine (same_any _ _ (xs.take (127 * j)) (xs.take (127 * j)) w5 _ _ I5.out (by rw [HMJ.out]; exact IT.out) BT.out BT.out).mono ?_)
      rintro e w6 ⟨rfl, rfl⟩
      go_wp2
      go_ret
      exact ⟨rfl, HB5.out⟩
    · have hm2 : ¬ (m : Int) ≤ (xs.length : Int) := by omega
      have hm3 : (xs.length : Int) ≤ (m : Int) := by omega
      go_enter Try.func7, Try.ntmps7
      go_wp2_with fail
      (with_reducible refine (known_any _).mono ?_)
      rintro e w1 ⟨rfl, hb1⟩
      have HB1 := Lib.hid hb1
      clear hb1
      go_wp2_with fail
      (with_reducible refine (lay_any _ w.heap.size _ _ (HV.out.below HB1.out) HB1.out.size (by omega)).mono ?_)
      rintro e w3 ⟨v3, l3, rfl, tab3, hl3, hb3⟩
      have HB3 := Lib.hid (step_ HB1.out hb3)
      have hll : l3.length = n := by have := congrArg List.length hl3; rw [List.length_map, lay_len, HN.out] at this; exact this
      obtain ⟨sr3, hm3⟩ := sr_of_tab tab3 hl3 LB.out
      obtain ⟨A3, c3, rfl, hlc3, hcm3⟩ := sr3.form
      rw [List.length_map, hll] at sr3 hlc3
      rw [List.length_map, hll]
      unfold maxLen at hcm3
      have S3 := Lib.hid (sr_take sr3 hjn)
      have RE := Lib.hid (show readS (((l3.map (·.2)).take j).map (·.2)) = xs.take (127 * j) by rw [List.map_take, hm3, read_cut xs j (by rw [HN.out]; exact hjn)])
      have LN := Lib.hid (show ((l3.map (·.2)).take j).length ≤ 1000 by rw [List.length_take]; omega)
      clear tab3 hl3 hb3 hll sr3 hm3
      go_wp2_with fail
      (with_reducible refine (CN.out _).mono ?_)
      rintro e w4 ⟨rfl, rfl⟩
      go_wp2_with fail
      (with_reducible refine (read_any _ _ _ _ S3.out (Nat.le_refl _) LN.out).mono ?_)
      rintro e w5 ⟨v5, rfl, ow5, hb5⟩
      rw [RE.out] at ow5
      have I5 := Lib.hid (IR.of_own ow5)
      have HB5 := Lib.hid (step_ HB3.out hb5)
      have IT := Lib.hid ((HV.out.below HB5.out).take (m := xs.length) (by omega))
      clear ow5 hb5
      go_wp2_with fail
      (with_reducible refine (same_any _ _ (xs.take (127 * j)) (xs.take (127 * j)) w5 _ _ I5.out (by rw [List.take_of_length_le (by rw [HMJ.out]; omega)]; have := IT.out; rwa [List.take_of_length_le (Nat.le_refl _)] at this) BT.out BT.out).mono ?_)
      rintro e w6 ⟨rfl, rfl⟩
      go_wp2
      go_ret
      exact ⟨rfl, HB5.out⟩


set_option maxRecDepth 100000 in
theorem lifted (os : Os) (started : os.Started) (H : Type) (enc : TypeId × Value → H) :
    ReturnsInHanded {} Try.checked os 7 .any (Rows.stripCutsSpec.pre6 enc Try.prog Try.f7 Rows.stripCutsRow.domain false) (Rows.stripCutsSpec.post enc Try.prog Try.f7 false true false false) := by
  refine returnsInHanded_of_change (C := Try.checked) own started (by kernel_rfl) Try.func7
    (ChangeSpec.witness6 (enc := enc) (C := Try.checked) false ⟨#[], #[.slice none 0 0, .int .u8 0], []⟩ 8 (by kernel_rfl) (by kernel_rfl) (by kernel_rfl) (by kernel_rfl)) ?_
  intro W base args ds gs before hval0 hW hcnd _
  have hval : ∀ (j : Nat) t v, Try.f7.params[j]? = some t → args[j]? = some v → Value.okWide Try.prog W .any base t v := hval0
  have hW' := hW
  obtain ⟨p, q, hA0, hV, rfl, hfz, hnd⟩ := hW
  have hA1 : DataW.TrodAll enc Try.prog W 0 (fun _ => true) true Try.f7.params.toList args.toList ds p := hA0
  have hA := hA1
  rw [Try.params7] at hA hval
  obtain ⟨v0, vs0, d0, ds0, p0, q0, hargs, rfl, rfl, h0, r0⟩ := trodAll_cons hA
  obtain ⟨v1, vs1, d1, ds1, p1, q1, rfl, rfl, rfl, h1, r1⟩ := trodAll_cons r0
  obtain ⟨rfl, rfl, rfl⟩ := trodAll_nil r1
  obtain rfl : args = #[v0, v1] := by cases args; simp_all
  obtain ⟨rfl, rfl⟩ := trodVars_none hV
  obtain ⟨xs, i0, wf0⟩ := open_IR Try.underlying22 Try.underlying5 (by kernel_rfl) (hval 0 22 v0 rfl rfl) h0
  obtain ⟨k, rfl, rfl, rfl, wf1⟩ := open_int Try.underlying5 (hval 1 5 v1 rfl rfl) h1
  clear hA0 hval0
  refine (walk W v0 xs i0 (fun n hn => bounds_u8 (wf0 n hn)) k (bounds_u8 wf1)).mono fun e W' ⟨he, bel⟩ => ?_
  subst he
  exact ⟨_, rfl, _, _, _, [], _, [], hW', trodAll_mk1 (shut_bool Try.underlying4 _), args_again laidOut bel (by kernel_rfl) hA1, rfl, bel.frame _, fun h => by cases h⟩

theorem over : Rows.stripCutsRow.holds Try.pinned (OpenSpec.ofChange Rows.stripCutsSpec) :=
  OpenClaim.holds_of_wide 7 Try.f7 rfl rfl rfl rfl rfl rfl rfl ⟨rfl, rfl, rfl, rfl, rfl⟩ rfl rfl rfl rfl rfl (by kernel_rfl) Try.func7 (by kernel_rfl)
    (of_decide_eq_true (by kernel_rfl)) (by unfold Func.isWrapper; first | (rw [if_pos (by decide +kernel)]; kernel_rfl) | (rw [if_neg (by decide +kernel)]; exact ⟨rfl, rfl⟩))
    (fun os started H enc _ => lifted os started H enc)

theorem proved : Rows.StripCutsSaid := over
end Go.Proofs.Ytkhjkmelajlpeaa.LStripCuts
