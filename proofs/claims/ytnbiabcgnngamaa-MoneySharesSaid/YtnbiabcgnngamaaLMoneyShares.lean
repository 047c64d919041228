/- The law manciplelaw03.MoneyShares returns true whatever it is called with, and what it was called with reads as it did. No condition. -/
import Derived.Test.YtnbiabcgnngamaaLaw
import Derived.Test.YtnbiabcgnngamaaMoney5
namespace Go.Proofs.Ytnbiabcgnngamaa.LMoneyShares
open Go.ChangeShapes Go.WideShapes Go.ChangeAt Go.RowKit Go.IntWalk Go.Proofs.Mem Law
set_option linter.unusedVariables false
open Money
theorem below3 {w w1 w2 w3 : World} (h1 : Below w.heap.size w w1) (h2 : Below w1.heap.size w1 w2) (h3 : Below w2.heap.size w2 w3) : Below w.heap.size w w3 :=
  (h1.trans (h2.mono h1.size)).trans (h3.mono (Nat.le_trans h1.size h2.size))

set_option maxHeartbeats 2000000 in
theorem walk (w : World) (n : Int) (hn : 0 ≤ n ∧ n ≤ 18446744073709551615) (a : Int) (ha : 0 ≤ a ∧ a ≤ 18446744073709551615) (b : Int) (hb : 0 ≤ b ∧ b ≤ 18446744073709551615) :
    Calls Try.prog 7 #[.int .u64 n, .int .u64 a, .int .u64 b] w fun e w' => e = .returned (.bool true) ∧ Below w.heap.size w w' := by
  by_cases hz : b = 0
  · subst hz
    go_enter Try.func7, Try.ntmps7
    go_wp2_with fail
    (with_reducible refine (known_any _).mono ?_)
    rintro e w1 ⟨rfl, hb1⟩
    go_wp2
    go_ret
    exact ⟨rfl, hb1⟩
  · have hbf : (b == 0) = false := by simp; omega
    by_cases hg : 4611686018427387904 < n
    · go_enter Try.func7, Try.ntmps7
      go_wp2_with fail
      (with_reducible refine (known_any _).mono ?_)
      rintro e w1 ⟨rfl, hb1⟩
      go_wp2
      go_ret
      exact ⟨rfl, hb1⟩
    · have hbp : 0 < b := by omega
      have p1 : partS n b b = (n, 0) := by
        unfold partS; rw [if_neg hz, Int.mul_ediv_cancel _ hz, if_neg hg]
      have p3 : partS n 0 b = (0, 0) := by
        unfold partS; rw [if_neg hz, Int.mul_zero, Int.zero_ediv, if_neg (by omega)]
      have p4 : timesS n 1 = (n, 0) := by
        unfold timesS; rw [Int.mul_one, if_neg (by omega)]
      have p2 : ∀ m, 0 ≤ m → m ≤ b → ∃ y, partS n m b = (y, 0) ∧ y ≤ n := by
        intro m h0 h1
        have h2 : n * m ≤ n * b := Int.mul_le_mul_of_nonneg_left h1 hn.1
        have h3 : n * m / b ≤ n := by
          have := Int.ediv_le_ediv hbp h2
          rwa [Int.mul_ediv_cancel _ hz] at this
        exact ⟨n * m / b, by unfold partS; rw [if_neg hz, if_neg (by omega)], h3⟩
      have P1 := Lib.hid p1
      have P3 := Lib.hid p3
      have P4 := Lib.hid p4
      clear p1 p3 p4
      by_cases hab : a ≤ b
      · obtain ⟨y, hy, hyn⟩ := p2 a ha.1 (by omega)
        have P2 := Lib.hid hy
        clear hy p2
        have hyd : decide (y ≤ n) = true := by simpa using hyn
        go_enter Try.func7, Try.ntmps7
        go_wp2_with fail
        (with_reducible refine (part_any n b b hn hb ⟨hbp, hb.2⟩ _).mono ?_)
        rintro e w1 ⟨rfl, hb1⟩
        rw [P1.out]
        go_wp2_with fail
        (with_reducible refine (part_any n a b hn ha ⟨hbp, hb.2⟩ _).mono ?_)
        rintro e w2 ⟨rfl, hb2⟩
        rw [P2.out]
        go_wp2_with fail
        (with_reducible refine (part_any n 0 b hn (by omega) ⟨hbp, hb.2⟩ _).mono ?_)
        rintro e w3 ⟨rfl, hb3⟩
        rw [P3.out]
        go_wp2_with fail
        (with_reducible refine (times_any n 1 hn (by omega) _).mono ?_)
        rintro e w4 ⟨rfl, hb4⟩
        rw [P4.out]
        go_wp2_with fail
        (with_reducible refine (known_any _).mono ?_)
        rintro e w5 ⟨rfl, hb5⟩
        go_wp2
        go_ret
        exact ⟨rfl, below3 (below3 hb1 hb2 hb3) hb4 hb5⟩
      · obtain ⟨y, hy, hyn⟩ := p2 b (by omega) (by omega)
        have P2 := Lib.hid hy
        clear hy p2
        have hyd : decide (y ≤ n) = true := by simpa using hyn
        go_enter Try.func7, Try.ntmps7
        go_wp2_with fail
        (with_reducible refine (part_any n b b hn hb ⟨hbp, hb.2⟩ _).mono ?_)
        rintro e w1 ⟨rfl, hb1⟩
        rw [P1.out]
        go_wp2_with fail
        (with_reducible refine (part_any n b b hn hb ⟨hbp, hb.2⟩ _).mono ?_)
        rintro e w2 ⟨rfl, hb2⟩
        rw [P2.out]
        go_wp2_with fail
        (with_reducible refine (part_any n 0 b hn (by omega) ⟨hbp, hb.2⟩ _).mono ?_)
        rintro e w3 ⟨rfl, hb3⟩
        rw [P3.out]
        go_wp2_with fail
        (with_reducible refine (times_any n 1 hn (by omega) _).mono ?_)
        rintro e w4 ⟨rfl, hb4⟩
        rw [P4.out]
        go_wp2_with fail
        (with_reducible refine (known_any _).mono ?_)
        rintro e w5 ⟨rfl, hb5⟩
        go_wp2
        go_ret
        exact ⟨rfl, below3 (below3 hb1 hb2 hb3) hb4 hb5⟩


set_option maxRecDepth 100000 in
theorem lifted (os : Os) (started : os.Started) (H : Type) (enc : TypeId × Value → H) :
    ReturnsInHanded {} Try.checked os 7 .any (Rows.moneySharesSpec.pre6 enc Try.prog Try.f7 Rows.moneySharesRow.domain false) (Rows.moneySharesSpec.post enc Try.prog Try.f7 false true false false) := by
  refine returnsInHanded_of_change (C := Try.checked) own started (by kernel_rfl) Try.func7
    (ChangeSpec.witness6 (enc := enc) (C := Try.checked) false ⟨#[], #[.int .u64 0, .int .u64 0, .int .u64 0], []⟩ 8 (by kernel_rfl) (by kernel_rfl) (by kernel_rfl) (by kernel_rfl)) ?_
  intro W base args ds gs before hval0 hW hcnd _
  have hval : ∀ (j : Nat) t v, Try.f7.params[j]? = some t → args[j]? = some v → Value.okWide Try.prog W .any base t v := hval0
  have hW' := hW
  obtain ⟨p, q, hA0, hV, rfl, hfz, hnd⟩ := hW
  have hA1 : DataW.TrodAll enc Try.prog W 0 (fun _ => true) true Try.f7.params.toList args.toList ds p := hA0
  have hA := hA1
  rw [Try.params7] at hA hval
  obtain ⟨v0, vs0, d0, ds0, p0, q0, hargs, rfl, rfl, h0, r0⟩ := trodAll_cons hA
  obtain ⟨v1, vs1, d1, ds1, p1, q1, rfl, rfl, rfl, h1, r1⟩ := trodAll_cons r0
  obtain ⟨v2, vs2, d2, ds2, p2, q2, rfl, rfl, rfl, h2, r2⟩ := trodAll_cons r1
  obtain ⟨rfl, rfl, rfl⟩ := trodAll_nil r2
  obtain rfl : args = #[v0, v1, v2] := by cases args; simp_all
  obtain ⟨rfl, rfl⟩ := trodVars_none hV
  obtain ⟨n, rfl, rfl, rfl, wf0⟩ := open_int Try.underlying22 (hval 0 22 v0 rfl rfl) h0
  obtain ⟨a, rfl, rfl, rfl, wf1⟩ := open_int Try.underlying22 (hval 1 22 v1 rfl rfl) h1
  obtain ⟨b, rfl, rfl, rfl, wf2⟩ := open_int Try.underlying22 (hval 2 22 v2 rfl rfl) h2
  clear hA0 hval0
  refine (walk W n (bounds_u64 wf0) a (bounds_u64 wf1) b (bounds_u64 wf2)).mono fun e W' ⟨he, bel⟩ => ?_
  subst he
  exact ⟨_, rfl, _, _, _, [], _, [], hW', trodAll_mk1 (shut_bool Try.underlying4 _), args_again laidOut bel (by kernel_rfl) hA1, rfl, bel.frame _, fun h => by cases h⟩

theorem over : Rows.moneySharesRow.holds Try.pinned (OpenSpec.ofChange Rows.moneySharesSpec) :=
  OpenClaim.holds_of_wide 7 Try.f7 rfl rfl rfl rfl rfl rfl rfl ⟨rfl, rfl, rfl, rfl, rfl⟩ rfl rfl rfl rfl rfl (by kernel_rfl) Try.func7 (by kernel_rfl)
    (of_decide_eq_true (by kernel_rfl)) (by unfold Func.isWrapper; first | (rw [if_pos (by decide +kernel)]; kernel_rfl) | (rw [if_neg (by decide +kernel)]; exact ⟨rfl, rfl⟩))
    (fun os started H enc _ => lifted os started H enc)

theorem proved : Rows.MoneySharesSaid := over
end Go.Proofs.Ytnbiabcgnngamaa.LMoneyShares
