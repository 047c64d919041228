/- The law manciplelaw03.MoneyBack returns true whatever it is called with, and what it was called with reads as it did. No condition. -/
import Derived.Test.YtnbiabcgnngamaaLaw
import Derived.Test.YtnbiabcgnngamaaMoney2
namespace Go.Proofs.Ytnbiabcgnngamaa.LMoneyBack
open Go.ChangeShapes Go.WideShapes Go.ChangeAt Go.RowKit Go.IntWalk Go.Proofs.Mem Law
set_option linter.unusedVariables false
open Money
set_option maxHeartbeats 1000000 in
theorem walk (w : World) (a : Int) (ha : 0 ≤ a ∧ a ≤ 18446744073709551615) (b : Int) (hb : 0 ≤ b ∧ b ≤ 18446744073709551615) :
    Calls Try.prog 6 #[.int .u64 a, .int .u64 b] w fun e w' => e = .returned (.bool true) ∧ Below w.heap.size w w' := by
  by_cases h : 4611686018427387904 < a ∨ 4611686018427387904 < b ∨ 4611686018427387904 < a + b
  · have hs : addS a b = (0, 30) := by unfold addS; rw [if_pos h]
    have HS := Lib.hid hs
    clear hs h
    go_enter Try.func6, Try.ntmps6
    go_wp2_with fail
    (with_reducible refine (add_any a b ha hb _).mono ?_)
    rintro e w1 ⟨rfl, hb1⟩
    rw [HS.out]
    go_wp2_with fail
    (with_reducible refine (known_any _).mono ?_)
    rintro e w3 ⟨rfl, hb3⟩
    go_wp2
    go_ret
    exact ⟨rfl, hb1.trans (hb3.mono hb1.size)⟩
  · have h1 : a ≤ 4611686018427387904 := by omega
    have h2 : b ≤ 4611686018427387904 := by omega
    have h3 : a + b ≤ 4611686018427387904 := by omega
    have hs : addS a b = (a + b, 0) := by unfold addS; rw [if_neg h]
    have hs2 : addS b a = (a + b, 0) := by unfold addS; rw [if_neg (by omega), Int.add_comm]
    have hx : subS (a + b) b = (a, 0) := by unfold subS; rw [if_neg (by omega), if_neg (by omega)]; congr 1; omega
    have hy : subS (a + b) a = (b, 0) := by unfold subS; rw [if_neg (by omega), if_neg (by omega)]; congr 1; omega
    obtain ⟨er, her, hz⟩ : ∃ er : Int, (er != 0) = true ∧ subS a (a + b + 1) = (0, er) := by
      by_cases h4 : 4611686018427387904 < a + b + 1
      · exact ⟨30, by decide, by unfold subS; rw [if_pos (.inr h4)]⟩
      · exact ⟨31, by decide, by unfold subS; rw [if_neg (by omega), if_pos (by omega)]⟩
    have HS := Lib.hid hs
    have HS2 := Lib.hid hs2
    have HX := Lib.hid hx
    have HY := Lib.hid hy
    have HZ := Lib.hid hz
    clear hs hs2 hx hy hz h
    go_enter Try.func6, Try.ntmps6
    go_wp2_with fail
    (with_reducible refine (add_any a b ha hb _).mono ?_)
    rintro e w1 ⟨rfl, hb1⟩
    rw [HS.out]
    go_wp2_with fail
    (with_reducible refine (sub_any (a + b) b (by omega) hb _).mono ?_)
    rintro e w2 ⟨rfl, hb2⟩
    rw [HX.out]
    go_wp2_with fail
    (with_reducible refine (sub_any (a + b) a (by omega) ha _).mono ?_)
    rintro e w3 ⟨rfl, hb3⟩
    rw [HY.out]
    go_wp2_with fail
    (with_reducible refine (sub_any a (a + b + 1) ha (by omega) _).mono ?_)
    rintro e w4 ⟨rfl, hb4⟩
    rw [HZ.out]
    go_wp2_with fail
    (with_reducible refine (add_any b a hb ha _).mono ?_)
    rintro e w5 ⟨rfl, hb5⟩
    rw [HS2.out]
    go_wp2_with fail
    (with_reducible refine (known_any _).mono ?_)
    rintro e w6 ⟨rfl, hb6⟩
    go_wp2
    go_ret
    have s1 := hb1.size
    have s2 := Nat.le_trans s1 hb2.size
    have s3 := Nat.le_trans s2 hb3.size
    have s4 := Nat.le_trans s3 hb4.size
    have s5 := Nat.le_trans s4 hb5.size
    exact ⟨rfl, ((((hb1.trans (hb2.mono s1)).trans (hb3.mono s2)).trans (hb4.mono s3)).trans (hb5.mono s4)).trans (hb6.mono s5)⟩


set_option maxRecDepth 100000 in
theorem lifted (os : Os) (started : os.Started) (H : Type) (enc : TypeId × Value → H) :
    ReturnsInHanded {} Try.checked os 6 .any (Rows.moneyBackSpec.pre6 enc Try.prog Try.f6 Rows.moneyBackRow.domain false) (Rows.moneyBackSpec.post enc Try.prog Try.f6 false true false false) := by
  refine returnsInHanded_of_change (C := Try.checked) own started (by kernel_rfl) Try.func6
    (ChangeSpec.witness6 (enc := enc) (C := Try.checked) false ⟨#[], #[.int .u64 0, .int .u64 0], []⟩ 8 (by kernel_rfl) (by kernel_rfl) (by kernel_rfl) (by kernel_rfl)) ?_
  intro W base args ds gs before hval0 hW hcnd _
  have hval : ∀ (j : Nat) t v, Try.f6.params[j]? = some t → args[j]? = some v → Value.okWide Try.prog W .any base t v := hval0
  have hW' := hW
  obtain ⟨p, q, hA0, hV, rfl, hfz, hnd⟩ := hW
  have hA1 : DataW.TrodAll enc Try.prog W 0 (fun _ => true) true Try.f6.params.toList args.toList ds p := hA0
  have hA := hA1
  rw [Try.params6] at hA hval
  obtain ⟨v0, vs0, d0, ds0, p0, q0, hargs, rfl, rfl, h0, r0⟩ := trodAll_cons hA
  obtain ⟨v1, vs1, d1, ds1, p1, q1, rfl, rfl, rfl, h1, r1⟩ := trodAll_cons r0
  obtain ⟨rfl, rfl, rfl⟩ := trodAll_nil r1
  obtain rfl : args = #[v0, v1] := by cases args; simp_all
  obtain ⟨rfl, rfl⟩ := trodVars_none hV
  obtain ⟨a, rfl, rfl, rfl, wf0⟩ := open_int Try.underlying22 (hval 0 22 v0 rfl rfl) h0
  obtain ⟨b, rfl, rfl, rfl, wf1⟩ := open_int Try.underlying22 (hval 1 22 v1 rfl rfl) h1
  clear hA0 hval0
  refine (walk W a (bounds_u64 wf0) b (bounds_u64 wf1)).mono fun e W' ⟨he, bel⟩ => ?_
  subst he
  exact ⟨_, rfl, _, _, _, [], _, [], hW', trodAll_mk1 (shut_bool Try.underlying4 _), args_again laidOut bel (by kernel_rfl) hA1, rfl, bel.frame _, fun h => by cases h⟩

theorem over : Rows.moneyBackRow.holds Try.pinned (OpenSpec.ofChange Rows.moneyBackSpec) :=
  OpenClaim.holds_of_wide 6 Try.f6 rfl rfl rfl rfl rfl rfl rfl ⟨rfl, rfl, rfl, rfl, rfl⟩ rfl rfl rfl rfl rfl (by kernel_rfl) Try.func6 (by kernel_rfl)
    (of_decide_eq_true (by kernel_rfl)) (by unfold Func.isWrapper; first | (rw [if_pos (by decide +kernel)]; kernel_rfl) | (rw [if_neg (by decide +kernel)]; exact ⟨rfl, rfl⟩))
    (fun os started H enc _ => lifted os started H enc)

theorem proved : Rows.MoneyBackSaid := over
end Go.Proofs.Ytnbiabcgnngamaa.LMoneyBack
