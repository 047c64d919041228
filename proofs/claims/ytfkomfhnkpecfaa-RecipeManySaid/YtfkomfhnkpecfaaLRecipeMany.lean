/- The law manciplelaw04.RecipeMany returns true whatever it is called with, and what it was called with reads as it did. No condition. -/
import Derived.Test.YtfkomfhnkpecfaaLaw
import Derived.Test.YtfkomfhnkpecfaaStkB
namespace Go.Proofs.Ytfkomfhnkpecfaa.LRecipeMany
open Go.ChangeShapes Go.WideShapes Go.ChangeAt Go.RowKit Go.IntWalk Go.Proofs.Mem Law
set_option linter.unusedVariables false
open Go.Proofs.Ytfkomfhnkpecfaa.Stk _root_.Go.Proofs.Stk
theorem cnt_small (item : Int) : ∀ l : List Pr, (∀ p ∈ l, 1 ≤ p.2 ∧ p.2 ≤ 10) → 0 ≤ cnt item l ∧ cnt item l ≤ 10
  | [], _ => by simp [cnt]
  | p :: l, h => by
    show 0 ≤ (if p.1 = item then p.2 else cnt item l) ∧ (if p.1 = item then p.2 else cnt item l) ≤ 10
    have h1 := h p (List.mem_cons_self ..)
    have h2 := cnt_small item l fun q hq => h q (List.mem_cons_of_mem _ hq)
    split <;> omega
theorem one_case (id : Int) : (inN id 1 = (lineS id).1 ∧ outN id 1 = (lineS id).2) := by
  by_cases h : isS id = true
  · unfold inN outN errN; rw [h]; simp [times]
  · have h' : isS id = false := by simpa using h
    rw [lineS_none h']; unfold inN outN errN; rw [h']; simp
theorem n_case (id n : Int) (h1 : 1 ≤ n) (h2 : n ≤ 1000) : inN id n = times n (inN id 1) ∧ outN id n = times n (outN id 1) := by
  obtain ⟨e1, e2⟩ := one_case id
  rw [e1, e2]
  by_cases h : isS id = true
  · unfold inN outN errN; rw [h]; simp [show ¬ (n < 1 ∨ 1000 < n) by omega]
  · have h' : isS id = false := by simpa using h
    rw [lineS_none h']; unfold inN outN errN; rw [h']; simp [times]
set_option maxHeartbeats 1000000 in
theorem walk (w : World) (id : Int) (hid : 0 ≤ id ∧ id ≤ 4294967295) (n : Int) (hn : 0 ≤ n ∧ n ≤ 18446744073709551615) (item : Int) (hitem : 0 ≤ item ∧ item ≤ 4294967295) :
    Calls Try.prog 4 #[.int .u32 id, .int .u64 n, .int .u32 item] w fun e w' => e = .returned (.bool true) ∧ Below w.heap.size w w' := by
  obtain ⟨s1, s2⟩ := lineS_small id
  obtain ⟨e1, e2⟩ := one_case id
  obtain ⟨c1, c2⟩ := cnt_small item (lineS id).1 fun p hp => (s1.2 p hp).2.2
  obtain ⟨c3, c4⟩ := cnt_small item (lineS id).2 fun p hp => (s2.2 p hp).2.2
  rw [← e1] at c1 c2
  rw [← e2] at c3 c4
  have HC := Lib.hid (fun W => change_any id n item hn W)
  have HC1 := Lib.hid (fun W => change_any id 1 item ⟨by omega, by omega⟩ W)
  clear s1 s2 e1 e2
  by_cases hr : 1 ≤ n ∧ n ≤ 1000
  · obtain ⟨h1, h2⟩ := hr
    obtain ⟨n1, n2⟩ := n_case id n h1 h2
    rw [n1, n2, cnt_times, cnt_times] at HC
    clear n1 n2
    generalize cnt item (inN id 1) = a at *
    generalize cnt item (outN id 1) = b at *
    have a0 : 0 ≤ a * n := Int.mul_nonneg c1 (by omega)
    have a1 : a * n ≤ 10000 := by have := Int.mul_le_mul c2 h2 (by omega) (by omega); omega
    have b0 : 0 ≤ b * n := Int.mul_nonneg c3 (by omega)
    have b1 : b * n ≤ 10000 := by have := Int.mul_le_mul c4 h2 (by omega) (by omega); omega
    have d1 : decide (n < 1) = false := by simp; omega
    have d2 : decide (1000 < n) = false := by simp; omega
    go_enter Try.func4, Try.ntmps4
    go_wp2_with fail
    (with_reducible refine (HC1.out _).mono ?_)
    rintro e w1 ⟨rfl, hb1⟩
    go_wp2_with fail
    (with_reducible refine (HC.out _).mono ?_)
    rintro e w2 ⟨rfl, hb2⟩
    go_wp2_with fail
    (with_reducible refine (known_any _).mono ?_)
    rintro e w3 ⟨rfl, hb3⟩
    go_wp2
    go_ret
    exact ⟨by simp, (hb1.step hb2).step hb3⟩
  · have he : errN id n ≠ 0 := by
      unfold errN; split
      · omega
      · rw [if_pos (by omega)]; omega
    obtain ⟨n1, n2⟩ := inN_err id n he
    rw [n1, n2, show cnt item [] = 0 from rfl] at HC
    clear n1 n2 he
    rcases (show (decide (n < 1) = true) ∨ (decide (n < 1) = false ∧ decide (1000 < n) = true) by
      by_cases h1 : n < 1
      · exact .inl (decide_eq_true h1)
      · exact .inr ⟨decide_eq_false h1, decide_eq_true (by omega)⟩) with hd | ⟨hd, hd2⟩
    all_goals
      clear hr
      go_enter Try.func4, Try.ntmps4
      go_wp2_with fail
      (with_reducible refine (HC1.out _).mono ?_)
      rintro e w1 ⟨rfl, hb1⟩
      go_wp2_with fail
      (with_reducible refine (HC.out _).mono ?_)
      rintro e w2 ⟨rfl, hb2⟩
      go_wp2_with fail
      (with_reducible refine (known_any _).mono ?_)
      rintro e w3 ⟨rfl, hb3⟩
      go_wp2
      go_ret
      exact ⟨rfl, (hb1.step hb2).step hb3⟩


set_option maxRecDepth 100000 in
theorem lifted (os : Os) (started : os.Started) (H : Type) (enc : TypeId × Value → H) :
    ReturnsInHanded {} Try.checked os 4 .any (Rows.recipeManySpec.pre6 enc Try.prog Try.f4 Rows.recipeManyRow.domain false) (Rows.recipeManySpec.post enc Try.prog Try.f4 false true false false) := by
  refine returnsInHanded_of_change (C := Try.checked) own started (by kernel_rfl) Try.func4
    (ChangeSpec.witness6 (enc := enc) (C := Try.checked) false ⟨#[], #[.int .u32 0, .int .u64 0, .int .u32 0], []⟩ 8 (by kernel_rfl) (by kernel_rfl) (by kernel_rfl) (by kernel_rfl)) ?_
  intro W base args ds gs before hval0 hW hcnd _
  have hval : ∀ (j : Nat) t v, Try.f4.params[j]? = some t → args[j]? = some v → Value.okWide Try.prog W .any base t v := hval0
  have hW' := hW
  obtain ⟨p, q, hA0, hV, rfl, hfz, hnd⟩ := hW
  have hA1 : DataW.TrodAll enc Try.prog W 0 (fun _ => true) true Try.f4.params.toList args.toList ds p := hA0
  have hA := hA1
  rw [Try.params4] at hA hval
  obtain ⟨v0, vs0, d0, ds0, p0, q0, hargs, rfl, rfl, h0, r0⟩ := trodAll_cons hA
  obtain ⟨v1, vs1, d1, ds1, p1, q1, rfl, rfl, rfl, h1, r1⟩ := trodAll_cons r0
  obtain ⟨v2, vs2, d2, ds2, p2, q2, rfl, rfl, rfl, h2, r2⟩ := trodAll_cons r1
  obtain ⟨rfl, rfl, rfl⟩ := trodAll_nil r2
  obtain rfl : args = #[v0, v1, v2] := by cases args; simp_all
  obtain ⟨rfl, rfl⟩ := trodVars_none hV
  obtain ⟨id, rfl, rfl, rfl, wf0⟩ := open_int Try.underlying22 (hval 0 22 v0 rfl rfl) h0
  obtain ⟨n, rfl, rfl, rfl, wf1⟩ := open_int Try.underlying23 (hval 1 23 v1 rfl rfl) h1
  obtain ⟨item, rfl, rfl, rfl, wf2⟩ := open_int Try.underlying22 (hval 2 22 v2 rfl rfl) h2
  clear hA0 hval0
  refine (walk W id (bounds_u32 wf0) n (bounds_u64 wf1) item (bounds_u32 wf2)).mono fun e W' ⟨he, bel⟩ => ?_
  subst he
  exact ⟨_, rfl, _, _, _, [], _, [], hW', trodAll_mk1 (shut_bool Try.underlying4 _), args_again laidOut bel (by kernel_rfl) hA1, rfl, bel.frame _, fun h => by cases h⟩

theorem over : Rows.recipeManyRow.holds Try.pinned (OpenSpec.ofChange Rows.recipeManySpec) :=
  OpenClaim.holds_of_wide 4 Try.f4 rfl rfl rfl rfl rfl rfl rfl ⟨rfl, rfl, rfl, rfl, rfl⟩ rfl rfl rfl rfl rfl (by kernel_rfl) Try.func4 (by kernel_rfl)
    (of_decide_eq_true (by kernel_rfl)) (by unfold Func.isWrapper; first | (rw [if_pos (by decide +kernel)]; kernel_rfl) | (rw [if_neg (by decide +kernel)]; exact ⟨rfl, rfl⟩))
    (fun os started H enc _ => lifted os started H enc)

theorem proved : Rows.RecipeManySaid := over
end Go.Proofs.Ytfkomfhnkpecfaa.LRecipeMany
