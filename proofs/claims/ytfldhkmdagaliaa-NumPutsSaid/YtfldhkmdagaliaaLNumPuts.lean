/- The law manciplelaw01.NumPuts returns true whatever it is called with, and what it was called with reads as it did. No condition. -/
import Derived.Test.YtfldhkmdagaliaaLaw
import Derived.Test.YtfldhkmdagaliaaNumKnown
namespace Go.Proofs.Ytfldhkmdagaliaa.LNumPuts
open Go.ChangeShapes Go.WideShapes Go.ChangeAt Go.RowKit Go.IntWalk Go.Proofs.Mem Law
set_option linter.unusedVariables false
open NumBytes NumInts Go.Proofs.NumMath
theorem walk (w : World) (n : Int) (hn : 0 ≤ n ∧ n ≤ 18446744073709551615) (k : Int) (hk : -9223372036854775808 ≤ k ∧ k ≤ 9223372036854775807) (b : Value) (xb : List Int) (hb : IR w w.heap.size .u8 b xb) (bb : Bytes xb) :
    Calls Try.prog 3 #[.int .u64 n, .int .i64 k, b] w fun e w' => e = .returned (.bool true) ∧ Below w.heap.size w w' := by
  by_cases hl : xb.length ≤ 1000
  · obtain ⟨A, c, rfl, hlc, hcm⟩ := hb.form
    unfold maxLen at hcm
    have hd : decide (1000 < (xb.length : Int)) = false := by simp; omega
    go_enter Try.func3, Try.ntmps3
    go_wp2_with fail
    (with_reducible refine (lent_any _ xb _ w.heap.size hb (by omega)).mono ?_)
    rintro e w1 ⟨u, rfl, hown1, hb1⟩
    have hu := IR.of_own hown1
    go_wp2_with fail
    (with_reducible refine (known_any _).mono ?_)
    rintro e w2 ⟨rfl, hb2⟩
    have hu2 := hu.below hb2
    go_wp2_with fail
    by_cases hk : 1 ≤ k ∧ k ≤ 8
    · (with_reducible refine (put_any n k hn.1 hn.2 hk.1 hk.2 _).mono ?_)
      rintro e w3 ⟨p, rfl, hown3, hb3⟩
      go_wp2_with fail
      (with_reducible refine (put_ref n k hn.1 hn.2 hk.1 hk.2 _).mono ?_)
      rintro e w4 ⟨q, rfl, hown4, hb4⟩
      have hp := (IR.of_own hown3).below hb4
      have hq := IR.of_own hown4
      have hbel : Below w.heap.size w w4 := ((hb1.trans (hb2.mono hb1.size)).trans (hb3.mono (Nat.le_trans hb1.size hb2.size))).trans (hb4.mono (Nat.le_trans (Nat.le_trans hb1.size hb2.size) hb3.size))
      have hu4 := (hu2.below (hb3.mono hb2.size)).below (hb4.mono (Nat.le_trans hb2.size hb3.size))
      have hv4 := hb.below hbel
      clear hown3 hown4 hown1 hu hu2
      go_wp2_with fail
      (with_reducible refine (same_any p q _ _ _ _ _ hp hq (putS_bytes _ _) (putS_bytes _ _)).mono ?_)
      rintro e w' ⟨rfl, rfl⟩
      rw [decide_eq_true rfl]
      clear hp hq
      go_wp2_with fail
      (with_reducible refine (get_any _ _ _ _ hu4 bb).mono ?_)
      rintro e w' ⟨rfl, rfl⟩
      go_wp2_with fail
      (with_reducible refine (get_ref _ _ _ _ hv4 bb).mono ?_)
      rintro e w' ⟨rfl, d, rfl⟩
      go_wp2_with fail
      (with_reducible refine (same_any u _ _ _ _ _ _ (hu4.drewN d) (hv4.drewN d) bb bb).mono ?_)
      rintro e w' ⟨rfl, rfl⟩
      rw [decide_eq_true rfl]
      go_wp2
      go_ret
      exact ⟨rfl, below_drewN hbel d⟩
    · (with_reducible refine (put_none n k (by omega) _).mono ?_)
      rintro e w3 ⟨rfl, rfl⟩
      go_wp2_with fail
      (with_reducible refine (put_none_ref n k (by omega) _).mono ?_)
      rintro e w3 ⟨rfl, rfl⟩
      have hbel : Below w.heap.size w w2 := hb1.trans (hb2.mono hb1.size)
      have hv4 := hb.below hbel
      have hnil : IR w2 0 .u8 (.slice none 0 0) [] := IR.nil _ _ _
      go_wp2_with fail
      (with_reducible refine (same_any _ _ _ _ _ _ _ hnil hnil Bytes.nil Bytes.nil).mono ?_)
      rintro e w' ⟨rfl, rfl⟩
      rw [decide_eq_true rfl]
      go_wp2_with fail
      (with_reducible refine (get_any _ _ _ _ hu2 bb).mono ?_)
      rintro e w' ⟨rfl, rfl⟩
      go_wp2_with fail
      (with_reducible refine (get_ref _ _ _ _ hv4 bb).mono ?_)
      rintro e w' ⟨rfl, d, rfl⟩
      go_wp2_with fail
      (with_reducible refine (same_any u _ _ _ _ _ _ (hu2.drewN d) (hv4.drewN d) bb bb).mono ?_)
      rintro e w' ⟨rfl, rfl⟩
      rw [decide_eq_true rfl]
      go_wp2
      go_ret
      exact ⟨rfl, below_drewN hbel d⟩
  · have hd : decide (1000 < (xb.length : Int)) = true := by simp; omega
    obtain ⟨A, c, rfl, hlc, hcm⟩ := hb.form
    unfold maxLen at hcm
    go_enter Try.func3, Try.ntmps3
    go_wp2
    go_ret
    exact ⟨rfl, Below.refl _ _⟩


set_option maxRecDepth 100000 in
theorem lifted (os : Os) (started : os.Started) (H : Type) (enc : TypeId × Value → H) :
    ReturnsInHanded {} Try.checked os 3 .any (Rows.numPutsSpec.pre6 enc Try.prog Try.f3 Rows.numPutsRow.domain false) (Rows.numPutsSpec.post enc Try.prog Try.f3 false true false false) := by
  refine returnsInHanded_of_change (C := Try.checked) own started (by kernel_rfl) Try.func3
    (ChangeSpec.witness6 (enc := enc) (C := Try.checked) false ⟨#[], #[.int .u64 0, .int .i64 0, .slice none 0 0], []⟩ 8 (by kernel_rfl) (by kernel_rfl) (by kernel_rfl) (by kernel_rfl)) ?_
  intro W base args ds gs before hval0 hW hcnd _
  have hval : ∀ (j : Nat) t v, Try.f3.params[j]? = some t → args[j]? = some v → Value.okWide Try.prog W .any base t v := hval0
  have hW' := hW
  obtain ⟨p, q, hA0, hV, rfl, hfz, hnd⟩ := hW
  have hA1 : DataW.TrodAll enc Try.prog W 0 (fun _ => true) true Try.f3.params.toList args.toList ds p := hA0
  have hA := hA1
  rw [Try.params3] at hA hval
  obtain ⟨v0, vs0, d0, ds0, p0, q0, hargs, rfl, rfl, h0, r0⟩ := trodAll_cons hA
  obtain ⟨v1, vs1, d1, ds1, p1, q1, rfl, rfl, rfl, h1, r1⟩ := trodAll_cons r0
  obtain ⟨v2, vs2, d2, ds2, p2, q2, rfl, rfl, rfl, h2, r2⟩ := trodAll_cons r1
  obtain ⟨rfl, rfl, rfl⟩ := trodAll_nil r2
  obtain rfl : args = #[v0, v1, v2] := by cases args; simp_all
  obtain ⟨rfl, rfl⟩ := trodVars_none hV
  obtain ⟨n, rfl, rfl, rfl, wf0⟩ := open_int Try.underlying22 (hval 0 22 v0 rfl rfl) h0
  obtain ⟨k, rfl, rfl, rfl, wf1⟩ := open_int Try.underlying3 (hval 1 3 v1 rfl rfl) h1
  obtain ⟨xb, i2, wf2⟩ := open_IR Try.underlying23 Try.underlying5 (by kernel_rfl) (hval 2 23 v2 rfl rfl) h2
  clear hA0 hval0
  refine (walk W n (bounds_u64 wf0) k (bounds_i64 wf1) v2 xb i2 (fun n hn => bounds_u8 (wf2 n hn))).mono fun e W' ⟨he, bel⟩ => ?_
  subst he
  exact ⟨_, rfl, _, _, _, [], _, [], hW', trodAll_mk1 (shut_bool Try.underlying4 _), args_again laidOut bel (by kernel_rfl) hA1, rfl, bel.frame _, fun h => by cases h⟩

theorem over : Rows.numPutsRow.holds Try.pinned (OpenSpec.ofChange Rows.numPutsSpec) :=
  OpenClaim.holds_of_wide 3 Try.f3 rfl rfl rfl rfl rfl rfl rfl ⟨rfl, rfl, rfl, rfl, rfl⟩ rfl rfl rfl rfl rfl (by kernel_rfl) Try.func3 (by kernel_rfl)
    (of_decide_eq_true (by kernel_rfl)) (by unfold Func.isWrapper; first | (rw [if_pos (by decide +kernel)]; kernel_rfl) | (rw [if_neg (by decide +kernel)]; exact ⟨rfl, rfl⟩))
    (fun os started H enc _ => lifted os started H enc)

theorem proved : Rows.NumPutsSaid := over
end Go.Proofs.Ytfldhkmdagaliaa.LNumPuts
