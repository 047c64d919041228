/- The law manciplelaw01.NumBack returns true whatever it is called with, and what it was called with reads as it did. No condition. -/
import Derived.Test.YtfldhkmdagaliaaLaw
import Derived.Test.YtfldhkmdagaliaaNumKnown
namespace Go.Proofs.Ytfldhkmdagaliaa.LNumBack
open Go.ChangeShapes Go.WideShapes Go.ChangeAt Go.RowKit Go.IntWalk Go.Proofs.Mem Law
set_option linter.unusedVariables false
open NumBytes NumInts Go.Proofs.NumMath
theorem mod_mul (n a b : Int) (ha : 0 < a) : n % (a * b) = n % a + n / a % b * a := by
  rw [Int.emod_def, Int.emod_def n a, Int.emod_def (n / a) b, Int.ediv_ediv_of_nonneg (Int.le_of_lt ha), Int.sub_mul, Int.mul_comm (n / a) a, Int.mul_assoc a b, Int.mul_comm (b * _) a]
  omega
theorem getTo_put (n : Int) (k : Nat) : ∀ j, j ≤ k → getTo (putS n k) j = n % 2 ^ (8 * j) := by
  intro j
  induction j with
  | zero => intro _; simp [getTo, Int.emod_one]
  | succ j ih =>
    intro hj
    have hg : (putS n k).getD j 0 = n / 2 ^ (8 * j) % 256 := by simp [putS, List.getD, show j < k by omega]
    show getTo (putS n k) j + (putS n k).getD j 0 * 2 ^ (8 * j) = _
    rw [ih (by omega), hg]
    have e : (2 : Int) ^ (8 * (j + 1)) = 2 ^ (8 * j) * 256 := by rw [show 8 * (j + 1) = 8 * j + 8 by omega, p2_add]; rfl
    rw [e, mod_mul _ _ _ (p2 _)]
theorem get_put (n : Int) (k : Nat) (hk : k ≤ 8) : getS (putS n k) = n % 2 ^ (8 * k) := by
  unfold getS
  rw [putS_len, Nat.min_eq_left hk, getTo_put n k k (Nat.le_refl _)]
theorem unfold_fold (v : Int) : unfoldS (foldS v) = v := by
  unfold unfoldS foldS; split <;> split <;> omega
theorem fold_unfold (n : Int) (h : 0 ≤ n) : foldS (unfoldS n) = n := by
  unfold unfoldS foldS; split <;> split <;> omega
theorem foldS_bd (v : Int) (h0 : -9223372036854775808 ≤ v) (h1 : v ≤ 9223372036854775807) : 0 ≤ foldS v ∧ foldS v ≤ 18446744073709551615 := by
  unfold foldS; split <;> omega
theorem unfoldS_bd (n : Int) (h0 : 0 ≤ n) (h1 : n ≤ 18446744073709551615) : -9223372036854775808 ≤ unfoldS n ∧ unfoldS n ≤ 9223372036854775807 := by
  unfold unfoldS; split <;> omega
theorem walk (w : World) (n : Int) (hn : 0 ≤ n ∧ n ≤ 18446744073709551615) (width : Int) (hwidth : 0 ≤ width ∧ width ≤ 255) (v : Int) (hv : -9223372036854775808 ≤ v ∧ v ≤ 9223372036854775807) :
    Calls Try.prog 7 #[.int .u64 n, .int .u8 width, .int .i64 v] w fun e w' => e = .returned (.bool true) ∧ Below w.heap.size w w' := by
  obtain ⟨K, hK, hK8⟩ : ∃ K : Nat, width % 8 = (K : Int) ∧ K < 8 := ⟨(width % 8).toNat, by omega, by omega⟩
  have hw0 := width
  clear hw0
  have HK := Lib.hid hK
  by_cases h7 : K < 7
  · obtain ⟨M, hM, hM0, hMe⟩ : ∃ M : Int, IntKind.u64.wrap (2 ^ (8 * (1 + K))) = M ∧ 0 < M ∧ M = 2 ^ (8 * (1 + K)) := by
      have := p2_le (show 8 * (1 + K) ≤ 56 by omega)
      rw [show (2 : Int) ^ 56 = 72057594037927936 from by decide] at this
      exact ⟨2 ^ (8 * (1 + K)), by rw [wrap_u64, Int.emod_eq_of_lt (Int.le_of_lt (p2 _)) (by omega)], p2 _, rfl⟩
    have HM := Lib.hid hMe
    clear hMe
    have hM1 : M ≤ 72057594037927936 := by
      have := p2_le (show 8 * (1 + K) ≤ 56 by omega)
      rw [show (2 : Int) ^ 56 = 72057594037927936 from by decide] at this
      rw [HM.out]; exact this
    go_enter Try.func7, Try.ntmps7
    go_wp2_with fail
    (with_reducible refine (known_any _).mono ?_)
    rintro e w1 ⟨rfl, hb1⟩
    go_wp2_with fail
    (with_reducible refine (put_any n (1 + (K : Int)) hn.1 hn.2 (by omega) (by omega) _).mono ?_)
    rintro e w2 ⟨p, rfl, hown2, hb2⟩
    have hp := IR.of_own hown2
    rw [show (1 + (K : Int)).toNat = 1 + K by omega] at hp
    go_wp2_with fail
    (with_reducible refine (get_any _ _ _ _ hp (putS_bytes _ _)).mono ?_)
    rintro e w' ⟨rfl, rfl⟩
    have hg : getS (putS n (1 + K)) = n % M := by rw [get_put n (1 + K) (by omega), HM.out]
    rw [hg]
    clear hg hp hown2
    go_wp2_with fail
    (with_reducible refine (put_any n (1 + (K : Int)) hn.1 hn.2 (by omega) (by omega) _).mono ?_)
    rintro e w3 ⟨p3, rfl, hown3, hb3⟩
    have hp := IR.of_own hown3
    rw [show (1 + (K : Int)).toNat = 1 + K by omega] at hp
    obtain ⟨A, c, hA, _, _⟩ := hp.form
    rw [putS_len] at hA
    subst hA
    clear hp hown3
    have hfb := foldS_bd v hv.1 hv.2
    have hub := unfoldS_bd n hn.1 hn.2
    go_wp2_with fail
    (with_reducible refine (fold_any v hv.1 hv.2 _).mono ?_)
    rintro e w' ⟨rfl, rfl⟩
    go_wp2_with fail
    (with_reducible refine (unfold_any _ hfb.1 hfb.2 _).mono ?_)
    rintro e w' ⟨rfl, rfl⟩
    rw [unfold_fold]
    go_wp2_with fail
    (with_reducible refine (unfold_any n hn.1 hn.2 _).mono ?_)
    rintro e w' ⟨rfl, rfl⟩
    go_wp2_with fail
    (with_reducible refine (fold_any _ hub.1 hub.2 _).mono ?_)
    rintro e w' ⟨rfl, rfl⟩
    rw [fold_unfold n hn.1]
    go_wp2
    go_ret
    exact ⟨rfl, (hb1.trans (hb2.mono hb1.size)).trans (hb3.mono (Nat.le_trans hb1.size hb2.size))⟩
  · have h8 : 8 ≤ 1 + (K : Int) := by omega
    go_enter Try.func7, Try.ntmps7
    go_wp2_with fail
    (with_reducible refine (known_any _).mono ?_)
    rintro e w1 ⟨rfl, hb1⟩
    go_wp2_with fail
    (with_reducible refine (put_any n (1 + (K : Int)) hn.1 hn.2 (by omega) (by omega) _).mono ?_)
    rintro e w2 ⟨p, rfl, hown2, hb2⟩
    have hp := IR.of_own hown2
    rw [show (1 + (K : Int)).toNat = 1 + K by omega] at hp
    go_wp2_with fail
    (with_reducible refine (get_any _ _ _ _ hp (putS_bytes _ _)).mono ?_)
    rintro e w' ⟨rfl, rfl⟩
    have hg : getS (putS n (1 + K)) = n := by
      rw [get_put n (1 + K) (by omega), show 8 * (1 + K) = 64 by omega, show (2 : Int) ^ 64 = 18446744073709551616 from by decide]; omega
    rw [hg]
    clear hg hp hown2
    go_wp2_with fail
    (with_reducible refine (put_any n (1 + (K : Int)) hn.1 hn.2 (by omega) (by omega) _).mono ?_)
    rintro e w3 ⟨p3, rfl, hown3, hb3⟩
    have hp := IR.of_own hown3
    rw [show (1 + (K : Int)).toNat = 1 + K by omega] at hp
    obtain ⟨A, c, hA, _, _⟩ := hp.form
    rw [putS_len] at hA
    subst hA
    clear hp hown3
    have hfb := foldS_bd v hv.1 hv.2
    have hub := unfoldS_bd n hn.1 hn.2
    go_wp2_with fail
    (with_reducible refine (fold_any v hv.1 hv.2 _).mono ?_)
    rintro e w' ⟨rfl, rfl⟩
    go_wp2_with fail
    (with_reducible refine (unfold_any _ hfb.1 hfb.2 _).mono ?_)
    rintro e w' ⟨rfl, rfl⟩
    rw [unfold_fold]
    go_wp2_with fail
    (with_reducible refine (unfold_any n hn.1 hn.2 _).mono ?_)
    rintro e w' ⟨rfl, rfl⟩
    go_wp2_with fail
    (with_reducible refine (fold_any _ hub.1 hub.2 _).mono ?_)
    rintro e w' ⟨rfl, rfl⟩
    rw [fold_unfold n hn.1]
    go_wp2
    go_ret
    exact ⟨rfl, (hb1.trans (hb2.mono hb1.size)).trans (hb3.mono (Nat.le_trans hb1.size hb2.size))⟩


set_option maxRecDepth 100000 in
theorem lifted (os : Os) (started : os.Started) (H : Type) (enc : TypeId × Value → H) :
    ReturnsInHanded {} Try.checked os 7 .any (Rows.numBackSpec.pre6 enc Try.prog Try.f7 Rows.numBackRow.domain false) (Rows.numBackSpec.post enc Try.prog Try.f7 false true false false) := by
  refine returnsInHanded_of_change (C := Try.checked) own started (by kernel_rfl) Try.func7
    (ChangeSpec.witness6 (enc := enc) (C := Try.checked) false ⟨#[], #[.int .u64 0, .int .u8 0, .int .i64 0], []⟩ 8 (by kernel_rfl) (by kernel_rfl) (by kernel_rfl) (by kernel_rfl)) ?_
  intro W base args ds gs before hval0 hW hcnd _
  have hval : ∀ (j : Nat) t v, Try.f7.params[j]? = some t → args[j]? = some v → Value.okWide Try.prog W .any base t v := hval0
  have hW' := hW
  obtain ⟨p, q, hA0, hV, rfl, hfz, hnd⟩ := hW
  have hA1 : DataW.TrodAll enc Try.prog W 0 (fun _ => true) true Try.f7.params.toList args.toList ds p := hA0
  have hA := hA1
  rw [Try.params7] at hA hval
  obtain ⟨v0, vs0, d0, ds0, p0, q0, hargs, rfl, rfl, h0, r0⟩ := trodAll_cons hA
  obtain ⟨v1, vs1, d1, ds1, p1, q1, rfl, rfl, rfl, h1, r1⟩ := trodAll_cons r0
  obtain ⟨v2, vs2, d2, ds2, p2, q2, rfl, rfl, rfl, h2, r2⟩ := trodAll_cons r1
  obtain ⟨rfl, rfl, rfl⟩ := trodAll_nil r2
  obtain rfl : args = #[v0, v1, v2] := by cases args; simp_all
  obtain ⟨rfl, rfl⟩ := trodVars_none hV
  obtain ⟨n, rfl, rfl, rfl, wf0⟩ := open_int Try.underlying22 (hval 0 22 v0 rfl rfl) h0
  obtain ⟨width, rfl, rfl, rfl, wf1⟩ := open_int Try.underlying5 (hval 1 5 v1 rfl rfl) h1
  obtain ⟨v, rfl, rfl, rfl, wf2⟩ := open_int Try.underlying2 (hval 2 2 v2 rfl rfl) h2
  clear hA0 hval0
  refine (walk W n (bounds_u64 wf0) width (bounds_u8 wf1) v (bounds_i64 wf2)).mono fun e W' ⟨he, bel⟩ => ?_
  subst he
  exact ⟨_, rfl, _, _, _, [], _, [], hW', trodAll_mk1 (shut_bool Try.underlying4 _), args_again laidOut bel (by kernel_rfl) hA1, rfl, bel.frame _, fun h => by cases h⟩

theorem over : Rows.numBackRow.holds Try.pinned (OpenSpec.ofChange Rows.numBackSpec) :=
  OpenClaim.holds_of_wide 7 Try.f7 rfl rfl rfl rfl rfl rfl rfl ⟨rfl, rfl, rfl, rfl, rfl⟩ rfl rfl rfl rfl rfl (by kernel_rfl) Try.func7 (by kernel_rfl)
    (of_decide_eq_true (by kernel_rfl)) (by unfold Func.isWrapper; first | (rw [if_pos (by decide +kernel)]; kernel_rfl) | (rw [if_neg (by decide +kernel)]; exact ⟨rfl, rfl⟩))
    (fun os started H enc _ => lifted os started H enc)

theorem proved : Rows.NumBackSaid := over
end Go.Proofs.Ytfldhkmdagaliaa.LNumBack
