/- The law manciplelaw14.KnotRings returns true whatever it is called with, and what it was called with reads as it did. No condition. -/
import Derived.Test.YteldfoplhcnljaaLaw
import Derived.Test.YteldfoplhcnljaaKn6
namespace Go.Proofs.Yteldfoplhcnljaa.LKnotRings
open Go.ChangeShapes Go.WideShapes Go.ChangeAt Go.RowKit Go.IntWalk Go.Proofs.Mem Law
set_option linter.unusedVariables false
open Go.Proofs.Yteldfoplhcnljaa.Knot Go.Proofs.Yteldfoplhcnljaa.Srt Go.Proofs.Ring
set_option maxRecDepth 100000 in
set_option maxHeartbeats 8000000 in
theorem walk (w : World) (l : Value) (xl : List Knot.Ed) (hl : SS Knot.cEd 2 w w.heap.size l xl) (bl : ∀ o ∈ xl, Knot.Ed.Ok o) (fr : Int) (hfr : 0 ≤ fr ∧ fr ≤ 4294967295) :
    Calls Try.prog 4 #[l, .int .u32 fr] w fun e w' => e = .returned (.bool true) ∧ Below w.heap.size w w' := by
  obtain ⟨A, c, rfl, hlc, hcm⟩ := hl.form
  have HL := Lib.hid hl
  have BL := Lib.hid bl
  have KN := Lib.hid (fun W => known_any W)
  by_cases hlen : 40 < xl.length
  · have d1 : decide (40 < (xl.length : Int)) = true := decide_eq_true (by omega)
    have d1' : decide (40 < xl.length) = true := decide_eq_true hlen
    clear hl bl
    go_enter Try.func4, Try.ntmps4
    go_wp2_with fail
    (with_reducible refine (KN.out _).mono ?_)
    rintro e w1 ⟨rfl, hb1⟩
    go_wp2
    go_ret
    exact ⟨rfl, hb1⟩
  · have d1 : decide (40 < (xl.length : Int)) = false := decide_eq_false (by omega)
    have d1' : decide (40 < xl.length) = false := decide_eq_false hlen
    have HFR := Lib.hid hfr
    have HLE := Lib.hid (show xl.length ≤ 40 by omega)
    obtain ⟨R, hR⟩ : ∃ R, R = cyc xl fr := ⟨_, rfl⟩
    have HR := Lib.hid hR
    have CY := Lib.hid (fun (W : World) (hb : Below w.heap.size w W) => cycle_any W _ xl fr ((HL.out.below hb).more hb.size) BL.out (by have := HLE.out; omega) HFR.out)
    rw [← hR] at CY
    have HRL := Lib.hid (show R.length ≤ 41 by rw [hR]; have := cyc_len xl fr; have := HLE.out; omega)
    clear hl bl hlc hcm hlen hR
    go_enter Try.func4, Try.ntmps4
    go_wp2_with fail
    (with_reducible refine (KN.out _).mono ?_)
    rintro e w1 ⟨rfl, hb1⟩
    have HB1 := Lib.hid hb1
    clear hb1
    go_wp2_with fail
    (with_reducible refine (CY.out _ HB1.out).mono ?_)
    rintro e w2 ⟨⟨u, rfl, hu⟩, hb2⟩
    obtain ⟨A2, c2, rfl, hc2, _⟩ := hu.form
    have HU := Lib.hid hu
    have HB2 := Lib.hid (HB1.out.trans (hb2.mono HB1.out.size))
    clear hu hb2 d1 d1'
    obtain ⟨n, hn⟩ : ∃ n, n = R.length := ⟨_, rfl⟩
    rw [← hn]
    have HN := Lib.hid hn
    have bn : (n : Int) ≤ 41 := by have := HRL.out; omega
    by_cases h0 : n = 0
    · subst h0
      go_wp2
      go_ret
      exact ⟨rfl, HB2.out⟩
    · have d0 : decide ((n : Int) = 0) = false := by simp; omega
      have d0' : decide (n = 0) = false := by simp; omega
      have d0'' : ((n : Int) == 0) = false := by simp; omega
      have hne : cyc xl fr ≠ [] := by rw [← HR.out]; intro e; rw [e] at hn; exact h0 hn
      obtain ⟨f1, f2, f3⟩ := cyc_facts hne
      rw [← HR.out, ← HN.out] at f1 f2
      rw [← HR.out] at f3
      have F1 := Lib.hid f1
      have F2 := Lib.hid f2
      have F3 := Lib.hid f3
      have HN0 := Lib.hid (show 0 < n by omega)
      clear f1 f2 f3 hne hn h0 CY KN
      go_wp2
      go_loopw [6] (fun s wr => ∃ i : Nat, i ≤ n ∧ s = .int .i64 i ∧ Hid (Below w2.heap.size w2 wr)) (fun s _ => n - (intOf s).toNat)
      case atStart => exact ⟨0, Nat.zero_le _, rfl, Lib.hid (Below.refl _ _)⟩
      case round =>
        obtain ⟨i, hi, rfl, HW⟩ := hrel
        obtain ⟨w3, rfl⟩ : ∃ w3, w3 = wr := ⟨wr, rfl⟩
        by_cases hin : i < n
        · have d1 : decide ((i : Int) < (n : Int)) = true := by simp; omega
          have d1' : decide (i < n) = true := by simp; omega
          have bi : (i : Int) ≤ 41 := by omega
          obtain ⟨i', hi'⟩ : ∃ i', i' = i + 1 := ⟨_, rfl⟩
          have si : (i : Int) + 1 = (i' : Int) := by omega
          have HII := Lib.hid (⟨hi', hin⟩ : i' = i + 1 ∧ i < n)
          clear hi hi'
          go_wp2
          go_loopw [7] (fun s wr => ∃ k : Nat, k ≤ i ∧ s = .int .i64 k ∧ Hid (Below w2.heap.size w2 wr)) (fun s _ => i - (intOf s).toNat)
          case atStart => exact ⟨0, Nat.zero_le _, rfl, HW⟩
          case round =>
            obtain ⟨k, hk, rfl, HW4⟩ := hrel
            obtain ⟨w4, rfl⟩ : ∃ w4, w4 = wr := ⟨wr, rfl⟩
            have hu4 := HU.out.below HW4.out
            rw [← HN.out] at hu4
            obtain ⟨g, o, hA, _, q1⟩ := hu4.index i hin
            subst hA
            by_cases hki : k < i
            · have d2 : decide ((k : Int) < (i : Int)) = true := by simp; omega
              have d2' : decide (k < i) = true := by simp; omega
              obtain ⟨g', o', e, _, q2⟩ := hu4.index k (by omega)
              injection e with e
              injection e with e1 e2
              subst e1 e2
              have k1 := fun d => (show (w4.drewN d).cell? ⟨g, o + i, none⟩ = _ from q1)
              have k2 := fun d => (show (w4.drewN d).cell? ⟨g, o + k, none⟩ = _ from q2)
              have hkn : k < n := by omega
              have dne : decide (R.getD i 0 = R.getD k 0) = false := decide_eq_false (F2.out i k hki hin)
              have dne2 : (R.getD i 0 == R.getD k 0) = false := by simpa using F2.out i k hki hin
              generalize R.getD i 0 = x at *
              generalize R.getD k 0 = y at *
              obtain ⟨k', hk'⟩ : ∃ k', k' = k + 1 := ⟨_, rfl⟩
              have sk : (k : Int) + 1 = (k' : Int) := by omega
              have HKI := Lib.hid (⟨hk', hki⟩ : k' = k + 1 ∧ k < i)
              clear q1 q2 hu4 hk' hki hk
              go_upto_region 12 with fail
              go_quiet (fail)
              go_wp2
              go_roundw
              case rel => exact ⟨k', by have := HKI.out; omega, rfl, Lib.hid (below_drewN HW4.out nq)⟩
              case measure => simp [intOf]; have := HKI.out; omega
            · have d2 : decide ((k : Int) < (i : Int)) = false := by simp; omega
              have d2' : decide (k < i) = false := by simp; omega
              obtain ⟨j, hj⟩ : ∃ j, j = i' % n := ⟨_, rfl⟩
              have sj : (i' : Int) % (n : Int) = (j : Int) := by rw [hj]; simp
              have sj2 : Int.tmod (i' : Int) (n : Int) = (j : Int) := by rw [Int.tmod_eq_emod_of_nonneg (by omega)]; exact sj
              have hjn : j < n := by rw [hj]; exact Nat.mod_lt _ HN0.out
              have bi' : (i' : Int) ≤ 42 := by omega
              have n0 : ¬ (n : Int) = 0 := by have := HN0.out; omega
              obtain ⟨g', o', e, _, q2⟩ := hu4.index j hjn
              injection e with e
              injection e with e1 e2
              subst e1 e2
              have k1 := fun d => (show (w4.drewN d).cell? ⟨g, o + i, none⟩ = _ from q1)
              have k2 := fun d => (show (w4.drewN d).cell? ⟨g, o + j, none⟩ = _ from q2)
              have hm : R.getD j 0 ∈ tos xl (R.getD i 0) := by rw [hj, HII.out.1]; exact F1.out i hin
              generalize R.getD i 0 = x at *
              generalize R.getD j 0 = y at *
              have CE := Lib.hid (fun d => edge_any (w4.drewN d) _ xl x y ((HL.out.below (HB2.out.trans (HW4.out.mono HB2.out.size))).more (Nat.le_trans HB2.out.size HW4.out.size)) (by have := HLE.out; omega))
              rw [decide_eq_true hm] at CE
              clear q1 q2 hu4 hm hj
              go_upto_region 14 with fail
              go_quiet (first | (go_at_call 15; exact quiet_l (CE.out _)))
              go_wp2
              go_roundw
              case rel => exact ⟨i', by have := HII.out; omega, rfl, Lib.hid (below_drewN HW4.out nq)⟩
              case measure => simp [intOf]; have := HII.out; omega
        · have d1 : decide ((i : Int) < (n : Int)) = false := by simp; omega
          have d1' : decide (i < n) = false := by simp; omega
          have hu4 := HU.out.below HW.out
          rw [← HN.out] at hu4
          obtain ⟨g, o, hA, _, q1⟩ := hu4.index 0 HN0.out
          subst hA
          rw [F3.out, Nat.add_zero] at q1
          have hn0 := HN0.out
          clear hu4
          go_wp2
          go_ret
          exact ⟨by simp, HB2.out.trans (HW.out.mono HB2.out.size)⟩


set_option maxRecDepth 100000 in
theorem lifted (os : Os) (started : os.Started) (H : Type) (enc : TypeId × Value → H) :
    ReturnsInHanded {} Try.checked os 4 .any (Rows.knotRingsSpec.pre6 enc Try.prog Try.f4 Rows.knotRingsRow.domain false) (Rows.knotRingsSpec.post enc Try.prog Try.f4 false true false false) := by
  refine returnsInHanded_of_change (C := Try.checked) own started (by kernel_rfl) Try.func4
    (ChangeSpec.witness6 (enc := enc) (C := Try.checked) false ⟨#[], #[.slice none 0 0, .int .u32 0], []⟩ 8 (by kernel_rfl) (by kernel_rfl) (by kernel_rfl) (by kernel_rfl)) ?_
  intro W base args ds gs before hval0 hW hcnd _
  have hval : ∀ (j : Nat) t v, Try.f4.params[j]? = some t → args[j]? = some v → Value.okWide Try.prog W .any base t v := hval0
  have hW' := hW
  obtain ⟨p, q, hA0, hV, rfl, hfz, hnd⟩ := hW
  have hA1 : DataW.TrodAll enc Try.prog W 0 (fun _ => true) true Try.f4.params.toList args.toList ds p := hA0
  have hA := hA1
  rw [Try.params4] at hA hval
  obtain ⟨v0, vs0, d0, ds0, p0, q0, hargs, rfl, rfl, h0, r0⟩ := trodAll_cons hA
  obtain ⟨v1, vs1, d1, ds1, p1, q1, rfl, rfl, rfl, h1, r1⟩ := trodAll_cons r0
  obtain ⟨rfl, rfl, rfl⟩ := trodAll_nil r1
  obtain rfl : args = #[v0, v1] := by cases args; simp_all
  obtain ⟨rfl, rfl⟩ := trodVars_none hV
  obtain ⟨xl, i0, wf0⟩ := Knot.open_eds (hval 0 22 v0 rfl rfl) h0
  obtain ⟨fr, rfl, rfl, rfl, wf1⟩ := open_int Try.underlying23 (hval 1 23 v1 rfl rfl) h1
  clear hA0 hval0
  refine (walk W v0 xl i0 wf0 fr (bounds_u32 wf1)).mono fun e W' ⟨he, bel⟩ => ?_
  subst he
  exact ⟨_, rfl, _, _, _, [], _, [], hW', trodAll_mk1 (shut_bool Try.underlying4 _), args_again laidOut bel (by kernel_rfl) hA1, rfl, bel.frame _, fun h => by cases h⟩

theorem over : Rows.knotRingsRow.holds Try.pinned (OpenSpec.ofChange Rows.knotRingsSpec) :=
  OpenClaim.holds_of_wide 4 Try.f4 rfl rfl rfl rfl rfl rfl rfl ⟨rfl, rfl, rfl, rfl, rfl⟩ rfl rfl rfl rfl rfl (by kernel_rfl) Try.func4 (by kernel_rfl)
    (of_decide_eq_true (by kernel_rfl)) (by unfold Func.isWrapper; first | (rw [if_pos (by decide +kernel)]; kernel_rfl) | (rw [if_neg (by decide +kernel)]; exact ⟨rfl, rfl⟩))
    (fun os started H enc _ => lifted os started H enc)

theorem proved : Rows.KnotRingsSaid := over
end Go.Proofs.Yteldfoplhcnljaa.LKnotRings
