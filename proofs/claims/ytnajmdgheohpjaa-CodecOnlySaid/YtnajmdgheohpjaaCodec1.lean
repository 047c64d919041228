import Derived.Test.YtnajmdgheohpjaaCodecMath
import Derived.Test.YtnajmdgheohpjaaMem3
import Derived.Lib.AppendZeros
import Derived.Laws.AppendOwn
/- Lists one behind the other (the library's own text); numbers cut off the front. -/
namespace Go.Proofs.Ytnajmdgheohpjaa.Codec
open Go.ChangeShapes Go.WideShapes Go.ChangeAt Go.RowKit Go.IntWalk Go.Proofs.NumMath Go.Proofs.Mem NumBytes
set_option linter.unusedVariables false
def flat (vs : List (Value × List Int)) : List Int := vs.flatMap (·.2)
theorem flat_take (vs : List (Value × List Int)) (j : Nat) (u : Value) (xs : List Int) (h : vs[j]? = some (u, xs)) : flat (vs.take (j + 1)) = flat (vs.take j) ++ xs := by
  have hj : j < vs.length := by
    rcases Nat.lt_or_ge j vs.length with h1 | h1
    · exact h1
    · rw [List.getElem?_eq_none h1] at h; cases h
  rw [List.getElem?_eq_getElem hj] at h
  injection h with h
  rw [List.take_succ_eq_append_getElem hj]
  simp [flat, h]
theorem flat_front (vs : List (Value × List Int)) (j : Nat) : (flat (vs.take j)).length ≤ (flat vs).length := by
  have : flat vs = flat (vs.take j) ++ flat (vs.drop j) := by
    unfold flat; rw [← List.flatMap_append, List.take_append_drop]
  rw [this, List.length_append]; omega
set_option maxHeartbeats 2000000 in
/-- room for n bytes behind nothing -/
theorem grow_any (n : Nat) (h0 : 0 < n) (h1 : n ≤ 100000) (w : World) : Calls Try.prog 30 #[.slice none 0 0, .int .i64 n] w fun e w' => ∃ v, e = .returned v ∧ w'.ownsRow w.heap.size 5 1 v 0 [] ∧ Below w.heap.size w w' := by
  obtain ⟨i0, hi0, hz0, hz1, hz2⟩ := info_parts u8_info
  have hrz : ∀ ty, (Builtin.append_ #[28, 3] ty #[.slice none 0 0, .int .i64 n]).run Try.prog w =
      .ok (.slice (some ⟨w.heap.size, 0, none⟩) n (grownCap w n 0 5)) (w.drew.alloc (.cells (Builtin.zeroCells (Value.int .u8 0).cells n ++ Builtin.zeroCells (Value.int .u8 0).cells (grownCap w n 0 5 - n)) 5)) := fun ty =>
    Lib.run_append_nil_zeros w 28 3 ty 5 i0 _ .i64 .i64 Try.underlying28 Try.underlying3 hi0 hz0 n h0 (by omega) (by omega) (by rw [hz2]; omega)
  have hG := grownCap_ge w n 0 5
  have hM := grownCap_le_maxLen w n 0 5 (by unfold maxLen; omega)
  generalize grownCap w n 0 5 = G at *
  have hG63 : G ≤ 9223372036854775807 := by unfold maxLen at hM; omega
  have d1 : decide ((n : Int) < 0) = false := decide_eq_false (by omega)
  have d2 : decide (0 < (n : Int)) = true := decide_eq_true (by omega)
  have HM := Lib.hid hM
  clear hM
  go_enter Try.func30, Try.ntmps30
  go_wp2_with (at_builtin; refine Lib.wpList_append_run _ rfl _ _ _ _ rfl _ _ rfl rfl _ _ (hrz _) ?_)
  all_goals go_ret
  all_goals refine ⟨_, rfl, ⟨rfl, .inr ⟨w.heap.size, G, _, rfl, Nat.le_refl _, heap_alloc_new w.drew _, Nat.zero_le _, HM.out, ?_, rfl⟩⟩, ?_⟩
  · simp [Builtin.zeroCells]
    omega
  · exact (below_drewN (Below.refl _ w) 1).alloc (Nat.le_refl _) _
set_option maxHeartbeats 4000000 in
theorem concat_any (v : Value) (vs : List (Value × List Int)) (w : World) (hv : SR w w.heap.size v vs) (hn : vs.length ≤ 1000) (h0 : 0 < (flat vs).length) (h1 : (flat vs).length ≤ 100000) :
    Calls Try.prog 24 #[v] w fun e w' => ∃ u, e = .returned u ∧ w'.ownsRow w.heap.size 5 1 u (flat vs).length ((flat vs).map (.int .u8)) ∧ Below w.heap.size w w' := by
  obtain ⟨i0, hi0, hz0, hz1, hz2⟩ := info_parts u8_info
  obtain ⟨A, c, rfl, hlc, hcm⟩ := hv.form
  unfold maxLen at hcm
  go_enter Try.func24, Try.ntmps24
  go_wp2
  go_loop [3, 11] (fun s i => ∃ j : Nat, j ≤ vs.length ∧ i = .int .i64 j ∧ s = .int .i64 (flat (vs.take j)).length) (fun _ i => vs.length - (intOf i).toNat)
  case atStart => exact ⟨0, by omega, rfl, rfl⟩
  case round =>
    obtain ⟨j, hj, rfl, rfl⟩ := hrel
    have hfj := flat_front vs j
    by_cases hlt : j < vs.length
    · obtain ⟨b, off, u, xs, rfl, hb, hvj, hc, hr, hbx⟩ := hv.index j hlt
      obtain ⟨Au, cu, rfl, hu1, hu2⟩ := hr.form
      have hft := flat_take vs j _ xs hvj
      have hf1 := flat_front vs (j + 1)
      have hfl : (flat (vs.take (j + 1))).length = (flat (vs.take j)).length + xs.length := by rw [hft, List.length_append]
      rw [hfl] at hf1
      have HF := Lib.hid hfl
      clear hfl hft hvj hr hbx
      generalize (flat (vs.take j)).length = m at *
      have d1 : decide ((m : Int) + (xs.length : Int) < 0) = false := decide_eq_false (by omega)
      go_wp2
      go_round
      case rel => exact ⟨j + 1, by omega, by go_num, by rw [HF.out]; go_num⟩
      case measure => simp [intOf]; omega
    · have e : j = vs.length := by omega
      subst e
      rw [List.take_length]
      generalize hN : (flat vs).length = N at *
      have HN := Lib.hid hN
      clear hN
      go_wp2_with fail
      (with_reducible refine (grow_any N h0 h1 _).mono ?_)
      rintro e w1 ⟨g, rfl, hown, hb1⟩
      have hv1 := hv.keep (w' := w1) fun p hp => hb1.cell hp
      go_wp2
      go_loopw [6, 27] (fun o i wr => ∃ j : Nat, j ≤ vs.length ∧ i = .int .i64 j ∧ wr.ownsRow w.heap.size 5 1 o (flat (vs.take j)).length ((flat (vs.take j)).map (.int .u8)) ∧ Below w.heap.size w wr) (fun _ i _ => vs.length - (intOf i).toNat)
      case atStart => exact ⟨0, by omega, rfl, hown, hb1⟩
      case round =>
        obtain ⟨j, hj, rfl, hown, hbel⟩ := hrel
        rename_i wr
        have hfj := flat_front vs j
        rw [HN.out] at hfj
        by_cases hlt : j < vs.length
        · have hv2 := hv.keep (w' := wr) fun p hp => hbel.cell hp
          obtain ⟨b, off, u, xs, rfl, hb, hvj, hc, hr, hbx⟩ := hv2.index j hlt
          have hft := flat_take vs j _ xs hvj
          have hf1 := flat_front vs (j + 1)
          have hfl : (flat (vs.take (j + 1))).length = (flat (vs.take j)).length + xs.length := by rw [hft, List.length_append]
          rw [hfl, HN.out] at hf1
          have HFL := Lib.hid hfl
          have HFT := Lib.hid hft
          clear hfl hft hvj
          generalize flat (vs.take j) = ys at *
          go_wp2_with (at_builtin; refine wpList_append_all _ rfl _ _ _ rfl w.heap.size 5 i0 .u8 1 Try.underlying28 hi0 hz0 hz1 hz2 _ ys.length ys rfl hown w.heap.size _ xs rfl hr (by simp only [maxLen]; omega) (by omega) hbel.size ?_; intro v3 w3 hown3 hb3)
          go_roundw
          case rel => exact ⟨j + 1, by omega, by go_num, by rw [HFL.out, HFT.out]; exact hown3, hbel.trans hb3⟩
          case measure => simp [intOf]; omega
        · have e : j = vs.length := by omega
          subst e
          rw [List.take_length, HN.out] at hown
          go_wp2
          go_ret
          exact ⟨_, rfl, by rw [HN.out]; exact hown, hbel⟩
end Go.Proofs.Ytnajmdgheohpjaa.Codec
