import Derived.Test.YtbbphfhkedldmaaRec3
import Derived.Test.YtbbphfhkedldmaaMem3
import Derived.Test.YtbbphfhkedldmaaCrcA
import Derived.Lib.AppendZerosOnto
/- slices.Grow of nothing; slices.Concat. -/
namespace Go.Proofs.Ytbbphfhkedldmaa.Rec
open Go.ChangeShapes Go.WideShapes Go.ChangeAt Go.RowKit Go.IntWalk Go.Proofs.NumMath Go.Proofs.Mem Go.Proofs.CrcMath NumBytes CrcA
set_option linter.unusedVariables false
set_option maxRecDepth 100000 in
set_option maxHeartbeats 4000000 in
theorem grow_nil (n : Nat) (h0 : 0 < n) (hn : n ≤ 1000000) (w : World) : Calls Try.prog 43 #[.slice none 0 0, .int .i64 n] w fun e w' => ∃ v, e = .returned v ∧ w'.ownsRow w.heap.size 5 1 v 0 ([] : List Value) ∧ Below w.heap.size w w' := by
  obtain ⟨i0, hi0, hz0, hz1, hz2⟩ := info_parts u8_info
  have h1 : ¬ ((n : Int) < 0) := by omega
  have d1 : decide ((n : Int) < 0) = false := by simp
  have h3 : wrap64 ((n : Int) - 0) = (n : Int) := by unfold wrap64; omega
  have d4 : decide (0 < (n : Int)) = true := by simp; omega
  have hrz : ∀ ty, (Builtin.append_ #[52, 3] ty #[.slice none 0 0, .int .i64 n]).run Try.prog w = .ok (.slice (some ⟨w.heap.size, 0, none⟩) n (grownCap w n 0 5)) (w.drew.alloc (.cells (#[] ++ Builtin.zeroCells (Value.int .u8 0).cells n ++ Builtin.zeroCells (Value.int .u8 0).cells (grownCap w n 0 5 - n)) 5)) := fun ty => by
    have h := Lib.run_append_grow_zeros w 52 3 ty 5 i0 (.int .u8 0) .i64 .i64 Try.underlying52 Try.underlying3 hi0 hz0 none 0 0 [] (run_firstCells_none w.drew i0.size 0 0 0) n (by omega) (by omega) (by omega) (by omega)
      (by rw [hz2]; omega)
      (by rw [Nat.zero_add]; exact growslice_fits (by omega) (by rw [hz2]; omega))
    rw [Nat.zero_add] at h
    exact h
  have hGn : n ≤ grownCap w n 0 5 := grownCap_ge w _ _ _
  have hGm := grownCap_le_maxLen w n 0 5 (by unfold maxLen; omega)
  obtain ⟨G, hG⟩ : ∃ G, G = grownCap w n 0 5 := ⟨_, rfl⟩
  rw [← hG] at hrz hGn hGm
  clear hG
  have hG63 : G ≤ 9223372036854775807 := by unfold maxLen at hGm; omega
  have HR := Lib.hid hrz
  clear hrz
  go_enter Try.func43, Try.ntmps43
  go_wp2_with (at_builtin; refine Lib.wpList_append_run _ rfl _ _ _ _ rfl _ _ rfl rfl _ _ (HR.out _) ?_)
  go_ret
  refine ⟨_, rfl, ⟨rfl, .inr ⟨w.heap.size, G, _, rfl, Nat.le_refl _, heap_alloc_new w.drew _, Nat.zero_le _, hGm, ?_, ?_⟩⟩, new_ (Below.drew (Below.refl _ _)) _⟩
  · simp [size_zeroCells]; omega
  · simp
theorem flat_sum {vs : List (Value × List Int)} {j : Nat} {u : Value} {xs : List Int} (h : vs[j]? = some (u, xs)) : (flat (vs.drop j)).length = xs.length + (flat (vs.drop (j + 1))).length := by
  rw [CrcA.flat_drop vs j u xs h, List.length_append]
set_option maxRecDepth 100000 in
set_option maxHeartbeats 8000000 in
theorem concat_any (v : Value) (vs : List (Value × List Int)) (w : World) (B : Nat) (hv : SR w B v vs) (hB : B ≤ w.heap.size) (h0 : 0 < (flat vs).length) (hT : (flat vs).length ≤ 1000000) :
    Calls Try.prog 28 #[v] w fun e w' => ∃ u, e = .returned u ∧ w'.ownsRow w.heap.size 5 1 u (flat vs).length ((flat vs).map (.int .u8)) ∧ Below w.heap.size w w' := by
  obtain ⟨i0, hi0, hz0, hz1, hz2⟩ := info_parts u8_info
  obtain ⟨A, c, rfl, hlc, hcm⟩ := hv.form
  unfold maxLen at hcm
  have GR := Lib.hid (grow_nil (flat vs).length h0 hT w)
  have HV := Lib.hid hv
  clear hv
  go_enter Try.func28, Try.ntmps28
  go_wp2
  go_loop [3, 11] (fun s i => ∃ (q j : Nat), j ≤ vs.length ∧ s = .int .i64 q ∧ i = .int .i64 j ∧ q + (flat (vs.drop j)).length = (flat vs).length) (fun _ i => vs.length - (intOf i).toNat)
  case atStart => exact ⟨0, 0, by omega, rfl, rfl, by rw [List.drop_zero]; omega⟩
  case round =>
    obtain ⟨q, j, hj, rfl, rfl, hq⟩ := hrel
    by_cases hl : j < vs.length
    · obtain ⟨b, off, u, xs, rfl, hb, hvj, hcell, hr, hx⟩ := SR.index HV.out j hl
      have hs := flat_sum hvj
      have hdl : decide ((j : Int) < (vs.length : Int)) = true := by simp; omega
      obtain ⟨A2, c2, rfl, hlc2, hcm2⟩ := hr.form
      unfold maxLen at hcm2
      obtain ⟨N, hN⟩ : ∃ N : Nat, N = q + xs.length := ⟨_, rfl⟩
      have r1 : N + (flat (vs.drop (j + 1))).length = (flat vs).length := by omega
      have hsum : (q : Int) + (xs.length : Int) = (N : Int) := by omega
      have hn : decide ((N : Int) < 0) = false := by simp
      have hbN : (N : Int) ≤ 1000000 := by omega
      clear hs hq hN
      have R1 := Lib.hid r1
      clear r1
      go_wp2
      go_round
      case rel => exact ⟨N, j + 1, by omega, rfl, by go_num, R1.out⟩
      case measure => simp [intOf]; omega
    · have hdl : decide ((j : Int) < (vs.length : Int)) = false := by simp; omega
      rw [List.drop_eq_nil_of_le (by omega)] at hq
      obtain rfl : q = (flat vs).length := by simpa [flat] using hq
      clear hq
      go_wp2_with (go_at_call 43; (with_reducible refine GR.out.mono ?_); rintro e w1 ⟨u1, rfl, hu1, hb1⟩; have HU1 := Lib.hid hu1; have HB1 := Lib.hid hb1; clear hu1 hb1)
      go_loopw [6, 27] (fun s i wr => ∃ (out : List Int) (k : Nat), k ≤ vs.length ∧ i = .int .i64 k ∧ Hid (wr.ownsRow w.heap.size 5 1 s out.length (out.map (.int .u8))) ∧ Hid (out ++ flat (vs.drop k) = flat vs) ∧ Hid (Below w.heap.size w wr)) (fun _ i _ => vs.length - (intOf i).toNat)
      case atStart => exact ⟨[], 0, by omega, rfl, HU1, Lib.hid rfl, HB1⟩
      case round =>
        obtain ⟨out, k, hk, rfl, HO, HF, HBL⟩ := hrel
        by_cases hkl : k < vs.length
        · have hv2 : SR wr B (.slice A vs.length c) vs := HV.out.keep fun p hp => HBL.out.cell (Nat.lt_of_lt_of_le hp hB)
          obtain ⟨b, off, u, xs, rfl, hb, hvj, hcell, hr, hx⟩ := SR.index hv2 k hkl
          have hf := HF.out
          rw [CrcA.flat_drop vs k u xs hvj, ← List.append_assoc] at hf
          have hfl : out.length + xs.length ≤ 1000000 := by have := congrArg List.length hf; simp only [List.length_append] at this; omega
          have HF2 := Lib.hid hf
          have hdl : decide ((k : Int) < (vs.length : Int)) = true := by simp; omega
          obtain ⟨A2, c2, rfl, hlc2, hcm2⟩ := hr.form
          have HR := Lib.hid hr
          clear hf hv2 hvj hr hx
          go_wp2_with (at_builtin; refine wpList_append_tx _ rfl _ _ _ _ rfl w.heap.size 5 5 i0 .u8 1 Try.underlying52 Try.underlying52 hi0 hz0 hz1 hz2 _ out.length out rfl HO.out B _ xs rfl HR.out (by unfold maxLen; omega) (by omega) HBL.out.size ?_; intro v2 w2 hown2 hg2 ho2; rw [← List.length_append] at hown2; have OW := Lib.hid hown2; have HB2 := Lib.hid (below_row HBL.out HO.out hg2 (Nat.le_refl _) HBL.out.size); clear hown2 hg2 ho2)
          go_roundw
          case rel => exact ⟨out ++ xs, k + 1, by omega, by go_num, OW, HF2, HB2⟩
          case measure => simp [intOf]; omega
        · have hdl : decide ((k : Int) < (vs.length : Int)) = false := by simp; omega
          have hf := HF.out
          rw [List.drop_eq_nil_of_le (by omega)] at hf
          obtain rfl : out = flat vs := by simpa [flat] using hf
          clear hf
          go_wp2
          go_ret
          exact ⟨_, rfl, HO.out, HBL.out⟩
end Go.Proofs.Ytbbphfhkedldmaa.Rec
