import Derived.Test.YtbbphfhkedldmaaRows
import Derived.Test.YtbbphfhkedldmaaMem3
import Derived.Test.YtbbphfhkedldmaaCrcMath
import Derived.WalkKit
import Derived.ProofKit
import Derived.Lib.Hide
import Derived.Lib.SmallJoins
/- Contracts of package crc and of the document's answer for it. -/
namespace Go.Proofs.Ytbbphfhkedldmaa.CrcA
open Go.ChangeShapes Go.WideShapes Go.ChangeAt Go.RowKit Go.IntWalk Go.Proofs.Mem Go.Proofs.CrcMath
set_option linter.unusedVariables false
theorem ret_int {k : IntKind} {a b : Int} (h : a = b) : Ending.returned (.int k a) = .returned (.int k b) := by rw [h]

set_option maxHeartbeats 800000 in
theorem next_any (s b : BitVec 32) (hb : tn b ≤ 255) (w : World) :
    Calls Try.prog 42 #[.int .u32 (tn s), .int .u8 (tn b)] w fun e w' => e = .returned (.int .u32 (tn (nextB s b))) ∧ w = w' := by
  have r1 := xor_ones s
  have r2 := xor_tn (~~~s) b
  have hb0 := (tn_bd b).1
  go_enter Try.func42, Try.ntmps42
  go_wp2
  clear r1 r2
  go_loop [5, 12] (fun m i => ∃ (q : BitVec 32) (j : Nat), j ≤ 8 ∧ m = .int .u32 (tn q) ∧ i = .int .i64 j ∧ itB (8 - j) q = itB 8 (~~~s ^^^ b)) (fun _ i => 8 - (intOf i).toNat)
  case atStart => exact ⟨_, 0, by omega, rfl, rfl, rfl⟩
  case round =>
    obtain ⟨q, j, hj, rfl, rfl, hq⟩ := hrel
    have HQ := Lib.hid hq
    clear hq
    by_cases hl : j < 8
    · have r3 := and_tn q
      have hs : itB (8 - (j + 1)) (stepB q) = itB 8 (~~~s ^^^ b) := by
        rw [← HQ.out, show 8 - j = (8 - (j + 1)) + 1 by omega]; rfl
      have HS := Lib.hid hs
      clear hs
      cases h0 : q.getLsbD 0 with
      | true =>
        rw [h0, if_pos rfl] at r3
        have hst : stepB q = q >>> 1 ^^^ poly := by unfold stepB; rw [h0, if_pos rfl]
        have HT := Lib.hid hst
        clear hst h0
        go_wp2
        go_round
        case rel => exact ⟨q >>> 1 ^^^ poly, j + 1, by omega, by rw [half_tn q, xor_poly], by go_num, by rw [← HT.out]; exact HS.out⟩
        case measure => simp [intOf]; omega
      | false =>
        rw [h0, if_neg (by simp)] at r3
        have hst : stepB q = q >>> 1 := by unfold stepB; rw [h0, if_neg (by simp)]
        have HT := Lib.hid hst
        clear hst h0
        go_wp2
        go_round
        case rel => exact ⟨q >>> 1, j + 1, by omega, by rw [half_tn q], by go_num, by rw [← HT.out]; exact HS.out⟩
        case measure => simp [intOf]; omega
    · have : j = 8 := by omega
      subst this
      have r6 := xor_ones q
      go_wp2
      go_ret
      have := HQ.out
      exact ⟨ret_int (by rw [show 8 - 8 = 0 from rfl] at this; unfold nextB; rw [← this]; rfl), rfl⟩
set_option maxHeartbeats 800000 in
theorem next_ref (s b : BitVec 32) (hb : tn b ≤ 255) (w : World) :
    Calls Try.prog 44 #[.int .u32 (tn s), .int .u8 (tn b)] w fun e w' => e = .returned (.int .u32 (tn (nextB s b))) ∧ w = w' := by
  have r1 := xor_ones s
  have r2 := xor_tn (~~~s) b
  have hb0 := (tn_bd b).1
  go_enter Try.func44, Try.ntmps44
  go_wp2
  clear r1 r2
  go_loop [5, 6] (fun m i => ∃ (q : BitVec 32) (j : Nat), j ≤ 8 ∧ m = .int .u32 (tn q) ∧ i = .int .i64 j ∧ itB (8 - j) q = itB 8 (~~~s ^^^ b)) (fun _ i => 8 - (intOf i).toNat)
  case atStart => exact ⟨_, 0, by omega, rfl, rfl, rfl⟩
  case round =>
    obtain ⟨q, j, hj, rfl, rfl, hq⟩ := hrel
    have HQ := Lib.hid hq
    clear hq
    by_cases hl : j < 8
    · have hq0 := (tn_bd q).1
      have hq1 := (tn_bd q).2
      have r3 := odd_tn q
      have hs : itB (8 - (j + 1)) (stepB q) = itB 8 (~~~s ^^^ b) := by
        rw [← HQ.out, show 8 - j = (8 - (j + 1)) + 1 by omega]; rfl
      have HS := Lib.hid hs
      clear hs
      cases h0 : q.getLsbD 0 with
      | true =>
        rw [h0, if_pos rfl] at r3
        have hst : stepB q = q >>> 1 ^^^ poly := by unfold stepB; rw [h0, if_pos rfl]
        have HT := Lib.hid hst
        clear hst h0
        go_wp2
        go_round
        case rel => exact ⟨q >>> 1 ^^^ poly, j + 1, by omega, by rw [half_tn q, xor_poly], by go_num, by rw [← HT.out]; exact HS.out⟩
        case measure => simp [intOf]; omega
      | false =>
        rw [h0, if_neg (by simp)] at r3
        have hst : stepB q = q >>> 1 := by unfold stepB; rw [h0, if_neg (by simp)]
        have HT := Lib.hid hst
        clear hst h0
        go_wp2
        go_round
        case rel => exact ⟨q >>> 1, j + 1, by omega, by rw [half_tn q], by go_num, by rw [← HT.out]; exact HS.out⟩
        case measure => simp [intOf]; omega
    · have : j = 8 := by omega
      subst this
      have r6 := xor_ones q
      go_wp2
      go_ret
      have := HQ.out
      exact ⟨ret_int (by rw [show 8 - 8 = 0 from rfl] at this; unfold nextB; rw [← this]; rfl), rfl⟩

theorem byte_tn (u : Int) (h : 0 ≤ u ∧ u ≤ 255) : u = tn (BitVec.ofInt 32 u) := tn_of u (by omega)
theorem next_byte_any (s : BitVec 32) (u : Int) (h : 0 ≤ u ∧ u ≤ 255) (w : World) :
    Calls Try.prog 42 #[.int .u32 (tn s), .int .u8 u] w fun e w' => e = .returned (.int .u32 (tn (nextB s (BitVec.ofInt 32 u)))) ∧ w = w' := by
  have := next_any s (BitVec.ofInt 32 u) (by rw [← byte_tn u h]; exact h.2) w
  rwa [← byte_tn u h] at this
theorem next_byte_ref (s : BitVec 32) (u : Int) (h : 0 ≤ u ∧ u ≤ 255) (w : World) :
    Calls Try.prog 44 #[.int .u32 (tn s), .int .u8 u] w fun e w' => e = .returned (.int .u32 (tn (nextB s (BitVec.ofInt 32 u)))) ∧ w = w' := by
  have := next_ref s (BitVec.ofInt 32 u) (by rw [← byte_tn u h]; exact h.2) w
  rwa [← byte_tn u h] at this
theorem drop_at (l : List Int) (j : Nat) (h : j < l.length) : l.drop j = l.getD j 0 :: l.drop (j + 1) := by
  rw [List.drop_eq_getElem_cons h]; simp [List.getD, List.getElem?_eq_getElem h]

set_option maxHeartbeats 800000 in
theorem sum_ref (v : Value) (xs : List Int) (w : World) (B : Nat) (hv : IR w B .u8 v xs) (hx : Bytes xs) :
    Calls Try.prog 33 #[v] w fun e w' => e = .returned (.int .u32 (tn (sumF 0#32 xs))) ∧ w = w' := by
  obtain ⟨A, c, rfl, hlc, hcm⟩ := hv.form
  unfold maxLen at hcm
  go_enter Try.func33, Try.ntmps33
  go_wp2
  go_loop [3, 4] (fun m i => ∃ (q : BitVec 32) (j : Nat), j ≤ xs.length ∧ m = .int .u32 (tn q) ∧ i = .int .i64 j ∧ sumF q (xs.drop j) = sumF 0#32 xs) (fun _ i => xs.length - (intOf i).toNat)
  case atStart => exact ⟨0#32, 0, by omega, rfl, rfl, rfl⟩
  case round =>
    obtain ⟨q, j, hj, rfl, rfl, hq⟩ := hrel
    have HQ := Lib.hid hq
    clear hq
    by_cases hl : j < xs.length
    · obtain ⟨b, off, rfl, hb, hcell⟩ := IR.index hv j hl
      have hu := hx.at_ j
      have hd := HQ.out
      rw [drop_at xs j hl] at hd
      generalize xs.getD j 0 = u at *
      have HD := Lib.hid hd
      clear hd
      have hdl : decide ((j : Int) < (xs.length : Int)) = true := by simp; omega
      go_wp2_with (go_at_call 44; (with_reducible refine (next_byte_ref q u hu _).mono ?_); rintro e w' ⟨rfl, rfl⟩)
      go_round
      case rel => exact ⟨_, j + 1, by omega, rfl, by go_num, HD.out⟩
      case measure => simp [intOf]; omega
    · have hdl : decide ((j : Int) < (xs.length : Int)) = false := by simp; omega
      go_wp2
      go_ret
      have h := HQ.out
      rw [List.drop_eq_nil_of_le (by omega)] at h
      exact ⟨ret_int (by rw [← h]; rfl), rfl⟩

def flat (vs : List (Value × List Int)) : List Int := vs.flatMap (·.2)
theorem flat_drop (vs : List (Value × List Int)) (j : Nat) (u : Value) (xs : List Int) (h : vs[j]? = some (u, xs)) : flat (vs.drop j) = xs ++ flat (vs.drop (j + 1)) := by
  obtain ⟨hl, e⟩ := List.getElem?_eq_some_iff.1 h
  rw [List.drop_eq_getElem_cons hl, e]; rfl
set_option maxHeartbeats 1600000 in
theorem sum_any (v : Value) (vs : List (Value × List Int)) (w : World) (B : Nat) (hv : SR w B v vs) :
    Calls Try.prog 27 #[v] w fun e w' => e = .returned (.int .u32 (tn (sumF 0#32 (flat vs)))) ∧ w = w' := by
  obtain ⟨A, c, rfl, hlc, hcm⟩ := hv.form
  unfold maxLen at hcm
  go_enter Try.func27, Try.ntmps27
  go_wp2
  go_loop [3, 10] (fun m i => ∃ (q : BitVec 32) (j : Nat), j ≤ vs.length ∧ m = .int .u32 (tn q) ∧ i = .int .i64 j ∧ sumF q (flat (vs.drop j)) = sumF 0#32 (flat vs)) (fun _ i => vs.length - (intOf i).toNat)
  case atStart => exact ⟨0#32, 0, by omega, rfl, rfl, rfl⟩
  case round =>
    obtain ⟨q, j, hj, rfl, rfl, hq⟩ := hrel
    have HQ := Lib.hid hq
    clear hq
    by_cases hl : j < vs.length
    · obtain ⟨b, off, u, xs, rfl, hb, hvj, hcell, hr, hx⟩ := SR.index hv j hl
      have hd := HQ.out
      rw [flat_drop vs j u xs hvj] at hd
      have HD := Lib.hid hd
      clear hd hvj
      have hdl : decide ((j : Int) < (vs.length : Int)) = true := by simp; omega
      obtain ⟨A2, c2, rfl, hlc2, hcm2⟩ := hr.form
      unfold maxLen at hcm2
      go_wp2
      go_loop [3, 16] (fun m i => ∃ (p : BitVec 32) (k : Nat), k ≤ xs.length ∧ m = .int .u32 (tn p) ∧ i = .int .i64 k ∧ sumF p (xs.drop k ++ flat (vs.drop (j + 1))) = sumF 0#32 (flat vs)) (fun _ i => xs.length - (intOf i).toNat)
      case atStart => exact ⟨q, 0, by omega, rfl, rfl, HD.out⟩
      case round =>
        obtain ⟨p, k, hk, rfl, rfl, hp⟩ := hrel
        have HP := Lib.hid hp
        clear hp
        by_cases hkl : k < xs.length
        · obtain ⟨b2, off2, rfl, hb2, hcell2⟩ := IR.index hr k hkl
          have hu := hx.at_ k
          have hd2 := HP.out
          rw [drop_at xs k hkl] at hd2
          generalize xs.getD k 0 = y at *
          have HD2 := Lib.hid hd2
          clear hd2
          have hdl2 : decide ((k : Int) < (xs.length : Int)) = true := by simp; omega
          go_wp2_with (go_at_call 42; (with_reducible refine (next_byte_any p y hu _).mono ?_); rintro e w' ⟨rfl, rfl⟩)
          go_round
          case rel => exact ⟨_, k + 1, by omega, rfl, by go_num, HD2.out⟩
          case measure => simp [intOf]; omega
        · have hdl2 : decide ((k : Int) < (xs.length : Int)) = false := by simp; omega
          go_wp2
          go_round
          case rel =>
            have h := HP.out
            rw [List.drop_eq_nil_of_le (by omega)] at h
            exact ⟨p, j + 1, by omega, rfl, by go_num, h⟩
          case measure => simp [intOf]; omega
    · have hdl : decide ((j : Int) < (vs.length : Int)) = false := by simp; omega
      go_wp2
      go_ret
      have h := HQ.out
      rw [List.drop_eq_nil_of_le (by omega)] at h
      exact ⟨ret_int (by rw [← h]; rfl), rfl⟩

theorem flat_fst (u v : Value) (xs : List Int) : flat [(u, xs)] = flat [(v, xs)] := rfl
theorem sum_one (v : Value) (xs : List Int) (w : World) (hv : IR w w.heap.size .u8 v xs) (hx : Bytes xs) :
    Calls Try.prog 27 #[.slice (some ⟨w.heap.size, 0, none⟩) 1 1] (w.alloc (.cells #[v] 25)) fun e w' => e = .returned (.int .u32 (tn (sumF 0#32 xs))) ∧ w.alloc (.cells #[v] 25) = w' := by
  have h2 : SR (w.alloc (.cells #[v] 25)) (w.heap.size + 1) (.slice (some ⟨w.heap.size, 0, none⟩) 1 1) [(v, xs)] :=
    SR.lit w [(v, xs)] 25 _ w.heap.size rfl (Nat.le_refl _) (by simp) (by intro p hp; simp at hp; subst hp; exact ⟨hv, hx⟩)
  have := sum_any _ _ _ _ h2
  rw [show flat [(v, xs)] = xs by simp [flat]] at this
  exact this
end Go.Proofs.Ytbbphfhkedldmaa.CrcA
