import Derived.Test.YtnajmdgheohpjaaCodec2
import Derived.Test.YtnajmdgheohpjaaBox
/- May there be such a request; a reply out of bytes. -/
namespace Go.Proofs.Ytnajmdgheohpjaa.Codec
open Go.ChangeShapes Go.WideShapes Go.ChangeAt Go.RowKit Go.IntWalk Go.Proofs.NumMath Go.Proofs.Mem NumBytes
set_option linter.unusedVariables false
theorem at_drop (xs : List Int) (a k : Nat) : at_ (xs.drop a) 0 k = at_ xs a k := by unfold at_; rw [List.drop_zero]
theorem ret_bool {a b : Bool} (h : a = b) : Ending.returned (.bool a) = .returned (.bool b) := by rw [h]
set_option maxRecDepth 100000 in
set_option maxHeartbeats 8000000 in
theorem told_any (v : Value) (xs : List Int) (hx : Bytes xs) (w : World) (hv : IR w w.heap.size .u8 v xs) (hl : xs.length ≤ 1000) :
    Calls Try.prog 14 #[v] w fun e w' => e = .returned (.tuple #[.agg (cellsP (toldP xs)), .int .u16 (toldE xs)]) ∧ Below w.heap.size w w' := by
  obtain ⟨A, c, rfl, hlc, hcm⟩ := hv.form
  unfold maxLen at hcm
  by_cases h : xs.length = 26
  · have e1 : toldP xs = ofP xs := by unfold toldP; rw [if_pos h]
    have e2 : toldE xs = 0 := by unfold toldE; rw [if_pos h]
    rw [e1, e2]
    clear e1 e2
    have hne : ((xs.length : Int) != 26) = false := by simp; omega
    have HL := Lib.hid h
    clear h
    have hV := Lib.hid hv
    go_enter Try.func14, Try.ntmps14
    go_wp2_with fail
    (with_reducible refine (two_any w w.heap.size (w.heap.size + 1) _ (xs) hV.out hx _ ?a1 (by simp) ?a2 ?a3 (by have := HL.out; omega)).mono ?_)
    case a1 => intro p hp; exact ((((Below.refl w.heap.size w).alloc (Nat.le_refl _) _).alloc (by simp) _).alloc (by simp; omega) _).cell hp
    case a2 => simp [go_sem]
    case a3 => simp [go_sem]
    rintro e w' ⟨v0, rfl, hv0, rfl⟩
    have V0 := Lib.hid hv0
    clear hv0 hV
    go_wp2_with fail
    (with_reducible refine (eight_any w w.heap.size (w.heap.size + 1) _ (xs.drop 2) V0.out (bytes_drop hx 2) _ ?a1 (by simp) ?a2 ?a3 (by simp only [List.length_drop]; have := HL.out; omega)).mono ?_)
    case a1 => intro p hp; exact ((((Below.refl w.heap.size w).alloc (Nat.le_refl _) _).alloc (by simp) _).alloc (by simp; omega) _).cell hp
    case a2 => simp [go_sem]
    case a3 => simp [go_sem]
    rintro e w' ⟨v1, rfl, hv1, rfl⟩
    rw [at_drop]
    rw [List.drop_drop] at hv1
    have V1 := Lib.hid hv1
    clear hv1 V0
    go_wp2_with fail
    (with_reducible refine (eight_any w w.heap.size (w.heap.size + 1) _ (xs.drop 10) V1.out (bytes_drop hx 10) _ ?a1 (by simp) ?a2 ?a3 (by simp only [List.length_drop]; have := HL.out; omega)).mono ?_)
    case a1 => intro p hp; exact ((((Below.refl w.heap.size w).alloc (Nat.le_refl _) _).alloc (by simp) _).alloc (by simp; omega) _).cell hp
    case a2 => simp [go_sem]
    case a3 => simp [go_sem]
    rintro e w' ⟨v2, rfl, hv2, rfl⟩
    rw [at_drop]
    rw [List.drop_drop] at hv2
    have V2 := Lib.hid hv2
    clear hv2 V1
    go_wp2_with fail
    (with_reducible refine (eight_any w w.heap.size (w.heap.size + 1) _ (xs.drop 18) V2.out (bytes_drop hx 18) _ ?a1 (by simp) ?a2 ?a3 (by simp only [List.length_drop]; have := HL.out; omega)).mono ?_)
    case a1 => intro p hp; exact ((((Below.refl w.heap.size w).alloc (Nat.le_refl _) _).alloc (by simp) _).alloc (by simp; omega) _).cell hp
    case a2 => simp [go_sem]
    case a3 => simp [go_sem]
    rintro e w' ⟨v3, rfl, hv3, rfl⟩
    rw [at_drop]
    rw [List.drop_drop] at hv3
    have V3 := Lib.hid hv3
    clear hv3 V2
    clear V3
    go_wp2
    refine bodyPost_ret (v := .tuple #[.agg (cellsP (ofP xs)), .int .u16 0]) (by simp [results, Try.results14, go_sem, cellsP, ofP]; try rfl) rfl ?_
    exact ⟨rfl, ((((Below.refl w.heap.size w).alloc (Nat.le_refl _) _).alloc (by simp) _).alloc (by simp; omega) _)⟩
  · have e1 : toldP xs = zeroP := by unfold toldP; rw [if_neg h]
    have e2 : toldE xs = 230 := by unfold toldE; rw [if_neg h]
    rw [e1, e2]
    have hne : ((xs.length : Int) != 26) = true := by simp; omega
    clear e1 e2 h
    go_enter Try.func14, Try.ntmps14
    go_wp2
    refine bodyPost_ret (v := .tuple #[.agg (cellsP zeroP), .int .u16 230]) (by simp [results, Try.results14, go_sem, cellsP, zeroP]; try rfl) rfl ?_
    exact ⟨rfl, new_ (Below.refl _ _) _⟩
set_option maxHeartbeats 4000000 in
theorem mayBe_any (r : Rq) (h : r.Ok) (w : World) : Calls Try.prog 21 #[.agg (cellsQ r)] w fun e w' => e = .returned (.bool (mayB r)) ∧ Below w.heap.size w w' := by
  obtain ⟨⟨l0, u0⟩, ⟨l1, u1⟩, ⟨l2, u2⟩, ⟨l3, u3⟩, ⟨l4, u4⟩, ⟨l5, u5⟩, ⟨l6, u6⟩, ⟨l7, u7⟩, ⟨l8, u8⟩⟩ := h
  obtain ⟨kd, n, k, who, whom, what, id, am, pr⟩ := r
  dsimp only at *
  unfold cellsQ
  dsimp only
  by_cases c1 : kd < 1
  · have d1 : decide (kd < 1) = true := decide_eq_true c1
    go_enter Try.func21, Try.ntmps21
    go_wp2
    go_ret
    exact ⟨ret_bool (by unfold mayB; rw [decide_eq_false (by dsimp only; omega)]; rfl), new_ (Below.refl _ _) _⟩
  have d1 : decide (kd < 1) = false := decide_eq_false c1
  by_cases c2 : 6 < kd
  · have d2 : decide (6 < kd) = true := decide_eq_true c2
    go_enter Try.func21, Try.ntmps21
    go_wp2
    go_ret
    exact ⟨ret_bool (by unfold mayB; rw [decide_eq_false (by dsimp only; omega)]; rfl), new_ (Below.refl _ _) _⟩
  have d2 : decide (6 < kd) = false := decide_eq_false c2
  have hA : decide (1 ≤ kd ∧ kd ≤ 6) = true := decide_eq_true (by omega)
  have HA := Lib.hid hA
  clear hA
  by_cases c3 : kd ≠ 4 ∧ n ≠ 0
  · have d3 : (kd != 4) = true := by simp; omega
    have d4 : (n != 0) = true := by simp; omega
    have hB : (decide (kd = 4) || decide (n = 0)) = false := by rw [decide_eq_false c3.1, decide_eq_false c3.2]; rfl
    have HB := Lib.hid hB
    clear hB c3
    go_enter Try.func21, Try.ntmps21
    go_wp2
    go_ret
    exact ⟨ret_bool (by unfold mayB; dsimp only; rw [HA.out, HB.out]; rfl), new_ (Below.refl _ _) _⟩
  · have hB : (decide (kd = 4) || decide (n = 0)) = true := by simp; omega
    have HB := Lib.hid hB
    clear hB
    have key : (kd != 4) = false ∨ (kd != 4) = true ∧ (n != 0) = false := by
      by_cases e : kd = 4
      · left; simp [e]
      · right; simp; omega
    clear c3
    rcases key with d3 | ⟨d3, d4⟩
    all_goals
      by_cases c5 : kd = 2
      · have d5 : (kd == 2) = true := by simp [c5]
        have H5 := Lib.hid c5
        clear c5
        go_enter Try.func21, Try.ntmps21
        go_wp2
        go_ret
        exact ⟨ret_bool (by unfold mayB; dsimp only; rw [HA.out, HB.out, decide_eq_true H5.out]; rfl), new_ (Below.refl _ _) _⟩
      · have d5 : (kd == 2) = false := by simp [c5]
        have H5 := Lib.hid c5
        clear c5
        go_enter Try.func21, Try.ntmps21
        go_wp2
        all_goals go_ret
        all_goals refine ⟨ret_bool ?_, new_ (Below.refl _ _) _⟩
        all_goals (unfold mayB; dsimp only; rw [HA.out, HB.out, decide_eq_false H5.out])
        all_goals simp [*]
end Go.Proofs.Ytnajmdgheohpjaa.Codec
