import Derived.Test.YtfldhkmdagaliaaNumBytes
/- The chapter's examples. -/
namespace Go.Proofs.Ytfldhkmdagaliaa.NumBytes
open Go.ChangeShapes Go.WideShapes Go.ChangeAt Go.RowKit Go.IntWalk Go.Proofs.NumMath Go.Proofs.Mem Go.Proofs.NumShort NumInts
set_option linter.unusedVariables false
set_option maxHeartbeats 1600000 in
/-- the chapter's examples -/
theorem known_any (w : World) : Calls Try.prog 12 #[] w fun e w' => e = .returned (.bool true) ∧ Below w.heap.size w w' := by
  have hB1 : Bytes [172, 2] := by intro x hx; simp at hx; omega
  have hB2 : Bytes [128, 0] := by intro x hx; simp at hx; omega
  go_enter Try.func12, Try.ntmps12
  go_wp2_with fail
  refine (put_any 258 2 (by omega) (by omega) (by omega) (by omega) _).mono ?_
  rintro e w1 ⟨v1, rfl, hown1, hb1⟩
  rw [show ((2 : Int).toNat) = 2 from rfl, show putS 258 2 = [2, 1] from by decide] at hown1
  have hr1 := IR.of_own hown1
  obtain ⟨A, c, rfl, _, _⟩ := hr1.form
  obtain ⟨b, off, rfl, hb, hc0⟩ := IR.index hr1 0 (by simp)
  obtain ⟨b', off', e', _, hc1⟩ := IR.index hr1 1 (by simp)
  injection e' with e'; injection e' with e1 e2; subst e1; subst e2
  go_wp2_with fail
  have hv1 : IR (w1.alloc (.cells #[.int .u8 172, .int .u8 2] 5)) (w1.heap.size + 1) .u8 (.slice (some ⟨w1.heap.size, 0, none⟩) 2 2) [172, 2] := IR.lit w1 .u8 [172, 2] 5 (by simp)
  (with_reducible refine (short_any _ [172, 2] _ (w1.heap.size + 1) hv1 hB1).mono ?_)
  rintro e w2 ⟨rfl, rfl⟩
  rw [show shortS [172, 2] = (300, 2) from by decide]
  go_wp2_with fail
  have hv2 : IR ((w1.alloc (.cells #[.int .u8 172, .int .u8 2] 5)).alloc (.cells #[.int .u8 128, .int .u8 0] 5)) (w1.heap.size + 1 + 1) .u8 (.slice (some ⟨w1.heap.size + 1, 0, none⟩) 2 2) [128, 0] :=
    IR.lit' (w1.alloc (.cells #[.int .u8 172, .int .u8 2] 5)) .u8 [128, 0] 5 (w1.heap.size + 1) (by simp) (by simp)
  (with_reducible refine (short_any _ [128, 0] _ (w1.heap.size + 1 + 1) hv2 hB2).mono ?_)
  rintro e w2 ⟨rfl, rfl⟩
  rw [show shortS [128, 0] = (0, 0) from by decide]
  go_wp2_with fail
  refine (narrow_any 200 (by omega) (by omega) _).mono ?_
  rintro e w3 ⟨rfl, hb3⟩
  have hb3' : Below w1.heap.size w1 w3 := (((Below.refl _ _).alloc (Nat.le_refl _) _).alloc (by simp) _).trans (hb3.mono (by simp; omega))
  have hc0' : w3.cell? ⟨b, off, none⟩ = some (.int .u8 2) := (hb3'.cell (p := ⟨b, off, none⟩) hb).trans hc0
  have hc1' : w3.cell? ⟨b, off + 1, none⟩ = some (.int .u8 1) := (hb3'.cell (p := ⟨b, off + 1, none⟩) hb).trans hc1
  have hlt : b < w3.heap.size := Nat.lt_of_lt_of_le hb hb3'.size
  clear hc0 hc1 hb3 hown1 hr1
  have hs : narrowV 200 = #[.int .i64 200, .int .i64 200, .int .i64 200, .int .i64 (-56), .int .i64 200, .int .i64 200] := by
    unfold narrowV
    rw [show signedS 200 8 = -56 from by decide, show signedS 200 16 = 200 from by decide, show signedS 200 32 = 200 from by decide]; rfl
  rw [hs]
  go_wp2_with fail
  (with_reducible refine (signed_any 255 8 (by omega) (by omega) (by omega) (by omega) _).mono ?_)
  rintro e w4 ⟨rfl, rfl⟩
  rw [show signedS 255 8 = -1 from by decide]
  go_wp2_with fail
  (with_reducible refine (fold_any (-3) (by omega) (by omega) _).mono ?_)
  rintro e w4 ⟨rfl, rfl⟩
  rw [show foldS (-3) = 5 from by decide]
  go_wp2_with fail
  (with_reducible refine (turn_any 1 (-1) (by omega) (by omega) (by omega) (by omega) _).mono ?_)
  rintro e w4 ⟨rfl, rfl⟩
  rw [show turnS 1 (turnK (-1)) = 9223372036854775808 from by decide]
  go_wp2
  go_ret
  exact ⟨rfl, hb1.trans ((hb3'.mono hb1.size).alloc (by have := hb1.size; have := hb3'.size; omega) _)⟩
end Go.Proofs.Ytfldhkmdagaliaa.NumBytes
