import Derived.Test.YtimnhanjlldhoaaClk8
/- The chapter's example. -/
namespace Go.Proofs.Ytimnhanjlldhoaa.Clk
open Go.ChangeShapes Go.WideShapes Go.ChangeAt Go.RowKit Go.IntWalk Go.Proofs.Mem Go.Proofs.Clk
set_option linter.unusedVariables false
theorem sw_p0 : sw 3 [⟨true, true, 0⟩, ⟨true, true, 0⟩] 0 = some (0, [⟨true, false, 0⟩, ⟨true, false, 0⟩], 1) := by rfl
theorem sw_p1 : sw 2 [⟨true, false, 0⟩, ⟨true, true, 0⟩] 1 = some (0, [⟨true, false, 0⟩, ⟨true, false, 0⟩], 1) := by rfl
theorem no_free2 (a b : Fm) (ha : isFree a = false) (hb : isFree b = false) : ∀ i, i < [a, b].length → isFree ([a, b].getD i z3) = false
  | 0, _ => ha
  | 1, _ => hb
  | i + 2, h => by have : i + 2 < 2 := h; omega
set_option maxRecDepth 100000 in
set_option maxHeartbeats 4000000 in
theorem known_any (w : World) : Calls Try.prog 7 #[] w fun e w' => e = .returned (.bool true) ∧ Below w.heap.size w w' := by
  have t0 : takeM (List.replicate 2 z3) 0 = (true, [⟨true, true, 0⟩, z3]) := by rfl
  have t1 : takeM [⟨true, true, 0⟩, z3] 1 = (true, [⟨true, true, 0⟩, ⟨true, true, 0⟩]) := by rfl
  have t2 : touchM [⟨true, false, 0⟩, ⟨true, false, 0⟩] 1 = (true, [⟨true, false, 0⟩, ⟨true, true, 0⟩]) := by rfl
  have p0 : PickR [⟨true, true, 0⟩, ⟨true, true, 0⟩] 0 (0, true, [⟨true, false, 0⟩, ⟨true, false, 0⟩], 1) :=
    .inr ⟨no_free2 _ _ rfl rfl, .inr ⟨⟨0, by decide, rfl⟩, 3, 0, _, _, sw_p0, rfl⟩⟩
  have p1 : PickR [⟨true, false, 0⟩, ⟨true, true, 0⟩] 1 (0, true, [⟨true, false, 0⟩, ⟨true, false, 0⟩], 1) :=
    .inr ⟨no_free2 _ _ rfl rfl, .inr ⟨⟨0, by decide, rfl⟩, 2, 0, _, _, sw_p1, rfl⟩⟩
  have N2 := Lib.hid (fun W => new_is W 2 (by decide))
  have T0 := Lib.hid (fun W g gf c => take_any W g gf 0 (List.replicate 2 z3) c (by decide) 0)
  have T1 := Lib.hid (fun W g gf c => take_any W g gf 0 [⟨true, true, 0⟩, z3] c (by decide) 1)
  have T2 := Lib.hid (fun W g gf c => touch_any W g gf 1 [⟨true, false, 0⟩, ⟨true, false, 0⟩] 0 c (by decide) (by intro f hf; simp at hf; subst hf; exact ⟨by decide, by decide, fun x => by cases x⟩) (by decide) 1)
  have P0 := Lib.hid (fun W g gf c => pick_any W g gf 0 [⟨true, true, 0⟩, ⟨true, true, 0⟩] c (by decide) (by decide) _ p0)
  have P1 := Lib.hid (fun W g gf c => pick_any W g gf 1 [⟨true, false, 0⟩, ⟨true, true, 0⟩] c (by decide) (by decide) _ p1)
  rw [t0] at T0
  rw [t1] at T1
  rw [t2] at T2
  unfold Did at T0 T1 T2
  dsimp only at T0 T1 T2 P0 P1
  rw [show ((2 : Nat) : Int) = 2 from rfl] at N2
  clear t0 t1 t2 p0 p1
  go_enter Try.func7, Try.ntmps7
  go_wp2_with fail
  (with_reducible refine (N2.out _).mono ?_)
  rintro e w1 ⟨g, gf, rfl, c1, hg, hgf, hb1⟩
  have C1 := Lib.hid c1
  clear c1
  go_wp2_with fail
  (with_reducible refine (T0.out _ _ _ C1.out).mono ?_)
  rintro e w2 ⟨rfl, c2, f2⟩
  have C2 := Lib.hid c2
  have F2 := Lib.hid f2
  clear c2 f2 C1
  go_wp2_with fail
  (with_reducible refine (T1.out _ _ _ C2.out).mono ?_)
  rintro e w3 ⟨rfl, c3, f3⟩
  have C3 := Lib.hid c3
  have F3 := Lib.hid (F2.out.trans f3)
  clear c3 f3 C2 F2
  go_wp2_with fail
  (with_reducible refine (P0.out _ _ _ C3.out).mono ?_)
  rintro e w4 ⟨rfl, c4, f4⟩
  have C4 := Lib.hid c4
  have F4 := Lib.hid (F3.out.trans f4)
  clear c4 f4 C3 F3
  go_wp2_with fail
  (with_reducible refine (T2.out _ _ _ C4.out).mono ?_)
  rintro e w5 ⟨rfl, c5, f5⟩
  have C5 := Lib.hid c5
  have F5 := Lib.hid (F4.out.trans f5)
  clear c5 f5 C4 F4
  go_wp2_with fail
  (with_reducible refine (P1.out _ _ _ C5.out).mono ?_)
  rintro e w6 ⟨rfl, c6, f6⟩
  have F6 := Lib.hid (F5.out.trans f6)
  clear c6 f6 C5 F5
  go_wp2_with fail
  (with_reducible refine (new_not _ 0 (by decide)).mono ?_)
  rintro e w' ⟨rfl, rfl⟩
  go_wp2_with fail
  (with_reducible refine (new_not _ 65 (by decide)).mono ?_)
  rintro e w' ⟨rfl, rfl⟩
  go_wp2
  go_ret
  exact ⟨rfl, hb1.trans (F6.out.to_below (fun k hk => by rcases hk with rfl | rfl <;> omega) hb1.size)⟩
end Go.Proofs.Ytimnhanjlldhoaa.Clk
