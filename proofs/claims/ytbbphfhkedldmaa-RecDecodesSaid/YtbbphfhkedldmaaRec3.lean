import Derived.Test.YtbbphfhkedldmaaRec2
/- A record that begins: it may be. -/
namespace Go.Proofs.Ytbbphfhkedldmaa.Rec
open Go.ChangeShapes Go.WideShapes Go.ChangeAt Go.RowKit Go.IntWalk Go.Proofs.NumMath Go.Proofs.Mem NumBytes
set_option linter.unusedVariables false
/-- a record without a change and without lists -/
@[reducible] def bareC (k t p n : Int) : Array Value := #[.int .u8 k, .int .u32 t, .int .u64 p, .int .u64 n, .int .u32 0, .int .u16 0, .bool false, .bool false, .slice none 0 0, .slice none 0 0, .slice none 0 0, .slice none 0 0]
set_option maxHeartbeats 2000000 in
theorem noughts_zero (w : World) : Calls Try.prog 39 #[.agg #[.int .u32 0, .int .u16 0, .bool false, .bool false, .slice none 0 0, .slice none 0 0]] w fun e w' => e = .returned (.bool true) ∧ Below w.heap.size w w' := by
  go_enter Try.func39, Try.ntmps39
  go_wp2
  refine bodyPost_ret (v := .bool true) (by simp [results, Try.results39, go_sem]; try rfl) rfl ?_
  exact ⟨rfl, new_ (Below.refl _ _) _⟩
theorem changes_no (k : Int) (h : k = 1 ∨ (4 ≤ k ∧ k ≤ 8)) (w : World) : Calls Try.prog 23 #[.int .u8 k] w fun e w' => e = .returned (.bool false) ∧ w = w' := by
  have := changes_any k w
  rwa [show decide (k = 2) = false by simpa using (by omega : k ≠ 2), show decide (k = 3) = false by simpa using (by omega : k ≠ 3)] at this
theorem side_nil (w : World) : Calls Try.prog 40 #[.bool false, .slice none 0 0] w fun e w' => e = .returned (.bool true) ∧ w = w' := side_any false _ [] w 0 (IR.nil w 0 .u8)
set_option maxRecDepth 100000 in
set_option maxHeartbeats 8000000 in
theorem may_bare (k t p n : Int) (hk : k = 1 ∨ (4 ≤ k ∧ k ≤ 7)) (w : World) : Calls Try.prog 21 #[.agg (bareC k t p n)] w fun e w' => e = .returned (.bool true) ∧ Below w.heap.size w w' := by
  have d1 : decide (k < 1) = false := by simp; omega
  have d2 : decide (8 < k) = false := by simp; omega
  have d3 : (k == 8) = false := by simp; omega
  have d4 : (k != 8) = true := by simp; omega
  have hk' : k = 1 ∨ (4 ≤ k ∧ k ≤ 8) := by omega
  have CH := fun W => Lib.hid (changes_no k hk' W)
  clear hk hk'
  have bx := Box.new w (bareC k t p n) 31
  have BX := Lib.hid bx
  clear bx
  go_enter Try.func21, Try.ntmps21
  go_wp2_with (first
    | (go_at_call 23; (with_reducible refine (CH _).out.mono ?_); rintro e w1 ⟨rfl, rfl⟩)
    | (go_at_call 39; (with_reducible refine (noughts_zero _).mono ?_); rintro e w2 ⟨rfl, hb2⟩; have b2 := BX.out.later hb2; have HB2 := Lib.hid (step_ (new_ (Below.refl w.heap.size w) _) hb2); have z2 : w2.cell? ⟨w.heap.size, 6, none⟩ = some (.bool false) := b2.cell 6; have z3 : w2.cell? ⟨w.heap.size, 7, none⟩ = some (.bool false) := b2.cell 7; have z4 : w2.cell? ⟨w.heap.size, 8, none⟩ = some (.slice none 0 0) := b2.cell 8; have z5 : w2.cell? ⟨w.heap.size, 9, none⟩ = some (.slice none 0 0) := b2.cell 9; have z6 : w2.cell? ⟨w.heap.size, 10, none⟩ = some (.slice none 0 0) := b2.cell 10; have z7 : w2.cell? ⟨w.heap.size, 11, none⟩ = some (.slice none 0 0) := b2.cell 11; clear hb2 b2))
  go_loopw [51] (fun c wr => c = .int .i64 0 ∧ wr = w2) (fun c _ => 0)
  case atStart => exact ⟨rfl, rfl⟩
  case round =>
    obtain ⟨rfl, rfl⟩ := hrel
    go_wp2_with (first
      | (go_at_call 40; (with_reducible refine (side_nil _).mono ?_); rintro e w3 ⟨rfl, rfl⟩))
    refine bodyPost_ret (v := .bool true) (by simp [results, Try.results21, go_sem]; try rfl) rfl ?_
    exact ⟨rfl, HB2.out⟩
end Go.Proofs.Ytbbphfhkedldmaa.Rec
