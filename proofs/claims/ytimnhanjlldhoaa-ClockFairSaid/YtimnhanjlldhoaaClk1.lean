import Derived.Test.YtimnhanjlldhoaaClkMath
import Derived.Test.YtimnhanjlldhoaaLaw
import Derived.WalkKit
import Derived.ProofKit
import Derived.Lib.Hide
import Derived.BigQuiet
import Derived.Handy
/- The clock's frames. -/
namespace Go.Proofs.Ytimnhanjlldhoaa.Clk
open Go.ChangeShapes Go.WideShapes Go.ChangeAt Go.RowKit Go.IntWalk Go.Proofs.Mem Go.Proofs.Clk
set_option linter.unusedVariables false
/-- a clock at g whose frames lie at gf -/
structure CK (w : World) (g gf : Nat) (l : List Fm) (h : Nat) : Prop where
  ne : g ≠ gf
  top : Box w g #[.slice (some ⟨gf, 0, none⟩) l.length l.length, .int .i64 h] 42
  fs : Box w gf (cF l).toArray 48
section
variable {w w' : World} {g gf h : Nat} {l : List Fm}
theorem CK.below {B : Nat} (c : CK w g gf l h) (hb : Below B w w') (h1 : g < B) (h2 : gf < B) : CK w' g gf l h := ⟨c.ne, c.top.below hb h1, c.fs.below hb h2⟩
theorem CK.later (c : CK w g gf l h) (hb : Below w.heap.size w w') : CK w' g gf l h := ⟨c.ne, c.top.later hb, c.fs.later hb⟩
theorem CK.fr {S : Nat → Prop} (c : CK w g gf l h) (hf : Fr S w w') (h1 : ¬ S g) (h2 : ¬ S gf) : CK w' g gf l h := ⟨c.ne, c.top.fr hf h1, c.fs.fr hf h2⟩
theorem CK.alloc (c : CK w g gf l h) (o : Obj) : CK (w.alloc o) g gf l h := ⟨c.ne, c.top.alloc o, c.fs.alloc o⟩
theorem CK.cells (c : CK w g gf l h) {j : Nat} (hj : j < l.length) :
    w.cell? ⟨gf, j * 3, none⟩ = some (.bool (l.getD j z3).t) ∧ w.cell? ⟨gf, j * 3 + 1, none⟩ = some (.bool (l.getD j z3).u) ∧ w.cell? ⟨gf, j * 3 + 2, none⟩ = some (.int .i64 (l.getD j z3).p) := by
  obtain ⟨a, b, d⟩ := cF_at l j hj
  rw [c.fs.cell, c.fs.cell, c.fs.cell]
  simp only [List.getElem?_toArray]
  exact ⟨a, b, d⟩
theorem CK.t (c : CK w g gf l h) {j : Nat} (hj : j < l.length) (x : Bool) : CK (w.setCell ⟨gf, j * 3, none⟩ (.bool x)) g gf (l.set j { l.getD j z3 with t := x }) h := by
  refine ⟨c.ne, by rw [List.length_set]; exact c.top.far c.ne _, ?_⟩
  rw [← cF_t l j x hj, ← List.setIfInBounds_toArray]; exact c.fs.set_ _ _
theorem CK.u (c : CK w g gf l h) {j : Nat} (hj : j < l.length) (x : Bool) : CK (w.setCell ⟨gf, j * 3 + 1, none⟩ (.bool x)) g gf (l.set j { l.getD j z3 with u := x }) h := by
  refine ⟨c.ne, by rw [List.length_set]; exact c.top.far c.ne _, ?_⟩
  rw [← cF_u l j x hj, ← List.setIfInBounds_toArray]; exact c.fs.set_ _ _
theorem CK.p (c : CK w g gf l h) {j : Nat} (hj : j < l.length) (x : Int) : CK (w.setCell ⟨gf, j * 3 + 2, none⟩ (.int .i64 x)) g gf (l.set j { l.getD j z3 with p := x }) h := by
  refine ⟨c.ne, by rw [List.length_set]; exact c.top.far c.ne _, ?_⟩
  rw [← cF_p l j x hj, ← List.setIfInBounds_toArray]; exact c.fs.set_ _ _
theorem CK.all (c : CK w g gf l h) {j : Nat} (hj : j < l.length) (f : Fm) : CK (((w.setCell ⟨gf, j * 3, none⟩ (.bool f.t)).setCell ⟨gf, j * 3 + 1, none⟩ (.bool f.u)).setCell ⟨gf, j * 3 + 2, none⟩ (.int .i64 f.p)) g gf (l.set j f) h := by
  refine ⟨c.ne, by rw [List.length_set]; exact ((c.top.far c.ne _).far c.ne _).far c.ne _, ?_⟩
  rw [← cF_all l j f hj, ← List.setIfInBounds_toArray, ← List.setIfInBounds_toArray, ← List.setIfInBounds_toArray]; exact ((c.fs.set_ _ _).set_ _ _).set_ _ _
theorem CK.hand (c : CK w g gf l h) (h' : Nat) : CK (w.setCell ⟨g, 1, none⟩ (.int .i64 h')) g gf l h' :=
  ⟨c.ne, c.top.set_ 1 _, c.fs.far (Ne.symm c.ne) _⟩
end
set_option maxHeartbeats 2000000 in
theorem at_in (w : World) (g gf h : Nat) (l : List Fm) (c : CK w g gf l h) (hl : l.length ≤ 64) (j : Nat) (hj : j < l.length) :
    Calls Try.prog 26 #[.pointer (some ⟨g, 0, none⟩), .int .i64 j] w fun e w' => e = .returned (.pointer (some ⟨gf, j * 3, none⟩)) ∧ w = w' := by
  have c0 : w.cell? ⟨g, 0, none⟩ = some (.slice (some ⟨gf, 0, none⟩) l.length l.length) := c.top.cell 0
  have d1 : decide ((j : Int) < 0) = false := decide_eq_false (by omega)
  have d2 : decide ((l.length : Int) ≤ (j : Int)) = false := decide_eq_false (by omega)
  have d2' : decide (l.length ≤ j) = false := decide_eq_false (by omega)
  have d3 : decide ((j : Int) < (l.length : Int)) = true := decide_eq_true (by omega)
  have d3' : decide (j < l.length) = true := decide_eq_true (by omega)
  clear c
  go_enter Try.func26, Try.ntmps26
  go_wp2
  go_ret
  exact ⟨rfl, rfl⟩
set_option maxHeartbeats 2000000 in
theorem at_out (w : World) (g gf h : Nat) (l : List Fm) (c : CK w g gf l h) (hl : l.length ≤ 64) (i : Int) (hi : ¬ (0 ≤ i ∧ i < l.length)) :
    Calls Try.prog 26 #[.pointer (some ⟨g, 0, none⟩), .int .i64 i] w fun e w' => e = .returned (.pointer (some ⟨w.heap.size, 0, none⟩)) ∧ w' = w.alloc (.cells #[.bool false, .bool false, .int .i64 0] 48) := by
  have c0 : w.cell? ⟨g, 0, none⟩ = some (.slice (some ⟨gf, 0, none⟩) l.length l.length) := c.top.cell 0
  clear c
  by_cases h0 : i < 0
  · have d1 : decide (i < 0) = true := decide_eq_true h0
    go_enter Try.func26, Try.ntmps26
    go_wp2
    go_ret
    exact ⟨rfl, rfl⟩
  · have d1 : decide (i < 0) = false := decide_eq_false h0
    have d2 : decide ((l.length : Int) ≤ i) = true := decide_eq_true (by omega)
    go_enter Try.func26, Try.ntmps26
    go_wp2
    go_ret
    exact ⟨rfl, rfl⟩
end Go.Proofs.Ytimnhanjlldhoaa.Clk
