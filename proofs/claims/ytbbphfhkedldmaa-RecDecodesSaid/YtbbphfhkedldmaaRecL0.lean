import Derived.Test.YtbbphfhkedldmaaRecI
/- The document's test says the same. -/
namespace Go.Proofs.Ytbbphfhkedldmaa.Rec
open Go.ChangeShapes Go.WideShapes Go.ChangeAt Go.RowKit Go.IntWalk Go.Proofs.NumMath Go.Proofs.Mem Go.Proofs.CrcMath NumBytes CrcA
set_option linter.unusedVariables false
set_option linter.unusedSimpArgs false
def mayR (lt1 gt8 m3 m4 x64 y64 qc p0 s0 had has x0 y0 b8 n34 st : Bool) : Bool := !(lt1 || gt8 || m3 || m4 || x64 || y64) && !(!qc && (p0 || s0 || had || has)) && !((!had && x0) || (!has && y0)) && !(!b8 && n34) && st
theorem may_eq (r : Rc) : mayS r = mayR (decide (r.k < 1)) (decide (8 < r.k)) (decide (64 < r.ts.length)) (decide (64 < r.ds.length)) (decide (64 < r.c.xs.length)) (decide (64 < r.c.ys.length)) (decide (r.k = 2) || decide (r.k = 3)) (!decide (r.c.pg = 0)) (!decide (r.c.sl = 0)) r.c.had r.c.has (decide (0 < r.c.xs.length)) (decide (0 < r.c.ys.length)) (decide (r.k = 8)) (decide (0 < r.ts.length + r.ds.length)) (r.ts.all okA) := by
  unfold mayS mayF mayR nullB sideB
  have h0 : ∀ n : Nat, decide (n = 0) = !decide (0 < n) := fun n => by rw [← decide_not, decide_eq_decide]; omega
  have h1 : ∀ n : Nat, decide (n ≤ 64) = !decide (64 < n) := fun n => by rw [← decide_not, decide_eq_decide]; omega
  have h2 : decide (0 < r.ts.length + r.ds.length) = (decide (0 < r.ts.length) || decide (0 < r.ds.length)) := by rw [← Bool.decide_or, decide_eq_decide]; omega
  rw [h2, h0, h0, h0, h0, h1, h1, h1, h1]
  generalize decide (r.k < 1) = a1
  generalize decide (8 < r.k) = a2
  generalize decide (64 < r.ts.length) = a3
  generalize decide (64 < r.ds.length) = a4
  generalize decide (64 < r.c.xs.length) = a5
  generalize decide (64 < r.c.ys.length) = a6
  generalize (decide (r.k = 2) || decide (r.k = 3)) = a7
  generalize decide (r.c.pg = 0) = a8
  generalize decide (r.c.sl = 0) = a9
  generalize r.c.had = b1
  generalize r.c.has = b2
  generalize decide (0 < r.c.xs.length) = b3
  generalize decide (0 < r.c.ys.length) = b4
  generalize decide (r.k = 8) = b5
  generalize decide (0 < r.ts.length) = b6
  generalize decide (0 < r.ds.length) = b7
  generalize r.ts.all okA = b8
  cases a7 <;> cases b1 <;> cases b2 <;> cases b5 <;> simp only [Bool.not_or, Bool.not_and, Bool.not_not, Bool.not_true, Bool.not_false, Bool.true_or, Bool.false_or, Bool.or_true, Bool.or_false, Bool.true_and, Bool.false_and, Bool.and_true, Bool.and_false] <;> first | rfl | ac_rfl | (cases a1 <;> cases a2 <;> cases a3 <;> cases a4 <;> cases a5 <;> cases a6 <;> simp <;> cases b3 <;> simp <;> cases b4 <;> simp <;> cases a8 <;> simp)
end Go.Proofs.Ytbbphfhkedldmaa.Rec
