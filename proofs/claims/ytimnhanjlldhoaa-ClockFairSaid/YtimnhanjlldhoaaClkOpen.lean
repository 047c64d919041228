import Derived.Test.YtimnhanjlldhoaaSs
import Derived.Test.YtimnhanjlldhoaaLaw
import Derived.ChangeArms
/- A list of calls on a clock that came in. -/
namespace Go.Proofs.Ytimnhanjlldhoaa.Clk
open Go.ChangeShapes Go.WideShapes Go.ChangeAt Go.RowKit Go.IntWalk Go.Proofs.Mem Law
set_option linter.unusedVariables false
/-- a call: its kind, its frame -/
structure Cl where
  k : Int
  i : Int
def Cl.Ok (o : Cl) : Prop := (0 ≤ o.k ∧ o.k ≤ 255) ∧ (-9223372036854775808 ≤ o.i ∧ o.i ≤ 9223372036854775807)
def cCl (o : Cl) : List Value := [.int .u8 o.k, .int .i64 o.i]
theorem c8 : Try.prog.cellsOf 5 = 1 := by kernel_rfl
theorem ci : Try.prog.cellsOf 3 = 1 := by kernel_rfl
theorem cO : Try.prog.cellsOf 30 = 2 := by kernel_rfl
section
variable {H : Type} {enc : TypeId × Value → H} {W : World} {base : Nat} {spare : Nat → Bool} {held : Bool}
theorem one_int {k : IntKind} {t : TypeId} {n : Nat} {c : Value} {o : Option (DataW H × List MemPlace)} (ht : Try.prog.underlying t = some (.int k)) (h : DataW.trod enc Try.prog W base spare held n t [c] = o) (ho : o.isSome = true) : ∃ x, c = .int k x ∧ (Lit.int k x).wf = true := by
  cases o with
  | none => cases ho
  | some y =>
    obtain ⟨x, e, _, hw⟩ := DataW.trod_int ht h
    injection e with e _
    exact ⟨x, e, hw⟩
theorem some_at {α : Type} {l : List α} {i : Nat} (h : i < l.length) : (l[i]?).isSome = true := by simp [h]
theorem open_ops {v : Value} {d : DataW H} {p : List MemPlace} {r : Reach} {b0 : Nat} (hv : Value.okWide Try.prog W r b0 22 v) (h : DataW.Trod enc Try.prog W 0 (fun _ => true) true 22 v d p) :
    ∃ xs : List Cl, SS cCl 2 W W.heap.size v xs ∧ ∀ x ∈ xs, x.Ok := by
  refine open_SS cCl Cl.Ok Try.underlying22 cO (by omega) (fun cs n y hl hy => ?_) hv h
  match cs, hl with
  | [c0, c1], _ =>
    obtain ⟨ys, m, _, _, _, hyl, hg⟩ := DataW.trod_struct Try.underlying30 hy
    have h0 := hg 0 _ rfl
    have h1 := hg 1 _ rfl
    simp [c8, ci] at h0 h1 hyl
    obtain ⟨x0, rfl, w0⟩ := one_int Try.underlying5 h0 (some_at (by omega))
    obtain ⟨x1, rfl, w1⟩ := one_int Try.underlying3 h1 (some_at (by omega))
    exact ⟨⟨x0, x1⟩, rfl, bounds_u8 w0, bounds_i64 w1⟩
end
end Go.Proofs.Ytimnhanjlldhoaa.Clk
