import Derived.Test.YtplombkpefacgaaDkJ
import Derived.Test.YtplombkpefacgaaSsIn
import Derived.Test.YtplombkpefacgaaSrOpen
import Derived.ChangeArms
/- A list of calls on a device, and a list of fates, that came in. -/
namespace Go.Proofs.Ytplombkpefacgaa.Disk
open Go.ChangeShapes Go.WideShapes Go.ChangeAt Go.RowKit Go.IntWalk Go.Proofs.Mem Go.Proofs.Each Law
set_option linter.unusedVariables false
theorem k8 : Try.prog.cellsOf 5 = 1 := by kernel_rfl
theorem ki : Try.prog.cellsOf 3 = 1 := by kernel_rfl
theorem kB : Try.prog.cellsOf 30 = 1 := by kernel_rfl
theorem kFs : Try.prog.cellsOf 31 = 1 := by kernel_rfl
theorem kFt : Try.prog.cellsOf 50 = 4 := by kernel_rfl
theorem kOp : Try.prog.cellsOf 33 = 5 := by kernel_rfl
/-- what a call that came in holds -/
def OiAt (w : World) (B : Nat) (x : Oi) : Prop := x.o.Ok ∧ IR w B .u8 x.a x.o.xs ∧ SS cFt 4 w B x.lb x.o.fs
theorem OiAt.ok {w : World} {B : Nat} {x : Oi} (h : OiAt w B x) : x.Ok := by
  obtain ⟨h1, h2, h3⟩ := h
  obtain ⟨A, c, e, _⟩ := h2.form
  obtain ⟨A', c', e', _⟩ := h3.form
  exact ⟨h1, ⟨A, c, e⟩, A', c', e'⟩
section
variable {H : Type} {enc : TypeId × Value → H} {W : World}
theorem some_eq {α : Type} {o : Option α} (h : o.isSome = true) : ∃ y, o = some y := by cases o with | none => cases h | some y => exact ⟨y, rfl⟩
theorem ft_of {n : Nat} {cs : List Value} {y : DataW H × List MemPlace} (hl : cs.length = 4) (hf : DataW.trod enc Try.prog W 0 (fun _ => true) true n 50 cs = some y) : ∃ x, cs = cFt x ∧ x.Ok := by
  match cs, hl with
  | [a0, a1, a2, a3], _ =>
    obtain ⟨xs, m, _, _, _, hl, hg⟩ := DataW.trod_struct Try.underlying50 hf
    have h0 := hg 0 _ rfl
    have h1 := hg 1 _ rfl
    have h2 := hg 2 _ rfl
    have h3 := hg 3 _ rfl
    simp [k8, ki] at h0 h1 h2 h3 hl
    obtain ⟨x0, rfl, w0⟩ := one_int' Try.underlying5 h0 (some_at' (by omega))
    obtain ⟨x1, rfl, w1⟩ := one_int' Try.underlying3 h1 (some_at' (by omega))
    obtain ⟨x2, rfl, w2⟩ := one_int' Try.underlying3 h2 (some_at' (by omega))
    obtain ⟨x3, rfl, w3⟩ := one_int' Try.underlying3 h3 (some_at' (by omega))
    exact ⟨⟨x0, x1, x2, x3⟩, rfl, bounds_u8 w0, bounds_i64 w1⟩
theorem open_fts {v : Value} {d : DataW H} {p : List MemPlace} {r : Reach} {b0 : Nat} (hv : Value.okWide Try.prog W r b0 31 v) (h : DataW.Trod enc Try.prog W 0 (fun _ => true) true 31 v d p) :
    ∃ xs : List Ft, SS cFt 4 W W.heap.size v xs ∧ ∀ x ∈ xs, x.Ok :=
  open_SS cFt Ft.Ok Try.underlying31 kFt (by omega) (fun cs n y hl hy => ft_of hl hy) hv h
theorem oi_of {n : Nat} {cs : List Value} {y : DataW H × List MemPlace} (hl : cs.length = 5) (hf : DataW.trod enc Try.prog W 0 (fun _ => true) true n 33 cs = some y) : ∃ x, cs = cOi x ∧ OiAt W W.heap.size x := by
  match cs, hl with
  | [a0, a1, a2, a3, a4], _ =>
    obtain ⟨xs, m, _, _, _, hl, hg⟩ := DataW.trod_struct Try.underlying33 hf
    have h0 := hg 0 _ rfl
    have h1 := hg 1 _ rfl
    have h2 := hg 2 _ rfl
    have h3 := hg 3 _ rfl
    have h4 := hg 4 _ rfl
    simp [k8, ki, kB, kFs] at h0 h1 h2 h3 h4 hl
    obtain ⟨x0, rfl, w0⟩ := one_int' Try.underlying5 h0 (some_at' (by omega))
    obtain ⟨x1, rfl, w1⟩ := one_int' Try.underlying5 h1 (some_at' (by omega))
    obtain ⟨x2, rfl, w2⟩ := one_int' Try.underlying3 h2 (some_at' (by omega))
    obtain ⟨y3, e3⟩ := some_eq (some_at' (l := xs) (i := 3) (by omega))
    obtain ⟨y4, e4⟩ := some_eq (some_at' (l := xs) (i := 4) (by omega))
    obtain ⟨zs, i3, b3⟩ := SrOpen.inner (h3.trans e3)
    obtain ⟨us, i4, b4⟩ := inner_SS cFt Ft.Ok Try.underlying31 kFt (by omega) (fun cs n y hl hy => ft_of hl hy) (h4.trans e4)
    exact ⟨⟨⟨x0, x1, x2, zs, us⟩, _, _⟩, rfl, ⟨bounds_u8 w0, bounds_u8 w1, bounds_i64 w2, b3, b4⟩, i3, i4⟩
theorem open_opns {v : Value} {d : DataW H} {p : List MemPlace} {r : Reach} {b0 : Nat} (hv : Value.okWide Try.prog W r b0 22 v) (h : DataW.Trod enc Try.prog W 0 (fun _ => true) true 22 v d p) :
    ∃ xs : List Oi, SS cOi 5 W W.heap.size v xs ∧ ∀ x ∈ xs, OiAt W W.heap.size x :=
  open_SS cOi (OiAt W W.heap.size) Try.underlying22 kOp (by omega) (fun cs n y hl hy => oi_of hl hy) hv h
end
end Go.Proofs.Ytplombkpefacgaa.Disk
