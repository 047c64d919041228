import Derived.Test.YtabckmadpdchnaaGreatMem
/- More on slices that are read as lists. -/
namespace Go.Proofs.Mem
open Go.RowKit Go.WideShapes
set_option linter.unusedVariables false
theorem IR.take {w : World} {B : Nat} {k : IntKind} {A : Option Addr} {n c m : Nat} {xs : List Int} (h : IR w B k (.slice A n c) xs) (hm : m ≤ n) : IR w B k (.slice A m c) (xs.take m) := by
  obtain ⟨A', c', e, h2, h3, h4, h5⟩ := h
  injection e with e1 e2 e3
  subst e1; subst e2; subst e3
  have hl : (xs.take m).length = m := by rw [List.length_take]; omega
  refine ⟨A, c, by rw [hl], by omega, h3, h4, fun i hi => ?_⟩
  obtain ⟨b, off, e, hb, hc⟩ := h5 i (by omega)
  refine ⟨b, off, e, hb, ?_⟩
  rw [hc]
  simp [List.getD, show i < m by omega]
theorem IR.alloc {w : World} {B : Nat} {k : IntKind} {v : Value} {xs : List Int} (h : IR w B k v xs) (hB : B ≤ w.heap.size) (o : Obj) : IR (w.alloc o) B k v xs := h.keep fun p hp => World.cell?_alloc_lt w o p (by omega)
end Go.Proofs.Mem
