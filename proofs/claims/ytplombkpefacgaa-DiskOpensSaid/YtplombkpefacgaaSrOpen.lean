import Derived.Test.YtplombkpefacgaaSs
import Derived.Test.YtplombkpefacgaaMem3
import Derived.Test.YtplombkpefacgaaLaw
import Derived.ChangeArms
/- A slice of slices of bytes that came in. -/
namespace Go.Proofs.Ytplombkpefacgaa.SrOpen
open Go.ChangeShapes Go.WideShapes Go.ChangeAt Go.RowKit Go.IntWalk Go.Proofs.Mem Law
set_option linter.unusedVariables false
theorem cB : Try.prog.cellsOf 30 = 1 := by kernel_rfl
section
variable {H : Type} {enc : TypeId × Value → H} {W : World}
theorem inner {n : Nat} {c0 : Value} {y : DataW H × List MemPlace} (hf : DataW.trod enc Try.prog W 0 (fun _ => true) true n 30 [c0] = some y) : ∃ xs : List Int, IR W W.heap.size .u8 c0 xs ∧ Bytes xs := by
  rcases open_ints Try.underlying30 Try.underlying5 (by kernel_rfl) hf with ⟨hcs, _⟩ | ⟨x, l, c, zs, hcs, _, hl, hm, hz, _, hcell, hwz⟩
  · simp at hcs
    subst hcs
    exact ⟨[], IR.nil _ _ _, Bytes.nil⟩
  · simp at hcs
    subst hcs
    have hz' : zs.length = c := by simpa using hz
    have hlen : (zs.take l).length = l := by rw [List.length_take]; omega
    refine ⟨zs.take l, ⟨some x, c, by rw [hlen], by omega, hm, (fun hh => by cases hh), fun i hi => ?_⟩, fun n hn => bounds_u8 (hwz n (List.mem_of_mem_take hn))⟩
    rw [hlen] at hi
    obtain ⟨b, off, rfl, hc'⟩ := ints_at hcell (by omega)
    have h1 := hc' i (by omega)
    refine ⟨b, off, rfl, lt_of_cell h1, ?_⟩
    rw [h1]
    simp [List.getD, hi]
theorem open_sr {v : Value} {d : DataW H} {p : List MemPlace} {r : Reach} {b0 : Nat} (hv : Value.okWide Try.prog W r b0 35 v) (h : DataW.Trod enc Try.prog W 0 (fun _ => true) true 35 v d p) :
    ∃ vs : List (Value × List Int), SR W W.heap.size v vs := by
  obtain ⟨xs, ⟨A, c, rfl, h1, h2, h3⟩, hq⟩ := open_SS (F := fun p : Value × List Int => [p.1]) (Q := fun p => IR W W.heap.size .u8 p.1 p.2 ∧ Bytes p.2) Try.underlying35 cB (by omega) (fun cs n y hl hy => by
    match cs, hl with
    | [c0], _ =>
      obtain ⟨xs, hi, hb⟩ := inner hy
      exact ⟨(c0, xs), rfl, hi, hb⟩) hv h
  refine ⟨xs, A, c, rfl, h1, h2, fun i hi => ?_⟩
  obtain ⟨b, off, e, hb, hc⟩ := h3 i xs[i] (List.getElem?_eq_getElem hi)
  obtain ⟨q1, q2⟩ := hq _ (List.getElem_mem hi)
  exact ⟨b, off, xs[i].1, xs[i].2, e, hb, List.getElem?_eq_getElem hi, by have := hc 0 xs[i].1 rfl; simpa using this, q1, q2⟩
end
end Go.Proofs.Ytplombkpefacgaa.SrOpen
