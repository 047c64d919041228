import Derived.Test.YtacjbgkcghcnnaaSealB
/- A page that some bytes begin. -/
namespace Go.Proofs.Ytacjbgkcghcnnaa.Seal
open Go.ChangeShapes Go.WideShapes Go.ChangeAt Go.RowKit Go.IntWalk Go.Shelf Go.Proofs.NumMath Go.Proofs.Mem NumBytes
set_option linter.unusedVariables false
def PageP (w : World) (e : Ending) (w' : World) : Prop := ∃ g xs, e = .returned (.slice (some ⟨g, 0, none⟩) 448 448) ∧ RowAt 5 w' w.heap.size g (.slice (some ⟨g, 0, none⟩) 448 448) xs ∧ xs.length = 448 ∧ Bytes xs ∧ Below w.heap.size w w'
theorem row_made (w : World) (AC : Array Value) (n : Nat) (h : AC = madeCells (Value.int .u8 0).cells (n * 1)) (hn : n ≤ 1000000) :
    RowAt 5 (w.alloc (.cells AC 5)) w.heap.size w.heap.size (.slice (some ⟨w.heap.size, 0, none⟩) n n) (List.replicate n 0) := by
  refine ⟨⟨n, by simp⟩, by simp, .inr ⟨w.heap.size, n, AC, by simp, Nat.le_refl _, heap_alloc_new w _, by simp, by unfold maxLen; omega, by rw [h, size_madeCells], ?_⟩⟩
  rw [h, madeZero]; simp
theorem row_made0 (w : World) (AC : Array Value) (n : Nat) (h : AC = madeCells (Value.int .u8 0).cells (n * 1)) (hn : n ≤ 1000000) :
    ∃ xs, RowAt 5 (w.alloc (.cells AC 5)) w.heap.size w.heap.size (.slice (some ⟨w.heap.size, 0, none⟩) n n) xs ∧ xs.length = n ∧ Bytes xs :=
  ⟨_, row_made w AC n h hn, by rw [List.length_replicate], bytes_rep n⟩
theorem Bytes.set {xs : List Int} (h : Bytes xs) (j : Nat) (y : Int) (hy : 0 ≤ y ∧ y ≤ 255) : Bytes (xs.set j y) := fun x hx => by
  rcases List.mem_or_eq_of_mem_set hx with h1 | rfl
  · exact h x h1
  · exact hy
end Go.Proofs.Ytacjbgkcghcnnaa.Seal
