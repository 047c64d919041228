import Derived.Test.YtabckmadpdchnaaGreatMem2
/- Slices of slices of bytes. -/
namespace Go.Proofs.Mem
open Go.RowKit Go.WideShapes
set_option linter.unusedVariables false
/-- the slice v holds the slices vs, each of which reads as its bytes -/
def SR (w : World) (B : Nat) (v : Value) (vs : List (Value × List Int)) : Prop :=
  ∃ A c, v = .slice A vs.length c ∧ vs.length ≤ c ∧ c ≤ maxLen ∧
    ∀ i, i < vs.length → ∃ b off u xs, A = some ⟨b, off, none⟩ ∧ b < B ∧ vs[i]? = some (u, xs) ∧ w.cell? ⟨b, off + i, none⟩ = some u ∧ IR w B .u8 u xs ∧ Bytes xs
theorem SR.nil (w : World) (B : Nat) : SR w B (.slice none 0 0) [] := ⟨none, 0, rfl, Nat.le_refl _, Nat.zero_le _, fun i h => by simp at h⟩
theorem SR.form {w : World} {B : Nat} {v : Value} {vs : List (Value × List Int)} (h : SR w B v vs) : ∃ A c, v = .slice A vs.length c ∧ vs.length ≤ c ∧ c ≤ maxLen := by
  obtain ⟨A, c, h1, h2, h3, _⟩ := h
  exact ⟨A, c, h1, h2, h3⟩
theorem SR.index {w : World} {B : Nat} {A : Option Addr} {c n : Nat} {vs : List (Value × List Int)} (h : SR w B (.slice A n c) vs) (j : Nat) (hj : j < vs.length) :
    ∃ b off u xs, A = some ⟨b, off, none⟩ ∧ b < B ∧ vs[j]? = some (u, xs) ∧ w.cell? ⟨b, off + j, none⟩ = some u ∧ IR w B .u8 u xs ∧ Bytes xs := by
  obtain ⟨A', c', e, _, _, h5⟩ := h
  injection e with e1 e2 e3
  subst e1
  exact h5 j hj
theorem SR.keep {w w' : World} {B : Nat} {v : Value} {vs : List (Value × List Int)} (h : SR w B v vs) (hk : ∀ p : Addr, p.block < B → w'.cell? p = w.cell? p) : SR w' B v vs := by
  obtain ⟨A, c, h1, h2, h3, h5⟩ := h
  refine ⟨A, c, h1, h2, h3, fun i hi => ?_⟩
  obtain ⟨b, off, u, xs, e, hb, hv, hc, hr, hx⟩ := h5 i hi
  exact ⟨b, off, u, xs, e, hb, hv, (hk _ hb).trans hc, hr.keep hk, hx⟩
/-- a literal list of slices, just made: each of its parts lies below -/
theorem SR.lit (w : World) (vs : List (Value × List Int)) (t : TypeId) (g B : Nat) (hg : w.heap.size = g) (hB : B ≤ g) (h : vs.length ≤ 1000) (hp : ∀ p ∈ vs, IR w B .u8 p.1 p.2 ∧ Bytes p.2) :
    SR (w.alloc (.cells (vs.map (·.1)).toArray t)) (g + 1) (.slice (some ⟨g, 0, none⟩) vs.length vs.length) vs := by
  subst hg
  refine ⟨_, _, rfl, Nat.le_refl _, by unfold maxLen; omega, fun i hi => ?_⟩
  obtain ⟨hr, hx⟩ := hp vs[i] (List.getElem_mem hi)
  refine ⟨w.heap.size, 0, vs[i].1, vs[i].2, rfl, by omega, by rw [List.getElem?_eq_getElem hi], ?_, ((hr.alloc hB _).more (by omega)), hx⟩
  rw [cell_new, Nat.zero_add]
  simp [List.getElem?_eq_getElem hi]
end Go.Proofs.Mem
