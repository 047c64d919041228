import Derived.Test.YthbbnebanmpcjaaSs
import Derived.ChangeArms
/- Slices that lie in a struct that came in. -/
namespace Go.Proofs.Mem
open Go.RowKit Go.WideShapes Go.ChangeShapes Go.Deep
set_option linter.unusedVariables false
section
variable {H : Type} {enc : TypeId × Value → H} {P : Program} {w : World}
theorem inner_SS {α : Type} (F : α → List Value) (Q : α → Prop) {t e : TypeId} {sz n : Nat} {c0 : Value} {y : DataW H × List MemPlace} (ht : P.underlying t = some (.slice e)) (hC : P.cellsOf e = sz) (hsz : 0 < sz)
    (hel : ∀ (cs : List Value) n y, cs.length = sz → DataW.trod enc P w 0 (fun _ => true) true n e cs = some y → ∃ x, cs = F x ∧ Q x)
    (hf : DataW.trod enc P w 0 (fun _ => true) true n t [c0] = some y) : ∃ xs : List α, SS F sz w w.heap.size c0 xs ∧ ∀ x ∈ xs, Q x := by
  rcases open_slice ht hf with ⟨hcs, _⟩ | ⟨x, len, c, m, n, D, Pl, hcs, _, hl, hm, hmm, _, hi⟩
  · simp at hcs
    subst hcs
    exact ⟨[], SS.nil _ _, fun n hn => by cases hn⟩
  · simp at hcs
    subst hcs
    simp at hmm
    subst hmm
    have each : ∀ i : Fin len, ∃ y : α, (F y).length = sz ∧ Q y ∧ ∀ j, j < sz → w.cell? ((x.add (i.1 * sz)).add j) = (F y)[j]? := fun i => by
      obtain ⟨cs', hc, ht'⟩ := hi i.1 (by have := i.2; omega)
      rw [hC] at hc
      obtain ⟨_, hlen, hat⟩ := World.cells?_some hc
      obtain ⟨y, rfl, hq⟩ := hel cs' _ _ hlen ht'
      exact ⟨y, hlen, hq, hat⟩
    obtain ⟨f, hf⟩ := Classical.skolem.1 each
    refine ⟨List.ofFn f, ⟨some x, _, by rw [List.length_ofFn], by rw [List.length_ofFn]; exact hl, hm, fun i y hy => ?_⟩, fun y hy => ?_⟩
    · have hil : i < len := by
        have := (List.getElem?_eq_some_iff.1 hy).1
        rwa [List.length_ofFn] at this
      obtain ⟨b, off, spot⟩ := x
      have hs : spot = none := by
        obtain ⟨h1, _, h3⟩ := hf ⟨0, by omega⟩
        have h4 := h3 0 hsz
        rw [List.getElem?_eq_getElem (by omega)] at h4
        simpa [Addr.add] using World.cell?_spot h4
      subst hs
      obtain ⟨h1, _, h3⟩ := hf ⟨i, hil⟩
      rw [List.getElem?_ofFn] at hy
      simp [hil] at hy
      have hcell : ∀ j u, (F y)[j]? = some u → w.cell? ⟨b, off + i * sz + j, none⟩ = some u := fun j u hu => by
        rw [hy] at h1 h3
        have hj : j < sz := by rw [← h1]; exact (List.getElem?_eq_some_iff.1 hu).1
        have h4 := h3 j hj
        rw [Go.WideShapes.add_plain, Go.WideShapes.add_plain] at h4
        exact h4.trans hu
      refine ⟨b, off, rfl, ?_, hcell⟩
      have h5 := hcell 0 ((F y)[0]'(by rw [hy] at h1; omega)) (List.getElem?_eq_getElem _)
      rcases Nat.lt_or_ge b w.heap.size with h6 | h6
      · exact h6
      · unfold World.cell? at h5
        simp [Array.getElem?_eq_none h6] at h5
    · obtain ⟨i, rfl⟩ := (List.mem_ofFn (f := f)).1 hy
      exact (hf i).2.1
theorem one_int' {base : Nat} {spare : Nat → Bool} {held : Bool} {k : IntKind} {t : TypeId} {n : Nat} {c : Value} {o : Option (DataW H × List MemPlace)} (ht : P.underlying t = some (.int k)) (h : DataW.trod enc P w base spare held n t [c] = o) (ho : o.isSome = true) : ∃ x, c = .int k x ∧ (Lit.int k x).wf = true := by
  cases o with
  | none => cases ho
  | some y =>
    obtain ⟨x, e, _, hw⟩ := DataW.trod_int ht h
    injection e with e _
    exact ⟨x, e, hw⟩
theorem one_bool' {base : Nat} {spare : Nat → Bool} {held : Bool} {t : TypeId} {n : Nat} {c : Value} {o : Option (DataW H × List MemPlace)} (ht : P.underlying t = some .bool) (h : DataW.trod enc P w base spare held n t [c] = o) (ho : o.isSome = true) : ∃ x, c = .bool x := by
  cases o with
  | none => cases ho
  | some y =>
    obtain ⟨x, e, _⟩ := DataW.trod_bool ht h
    injection e with e _
    exact ⟨x, e⟩
theorem some_at' {α : Type} {l : List α} {i : Nat} (h : i < l.length) : (l[i]?).isSome = true := by simp [h]
end
end Go.Proofs.Mem
