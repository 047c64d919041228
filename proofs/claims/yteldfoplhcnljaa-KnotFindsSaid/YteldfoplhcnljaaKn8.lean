import Derived.Test.YteldfoplhcnljaaKn7
import Derived.Test.YteldfoplhcnljaaSsOwn
/- Rows of edges; the edges without a victim; more edges. -/
namespace Go.Proofs.Yteldfoplhcnljaa.Knot
open Go.ChangeShapes Go.WideShapes Go.ChangeAt Go.RowKit Go.IntWalk Go.Proofs.Mem Go.Proofs.Ring
set_option linter.unusedVariables false
set_option linter.unusedSimpArgs false
theorem ed_info : (Try.prog.info? 35).map (fun i => (i.zero, i.size, i.bytes)) = some (some (.agg #[.int .u32 0, .int .u32 0]), 2, 8) := by kernel_rfl
theorem cEd_len (x : Ed) : (cEd x).length = 2 := rfl
theorem cEd_one (y : Ed) : ∀ u ∈ cEd y, u.oneCell' = true := by
  intro u hu
  simp [cEd] at hu
  rcases hu with rfl | rfl <;> rfl
/-- the edges that do not touch v -/
def wout (l : List Ed) (v : Int) : List Ed := l.filter fun e => decide (e.a ≠ v) && decide (e.b ≠ v)
theorem wout_take {l : List Ed} {k : Nat} {e : Ed} (he : l[k]? = some e) (v : Int) : wout (l.take (k + 1)) v = if e.a ≠ v ∧ e.b ≠ v then wout (l.take k) v ++ [e] else wout (l.take k) v := by
  unfold wout
  rw [List.take_add_one, he, List.filter_append]
  by_cases h : e.a ≠ v ∧ e.b ≠ v
  · rw [if_pos h]; simp [h.1, h.2]
  · rw [if_neg h]
    have : (decide (e.a ≠ v) && decide (e.b ≠ v)) = false := by
      rw [Bool.and_eq_false_iff, decide_eq_false_iff_not, decide_eq_false_iff_not]
      by_cases h1 : e.a ≠ v
      · exact .inr fun h2 => h ⟨h1, h2⟩
      · exact .inl h1
    simp only [Option.toList_some, List.filter_cons, this, List.filter_nil]
    simp
theorem wout_len (l : List Ed) (v : Int) : (wout l v).length ≤ l.length := List.length_filter_le _ _
theorem wout_ok {l : List Ed} (h : ∀ e ∈ l, e.Ok) (v : Int) : ∀ e ∈ wout l v, e.Ok := fun e he => h e (List.mem_filter.1 he).1
theorem wout_ne {l : List Ed} {fr : Int} (hl : ∀ e ∈ l, e.Ok) (hf : U32 fr) (h : cyc l fr ≠ []) : cyc (wout l (top (cyc l fr))) fr ≠ cyc l fr := by
  intro e
  have hm := top_mem h (fun x hx => (cyc_u32 hl hf x hx).1)
  generalize hv : top (cyc l fr) = v at *
  have h2 : cyc (wout l v) fr ≠ [] := by rw [e]; exact h
  obtain ⟨f1, _, _⟩ := cyc_facts h2
  rw [e] at f1
  obtain ⟨i, hi, ei⟩ := mem_getD hm
  have h3 := f1 i hi
  rw [ei] at h3
  unfold tos at h3
  rw [List.mem_map] at h3
  obtain ⟨e', h4, _⟩ := h3
  rw [List.mem_filter] at h4
  have h5 := (List.mem_filter.1 h4.1).2
  have h6 : e'.a = v := by simpa using h4.2
  rw [h6] at h5
  simp at h5
theorem top_in {l : List Ed} {fr : Int} (hl : ∀ e ∈ l, e.Ok) (hf : U32 fr) : decide (top (cyc l fr) ∈ cyc l fr) = decide (0 < (cyc l fr).length) := by
  by_cases h : cyc l fr = []
  · rw [h]; rfl
  · rw [decide_eq_true (top_mem h (fun x hx => (cyc_u32 hl hf x hx).1)), decide_eq_true (show 0 < (cyc l fr).length by cases h2 : cyc l fr with | nil => exact absurd h2 h | cons a b => simp)]
end Go.Proofs.Yteldfoplhcnljaa.Knot
