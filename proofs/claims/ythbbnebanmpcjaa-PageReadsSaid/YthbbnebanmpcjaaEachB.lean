import Derived.Test.YthbbnebanmpcjaaEachA
/- A region that draws its order, one of whose operations writes what is there; all others make memory at most. -/
namespace Go.Proofs.Each
open Go Go.RowKit Go.Proofs.Mem
set_option linter.unusedVariables false
def Ce (w0 : World) (s : Nat) (L : Nat → Bool) (W : World) : Prop := L s = false → Below w0.heap.size w0 W
def Re (Rs : World → World → Prop) (s i : Nat) (W W' : World) : Prop := if i = s then Rs W W' else Below W.heap.size W W'
def Fe (s : Nat) (Fin : World → Prop) (Fs : List (Value → World → Prop)) (j : Nat) (vals : Nat → Value) (W : World) : Prop := if j = s then Fin W else (Fs.getD j fun _ _ => True) (vals j) W
section
variable {s j : Nat} {Fin : World → Prop} {Rs : World → World → Prop} {Fs : List (Value → World → Prop)} {vals : Nat → Value} {W W' : World} {f : Value → World → Prop} {v : Value}
theorem Fe.val (h : j ≠ s) (hE : (Fs.getD j fun _ _ => True) = f) (hf : f v W) : Fe s Fin Fs j (upd vals j v) W := by
  unfold Fe; rw [if_neg h, upd_same, hE]; exact hf
theorem Fe.get (hf : Fe s Fin Fs j vals W) (h : j ≠ s) : (Fs.getD j fun _ _ => True) (vals j) W := by
  unfold Fe at hf; rw [if_neg h] at hf; exact hf
theorem Fe.last (h : Fin W) : Fe s Fin Fs s (upd vals s v) W := by unfold Fe; rw [if_pos rfl]; exact h
theorem Re.of (h : j ≠ s) (hb : Below W.heap.size W W') : Re Rs s j W W' := by unfold Re; rw [if_neg h]; exact hb
theorem Re.same (h : j ≠ s) : Re Rs s j W W := Re.of h (Below.refl _ _)
theorem Re.last (h : Rs W W') : Re Rs s s W W' := by unfold Re; rw [if_pos rfl]; exact h
end
theorem wp_region_end {P : Program} {l : List Oper} {a0 : Act} {id : Nat} {Q : Exit → Act → World → Prop} {w0 : World} (hm : P.follows .mixedOrders = true) (hB : fitB l.toArray = true)
    (s : Nat) (Rs : World → World → Prop) (Fin : World → Prop) (Fs : List (Value → World → Prop))
    (hfin : ∀ W W', Below W.heap.size W W' → Fin W → Fin W')
    (hstay : ∀ j v W W', j ≠ s → (Rs W W' ∨ Below W.heap.size W W') → (Fs.getD j fun _ _ => True) v W → (Fs.getD j fun _ _ => True) v W')
    (hob : ∀ vals : Nat → Value, ObL P l.toArray (Ce w0 s) (Re Rs s) (Fe s Fin Fs) vals 0 l a0)
    (hend : ∀ (vals : Nat → Value) W, Fin W → (∀ i, i < l.length → i ≠ s → (Fs.getD i fun _ _ => True) (vals i) W) → Q .normal (TL vals 0 l a0) W) (hs : s < l.length) : (Code.region id l.toArray true).wp P Q a0 w0 := by
  refine wp_region_obL hm hB (Ce w0 s) (Re Rs s) (Fe s Fin Fs) ?_ ?_ ?_ ?_ hob ?_
  · intro L _ _; exact (Below.refl _ _).drew
  · intro i L L' W W' hi hLL h h' hL'
    have hLs : L s = false := by
      cases e : L s with
      | false => rfl
      | true => rw [(hLL s).2 (.inl e)] at hL'; cases hL'
    have his : i ≠ s := fun e => by rw [(hLL s).2 (.inr e.symm)] at hL'; cases hL'
    unfold Re at h'
    rw [if_neg his] at h'
    exact (h hLs).trans (h'.mono (h hLs).size)
  · intro i j L vals W W' hji hc hr hf
    unfold Fe at hf ⊢
    unfold Re at hr
    by_cases hj : j = s
    · rw [if_pos hj] at hf ⊢
      rw [if_neg (fun e => hji (hj.trans e.symm))] at hr
      exact hfin _ _ hr hf
    · rw [if_neg hj] at hf ⊢
      refine hstay j _ W W' hj ?_ hf
      split at hr
      · exact .inl hr
      · exact .inr hr
  · intro j oj vals vals' hj hv hw W hf
    unfold Fe at hf ⊢
    rw [← hv]; exact hf
  · intro L vals W hc h
    have h1 := h s hs
    unfold Fe at h1
    rw [if_pos rfl] at h1
    refine hend vals W h1 (fun i hi hne => ?_)
    have := h i hi
    unfold Fe at this
    rwa [if_neg hne] at this
end Go.Proofs.Each
