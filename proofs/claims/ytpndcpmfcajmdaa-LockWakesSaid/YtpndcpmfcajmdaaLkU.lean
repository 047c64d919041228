import Derived.Test.YtpndcpmfcajmdaaLkS
import Derived.Test.YtpndcpmfcajmdaaLkT
/- Locks, pure: what an answer says. -/
namespace Go.Proofs.Ytpndcpmfcajmdaa.Lock
open Go.ChangeShapes Go.WideShapes Go.ChangeAt Go.RowKit Go.IntWalk Go.Proofs.Mem Law Go.Shelf Go.Proofs.Each
set_option linter.unusedVariables false
set_option linter.unusedSimpArgs false
theorem has_mode {h : Option Int} {md m : Int} (hd : ∀ x, h = some x → x = 1 ∨ x = 2) (hm : mdOf m = md) : hasE h md = (decide (h.getD 0 = 2) || (decide (h.getD 0 = 1) && decide (m = 1))) := by
  unfold mdOf at hm
  cases h with
  | none => rfl
  | some x =>
    show (decide (x = 2) || decide (x = md)) = (decide (x = 2) || (decide (x = 1) && decide (m = 1)))
    rcases hd x rfl with e | e <;> subst e
    · by_cases hm1 : m = 1
      · rw [if_pos hm1] at hm; subst hm; simp [hm1]
      · rw [if_neg hm1] at hm; subst hm; simp [hm1]
    · simp
theorem ask_mode {T : Tb} {t : Int} {k : Ky} {m : Int} (hi : Inv T) : askB T t k m = (decide ((((askT T t k m).ent k).hv t).getD 0 = 2) || (decide ((((askT T t k m).ent k).hv t).getD 0 = 1) && decide (m = 1))) := by
  rw [← has_mode (md := mdOf m) (fun x hx => (inv_ask (t := t) (k := k) (m := m) hi).md k t x hx) rfl]
  unfold askB askT
  have hmd := mdOf_is m
  generalize mdOf m = md at hmd ⊢
  split
  · rename_i h; exact h.symm
  · rename_i h
    have h' : hasE ((T.at_ k).hv t) md = false := by simpa using h
    split
    · exact h'.symm
    · split
      · rename_i h2
        rw [h2, set_same]
        show true = hasE (fput (T.at_ k).hv t md t) md
        rw [fput_same]
        unfold hasE
        simp
      · rename_i h2
        have h2' : (fit (T.at_ k).hv t md && (((T.at_ k).hv t).isSome || (T.at_ k).line.isEmpty)) = false := by simpa using h2
        rw [h2', wait_ent, set_same]
        exact h'.symm
theorem who_ok {l : List Lo} (h : ∀ o ∈ l, o.Ok) : ∀ x ∈ whoOf l, U32 x := fun x hx => by
  obtain ⟨o, h1, rfl⟩ := who_mem.1 hx
  exact (h o h1).2.1
/-- two of those who took part are two -/
theorem who_two {l : List Lo} {i j : Nat} {x y : Int} (hi : (whoOf l)[i]? = some x) (hj : (whoOf l)[j]? = some y) (h : j ≠ i) : y ≠ x := by
  obtain ⟨h1, h2⟩ := List.getElem?_eq_some_iff.1 hi
  obtain ⟨h3, h4⟩ := List.getElem?_eq_some_iff.1 hj
  have hp := List.pairwise_iff_getElem.1 (who_sorted l)
  rcases Nat.lt_or_gt_of_ne h with h5 | h5
  · have := hp j i h3 h1 h5; omega
  · have := hp i j h1 h3 h5; omega
end Go.Proofs.Ytpndcpmfcajmdaa.Lock
