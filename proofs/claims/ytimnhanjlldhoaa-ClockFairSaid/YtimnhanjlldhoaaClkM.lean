import Derived.Test.YtimnhanjlldhoaaClkL
/- Frames that are told in turn: what the calls do to them. -/
namespace Go.Proofs.Ytimnhanjlldhoaa.Clk
open Go.ChangeShapes Go.WideShapes Go.ChangeAt Go.RowKit Go.IntWalk Go.Proofs.Mem Go.Proofs.Clk
set_option linter.unusedVariables false
theorem take_touch {l : List Fm} {j : Nat} (hj : j < l.length) (hp : (l.getD j z3).p = 0) : (touchM (takeM l j).2 j).2 = l.set j F1 := by
  have hf := fr_in hj
  cases ht : (l.getD j z3).t
  · have e1 : takeM l (j : Int) = (true, l.set j F1) := by unfold takeM; rw [hf, ht, if_pos (by simp [inR, hj])]; simp [F1]
    rw [e1]
    have hf2 : fr (l.set j F1) (j : Int) = F1 := by rw [fr_in (by rw [List.length_set]; exact hj), getD_set_eq _ _ _ hj, if_pos rfl]
    unfold touchM; rw [hf2]; simp [F1]
  · have e1 : takeM l (j : Int) = (false, l) := by unfold takeM; rw [hf, ht]; simp
    rw [e1]
    unfold touchM; rw [hf, ht]
    generalize l.getD j z3 = f at *
    obtain ⟨a, b, q⟩ := f
    dsimp only at hp ht
    subst hp ht
    simp [F1]
theorem unpin_at {l : List Fm} {j : Nat} (hj : j < l.length) (hp : 0 < (l.getD j z3).p) : (unpinM l j).2 = l.set j { l.getD j z3 with p := (l.getD j z3).p - 1 } := by
  unfold unpinM; rw [fr_in hj, if_neg (by omega)]; simp
/-- where the hand is, and what was told -/
def St (n h k : Nat) (l : List Fm) (x : Nat) : Prop := (k = 0 ∧ l = List.replicate n F1 ∧ x = h) ∨ (1 ≤ k ∧ Turn n h k l ∧ x = (h + k) % n)
theorem f1_free : isFree F1 = false := rfl
theorem f0_free : isFree F0 = false := rfl
theorem f1_loose : isLoose F1 = true := rfl
theorem f0_loose : isLoose F0 = true := rfl
theorem st_pick {n h k x : Nat} {l : List Fm} (s : St n h k l x) (hh : h < n) (hk : k < n) :
    l.length = n ∧ x < n ∧ ∃ l2, PickR l x ((((h + k) % n : Nat) : Int), true, l2, (h + (k + 1)) % n) ∧ Turn n h k l2 := by
  rcases s with ⟨rfl, rfl, rfl⟩ | ⟨h1, t, rfl⟩
  · refine ⟨by simp, hh, List.replicate n F0, .inr ⟨fun i hi => ?_, .inr ⟨⟨x, by simpa using hh, ?_⟩, n + 1, x, _, _, turn_first hh, ?_⟩⟩, turn_zero⟩
    · have : (List.replicate n F1).getD i z3 = F1 := by simp at hi; simp [List.getD, hi]
      rw [this]; rfl
    · have : (List.replicate n F1).getD x z3 = F1 := by simp [List.getD, hh]
      rw [this]; rfl
    · rw [Nat.add_zero, Nat.mod_eq_of_lt hh]
  · have hy : (h + k) % n < n := Nat.mod_lt _ (by omega)
    refine ⟨t.1, hy, l, .inr ⟨fun i hi => ?_, .inr ⟨⟨(h + k) % n, by rw [t.1]; exact hy, ?_⟩, 1, _, _, _, turn_sw hh hk t, rfl⟩⟩, t⟩
    · rw [t.2 i (by rw [t.1] at hi; exact hi)]; split <;> rfl
    · rw [t.2 _ hy]; split <;> rfl
theorem rep_false (n y : Nat) : (List.replicate n false).getD y false = false := by
  rw [List.getD_eq_getElem?_getD, List.getElem?_replicate]; split <;> rfl
theorem turn_ok {n h k : Nat} {l : List Fm} (t : Turn n h k l) : Oks 0 l := fun f hf => by
  obtain ⟨i, hi, rfl⟩ := List.mem_iff_getElem.1 hf
  have := t.2 i (by rw [← t.1]; exact hi)
  rw [List.getD_eq_getElem?_getD, List.getElem?_eq_getElem hi] at this
  simp only [Option.getD_some] at this
  rw [this]
  split
  · exact ⟨by decide, by decide, fun h => by cases h⟩
  · exact ⟨by decide, by decide, fun h => by cases h⟩
end Go.Proofs.Ytimnhanjlldhoaa.Clk
