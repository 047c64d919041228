import Derived.Test.YtimnhanjlldhoaaClkSw
/- What the calls keep. -/
namespace Go.Proofs.Clk
set_option linter.unusedVariables false
variable {l : List Fm} {i : Int} {B : Int}
theorem fr_ok (h : Oks B l) (hB : 0 ≤ B) : (fr l i).Ok B := by
  unfold fr
  split
  · exact h.at_ hB _
  · exact z3_ok B hB
theorem takeM_len : (takeM l i).2.length = l.length := by unfold takeM; split <;> simp
theorem leaveM_len : (leaveM l i).2.length = l.length := by unfold leaveM; split <;> simp
theorem touchM_len : (touchM l i).2.length = l.length := by unfold touchM; split <;> simp
theorem pinM_len : (pinM l i).2.length = l.length := by unfold pinM; split <;> simp
theorem unpinM_len : (unpinM l i).2.length = l.length := by unfold unpinM; split <;> simp
theorem takeM_ok (h : Oks B l) (hB : 0 ≤ B) : Oks B (takeM l i).2 := by
  unfold takeM
  split
  · exact h.set ⟨Int.le_refl _, hB, fun x => by cases x⟩ _
  · exact h
theorem leaveM_ok (h : Oks B l) (hB : 0 ≤ B) : Oks B (leaveM l i).2 := by
  unfold leaveM
  split
  · exact h.set (z3_ok B hB) _
  · exact h
theorem touchM_ok (h : Oks B l) (hB : 0 ≤ B) : Oks B (touchM l i).2 := by
  unfold touchM
  split
  · next ht =>
    obtain ⟨a, b, c⟩ := fr_ok (i := i) h hB
    exact h.set (f := { fr l i with u := true }) ⟨a, b, fun x => by rw [ht] at x; cases x⟩ _
  · exact h
theorem pinM_ok (h : Oks B l) (hB : 0 ≤ B) : Oks (B + 1) (pinM l i).2 := by
  unfold pinM
  have h' := h.mono (show B ≤ B + 1 by omega)
  split
  · next ht =>
    obtain ⟨a, b, c⟩ := fr_ok (i := i) h hB
    exact h'.set (f := { fr l i with p := (fr l i).p + 1 }) ⟨by show 0 ≤ (fr l i).p + 1; omega, by show (fr l i).p + 1 ≤ B + 1; omega, fun x => by rw [ht] at x; cases x⟩ _
  · exact h'
theorem unpinM_ok (h : Oks B l) (hB : 0 ≤ B) : Oks B (unpinM l i).2 := by
  unfold unpinM
  split
  · exact h
  · next hp =>
    obtain ⟨a, b, c⟩ := fr_ok (i := i) h hB
    exact h.set (f := { fr l i with p := (fr l i).p - 1 }) ⟨by show 0 ≤ (fr l i).p - 1; omega, by show (fr l i).p - 1 ≤ B; omega, fun x => absurd (c x).2 hp⟩ _
theorem sw_keeps : ∀ (k : Nat) (l : List Fm) (h : Nat) (r : Nat × List Fm × Nat), h < l.length → sw k l h = some r → r.1 < l.length ∧ r.2.1.length = l.length ∧ r.2.2 < l.length ∧ (Oks B l → 0 ≤ B → Oks B r.2.1)
  | 0, l, h, r, hh, hs => by cases hs
  | k + 1, l, h, r, hh, hs => by
    have hm := Nat.mod_lt (h + 1) (show 0 < l.length by omega)
    simp only [sw] at hs
    split at hs
    · exact sw_keeps k l _ r hm hs
    · split at hs
      · obtain ⟨a, b, c, d⟩ := sw_keeps k (l.set h { l.getD h z3 with u := false }) ((h + 1) % l.length) r (by rw [List.length_set]; exact hm) hs
        rw [List.length_set] at a b c
        refine ⟨a, b, c, fun ho hB => d ?_ hB⟩
        obtain ⟨q0, q1, q2⟩ := ho.at_ hB h
        exact ho.set (f := { l.getD h z3 with u := false }) ⟨q0, q1, fun x => ⟨rfl, (q2 x).2⟩⟩ h
      · injection hs with hs
        subst hs
        exact ⟨hh, rfl, hm, fun ho _ => ho⟩
end Go.Proofs.Clk
