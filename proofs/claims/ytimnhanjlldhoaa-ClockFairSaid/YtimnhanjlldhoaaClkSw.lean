import Derived.Test.YtimnhanjlldhoaaClkMath
/- The hand goes round: the model. -/
namespace Go.Proofs.Clk
set_option linter.unusedVariables false
/-- the hand's way, k steps at most: the frame, the frames behind it, the hand -/
def sw : Nat → List Fm → Nat → Option (Nat × List Fm × Nat)
  | 0, _, _ => none
  | k + 1, l, h =>
    if 0 < (l.getD h z3).p then sw k l ((h + 1) % l.length)
    else if (l.getD h z3).u then sw k (l.set h { l.getD h z3 with u := false }) ((h + 1) % l.length)
    else some (h, l, (h + 1) % l.length)
def cnt : List Fm → Nat
  | [] => 0
  | f :: l => (if f.u then 1 else 0) + cnt l
theorem cnt_set : ∀ (l : List Fm) (j : Nat), j < l.length → (l.getD j z3).u = true → cnt (l.set j { l.getD j z3 with u := false }) + 1 = cnt l
  | [], j, h, _ => by simp at h
  | f :: l, 0, h, hu => by
    have hu' : f.u = true := by simpa using hu
    simp [cnt, hu']; omega
  | f :: l, j + 1, h, hu => by
    have := cnt_set l j (by simpa using h) (by simpa using hu)
    simp only [List.getD_cons_succ, List.set_cons_succ, cnt] at *
    omega
theorem p_set (l : List Fm) (j k : Nat) (hj : j < l.length) : ((l.set j { l.getD j z3 with u := false }).getD k z3).p = (l.getD k z3).p := by
  simp only [List.getD_eq_getElem?_getD]
  rw [List.getElem?_set]
  by_cases e : j = k
  · subst e; rw [if_pos rfl, if_pos hj]; rfl
  · rw [if_neg e]
theorem sw_ends_at : ∀ (c : Nat) (l : List Fm), cnt l ≤ c → ∀ (d h : Nat), h < l.length → (l.getD ((h + d) % l.length) z3).p ≤ 0 → ∃ k r, sw k l h = some r := by
  intro c
  induction c with
  | zero =>
    intro l hc d
    induction d with
    | zero =>
      intro h hh hp
      rw [Nat.add_zero, Nat.mod_eq_of_lt hh] at hp
      refine ⟨1, ?_⟩
      simp only [sw]
      rw [if_neg (by omega)]
      by_cases hu : (l.getD h z3).u = true
      · have := cnt_set l h hh hu; omega
      · rw [if_neg hu]; exact ⟨_, rfl⟩
    | succ d ih =>
      intro h hh hp
      by_cases h0 : 0 < (l.getD h z3).p
      · obtain ⟨k, r, hk⟩ := ih ((h + 1) % l.length) (Nat.mod_lt _ (by omega)) (by rw [Nat.mod_add_mod, show h + 1 + d = h + (d + 1) by omega]; exact hp)
        exact ⟨k + 1, r, by simp only [sw]; rw [if_pos h0]; exact hk⟩
      · refine ⟨1, ?_⟩
        simp only [sw]
        rw [if_neg h0]
        by_cases hu : (l.getD h z3).u = true
        · have := cnt_set l h hh hu; omega
        · rw [if_neg hu]; exact ⟨_, rfl⟩
  | succ c ihc =>
    intro l hc d
    have used : ∀ d h, h < l.length → (l.getD ((h + d) % l.length) z3).p ≤ 0 → ¬ 0 < (l.getD h z3).p → ∃ k r, sw k l h = some r := by
      intro d h hh hp h0
      by_cases hu : (l.getD h z3).u = true
      · have hcs := cnt_set l h hh hu
        obtain ⟨k, r, hk⟩ := ihc (l.set h { l.getD h z3 with u := false }) (by omega) (l.length - 1) ((h + 1) % l.length) (by rw [List.length_set]; exact Nat.mod_lt _ (by omega)) (by
          rw [p_set l h _ hh, List.length_set, Nat.mod_add_mod, show h + 1 + (l.length - 1) = h + l.length by omega, Nat.add_mod_right, Nat.mod_eq_of_lt hh]; omega)
        exact ⟨k + 1, r, by simp only [sw]; rw [if_neg h0, if_pos hu]; exact hk⟩
      · exact ⟨1, _, by simp only [sw]; rw [if_neg h0, if_neg hu]⟩
    induction d with
    | zero =>
      intro h hh hp
      exact used 0 h hh hp (by rw [Nat.add_zero, Nat.mod_eq_of_lt hh] at hp; omega)
    | succ d ih =>
      intro h hh hp
      by_cases h0 : 0 < (l.getD h z3).p
      · obtain ⟨k, r, hk⟩ := ih ((h + 1) % l.length) (Nat.mod_lt _ (by omega)) (by rw [Nat.mod_add_mod, show h + 1 + d = h + (d + 1) by omega]; exact hp)
        exact ⟨k + 1, r, by simp only [sw]; rw [if_pos h0]; exact hk⟩
      · exact used (d + 1) h hh hp h0
theorem sw_ends (l : List Fm) (h : Nat) (hh : h < l.length) (j : Nat) (hj : j < l.length) (hp : (l.getD j z3).p ≤ 0) : ∃ k r, sw k l h = some r := by
  refine sw_ends_at _ l (Nat.le_refl _) (j + l.length - h) h hh ?_
  rw [show h + (j + l.length - h) = j + l.length by omega, Nat.add_mod_right, Nat.mod_eq_of_lt hj]
  exact hp
/-- the least number of which p holds -/
noncomputable def least (p : Nat → Prop) : Nat := open Classical in if h : ∃ n, p n ∧ ∀ m, m < n → ¬ p m then Classical.choose h else 0
theorem least_is {p : Nat → Prop} {n : Nat} (h : p n) : p (least p) ∧ least p ≤ n := by
  have ex : ∃ n, p n ∧ ∀ m, m < n → ¬ p m := by
    revert h
    induction n using Nat.strongRecOn with
    | _ n ih =>
      intro h
      by_cases k : ∃ m, m < n ∧ p m
      · obtain ⟨m, hm, hp⟩ := k
        exact ih m hm hp
      · exact ⟨n, h, fun m hm hp => k ⟨m, hm, hp⟩⟩
  unfold least
  rw [dif_pos ex]
  have hs := Classical.choose_spec ex
  refine ⟨hs.1, ?_⟩
  by_cases hlt : n < Classical.choose ex
  · exact absurd h (hs.2 n hlt)
  · omega
end Go.Proofs.Clk
