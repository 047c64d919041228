import Derived.Test.YtimnhanjlldhoaaClkMath2
/- All frames in turn: the model. -/
namespace Go.Proofs.Clk
set_option linter.unusedVariables false
def F1 : Fm := ⟨true, true, 0⟩
def F0 : Fm := ⟨true, false, 0⟩
/-- how far the hand is from h when it is at x -/
def dst (n h x : Nat) : Nat := if h ≤ x then x - h else x + n - h
theorem mod_small {n h c : Nat} (hh : h < n) (hc : c ≤ n) : (h + c) % n = if h + c < n then h + c else h + c - n := by
  by_cases e : h + c < n
  · rw [if_pos e, Nat.mod_eq_of_lt e]
  · rw [if_neg e, Nat.mod_eq_sub_mod (by omega), Nat.mod_eq_of_lt (by omega)]
theorem dst_at {n h c : Nat} (hh : h < n) (hc : c < n) : dst n h ((h + c) % n) = c := by
  rw [mod_small hh (by omega)]
  unfold dst
  split <;> split <;> omega
theorem dst_lt {n h x : Nat} (hh : h < n) (hx : x < n) : dst n h x < n := by unfold dst; split <;> omega
theorem dst_inj {n h c x : Nat} (hh : h < n) (hc : c < n) (hx : x < n) (e : dst n h x = c) : x = (h + c) % n := by
  rw [mod_small hh (by omega)]
  unfold dst at e
  split at e <;> split <;> omega
theorem next_at {n h c : Nat} (hh : h < n) (hc : c < n) : ((h + c) % n + 1) % n = (h + (c + 1)) % n := by
  rw [Nat.mod_add_mod, Nat.add_assoc]
theorem getD_set_eq (l : List Fm) (j : Nat) (f : Fm) (hj : j < l.length) (x : Nat) : (l.set j f).getD x z3 = if x = j then f else l.getD x z3 := by
  simp only [List.getD_eq_getElem?_getD, List.getElem?_set]
  by_cases e : j = x
  · subst e; simp [hj]
  · rw [if_neg e, if_neg (Ne.symm e)]
theorem all_same {l : List Fm} {n : Nat} {f : Fm} (hl : l.length = n) (h : ∀ x, x < n → l.getD x z3 = f) : l = List.replicate n f := by
  apply List.ext_getElem (by simp [hl])
  intro i h1 h2
  have := h i (by omega)
  simp [List.getD, List.getElem?_eq_getElem h1] at this
  simp [this]
theorem sw_clear (n h : Nat) (hh : h < n) : ∀ (e c : Nat) (l : List Fm), c + e = n → l.length = n → (∀ x, x < n → l.getD x z3 = if dst n h x < c then F0 else F1) → sw (e + 1) l ((h + c) % n) = some (h, List.replicate n F0, (h + 1) % n)
  | 0, c, l, hc, hl, hp => by
    have hcn : c = n := by omega
    subst hcn
    have e0 := all_same hl (fun x hx => by rw [hp x hx, if_pos (dst_lt hh hx)])
    have e1 : (h + c) % c = h := by rw [Nat.add_mod_right, Nat.mod_eq_of_lt hh]
    have e2 : l.getD h z3 = F0 := by rw [hp h hh, if_pos (dst_lt hh hh)]
    rw [e1]
    simp only [sw]
    rw [e2, hl, if_neg (by decide), if_neg (by decide), e0]
  | e + 1, c, l, hc, hl, hp => by
    have hy : (h + c) % n < n := Nat.mod_lt _ (by omega)
    have hd := dst_at hh (show c < n by omega)
    have e2 : l.getD ((h + c) % n) z3 = F1 := by rw [hp _ hy, hd, if_neg (by omega)]
    have e3 := next_at hh (show c < n by omega)
    rw [sw, e2, if_neg (by decide), if_pos (by rfl), hl, e3]
    refine sw_clear n h hh e (c + 1) _ (by omega) (by rw [List.length_set, hl]) (fun x hx => ?_)
    rw [getD_set_eq _ _ _ (by omega)]
    by_cases ex : x = (h + c) % n
    · subst ex; rw [if_pos rfl, hd, if_pos (by omega)]; rfl
    · rw [if_neg ex, hp x hx]
      have : dst n h x ≠ c := fun e => ex (dst_inj hh (by omega) hx e)
      by_cases a : dst n h x < c
      · rw [if_pos a, if_pos (by omega)]
      · rw [if_neg a, if_neg (by omega)]
/-- the first j frames from h on were told, left and taken -/
def Turn (n h j : Nat) (l : List Fm) : Prop := l.length = n ∧ ∀ x, x < n → l.getD x z3 = if dst n h x < j then F1 else F0
theorem turn_first {n h : Nat} (hh : h < n) : sw (n + 1) (List.replicate n F1) h = some (h, List.replicate n F0, (h + 1) % n) := by
  have := sw_clear n h hh n 0 (List.replicate n F1) (by omega) (by simp) (fun x hx => by simp [List.getD, hx])
  rw [show (h + 0) % n = h from by rw [Nat.add_zero, Nat.mod_eq_of_lt hh]] at this
  exact this
theorem turn_zero {n h : Nat} : Turn n h 0 (List.replicate n F0) := ⟨by simp, fun x hx => by simp [List.getD, hx]⟩
theorem turn_step {n h j : Nat} {l : List Fm} (hh : h < n) (hj : j < n) (t : Turn n h j l) : Turn n h (j + 1) (l.set ((h + j) % n) F1) := by
  have hy : (h + j) % n < n := Nat.mod_lt _ (by omega)
  refine ⟨by rw [List.length_set]; exact t.1, fun x hx => ?_⟩
  rw [getD_set_eq _ _ _ (by rw [t.1]; exact hy)]
  by_cases ex : x = (h + j) % n
  · subst ex; rw [if_pos rfl, dst_at hh hj, if_pos (by omega)]
  · rw [if_neg ex, t.2 x hx]
    have : dst n h x ≠ j := fun e => ex (dst_inj hh hj hx e)
    by_cases a : dst n h x < j
    · rw [if_pos a, if_pos (by omega)]
    · rw [if_neg a, if_neg (by omega)]
theorem turn_sw {n h j : Nat} {l : List Fm} (hh : h < n) (hj : j < n) (t : Turn n h j l) : sw 1 l ((h + j) % n) = some ((h + j) % n, l, (h + (j + 1)) % n) := by
  have hy : (h + j) % n < n := Nat.mod_lt _ (by omega)
  have e2 : l.getD ((h + j) % n) z3 = F0 := by rw [t.2 _ hy, dst_at hh hj, if_neg (by omega)]
  rw [sw, e2, if_neg (by decide), if_neg (by decide), t.1, next_at hh hj]
/-- left and taken -/
theorem leave_take {l : List Fm} {y : Nat} (hy : y < l.length) (e : l.getD y z3 = F0) : leaveM l y = (true, l.set y z3) ∧ takeM (l.set y z3) y = (true, l.set y F1) := by
  have hf := fr_in hy
  have hf2 : fr (l.set y z3) y = z3 := by rw [fr_in (by rw [List.length_set]; exact hy), getD_set_eq _ _ _ hy, if_pos rfl]
  constructor
  · unfold leaveM; rw [hf, e, if_pos (by decide)]; simp
  · unfold takeM; rw [hf2, if_pos (by simp [inR, hy, z3])]; simp [F1]
/-- a pick takes no pin, and gives nothing up -/
theorem sw_same : ∀ (k : Nat) (l : List Fm) (h : Nat) (r : Nat × List Fm × Nat), h < l.length → sw k l h = some r → ∀ x, (r.2.1.getD x z3).p = (l.getD x z3).p ∧ (r.2.1.getD x z3).t = (l.getD x z3).t
  | 0, l, h, r, hh, hs => by cases hs
  | k + 1, l, h, r, hh, hs => by
    have hm := Nat.mod_lt (h + 1) (show 0 < l.length by omega)
    intro x
    simp only [sw] at hs
    split at hs
    · exact sw_same k l _ r hm hs x
    · split at hs
      · have := sw_same k (l.set h { l.getD h z3 with u := false }) ((h + 1) % l.length) r (by rw [List.length_set]; exact hm) hs x
        rw [getD_set_eq _ _ _ hh] at this
        by_cases e : x = h
        · subst e; rw [if_pos rfl] at this; exact this
        · rw [if_neg e] at this; exact this
      · injection hs with hs
        subst hs
        exact ⟨rfl, rfl⟩
theorem sw_loose : ∀ (k : Nat) (l : List Fm) (h : Nat) (r : Nat × List Fm × Nat), h < l.length → sw k l h = some r → (r.2.1.getD r.1 z3).p ≤ 0
  | 0, l, h, r, hh, hs => by cases hs
  | k + 1, l, h, r, hh, hs => by
    have hm := Nat.mod_lt (h + 1) (show 0 < l.length by omega)
    simp only [sw] at hs
    split at hs
    · exact sw_loose k l _ r hm hs
    · split at hs
      · exact sw_loose k (l.set h { l.getD h z3 with u := false }) ((h + 1) % l.length) r (by rw [List.length_set]; exact hm) hs
      · injection hs with hs
        subst hs
        next hp _ => exact Int.not_lt.1 hp
end Go.Proofs.Clk
