import Derived.Test.YthbbnebanmpcjaaPgI
/- Pure: what whole looks at: bytes covered, the rest. -/
namespace Go.Proofs.Ythbbnebanmpcjaa.Pg
open Go.Proofs.Mem
set_option linter.unusedVariables false
set_option linter.unusedSimpArgs false
theorem sum_set : ∀ (C : List Int) (i : Nat), i < C.length → C.getD i 0 = 0 → (C.set i 1).sum = C.sum + 1
  | [], i, h, _ => by simp at h
  | c :: C, 0, _, h0 => by
    have : c = 0 := h0
    subst this
    simp only [List.set_cons_zero, List.sum_cons]; omega
  | c :: C, i + 1, h, h0 => by
    have ih := sum_set C i (by simpa using h) (by simpa using h0)
    simp only [List.set_cons_succ, List.sum_cons, ih]; omega
theorem sum_bound : ∀ (C : List Int) (e : Nat), e ≤ C.length → (∀ i, i < e → C.getD i 0 = 0) → (∀ i, C.getD i 0 = 0 ∨ C.getD i 0 = 1) → C.sum ≤ (C.length : Int) - e
  | [], e, h, _, _ => by simp at h; subst h; simp
  | c :: C, 0, _, _, h1 => by
    have ih := sum_bound C 0 (Nat.zero_le _) (fun i hi => by omega) (fun i => by have := h1 (i + 1); simpa using this)
    have hc : c = 0 ∨ c = 1 := h1 0
    simp only [List.sum_cons, List.length_cons]; omega
  | c :: C, e + 1, h, h0, h1 => by
    have ih := sum_bound C e (by simpa using h) (fun i hi => by have := h0 (i + 1) (by omega); simpa using this) (fun i => by have := h1 (i + 1); simpa using this)
    have hc : c = 0 := h0 0 (by omega)
    simp only [List.sum_cons, List.length_cons]; omega
/-- which bytes are covered: those of the slots ahead of s, and of slot s up to k -/
structure Cov (xs C : List Int) (s k : Nat) : Prop where
  len : C.length = 448
  bit : ∀ i, C.getD i 0 = 0 ∨ C.getD i 0 = 1
  hit : ∀ i, C.getD i 0 ≠ 0 ↔ (∃ t, t < s ∧ off xs t ≤ i ∧ i < off xs t + Pg.len xs t) ∨ (off xs s ≤ i ∧ i < k)
  sum : C.sum + off xs s = usedTo xs s + k
theorem z_getD (i : Nat) : z448.getD i 0 = 0 := by
  unfold z448
  rw [List.getD_eq_getElem?_getD, List.getElem?_replicate]
  split <;> rfl
theorem z_sum : z448.sum = 0 := by decide +kernel
theorem Cov.start (xs : List Int) : Cov xs z448 0 (off xs 0) := ⟨List.length_replicate, fun i => .inl (z_getD i), fun i => by rw [z_getD]; constructor; (intro h; exact absurd rfl h); (rintro (⟨t, h, _⟩ | ⟨h1, h2⟩); (omega); (omega)), by rw [z_sum]; rfl⟩
theorem Cov.step {xs C : List Int} {s k : Nat} (h : Cov xs C s k) (hk : off xs s ≤ k) (h8 : k < 448) (h0 : C.getD k 0 = 0) : Cov xs (C.set k 1) s (k + 1) := by
  have hg : ∀ i, (C.set k 1).getD i 0 = if i = k then 1 else C.getD i 0 := by
    intro i
    rw [List.getD_eq_getElem?_getD, List.getElem?_set]
    by_cases e : k = i
    · subst e
      rw [if_pos rfl, if_pos rfl, if_pos (by rw [h.len]; exact h8)]; rfl
    · rw [if_neg e, if_neg (fun x => e x.symm), List.getD_eq_getElem?_getD]
  refine ⟨by rw [List.length_set]; exact h.len, fun i => ?_, fun i => ?_, ?_⟩
  · rw [hg]; split
    · exact .inr rfl
    · exact h.bit i
  · rw [hg]
    by_cases e : i = k
    · subst e
      rw [if_pos rfl]
      exact ⟨fun _ => .inr ⟨hk, by omega⟩, fun _ => by decide⟩
    · rw [if_neg e, h.hit i]
      constructor
      · rintro (h1 | h1)
        · exact .inl h1
        · exact .inr ⟨h1.1, by omega⟩
      · rintro (h1 | h1)
        · exact .inl h1
        · exact .inr ⟨h1.1, by omega⟩
  · rw [sum_set C k (by rw [h.len]; exact h8) h0]
    have := h.sum
    omega
theorem Cov.next {xs C : List Int} {s : Nat} (h : Cov xs C s (off xs s + Pg.len xs s)) : Cov xs C (s + 1) (off xs (s + 1)) := by
  refine ⟨h.len, h.bit, fun i => ?_, ?_⟩
  · rw [h.hit i]
    constructor
    · rintro (⟨t, h1, h2⟩ | h1)
      · exact .inl ⟨t, by omega, h2⟩
      · exact .inl ⟨s, by omega, h1⟩
    · rintro (⟨t, h1, h2⟩ | h1)
      · rcases Nat.lt_succ_iff_lt_or_eq.mp h1 with h3 | h3
        · exact .inl ⟨t, h3, h2⟩
        · subst h3; exact .inr h2
      · omega
  · have := h.sum
    rw [usedTo_succ]
    omega
/-- the slots ahead of s lie well, and apart -/
structure Lie (xs : List Int) (s : Nat) : Prop where
  fit : ∀ t, t < s → (len xs t = 0 ∧ off xs t = 0) ∨ (len xs t ≠ 0 ∧ len xs t ≤ 64 ∧ 16 + 4 * cnt xs ≤ off xs t ∧ off xs t + len xs t ≤ 448)
  apart : ∀ t u, t < s → u < s → t ≠ u → len xs t ≠ 0 → len xs u ≠ 0 → off xs t + len xs t ≤ off xs u ∨ off xs u + len xs u ≤ off xs t
theorem Lie.start (xs : List Int) : Lie xs 0 := ⟨fun t h => by omega, fun t u h => by omega⟩
theorem Lie.none {xs : List Int} {s : Nat} (h : Lie xs s) (h0 : len xs s = 0) (h1 : off xs s = 0) : Lie xs (s + 1) := by
  refine ⟨fun t ht => ?_, fun t u ht hu hne h3 h4 => ?_⟩
  · rcases Nat.lt_succ_iff_lt_or_eq.mp ht with e | e
    · exact h.fit t e
    · subst e; exact .inl ⟨h0, h1⟩
  · rcases Nat.lt_succ_iff_lt_or_eq.mp ht with e | e
    · rcases Nat.lt_succ_iff_lt_or_eq.mp hu with e2 | e2
      · exact h.apart t u e e2 hne h3 h4
      · subst e2; exact absurd h0 h4
    · subst e; exact absurd h0 h3
/-- slot s, none of whose bytes was covered, lies apart too: none covered means that no slot ahead of it has one of its bytes -/
theorem Lie.some {xs : List Int} {s : Nat} (h : Lie xs s) (h0 : len xs s ≠ 0) (h1 : len xs s ≤ 64 ∧ 16 + 4 * cnt xs ≤ off xs s ∧ off xs s + len xs s ≤ 448)
    (hn : ∀ i, off xs s ≤ i → i < off xs s + len xs s → ∀ t, t < s → i < off xs t ∨ off xs t + len xs t ≤ i) : Lie xs (s + 1) := by
  have key : ∀ t, t < s → len xs t ≠ 0 → off xs t + len xs t ≤ off xs s ∨ off xs s + len xs s ≤ off xs t := by
    intro t ht h3
    rcases Nat.lt_or_ge (off xs t) (off xs s) with e | e
    · rcases hn (off xs s) (Nat.le_refl _) (by omega) t ht with h5 | h5
      · omega
      · exact .inl h5
    · rcases Nat.lt_or_ge (off xs t) (off xs s + len xs s) with e2 | e2
      · rcases hn (off xs t) e e2 t ht with h5 | h5
        · omega
        · omega
      · exact .inr e2
  refine ⟨fun t ht => ?_, fun t u ht hu hne h3 h4 => ?_⟩
  · rcases Nat.lt_succ_iff_lt_or_eq.mp ht with e | e
    · exact h.fit t e
    · subst e; exact .inr ⟨h0, h1⟩
  · rcases Nat.lt_succ_iff_lt_or_eq.mp ht with e | e
    · rcases Nat.lt_succ_iff_lt_or_eq.mp hu with e2 | e2
      · exact h.apart t u e e2 hne h3 h4
      · subst e2; exact key t e h3
    · rcases Nat.lt_succ_iff_lt_or_eq.mp hu with e2 | e2
      · subst e; exact (key u e2 h4).symm
      · omega
/-- the rest: the head, the list and the slots' bytes are noughts, all else is as it was -/
structure Rest (xs R : List Int) (s : Nat) : Prop where
  len : R.length = 448
  byt : Bytes R
  nou : ∀ i, (i < 16 + 4 * cnt xs ∨ ∃ t, t < s ∧ off xs t ≤ i ∧ i < off xs t + Pg.len xs t) → R.getD i 0 = 0
  was : ∀ i, 16 + 4 * cnt xs ≤ i → (∀ t, t < s → i < off xs t ∨ off xs t + Pg.len xs t ≤ i) → R.getD i 0 = xs.getD i 0
theorem rep_getD (n i : Nat) : (List.replicate n (0 : Int)).getD i 0 = 0 := by
  rw [List.getD_eq_getElem?_getD, List.getElem?_replicate]
  split <;> rfl
theorem Rest.start {xs : List Int} (hx : xs.length = 448) (hb : Bytes xs) (hc : cnt xs ≤ 40) : Rest xs (splice xs 0 (List.replicate (16 + 4 * cnt xs) 0)) 0 := by
  have hl : (List.replicate (16 + 4 * cnt xs) (0 : Int)).length = 16 + 4 * cnt xs := List.length_replicate
  have hg := fun i => splice_getD (xs := xs) (a := 0) (ys := List.replicate (16 + 4 * cnt xs) 0) (by rw [hl]; omega) i
  refine ⟨by rw [splice_len (by rw [hl]; omega)]; exact hx, splice_bytes hb (nought_bytes _), fun i h => ?_, fun i h1 h2 => ?_⟩
  · rw [hg, hl]
    rcases h with h | ⟨t, h, _⟩
    · rw [if_pos (by omega)]; exact rep_getD _ _
    · omega
  · rw [hg, hl, if_neg (by omega)]
theorem Rest.none {xs R : List Int} {s : Nat} (h : Rest xs R s) (h0 : Pg.len xs s = 0) : Rest xs R (s + 1) := by
  refine ⟨h.len, h.byt, fun i hi => h.nou i ?_, fun i h1 h2 => h.was i h1 (fun t ht => h2 t (by omega))⟩
  rcases hi with hi | ⟨t, h1, h2⟩
  · exact .inl hi
  · rcases Nat.lt_succ_iff_lt_or_eq.mp h1 with e | e
    · exact .inr ⟨t, e, h2⟩
    · subst e; omega
theorem Rest.some {xs R : List Int} {s : Nat} (h : Rest xs R s) (h1 : off xs s + Pg.len xs s ≤ 448) : Rest xs (splice R (off xs s) (List.replicate (Pg.len xs s) 0)) (s + 1) := by
  have hl : (List.replicate (Pg.len xs s) (0 : Int)).length = Pg.len xs s := List.length_replicate
  have hg := fun i => splice_getD (xs := R) (a := off xs s) (ys := List.replicate (Pg.len xs s) 0) (by rw [hl, h.len]; omega) i
  refine ⟨by rw [splice_len (by rw [hl, h.len]; omega)]; exact h.len, splice_bytes h.byt (nought_bytes _), fun i hi => ?_, fun i h2 h3 => ?_⟩
  · rw [hg, hl]
    by_cases e : off xs s ≤ i ∧ i < off xs s + Pg.len xs s
    · rw [if_pos e]; exact rep_getD _ _
    · rw [if_neg e]
      refine h.nou i ?_
      rcases hi with hi | ⟨t, h4, h5⟩
      · exact .inl hi
      · rcases Nat.lt_succ_iff_lt_or_eq.mp h4 with e2 | e2
        · exact .inr ⟨t, e2, h5⟩
        · subst e2; exact absurd h5 e
  · have h4 := h3 s (by omega)
    rw [hg, hl, if_neg (by omega)]
    exact h.was i h2 (fun t ht => h3 t (by omega))
/-- what is left is noughts just if the page is well made -/
theorem rest_wf {xs C R : List Int} (hx : xs.length = 448) (hc : cnt xs ≤ 40) (hl : cnt xs ≠ 0 → len xs (cnt xs - 1) ≠ 0) (hlo : low xs = lowTo xs (cnt xs))
    (L : Lie xs (cnt xs)) (K : Cov xs C (cnt xs) (off xs (cnt xs))) (T : Rest xs R (cnt xs)) : decide (R = z448) = true ↔ Wf xs := by
  rw [decide_eq_true_iff]
  constructor
  · intro e
    subst e
    have hb := sum_bound C (16 + 4 * cnt xs) (by rw [K.len]; omega) (fun i hi => by
      rcases K.bit i with h | h
      · exact h
      · exfalso
        have h2 := (K.hit i).1 (by rw [h]; decide)
        rcases h2 with ⟨t, h3, h4, h5⟩ | h2
        · rcases L.fit t h3 with h6 | h6
          · omega
          · omega
        · omega) K.bit
    have hs := K.sum
    rw [K.len] at hb
    refine ⟨⟨hx, hc, by omega, fun s hs h0 => ?_, fun s hs h0 => ?_, L.apart, hlo, fun i h1 h2 => ?_⟩, hl⟩
    · rcases L.fit s hs with h | h
      · exact absurd h.1 h0
      · exact ⟨h.2.2.1, h.2.2.2, h.2.1⟩
    · rcases L.fit s hs with h | h
      · exact h.2
      · exact absurd h0 h.1
    · rw [← T.was i h1 (fun t ht => by
        rcases L.fit t ht with h | h
        · omega
        · exact h2 t ht h.1)]
      exact z_getD i
  · intro W
    refine list_getD (by rw [T.len]; exact List.length_replicate.symm) (fun i hi => ?_)
    rw [z_getD]
    by_cases h : i < 16 + 4 * cnt xs ∨ ∃ t, t < cnt xs ∧ off xs t ≤ i ∧ i < off xs t + len xs t
    · exact T.nou i h
    · have h1 : 16 + 4 * cnt xs ≤ i := by
        rcases Nat.lt_or_ge i (16 + 4 * cnt xs) with e | e
        · exact absurd (.inl e) h
        · exact e
      have h2 : ∀ t, t < cnt xs → i < off xs t ∨ off xs t + len xs t ≤ i := fun t ht => by
        rcases Nat.lt_or_ge i (off xs t) with e | e
        · exact .inl e
        · rcases Nat.lt_or_ge i (off xs t + len xs t) with e2 | e2
          · exact absurd (.inr ⟨t, ht, e, e2⟩) h
          · exact .inr e2
      rw [T.was i h1 h2]
      exact W.w0.noug i h1 (fun t ht _ => h2 t ht)
/-- why it is none -/
theorem not_slot {xs : List Int} {s : Nat} (hs : s < cnt xs) (h : ¬ ((len xs s = 0 ∧ off xs s = 0) ∨ (len xs s ≠ 0 ∧ len xs s ≤ 64 ∧ 16 + 4 * cnt xs ≤ off xs s ∧ off xs s + len xs s ≤ 448))) : ¬ Wf xs := fun W => by
  by_cases h0 : len xs s = 0
  · exact h (.inl ⟨h0, W.w0.nil s hs h0⟩)
  · have := W.w0.ins s hs h0
    exact h (.inr ⟨h0, this.2.2, this.1, this.2.1⟩)
theorem not_apart {xs C : List Int} {s k : Nat} (hs : s < cnt xs) (K : Cov xs C s k) (hk : off xs s ≤ k ∧ k < off xs s + len xs s) (h : C.getD k 0 ≠ 0) : ¬ Wf xs := fun W => by
  rcases (K.hit k).1 h with ⟨t, h1, h2, h3⟩ | h1
  · have := W.w0.apart s t hs (by omega) (by omega) (by omega) (by omega)
    omega
  · omega
end Go.Proofs.Ythbbnebanmpcjaa.Pg
