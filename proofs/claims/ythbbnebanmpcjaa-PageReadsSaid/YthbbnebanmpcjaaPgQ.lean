import Derived.Test.YthbbnebanmpcjaaPgP
/- A page that is well made: data laid, data changed in their place, slots trimmed, stamped, new. -/
namespace Go.Proofs.Ythbbnebanmpcjaa.Pg
open Go.Proofs.Mem
set_option linter.unusedVariables false
set_option linter.unusedSimpArgs false
/-- data are laid right ahead of low -/
theorem lay_wf {xs ys : List Int} (W : Wf0 xs) {s : Nat} (hs : s < cnt xs) (h0 : len xs s = 0) (hy : 0 < ys.length ∧ ys.length ≤ 64) (hu : 16 + 4 * cnt xs + usedTo xs (cnt xs) + ys.length ≤ 448) (hl : 16 + 4 * cnt xs + ys.length ≤ low xs) :
    Wf0 (layP xs s ys) ∧ cnt (layP xs s ys) = cnt xs ∧ len (layP xs s ys) s = ys.length ∧ dat (layP xs s ys) s = ys ∧ Others xs (layP xs s ys) s ∧ (∀ i, i < 12 → (layP xs s ys).getD i 0 = xs.getD i 0) := by
  have hx := W.len
  have hC := W.cnt
  have hlow := W.lowle
  have G1 := lay_len hx (show s < 107 by omega) (show ys.length ≤ low xs by omega) hlow.2
  have GL := lay_low hx (show s < 107 by omega) (show ys.length ≤ low xs by omega) hlow.2
  have GO := lay_off hx (show s < 107 by omega) (show ys.length ≤ low xs by omega) hlow.2
  have Gg := fun i h1 h2 => lay_getD hx (show s < 107 by omega) (show ys.length ≤ low xs by omega) hlow.2 i h1 h2
  have Ggt : ∀ a m, a + m ≤ 16 + 4 * cnt xs → (a + m ≤ 14 ∨ 16 ≤ a) → (a + m ≤ 16 + 4 * s ∨ 20 + 4 * s ≤ a) → gt (layP xs s ys) a m = gt xs a m :=
    fun a m h1 h2 h3 => lay_gt hx (by omega) (by omega) hlow.2 (by omega) h2 h3 (Or.inl (by omega))
  obtain ⟨g, hg⟩ : ∃ g, g = layP xs s ys := ⟨_, rfl⟩
  rw [← hg] at G1 GL GO Gg Ggt ⊢
  clear hg
  have hc : cnt g = cnt xs := by unfold cnt; rw [Ggt _ _ (by omega) (by omega) (by omega)]
  have ho : ∀ t, t < cnt xs → t ≠ s → off g t = off xs t := fun t ht hne => by unfold off; rw [Ggt _ _ (by omega) (by omega) (by omega)]
  have hL : ∀ t, t < cnt xs → t ≠ s → len g t = len xs t := fun t ht hne => by
    rw [len_in (by omega), len_in ht]; unfold lenR; rw [Ggt _ _ (by omega) (by omega) (by omega)]
  have hLs : len g s = ys.length := by rw [len_in (by omega)]; exact GO.2
  have hoff : ∀ t, t < cnt xs → len xs t ≠ 0 → low xs ≤ off xs t := fun t ht h => by rw [W.low]; exact lowTo_off _ t ht h
  have hus : usedTo g (cnt xs) = usedTo xs (cnt xs) + ys.length := by
    have := usedTo_one (xs := g) (ys := xs) (s := s) (cnt xs) hL hs
    omega
  have hlw : low g = lowTo g (cnt xs) := by
    apply Nat.le_antisymm
    · rw [GL]
      refine lowTo_ge (by omega) _ (fun t ht h => ?_)
      by_cases e : t = s
      · subst e; rw [GO.1]; exact Nat.le_refl _
      · rw [hL t ht e] at h
        have := hoff t ht h
        rw [ho t ht e]; omega
    · have := lowTo_off (xs := g) (cnt xs) s hs (by omega)
      rw [GO.1] at this
      omega
  refine ⟨⟨G1, by omega, by rw [hc, hus]; omega, ?_, ?_, ?_, by rw [hc]; exact hlw, ?_⟩, hc, hLs, ?_, ?_, fun i hi => by rw [Gg i (by omega) (by omega), if_neg (by omega)]⟩
  · intro t ht h
    rw [hc] at ht ⊢
    by_cases e : t = s
    · subst e; rw [GO.1, hLs]; omega
    · rw [hL t ht e] at h ⊢
      rw [ho t ht e]
      exact W.ins t ht h
  · intro t ht h
    rw [hc] at ht
    by_cases e : t = s
    · subst e; omega
    · rw [hL t ht e] at h
      rw [ho t ht e]
      exact W.nil t ht h
  · intro t u ht hu' hne h1 h2
    rw [hc] at ht hu'
    by_cases e : t = s
    · subst e
      rw [hL u hu' (Ne.symm hne)] at h2 ⊢
      rw [ho u hu' (Ne.symm hne), GO.1, hLs]
      have := hoff u hu' h2
      omega
    · by_cases e2 : u = s
      · subst e2
        rw [hL t ht e] at h1 ⊢
        rw [ho t ht e, GO.1, hLs]
        have := hoff t ht h1
        omega
      · rw [hL t ht e] at h1 ⊢
        rw [hL u hu' e2] at h2 ⊢
        rw [ho t ht e, ho u hu' e2]
        exact W.apart t u ht hu' hne h1 h2
  · intro i hi h
    rw [hc] at hi h
    have h1 := h s hs (by omega)
    rw [GO.1, hLs] at h1
    rw [Gg i (by omega) (by omega), if_neg (by omega)]
    refine W.noug i hi (fun t ht h2 => ?_)
    by_cases e : t = s
    · subst e; exact absurd h0 h2
    · have := h t ht (by rw [hL t ht e]; exact h2)
      rw [hL t ht e, ho t ht e] at this
      exact this
  · have l1 := dat_len G1 (s := s) (by rw [GO.1, hLs]; omega)
    apply list_getD (by omega)
    intro i hi
    rw [l1, hLs] at hi
    rw [dat_getD (by omega), GO.1, Gg _ (by omega) (by omega), if_pos (by omega)]
    congr 1; omega
  · intro t hne
    by_cases ht : t < cnt xs
    · refine ⟨hL t ht hne, ?_⟩
      by_cases e : len xs t = 0
      · rw [dat_nil e, dat_nil (by rw [hL t ht hne]; exact e)]
      · have h1 := W.ins t ht e
        have h2 := hoff t ht e
        refine dat_eq hx G1 (hL t ht hne) h1.2.1 (by rw [ho t ht hne]; exact h1.2.1) (fun i hi => ?_)
        rw [ho t ht hne, Gg _ (by omega) (by omega), if_neg (by omega)]
    · rw [len_far (xs := g) (by omega), len_far (xs := xs) (by omega), dat_nil (len_far (xs := g) (by omega)), dat_nil (len_far (xs := xs) (by omega))]
      exact ⟨rfl, rfl⟩
/-- data of the same length -/
theorem splice_wf {xs ys : List Int} (W : Wf0 xs) {s : Nat} (hs : s < cnt xs) (h0 : len xs s = ys.length) (hy : 0 < ys.length) :
    Wf0 (splice xs (off xs s) ys) ∧ cnt (splice xs (off xs s) ys) = cnt xs ∧ len (splice xs (off xs s) ys) s = ys.length ∧ dat (splice xs (off xs s) ys) s = ys ∧ Others xs (splice xs (off xs s) ys) s ∧ (∀ i, i < 12 → (splice xs (off xs s) ys).getD i 0 = xs.getD i 0) := by
  have hx := W.len
  have hC := W.cnt
  have hin := W.ins s hs (by omega)
  have G1 : (splice xs (off xs s) ys).length = 448 := by rw [splice_len (by omega)]; exact hx
  have Gg := fun i => splice_getD (xs := xs) (ys := ys) (a := off xs s) (by omega) i
  have Ggt : ∀ a m, a + m ≤ 16 + 4 * cnt xs → gt (splice xs (off xs s) ys) a m = gt xs a m :=
    fun a m h1 => gt_splice_far (by omega) (by omega) (by omega)
  obtain ⟨g, hg⟩ : ∃ g, g = splice xs (off xs s) ys := ⟨_, rfl⟩
  rw [← hg] at G1 Gg Ggt ⊢
  clear hg
  have hc : cnt g = cnt xs := by unfold cnt; rw [Ggt _ _ (by omega)]
  have ho : ∀ t, t < cnt xs → off g t = off xs t := fun t ht => by unfold off; rw [Ggt _ _ (by omega)]
  have hL : ∀ t, t < cnt xs → len g t = len xs t := fun t ht => by
    rw [len_in (by omega), len_in ht]; unfold lenR; rw [Ggt _ _ (by omega)]
  have hlw : low g = low xs := by unfold low; rw [Ggt _ _ (by omega)]
  refine ⟨⟨G1, by omega, by rw [hc, usedTo_congr _ hL]; exact W.room, ?_, ?_, ?_, ?_, ?_⟩, hc, by rw [hL s hs, h0], ?_, ?_, fun i hi => by rw [Gg i, if_neg (by omega)]⟩
  · intro t ht h
    rw [hc] at ht ⊢
    rw [hL t ht] at h ⊢
    rw [ho t ht]
    exact W.ins t ht h
  · intro t ht h
    rw [hc] at ht
    rw [hL t ht] at h
    rw [ho t ht]
    exact W.nil t ht h
  · intro t u ht hu' hne h1 h2
    rw [hc] at ht hu'
    rw [hL t ht] at h1 ⊢
    rw [hL u hu'] at h2 ⊢
    rw [ho t ht, ho u hu']
    exact W.apart t u ht hu' hne h1 h2
  · rw [hc, hlw, W.low]
    exact (lowTo_congr _ hL (fun t ht _ => ho t ht)).symm
  · intro i hi h
    rw [hc] at hi h
    have h1 := h s hs (by rw [hL s hs]; omega)
    rw [hL s hs, ho s hs] at h1
    rw [Gg i, if_neg (by omega)]
    refine W.noug i hi (fun t ht h2 => ?_)
    have := h t ht (by rw [hL t ht]; exact h2)
    rw [hL t ht, ho t ht] at this
    exact this
  · have e1 := ho s hs
    have e2 := hL s hs
    have l1 := dat_len G1 (s := s) (by omega)
    apply list_getD (by omega)
    intro i hi
    rw [l1, e2, h0] at hi
    rw [dat_getD (by omega), e1, Gg, if_pos (by omega)]
    congr 1; omega
  · intro t hne
    by_cases ht : t < cnt xs
    · refine ⟨hL t ht, ?_⟩
      by_cases e : len xs t = 0
      · rw [dat_nil e, dat_nil (by rw [hL t ht]; exact e)]
      · have h1 := W.ins t ht e
        have h2 := W.apart s t hs ht (Ne.symm hne) (by omega) e
        refine dat_eq hx G1 (hL t ht) h1.2.1 (by rw [ho t ht]; exact h1.2.1) (fun i hi => ?_)
        rw [ho t ht, Gg, if_neg (by omega)]
    · rw [len_far (xs := g) (by omega), len_far (xs := xs) (by omega), dat_nil (len_far (xs := g) (by omega)), dat_nil (len_far (xs := xs) (by omega))]
      exact ⟨rfl, rfl⟩
theorem nought_gt {xs : List Int} (hb : Bytes xs) {a : Nat} (hl : a + 2 ≤ xs.length) (h : gt xs a 2 = 0) (i : Nat) (h1 : a ≤ i) (h2 : i < a + 2) : xs.getD i 0 = 0 := by
  have e := Codec.put_at xs hb a 2 (by decide) hl
  have h' : Codec.at_ xs a 2 = 0 := h
  rw [h'] at e
  have e3 := seg_getD xs a 2 (i - a) (by omega)
  rw [← e, show a + (i - a) = i by omega] at e3
  rw [← e3]
  rcases (show i - a = 0 ∨ i - a = 1 by omega) with e4 | e4 <;> rw [e4] <;> decide
theorem trim_len (ys : List Int) : ∀ n t, trim ys n ≤ t → t < n → len ys t = 0 := by
  intro n
  induction n with
  | zero => intro t h1 h2; omega
  | succ n ih =>
    intro t h1 h2
    unfold trim at h1
    by_cases e : len ys n = 0
    · rw [if_pos e] at h1
      by_cases e2 : t = n
      · subst e2; exact e
      · exact ih t h1 (by omega)
    · rw [if_neg e] at h1; omega
theorem trim_last (ys : List Int) : ∀ n, trim ys n ≠ 0 → len ys (trim ys n - 1) ≠ 0 := by
  intro n
  induction n with
  | zero => intro h; exact absurd rfl h
  | succ n ih =>
    intro h
    unfold trim at h ⊢
    by_cases e : len ys n = 0
    · rw [if_pos e] at h ⊢; exact ih h
    · rw [if_neg e]; exact e
/-- the slots behind the last one that has something are taken away -/
theorem trim_wf {xs : List Int} (W : Wf0 xs) (hb : Bytes xs) {n : Nat} (hn : n = trim xs (cnt xs)) :
    Wf (setN xs 12 2 (n : Int)) ∧ cnt (setN xs 12 2 (n : Int)) = n ∧ Same xs (setN xs 12 2 (n : Int)) ∧ (∀ i, i < 12 → (setN xs 12 2 (n : Int)).getD i 0 = xs.getD i 0) := by
  have hx := W.len
  have hC := W.cnt
  have hnle : n ≤ cnt xs := by rw [hn]; exact trim_le _ _
  have htr : ∀ t, n ≤ t → t < cnt xs → len xs t = 0 := by rw [hn]; exact trim_len xs _
  have hla : n ≠ 0 → len xs (n - 1) ≠ 0 := by rw [hn]; exact trim_last xs _
  clear hn
  obtain ⟨g, hg⟩ : ∃ g, g = setN xs 12 2 (n : Int) := ⟨_, rfl⟩
  have hgl : g.length = 448 := by rw [hg, setN_len (by omega)]; exact hx
  have hge : ∀ i, (i < 12 ∨ 14 ≤ i) → g.getD i 0 = xs.getD i 0 := fun i hi => by rw [hg]; exact setN_getD_far (by omega) i (by omega)
  have hc : cnt g = n := by unfold cnt; rw [hg, gt2 n (by omega) (by omega)]; omega
  have hgt : ∀ a m, a + m ≤ 448 → 14 ≤ a → gt g a m = gt xs a m := fun a m h1 h2 => gt_getD (by omega) (by omega) (fun i h3 h4 => hge i (by omega))
  rw [← hg]
  clear hg
  have ho : ∀ t, t < 40 → off g t = off xs t := fun t ht => by unfold off; rw [hgt _ _ (by omega) (by omega)]
  have hR : ∀ t, t < 40 → lenR g t = lenR xs t := fun t ht => by unfold lenR; rw [hgt _ _ (by omega) (by omega)]
  have hlw : low g = low xs := by unfold low; rw [hgt _ _ (by omega) (by omega)]
  have hL : ∀ t, len g t = len xs t := fun t => by
    by_cases h1 : t < n
    · rw [len_in (by omega), len_in (xs := xs) (by omega), hR t (by omega)]
    · rw [len_far (xs := g) (by omega)]
      by_cases h2 : t < cnt xs
      · exact (htr t (by omega) h2).symm
      · exact (len_far (by omega)).symm
  have hin : ∀ t, len xs t ≠ 0 → t < n := fun t h => by
    rcases Nat.lt_or_ge t n with h' | h'
    · exact h'
    · rcases Nat.lt_or_ge t (cnt xs) with h2 | h2
      · exact absurd (htr t h' h2) h
      · exact absurd (len_far h2) h
  have huT : ∀ k, n ≤ k → k ≤ cnt xs → usedTo xs k = usedTo xs n := by
    intro k
    induction k with
    | zero => intro h _; rw [show n = 0 by omega]
    | succ k ih =>
      intro h1 h2
      by_cases e : n = k + 1
      · rw [e]
      · rw [usedTo_succ, ih (by omega) (by omega), htr k (by omega) (by omega)]; rfl
  have hlT : ∀ k, n ≤ k → k ≤ cnt xs → lowTo xs k = lowTo xs n := by
    intro k
    induction k with
    | zero => intro h _; rw [show n = 0 by omega]
    | succ k ih =>
      intro h1 h2
      by_cases e : n = k + 1
      · rw [e]
      · rw [lowTo_skip (htr k (by omega) (by omega)), ih (by omega) (by omega)]
  have hlo := W.lowle
  refine ⟨⟨⟨hgl, by omega, ?_, ?_, ?_, ?_, ?_, ?_⟩, by rw [hc]; intro h; rw [hL]; exact hla h⟩, hc, ?_, fun i hi => hge i (by omega)⟩
  · have := W.room
    rw [huT _ hnle (Nat.le_refl _)] at this
    rw [hc, usedTo_congr n (fun t _ => hL t)]; omega
  · intro t ht h
    rw [hL t] at h ⊢
    have h1 := hin t h
    have := W.ins t (by omega) h
    rw [hc, ho t (by omega)]
    omega
  · intro t ht h
    rw [hc] at ht
    rw [hL t] at h
    rw [ho t (by omega)]
    exact W.nil t (by omega) h
  · intro t u ht hu' hne h1 h2
    rw [hc] at ht hu'
    rw [hL t] at h1 ⊢
    rw [hL u] at h2 ⊢
    rw [ho t (by omega), ho u (by omega)]
    exact W.apart t u (by omega) (by omega) hne h1 h2
  · rw [hc, hlw, W.low, hlT _ hnle (Nat.le_refl _)]
    exact (lowTo_congr _ (fun t _ => hL t) (fun t ht _ => ho t (by omega))).symm
  · intro i hi h
    rw [hc] at hi h
    rw [hge i (by omega)]
    by_cases e : i < 16 + 4 * cnt xs
    · obtain ⟨t, ht⟩ : ∃ t, t = (i - 16) / 4 := ⟨_, rfl⟩
      have h1 : n ≤ t ∧ t < cnt xs ∧ 16 + 4 * t ≤ i ∧ i < 20 + 4 * t := by omega
      have l0 := htr t h1.1 h1.2.1
      have o0 := W.nil t h1.2.1 l0
      rw [len_in h1.2.1] at l0
      have b1 := two_b hb (16 + 4 * t) (by omega)
      have b2 := two_b hb (18 + 4 * t) (by omega)
      by_cases e2 : i < 18 + 4 * t
      · refine nought_gt hb (a := 16 + 4 * t) (by omega) ?_ i (by omega) (by omega)
        unfold off at o0; omega
      · refine nought_gt hb (a := 18 + 4 * t) (by omega) ?_ i (by omega) (by omega)
        unfold lenR at l0; omega
    · refine W.noug i (by omega) (fun t ht h1 => ?_)
      have := h t (hin t h1) (by rw [hL t]; exact h1)
      rw [hL t, ho t (by omega)] at this
      exact this
  · intro t
    refine ⟨hL t, ?_⟩
    by_cases e : len xs t = 0
    · rw [dat_nil e, dat_nil (by rw [hL t]; exact e)]
    · have h1 := hin t e
      have h2 := W.ins t (by omega) e
      refine dat_eq hx hgl (hL t) h2.2.1 (by rw [ho t (by omega)]; exact h2.2.1) (fun i hi => ?_)
      rw [ho t (by omega)]
      exact hge _ (by omega)
end Go.Proofs.Ythbbnebanmpcjaa.Pg
