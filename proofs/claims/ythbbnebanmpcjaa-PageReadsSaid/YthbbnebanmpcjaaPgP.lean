import Derived.Test.YthbbnebanmpcjaaPgO
/- A page that is well made: gather, lay, more slots. -/
namespace Go.Proofs.Ythbbnebanmpcjaa.Pg
open Go.Proofs.Mem
set_option linter.unusedVariables false
set_option linter.unusedSimpArgs false
/-- all slots are as they were -/
def Same (xs ys : List Int) : Prop := ∀ t, len ys t = len xs t ∧ dat ys t = dat xs t
theorem Same.refl (xs : List Int) : Same xs xs := fun t => ⟨rfl, rfl⟩
theorem Same.trans {xs ys zs : List Int} (h : Same xs ys) (h' : Same ys zs) : Same xs zs := fun t => ⟨by rw [(h' t).1, (h t).1], by rw [(h' t).2, (h t).2]⟩
theorem Others.trans {xs ys zs : List Int} {s : Nat} (h : Others xs ys s) (h' : Others ys zs s) : Others xs zs s := fun t ht => ⟨by rw [(h' t ht).1, (h t ht).1], by rw [(h' t ht).2, (h t ht).2]⟩
theorem Same.others {xs ys : List Int} (s : Nat) (h : Same xs ys) : Others xs ys s := fun t _ => h t
theorem gt_cnt {xs ys : List Int} (hx : xs.length = 448) (hy : ys.length = 448) (h : ∀ i, 12 ≤ i → i < 14 → ys.getD i 0 = xs.getD i 0) : cnt ys = cnt xs := by
  unfold cnt
  rw [gt_getD (xs := ys) (ys := xs) (by omega) (by omega) (fun i h1 h2 => h i h1 (by omega))]
theorem gather_wf {xs : List Int} (W : Wf0 xs) : Wf0 (gatherP xs) ∧ cnt (gatherP xs) = cnt xs ∧ Same xs (gatherP xs) ∧ low (gatherP xs) = 448 - usedTo xs (cnt xs) ∧ (∀ i, i < 12 → (gatherP xs).getD i 0 = xs.getD i 0) := by
  have G := gat_gather W.len W.cnt W.fits W.room
  obtain ⟨g, hg⟩ : ∃ g, g = gatherP xs := ⟨_, rfl⟩
  rw [← hg] at G ⊢
  clear hg
  have hr := W.room
  have hc : cnt g = cnt xs := gt_cnt W.len G.len (fun i h1 h2 => G.head i h2)
  have hl : ∀ t, t < cnt xs → len g t = len xs t := fun t ht => by rw [len_in (by omega), len_in ht]; exact G.lens t ht
  have hm : ∀ t, t < cnt xs → usedTo xs (t + 1) = usedTo xs t + len xs t ∧ usedTo xs (t + 1) ≤ usedTo xs (cnt xs) := fun t ht => ⟨usedTo_succ xs t, usedTo_mono xs (by omega)⟩
  have ho : ∀ t, t < cnt xs → len xs t ≠ 0 → off g t = 448 - usedTo xs (t + 1) := fun t ht h => G.offs t ht h
  have hu : usedTo g (cnt xs) = usedTo xs (cnt xs) := usedTo_congr _ hl
  have hlow : low g = lowTo g (cnt xs) := by
    apply Nat.le_antisymm
    · rw [G.low]
      refine lowTo_ge (by omega) _ (fun t ht h => ?_)
      rw [hl t ht] at h
      have := hm t ht
      rw [ho t ht h]; omega
    · rw [G.low]
      by_cases e : usedTo xs (cnt xs) = 0
      · rw [e]; exact lowTo_le _ _
      · obtain ⟨s, h1, h2, h3, h4⟩ := used_cover xs (cnt xs) (usedTo xs (cnt xs) - 1) (by omega)
        have h5 := lowTo_off (xs := g) (cnt xs) s h1 (by rw [hl s h1]; exact h2)
        rw [ho s h1 h2] at h5
        have := hm s h1
        omega
  refine ⟨⟨G.len, by rw [hc]; exact W.cnt, by rw [hc, hu]; exact hr, ?_, ?_, ?_, by rw [hc]; exact hlow, ?_⟩, hc, ?_, G.low, fun i hi => G.head i (by omega)⟩
  · intro t ht h
    rw [hc] at ht ⊢
    rw [hl t ht] at h ⊢
    have h1 := hm t ht
    have h2 := W.ins t ht h
    rw [ho t ht h]
    exact ⟨by omega, by omega, h2.2.2⟩
  · intro t ht h
    rw [hc] at ht
    rw [hl t ht] at h
    rw [G.rest t ht (Or.inr h)]
    exact W.nil t ht h
  · intro t u ht hu' hne h1 h2
    rw [hc] at ht hu'
    rw [hl t ht] at h1 ⊢
    rw [hl u hu'] at h2 ⊢
    rw [ho t ht h1, ho u hu' h2]
    have m1 := hm t ht
    have m2 := hm u hu'
    rcases Nat.lt_or_gt_of_ne hne with e | e
    · have := usedTo_mono xs (show t + 1 ≤ u by omega)
      omega
    · have := usedTo_mono xs (show u + 1 ≤ t by omega)
      omega
  · intro i hi h
    rw [hc] at hi h
    by_cases e : i < 448 - usedTo xs (cnt xs)
    · exact G.noug i hi e
    · by_cases e2 : i < 448
      · obtain ⟨s, h1, h2, h3, h4⟩ := used_cover xs (cnt xs) (447 - i) (by omega)
        have h5 := h s h1 (by rw [hl s h1]; exact h2)
        rw [hl s h1, ho s h1 h2] at h5
        have := hm s h1
        omega
      · rw [List.getD_eq_getElem?_getD, List.getElem?_eq_none (by rw [G.len]; omega)]; rfl
  · intro t
    by_cases ht : t < cnt xs
    · refine ⟨hl t ht, ?_⟩
      by_cases e : len xs t = 0
      · rw [dat_nil e, dat_nil (by rw [hl t ht]; exact e)]
      · have h1 := hm t ht
        have h2 := W.ins t ht e
        refine dat_eq W.len G.len (hl t ht) h2.2.1 (by rw [ho t ht e]; omega) (fun i hi => ?_)
        rw [ho t ht e]
        exact G.dats t ht e i hi
    · rw [len_far (xs := g) (by omega), len_far (xs := xs) (by omega), dat_nil (len_far (xs := g) (by omega)), dat_nil (len_far (xs := xs) (by omega))]
      exact ⟨rfl, rfl⟩
theorem lowTo_skip {xs : List Int} {n : Nat} (h : len xs n = 0) : lowTo xs (n + 1) = lowTo xs n := by
  show (if len xs n = 0 then lowTo xs n else min (lowTo xs n) (off xs n)) = _
  rw [if_pos h]
theorem gt_nought {xs : List Int} {a : Nat} (hl : a + 2 ≤ xs.length) (h : ∀ i, a ≤ i → i < a + 2 → xs.getD i 0 = 0) : gt xs a 2 = 0 := by
  have e : (xs.drop a).take 2 = List.replicate 2 0 := by
    apply list_getD (by rw [seg_len hl]; rfl)
    intro i hi
    rw [seg_len hl] at hi
    rw [seg_getD _ _ _ _ hi, h _ (by omega) (by omega), List.getD_eq_getElem?_getD, List.getElem?_replicate]
    split <;> rfl
  unfold gt
  rw [e]
  decide
/-- there are more slots: where they are told of, noughts stand -/
theorem grow_wf {xs : List Int} (W : Wf0 xs) {n : Nat} (hn : cnt xs ≤ n) (h40 : n ≤ 40) (hu : 16 + 4 * n + usedTo xs (cnt xs) ≤ 448) (hl : 16 + 4 * n ≤ low xs) :
    Wf0 (setN xs 12 2 (n : Int)) ∧ cnt (setN xs 12 2 (n : Int)) = n ∧ Same xs (setN xs 12 2 (n : Int)) ∧ low (setN xs 12 2 (n : Int)) = low xs ∧ (∀ i, i < 12 → (setN xs 12 2 (n : Int)).getD i 0 = xs.getD i 0) := by
  have hx := W.len
  have hC := W.cnt
  obtain ⟨g, hg⟩ : ∃ g, g = setN xs 12 2 (n : Int) := ⟨_, rfl⟩
  have hgl : g.length = 448 := by rw [hg, setN_len (by omega)]; exact hx
  have hge : ∀ i, (i < 12 ∨ 14 ≤ i) → g.getD i 0 = xs.getD i 0 := fun i hi => by rw [hg]; exact setN_getD_far (by omega) i (by omega)
  have hc : cnt g = n := by unfold cnt; rw [hg, gt2 n (by omega) (by omega)]; omega
  have hgt : ∀ a m, a + m ≤ 448 → 14 ≤ a → gt g a m = gt xs a m := fun a m h1 h2 => gt_getD (by omega) (by omega) (fun i h3 h4 => hge i (by omega))
  rw [← hg]
  have ho : ∀ t, t < 40 → off g t = off xs t := fun t ht => by unfold off; rw [hgt _ _ (by omega) (by omega)]
  have hR : ∀ t, t < 40 → lenR g t = lenR xs t := fun t ht => by unfold lenR; rw [hgt _ _ (by omega) (by omega)]
  have hlw : low g = low xs := by unfold low; rw [hgt _ _ (by omega) (by omega)]
  have hoff : ∀ t, t < cnt xs → len xs t ≠ 0 → 16 + 4 * n ≤ off xs t := fun t ht h => by
    have := lowTo_off (cnt xs) t ht h
    rw [← W.low] at this; omega
  have hz : ∀ i, 16 + 4 * cnt xs ≤ i → i < 16 + 4 * n → xs.getD i 0 = 0 := fun i h1 h2 => W.noug i h1 (fun t ht h => by have := hoff t ht h; omega)
  have hnewR : ∀ t, cnt xs ≤ t → t < n → lenR xs t = 0 := fun t h1 h2 => by
    unfold lenR
    rw [gt_nought (by omega) (fun i h3 h4 => hz i (by omega) (by omega))]; rfl
  have hnewO : ∀ t, cnt xs ≤ t → t < n → off xs t = 0 := fun t h1 h2 => by
    unfold off
    rw [gt_nought (by omega) (fun i h3 h4 => hz i (by omega) (by omega))]; rfl
  have hL : ∀ t, len g t = len xs t := fun t => by
    by_cases h1 : t < cnt xs
    · rw [len_in (by omega), len_in h1, hR t (by omega)]
    · rw [len_far (xs := xs) (by omega)]
      by_cases h2 : t < n
      · rw [len_in (by omega), hR t (by omega), hnewR t (by omega) h2]
      · exact len_far (by omega)
  have hin : ∀ t, len xs t ≠ 0 → t < cnt xs := fun t h => by
    rcases Nat.lt_or_ge t (cnt xs) with h' | h'
    · exact h'
    · exact absurd (len_far h') h
  have huT : ∀ k, k ≤ n → cnt xs ≤ k → usedTo g k = usedTo xs (cnt xs) := by
    intro k
    induction k with
    | zero =>
      intro _ h
      have : cnt xs = 0 := by omega
      rw [this]; rfl
    | succ k ih =>
      intro h1 h2
      by_cases e : cnt xs = k + 1
      · rw [e]; exact usedTo_congr _ (fun t ht => hL t)
      · rw [usedTo_succ, ih (by omega) (by omega), hL k, len_far (by omega)]; rfl
  have hlT : ∀ k, k ≤ n → cnt xs ≤ k → lowTo g k = lowTo xs (cnt xs) := by
    intro k
    induction k with
    | zero =>
      intro _ h
      have : cnt xs = 0 := by omega
      rw [this]; rfl
    | succ k ih =>
      intro h1 h2
      by_cases e : cnt xs = k + 1
      · rw [e]; exact lowTo_congr _ (fun t ht => hL t) (fun t ht _ => ho t (by omega))
      · have h3 := ih (by omega) (by omega)
        rw [lowTo_skip (by rw [hL k]; exact len_far (by omega))]; exact h3
  refine ⟨⟨hgl, by omega, by rw [hc, huT n (Nat.le_refl _) hn]; exact hu, ?_, ?_, ?_, by rw [hc, hlw, hlT n (Nat.le_refl _) hn]; exact W.low, ?_⟩, hc, ?_, hlw, fun i hi => hge i (by omega)⟩
  · intro t ht h
    rw [hL t] at h ⊢
    have h1 := hin t h
    rw [hc, ho t (by omega)]
    exact ⟨hoff t h1 h, (W.ins t h1 h).2⟩
  · intro t ht h
    rw [hc] at ht
    rw [hL t] at h
    rw [ho t (by omega)]
    by_cases h1 : t < cnt xs
    · exact W.nil t h1 h
    · exact hnewO t (by omega) ht
  · intro t u ht hu' hne h1 h2
    rw [hL t] at h1 ⊢
    rw [hL u] at h2 ⊢
    have e1 := hin t h1
    have e2 := hin u h2
    rw [ho t (by omega), ho u (by omega)]
    exact W.apart t u e1 e2 hne h1 h2
  · intro i hi h
    rw [hc] at hi h
    rw [hge i (by omega)]
    refine W.noug i (by omega) (fun t ht h1 => ?_)
    have := h t (by omega) (by rw [hL t]; exact h1)
    rw [hL t, ho t (by omega)] at this
    exact this
  · intro t
    refine ⟨hL t, ?_⟩
    by_cases e : len xs t = 0
    · rw [dat_nil e, dat_nil (by rw [hL t]; exact e)]
    · have h1 := hin t e
      have h2 := W.ins t h1 e
      refine dat_eq hx hgl (hL t) h2.2.1 (by rw [ho t (by omega)]; exact h2.2.1) (fun i hi => ?_)
      rw [ho t (by omega)]
      exact hge _ (by omega)
end Go.Proofs.Ythbbnebanmpcjaa.Pg
