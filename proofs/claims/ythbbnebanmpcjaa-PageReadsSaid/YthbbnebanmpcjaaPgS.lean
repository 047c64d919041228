import Derived.Test.YthbbnebanmpcjaaPgR
/- A page that is well made: New, Stamp; with where it lies. -/
namespace Go.Proofs.Ythbbnebanmpcjaa.Pg
open Go.Proofs.Mem
set_option linter.unusedVariables false
set_option linter.unusedSimpArgs false
theorem z448_getD (i : Nat) : z448.getD i 0 = 0 := by
  unfold z448
  rw [List.getD_eq_getElem?_getD, List.getElem?_replicate]
  split <;> rfl
theorem new_wf (n : Int) : Wf (newP n) ∧ cnt (newP n) = 0 ∧ low (newP n) = 448 := by
  have hz : z448.length = 448 := List.length_replicate
  have h1 : (setN z448 8 4 n).length = 448 := by rw [setN_len (by omega)]; exact hz
  obtain ⟨g, hg⟩ : ∃ g, g = newP n := ⟨_, rfl⟩
  have hg' : g = setN (setN z448 8 4 n) 14 2 448 := hg
  rw [← hg]
  clear hg
  have hgl : g.length = 448 := by rw [hg', setN_len (by omega)]; exact h1
  have hge : ∀ i, (i < 8 ∨ 12 ≤ i) → (i < 14 ∨ 16 ≤ i) → g.getD i 0 = 0 := fun i h2 h3 => by
    rw [hg', setN_getD_far (by omega) i (by omega), setN_getD_far (by omega) i (by omega)]; exact z448_getD i
  have hl : low g = 448 := by
    have e := gt2 (xs := setN z448 8 4 n) (a := 14) 448 (by omega) (by decide)
    have e2 : gt (setN (setN z448 8 4 n) 14 2 448) 14 2 = 448 := e
    unfold low
    rw [hg', e2]; rfl
  clear hg'
  have hc : cnt g = 0 := by unfold cnt; rw [gt_nought (by omega) (fun i h2 h3 => hge i (by omega) (by omega))]; rfl
  refine ⟨⟨⟨hgl, by omega, by rw [hc]; show 16 + 4 * 0 + 0 ≤ 448; omega, fun s hs => by omega, fun s hs => by omega, fun s t hs => by omega, by rw [hl, hc]; rfl, fun i hi _ => hge i (by omega) (by omega)⟩, fun h => absurd hc h⟩, hc, hl⟩
/-- the log's place changes, or the number -/
theorem stamp_wf {xs : List Int} (W : Wf xs) {a n : Nat} (ha : a + n ≤ 12) (M : Int) : Wf (setN xs a n M) ∧ cnt (setN xs a n M) = cnt xs ∧ low (setN xs a n M) = low xs ∧ Same xs (setN xs a n M) ∧ (∀ i, (i < a ∨ a + n ≤ i) → (setN xs a n M).getD i 0 = xs.getD i 0) := by
  have hx := W.w0.len
  have hC := W.w0.cnt
  obtain ⟨g, hg⟩ : ∃ g, g = setN xs a n M := ⟨_, rfl⟩
  have hgl : g.length = 448 := by rw [hg, setN_len (by omega)]; exact hx
  have hge : ∀ i, (i < a ∨ a + n ≤ i) → g.getD i 0 = xs.getD i 0 := fun i hi => by rw [hg]; exact setN_getD_far (by omega) i hi
  rw [← hg]
  clear hg
  have hgt : ∀ b m, b + m ≤ 448 → 12 ≤ b → gt g b m = gt xs b m := fun b m h1 h2 => gt_getD (by omega) (by omega) (fun i h3 h4 => hge i (by omega))
  have hc : cnt g = cnt xs := by unfold cnt; rw [hgt _ _ (by omega) (by omega)]
  have hlw : low g = low xs := by unfold low; rw [hgt _ _ (by omega) (by omega)]
  have ho : ∀ t, t < cnt xs → off g t = off xs t := fun t ht => by unfold off; rw [hgt _ _ (by omega) (by omega)]
  have hL : ∀ t, len g t = len xs t := fun t => by
    by_cases h1 : t < cnt xs
    · rw [len_in (by omega), len_in h1]; unfold lenR; rw [hgt _ _ (by omega) (by omega)]
    · rw [len_far (xs := g) (by omega), len_far (xs := xs) (by omega)]
  refine ⟨⟨⟨hgl, by omega, by rw [hc, usedTo_congr _ (fun t _ => hL t)]; exact W.w0.room, ?_, ?_, ?_, ?_, ?_⟩, by rw [hc]; intro h; rw [hL]; exact W.last h⟩, hc, hlw, ?_, hge⟩
  · intro t ht h
    rw [hc] at ht ⊢
    rw [hL t] at h ⊢
    rw [ho t ht]
    exact W.w0.ins t ht h
  · intro t ht h
    rw [hc] at ht
    rw [hL t] at h
    rw [ho t ht]
    exact W.w0.nil t ht h
  · intro t u ht hu' hne h1 h2
    rw [hc] at ht hu'
    rw [hL t] at h1 ⊢
    rw [hL u] at h2 ⊢
    rw [ho t ht, ho u hu']
    exact W.w0.apart t u ht hu' hne h1 h2
  · rw [hc, hlw, W.w0.low]
    exact (lowTo_congr _ (fun t _ => hL t) (fun t ht _ => ho t ht)).symm
  · intro i hi h
    rw [hc] at hi h
    rw [hge i (by omega)]
    refine W.w0.noug i hi (fun t ht h2 => ?_)
    have := h t ht (by rw [hL t]; exact h2)
    rw [hL t, ho t ht] at this
    exact this
  · intro t
    refine ⟨hL t, ?_⟩
    by_cases ht : t < cnt xs
    · by_cases e : len xs t = 0
      · rw [dat_nil e, dat_nil (by rw [hL t]; exact e)]
      · have h1 := W.w0.ins t ht e
        refine dat_eq hx hgl (hL t) h1.2.1 (by rw [ho t ht]; exact h1.2.1) (fun i hi => ?_)
        rw [ho t ht, hge _ (by omega)]
    · rw [dat_nil (len_far (xs := g) (by omega)), dat_nil (len_far (xs := xs) (by omega))]
/-- two pages that say the same of their slots and have the same heads are the same bytes where both have none -/
theorem none_same {xs ys : List Int} (W : Wf xs) (W' : Wf ys) (hc : cnt xs = 0) (hc' : cnt ys = 0) (h : ∀ i, i < 12 → xs.getD i 0 = ys.getD i 0) (hb : Bytes xs) (hb' : Bytes ys) : xs = ys := by
  have hx := W.w0.len
  have hy := W'.w0.len
  apply list_getD (by omega)
  intro i hi
  by_cases h1 : i < 12
  · exact h i h1
  · by_cases h2 : i < 14
    · have b1 := two_b hb 12 (by omega)
      have b2 := two_b hb' 12 (by omega)
      unfold cnt at hc hc'
      rw [nought_gt hb (a := 12) (by omega) (by omega) i (by omega) (by omega), nought_gt hb' (a := 12) (by omega) (by omega) i (by omega) (by omega)]
    · by_cases h3 : i < 16
      · have l1 := W.w0.low
        have l2 := W'.w0.low
        rw [hc] at l1
        rw [hc'] at l2
        have b1 := two_b hb 14 (by omega)
        have b2 := two_b hb' 14 (by omega)
        have e : gt xs 14 2 = gt ys 14 2 := by
          have e1 : low xs = low ys := by rw [l1, l2]; rfl
          unfold low at e1; omega
        have p1 := Codec.put_at xs hb 14 2 (by decide) (by omega)
        have p2 := Codec.put_at ys hb' 14 2 (by decide) (by omega)
        have e' : Codec.at_ xs 14 2 = Codec.at_ ys 14 2 := e
        rw [e', p2] at p1
        have q1 := seg_getD xs 14 2 (i - 14) (by omega)
        have q2 := seg_getD ys 14 2 (i - 14) (by omega)
        rw [← p1, q2, show 14 + (i - 14) = i by omega] at q1
        exact q1.symm
      · rw [W.w0.noug i (by omega) (fun t ht => by omega), W'.w0.noug i (by omega) (fun t ht => by omega)]
end Go.Proofs.Ythbbnebanmpcjaa.Pg
