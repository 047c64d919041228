import Derived.Test.YthbbnebanmpcjaaPgM
/- A page's bytes behind gather: pure. -/
namespace Go.Proofs.Ythbbnebanmpcjaa.Pg
open Go.Proofs.Mem
set_option linter.unusedVariables false
set_option linter.unusedSimpArgs false
theorem place_getD {xs : List Int} {s o l : Nat} (h : 20 + 4 * s ≤ xs.length) (i : Nat) (hd : i < 16 + 4 * s ∨ 20 + 4 * s ≤ i) : (place xs s o l).getD i 0 = xs.getD i 0 := by
  unfold place
  rw [setN_getD_far (by rw [setN_len (by omega)]; omega) i (by omega), setN_getD_far (by omega) i (by omega)]
theorem lay_getD {xs ys : List Int} {s : Nat} (hx : xs.length = 448) (hs : s < 107) (hl : ys.length ≤ low xs) (hlow : low xs ≤ 448) (i : Nat) (h14 : i < 14 ∨ 16 ≤ i) (hsl : i < 16 + 4 * s ∨ 20 + 4 * s ≤ i) :
    (layP xs s ys).getD i 0 = if low xs - ys.length ≤ i ∧ i < low xs then ys.getD (i - (low xs - ys.length)) 0 else xs.getD i 0 := by
  unfold layP
  generalize ha : low xs - ys.length = a
  have h1 : (splice xs a ys).length = 448 := by rw [splice_len (by omega)]; exact hx
  have h2 : (place (splice xs a ys) s a ys.length).length = 448 := by rw [place_len (by omega)]; exact h1
  rw [setN_getD_far (by omega) i (by omega), place_getD (by omega) i hsl, splice_getD (by omega), show a + ys.length = low xs by omega]
theorem gt_getD {xs ys : List Int} {a n : Nat} (hl : a + n ≤ xs.length) (hl' : a + n ≤ ys.length) (h : ∀ i, a ≤ i → i < a + n → xs.getD i 0 = ys.getD i 0) : gt xs a n = gt ys a n :=
  gt_eq hl hl' (fun i hi => h (a + i) (by omega) (by omega))
theorem dat_getD {xs : List Int} {s i : Nat} (hi : i < len xs s) : (dat xs s).getD i 0 = xs.getD (off xs s + i) 0 := by
  unfold dat
  exact seg_getD _ _ _ _ hi
/-- what stands when the first n slots of old are laid again, on z -/
structure Gat (old : List Int) (C n : Nat) (g : List Int) : Prop where
  len : g.length = 448
  low : low g = 448 - usedTo old n
  head : ∀ i, i < 14 → g.getD i 0 = old.getD i 0
  lens : ∀ s, s < C → lenR g s = lenR old s
  rest : ∀ s, s < C → (n ≤ s ∨ Pg.len old s = 0) → off g s = off old s
  offs : ∀ s, s < n → Pg.len old s ≠ 0 → off g s = 448 - usedTo old (s + 1)
  dats : ∀ s, s < n → Pg.len old s ≠ 0 → ∀ i, i < Pg.len old s → g.getD (448 - usedTo old (s + 1) + i) 0 = old.getD (off old s + i) 0
  noug : ∀ i, 16 + 4 * C ≤ i → i < 448 - usedTo old n → g.getD i 0 = 0
theorem Gat.step {old g : List Int} {C n : Nat} (G : Gat old C n g) (ho : old.length = 448) (hn : n < C) (hC : C ≤ 40) (hCn : C = cnt old) (hw : off old n + Pg.len old n ≤ 448) (hu : 16 + 4 * C + usedTo old C ≤ 448) :
    Gat old C (n + 1) (if Pg.len old n = 0 then g else layP g n (dat old n)) := by
  have hm := usedTo_mono old (show n + 1 ≤ C by omega)
  have hm2 := usedTo_succ old n
  have hln : Pg.len old n = lenR old n := by unfold Pg.len; rw [if_pos (by omega)]
  by_cases h0 : Pg.len old n = 0
  · rw [if_pos h0]
    rw [h0, Nat.add_zero] at hm2
    exact ⟨G.len, by rw [hm2]; exact G.low, G.head, G.lens, fun s hs h => G.rest s hs (by
        rcases h with h | h
        · exact Or.inl (by omega)
        · exact Or.inr h), fun s hs h => G.offs s (by
        rcases Nat.lt_succ_iff_lt_or_eq.mp hs with h' | h'
        · exact h'
        · subst h'; exact absurd h0 h) h, fun s hs h => G.dats s (by
        rcases Nat.lt_succ_iff_lt_or_eq.mp hs with h' | h'
        · exact h'
        · subst h'; exact absurd h0 h) h, by rw [hm2]; exact G.noug⟩
  · rw [if_neg h0]
    have hd := dat_len ho hw
    have hl := G.low
    have hb1 : (dat old n).length ≤ Pg.low g := by rw [hd, hl]; omega
    have hb2 : Pg.low g ≤ 448 := by rw [hl]; omega
    have hlay := lay_off G.len (show n < 107 by omega) hb1 hb2
    rw [hl, hd] at hlay
    have hge : ∀ i, (i < 14 ∨ 16 ≤ i) → (i < 16 + 4 * n ∨ 20 + 4 * n ≤ i) → (layP g n (dat old n)).getD i 0 = if 448 - usedTo old (n + 1) ≤ i ∧ i < 448 - usedTo old n then old.getD (off old n + (i - (448 - usedTo old (n + 1)))) 0 else g.getD i 0 := by
      intro i h1 h2
      rw [lay_getD G.len (by omega) hb1 hb2 i h1 h2, hl, hd, show 448 - usedTo old n - Pg.len old n = 448 - usedTo old (n + 1) by omega]
      by_cases hh : 448 - usedTo old (n + 1) ≤ i ∧ i < 448 - usedTo old n
      · rw [if_pos hh, if_pos hh, dat_getD (by omega)]
      · rw [if_neg hh, if_neg hh]
    have hgt : ∀ a m, a + m ≤ 448 → (a + m ≤ 14 ∨ 16 ≤ a) → (a + m ≤ 16 + 4 * n ∨ 20 + 4 * n ≤ a) → a + m ≤ 448 - usedTo old (n + 1) → gt (layP g n (dat old n)) a m = gt g a m := by
      intro a m h1 h2 h3 h4
      exact lay_gt G.len (by omega) hb1 hb2 h1 h2 h3 (Or.inl (by rw [hl, hd]; omega))
    exact ⟨lay_len G.len (by omega) hb1 hb2, by rw [lay_low G.len (by omega) hb1 hb2, hl, hd, hm2]; omega, fun i hi => by
        rw [hge i (by omega) (by omega), if_neg (by omega)]
        exact G.head i hi, fun s hs => by
        by_cases e : s = n
        · subst e; rw [hlay.2, hln]
        · have : lenR (layP g n (dat old n)) s = lenR g s := by unfold lenR; rw [hgt _ _ (by omega) (by omega) (by omega) (by omega)]
          rw [this]; exact G.lens s hs, fun s hs h => by
        have e : s ≠ n := by
          rintro rfl
          rcases h with h | h
          · omega
          · exact h0 h
        have : off (layP g n (dat old n)) s = off g s := by unfold off; rw [hgt _ _ (by omega) (by omega) (by omega) (by omega)]
        rw [this]
        exact G.rest s hs (by
          rcases h with h | h
          · exact Or.inl (by omega)
          · exact Or.inr h), fun s hs h => by
        by_cases e : s = n
        · subst e; rw [hlay.1]; omega
        · have : off (layP g n (dat old n)) s = off g s := by unfold off; rw [hgt _ _ (by omega) (by omega) (by omega) (by omega)]
          rw [this]; exact G.offs s (by omega) h, fun s hs h i hi => by
        have hms := usedTo_succ old s
        by_cases e : s = n
        · subst e
          rw [hge _ (by omega) (by omega), if_pos (by omega)]
          congr 1; omega
        · have hms2 := usedTo_mono old (show s + 1 ≤ n by omega)
          rw [hge _ (by omega) (by omega), if_neg (by omega)]
          exact G.dats s (by omega) h i hi, fun i h1 h2 => by
        rw [hge i (by omega) (by omega), if_neg (by omega)]
        exact G.noug i h1 (by omega)⟩
theorem gat_to {old z : List Int} {C : Nat} (ho : old.length = 448) (hC : C ≤ 40) (hCn : C = cnt old) (hw : ∀ s, s < C → off old s + Pg.len old s ≤ 448) (hu : 16 + 4 * C + usedTo old C ≤ 448) (G : Gat old C 0 z) :
    ∀ n, n ≤ C → Gat old C n (gatherTo old z n) := by
  intro n
  induction n with
  | zero => intro _; exact G
  | succ n ih =>
    intro hn
    unfold gatherTo
    exact (ih (by omega)).step ho (by omega) hC hCn (hw n (by omega)) hu
theorem gat_zero {xs : List Int} (hx : xs.length = 448) (hC : cnt xs ≤ 40) : Gat xs (cnt xs) 0 (setN (splice xs (16 + 4 * cnt xs) (List.replicate (448 - (16 + 4 * cnt xs)) 0)) 14 2 448) := by
  have hr : (List.replicate (448 - (16 + 4 * cnt xs)) (0 : Int)).length = 448 - (16 + 4 * cnt xs) := List.length_replicate
  have h1 : (splice xs (16 + 4 * cnt xs) (List.replicate (448 - (16 + 4 * cnt xs)) 0)).length = 448 := by rw [splice_len (by rw [hr]; omega)]; exact hx
  have h2 : (setN (splice xs (16 + 4 * cnt xs) (List.replicate (448 - (16 + 4 * cnt xs)) 0)) 14 2 448).length = 448 := by rw [setN_len (by omega)]; exact h1
  have hg : ∀ i, (i < 14 ∨ 16 ≤ i) → (setN (splice xs (16 + 4 * cnt xs) (List.replicate (448 - (16 + 4 * cnt xs)) 0)) 14 2 448).getD i 0 = if 16 + 4 * cnt xs ≤ i then 0 else xs.getD i 0 := by
    intro i hi
    rw [setN_getD_far (by omega) i (by omega), splice_getD (by rw [hr]; omega), hr]
    by_cases e : 16 + 4 * cnt xs ≤ i
    · rw [if_pos e]
      by_cases e2 : i < 448
      · rw [if_pos ⟨e, by omega⟩]
        rw [List.getD_eq_getElem?_getD, List.getElem?_replicate]
        split <;> rfl
      · rw [if_neg (by omega), List.getD_eq_getElem?_getD, List.getElem?_eq_none (by omega)]; rfl
    · rw [if_neg e, if_neg (by omega)]
  refine ⟨h2, ?_, fun i hi => by rw [hg i (by omega), if_neg (by omega)], fun s hs => ?_, fun s hs _ => ?_, fun s hs => absurd hs (by omega), fun s hs => absurd hs (by omega), fun i h3 _ => by rw [hg i (by omega), if_pos h3]⟩
  · have e : gt (setN (splice xs (16 + 4 * cnt xs) (List.replicate (448 - (16 + 4 * cnt xs)) 0)) 14 2 448) 14 2 = 448 := gt2 (xs := splice xs (16 + 4 * cnt xs) (List.replicate (448 - (16 + 4 * cnt xs)) 0)) (a := 14) 448 (by omega) (by decide)
    unfold low
    rw [e]; rfl
  · unfold lenR
    rw [gt_getD (ys := xs) (by omega) (by omega) (fun i h3 h4 => by rw [hg i (by omega), if_neg (by omega)])]
  · unfold off
    rw [gt_getD (ys := xs) (by omega) (by omega) (fun i h3 h4 => by rw [hg i (by omega), if_neg (by omega)])]
/-- gather -/
theorem gat_gather {xs : List Int} (hx : xs.length = 448) (hC : cnt xs ≤ 40) (hw : ∀ s, s < cnt xs → off xs s + Pg.len xs s ≤ 448) (hu : 16 + 4 * cnt xs + usedTo xs (cnt xs) ≤ 448) : Gat xs (cnt xs) (cnt xs) (gatherP xs) :=
  gat_to hx hC rfl hw hu (gat_zero hx hC) (cnt xs) (Nat.le_refl _)
/-- what is above low behind gather is some slot's -/
theorem used_cover (old : List Int) : ∀ n j, j < usedTo old n → ∃ s, s < n ∧ Pg.len old s ≠ 0 ∧ usedTo old s ≤ j ∧ j < usedTo old (s + 1) := by
  intro n
  induction n with
  | zero => intro j hj; exact absurd hj (by simp [usedTo])
  | succ n ih =>
    intro j hj
    by_cases e : j < usedTo old n
    · obtain ⟨s, h1, h2⟩ := ih j e
      exact ⟨s, by omega, h2⟩
    · have := usedTo_succ old n
      exact ⟨n, by omega, by omega, by omega, hj⟩
end Go.Proofs.Ythbbnebanmpcjaa.Pg
