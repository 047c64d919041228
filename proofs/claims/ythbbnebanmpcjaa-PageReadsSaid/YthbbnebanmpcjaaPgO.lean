import Derived.Test.YthbbnebanmpcjaaPgN
/- A page that is well made: pure. -/
namespace Go.Proofs.Ythbbnebanmpcjaa.Pg
open Go.Proofs.Mem
set_option linter.unusedVariables false
set_option linter.unusedSimpArgs false
theorem lowTo_congr {xs ys : List Int} : ∀ n, (∀ t, t < n → len xs t = len ys t) → (∀ t, t < n → len xs t ≠ 0 → off xs t = off ys t) → lowTo xs n = lowTo ys n := by
  intro n
  induction n with
  | zero => intros; rfl
  | succ n ih =>
    intro h1 h2
    have h3 := ih (fun t ht => h1 t (by omega)) (fun t ht => h2 t (by omega))
    unfold lowTo
    rw [← h1 n (by omega), h3]
    by_cases e : len xs n = 0
    · rw [if_pos e, if_pos e]
    · rw [if_neg e, if_neg e, h2 n (by omega) e]
theorem usedTo_congr {xs ys : List Int} : ∀ n, (∀ t, t < n → len xs t = len ys t) → usedTo xs n = usedTo ys n := by
  intro n
  induction n with
  | zero => intros; rfl
  | succ n ih =>
    intro h1
    rw [usedTo_succ, usedTo_succ, ih (fun t ht => h1 t (by omega)), h1 n (by omega)]
theorem lowTo_off {xs : List Int} : ∀ n t, t < n → len xs t ≠ 0 → lowTo xs n ≤ off xs t := by
  intro n
  induction n with
  | zero => intro t ht; omega
  | succ n ih =>
    intro t ht h0
    unfold lowTo
    by_cases e : t = n
    · subst e; rw [if_neg h0]; exact Nat.min_le_right _ _
    · have := ih t (by omega) h0
      split
      · exact this
      · exact Nat.le_trans (Nat.min_le_left _ _) this
theorem lowTo_ge {xs : List Int} {b : Nat} (hb : b ≤ 448) : ∀ n, (∀ t, t < n → len xs t ≠ 0 → b ≤ off xs t) → b ≤ lowTo xs n := by
  intro n
  induction n with
  | zero => intro _; exact hb
  | succ n ih =>
    intro h
    have h1 := ih (fun t ht => h t (by omega))
    unfold lowTo
    by_cases e : len xs n = 0
    · rw [if_pos e]; exact h1
    · rw [if_neg e]; exact Nat.le_min.mpr ⟨h1, h n (by omega) e⟩
theorem usedTo_one {xs ys : List Int} {s : Nat} : ∀ n, (∀ t, t < n → t ≠ s → len xs t = len ys t) → s < n → usedTo xs n + len ys s = usedTo ys n + len xs s := by
  intro n
  induction n with
  | zero => intro _ h; omega
  | succ n ih =>
    intro h hs
    rw [usedTo_succ, usedTo_succ]
    by_cases e : s = n
    · subst e
      rw [usedTo_congr s (fun t ht => h t (by omega) (by omega))]; omega
    · have h1 := ih (fun t ht h' => h t (by omega) h') (by omega)
      have h2 := h n (by omega) (by omega)
      omega
/-- well made, but for the last slot, which may be empty -/
structure Wf0 (xs : List Int) : Prop where
  len : xs.length = 448
  cnt : cnt xs ≤ 40
  room : 16 + 4 * Pg.cnt xs + usedTo xs (Pg.cnt xs) ≤ 448
  ins : ∀ s, s < Pg.cnt xs → Pg.len xs s ≠ 0 → 16 + 4 * Pg.cnt xs ≤ off xs s ∧ off xs s + Pg.len xs s ≤ 448 ∧ Pg.len xs s ≤ 64
  nil : ∀ s, s < Pg.cnt xs → Pg.len xs s = 0 → off xs s = 0
  apart : ∀ s t, s < Pg.cnt xs → t < Pg.cnt xs → s ≠ t → Pg.len xs s ≠ 0 → Pg.len xs t ≠ 0 → off xs s + Pg.len xs s ≤ off xs t ∨ off xs t + Pg.len xs t ≤ off xs s
  low : low xs = lowTo xs (Pg.cnt xs)
  noug : ∀ i, 16 + 4 * Pg.cnt xs ≤ i → (∀ s, s < Pg.cnt xs → Pg.len xs s ≠ 0 → i < off xs s ∨ off xs s + Pg.len xs s ≤ i) → xs.getD i 0 = 0
structure Wf (xs : List Int) : Prop where
  w0 : Wf0 xs
  last : Pg.cnt xs ≠ 0 → Pg.len xs (Pg.cnt xs - 1) ≠ 0
/-- the other slots are as they were -/
def Others (xs ys : List Int) (s : Nat) : Prop := ∀ t, t ≠ s → len ys t = len xs t ∧ dat ys t = dat xs t
theorem Wf0.fits {xs : List Int} (W : Wf0 xs) (s : Nat) (hs : s < Pg.cnt xs) : off xs s + Pg.len xs s ≤ 448 := by
  by_cases e : Pg.len xs s = 0
  · rw [e, W.nil s hs e]; omega
  · exact (W.ins s hs e).2.1
theorem len_far {xs : List Int} {s : Nat} (h : cnt xs ≤ s) : len xs s = 0 := by unfold len; rw [if_neg (by omega)]
theorem len_in {xs : List Int} {s : Nat} (h : s < cnt xs) : len xs s = lenR xs s := by unfold len; rw [if_pos h]
theorem dat_nil {xs : List Int} {s : Nat} (h : len xs s = 0) : dat xs s = [] := by unfold dat; rw [h]; rfl
theorem Wf0.lowle {xs : List Int} (W : Wf0 xs) : 16 + 4 * Pg.cnt xs ≤ Pg.low xs ∧ Pg.low xs ≤ 448 := by
  rw [W.low]
  exact ⟨lowTo_ge (by have := W.cnt; omega) _ (fun t ht h0 => (W.ins t ht h0).1), lowTo_le _ _⟩
theorem dat_eq {xs ys : List Int} {s : Nat} (hx : xs.length = 448) (hy : ys.length = 448) (hl : len ys s = len xs s) (hw : off xs s + len xs s ≤ 448) (hw2 : off ys s + len xs s ≤ 448) (h : ∀ i, i < len xs s → ys.getD (off ys s + i) 0 = xs.getD (off xs s + i) 0) : dat ys s = dat xs s := by
  have l1 := dat_len hx hw
  have l2 := dat_len hy (s := s) (by omega)
  apply list_getD (by omega)
  intro i hi
  rw [l2, hl] at hi
  rw [dat_getD (by omega), dat_getD (by omega)]
  exact h i hi
/-- a slot's data are taken away -/
theorem empty_wf {xs : List Int} (W : Wf0 xs) {s : Nat} (hs : s < cnt xs) (h0 : len xs s ≠ 0) :
    Wf0 (emptyP xs s) ∧ cnt (emptyP xs s) = cnt xs ∧ len (emptyP xs s) s = 0 ∧ Others xs (emptyP xs s) s ∧ (∀ i, i < 12 → (emptyP xs s).getD i 0 = xs.getD i 0) := by
  have hC := W.cnt
  have hin := W.ins s hs h0
  have hln : ∀ t, t < cnt xs → len xs t = lenR xs t := fun t ht => len_in ht
  have hr : (List.replicate (len xs s) (0 : Int)).length = len xs s := List.length_replicate
  have e1 : (splice xs (off xs s) (List.replicate (len xs s) 0)).length = 448 := by rw [splice_len (by rw [hr, W.len]; omega)]; exact W.len
  obtain ⟨zs, hzs⟩ : ∃ zs, zs = place (splice xs (off xs s) (List.replicate (len xs s) 0)) s 0 0 := ⟨_, rfl⟩
  have z1 : zs.length = 448 := by rw [hzs, place_len (by omega)]; exact e1
  obtain ⟨L, hL⟩ : ∃ L, L = lowTo zs (min (cnt zs) 40) := ⟨_, rfl⟩
  have hE : emptyP xs s = setN zs 14 2 (L : Int) := by unfold emptyP; rw [hL, hzs]
  have hLle : L ≤ 448 := by rw [hL]; exact lowTo_le _ _
  have E1 : (emptyP xs s).length = 448 := by rw [hE, setN_len (by omega)]; exact z1
  have zg : ∀ i, (i < 16 + 4 * s ∨ 20 + 4 * s ≤ i) → zs.getD i 0 = if off xs s ≤ i ∧ i < off xs s + len xs s then 0 else xs.getD i 0 := by
    intro i hi
    rw [hzs, place_getD (by omega) i hi, splice_getD (by rw [hr, W.len]; omega), hr]
    by_cases e : off xs s ≤ i ∧ i < off xs s + len xs s
    · rw [if_pos e, if_pos e, List.getD_eq_getElem?_getD, List.getElem?_replicate]
      split <;> rfl
    · rw [if_neg e, if_neg e]
  have Eg : ∀ i, (i < 14 ∨ 16 ≤ i) → (emptyP xs s).getD i 0 = zs.getD i 0 := by
    intro i hi
    rw [hE, setN_getD_far (by omega) i (by omega)]
  have zgt : ∀ a m, a + m ≤ 16 + 4 * cnt xs → (a + m ≤ 16 + 4 * s ∨ 20 + 4 * s ≤ a) → gt zs a m = gt xs a m := by
    intro a m h1 h2
    exact gt_getD (by omega) (by have := W.len; omega) (fun i h3 h4 => by rw [zg i (by omega), if_neg (by omega)])
  have Egt : ∀ a m, a + m ≤ 448 → (a + m ≤ 14 ∨ 16 ≤ a) → gt (emptyP xs s) a m = gt zs a m := by
    intro a m h1 h2
    exact gt_getD (by omega) (by omega) (fun i h3 h4 => Eg i (by omega))
  have zc : cnt zs = cnt xs := by unfold cnt; rw [zgt _ _ (by omega) (by omega)]
  have Ec : cnt (emptyP xs s) = cnt xs := by rw [← zc]; unfold cnt; rw [Egt _ _ (by omega) (by omega)]
  have zo : ∀ t, t < cnt xs → t ≠ s → off zs t = off xs t := fun t ht hne => by unfold off; rw [zgt _ _ (by omega) (by omega)]
  have zl : ∀ t, t < cnt xs → t ≠ s → lenR zs t = lenR xs t := fun t ht hne => by unfold lenR; rw [zgt _ _ (by omega) (by omega)]
  have zso : off zs s = 0 := by rw [hzs]; exact place_off (by omega) (by decide)
  have zsl : lenR zs s = 0 := by rw [hzs]; exact place_lenR (by omega) (by decide)
  have Eo : ∀ t, t < cnt xs → off (emptyP xs s) t = off zs t := fun t ht => by unfold off; rw [Egt _ _ (by omega) (by omega)]
  have El : ∀ t, t < cnt xs → lenR (emptyP xs s) t = lenR zs t := fun t ht => by unfold lenR; rw [Egt _ _ (by omega) (by omega)]
  have El2 : ∀ t, t < cnt xs → t ≠ s → len (emptyP xs s) t = len xs t := fun t ht hne => by rw [len_in (by omega), len_in ht, El t ht, zl t ht hne]
  have Es : len (emptyP xs s) s = 0 := by rw [len_in (by omega), El s hs, zsl]
  have Eo2 : ∀ t, t < cnt xs → t ≠ s → off (emptyP xs s) t = off xs t := fun t ht hne => by rw [Eo t ht, zo t ht hne]
  have Elow : low (emptyP xs s) = lowTo (emptyP xs s) (cnt xs) := by
    have e : low (emptyP xs s) = L := by
      unfold low
      rw [hE, gt2 L (by omega) (by omega)]; omega
    rw [e, hL, zc, Nat.min_eq_left hC]
    exact lowTo_congr _ (fun t ht => by rw [len_in (by omega), len_in (by omega), El t ht]) (fun t ht _ => (Eo t ht).symm)
  have hoth : Others xs (emptyP xs s) s := by
    intro t hne
    by_cases ht : t < cnt xs
    · refine ⟨El2 t ht hne, ?_⟩
      by_cases e : len xs t = 0
      · rw [dat_nil e, dat_nil (by rw [El2 t ht hne]; exact e)]
      · have h1 := W.ins t ht e
        have h2 := W.apart s t hs ht (Ne.symm hne) h0 e
        refine dat_eq W.len E1 (El2 t ht hne) h1.2.1 (by rw [Eo2 t ht hne]; exact h1.2.1) (fun i hi => ?_)
        rw [Eo2 t ht hne, Eg _ (by omega), zg _ (by omega), if_neg (by omega)]
    · rw [len_far (by omega), dat_nil (len_far (xs := emptyP xs s) (by omega)), dat_nil (len_far (xs := xs) (by omega)), len_far (by omega)]
      exact ⟨rfl, rfl⟩
  refine ⟨⟨E1, by omega, ?_, ?_, ?_, ?_, by rw [Ec]; exact Elow, ?_⟩, Ec, Es, hoth, fun i hi => by rw [Eg i (by omega), zg i (by omega), if_neg (by omega)]⟩
  · have := usedTo_one (xs := emptyP xs s) (ys := xs) (s := s) (cnt xs) (fun t ht hne => El2 t ht hne) hs
    have := W.room
    rw [Ec]; omega
  · intro t ht h1
    rw [Ec] at ht ⊢
    have hne : t ≠ s := by rintro rfl; exact h1 Es
    rw [El2 t ht hne] at h1 ⊢
    rw [Eo2 t ht hne]
    exact W.ins t ht h1
  · intro t ht h1
    rw [Ec] at ht
    by_cases hne : t = s
    · subst hne; rw [Eo t ht, zso]
    · rw [Eo2 t ht hne]
      rw [El2 t ht hne] at h1
      exact W.nil t ht h1
  · intro t u ht hu hne h1 h2
    rw [Ec] at ht hu
    have e1 : t ≠ s := by rintro rfl; exact h1 Es
    have e2 : u ≠ s := by rintro rfl; exact h2 Es
    rw [El2 t ht e1] at h1 ⊢
    rw [El2 u hu e2] at h2 ⊢
    rw [Eo2 t ht e1, Eo2 u hu e2]
    exact W.apart t u ht hu hne h1 h2
  · intro i hi h
    rw [Ec] at hi h
    rw [Eg i (by omega), zg i (by omega)]
    split
    · rfl
    · rename_i hn
      refine W.noug i hi (fun t ht h1 => ?_)
      by_cases hne : t = s
      · subst hne; omega
      · have := h t ht (by rw [El2 t ht hne]; exact h1)
        rw [El2 t ht hne, Eo2 t ht hne] at this
        exact this
end Go.Proofs.Ythbbnebanmpcjaa.Pg
