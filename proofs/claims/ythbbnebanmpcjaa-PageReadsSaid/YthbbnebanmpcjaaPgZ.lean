import Derived.Test.YthbbnebanmpcjaaPgY
/- Pure: the slots of a page, counted (PageFits), emptied (PageEmpty). -/
namespace Go.Proofs.Ythbbnebanmpcjaa.Pg
open Go.Proofs.Mem
set_option linter.unusedVariables false
set_option linter.unusedSimpArgs false
theorem slotsTo_mem {xs : List Int} {x : Int} : ∀ n, x ∈ slotsTo xs n ↔ ∃ t : Nat, x = t ∧ t < n ∧ len xs t ≠ 0 := by
  intro n
  induction n with
  | zero => simp [slotsTo]
  | succ n ih =>
    rw [slotsTo_succ]
    by_cases e : len xs n = 0
    · rw [if_pos e, ih]
      constructor
      · rintro ⟨t, h1, h2, h3⟩; exact ⟨t, h1, by omega, h3⟩
      · rintro ⟨t, h1, h2, h3⟩
        refine ⟨t, h1, ?_, h3⟩
        rcases Nat.lt_succ_iff_lt_or_eq.mp h2 with h | h
        · exact h
        · subst h; exact absurd e h3
    · rw [if_neg e, List.mem_append, ih, List.mem_singleton]
      constructor
      · rintro (⟨t, h1, h2, h3⟩ | h)
        · exact ⟨t, h1, by omega, h3⟩
        · exact ⟨n, h, by omega, e⟩
      · rintro ⟨t, h1, h2, h3⟩
        rcases Nat.lt_succ_iff_lt_or_eq.mp h2 with h | h
        · exact .inl ⟨t, h1, h, h3⟩
        · subst h; exact .inr h1
/-- how many bytes the slots of l hold, but for slot k -/
def fU (xs : List Int) (k : Nat) (l : List Int) : Nat := (l.map (fun s => if s = (k : Int) then 0 else len xs s.toNat)).sum
/-- how many slots there will be -/
def fC (k : Nat) (l : List Int) : Int := l.foldl (fun c s => max c (s + 1)) ((k : Int) + 1)
theorem fU_snoc (xs : List Int) (k : Nat) (l : List Int) (s : Int) : fU xs k (l ++ [s]) = fU xs k l + (if s = (k : Int) then 0 else len xs s.toNat) := by unfold fU; rw [List.map_append, List.sum_append]; simp
theorem fC_snoc (k : Nat) (l : List Int) (s : Int) : fC k (l ++ [s]) = max (fC k l) (s + 1) := by unfold fC; rw [List.foldl_append]; rfl
theorem fU_slots (xs : List Int) (k : Nat) : ∀ n, fU xs k (slotsTo xs n) + (if k < n then len xs k else 0) = usedTo xs n := by
  intro n
  induction n with
  | zero => simp [fU, slotsTo, usedTo]
  | succ n ih =>
    rw [slotsTo_succ, usedTo_succ]
    by_cases e : len xs n = 0
    · rw [if_pos e, e]
      by_cases e2 : k = n
      · subst e2
        rw [if_neg (by omega)] at ih
        rw [if_pos (by omega), e]; omega
      · by_cases e3 : k < n
        · rw [if_pos e3] at ih
          rw [if_pos (by omega)]; omega
        · rw [if_neg e3] at ih
          rw [if_neg (by omega)]; omega
    · rw [if_neg e, fU_snoc]
      by_cases e2 : k = n
      · subst e2
        rw [if_neg (by omega)] at ih
        rw [if_pos (by omega), if_pos (by omega)]; omega
      · rw [if_neg (by omega : ¬ (n : Int) = (k : Int)), show ((n : Int)).toNat = n from rfl]
        by_cases e3 : k < n
        · rw [if_pos e3] at ih
          rw [if_pos (by omega)]; omega
        · rw [if_neg e3] at ih
          rw [if_neg (by omega)]; omega
theorem trim_succ (xs : List Int) (n : Nat) : trim xs (n + 1) = if len xs n = 0 then trim xs n else n + 1 := rfl
theorem fC_slots (xs : List Int) (k : Nat) : ∀ n, fC k (slotsTo xs n) = ((max (k + 1) (trim xs n) : Nat) : Int) := by
  intro n
  induction n with
  | zero => show ((k : Int) + 1) = ((max (k + 1) 0 : Nat) : Int); omega
  | succ n ih =>
    rw [slotsTo_succ, trim_succ]
    have := trim_le xs n
    by_cases e : len xs n = 0
    · rw [if_pos e, if_pos e]; exact ih
    · rw [if_neg e, if_neg e, fC_snoc, ih]; omega
theorem Wf.trim {xs : List Int} (W : Wf xs) : trim xs (cnt xs) = cnt xs := by
  cases h : cnt xs with
  | zero => rfl
  | succ n =>
    have := W.last (by omega)
    rw [h, show n + 1 - 1 = n from rfl] at this
    rw [trim_succ, if_neg this]
/-- a page's slots, counted -/
theorem fits_count {xs : List Int} (W : Wf xs) (k : Nat) : fC k (slotsTo xs (cnt xs)) = (nSet xs k : Int) ∧ fU xs k (slotsTo xs (cnt xs)) + len xs k = usedTo xs (cnt xs) := by
  constructor
  · rw [fC_slots, W.trim]; unfold nSet
    omega
  · have := fU_slots xs k (cnt xs)
    by_cases e : k < cnt xs
    · rw [if_pos e] at this; exact this
    · rw [if_neg e] at this
      rw [len_far (by omega)]; exact this
theorem fits_room {xs : List Int} (W : Wf xs) (k n : Nat) : roomB xs k n = decide (16 + 4 * fC k (slotsTo xs (cnt xs)) + (fU xs k (slotsTo xs (cnt xs)) : Int) + (n : Int) ≤ 448) := by
  obtain ⟨h1, h2⟩ := fits_count W k
  unfold roomB
  rw [Bool.eq_iff_iff, decide_eq_true_iff, decide_eq_true_iff, h1]
  omega
/-- slots are emptied one after another -/
def clrTo (xs : List Int) (l : List Int) : List Int := l.foldl clearX xs
theorem clrTo_snoc (xs : List Int) (l : List Int) (s : Int) : clrTo xs (l ++ [s]) = clearX (clrTo xs l) s := by unfold clrTo; rw [List.foldl_append]; rfl
theorem clearX_kept {xs : List Int} (W : Wf xs) (hb : Bytes xs) (N : Int) : Wf (clearX xs N) ∧ Bytes (clearX xs N) ∧ (∀ i, i < 12 → (clearX xs N).getD i 0 = xs.getD i 0) ∧ (∀ t : Nat, len (clearX xs N) t = if (t : Int) = N then 0 else len xs t) := by
  unfold clearX
  by_cases h : there xs N = true
  · rw [if_pos h]
    have h' := of_decide_eq_true h
    have c := clear_wf W hb h'.2
    refine ⟨c.1, clearP_bytes hb, c.2.2.2.2.1, fun t => ?_⟩
    by_cases e : (t : Int) = N
    · rw [if_pos e, show t = N.toNat by omega]; exact c.2.1
    · rw [if_neg e]; exact (c.2.2.2.1 t (by omega)).1
  · rw [if_neg h]
    refine ⟨W, hb, fun _ _ => rfl, fun t => ?_⟩
    by_cases e : (t : Int) = N
    · rw [if_pos e]
      have h' := of_decide_eq_false (Bool.eq_false_iff.2 h)
      rcases Nat.eq_zero_or_pos (len xs t) with e0 | e0
      · exact e0
      · exact absurd ⟨by omega, by rw [show N.toNat = t by omega]; omega⟩ h'
    · rw [if_neg e]
theorem clrTo_kept {xs : List Int} (W : Wf xs) (hb : Bytes xs) (l : List Int) : Wf (clrTo xs l) ∧ Bytes (clrTo xs l) ∧ (∀ i, i < 12 → (clrTo xs l).getD i 0 = xs.getD i 0) ∧ (∀ t : Nat, len (clrTo xs l) t = if (t : Int) ∈ l then 0 else len xs t) := by
  induction l generalizing xs with
  | nil => exact ⟨W, hb, fun _ _ => rfl, fun t => by simp [clrTo]⟩
  | cons s l ih =>
    obtain ⟨c1, c2, c3, c4⟩ := clearX_kept W hb s
    obtain ⟨d1, d2, d3, d4⟩ := ih c1 c2
    refine ⟨d1, d2, fun i hi => (d3 i hi).trans (c3 i hi), fun t => ?_⟩
    show len (clrTo (clearX xs s) l) t = _
    rw [d4 t, c4 t]
    by_cases e : (t : Int) ∈ l
    · rw [if_pos e, if_pos (List.mem_cons_of_mem _ e)]
    · rw [if_neg e]
      by_cases e2 : (t : Int) = s
      · rw [if_pos e2, if_pos (by rw [e2]; exact List.mem_cons_self)]
      · rw [if_neg e2, if_neg (by rw [List.mem_cons]; rintro (h | h); exact e2 h; exact e h)]
/-- all slots are emptied: there is none -/
theorem clr_all {xs : List Int} (W : Wf xs) (hb : Bytes xs) : cnt (clrTo xs (slotsTo xs (cnt xs))) = 0 := by
  obtain ⟨d1, d2, d3, d4⟩ := clrTo_kept W hb (slotsTo xs (cnt xs))
  have h : ∀ t, len (clrTo xs (slotsTo xs (cnt xs))) t = 0 := fun t => by
    rw [d4 t]
    split
    · rfl
    · rename_i hn
      rcases Nat.eq_zero_or_pos (len xs t) with e0 | e0
      · exact e0
      · refine absurd ((slotsTo_mem _).2 ⟨t, rfl, ?_, by omega⟩) hn
        rcases Nat.lt_or_ge t (cnt xs) with h | h
        · exact h
        · have := len_far h; omega
  rcases Nat.eq_zero_or_pos (cnt (clrTo xs (slotsTo xs (cnt xs)))) with e0 | e0
  · exact e0
  · exact absurd (h _) (d1.last (by omega))
theorem stamp_lsn {xs ys : List Int} (hx : xs.length = 448) (hy : ys.length = 448) (hb : Bytes ys) (i : Nat) (h8 : i < 8) : (setN xs 0 8 (gt ys 0 8)).getD i 0 = ys.getD i 0 := by
  have e : NumBytes.putS (gt ys 0 8) 8 = (ys.drop 0).take 8 := Codec.put_at ys hb 0 8 (by decide) (by omega)
  generalize gt ys 0 8 = M at *
  unfold setN
  have hp : (NumBytes.putS M 8).length = 8 := NumBytes.putS_len _ _
  rw [splice_getD (by omega), if_pos (by omega), e, seg_getD _ _ _ _ (by omega)]
  congr 1; omega
/-- behind it the page is a new one with its place of the log -/
theorem clr_new {n : Int} {xs : List Int} (K : Kept (newP n) xs) : clrTo xs (slotsTo xs (cnt xs)) = setN (newP n) 0 8 (gt xs 0 8) := by
  obtain ⟨d1, d2, d3, d4⟩ := clrTo_kept K.wf K.byt (slotsTo xs (cnt xs))
  have hx := K.wf.w0.len
  obtain ⟨s1, s2, s3, s4, s5⟩ := stamp_wf (new_wf n).1 (a := 0) (n := 8) (by decide) (gt xs 0 8)
  have hnl := (new_wf n).1.w0.len
  refine none_same d1 s1 (clr_all K.wf K.byt) (by rw [s2]; exact (new_wf n).2.1) (fun i hi => ?_) d2 (setN_bytes (new_bytes n))
  rw [d3 i hi]
  by_cases h8 : i < 8
  · have e := stamp_lsn (xs := newP n) (ys := xs) hnl hx K.byt i h8
    exact e.symm
  · rw [s5 i (by omega)]
    exact K.num i (by omega) hi
end Go.Proofs.Ythbbnebanmpcjaa.Pg
