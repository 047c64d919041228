import Derived.Test.YthbbnebanmpcjaaPgZ
/- Pure: slots are emptied one after another (PageEmpty); a row's cells, and where they lie. -/
namespace Go.Proofs.Ythbbnebanmpcjaa.Pg
open Go.Proofs.Mem Go.WideShapes Go.RowKit
set_option linter.unusedVariables false
set_option linter.unusedSimpArgs false
theorem slotsTo_lt {xs : List Int} : ∀ n, (slotsTo xs n).Pairwise (· < ·) := by
  intro n
  induction n with
  | zero => exact List.Pairwise.nil
  | succ n ih =>
    rw [slotsTo_succ]
    split
    · exact ih
    · refine List.pairwise_append.2 ⟨ih, List.pairwise_singleton _ _, fun a ha b hb => ?_⟩
      obtain ⟨t, rfl, h1, _⟩ := (slotsTo_mem _).1 ha
      rw [List.mem_singleton.1 hb]
      omega
theorem slots_new {xs : List Int} {n j : Nat} (hj : j < (slotsTo xs n).length) : (slotsTo xs n)[j] ∉ (slotsTo xs n).take j := by
  have h := slotsTo_lt (xs := xs) n
  intro hm
  obtain ⟨i, hi, e⟩ := List.getElem_of_mem hm
  rw [List.getElem_take] at e
  have hij : i < j := by rw [List.length_take] at hi; omega
  have := List.pairwise_iff_getElem.1 h i j (by omega) hj hij
  omega
/-- the slots that have something, emptied in turn -/
structure EmptyL (ys L : List Int) : Prop where
  len : L.length ≤ 40
  el : ∀ j (h : j < L.length), ∃ t : Nat, L[j] = t ∧ t < 40 ∧ there (clrTo ys (L.take j)) (t : Int) = true ∧ there (clrTo ys (L.take (j + 1))) (t : Int) = false ∧ clrTo ys (L.take (j + 1)) = clearX (clrTo ys (L.take j)) (t : Int)
theorem emptyL {ys : List Int} (W : Wf ys) (hb : Bytes ys) : EmptyL ys (slotsTo ys (cnt ys)) := by
  have hC := W.w0.cnt
  refine ⟨Nat.le_trans (slotsTo_len _ _) hC, fun j hj => ?_⟩
  obtain ⟨t, h1, h2, h3⟩ := (slotsTo_mem _).1 (List.getElem_mem hj)
  have hn := slots_new hj
  have hT : (slotsTo ys (cnt ys)).take (j + 1) = (slotsTo ys (cnt ys)).take j ++ [(t : Int)] := by rw [List.take_succ_eq_append_getElem hj, h1]
  rw [h1] at hn
  have hs : clrTo ys ((slotsTo ys (cnt ys)).take (j + 1)) = clearX (clrTo ys ((slotsTo ys (cnt ys)).take j)) (t : Int) := by rw [hT, clrTo_snoc]
  have k1 := (clrTo_kept W hb ((slotsTo ys (cnt ys)).take j)).2.2.2 t
  have k2 := (clrTo_kept W hb ((slotsTo ys (cnt ys)).take (j + 1))).2.2.2 t
  rw [if_neg hn] at k1
  rw [if_pos (by rw [hT]; exact List.mem_append_right _ List.mem_cons_self)] at k2
  refine ⟨t, h1, by omega, ?_, ?_, hs⟩
  · unfold there
    rw [show ((t : Int)).toNat = t from rfl, k1]
    exact decide_eq_true ⟨by omega, h3⟩
  · unfold there
    rw [show ((t : Int)).toNat = t from rfl, k2]
    exact decide_eq_false (fun h => h.2 rfl)
theorem clearX_not {xs : List Int} {N : Int} (h : there xs N = false) : clearX xs N = xs := by unfold clearX; rw [h]; rfl
theorem usedTo_nought (xs : List Int) : usedTo xs 0 = 0 := rfl
/-- a new page with a place of the log -/
theorem new_stamped (n : Int) (M : Int) (hM : 0 ≤ M ∧ M < 2 ^ (8 * 8)) : gt (setN (newP n) 0 8 M) 0 8 = M ∧ free (setN (newP n) 0 8 M) = 432 ∧ cnt (setN (newP n) 0 8 M) = 0 := by
  have W := new_wf n
  have hl := W.1.w0.len
  have S := stamp_wf W.1 (a := 0) (n := 8) (by decide) M
  have hc : cnt (setN (newP n) 0 8 M) = 0 := by rw [S.2.1]; exact W.2.1
  refine ⟨gt_setN (by omega) (by decide) hM.1 hM.2, ?_, hc⟩
  unfold free
  rw [hc, usedTo_nought]
  rfl
/-- a row of numbers of one's own: its cells, and where they lie -/
theorem row_cells {w : World} {base n : Nat} {e : TypeId} {k : IntKind} {v : Value} {xs : List Int} (h : w.ownsRow base e 1 v n (xs.map (.int k))) :
    ∃ A c, v = .slice A xs.length c ∧ xs.length ≤ c ∧ c ≤ maxLen ∧ ∀ i, i < xs.length → ∃ b off, A = some ⟨b, off, none⟩ ∧ base ≤ b ∧ b < w.heap.size ∧ w.cell? ⟨b, off + i, none⟩ = some (.int k (xs.getD i 0)) := by
  have h0 := IR.of_own h
  obtain ⟨A, c, rfl, h1, h2, h3, h4⟩ := h0
  refine ⟨A, c, rfl, h1, h2, fun i hi => ?_⟩
  obtain ⟨b, off, rfl, hb, hc⟩ := h4 i hi
  rcases h.2 with ⟨hx, _⟩ | ⟨g, cap, cur, e1, hg, hh, _⟩
  · cases hx
  · injection e1 with e1 _ _
    injection e1 with e1
    injection e1 with e1 _ _
    subst e1
    exact ⟨_, _, rfl, hg, hb, hc⟩
end Go.Proofs.Ythbbnebanmpcjaa.Pg
