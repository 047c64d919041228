import Derived.Test.YthbbnebanmpcjaaPg9
import Derived.Test.YthbbnebanmpcjaaCodecMath
/- A page's bytes: pure. -/
namespace Go.Proofs.Ythbbnebanmpcjaa.Pg
open Go.Proofs.Mem
set_option linter.unusedVariables false
set_option linter.unusedSimpArgs false
theorem seg_getD (xs : List Int) (a n i : Nat) (hi : i < n) : ((xs.drop a).take n).getD i 0 = xs.getD (a + i) 0 := by
  rw [List.getD_eq_getElem?_getD, List.getD_eq_getElem?_getD, List.getElem?_take, if_pos hi, List.getElem?_drop]
theorem list_getD {xs ys : List Int} (hl : xs.length = ys.length) (h : ∀ i, i < xs.length → xs.getD i 0 = ys.getD i 0) : xs = ys := by
  apply List.ext_getElem hl
  intro i h1 h2
  have := h i h1
  rw [List.getD_eq_getElem?_getD, List.getD_eq_getElem?_getD, List.getElem?_eq_getElem h1, List.getElem?_eq_getElem h2] at this
  simpa using this
theorem seg_len {xs : List Int} {a n : Nat} (hl : a + n ≤ xs.length) : ((xs.drop a).take n).length = n := by rw [List.length_take, List.length_drop]; omega
theorem gt_eq {xs ys : List Int} {a b n : Nat} (hl : a + n ≤ xs.length) (hl' : b + n ≤ ys.length) (h : ∀ i, i < n → xs.getD (a + i) 0 = ys.getD (b + i) 0) : gt xs a n = gt ys b n := by
  unfold gt
  rw [list_getD (xs := (xs.drop a).take n) (ys := (ys.drop b).take n) (by rw [seg_len hl, seg_len hl']) (fun i hi => by rw [seg_len hl] at hi; rw [seg_getD _ _ _ _ hi, seg_getD _ _ _ _ hi]; exact h i hi)]
theorem splice_getD {xs ys : List Int} {a : Nat} (h : a + ys.length ≤ xs.length) (i : Nat) : (splice xs a ys).getD i 0 = if a ≤ i ∧ i < a + ys.length then ys.getD (i - a) 0 else xs.getD i 0 := by
  unfold splice
  have hta : (xs.take a).length = a := by rw [List.length_take]; omega
  rw [List.getD_eq_getElem?_getD]
  by_cases h1 : i < a
  · rw [if_neg (by omega), List.append_assoc, List.getElem?_append_left (by omega), List.getElem?_take, if_pos h1, List.getD_eq_getElem?_getD]
  · by_cases h2 : i < a + ys.length
    · rw [if_pos ⟨by omega, h2⟩, List.getElem?_append_left (by rw [List.length_append]; omega), List.getElem?_append_right (by omega), hta, List.getD_eq_getElem?_getD]
    · rw [if_neg (by omega), List.getElem?_append_right (by rw [List.length_append]; omega), List.length_append, hta, List.getElem?_drop, List.getD_eq_getElem?_getD, show a + ys.length + (i - (a + ys.length)) = i by omega]
theorem gt_splice_far {xs ys : List Int} {a b n : Nat} (h : a + ys.length ≤ xs.length) (hb : b + n ≤ xs.length) (hd : b + n ≤ a ∨ a + ys.length ≤ b) : gt (splice xs a ys) b n = gt xs b n :=
  gt_eq (by rw [splice_len h]; exact hb) hb (fun i hi => by rw [splice_getD h, if_neg (by omega)])
theorem gt_splice_same {xs ys : List Int} {a : Nat} (h : a + ys.length ≤ xs.length) : gt (splice xs a ys) a ys.length = NumBytes.getS ys := by
  unfold gt
  rw [list_getD (xs := ((splice xs a ys).drop a).take ys.length) (ys := ys) (seg_len (by rw [splice_len h]; exact h)) (fun i hi => by
    rw [seg_len (by rw [splice_len h]; exact h)] at hi
    rw [seg_getD _ _ _ _ hi, splice_getD h, if_pos ⟨by omega, by omega⟩, show a + i - a = i by omega])]
theorem setN_len {xs : List Int} {a n : Nat} {M : Int} (h : a + n ≤ xs.length) : (setN xs a n M).length = xs.length := splice_len (by rw [NumBytes.putS_len]; exact h)
theorem gt_setN {xs : List Int} {a n : Nat} {M : Int} (h : a + n ≤ xs.length) (hn : n ≤ 8) (h0 : 0 ≤ M) (h1 : M < 2 ^ (8 * n)) : gt (setN xs a n M) a n = M := by
  have hl := NumBytes.putS_len M n
  have e := gt_splice_same (xs := xs) (ys := NumBytes.putS M n) (a := a) (by rw [hl]; exact h)
  rw [hl] at e
  unfold setN
  rw [e, Codec.get_put M n hn]
  exact Int.emod_eq_of_lt h0 h1
theorem gt_setN_far {xs : List Int} {a b n m : Nat} {M : Int} (h : a + n ≤ xs.length) (hb : b + m ≤ xs.length) (hd : b + m ≤ a ∨ a + n ≤ b) : gt (setN xs a n M) b m = gt xs b m :=
  gt_splice_far (by rw [NumBytes.putS_len]; exact h) hb (by rw [NumBytes.putS_len]; exact hd)
theorem setN_getD_far {xs : List Int} {a n : Nat} {M : Int} (h : a + n ≤ xs.length) (i : Nat) (hd : i < a ∨ a + n ≤ i) : (setN xs a n M).getD i 0 = xs.getD i 0 := by
  unfold setN
  rw [splice_getD (by rw [NumBytes.putS_len]; exact h), NumBytes.putS_len, if_neg (by omega)]
/-- small numbers of two bytes -/
theorem gt2 {xs : List Int} {a : Nat} (M : Nat) (h : a + 2 ≤ xs.length) (hM : M ≤ 65535) : gt (setN xs a 2 (M : Int)) a 2 = (M : Int) :=
  gt_setN h (by decide) (by omega) (by
    have : (2 : Int) ^ (8 * 2) = 65536 := by decide
    rw [this]; omega)
theorem place_len {xs : List Int} {s o l : Nat} (h : 20 + 4 * s ≤ xs.length) : (place xs s o l).length = xs.length := by
  unfold place
  rw [setN_len (by rw [setN_len (by omega)]; omega), setN_len (by omega)]
theorem gt_place_far {xs : List Int} {s o l b m : Nat} (h : 20 + 4 * s ≤ xs.length) (hb : b + m ≤ xs.length) (hd : b + m ≤ 16 + 4 * s ∨ 20 + 4 * s ≤ b) : gt (place xs s o l) b m = gt xs b m := by
  unfold place
  rw [gt_setN_far (by rw [setN_len (by omega)]; omega) (by rw [setN_len (by omega)]; exact hb) (by omega), gt_setN_far (by omega) hb (by omega)]
theorem place_off {xs : List Int} {s o l : Nat} (h : 20 + 4 * s ≤ xs.length) (ho : o ≤ 65535) : off (place xs s o l) s = o := by
  unfold off place
  rw [gt_setN_far (by rw [setN_len (by omega)]; omega) (by rw [setN_len (by omega)]; omega) (by omega), gt2 o (by omega) ho]
  omega
theorem place_lenR {xs : List Int} {s o l : Nat} (h : 20 + 4 * s ≤ xs.length) (hl : l ≤ 65535) : lenR (place xs s o l) s = l := by
  unfold lenR place
  rw [gt2 l (by rw [setN_len (by omega)]; omega) hl]
  omega
/-- lay: what the numbers are behind it -/
theorem lay_low {xs ys : List Int} {s : Nat} (hx : xs.length = 448) (hs : s < 107) (hl : ys.length ≤ low xs) (hlow : low xs ≤ 448) : low (layP xs s ys) = low xs - ys.length := by
  unfold layP
  generalize ha : low xs - ys.length = a
  have h1 : (splice xs a ys).length = 448 := by rw [splice_len (by omega)]; exact hx
  have h2 : (place (splice xs a ys) s a ys.length).length = 448 := by rw [place_len (by omega)]; exact h1
  show (gt (setN (place (splice xs a ys) s a ys.length) 14 2 (a : Int)) 14 2).toNat = a
  rw [gt2 a (by omega) (by omega)]
  omega
theorem lay_gt {xs ys : List Int} {s b m : Nat} (hx : xs.length = 448) (hs : s < 107) (hl : ys.length ≤ low xs) (hlow : low xs ≤ 448) (hb : b + m ≤ 448) (h14 : b + m ≤ 14 ∨ 16 ≤ b) (hsl : b + m ≤ 16 + 4 * s ∨ 20 + 4 * s ≤ b) (hd : b + m ≤ low xs - ys.length ∨ low xs ≤ b) : gt (layP xs s ys) b m = gt xs b m := by
  unfold layP
  generalize ha : low xs - ys.length = a at *
  have h1 : (splice xs a ys).length = 448 := by rw [splice_len (by omega)]; exact hx
  have h2 : (place (splice xs a ys) s a ys.length).length = 448 := by rw [place_len (by omega)]; exact h1
  rw [gt_setN_far (by omega) (by omega) (by omega), gt_place_far (by omega) (by omega) hsl, gt_splice_far (by omega) (by omega) (by omega)]
theorem lay_off {xs ys : List Int} {s : Nat} (hx : xs.length = 448) (hs : s < 107) (hl : ys.length ≤ low xs) (hlow : low xs ≤ 448) : off (layP xs s ys) s = low xs - ys.length ∧ lenR (layP xs s ys) s = ys.length := by
  unfold layP
  generalize ha : low xs - ys.length = a
  have h1 : (splice xs a ys).length = 448 := by rw [splice_len (by omega)]; exact hx
  have h2 : (place (splice xs a ys) s a ys.length).length = 448 := by rw [place_len (by omega)]; exact h1
  constructor
  · have e : off (setN (place (splice xs a ys) s a ys.length) 14 2 (a : Int)) s = off (place (splice xs a ys) s a ys.length) s := by
      unfold off
      rw [gt_setN_far (by omega) (by omega) (by omega)]
    rw [e, place_off (by omega) (by omega)]
  · have e : lenR (setN (place (splice xs a ys) s a ys.length) 14 2 (a : Int)) s = lenR (place (splice xs a ys) s a ys.length) s := by
      unfold lenR
      rw [gt_setN_far (by omega) (by omega) (by omega)]
    rw [e, place_lenR (by omega) (by omega)]
theorem lay_len {xs ys : List Int} {s : Nat} (hx : xs.length = 448) (hs : s < 107) (hl : ys.length ≤ low xs) (hlow : low xs ≤ 448) : (layP xs s ys).length = 448 := by
  unfold layP
  generalize ha : low xs - ys.length = a
  have h1 : (splice xs a ys).length = 448 := by rw [splice_len (by omega)]; exact hx
  have h2 : (place (splice xs a ys) s a ys.length).length = 448 := by rw [place_len (by omega)]; exact h1
  rw [setN_len (by omega)]; exact h2
theorem dat_len {xs : List Int} {s : Nat} (hx : xs.length = 448) (hw : off xs s + len xs s ≤ 448) : (dat xs s).length = len xs s := by unfold dat; rw [List.length_take, List.length_drop]; omega
theorem usedTo_mono (xs : List Int) {m n : Nat} (h : m ≤ n) : usedTo xs m ≤ usedTo xs n := by
  induction n with
  | zero => have : m = 0 := by omega
            subst this; exact Nat.le_refl _
  | succ n ih =>
    by_cases e : m = n + 1
    · subst e; exact Nat.le_refl _
    · have := ih (by omega)
      rw [usedTo_succ]; omega
theorem gatherTo_low {old zs : List Int} {C : Nat} (ho : old.length = 448) (hz : zs.length = 448) (hC : C ≤ 40) (hw : ∀ s, s < C → off old s + len old s ≤ 448) (hu : usedTo old C ≤ low zs) (hl : low zs ≤ 448) :
    ∀ n, n ≤ C → (gatherTo old zs n).length = 448 ∧ low (gatherTo old zs n) = low zs - usedTo old n := by
  intro n
  induction n with
  | zero => intro _; exact ⟨hz, by simp [gatherTo, usedTo]⟩
  | succ n ih =>
    intro hn
    obtain ⟨h1, h2⟩ := ih (by omega)
    have hm := usedTo_mono old hn
    have hm2 := usedTo_succ old n
    unfold gatherTo
    by_cases h0 : len old n = 0
    · rw [if_pos h0]
      exact ⟨h1, by rw [h2, hm2, h0]; rfl⟩
    · rw [if_neg h0]
      have hd := dat_len ho (hw n (by omega))
      exact ⟨lay_len h1 (by omega) (by rw [hd, h2]; omega) (by rw [h2]; omega), by rw [lay_low h1 (by omega) (by rw [hd, h2]; omega) (by rw [h2]; omega), h2, hd, hm2]; omega⟩
theorem gatherOk_of {xs : List Int} (hx : xs.length = 448) (hC : cnt xs ≤ 40) (hw : ∀ s, s < cnt xs → off xs s + len xs s ≤ 448) (hu : usedTo xs (cnt xs) ≤ 448) : GatherOk xs := by
  have h1 : (splice xs (16 + 4 * cnt xs) (List.replicate (448 - (16 + 4 * cnt xs)) 0)).length = 448 := by rw [splice_len (by rw [List.length_replicate]; omega)]; exact hx
  have h2 : (setN (splice xs (16 + 4 * cnt xs) (List.replicate (448 - (16 + 4 * cnt xs)) 0)) 14 2 448).length = 448 := by rw [setN_len (by omega)]; exact h1
  have hl : low (setN (splice xs (16 + 4 * cnt xs) (List.replicate (448 - (16 + 4 * cnt xs)) 0)) 14 2 448) = 448 := by
    unfold low
    have := gt2 (xs := splice xs (16 + 4 * cnt xs) (List.replicate (448 - (16 + 4 * cnt xs)) 0)) (a := 14) 448 (by omega) (by decide)
    have e : gt (setN (splice xs (16 + 4 * cnt xs) (List.replicate (448 - (16 + 4 * cnt xs)) 0)) 14 2 448) 14 2 = 448 := this
    rw [e]; rfl
  refine ⟨hC, hw, fun n hn h0 => ?_⟩
  obtain ⟨_, g2⟩ := gatherTo_low hx h2 hC hw (by rw [hl]; exact hu) (by rw [hl]; exact Nat.le_refl _) n (by omega)
  rw [g2, hl]
  have hm := usedTo_mono xs (show n + 1 ≤ cnt xs by omega)
  rw [usedTo_succ] at hm
  omega
theorem gather_low {xs : List Int} (hx : xs.length = 448) (hC : cnt xs ≤ 40) (hw : ∀ s, s < cnt xs → off xs s + len xs s ≤ 448) (hu : usedTo xs (cnt xs) ≤ 448) : (gatherP xs).length = 448 ∧ low (gatherP xs) = 448 - usedTo xs (cnt xs) := by
  have h1 : (splice xs (16 + 4 * cnt xs) (List.replicate (448 - (16 + 4 * cnt xs)) 0)).length = 448 := by rw [splice_len (by rw [List.length_replicate]; omega)]; exact hx
  have h2 : (setN (splice xs (16 + 4 * cnt xs) (List.replicate (448 - (16 + 4 * cnt xs)) 0)) 14 2 448).length = 448 := by rw [setN_len (by omega)]; exact h1
  have hl : low (setN (splice xs (16 + 4 * cnt xs) (List.replicate (448 - (16 + 4 * cnt xs)) 0)) 14 2 448) = 448 := by
    unfold low
    have := gt2 (xs := splice xs (16 + 4 * cnt xs) (List.replicate (448 - (16 + 4 * cnt xs)) 0)) (a := 14) 448 (by omega) (by decide)
    have e : gt (setN (splice xs (16 + 4 * cnt xs) (List.replicate (448 - (16 + 4 * cnt xs)) 0)) 14 2 448) 14 2 = 448 := this
    rw [e]; rfl
  obtain ⟨g1, g2⟩ := gatherTo_low hx h2 hC hw (by rw [hl]; exact hu) (by rw [hl]; exact Nat.le_refl _) (cnt xs) (Nat.le_refl _)
  rw [hl] at g2
  exact ⟨g1, g2⟩
end Go.Proofs.Ythbbnebanmpcjaa.Pg
