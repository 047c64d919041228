import Derived.Test.YtplombkpefacgaaDk3
/- What one sector's change makes of a device. -/
namespace Go.Proofs.Ytplombkpefacgaa.Disk
open Go.ChangeShapes Go.WideShapes Go.ChangeAt Go.RowKit Go.IntWalk Go.Proofs.Mem
set_option linter.unusedVariables false
set_option linter.unusedSimpArgs false
theorem flat2_set (q : Pl) : ∀ (uv : List Pl) (n : Nat), n < uv.length → (uv.set n q).flatMap cSe = ((uv.flatMap cSe).set (2 * n) q.1).set (2 * n + 1) q.2.1
  | [], n, h => by simp at h
  | p :: uv, 0, h => by simp [cSe]
  | p :: uv, n + 1, h => by
    rw [List.set_cons_succ, List.flatMap_cons, List.flatMap_cons, flat2_set q uv n (by simpa using h)]
    have e : cSe p ++ uv.flatMap cSe = p.1 :: p.2.1 :: uv.flatMap cSe := rfl
    have e' : ∀ l : List Value, cSe p ++ l = p.1 :: p.2.1 :: l := fun _ => rfl
    rw [e, e', show 2 * (n + 1) = (2 * n + 1) + 1 by omega, show 2 * n + 1 + 1 + 1 = (2 * n + 1 + 1) + 1 by omega]
    simp only [List.set_cons_succ]
/-- the device whose sector n of file i is s -/
def Dv.upd (D : Dv) (i n : Nat) (s : Se) : Dv := { D with f := fun k => if k = i then (D.f i).set n s else D.f k }
def colN (w w' : World) (col : Nat → Nat) (k : Nat) : Nat → Nat := fun x => if x < w.heap.size then col x else if x < w'.heap.size then k else 0
def growS (w w' : World) (S : Nat → Prop) : Nat → Prop := fun x => S x ∨ (w.heap.size ≤ x ∧ x < w'.heap.size)
theorem colN_old {w w' : World} {col : Nat → Nat} {k g : Nat} (h : g < w.heap.size) : colN w w' col k g = col g := by unfold colN; rw [if_pos h]
theorem colN_new {w w' : World} {col : Nat → Nat} {k g : Nat} (h : w.heap.size ≤ g) (h' : g < w'.heap.size) : colN w w' col k g = k := by unfold colN; rw [if_neg (by omega), if_pos h']
theorem arr_take_set (C : Array Value) (m i : Nat) (x : Value) : (C.setIfInBounds i x).toList.take m = (C.toList.take m).set i x := by
  rw [Array.toList_setIfInBounds, List.take_set]
theorem DvAt.upd {tS tD : TypeId} {w w' : World} {S : Nat → Prop} {b : Nat} {D : Dv} {col : Nat → Nat} {fv : Nat → Value} {uv : Nat → List Pl} (h : DvAt tS tD w S b D col fv uv) {i n g cap : Nat} {C : Array Value} {p : Pl} {s : Se} (hi : i < 2)
    (sp : Spot tS w col (fc i) (fv i) (D.f i) (uv i) n g cap C p s) (hf : Fr (fun x => x = g ∨ col x = fc i + 1 + n) w w') (s' : Se) (p' : Pl) (hb : Box w' g ((C.setIfInBounds (2 * n) p'.1).setIfInBounds (2 * n + 1) p'.2.1) tS)
    (hs : SeAt w' (colN w w' col (fc i + 1 + n)) (fc i + 1 + n) s' p'.1 p'.2.1 p'.2.2) :
    DvAt tS tD w' (growS w w' S) b (D.upd i n s') (colN w w' col (fc i + 1 + n)) fv (fun k => if k = i then (uv i).set n p' else uv k) := by
  have hn : n < (D.f i).length := (List.getElem?_eq_some_iff.1 sp.hs).1
  have hn2 : n < (uv i).length := (List.getElem?_eq_some_iff.1 sp.hp).1
  have hmo := h.most i hi
  have hgl : g < w.heap.size := sp.box.lt
  have hbb : b < w.heap.size := h.box.lt
  have hgc := sp.hcol
  have hco : ∀ x, x < w.heap.size → colN w w' col (fc i + 1 + n) x = col x := fun x hx => colN_old hx
  refine ⟨h.box.fr hf (fun hk => ?_), .inl h.here, ?_, fun k hk => ?_, fun k hk => ?_, fun x hx => ?_, fun x hx => ?_, h.left⟩
  · have hbc := h.bcol
    unfold fc at *
    rcases hk with hk | hk
    · rw [hk] at hbc; omega
    · omega
  · rw [hco b hbb]; exact h.bcol
  · by_cases hki : k = i
    · subst hki
      simp only [Dv.upd, if_true]
      have fi := h.file k hk
      refine ⟨by rw [List.length_set, List.length_set]; exact fi.n, ⟨⟨?_, .inr ⟨g, cap, _, ?_, Nat.zero_le _, hb, ?_, sp.size.2.1, ?_, ?_⟩⟩, ?_⟩, ?_⟩
      · rw [flat2_len, List.length_set, List.length_set, fi.n]; omega
      · rw [List.length_set]; exact sp.hv
      · rw [List.length_set]; exact sp.hcap
      · simpa using sp.size.1
      · rw [arr_take_set, arr_take_set, List.length_set, sp.size.2.2, flat2_set _ _ _ hn2]
      · intro x hx
        rw [sp.hv] at hx
        injection hx with hx
        rw [← hx, hco _ hgl]; exact hgc
      · intro j q r hq hr
        by_cases hj : j = n
        · subst hj
          rw [List.getElem?_set_self hn2] at hq
          rw [List.getElem?_set_self hn] at hr
          cases hq; cases hr
          exact hs
        · rw [List.getElem?_set_ne (Ne.symm hj)] at hq hr
          refine (fi.sec j q r hq hr).fr hf (fun x hx hS => ?_) hco
          rcases hS with rfl | hS
          · rw [hgc]; omega
          · rw [hS]; omega
    · simp only [Dv.upd, if_neg hki]
      refine (h.file k hk).fr hf (fun x hx hS => ?_) hco
      have := h.most k hk
      unfold fc at *
      rcases hS with rfl | hS
      · rw [hgc]; omega
      · rw [hS]; omega
  · by_cases hki : k = i
    · subst hki; simp only [Dv.upd, if_true, List.length_set]; exact hmo
    · simp only [Dv.upd, if_neg hki]; exact h.most k hk
  · by_cases hlt : x < w.heap.size
    · rw [hco x hlt] at hx; exact .inl (h.mine x hx)
    · by_cases hlt' : x < w'.heap.size
      · exact .inr ⟨by omega, hlt'⟩
      · unfold colN at hx; rw [if_neg hlt, if_neg hlt'] at hx; exact absurd rfl hx
  · rcases hx with hx | hx
    · exact Nat.lt_of_lt_of_le (h.old x hx) hf.size
    · exact hx.2
/-- the head of a device is written: its flags alone -/
theorem DvAt.head {tS tD : TypeId} {w w' : World} {S : Nat → Prop} {b : Nat} {D : Dv} {col : Nat → Nat} {fv : Nat → Value} {uv : Nat → List Pl} (h : DvAt tS tD w S b D col fv uv) (hf : Fr (fun x => x = b) w w') (lim : Bool) (left : Int) (dead : Bool) (hl : 0 ≤ left ∧ left ≤ 9223372036854775807)
    (hb : Box w' b #[fv 0, fv 1, .bool lim, .int .i64 left, .bool dead] tD) : DvAt tS tD w' S b { D with lim := lim, left := left, dead := dead } col fv uv :=
  ⟨hb, h.here, h.bcol, fun i hi => (h.file i hi).fr hf (fun g hg hT => by subst hT; rw [h.bcol]; unfold fc; omega) (fun _ _ => rfl), h.most, h.mine, fun g hg => Nat.lt_of_lt_of_le (h.old g hg) hf.size, hl⟩
end Go.Proofs.Ytplombkpefacgaa.Disk
