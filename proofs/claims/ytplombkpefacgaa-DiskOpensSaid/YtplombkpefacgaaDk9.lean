import Derived.Test.YtplombkpefacgaaDk8
import Derived.Laws.MakeOwn
/- One sector more. -/
namespace Go.Proofs.Ytplombkpefacgaa.Disk
open Go.ChangeShapes Go.WideShapes Go.ChangeAt Go.RowKit Go.IntWalk Go.Proofs.Mem
set_option linter.unusedVariables false
set_option linter.unusedSimpArgs false
theorem set_two (L : List Value) (a : Nat) (x y : Value) (h : a + 1 < L.length) : ((L.set a x).set (a + 1) y).take (a + 2) = L.take a ++ [x, y] := by
  apply List.ext_getElem?
  intro m
  by_cases h1 : m < a
  · rw [List.getElem?_take, if_pos (by omega), List.getElem?_set_ne (by omega), List.getElem?_set_ne (by omega), List.getElem?_append_left (by rw [List.length_take]; omega), List.getElem?_take, if_pos h1]
  · by_cases h2 : m = a
    · subst h2
      rw [List.getElem?_take, if_pos (by omega), List.getElem?_set_ne (by omega), List.getElem?_set_self (by omega), List.getElem?_append_right (by rw [List.length_take]; omega), List.length_take, Nat.min_eq_left (by omega), Nat.sub_self]
      rfl
    · by_cases h3 : m = a + 1
      · subst h3
        rw [List.getElem?_take, if_pos (by omega), List.getElem?_set_self (by rw [List.length_set]; omega), List.getElem?_append_right (by rw [List.length_take]; omega), List.length_take, Nat.min_eq_left (by omega), show a + 1 - a = 1 by omega]
        rfl
      · rw [List.getElem?_take, if_neg (by omega), List.getElem?_eq_none (by rw [List.length_append, List.length_take]; simp; omega)]
theorem FiAt.push {tS : TypeId} {w w' : World} {col col' : Nat → Nat} {c g cap : Nat} {l : List Se} {uv : List Pl} {C : Array Value} {s : Se} {p : Pl} (h : FiAt tS w col c (.slice (some ⟨g, 0, none⟩) l.length cap) l uv) (hC : Box w g C tS) (hf : Fr (fun x => x = g) w w')
    (hC' : Box w' g ((C.setIfInBounds (2 * l.length) p.1).setIfInBounds (2 * l.length + 1) p.2.1) tS) (hlt : l.length < cap) (hco : ∀ x, x < w.heap.size → col' x = col x) (hs : SeAt w' col' (c + 1 + l.length) s p.1 p.2.1 p.2.2) :
    FiAt tS w' col' c (.slice (some ⟨g, 0, none⟩) (l ++ [s]).length cap) (l ++ [s]) (uv ++ [p]) := by
  have hgl := hC.lt
  have hgc := h.row.2 g rfl
  obtain ⟨cur, hcur⟩ : ∃ cur, Box w g cur tS ∧ cap ≤ maxLen ∧ cur.size = cap * 2 ∧ cur.toList.take (l.length * 2) = uv.flatMap cSe := by
    rcases h.row.1.2 with ⟨h0, _⟩ | ⟨g', cap', cur, e, _, hg, h1, h2, h3, h4⟩
    · cases h0
    · injection e with e1 e2 e3
      injection e1 with e1
      injection e1 with e1
      subst e1 e3
      exact ⟨cur, hg, h2, h3, h4⟩
  obtain ⟨hb, hm, hz, ht⟩ := hcur
  have eC : cur = C := by
    unfold Box at hb hC
    rw [hb] at hC
    injection hC with hC
    injection hC
  subst eC
  refine ⟨by simp [h.n], ⟨⟨by rw [flat2_len]; simp [h.n]; omega, .inr ⟨g, cap, _, rfl, Nat.zero_le _, hC', by simp; omega, hm, by simpa using hz, ?_⟩⟩, fun x hx => ?_⟩, fun j q r hq hr => ?_⟩
  · have e1 : (l ++ [s]).length * 2 = 2 * l.length + 2 := by simp; omega
    have hz9 : 2 * l.length + 1 < cur.toList.length := by have h9 : cur.toList.length = cur.size := Array.length_toList; omega
    rw [e1, Array.toList_setIfInBounds, Array.toList_setIfInBounds, set_two _ _ _ _ hz9, show 2 * l.length = l.length * 2 by omega, ht, List.flatMap_append]
    rfl
  · injection hx with hx
    rw [← hx, hco g hgl]; exact hgc
  · by_cases hj : j < l.length
    · rw [List.getElem?_append_left (by rw [h.n]; exact hj)] at hq
      rw [List.getElem?_append_left hj] at hr
      exact (h.sec j q r hq hr).fr hf (fun x hx e => by rw [e, hgc]; omega) hco
    · have hjl : j = l.length := by
        have := (List.getElem?_eq_some_iff.1 hr).1
        rw [List.length_append] at this
        simp at this; omega
      subst hjl
      rw [← h.n, List.getElem?_append_right (Nat.le_refl _), Nat.sub_self] at hq
      rw [List.getElem?_append_right (Nat.le_refl _), Nat.sub_self] at hr
      simp at hq hr
      subst hq hr
      exact hs
theorem sec_info : (Try.prog.info? 68).map (fun i => (i.zero, i.size, i.bytes)) = some (some (.agg #[.slice none 0 0, .slice none 0 0]), 2, 48) := by kernel_rfl
theorem nil_cells (n m : Nat) (h : m < n * 2) : (madeCells #[Value.slice none 0 0, Value.slice none 0 0] (n * 2))[m]? = some (.slice none 0 0) := by
  unfold madeCells
  have h2 : m % 2 = 0 ∨ m % 2 = 1 := by omega
  rw [Array.getElem?_map, Array.getElem?_range]
  rw [if_pos h]
  rcases h2 with h2 | h2
  · simp [h2]
  · simp [h2]
theorem zero_row (m : Nat) : (madeCells #[Value.int .u8 0] (m * 1)).toList = (List.replicate m (0 : Int)).map (.int .u8) := by
  apply List.ext_getElem?
  intro i
  unfold madeCells
  by_cases h : i < m
  · simp [h, Nat.mod_one]
  · simp [h]
/-- n noughts -/
def z128 : List Int := List.replicate 128 0
def zSe : Se := ⟨z128, []⟩
theorem z128_bytes : Bytes z128 := fun x hx => by rw [(List.mem_replicate.1 hx).2]; omega
end Go.Proofs.Ytplombkpefacgaa.Disk
