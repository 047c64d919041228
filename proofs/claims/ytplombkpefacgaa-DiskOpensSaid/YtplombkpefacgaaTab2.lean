import Derived.Test.YtplombkpefacgaaTab
/- A byte of a row is written; a row is put in another's place. -/
namespace Go.Proofs.Mem
open Go.RowKit Go.WideShapes
set_option linter.unusedVariables false
section
variable {A : World} {base top g : Nat} {Tu Ts : TypeId} {u v : Value} {xs : List Int} {l : List Rw}
theorem RowAt.put (h : RowAt Tu A base g u xs) (j : Nat) (x : Int) : RowAt Tu (A.setCell ⟨g, j, none⟩ (.int .u8 x)) base g u (xs.set j x) := by
  obtain ⟨cur, cap, rfl, hb, hgg, h1, h2, h3, h4⟩ := h.heap
  have hbx : Box A g cur Tu := hgg
  have hb2 := hbx.set_ j (.int .u8 x)
  refine ⟨⟨cap, by rw [List.length_set]⟩, by simp, .inr ⟨g, cap, _, by rw [List.length_set], hb, hb2, by rw [List.length_set]; exact h1, h3, by simpa using h2, ?_⟩⟩
  have e : (cur.setIfInBounds j (.int .u8 x)).toList = cur.toList.set j (.int .u8 x) := by simp
  rw [e, List.length_set, Nat.mul_one, List.take_set, h4, List.map_set]
theorem row_cell (h : RowAt Tu A base g u xs) (j : Nat) (hj : j < xs.length) : A.cell? ⟨g, j, none⟩ = some (.int .u8 (xs.getD j 0)) := by
  obtain ⟨cur, cap, rfl, hb, hgg, h1, h2, h3, h4⟩ := h.heap
  have hbx : Box A g cur Tu := hgg
  rw [hbx.cell]
  have := congrArg (fun z => z[j]?) h4
  simp only [List.getElem?_take, hj, if_true, List.getElem?_map, List.getElem?_eq_getElem hj, Option.map_some] at this
  rw [← Array.getElem?_toList, this]
  simp [List.getD, List.getElem?_eq_getElem hj]
theorem row_frozen (h : RowAt Tu A base g u xs) (j : Nat) : A.frozen? ⟨g, j, none⟩ = false := by
  obtain ⟨cur, cap, rfl, hb, hgg, h1, h2, h3, h4⟩ := h.heap
  exact Box.frozen (C := cur) (t := Tu) hgg j
/-- a byte of a row is written -/
theorem Tab.put (h : Tab Tu Ts A base top v l) (ht : Tu ≠ Ts) (i : Nat) (hi : i < l.length) (j : Nat) (x : Int) :
    Tab Tu Ts (A.setCell ⟨l[i].1, j, none⟩ (.int .u8 x)) base top v (l.set i (l[i].1, l[i].2.1, l[i].2.2.set j x)) := by
  have hg := grownBy_set A ⟨l[i].1, j, none⟩ (.int .u8 x)
  have hmem : l[i] ∈ l := List.getElem_mem hi
  have hri := (h.rows _ hmem).1
  refine ⟨?_, fun p hp => ?_, ?_, h.vtop⟩
  · rw [List.length_set]
    have e : (l.set i (l[i].1, l[i].2.1, l[i].2.2.set j x)).map (·.2.1) = l.map (·.2.1) := by
      apply List.ext_getElem?
      intro k
      rw [List.getElem?_map, List.getElem?_map, List.getElem?_set]
      by_cases e : i = k
      · subst e; simp [hi]
      · rw [if_neg e]
    rw [e]
    refine h.outer.kept hg ?_
    rcases h.outer.2 with ⟨hn, _⟩ | ⟨go, cap, cur, e2, _, hgo, _⟩
    · exact .inl (by rw [hn]; rfl)
    · refine .inr (fun e3 => ?_)
      rw [e2] at e3
      injection e3 with e3
      simp only at e3
      obtain ⟨cur', cap', _, _, hgg, _⟩ := hri.heap
      rw [e3, hgg] at hgo
      injection hgo with hgo
      injection hgo with _ e4 _
      exact ht e4
  · rcases List.mem_or_eq_of_mem_set hp with hp' | rfl
    · obtain ⟨k, hk, rfl⟩ := List.mem_iff_getElem.1 hp
      rw [List.length_set] at hk
      by_cases e : i = k
      · subst e
        simp only [List.getElem_set_self]
        exact ⟨hri.put j x, (h.rows _ hmem).2⟩
      · rw [List.getElem_set_ne e]
        have hmk : l[k] ∈ l := List.getElem_mem hk
        refine ⟨(h.rows _ hmk).1.far hg (fun e2 => ?_), (h.rows _ hmk).2⟩
        injection e2 with e2
        simp only at e2
        rcases Nat.lt_or_gt_of_ne e with hlt | hgt
        · exact List.pairwise_iff_getElem.1 h.apart i k hi hk hlt e2
        · exact List.pairwise_iff_getElem.1 h.apart k i hk hi hgt e2.symm
    · exact ⟨hri.put j x, (h.rows _ hmem).2⟩
  · refine List.pairwise_iff_getElem.2 fun a b ha hb hab => ?_
    rw [List.length_set] at ha hb
    have ea : ((l.set i (l[i].1, l[i].2.1, l[i].2.2.set j x))[a]'(by rw [List.length_set]; exact ha)).1 = l[a].1 := by
      by_cases e : i = a
      · subst e; simp
      · rw [List.getElem_set_ne e]
    have eb : ((l.set i (l[i].1, l[i].2.1, l[i].2.2.set j x))[b]'(by rw [List.length_set]; exact hb)).1 = l[b].1 := by
      by_cases e : i = b
      · subst e; simp
      · rw [List.getElem_set_ne e]
    rw [ea, eb]
    exact List.pairwise_iff_getElem.1 h.apart a b ha hb hab
/-- where a row's value stands -/
theorem Tab.cell (h : Tab Tu Ts A base top v l) (i : Nat) (hi : i < l.length) : ∃ go cap, v = .slice (some ⟨go, 0, none⟩) l.length cap ∧ A.cell? ⟨go, i, none⟩ = some l[i].2.1 ∧ A.frozen? ⟨go, i, none⟩ = false ∧ l.length ≤ cap ∧ cap ≤ maxLen := by
  rcases h.outer.2 with ⟨_, hn⟩ | ⟨go, cap, cur, rfl, hb, hgg, h1, h2, h3, h4⟩
  · omega
  · have hbx : Box A go cur Ts := hgg
    refine ⟨go, cap, rfl, ?_, hbx.frozen i, h1, h2⟩
    rw [hbx.cell]
    have := congrArg (fun z => z[i]?) h4
    simp only [Nat.mul_one, List.getElem?_take, hi, if_true] at this
    rw [← Array.getElem?_toList, this]
    simp [List.getElem?_eq_getElem hi]
end
end Go.Proofs.Mem
