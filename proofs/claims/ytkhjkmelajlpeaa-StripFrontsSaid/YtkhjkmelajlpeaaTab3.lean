import Derived.Test.YtkhjkmelajlpeaaTab2
/- Owned rows told apart; a row put in another's place. -/
namespace Go.Proofs.Mem
open Go.RowKit Go.WideShapes
set_option linter.unusedVariables false
section
variable {W A B : World} {base base' top g n c : Nat} {e Tu Ts : TypeId} {us : List Value} {u v : Value} {xs : List Int} {l : List Rw} {S : Nat → Prop}
theorem own_heap (h : W.ownsRow base e 1 (.slice (some ⟨g, 0, none⟩) n c) n us) : ∃ cur, base ≤ g ∧ Box W g cur e ∧ n ≤ c ∧ c ≤ maxLen ∧ cur.size = c ∧ cur.toList.take n = us := by
  rcases h.2 with ⟨hn, _⟩ | ⟨g', cap, cur, e2, hb, hgg, h1, h2, h3, h4⟩
  · cases hn
  · injection e2 with a1 a2 a3
    injection a1 with a1
    injection a1 with a1
    subst a1 a3
    exact ⟨cur, hb, hgg, h1, h2, by omega, by simpa using h4⟩
theorem own_cell (h : W.ownsRow base e 1 (.slice (some ⟨g, 0, none⟩) n c) n us) {i : Nat} {x : Value} (hx : us[i]? = some x) : W.cell? ⟨g, i, none⟩ = some x := by
  obtain ⟨cur, _, hb, _, _, _, ht⟩ := own_heap h
  rw [hb.cell, ← Array.getElem?_toList]
  rw [← ht, List.getElem?_take] at hx
  split at hx
  · exact hx
  · cases hx
theorem own_frozen (h : W.ownsRow base e 1 (.slice (some ⟨g, 0, none⟩) n c) n us) (i : Nat) : W.frozen? ⟨g, i, none⟩ = false := by
  obtain ⟨cur, _, hb, _⟩ := own_heap h
  exact hb.frozen i
theorem own_set (h : W.ownsRow base e 1 (.slice (some ⟨g, 0, none⟩) n c) n us) (i : Nat) (x : Value) : (W.setCell ⟨g, i, none⟩ x).ownsRow base e 1 (.slice (some ⟨g, 0, none⟩) n c) n (us.set i x) := by
  obtain ⟨cur, hbase, hb, h1, h2, h3, ht⟩ := own_heap h
  refine ⟨by rw [List.length_set]; exact h.1, .inr ⟨g, c, _, rfl, hbase, hb.set_ i x, h1, h2, by simp [h3], ?_⟩⟩
  rw [Nat.mul_one]
  simp only [Array.toList_setIfInBounds]
  rw [List.take_set, ht]
theorem own_fr (h : A.ownsRow base e 1 v n us) (hf : Fr S A B) (hn : ∀ g, v.ownBlock = some g → ¬ S g) : B.ownsRow base e 1 v n us := by
  refine ⟨h.1, ?_⟩
  rcases h.2 with h0 | ⟨g, cap, cur, rfl, hb, hg, rest⟩
  · exact .inl h0
  · exact .inr ⟨g, cap, cur, rfl, hb, (hf.block g (Array.getElem?_eq_some_iff.1 hg).1 (hn g rfl)).trans hg, rest⟩
theorem row_fr (h : RowAt Tu A base g u xs) (hf : Fr S A B) (hn : ¬ S g) : RowAt Tu B base g u xs :=
  ⟨h.form, own_fr h.own hf (fun k hk => by obtain ⟨c, rfl⟩ := h.form; injection hk with hk; simp only at hk; rw [← hk]; exact hn)⟩
theorem row_lt (h : RowAt Tu A base g u xs) : base ≤ g ∧ g < A.heap.size := by
  obtain ⟨_, _, _, hb, hg, _⟩ := h.heap
  exact ⟨hb, (Array.getElem?_eq_some_iff.1 hg).1⟩
theorem row_apart {gl : Nat} (ht : Tu ≠ Ts) (h : W.ownsRow base Ts 1 (.slice (some ⟨gl, 0, none⟩) n c) n us) (r : RowAt Tu W base' g u xs) : g ≠ gl := fun e => by
  obtain ⟨cur, _, hb, _⟩ := own_heap h
  obtain ⟨cur', _, _, _, hg, _⟩ := r.heap
  unfold Box at hb
  rw [e, hb] at hg
  injection hg with hg
  injection hg with _ h2 _
  exact ht h2.symm
theorem RowAt.below (h : RowAt Tu A base g u xs) (hb : Below top A B) (hg : g < top) : RowAt Tu B base g u xs := by
  refine ⟨h.form, h.own.1, ?_⟩
  rcases h.own.2 with h0 | ⟨g', cap, cur, e, hb', hg', rest⟩
  · exact .inl h0
  · refine .inr ⟨g', cap, cur, e, hb', (hb.block g' ?_).trans hg', rest⟩
    obtain ⟨c', rfl⟩ := h.form
    injection e with e
    injection e with e
    injection e with e
    omega
theorem RowAt.lower (h : RowAt Tu A base g u xs) (hb : base' ≤ base) : RowAt Tu A base' g u xs := ⟨h.form, own_lower h.own hb⟩
/-- a new row is put in another's place -/
theorem Tab.swap (h : Tab Tu Ts W base top (.slice (some ⟨g, 0, none⟩) n c) l) (ht : Tu ≠ Ts) (hn : l.length = n) (i : Nat) {g' : Nat} {u' : Value} {xs' : List Int} (hr : RowAt Tu W base g' u' xs') (hg' : top ≤ g') :
    Tab Tu Ts (W.setCell ⟨g, i, none⟩ u') base W.heap.size (.slice (some ⟨g, 0, none⟩) n c) (l.set i (g', u', xs')) := by
  have hlt := row_lt hr
  have ho := h.outer
  rw [hn] at ho
  have far : ∀ {p : Rw}, RowAt Tu W base p.1 p.2.1 p.2.2 → RowAt Tu (W.setCell ⟨g, i, none⟩ u') base p.1 p.2.1 p.2.2 := fun {p} r => r.far (grownBy_set W ⟨g, i, none⟩ u') (fun e => by injection e with e; exact row_apart ht ho r e.symm)
  have hle : ∀ p ∈ l, p.1 < W.heap.size := fun p hp => (row_lt (h.rows p hp).1).2
  have hgl : g < W.heap.size := (ho.lt g rfl).2
  refine ⟨?_, fun p hp => ?_, ?_, fun k hk => ?_⟩
  · rw [List.length_set, hn, List.map_set]
    exact own_set ho i u'
  · rcases List.mem_or_eq_of_mem_set hp with hp | rfl
    · exact ⟨far (h.rows p hp).1, hle p hp⟩
    · exact ⟨far hr, hlt.2⟩
  · refine List.pairwise_iff_getElem.2 fun a b ha hb hab => ?_
    rw [List.length_set] at ha hb
    rw [List.getElem_set, List.getElem_set]
    have hA := (h.rows _ (List.getElem_mem ha)).2
    have hB := (h.rows _ (List.getElem_mem hb)).2
    split
    · rw [if_neg (by omega)]; show g' ≠ l[b].1; omega
    · split
      · show l[a].1 ≠ g'; omega
      · exact List.pairwise_iff_getElem.1 h.apart a b ha hb hab
  · injection hk with hk
    simp only at hk
    omega
end
end Go.Proofs.Mem
