import Derived.Test.YteldfoplhcnljaaKn6
/- Pure: who is reached, by a list that grows. -/
namespace Go.Proofs.Yteldfoplhcnljaa.Knot
open Go.Proofs.Ring
set_option linter.unusedVariables false
theorem nodup_le : ∀ {l m : List Int}, l.Nodup → (∀ x ∈ l, x ∈ m) → l.length ≤ m.length
  | [], m, _, _ => Nat.zero_le _
  | a :: l, m, h, hs => by
    rw [List.nodup_cons] at h
    have h1 := nodup_le (l := l) (m := m.erase a) h.2 (fun x hx => by
      have hne : x ≠ a := fun e => h.1 (e ▸ hx)
      exact (List.mem_erase_of_ne hne).2 (hs x (List.mem_cons_of_mem _ hx)))
    have h2 := List.length_erase_of_mem (hs a (List.mem_cons_self ..))
    have h3 := List.length_pos_of_mem (hs a (List.mem_cons_self ..))
    rw [List.length_cons]; omega
/-- all edges of the first i, and k edges of the next one, have been looked at -/
structure Bf (l : List Ed) (fr : Int) (i k : Nat) (S : List Int) (bk : Bool) : Prop where
  nd : S.Nodup
  reach : ∀ x ∈ S, Ring.Reach (srt l) fr x
  first : S.head? = some fr
  sub : ∀ x ∈ S, x = fr ∨ x ∈ us l
  shut : ∀ j, j < i → ∀ n ∈ tos l (S.getD j 0), n ∈ S
  part : ∀ n ∈ tos (l.take k) (S.getD i 0), n ∈ S
  lt : i ≤ S.length
  back : bk = true ↔ (∃ j, j < i ∧ fr ∈ tos l (S.getD j 0)) ∨ fr ∈ tos (l.take k) (S.getD i 0)
theorem Bf.pos {l : List Ed} {fr : Int} {i k : Nat} {S : List Int} {bk : Bool} (h : Bf l fr i k S bk) : 0 < S.length := by
  have h1 := h.first
  cases S with
  | nil => cases h1
  | cons a b => simp
theorem Bf.len {l : List Ed} {fr : Int} {i k : Nat} {S : List Int} {bk : Bool} (h : Bf l fr i k S bk) : S.length ≤ l.length + 1 := by
  have := nodup_le (m := fr :: us l) h.nd (fun x hx => List.mem_cons.2 (h.sub x hx))
  simpa [us] using this
theorem Bf.start (l : List Ed) (fr : Int) : Bf l fr 0 0 [fr] false :=
  ⟨by simp, fun x hx => by rw [List.mem_singleton.1 hx]; exact .start, rfl, fun x hx => .inl (List.mem_singleton.1 hx), fun j hj => by omega, fun n hn => by simp [tos] at hn, Nat.zero_le _, by simp [tos]⟩
theorem tos_take {l : List Ed} {k : Nat} {e : Ed} (he : l[k]? = some e) (x : Int) : tos (l.take (k + 1)) x = if e.a = x then tos (l.take k) x ++ [e.b] else tos (l.take k) x := by
  rw [List.take_add_one, he]
  show tos (l.take k ++ [e]) x = _
  split
  · rename_i h; subst h; exact tos_snoc_same _ e
  · rename_i h; exact tos_snoc_other _ e (fun e' => h e'.symm)
section
variable {l : List Ed} {fr : Int} {i k : Nat} {S : List Int} {bk : Bool} {e : Ed}
theorem Bf.skip (h : Bf l fr i k S bk) (he : l[k]? = some e) (hn : e.a ≠ S.getD i 0) : Bf l fr i (k + 1) S bk := by
  have ht := tos_take he (S.getD i 0)
  rw [if_neg hn] at ht
  exact ⟨h.nd, h.reach, h.first, h.sub, h.shut, by rw [ht]; exact h.part, h.lt, by rw [ht]; exact h.back⟩
theorem Bf.in_ (h : Bf l fr i k S bk) (he : l[k]? = some e) (hn : e.a = S.getD i 0) (hm : e.b ∈ S) : Bf l fr i (k + 1) S (bk || decide (e.b = fr)) := by
  have ht := tos_take he (S.getD i 0)
  rw [if_pos hn] at ht
  refine ⟨h.nd, h.reach, h.first, h.sub, h.shut, fun n hx => ?_, h.lt, ?_⟩
  · rw [ht] at hx
    rcases List.mem_append.1 hx with h1 | h1
    · exact h.part n h1
    · rw [List.mem_singleton.1 h1]; exact hm
  · rw [ht, List.mem_append, List.mem_singleton, Bool.or_eq_true, h.back, decide_eq_true_eq]
    constructor
    · rintro ((h1 | h1) | h1)
      · exact .inl h1
      · exact .inr (.inl h1)
      · exact .inr (.inr h1.symm)
    · rintro (h1 | h1 | h1)
      · exact .inl (.inl h1)
      · exact .inl (.inr h1)
      · exact .inr h1.symm
theorem getD_app {S : List Int} {j : Nat} (x : Int) (h : j < S.length) : (S ++ [x]).getD j 0 = S.getD j 0 := by
  simp [List.getD_eq_getElem?_getD, List.getElem?_append_left h]
theorem Bf.new (h : Bf l fr i k S bk) (hi : i < S.length) (he : l[k]? = some e) (hn : e.a = S.getD i 0) (hm : e.b ∉ S) : Bf l fr i (k + 1) (S ++ [e.b]) (bk || decide (e.b = fr)) := by
  have ht := tos_take he (S.getD i 0)
  rw [if_pos hn] at ht
  refine ⟨?_, fun x hx => ?_, ?_, fun x hx => ?_, fun j hj n hx => ?_, fun n hx => ?_, by rw [List.length_append]; have := h.lt; omega, ?_⟩
  · rw [List.nodup_append]
    refine ⟨h.nd, by simp, fun a ha b hb e' => hm ?_⟩
    simp at hb
    rw [← hb, ← e']; exact ha
  · rcases List.mem_append.1 hx with h1 | h1
    · exact h.reach x h1
    · rw [List.mem_singleton.1 h1]
      refine .step (h.reach _ (getD_mem hi)) ((srt_mem _ _ _).2 ?_)
      rw [← hn]
      exact List.mem_map.2 ⟨e, List.mem_filter.2 ⟨List.mem_of_getElem? he, by simp⟩, rfl⟩
  · have := h.first
    cases S with
    | nil => cases this
    | cons a b => simpa using this
  · rcases List.mem_append.1 hx with h1 | h1
    · exact h.sub x h1
    · rw [List.mem_singleton.1 h1]
      exact .inr (List.mem_map.2 ⟨e, List.mem_of_getElem? he, rfl⟩)
  · rw [getD_app _ (by omega)] at hx
    exact List.mem_append_left _ (h.shut j hj n hx)
  · rw [getD_app _ hi, ht] at hx
    rcases List.mem_append.1 hx with h1 | h1
    · exact List.mem_append_left _ (h.part n h1)
    · exact List.mem_append_right _ h1
  · rw [getD_app _ hi, ht, List.mem_append, List.mem_singleton, Bool.or_eq_true, h.back, decide_eq_true_eq]
    constructor
    · rintro ((⟨j, h1, h2⟩ | h1) | h1)
      · exact .inl ⟨j, h1, by rw [getD_app _ (by omega)]; exact h2⟩
      · exact .inr (.inl h1)
      · exact .inr (.inr h1.symm)
    · rintro (⟨j, h1, h2⟩ | h1 | h1)
      · exact .inl (.inl ⟨j, h1, by rwa [getD_app _ (by omega)] at h2⟩)
      · exact .inl (.inr h1)
      · exact .inr h1.symm
theorem Bf.next (h : Bf l fr i l.length S bk) (hi : i < S.length) : Bf l fr (i + 1) 0 S bk := by
  have hp := h.part
  have hb := h.back
  rw [List.take_length] at hp hb
  refine ⟨h.nd, h.reach, h.first, h.sub, fun j hj n hn => ?_, fun n hn => by simp [tos] at hn, hi, ?_⟩
  · rcases Nat.lt_or_ge j i with h1 | h1
    · exact h.shut j h1 n hn
    · obtain rfl : j = i := by omega
      exact hp n hn
  · rw [hb]
    constructor
    · rintro (⟨j, h1, h2⟩ | h1)
      · exact .inl ⟨j, by omega, h2⟩
      · exact .inl ⟨i, by omega, h1⟩
    · rintro (⟨j, h1, h2⟩ | h1)
      · rcases Nat.lt_or_ge j i with h3 | h3
        · exact .inl ⟨j, h3, h2⟩
        · obtain rfl : j = i := by omega
          exact .inr h2
      · simp [tos] at h1
theorem cyc_iff (l : List Ed) (fr : Int) : cyc l fr ≠ [] ↔ ∃ z, Ring.Reach (srt l) fr z ∧ fr ∈ srt l z :=
  ring_iff (us l) (fun x n hn => tos_us ((srt_mem _ _ _).1 hn)) (by rw [us_len]; exact Nat.le_refl _)
theorem Bf.end_ (h : Bf l fr i 0 S bk) (hi : i = S.length) : bk = decide (0 < (cyc l fr).length) := by
  have hb : bk = true ↔ cyc l fr ≠ [] := by
    rw [cyc_iff, h.back]
    constructor
    · rintro (⟨j, h1, h2⟩ | h1)
      · exact ⟨_, h.reach _ (getD_mem (by omega)), (srt_mem _ _ _).2 h2⟩
      · simp [tos] at h1
    · rintro ⟨z, h1, h2⟩
      have hz : z ∈ S := by
        clear h2
        induction h1 with
        | start =>
          have := h.first
          cases S with
          | nil => cases this
          | cons a b => simp at this; rw [this]; exact List.mem_cons_self ..
        | step hx hn ih =>
          obtain ⟨j, hj, e⟩ := mem_getD ih
          exact h.shut j (by omega) _ (by rw [e]; exact (srt_mem _ _ _).1 hn)
      obtain ⟨j, hj, e⟩ := mem_getD hz
      exact .inl ⟨j, by omega, by rw [e]; exact (srt_mem _ _ _).1 h2⟩
  cases e : cyc l fr with
  | nil =>
    cases bk with
    | false => rfl
    | true => exact absurd e (hb.1 rfl)
  | cons a b =>
    cases bk with
    | true => simp
    | false => have := hb.2 (by rw [e]; simp); cases this
end
end Go.Proofs.Yteldfoplhcnljaa.Knot
