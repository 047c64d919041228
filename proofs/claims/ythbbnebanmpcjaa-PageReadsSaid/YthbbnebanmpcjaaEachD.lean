import Derived.Test.YthbbnebanmpcjaaEachC
/- A region that draws its order, two of whose operations write: each by a contract that asks for what the other leaves. -/
namespace Go.Proofs.Each
open Go Go.RowKit Go.Proofs.Mem
set_option linter.unusedVariables false
def C2 (w0 : World) (s1 s2 : Nat) (S : Nat → Prop) (A B : World → Prop) (L : Nat → Bool) (W : World) : Prop := Fr S w0 W ∧ (L s1 = false → A W) ∧ (L s2 = false → B W)
structure R2 (s1 s2 : Nat) (S : Nat → Prop) (A B : World → Prop) (F1 F2 : Value → World → Prop) (i : Nat) (W W' : World) : Prop where
  fr : Fr S W W'
  a : i ≠ s1 → A W → A W'
  b : i ≠ s2 → B W → B W'
  f1 : i ≠ s1 → ∀ v, F1 v W → F1 v W'
  f2 : i ≠ s2 → ∀ v, F2 v W → F2 v W'
def F2 (s1 s2 : Nat) (Fin1 Fin2 : Value → World → Prop) (Es : List Value) (j : Nat) (vals : Nat → Value) (W : World) : Prop := if j = s1 then Fin1 (vals j) W else if j = s2 then Fin2 (vals j) W else vals j = Es.getD j undef
section
variable {s1 s2 j i : Nat} {S : Nat → Prop} {A B : World → Prop} {Fin1 Fin2 : Value → World → Prop} {Es : List Value} {vals : Nat → Value} {W W' : World} {v E : Value}
theorem R2.same : R2 s1 s2 S A B Fin1 Fin2 i W W := ⟨Fr.refl _ _, fun _ h => h, fun _ h => h, fun _ _ h => h, fun _ _ h => h⟩
theorem F2.val (h1 : j ≠ s1) (h2 : j ≠ s2) (hE : Es.getD j undef = E) (hf : v = E) : F2 s1 s2 Fin1 Fin2 Es j (upd vals j v) W := by
  unfold F2; rw [if_neg h1, if_neg h2, upd_same, hE]; exact hf
theorem F2.get (hf : F2 s1 s2 Fin1 Fin2 Es j vals W) (h1 : j ≠ s1) (h2 : j ≠ s2) : vals j = Es.getD j undef := by
  unfold F2 at hf; rw [if_neg h1, if_neg h2] at hf; exact hf
theorem F2.one (h : Fin1 v W) : F2 s1 s2 Fin1 Fin2 Es s1 (upd vals s1 v) W := by unfold F2; rw [if_pos rfl, upd_same]; exact h
theorem F2.two (hn : s2 ≠ s1) (h : Fin2 v W) : F2 s1 s2 Fin1 Fin2 Es s2 (upd vals s2 v) W := by unfold F2; rw [if_neg hn, if_pos rfl, upd_same]; exact h
theorem F2.out1 (h : F2 s1 s2 Fin1 Fin2 Es s1 vals W) : Fin1 (vals s1) W := by unfold F2 at h; rw [if_pos rfl] at h; exact h
theorem F2.out2 (h : F2 s1 s2 Fin1 Fin2 Es s2 vals W) (hn : s2 ≠ s1) : Fin2 (vals s2) W := by unfold F2 at h; rw [if_neg hn, if_pos rfl] at h; exact h
end
theorem wp_region_two {P : Program} {l : List Oper} {a0 : Act} {id : Nat} {Q : Exit → Act → World → Prop} {w0 : World} (hm : P.follows .mixedOrders = true) (hB : fitB l.toArray = true)
    (s1 s2 : Nat) (hn : s2 ≠ s1) (S : Nat → Prop) (A B : World → Prop) (Fin1 Fin2 : Value → World → Prop) (Es : List Value) (hA0 : A w0.drew) (hB0 : B w0.drew)
    (hob : ∀ vals : Nat → Value, ObL P l.toArray (C2 w0 s1 s2 S A B) (R2 s1 s2 S A B Fin1 Fin2) (F2 s1 s2 Fin1 Fin2 Es) vals 0 l a0)
    (hend : ∀ (vals : Nat → Value) W, Fr S w0 W → Fin1 (vals s1) W → Fin2 (vals s2) W → (∀ i, i < l.length → i ≠ s1 → i ≠ s2 → vals i = Es.getD i undef) → Q .normal (TL vals 0 l a0) W) (hs1 : s1 < l.length) (hs2 : s2 < l.length) : (Code.region id l.toArray true).wp P Q a0 w0 := by
  refine wp_region_obL hm hB (C2 w0 s1 s2 S A B) (R2 s1 s2 S A B Fin1 Fin2) (F2 s1 s2 Fin1 Fin2 Es) ?_ ?_ ?_ ?_ hob ?_
  · intro L _; exact ⟨(Fr.refl _ _).drew, fun _ => hA0, fun _ => hB0⟩
  · intro i L L' W W' hi hLL h h'
    refine ⟨h.1.trans h'.fr, fun hL' => ?_, fun hL' => ?_⟩
    · have hLs : L s1 = false := by
        cases e : L s1 with
        | false => rfl
        | true => rw [(hLL s1).2 (.inl e)] at hL'; cases hL'
      have his : i ≠ s1 := fun e => by rw [(hLL s1).2 (.inr e.symm)] at hL'; cases hL'
      exact h'.a his (h.2.1 hLs)
    · have hLs : L s2 = false := by
        cases e : L s2 with
        | false => rfl
        | true => rw [(hLL s2).2 (.inl e)] at hL'; cases hL'
      have his : i ≠ s2 := fun e => by rw [(hLL s2).2 (.inr e.symm)] at hL'; cases hL'
      exact h'.b his (h.2.2 hLs)
  · intro i j L vals W W' hji hc hr hf
    unfold F2 at hf ⊢
    by_cases h1 : j = s1
    · rw [if_pos h1] at hf ⊢
      exact hr.f1 (fun e => hji (by rw [e, h1])) _ hf
    · rw [if_neg h1] at hf ⊢
      by_cases h2 : j = s2
      · rw [if_pos h2] at hf ⊢
        exact hr.f2 (fun e => hji (by rw [e, h2])) _ hf
      · rw [if_neg h2] at hf ⊢
        exact hf
  · intro j oj vals vals' hj hv hw W hf
    unfold F2 at hf ⊢
    rw [← hv]; exact hf
  · intro L vals W hc h
    exact hend vals W hc.1 (h s1 hs1).out1 ((h s2 hs2).out2 hn) (fun i hi h1 h2 => (h i hi).get h1 h2)
end Go.Proofs.Each
