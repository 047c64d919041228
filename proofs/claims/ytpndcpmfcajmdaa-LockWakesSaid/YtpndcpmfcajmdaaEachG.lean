import Derived.Test.YtpndcpmfcajmdaaEachA
/- A region that draws its order: one operation appends to a row, another writes block g (a map, say); all others make memory at most. -/
namespace Go.Proofs.Each
open Go Go.RowKit Go.Proofs.Mem
set_option linter.unusedVariables false
/-- what is said of the operations: of s what it leaves, of any other one what is listed -/
def Fg (s p : Nat) (Fin : Value → World → Prop) (Fs : List (Value → World → Prop)) (j : Nat) (vals : Nat → Value) (W : World) : Prop := if j = s then Fin (vals p) W else (Fs.getD j fun _ _ => True) (vals j) W
section
variable {s p j : Nat} {Fin : Value → World → Prop} {Fs : List (Value → World → Prop)} {vals : Nat → Value} {W : World} {f : Value → World → Prop} {v : Value}
theorem Fg.val (h : j ≠ s) (hE : (Fs.getD j fun _ _ => True) = f) (hf : f v W) : Fg s p Fin Fs j (upd vals j v) W := by
  unfold Fg; rw [if_neg h, upd_same, hE]; exact hf
theorem Fg.get (hf : Fg s p Fin Fs j vals W) (h : j ≠ s) : (Fs.getD j fun _ _ => True) (vals j) W := by
  unfold Fg at hf; rw [if_neg h] at hf; exact hf
theorem Fg.last (h : p ≠ s) (hb : Fin (vals p) W) : Fg s p Fin Fs s (upd vals s v) W := by
  unfold Fg; rw [if_pos rfl, upd_other _ _ _ _ h]; exact hb
end
theorem wp_region_apm {P : Program} {l : List Oper} {a0 : Act} {id : Nat} {Q : Exit → Act → World → Prop} {w0 : World} (hm : P.follows .mixedOrders = true) (hB : fitB l.toArray = true)
    (row : Option Nat) (g p s : Nat) (Fin : Value → World → Prop) (Fs : List (Value → World → Prop)) (hps : p ≠ s)
    (hdep : ∀ o, l[s]? = some o → ∃ e ∈ o.after, Region.binds .any e = true ∧ e.on = p)
    (hfin : ∀ v W W', Fr (fun x => row = some x) W W' → Fin v W → Fin v W')
    (hstay : ∀ j v W W', j ≠ s → w0.heap.size ≤ W.heap.size → Fr (fun x => (j ≠ p ∧ row = some x) ∨ x = g) W W' → (Fs.getD j fun _ _ => True) v W → (Fs.getD j fun _ _ => True) v W')
    (hob : ∀ vals : Nat → Value, ObL P l.toArray (Ca w0 row g p s) (Ra row g p s) (Fg s p Fin Fs) vals 0 l a0)
    (hend : ∀ (vals : Nat → Value) W, Fr (fun x => row = some x ∨ x = g) w0 W → Fin (vals p) W → (∀ i, i < l.length → i ≠ s → (Fs.getD i fun _ _ => True) (vals i) W) → s < l.length → Q .normal (TL vals 0 l a0) W) (hs : s < l.length) : (Code.region id l.toArray true).wp P Q a0 w0 := by
  refine wp_region_obL hm hB (Ca w0 row g p s) (Ra row g p s) (Fg s p Fin Fs) ?_ ?_ ?_ ?_ hob ?_
  · intro L _; exact (Fr.refl _ _).drew
  · intro i L L' W W' hi hLL h h'
    refine Fr.trans' (h.mono ?_) h' ?_
    · intro k _ hk
      rcases hk with ⟨h1, h2⟩ | ⟨h1, h2⟩
      · exact .inl ⟨(hLL p).2 (.inl h1), h2⟩
      · exact .inr ⟨(hLL s).2 (.inl h1), h2⟩
    · intro k _ hk
      rcases hk with ⟨h1, h2⟩ | ⟨h1, h2⟩
      · exact .inl ⟨(hLL p).2 (.inr h1.symm), h2⟩
      · exact .inr ⟨(hLL s).2 (.inr h1.symm), h2⟩
  · intro i j L vals W W' hji hc hr hf
    unfold Fg at hf ⊢
    by_cases hj : j = s
    · rw [if_pos hj] at hf ⊢
      refine hfin _ W W' (hr.mono fun k _ hk => ?_) hf
      rcases hk with ⟨_, h1⟩ | ⟨h1, _⟩
      · exact h1
      · exact absurd (hj.trans h1.symm) hji
    · rw [if_neg hj] at hf ⊢
      refine hstay j _ W W' hj hc.size (hr.mono (fun k _ hk => ?_)) hf
      rcases hk with ⟨h1, h2⟩ | ⟨_, h2⟩
      · exact .inl ⟨fun e => hji (e.trans h1.symm), h2⟩
      · exact .inr h2
  · intro j oj vals vals' hj hv hw W hf
    unfold Fg at hf ⊢
    by_cases h : j = s
    · rw [if_pos h] at hf ⊢
      subst h
      obtain ⟨e, he, hb, rfl⟩ := hdep oj hj
      rw [← hw e he hb]; exact hf
    · rw [if_neg h] at hf ⊢
      rw [← hv]; exact hf
  · intro L vals W hc h
    have h1 := h s hs
    unfold Fg at h1
    rw [if_pos rfl] at h1
    refine hend vals W (hc.mono fun k _ hk => ?_) h1 (fun i hi hne => ?_) hs
    · rcases hk with ⟨_, h2⟩ | ⟨_, h2⟩
      · exact .inl h2
      · exact .inr h2
    · have := h i hi
      unfold Fg at this
      rwa [if_neg hne] at this
end Go.Proofs.Each
