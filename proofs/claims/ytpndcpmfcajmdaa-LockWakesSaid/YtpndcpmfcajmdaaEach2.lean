import Derived.Test.YtpndcpmfcajmdaaEach
/- A region that draws its order, slot by slot: each operation is walked once, at the act that the text's order gives. -/
namespace Go.Proofs.Each
open Go
set_option linter.unusedVariables false
def upd (f : Nat → Value) (i : Nat) (v : Value) : Nat → Value := fun j => if j = i then v else f j
theorem upd_same (f : Nat → Value) (i : Nat) (v : Value) : upd f i v i = v := by simp [upd]
theorem upd_other (f : Nat → Value) (i j : Nat) (v : Value) (h : j ≠ i) : upd f i v j = f j := by simp [upd, h]
theorem upd_self (f : Nat → Value) (i : Nat) : upd f i (f i) = f := by funext j; unfold upd; split <;> simp_all
section
variable {P : Program} {ops : Array Oper} {a0 : Act} {L L' : Nat → Prop} {vals : Nat → Value} {a a' : Act}
structure Agree (ops : Array Oper) (a0 : Act) (L : Nat → Prop) (vals : Nat → Value) (a : Act) : Prop where
  defers : a.defers = a0.defers
  off : ∀ d, (∀ j oj, ops[j]? = some oj → L j → oj.dst ≠ some d) → a.tmps[d]? = a0.tmps[d]?
  on_ : ∀ j oj d, ops[j]? = some oj → L j → oj.dst = some d → a.tmps[d]? = (a0.tmps[d]?).map fun _ => vals j
/-- no two write one slot -/
def Apart (ops : Array Oper) : Prop := ∀ (i j : Nat) (oi oj : Oper) (d : Tmp), ops[i]? = some oi → ops[j]? = some oj → oi.dst = some d → oj.dst = some d → i = j
theorem Agree.start (h : ∀ j, ¬ L j) : Agree ops a0 L vals a0 := ⟨rfl, fun _ _ => rfl, fun j _ _ _ hj _ => absurd hj (h j)⟩
theorem Agree.put (hA : Apart ops) (h : Agree ops a0 L vals a) {i : Nat} {oi : Oper} (hi : ops[i]? = some oi) (hn : ¬ L i) (v : Value) (hL : ∀ j, L' j ↔ (L j ∨ j = i)) :
    Agree ops a0 L' (upd vals i v) (a.put oi.dst v) := by
  cases hd : oi.dst with
  | none =>
    refine ⟨h.defers, fun d hf => h.off d fun j oj hj hl => hf j oj hj ((hL j).2 (.inl hl)), fun j oj d hj hl hjd => ?_⟩
    rcases (hL j).1 hl with h1 | h1
    · rw [upd_other _ _ _ _ (by rintro rfl; exact hn h1)]; exact h.on_ j oj d hj h1 hjd
    · subst h1; rw [hi] at hj; cases hj; rw [hd] at hjd; cases hjd
  | some e =>
    refine ⟨h.defers, fun d hf => ?_, fun j oj d hj hl hjd => ?_⟩
    · have hne : e ≠ d := by rintro rfl; exact hf i oi hi ((hL i).2 (.inr rfl)) hd
      show (a.tmps.setIfInBounds e v)[d]? = _
      rw [Array.getElem?_setIfInBounds, if_neg hne]
      exact h.off d fun j oj hj hl => hf j oj hj ((hL j).2 (.inl hl))
    · show (a.tmps.setIfInBounds e v)[d]? = _
      by_cases hji : j = i
      · subst hji
        rw [hi] at hj; cases hj
        rw [hd] at hjd; cases hjd
        have ho := h.off e fun j' oj' hj' hl' hd' => hn (hA _ _ _ _ _ hj' hi hd' hd ▸ hl')
        rw [Array.getElem?_setIfInBounds, if_pos rfl, upd_same]
        by_cases hs : e < a.tmps.size
        · rw [if_pos hs]; rw [Array.getElem?_eq_getElem hs] at ho; rw [← ho]; rfl
        · rw [if_neg hs]; rw [Array.getElem?_eq_none (Nat.le_of_not_lt hs)] at ho; rw [← ho]; rfl
      · have hne : e ≠ d := by rintro rfl; exact hji (hA _ _ _ _ _ hj hi hjd hd)
        rw [Array.getElem?_setIfInBounds, if_neg hne, upd_other _ _ _ _ hji]
        rcases (hL j).1 hl with h1 | h1
        · exact h.on_ j oj d hj h1 hjd
        · exact absurd h1 hji
/-- the act that the text's order gives ahead of the i-th -/
def T (ops : Array Oper) (a0 : Act) (vals : Nat → Value) : Nat → Act
  | 0 => a0
  | i + 1 => (T ops a0 vals i).put ((ops[i]?).bind (·.dst)) (vals i)
theorem agree_T (hA : Apart ops) (vals : Nat → Value) : ∀ i, i ≤ ops.size → Agree ops a0 (· < i) vals (T ops a0 vals i) := by
  intro i
  induction i with
  | zero => intro _; exact Agree.start fun j h => Nat.not_lt_zero j h
  | succ i ih =>
    intro hi
    have hio : ops[i]? = some ops[i] := Array.getElem?_eq_getElem (by omega)
    have := (ih (by omega)).put (L' := (· < i + 1)) hA hio (Nat.lt_irrefl i) (vals i) (fun j => by show j < i + 1 ↔ (j < i ∨ j = i); omega)
    rw [upd_self] at this
    unfold T
    rw [hio]; exact this
theorem Agree.at_ (h : Agree ops a0 L vals a) (h' : Agree ops a0 L' vals a') (d : Tmp) (hd : ∀ j oj, ops[j]? = some oj → oj.dst = some d → (L j ↔ L' j)) : a.tmps[d]? = a'.tmps[d]? := by
  by_cases hx : ∃ j oj, ops[j]? = some oj ∧ L j ∧ oj.dst = some d
  · obtain ⟨j, oj, h1, h2, h3⟩ := hx
    rw [h.on_ j oj d h1 h2 h3, h'.on_ j oj d h1 ((hd j oj h1 h3).1 h2) h3]
  · rw [h.off d fun j oj h1 h2 h3 => hx ⟨j, oj, h1, h2, h3⟩, h'.off d fun j oj h1 h2 h3 => hx ⟨j, oj, h1, (hd j oj h1 h3).2 h2, h3⟩]
theorem Agree.same (h : Agree ops a0 L vals a) (h' : Agree ops a0 L' vals a') (hL : ∀ j, j < ops.size → (L j ↔ L' j)) : a = a' := by
  have ht : a.tmps = a'.tmps := by
    apply Array.ext_getElem?
    intro d
    refine h.at_ h' d fun j oj hj _ => hL j ?_
    rcases Nat.lt_or_ge j ops.size with h1 | h1
    · exact h1
    · rw [Array.getElem?_eq_none h1] at hj; cases hj
  obtain ⟨t, ds⟩ := a
  obtain ⟨t', ds'⟩ := a'
  have e := h.defers.trans h'.defers.symm
  simp only at ht e
  rw [ht, e]
theorem exec_same (o : Oper) (hs : ∀ cs b, o.op ≠ .select cs b) (hl : ∀ d ∈ o.looksAt ops, a.tmps[d]? = a'.tmps[d]?) : execOp a.eval o = execOp a'.eval o :=
  execOp_congr o hs fun x hx => by
    cases x with
    | tmp d =>
      have := hl d (List.mem_append_left _ (List.mem_filterMap.2 ⟨.tmp d, by simpa using hx, rfl⟩))
      simp only [Act.eval, Array.getD_eq_getD_getElem?, this]
    | const v => rfl
    | global g => rfl
    | func f => rfl
theorem wanted_same (o : Oper) (hl : ∀ d ∈ o.looksAt ops, a.tmps[d]? = a'.tmps[d]?) : Region.wanted o (yielded ops a.tmps) = Region.wanted o (yielded ops a'.tmps) := by
  unfold Region.wanted
  cases hg : o.guard with
  | none => rfl
  | some gb =>
    obtain ⟨g, b⟩ := gb
    have : yielded ops a.tmps g = yielded ops a'.tmps g := by
      unfold yielded
      cases hd : (ops[g]?).bind (·.dst) with
      | none => rfl
      | some d =>
        have := hl d (List.mem_append_right _ (by simp [hg, hd]))
        simp [this]
    simp only [this]
end
end Go.Proofs.Each
