import Derived.Test.YtpndcpmfcajmdaaEach3
/- A region that draws its order, slot by slot: what the kernel can see of the text, and the law over memory that grows. -/
namespace Go.Proofs.Each
open Go Go.ChangeShapes Go.WideShapes Go.RowKit
set_option linter.unusedVariables false
def isSelect : Op → Bool
  | .select _ _ => true
  | _ => false
def fitB (ops : Array Oper) : Bool :=
  (List.range ops.size).all fun i => match ops[i]? with
    | none => true
    | some o => !isSelect o.op && o.after.all (fun e => !Region.binds .any e || decide (e.on < i)) &&
        (List.range ops.size).all fun j => match ops[j]? with
          | none => true
          | some oj => match oj.dst with
            | none => true
            | some d => (!(o.looksAt ops).contains d || o.after.any fun e => Region.binds .any e && e.on == j) && (decide (i = j) || o.dst != some d)
theorem fitB_at {ops : Array Oper} (h : fitB ops = true) {i : Nat} {o : Oper} (hi : ops[i]? = some o) :
    isSelect o.op = false ∧ (∀ e ∈ o.after, Region.binds .any e = true → e.on < i) ∧ ∀ (j : Nat) (oj : Oper) (d : Tmp), ops[j]? = some oj → oj.dst = some d →
      (d ∈ o.looksAt ops → ∃ e ∈ o.after, Region.binds .any e = true ∧ e.on = j) ∧ (o.dst = some d → i = j) := by
  have lt : ∀ {k : Nat} {x : Oper}, ops[k]? = some x → k < ops.size := fun {k x} hk => by
    rcases Nat.lt_or_ge k ops.size with h1 | h1
    · exact h1
    · rw [Array.getElem?_eq_none h1] at hk; cases hk
  have h1 := List.all_eq_true.1 h i (List.mem_range.2 (lt hi))
  simp only [hi, Bool.and_eq_true] at h1
  obtain ⟨⟨h2, h3⟩, h4⟩ := h1
  refine ⟨by simpa using h2, fun e he hb => ?_, fun j oj d hj hd => ?_⟩
  · have := (Array.all_eq_true'.1 h3) e he
    rw [hb] at this
    simpa using this
  · have h5 := List.all_eq_true.1 h4 j (List.mem_range.2 (lt hj))
    simp only [hj, hd, Bool.and_eq_true, Bool.or_eq_true] at h5
    obtain ⟨h6, h7⟩ := h5
    constructor
    · intro hm
      rcases h6 with h6 | h6
      · have : (o.looksAt ops).contains d = true := List.contains_iff_mem.2 hm
        rw [this] at h6; cases h6
      · obtain ⟨e, he, hb⟩ := Array.any_eq_true'.1 h6
        rw [Bool.and_eq_true] at hb
        exact ⟨e, he, hb.1, by simpa using hb.2⟩
    · intro ho
      rcases h7 with h7 | h7
      · simpa using h7
      · rw [ho] at h7; simp at h7
/-- over memory that grows -/
theorem wp_region_grows {P : Program} {ops : Array Oper} {a0 : Act} {id : Nat} {Q : Exit → Act → World → Prop} {w0 : World} (hm : P.follows .mixedOrders = true) (hB : fitB ops = true)
    (U : Nat → (Nat → Value) → World → Prop)
    (hUm : ∀ j vals w w', Below w.heap.size w w' → U j vals w → U j vals w')
    (hUc : ∀ (j : Nat) (oj : Oper) vals vals', ops[j]? = some oj → vals j = vals' j → (∀ e ∈ oj.after, Region.binds .any e = true → vals e.on = vals' e.on) → ∀ w, U j vals w → U j vals' w)
    (hstep : ∀ (i : Nat) (oi : Oper), ops[i]? = some oi → ∀ vals w, Below w0.heap.size w0 w → (∀ e ∈ oi.after, Region.binds .any e = true → U e.on vals w) →
      wpOp P ops QF i (fun a' w' => ∃ v, a' = (T ops a0 vals i).put oi.dst v ∧ Below w.heap.size w w' ∧ U i (upd vals i v) w') (T ops a0 vals i) w)
    (hend : ∀ vals w, Below w0.heap.size w0 w → (∀ i, i < ops.size → U i vals w) → Q .normal (T ops a0 vals ops.size) w) : (Code.region id ops true).wp P Q a0 w0 :=
  wp_region_each hm (fun i j oi oj d hi hj hdi hdj => ((fitB_at hB hi).2.2 j oj d hj hdj).2 hdi) (fun i o hi cs b e => by have := (fitB_at hB hi).1; rw [e] at this; cases this)
    (fun i o hi => (fitB_at hB hi).2.1) (fun i o hi d hd j oj hj hjd => ((fitB_at hB hi).2.2 j oj d hj hjd).1 hd)
    (Below w0.heap.size w0) (fun w w' => Below w.heap.size w w') U ⟨rfl, rfl, rfl, Nat.le_refl _, fun _ _ => rfl⟩ (fun w w' h h' => h.trans (h'.mono h.size)) (fun j vals w w' _ h => hUm j vals w w' h) hUc hstep hend
end Go.Proofs.Each
