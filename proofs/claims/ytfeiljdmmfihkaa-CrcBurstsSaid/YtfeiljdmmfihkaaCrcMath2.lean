import Derived.Test.YtfeiljdmmfihkaaCrcMath
/- CRC-32C: what a run of bits changes. -/
namespace Go.Proofs.CrcMath
set_option linter.unusedVariables false
theorem not_not_xor (a b : BitVec 32) : ~~~a ^^^ ~~~b = a ^^^ b := by
  rw [← BitVec.allOnes_xor (x := a), ← BitVec.allOnes_xor (x := b)]
  rw [show (BitVec.allOnes 32 ^^^ a) ^^^ (BitVec.allOnes 32 ^^^ b) = (BitVec.allOnes 32 ^^^ BitVec.allOnes 32) ^^^ (a ^^^ b) by ac_rfl, BitVec.xor_self, BitVec.zero_xor]
theorem next_xor (s t x y : BitVec 32) : nextB s x ^^^ nextB t y = itB 8 ((s ^^^ t) ^^^ (x ^^^ y)) := by
  unfold nextB
  rw [not_not_xor, ← it_xor, ← not_not_xor s t]
  congr 1
  ac_rfl
theorem it_add (a b : Nat) (q : BitVec 32) : itB (a + b) q = itB b (itB a q) := by
  induction a generalizing q with
  | zero => rw [Nat.zero_add]; rfl
  | succ a ih => rw [Nat.succ_add]; exact ih _
theorem sum_xor (l : List Int) : ∀ s t : BitVec 32, sumF s l ^^^ sumF t l = itB (8 * l.length) (s ^^^ t) := by
  induction l with
  | nil => intro s t; rfl
  | cons x l ih =>
    intro s t
    show sumF (nextB s _) l ^^^ sumF (nextB t _) l = _
    rw [ih, next_xor, BitVec.xor_self, BitVec.xor_zero, ← it_add, List.length_cons, show 8 + 8 * l.length = 8 * (l.length + 1) by omega]
/-- one bit, so many steps -/
theorem step_two : ∀ j, j < 31 → stepB (BitVec.twoPow 32 (j + 1)) = BitVec.twoPow 32 j := by decide
theorem it_two : ∀ j, j < 32 → itB j (BitVec.twoPow 32 j) = 1#32 := by
  intro j
  induction j with
  | zero => intro _; rfl
  | succ j ih => intro h; show itB j (stepB _) = _; rw [step_two j (by omega)]; exact ih (by omega)
theorem it_two' (m j : Nat) (h : j < 32) (hm : j ≤ m) : itB m (BitVec.twoPow 32 j) = itB (m - j) 1#32 := by
  rw [show m = j + (m - j) by omega, it_add, it_two j h, show j + (m - j) - j = m - j by omega]
/-- a byte with one bit turned -/
theorem sum_turn (pre post : List Int) (x y : Int) (j : Nat) (hj : j < 8) (h : BitVec.ofInt 32 y ^^^ BitVec.ofInt 32 x = BitVec.twoPow 32 j) :
    sumF 0#32 (pre ++ y :: post) ^^^ sumF 0#32 (pre ++ x :: post) = itB (8 * (post.length + 1) - j) 1#32 := by
  rw [sumF_app, sumF_app]
  show sumF (nextB _ _) post ^^^ sumF (nextB _ _) post = _
  rw [sum_xor, next_xor, BitVec.xor_self, BitVec.zero_xor, h, it_two' 8 j (by omega) (by omega), ← it_add, show 8 - j + 8 * post.length = 8 * (post.length + 1) - j by omega]
/-- what stands for the run, bit by bit -/
def Run (l o : List Int) (f i : Nat) (c : Bool) : Prop :=
  o.length = l.length ∧ ∃ R : BitVec 32, itB 32 (sumF 0#32 l ^^^ sumF 0#32 o) = itB (8 * l.length - f + 32) R ∧ R.toNat < 2 ^ i ∧ c = decide (R ≠ 0#32)
theorem it_nil (k : Nat) : itB k 0#32 = 0#32 := by
  induction k with
  | zero => rfl
  | succ k ih => show itB k (stepB 0#32) = _; rw [show stepB 0#32 = 0#32 by decide]; exact ih
theorem Run.start (l : List Int) (f : Nat) : Run l l f 0 false := by
  refine ⟨rfl, 0#32, ?_, by decide, by decide⟩
  rw [BitVec.xor_self, it_nil, it_nil]
theorem Run.skip {l o : List Int} {f i : Nat} {c : Bool} (h : Run l o f i c) : Run l o f (i + 1) c := by
  obtain ⟨h0, R, h1, h2, h3⟩ := h
  exact ⟨h0, R, h1, by rw [Nat.pow_succ]; omega, h3⟩
theorem Run.turn {l o : List Int} {f i : Nat} {c : Bool} {y : Int} (h : Run l o f i c) (hi : i < 32) (hf : f + i < 8 * l.length)
    (hy : BitVec.ofInt 32 y ^^^ BitVec.ofInt 32 (o.getD ((f + i) / 8) 0) = BitVec.twoPow 32 ((f + i) % 8)) : Run l (o.set ((f + i) / 8) y) f (i + 1) true := by
  obtain ⟨h0, R, h1, h2, h3⟩ := h
  have hk : (f + i) / 8 < o.length := by omega
  have e1 : o.set ((f + i) / 8) y = o.take ((f + i) / 8) ++ y :: o.drop ((f + i) / 8 + 1) := List.set_eq_take_append_cons_drop.trans (by rw [if_pos hk])
  have e2 : o = o.take ((f + i) / 8) ++ o.getD ((f + i) / 8) 0 :: o.drop ((f + i) / 8 + 1) := by
    have := List.take_append_drop ((f + i) / 8) o
    rw [List.drop_eq_getElem_cons hk] at this
    rw [List.getD_eq_getElem?_getD, List.getElem?_eq_getElem hk]
    exact this.symm
  have e3 := sum_turn (o.take ((f + i) / 8)) (o.drop ((f + i) / 8 + 1)) _ y ((f + i) % 8) (by omega) hy
  rw [← e1, ← e2, List.length_drop, h0] at e3
  have hlen : 8 * (l.length - ((f + i) / 8 + 1) + 1) - (f + i) % 8 = 8 * l.length - f - i := by omega
  rw [hlen] at e3
  have hne : R ^^^ BitVec.twoPow 32 i ≠ 0#32 := by
    intro e
    have := congrArg BitVec.toNat (xor_eq_zero e)
    rw [BitVec.toNat_twoPow, Nat.mod_eq_of_lt (Nat.pow_lt_pow_right (by omega) hi)] at this
    omega
  refine ⟨by rw [List.length_set, h0], R ^^^ BitVec.twoPow 32 i, ?_, ?_, by rw [decide_eq_true hne]⟩
  · rw [it_xor (8 * l.length - f + 32) R, ← h1, it_two' _ i hi (by omega)]
    rw [show sumF 0#32 l ^^^ sumF 0#32 (o.set ((f + i) / 8) y) = (sumF 0#32 l ^^^ sumF 0#32 o) ^^^ (sumF 0#32 (o.set ((f + i) / 8) y) ^^^ sumF 0#32 o) by
      rw [show (sumF 0#32 l ^^^ sumF 0#32 o) ^^^ (sumF 0#32 (o.set ((f + i) / 8) y) ^^^ sumF 0#32 o) = sumF 0#32 l ^^^ sumF 0#32 (o.set ((f + i) / 8) y) ^^^ (sumF 0#32 o ^^^ sumF 0#32 o) by ac_rfl, BitVec.xor_self, BitVec.xor_zero]]
    rw [it_xor 32 (sumF 0#32 l ^^^ sumF 0#32 o), e3, ← it_add, show 8 * l.length - f - i + 32 = 8 * l.length - f + 32 - i by omega]
  · rw [BitVec.toNat_xor, BitVec.toNat_twoPow, Nat.mod_eq_of_lt (Nat.pow_lt_pow_right (by omega) hi)]
    exact Nat.xor_lt_two_pow (by rw [Nat.pow_succ]; omega) (Nat.pow_lt_pow_right (by omega) (by omega))
theorem Run.done {l o : List Int} {f i : Nat} {c : Bool} (h : Run l o f i c) : (!decide (tn (sumF 0#32 l) = tn (sumF 0#32 o))) = c := by
  obtain ⟨h0, R, h1, h2, h3⟩ := h
  rw [h3]
  by_cases e : sumF 0#32 l = sumF 0#32 o
  · have : R = 0#32 := by
      rw [e, BitVec.xor_self, it_nil] at h1
      exact it_zero _ _ h1.symm
    rw [this, e]; simp
  · have : R ≠ 0#32 := by
      intro hR
      rw [hR, it_nil] at h1
      exact e (xor_eq_zero (it_zero _ _ h1))
    rw [decide_eq_false (fun hh => e (tn_inj hh)), decide_eq_true this]; rfl
end Go.Proofs.CrcMath
