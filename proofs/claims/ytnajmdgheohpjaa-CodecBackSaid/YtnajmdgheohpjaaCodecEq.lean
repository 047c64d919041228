import Derived.Test.YtnajmdgheohpjaaCodecMath
import Derived.Test.YtnajmdgheohpjaaLaw
/- Requests and replies compared. -/
namespace Go.Proofs.Ytnajmdgheohpjaa.Codec
open Go.ChangeShapes Go.WideShapes Go.ChangeAt Go.RowKit Go.IntWalk Go.Proofs.NumMath Go.Proofs.Mem NumBytes Law
set_option linter.unusedVariables false
set_option maxRecDepth 100000 in
theorem eqlP (a b : Rp) (ha : a.Ok) (hb : b.Ok) (w : World) : (binOp .eql 41 (.agg (cellsP a)) (.agg (cellsP b))).run Try.prog w = .ok (.bool (decide (tellB a = tellB b))) w := by
  have e : decide (tellB a = tellB b) = decide (a.err = b.err ∧ a.a = b.a ∧ a.b = b.b ∧ a.c = b.c) := by
    refine decide_eq_decide.mpr ⟨fun h => ?_, fun ⟨h0, h1, h2, h3⟩ => by unfold tellB; rw [h0, h1, h2, h3]⟩
    have h' := of_tell a ha
    rw [h, of_tell b hb] at h'
    subst h'
    exact ⟨rfl, rfl, rfl, rfl⟩
  rw [e]
  unfold cellsP
  go_simp
  by_cases h0 : a.err = b.err <;> by_cases h1 : a.a = b.a <;> by_cases h2 : a.b = b.b <;> by_cases h3 : a.c = b.c <;> simp [h0, h1, h2, h3]
theorem grdP (a b : Rp) (x y : Operand) (w : World) : (eqGuard .eql 41 x y (.agg (cellsP a)) (.agg (cellsP b))).run Try.prog w = .ok () w := by
  unfold cellsP
  go_simp
set_option maxRecDepth 100000 in
set_option maxHeartbeats 2000000 in
theorem eqlQ (a b : Rq) (ha : a.Ok) (hb : b.Ok) (w : World) : (binOp .eql 27 (.agg (cellsQ a)) (.agg (cellsQ b))).run Try.prog w = .ok (.bool (decide (askB a = askB b))) w := by
  have e : decide (askB a = askB b) = decide (a.kind = b.kind ∧ a.n = b.n ∧ a.k = b.k ∧ a.who = b.who ∧ a.whom = b.whom ∧ a.what = b.what ∧ a.id = b.id ∧ a.am = b.am ∧ a.price = b.price) := by
    refine decide_eq_decide.mpr ⟨fun h => ?_, fun ⟨h0, h1, h2, h3, h4, h5, h6, h7, h8⟩ => by unfold askB; rw [h0, h1, h2, h3, h4, h5, h6, h7, h8]⟩
    have h' := of_ask a ha
    rw [h, of_ask b hb] at h'
    subst h'
    exact ⟨rfl, rfl, rfl, rfl, rfl, rfl, rfl, rfl, rfl⟩
  rw [e]
  unfold cellsQ
  go_simp
  by_cases h0 : a.kind = b.kind
  case neg => simp [h0]
  by_cases h1 : a.n = b.n
  case neg => simp [h0, h1]
  by_cases h2 : a.k = b.k
  case neg => simp [h0, h1, h2]
  by_cases h3 : a.who = b.who
  case neg => simp [h0, h1, h2, h3]
  by_cases h4 : a.whom = b.whom
  case neg => simp [h0, h1, h2, h3, h4]
  by_cases h5 : a.what = b.what
  case neg => simp [h0, h1, h2, h3, h4, h5]
  by_cases h6 : a.id = b.id
  case neg => simp [h0, h1, h2, h3, h4, h5, h6]
  by_cases h7 : a.am = b.am <;> by_cases h8 : a.price = b.price <;> simp [h0, h1, h2, h3, h4, h5, h6, h7, h8]
theorem grdQ (a b : Rq) (x y : Operand) (w : World) : (eqGuard .eql 27 x y (.agg (cellsQ a)) (.agg (cellsQ b))).run Try.prog w = .ok () w := by
  unfold cellsQ
  go_simp
end Go.Proofs.Ytnajmdgheohpjaa.Codec
