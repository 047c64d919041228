import Derived.Test.YtpndcpmfcajmdaaEach4
/- A region that draws its order, slot by slot: for a list that is written out. -/
namespace Go.Proofs.Each
open Go Go.ChangeShapes Go.WideShapes Go.RowKit
set_option linter.unusedVariables false
def AllFrom (S : Nat → Oper → Prop) : Nat → List Oper → Prop
  | _, [] => True
  | k, o :: r => S k o ∧ AllFrom S (k + 1) r
theorem AllFrom.at_ {S : Nat → Oper → Prop} : ∀ {l : List Oper} {k : Nat}, AllFrom S k l → ∀ (i : Nat) (o : Oper), l[i]? = some o → S (k + i) o
  | [], _, _, i, o, h => by simp at h
  | x :: r, k, ⟨h1, h2⟩, 0, o, h => by simp at h; subst h; exact h1
  | x :: r, k, ⟨h1, h2⟩, i + 1, o, h => by
    have := AllFrom.at_ h2 i o (by simpa using h)
    rwa [show k + 1 + i = k + (i + 1) by omega] at this
/-- facts of those that are waited for -/
def Waits (U : Nat → (Nat → Value) → World → Prop) (vals : Nat → Value) (w : World) (o : Oper) : Prop :=
  ∀ e ∈ o.after, Region.binds .any e = true → U e.on vals w
/-- one operation -/
def StepOf (P : Program) (ops : Array Oper) (a0 : Act) (w0 : World) (U : Nat → (Nat → Value) → World → Prop) (i : Nat) (o : Oper) : Prop :=
  ∀ vals w, Below w0.heap.size w0 w → Waits U vals w o →
    if Region.wanted o (yielded ops (T ops a0 vals i).tmps) then o.wp P (T ops a0 vals i) w (fun a' w' => ∃ v, a' = (T ops a0 vals i).put o.dst v ∧ Below w.heap.size w w' ∧ U i (upd vals i v) w') QF
    else U i (upd vals i undef) w
theorem wp_region_grows_lit {P : Program} {l : List Oper} {a0 : Act} {id : Nat} {Q : Exit → Act → World → Prop} {w0 : World} (hm : P.follows .mixedOrders = true) (hB : fitB l.toArray = true)
    (U : Nat → (Nat → Value) → World → Prop)
    (hUm : ∀ j vals w w', Below w.heap.size w w' → U j vals w → U j vals w')
    (hUc : ∀ (j : Nat) (oj : Oper) vals vals', l.toArray[j]? = some oj → vals j = vals' j → (∀ e ∈ oj.after, Region.binds .any e = true → vals e.on = vals' e.on) → ∀ w, U j vals w → U j vals' w)
    (hstep : AllFrom (StepOf P l.toArray a0 w0 U) 0 l)
    (hend : ∀ vals w, Below w0.heap.size w0 w → (∀ i, i < l.length → U i vals w) → Q .normal (T l.toArray a0 vals l.length) w) : (Code.region id l.toArray true).wp P Q a0 w0 := by
  refine wp_region_grows hm hB U hUm hUc (fun i oi hi vals w hb hd => ?_) (fun vals w hb h => by have := hend vals w hb (fun i hi => h i (by simpa using hi)); simpa using this)
  have := hstep.at_ i oi (by simpa using hi) vals w hb hd
  rw [Nat.zero_add] at this
  unfold wpOp
  simp only [hi]
  split
  · rename_i hw; rw [if_pos hw] at this; exact .inl this
  · rename_i hw; rw [if_neg hw] at this; exact ⟨undef, rfl, Below.refl _ _, this⟩
end Go.Proofs.Each
