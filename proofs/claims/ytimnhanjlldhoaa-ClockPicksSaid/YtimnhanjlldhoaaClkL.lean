import Derived.Test.YtimnhanjlldhoaaClkK
import Derived.Test.YtimnhanjlldhoaaClkMath3
/- What a pick says of the frames. -/
namespace Go.Proofs.Ytimnhanjlldhoaa.Clk
open Go.ChangeShapes Go.WideShapes Go.ChangeAt Go.RowKit Go.IntWalk Go.Proofs.Mem Go.Proofs.Clk
set_option linter.unusedVariables false
theorem free_t (f : Fm) : isFree f = !f.t := rfl
theorem PickR.pins {l : List Fm} {h : Nat} {r : Int × Bool × List Fm × Nat} (hr : PickR l h r) (hh : h < l.length) (x : Nat) : (r.2.2.1.getD x z3).p = (l.getD x z3).p ∧ (r.2.2.1.getD x z3).t = (l.getD x z3).t := by
  rcases hr with ⟨i, hi, a, b, rfl⟩ | ⟨nf, ⟨nl, rfl⟩ | ⟨a, k, y, l', h', hs, rfl⟩⟩
  · exact ⟨rfl, rfl⟩
  · exact ⟨rfl, rfl⟩
  · exact sw_same k l h _ hh hs x
theorem PickR.none_says {l : List Fm} {h : Nat} {r : Int × Bool × List Fm × Nat} (hr : PickR l h r) (e : r.2.1 = false) : r.1 = 0 ∧ r.2.2.1 = l ∧ ∀ i, i < l.length → ((l.getD i z3).p == 0) = false := by
  rcases hr with ⟨i, hi, a, b, rfl⟩ | ⟨nf, ⟨nl, rfl⟩ | ⟨a, k, y, l', h', hs, rfl⟩⟩
  · cases e
  · exact ⟨rfl, rfl, fun i hi => by have := nl i hi; unfold isLoose at this; simpa using this⟩
  · cases e
theorem PickR.some_says {l : List Fm} {h : Nat} {r : Int × Bool × List Fm × Nat} {B : Int} (hr : PickR l h r) (hh : h < l.length) (ho : Oks B l) (hB : 0 ≤ B) (e : r.2.1 = true) : ∃ x : Nat, r.1 = x ∧ x < l.length ∧ (r.2.2.1.getD x z3).p = 0 := by
  rcases hr with ⟨i, hi, a, b, rfl⟩ | ⟨nf, ⟨nl, rfl⟩ | ⟨a, k, y, l', h', hs, rfl⟩⟩
  · refine ⟨i, rfl, hi, ((ho.at_ hB i).free ?_).2⟩
    rw [free_t] at a
    simpa using a
  · cases e
  · obtain ⟨k1, k2, k3, k4⟩ := sw_keeps (B := B) k l h _ hh hs
    have k5 := sw_loose k l h _ hh hs
    have k6 := ((k4 ho hB).at_ hB y).lo
    exact ⟨y, rfl, k1, by dsimp only at *; omega⟩
end Go.Proofs.Ytimnhanjlldhoaa.Clk
