import Derived.Test.YtpndcpmfcajmdaaApp
import Derived.Test.YtpndcpmfcajmdaaFr
/- What a chain of appends to one row leaves as it was. -/
namespace Go.Proofs.Mem
open Go.RowKit Go.WideShapes
set_option linter.unusedVariables false
/-- the row v has become the row v': its block alone has been written, or a new one was made -/
structure RowTo (w w' : World) (v v' : Value) : Prop where
  fr : Fr (fun x => v.ownBlock = some x) w w'
  own : v'.ownBlock = v.ownBlock ∨ ∃ k, v'.ownBlock = some k ∧ w.heap.size ≤ k
section
variable {a b c : World} {u v x : Value}
theorem RowTo.refl (a : World) (u : Value) : RowTo a a u u := ⟨Fr.refl _ _, .inl rfl⟩
theorem RowTo.trans (h : RowTo a b u v) (k : RowTo b c v x) : RowTo a c u x := by
  refine ⟨h.fr.trans' k.fr (fun i hi hs => ?_), ?_⟩
  · rcases h.own with e | ⟨m, e, hm⟩
    · exact e ▸ hs
    · rw [e] at hs; injection hs with hs; omega
  · rcases k.own with e | ⟨m, e, hm⟩
    · rcases h.own with e' | ⟨m, e', hm⟩
      · exact .inl (e.trans e')
      · exact .inr ⟨m, e.trans e', hm⟩
    · exact .inr ⟨m, e, Nat.le_trans h.fr.size hm⟩
theorem RowTo.of_below (hb : Below a.heap.size a b) (u : Value) : RowTo a b u u := ⟨Fr.of_below hb, .inl rfl⟩
theorem RowTo.later (h : RowTo a b u v) (hb : Below b.heap.size b c) : RowTo a c u v := h.trans (.of_below hb v)
theorem RowTo.made {n size : Nat} {e : TypeId} {xs : List Value} (hb : Below a.heap.size a b) (ho : b.ownsRow a.heap.size e size v n xs) : RowTo a b (.slice none 0 0) v := by
  refine ⟨Fr.of_below hb, ?_⟩
  cases h : v.ownBlock with
  | none => exact .inl rfl
  | some k => exact .inr ⟨k, rfl, (ho.lt k h).1⟩
theorem RowTo.app (hg : a.grownBy b u.ownBlock) (ho : v.ownBlock = u.ownBlock ∨ v.ownBlock = some a.heap.size) : RowTo a b u v :=
  ⟨(Fr.refl _ _).grown hg (fun k e => .inl e), ho.imp id (fun e => ⟨_, e, Nat.le_refl _⟩)⟩
theorem RowTo.box {m : Nat} {C : Array Value} {t : TypeId} (h : RowTo a b u v) (hb : Box a m C t) (hu : u.ownBlock ≠ some m) : Box b m C t := hb.fr h.fr hu
theorem RowTo.below {B : Nat} (h : RowTo a b u v) (hu : ∀ k, u.ownBlock = some k → B ≤ k) (hB : B ≤ a.heap.size) : Below B a b := h.fr.to_below hu hB
/-- from nothing on: all that was there is as it was -/
theorem RowTo.all (h : RowTo a b (.slice none 0 0) v) : Below a.heap.size a b := h.below (fun k e => by cases e) (Nat.le_refl _)
theorem RowTo.far {m : Nat} (h : RowTo a b u v) (hm : m < a.heap.size) (hu : u.ownBlock ≠ some m) : v.ownBlock ≠ some m := fun e => by
  rcases h.own with e' | ⟨k, e', hk⟩
  · exact hu (e'.symm.trans e)
  · rw [e'] at e; injection e with e; omega
end
end Go.Proofs.Mem
