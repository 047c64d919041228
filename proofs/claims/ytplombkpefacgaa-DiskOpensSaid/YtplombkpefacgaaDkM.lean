import Derived.Test.YtplombkpefacgaaDkL
/- Two devices apart. -/
namespace Go.Proofs.Ytplombkpefacgaa.Disk
open Go.ChangeShapes Go.WideShapes Go.ChangeAt Go.RowKit Go.IntWalk Go.Proofs.Mem Go.Proofs.Each Law
set_option linter.unusedVariables false
def Pair (B0 : Nat) (w : World) (a b : Nat) (D E : Dv) : Prop :=
  ∃ (SA SB : Nat → Prop) (ca : Nat → Nat) (fa : Nat → Value) (ua : Nat → List Pl) (cb : Nat → Nat) (fb : Nat → Value) (ub : Nat → List Pl), DA w SA a D ca fa ua ∧ DA w SB b E cb fb ub ∧ (∀ x, SA x → ¬ SB x) ∧ (∀ x, SA x → B0 ≤ x) ∧ ∀ x, SB x → B0 ≤ x
theorem Pair.swap {B0 a b : Nat} {w : World} {D E : Dv} (h : Pair B0 w a b D E) : Pair B0 w b a E D := by
  obtain ⟨SA, SB, ca, fa, ua, cb, fb, ub, ha, hb, hd, h1, h2⟩ := h
  exact ⟨SB, SA, cb, fb, ub, ca, fa, ua, hb, ha, fun x hx hy => hd x hy hx, h2, h1⟩
theorem Pair.later {B0 a b : Nat} {w w' : World} {D E : Dv} (h : Pair B0 w a b D E) (hb : Below w.heap.size w w') : Pair B0 w' a b D E := by
  obtain ⟨SA, SB, ca, fa, ua, cb, fb, ub, ha, hb', hd, h1, h2⟩ := h
  exact ⟨SA, SB, ca, fa, ua, cb, fb, ub, ha.later hb, hb'.later hb, hd, h1, h2⟩
theorem Pair.one {B0 a b : Nat} {w : World} {D E : Dv} (h : Pair B0 w a b D E) : ∃ SA ca fa ua, DA w SA a D ca fa ua := by
  obtain ⟨SA, SB, ca, fa, ua, cb, fb, ub, ha, _⟩ := h
  exact ⟨SA, ca, fa, ua, ha⟩
theorem Pair.new {B0 : Nat} {w w1 w2 : World} {M : Nat → Nat} (h1 : Out w w1 M 2) (h2 : Out w1 w2 M 2) (hB : B0 ≤ w.heap.size) : Pair B0 w2 w.heap.size w1.heap.size (newTo M 2) (newTo M 2) := by
  obtain ⟨ca, fa, ua, ha, _, hb1⟩ := h1
  obtain ⟨cb, fb, ub, hb, _, hb2⟩ := h2
  have hs1 := hb1.size
  exact ⟨newS w w1, newS w1 w2, ca, fa, ua, cb, fb, ub, ha.later hb2, hb, fun x hx hy => by have := hx.2; have := hy.1; omega, fun x hx => Nat.le_trans hB hx.1, fun x hx => Nat.le_trans (Nat.le_trans hB hs1) hx.1⟩
/-- as Pair, and the blocks K are neither's -/
def PairK (K : Nat → Prop) (B0 : Nat) (w : World) (a b : Nat) (D E : Dv) : Prop :=
  (∀ x, K x → x < w.heap.size) ∧ ∃ (SA SB : Nat → Prop) (ca : Nat → Nat) (fa : Nat → Value) (ua : Nat → List Pl) (cb : Nat → Nat) (fb : Nat → Value) (ub : Nat → List Pl), DA w SA a D ca fa ua ∧ DA w SB b E cb fb ub ∧ (∀ x, SA x → ¬ SB x) ∧ (∀ x, SA x → B0 ≤ x ∧ ¬ K x) ∧ ∀ x, SB x → B0 ≤ x ∧ ¬ K x
theorem PairK.swap {K : Nat → Prop} {B0 a b : Nat} {w : World} {D E : Dv} (h : PairK K B0 w a b D E) : PairK K B0 w b a E D := by
  obtain ⟨hk, SA, SB, ca, fa, ua, cb, fb, ub, ha, hb, hd, h1, h2⟩ := h
  exact ⟨hk, SB, SA, cb, fb, ub, ca, fa, ua, hb, ha, fun x hx hy => hd x hy hx, h2, h1⟩
theorem PairK.drop {K : Nat → Prop} {B0 a b : Nat} {w : World} {D E : Dv} (h : PairK K B0 w a b D E) : Pair B0 w a b D E := by
  obtain ⟨hk, SA, SB, ca, fa, ua, cb, fb, ub, ha, hb, hd, h1, h2⟩ := h
  exact ⟨SA, SB, ca, fa, ua, cb, fb, ub, ha, hb, hd, fun x hx => (h1 x hx).1, fun x hx => (h2 x hx).1⟩
/-- a block that was just made is neither's -/
theorem Pair.fresh {B0 a b : Nat} {w : World} {D E : Dv} (h : Pair B0 w a b D E) (o : Obj) : PairK (fun x => x = w.heap.size) B0 (w.alloc o) a b D E := by
  obtain ⟨SA, SB, ca, fa, ua, cb, fb, ub, ha, hb, hd, h1, h2⟩ := h
  refine ⟨fun x hx => by rw [World.size_alloc]; omega, SA, SB, ca, fa, ua, cb, fb, ub, ha.later (new_ (Below.refl _ _) _), hb.later (new_ (Below.refl _ _) _), hd, fun x hx => ⟨h1 x hx, fun e => ?_⟩, fun x hx => ⟨h2 x hx, fun e => ?_⟩⟩
  · have := ha.old x hx; omega
  · have := hb.old x hx; omega
theorem plays_pair {K : Nat → Prop} {B0 a b : Nat} {w : World} {D E : Dv} (h : PairK K B0 w a b D E) (hB : B0 ≤ w.heap.size) (hw : D.Few 100000) (x : Oi) {w0 : World} (hb : Below B0 w0 w) (hx : OiAt w0 B0 x) :
    Calls Try.prog 29 #[.pointer (some ⟨a, 0, none⟩), .agg (opC x.o x.a x.lb)] w fun e w' => e = .returned (.bool (plB D x.o)) ∧ PairK K B0 w' a b (plD D x.o) E ∧ Below B0 w w' ∧ Fr (fun x => ¬ K x) w w' := by
  obtain ⟨hk, SA, SB, ca, fa, ua, cb, fb, ub, ha, hb', hd, h1, h2⟩ := h
  have h1' : ∀ x, SA x → B0 ≤ x := fun x hx => (h1 x hx).1
  refine (plays_any ha hw x.o hx.1 x.a x.lb (fun w' hf => ((hx.2.1.below (hb.trans (hf.to_below h1' hB))).more (Nat.le_trans hB hf.size))) ?_).mono ?_
  · obtain ⟨A, c, e, _⟩ := hx.2.2.form
    exact ⟨A, _, c, e⟩
  · rintro e w' ⟨rfl, ⟨c', u', ha'⟩, hf⟩
    refine ⟨rfl, ⟨fun x hx => Nat.lt_of_lt_of_le (hk x hx) hf.size, growS w w' SA, SB, _, _, _, _, _, _, ha', hb'.far hf (fun g hg hh => hd g hh hg), fun x hx hs => ?_, fun x hx => ?_, h2⟩, hf.to_below h1' hB, hf.mono (fun k _ hS => (h1 k hS).2)⟩
    · rcases hx with hx | hx
      · exact hd x hx hs
      · have := hb'.old x hs
        omega
    · rcases hx with hx | hx
      · exact h1 x hx
      · exact ⟨Nat.le_trans hB hx.1, fun hh => by have := hk x hh; omega⟩
end Go.Proofs.Ytplombkpefacgaa.Disk
