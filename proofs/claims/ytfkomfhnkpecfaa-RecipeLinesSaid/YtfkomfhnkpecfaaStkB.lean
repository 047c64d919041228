import Derived.Test.YtfkomfhnkpecfaaStkA
/- Recipes: are two alike; the chapter's example. -/
namespace Go.Proofs.Ytfkomfhnkpecfaa.Stk
open Go.ChangeShapes Go.WideShapes Go.ChangeAt Go.RowKit Go.IntWalk Go.Proofs.Mem Go.Proofs.Stk
set_option linter.unusedVariables false
end Go.Proofs.Ytfkomfhnkpecfaa.Stk
namespace Go.RowKit
theorem Below.step {w a b : World} (h : Below w.heap.size w a) (k : Below a.heap.size a b) : Below w.heap.size w b := h.trans (k.mono h.size)
theorem Below.new {w a : World} (h : Below w.heap.size w a) (o : Obj) : Below w.heap.size w (a.alloc o) := h.alloc h.size o
end Go.RowKit
namespace Go.Proofs.Ytfkomfhnkpecfaa.Stk
open Go.ChangeShapes Go.WideShapes Go.ChangeAt Go.RowKit Go.IntWalk Go.Proofs.Mem Go.Proofs.Stk
set_option linter.unusedVariables false
theorem KR.drewN {w : World} {B : Nat} {v : Value} {l : List Pr} (h : KR w B v l) {d : Nat} : KR (w.drewN d) B v l := h
theorem of_any (id : Int) (w : World) : Calls Try.prog 7 #[.int .u32 id] w (RdPost (lineS id).1 (lineS id).2 (.bool (isS id)) w) := by
  obtain ⟨s1, s2⟩ := lineS_small id
  by_cases h : isS id = true
  · rw [h]
    exact (of_some id h w).mono fun e w' h => h.rd (by have := s1.1; omega) (by have := s2.1; omega)
  · have h' : isS id = false := by simpa using h
    rw [h', lineS_none h']
    exact (of_none id h' w).mono fun e w' ⟨h1, h2⟩ => ⟨_, h1, Rd.none _, h2⟩
set_option maxHeartbeats 1000000 in
theorem same_any (u v : Value) (l1 l2 m1 m2 : List Pr) (w : World) (hu : Rd l1 l2 w u) (hv : Rd m1 m2 w v) (a1 : l1.length ≤ 1000) (a2 : l2.length ≤ 1000) (b1 : m1.length ≤ 1000) (b2 : m2.length ≤ 1000) :
    Calls Try.prog 14 #[u, v] w fun e w' => e = .returned (.bool (decide (l1 = m1) && decide (l2 = m2))) ∧ Below w.heap.size w w' := by
  obtain ⟨A1, c1, A2, c2, rfl, k1, k2⟩ := hu
  obtain ⟨A3, c3, A4, c4, rfl, k3, k4⟩ := hv
  have hb := fun o o' => (((Below.refl w.heap.size w).alloc (Nat.le_refl _) o).alloc (by simp) o')
  have q1 := fun o o' => k1.below (hb o o')
  have q2 := fun o o' => k2.below (hb o o')
  have q3 := fun o o' => k3.below (hb o o')
  have q4 := fun o o' => k4.below (hb o o')
  have Q1 := Lib.hid q1
  have Q2 := Lib.hid q2
  have Q3 := Lib.hid q3
  have Q4 := Lib.hid q4
  have HB := Lib.hid hb
  clear hb q1 q2 q3 q4 k1 k2 k3 k4
  go_enter Try.func14, Try.ntmps14
  go_wp2_with fail
  (with_reducible refine (sameStacks_any _ _ l1 m1 a1 b1 _ _ _ (Q1.out _ _) (Q3.out _ _)).mono ?_)
  rintro e w' ⟨rfl, d, rfl⟩
  obtain ⟨x, hx⟩ : ∃ x, decide (l1 = m1) = x := ⟨_, rfl⟩
  rw [hx]
  have HX := Lib.hid hx
  clear hx
  cases x
  · go_wp2
    go_ret
    exact ⟨ret_bool (by rw [HX.out]; rfl), below_drewN (HB.out _ _) _⟩
  · go_wp2_with fail
    (with_reducible refine (sameStacks_any _ _ l2 m2 a2 b2 _ _ _ (KR.drewN (Q2.out _ _)) (KR.drewN (Q4.out _ _))).mono ?_)
    rintro e w' ⟨rfl, d2, rfl⟩
    go_wp2
    go_ret
    exact ⟨ret_bool (by rw [HX.out]; rfl), below_drewN (HB.out _ _) _⟩
set_option maxHeartbeats 1000000 in
theorem known_any (w : World) : Calls Try.prog 13 #[] w fun e w' => e = .returned (.bool true) ∧ Below w.heap.size w w' := by
  go_enter Try.func13, Try.ntmps13
  go_wp2_with fail
  (with_reducible refine (change_any 4 2 5 ⟨by omega, by omega⟩ _).mono ?_)
  rintro e w1 ⟨rfl, hb1⟩
  rw [show cnt 5 (inN 4 2) = 20 by decide +kernel, show cnt 5 (outN 4 2) = 2 by decide +kernel]
  go_wp2_with fail
  (with_reducible refine (of_none 7 (by decide +kernel) _).mono ?_)
  rintro e w2 ⟨rfl, hb2⟩
  go_wp2_with fail
  (with_reducible refine (needs_bad 1 0 (by decide +kernel) (.inl (by omega)) _).mono ?_)
  rintro e w3 ⟨v, rfl, ⟨A1, c1, A2, c2, rfl, k1, k2⟩, hb3⟩
  go_wp2
  go_ret
  exact ⟨rfl, (((hb1.step hb2).new _).step hb3).new _⟩
end Go.Proofs.Ytfkomfhnkpecfaa.Stk
