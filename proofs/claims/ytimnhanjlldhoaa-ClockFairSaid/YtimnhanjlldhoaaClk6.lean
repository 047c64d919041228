import Derived.Test.YtimnhanjlldhoaaClk5
import Derived.LoopTactic
/- The first frame of which something is so. -/
namespace Go.Proofs.Ytimnhanjlldhoaa.Clk
open Go.ChangeShapes Go.WideShapes Go.ChangeAt Go.RowKit Go.IntWalk Go.Proofs.Mem Go.Proofs.Clk
set_option linter.unusedVariables false
def isFree (f : Fm) : Bool := !f.t
def isLoose (f : Fm) : Bool := decide (f.p = 0)
/-- x is the first place of which q holds, or -1 -/
def IdxIs (q : Fm → Bool) (l : List Fm) (x : Int) : Prop := (x = -1 ∧ ∀ i, i < l.length → q (l.getD i z3) = false) ∨ ∃ i : Nat, i < l.length ∧ x = i ∧ q (l.getD i z3) = true ∧ ∀ k, k < i → q (l.getD k z3) = false
theorem free_any (f : Fm) (w : World) : Calls Try.prog 27 #[.agg #[.bool f.t, .bool f.u, .int .i64 f.p]] w fun e w' => e = .returned (.bool (isFree f)) ∧ Below w.heap.size w w' := by
  obtain ⟨t, u, p⟩ := f
  unfold isFree
  dsimp only
  go_enter Try.func27, Try.ntmps27
  go_wp2
  go_ret
  exact ⟨rfl, (Below.refl _ _).alloc (Nat.le_refl _) _⟩
theorem loose_any (f : Fm) (w : World) : Calls Try.prog 29 #[.agg #[.bool f.t, .bool f.u, .int .i64 f.p]] w fun e w' => e = .returned (.bool (isLoose f)) ∧ Below w.heap.size w w' := by
  obtain ⟨t, u, p⟩ := f
  unfold isLoose
  dsimp only
  by_cases h : p = 0
  · subst h
    go_enter Try.func29, Try.ntmps29
    go_wp2
    go_ret
    exact ⟨rfl, (Below.refl _ _).alloc (Nat.le_refl _) _⟩
  · have d : (p == 0) = false := by simpa using h
    rw [decide_eq_false h]
    clear h
    go_enter Try.func29, Try.ntmps29
    go_wp2
    go_ret
    exact ⟨rfl, (Below.refl _ _).alloc (Nat.le_refl _) _⟩
set_option maxRecDepth 100000 in
set_option maxHeartbeats 4000000 in
theorem idx_free (w : World) (gf : Nat) (l : List Fm) (hb : Box w gf (cF l).toArray 48) (hl : l.length ≤ 64) :
    Calls Try.prog 28 #[.slice (some ⟨gf, 0, none⟩) l.length l.length, .func (.func 27) #[] #[]] w fun e w' => ∃ x, e = .returned (.int .i64 x) ∧ IdxIs isFree l x ∧ Below w.heap.size w w' := by
  have HB := Lib.hid hb
  clear hb
  go_enter Try.func28, Try.ntmps28
  go_wp2
  go_loopw [5, 8] (fun _ c W => ∃ j : Nat, j ≤ l.length ∧ c = .int .i64 j ∧ (∀ i, i < j → isFree (l.getD i z3) = false) ∧ Below w.heap.size w W) (fun _ c _ => l.length - (intOf c).toNat)
  case atStart => exact ⟨0, by omega, rfl, fun i hi => by omega, Below.refl _ _⟩
  case round =>
    obtain ⟨j, hj, rfl, hbef, hbW⟩ := hrel
    have HQ := Lib.hid hbef
    clear hbef
    by_cases hlt : j < l.length
    · have d1 : decide ((j : Int) < (l.length : Int)) = true := decide_eq_true (by omega)
      have d1' : decide (j < l.length) = true := decide_eq_true hlt
      obtain ⟨k0, k1, k2⟩ := cF_at l j hlt
      have bw := HB.out.later hbW
      have e0 : wr.cell? ⟨gf, j * 3, none⟩ = some (.bool (l.getD j z3).t) := by rw [bw.cell, List.getElem?_toArray]; exact k0
      have e1 : wr.cell? ⟨gf, j * 3 + 1, none⟩ = some (.bool (l.getD j z3).u) := by rw [bw.cell, List.getElem?_toArray]; exact k1
      have e2 : wr.cell? ⟨gf, j * 3 + 2, none⟩ = some (.int .i64 (l.getD j z3).p) := by rw [bw.cell, List.getElem?_toArray]; exact k2
      have hw : wrap64 ((j : Int) + 1) = ((j + 1 : Nat) : Int) := by rw [wrap64_in _ (by omega)]; omega
      obtain ⟨f, hf⟩ : ∃ f, l.getD j z3 = f := ⟨_, rfl⟩
      rw [hf] at e0 e1 e2
      have HF := Lib.hid hf
      clear k0 k1 k2 bw hf
      obtain ⟨b, hqb⟩ : ∃ b, isFree f = b := ⟨_, rfl⟩
      have FA := Lib.hid (fun W => free_any f W)
      rw [hqb] at FA
      have HQB := Lib.hid hqb
      clear hqb
      cases b
      · go_wp2_with fail
        (with_reducible refine (FA.out _).mono ?_)
        rintro e w2 ⟨rfl, hb2⟩
        have hbW2 := Lib.hid (step_ hbW hb2)
        clear hb2
        go_wp2
        go_roundw
        case rel =>
          refine ⟨j + 1, by omega, rfl, fun i hi => ?_, hbW2.out⟩
          by_cases e : i = j
          · rw [e, HF.out]; exact HQB.out
          · exact HQ.out i (by omega)
        case measure => simp [intOf]; omega
      · go_wp2_with fail
        (with_reducible refine (FA.out _).mono ?_)
        rintro e w2 ⟨rfl, hb2⟩
        have hbW2 := Lib.hid (step_ hbW hb2)
        clear hb2
        go_wp2
        go_ret
        exact ⟨_, rfl, .inr ⟨j, hlt, rfl, by rw [HF.out]; exact HQB.out, HQ.out⟩, hbW2.out⟩
    · have d1 : decide ((j : Int) < (l.length : Int)) = false := decide_eq_false (by omega)
      have d1' : decide (j < l.length) = false := decide_eq_false hlt
      go_wp2
      go_ret
      exact ⟨_, rfl, .inl ⟨rfl, fun i hi => HQ.out i (by omega)⟩, hbW⟩
set_option maxRecDepth 100000 in
set_option maxHeartbeats 4000000 in
theorem idx_loose (w : World) (gf : Nat) (l : List Fm) (hb : Box w gf (cF l).toArray 48) (hl : l.length ≤ 64) :
    Calls Try.prog 28 #[.slice (some ⟨gf, 0, none⟩) l.length l.length, .func (.func 29) #[] #[]] w fun e w' => ∃ x, e = .returned (.int .i64 x) ∧ IdxIs isLoose l x ∧ Below w.heap.size w w' := by
  have HB := Lib.hid hb
  clear hb
  go_enter Try.func28, Try.ntmps28
  go_wp2
  go_loopw [5, 8] (fun _ c W => ∃ j : Nat, j ≤ l.length ∧ c = .int .i64 j ∧ (∀ i, i < j → isLoose (l.getD i z3) = false) ∧ Below w.heap.size w W) (fun _ c _ => l.length - (intOf c).toNat)
  case atStart => exact ⟨0, by omega, rfl, fun i hi => by omega, Below.refl _ _⟩
  case round =>
    obtain ⟨j, hj, rfl, hbef, hbW⟩ := hrel
    have HQ := Lib.hid hbef
    clear hbef
    by_cases hlt : j < l.length
    · have d1 : decide ((j : Int) < (l.length : Int)) = true := decide_eq_true (by omega)
      have d1' : decide (j < l.length) = true := decide_eq_true hlt
      obtain ⟨k0, k1, k2⟩ := cF_at l j hlt
      have bw := HB.out.later hbW
      have e0 : wr.cell? ⟨gf, j * 3, none⟩ = some (.bool (l.getD j z3).t) := by rw [bw.cell, List.getElem?_toArray]; exact k0
      have e1 : wr.cell? ⟨gf, j * 3 + 1, none⟩ = some (.bool (l.getD j z3).u) := by rw [bw.cell, List.getElem?_toArray]; exact k1
      have e2 : wr.cell? ⟨gf, j * 3 + 2, none⟩ = some (.int .i64 (l.getD j z3).p) := by rw [bw.cell, List.getElem?_toArray]; exact k2
      have hw : wrap64 ((j : Int) + 1) = ((j + 1 : Nat) : Int) := by rw [wrap64_in _ (by omega)]; omega
      obtain ⟨f, hf⟩ : ∃ f, l.getD j z3 = f := ⟨_, rfl⟩
      rw [hf] at e0 e1 e2
      have HF := Lib.hid hf
      clear k0 k1 k2 bw hf
      obtain ⟨b, hqb⟩ : ∃ b, isLoose f = b := ⟨_, rfl⟩
      have FA := Lib.hid (fun W => loose_any f W)
      rw [hqb] at FA
      have HQB := Lib.hid hqb
      clear hqb
      cases b
      · go_wp2_with fail
        (with_reducible refine (FA.out _).mono ?_)
        rintro e w2 ⟨rfl, hb2⟩
        have hbW2 := Lib.hid (step_ hbW hb2)
        clear hb2
        go_wp2
        go_roundw
        case rel =>
          refine ⟨j + 1, by omega, rfl, fun i hi => ?_, hbW2.out⟩
          by_cases e : i = j
          · rw [e, HF.out]; exact HQB.out
          · exact HQ.out i (by omega)
        case measure => simp [intOf]; omega
      · go_wp2_with fail
        (with_reducible refine (FA.out _).mono ?_)
        rintro e w2 ⟨rfl, hb2⟩
        have hbW2 := Lib.hid (step_ hbW hb2)
        clear hb2
        go_wp2
        go_ret
        exact ⟨_, rfl, .inr ⟨j, hlt, rfl, by rw [HF.out]; exact HQB.out, HQ.out⟩, hbW2.out⟩
    · have d1 : decide ((j : Int) < (l.length : Int)) = false := decide_eq_false (by omega)
      have d1' : decide (j < l.length) = false := decide_eq_false hlt
      go_wp2
      go_ret
      exact ⟨_, rfl, .inl ⟨rfl, fun i hi => HQ.out i (by omega)⟩, hbW⟩
end Go.Proofs.Ytimnhanjlldhoaa.Clk
