import Derived.Test.YtimnhanjlldhoaaClk6
/- Which frame goes. -/
namespace Go.Proofs.Ytimnhanjlldhoaa.Clk
open Go.ChangeShapes Go.WideShapes Go.ChangeAt Go.RowKit Go.IntWalk Go.Proofs.Mem Go.Proofs.Clk
set_option linter.unusedVariables false
/-- r: the frame told, whether there is one, the frames and the hand behind it -/
def PickR (l : List Fm) (h : Nat) (r : Int × Bool × List Fm × Nat) : Prop :=
  (∃ i : Nat, i < l.length ∧ isFree (l.getD i z3) = true ∧ (∀ k, k < i → isFree (l.getD k z3) = false) ∧ r = ((i : Int), true, l, h)) ∨
  ((∀ i, i < l.length → isFree (l.getD i z3) = false) ∧
    (((∀ i, i < l.length → isLoose (l.getD i z3) = false) ∧ r = (0, false, l, h)) ∨
     ((∃ j, j < l.length ∧ isLoose (l.getD j z3) = true) ∧ ∃ k x l' h', sw k l h = some (x, l', h') ∧ r = ((x : Int), true, l', h'))))
theorem first_or (q : Fm → Bool) (l : List Fm) : ∀ n, n ≤ l.length → (∀ i, i < n → q (l.getD i z3) = false) ∨ ∃ i, i < n ∧ q (l.getD i z3) = true ∧ ∀ k, k < i → q (l.getD k z3) = false
  | 0, _ => .inl fun i hi => by omega
  | n + 1, h => by
    rcases first_or q l n (by omega) with k | ⟨i, hi, a, b⟩
    · by_cases e : q (l.getD n z3) = true
      · exact .inr ⟨n, by omega, e, k⟩
      · refine .inl fun i hi => ?_
        by_cases x : i = n
        · rw [x]; simpa using e
        · exact k i (by omega)
    · exact .inr ⟨i, by omega, a, b⟩
theorem pick_ends (l : List Fm) (h : Nat) (hh : h < l.length) : ∃ r, PickR l h r := by
  rcases first_or isFree l l.length (Nat.le_refl _) with k | ⟨i, hi, a, b⟩
  · rcases first_or isLoose l l.length (Nat.le_refl _) with m | ⟨i, hi, a, b⟩
    · exact ⟨_, .inr ⟨k, .inl ⟨m, rfl⟩⟩⟩
    · obtain ⟨n, ⟨x, l', h'⟩, hs⟩ := sw_ends l h hh i hi (by unfold isLoose at a; simpa using Int.le_of_eq (of_decide_eq_true a))
      exact ⟨_, .inr ⟨k, .inr ⟨⟨i, hi, a⟩, n, x, l', h', hs, rfl⟩⟩⟩
  · exact ⟨_, .inl ⟨i, hi, a, b, rfl⟩⟩
theorem IdxIs.is {q : Fm → Bool} {l : List Fm} {x : Int} (h : IdxIs q l x) {i : Nat} (hi : i < l.length) (a : q (l.getD i z3) = true) (b : ∀ k, k < i → q (l.getD k z3) = false) : x = i := by
  rcases h with ⟨_, k⟩ | ⟨j, hj, rfl, c, d⟩
  · rw [k i hi] at a; cases a
  · rcases Nat.lt_trichotomy i j with e | e | e
    · rw [d i e] at a; cases a
    · rw [e]
    · rw [b j e] at c; cases c
theorem IdxIs.not {q : Fm → Bool} {l : List Fm} {x : Int} (h : IdxIs q l x) (k : ∀ i, i < l.length → q (l.getD i z3) = false) : x = -1 := by
  rcases h with ⟨e, _⟩ | ⟨j, hj, rfl, c, d⟩
  · exact e
  · rw [k j hj] at c; cases c
theorem IdxIs.some {q : Fm → Bool} {l : List Fm} {x : Int} (h : IdxIs q l x) {j : Nat} (hj : j < l.length) (a : q (l.getD j z3) = true) : ∃ i : Nat, x = i := by
  rcases h with ⟨_, k⟩ | ⟨i, _, rfl, _, _⟩
  · rw [k j hj] at a; cases a
  · exact ⟨i, rfl⟩
set_option maxHeartbeats 1000000 in
theorem has_loose (w : World) (gf : Nat) (l : List Fm) (hb : Box w gf (cF l).toArray 48) (hl : l.length ≤ 64) {j : Nat} (hj : j < l.length) (a : isLoose (l.getD j z3) = true) :
    Calls Try.prog 30 #[.slice (some ⟨gf, 0, none⟩) l.length l.length, .func (.func 29) #[] #[]] w fun e w' => e = .returned (.bool true) ∧ Below w.heap.size w w' := by
  have IX := Lib.hid (idx_loose w gf l hb hl)
  have A := Lib.hid a
  clear hb a
  go_enter Try.func30, Try.ntmps30
  go_wp2_with fail
  (with_reducible refine (IX.out).mono ?_)
  rintro e w1 ⟨x, rfl, hx, hb1⟩
  obtain ⟨i, rfl⟩ := hx.some hj A.out
  clear hx
  have d1 : decide (0 ≤ (i : Int)) = true := decide_eq_true (by omega)
  go_wp2
  go_ret
  exact ⟨rfl, hb1⟩
set_option maxHeartbeats 1000000 in
theorem no_loose (w : World) (gf : Nat) (l : List Fm) (hb : Box w gf (cF l).toArray 48) (hl : l.length ≤ 64) (a : ∀ i, i < l.length → isLoose (l.getD i z3) = false) :
    Calls Try.prog 30 #[.slice (some ⟨gf, 0, none⟩) l.length l.length, .func (.func 29) #[] #[]] w fun e w' => e = .returned (.bool false) ∧ Below w.heap.size w w' := by
  have IX := Lib.hid (idx_loose w gf l hb hl)
  have A := Lib.hid a
  clear hb a
  go_enter Try.func30, Try.ntmps30
  go_wp2_with fail
  (with_reducible refine (IX.out).mono ?_)
  rintro e w1 ⟨x, rfl, hx, hb1⟩
  have e := hx.not A.out
  clear hx
  subst e
  go_wp2
  go_ret
  exact ⟨rfl, hb1⟩
set_option maxRecDepth 100000 in
set_option maxHeartbeats 4000000 in
theorem pick_any (w : World) (g gf h : Nat) (l : List Fm) (c : CK w g gf l h) (hl : l.length ≤ 64) (hh : h < l.length) (r : Int × Bool × List Fm × Nat) (hr : PickR l h r) :
    Calls Try.prog 14 #[.pointer (some ⟨g, 0, none⟩)] w fun e w' => e = .returned (.tuple #[.int .i64 r.1, .bool r.2.1]) ∧ CK w' g gf r.2.2.1 r.2.2.2 ∧ Fr (fun k => k = g ∨ k = gf) w w' := by
  have c0 : w.cell? ⟨g, 0, none⟩ = some (.slice (some ⟨gf, 0, none⟩) l.length l.length) := c.top.cell 0
  have IX := Lib.hid (idx_free w gf l c.fs hl)
  have C := Lib.hid c
  clear c
  rcases hr with ⟨i, hi, a, b, rfl⟩ | ⟨nf, ⟨nl, rfl⟩ | ⟨⟨j, hj, a⟩, k, x, l', h', hs, rfl⟩⟩
  · have AB := Lib.hid (And.intro a b)
    clear a b
    dsimp only
    go_enter Try.func14, Try.ntmps14
    go_wp2_with fail
    (with_reducible refine (IX.out).mono ?_)
    rintro e w1 ⟨x, rfl, hx, hb1⟩
    have e := hx.is hi AB.out.1 AB.out.2
    clear hx
    subst e
    have d1 : decide (0 ≤ (i : Int)) = true := decide_eq_true (by omega)
    go_wp2
    go_ret2
    exact ⟨rfl, C.out.later hb1, Fr.of_below hb1⟩
  · have NF := Lib.hid nf
    have NL := Lib.hid nl
    clear nf nl
    dsimp only
    go_enter Try.func14, Try.ntmps14
    go_wp2_with fail
    (with_reducible refine (IX.out).mono ?_)
    rintro e w1 ⟨x, rfl, hx, hb1⟩
    have e := hx.not NF.out
    clear hx
    subst e
    have C1 := Lib.hid (C.out.later hb1)
    have c1 : w1.cell? ⟨g, 0, none⟩ = some (.slice (some ⟨gf, 0, none⟩) l.length l.length) := C1.out.top.cell 0
    go_wp2_with fail
    (with_reducible refine (no_loose w1 gf l C1.out.fs hl NL.out).mono ?_)
    rintro e w2 ⟨rfl, hb2⟩
    go_wp2
    go_ret2
    exact ⟨rfl, C1.out.later hb2, Fr.of_below (step_ hb1 hb2)⟩
  · have NF := Lib.hid nf
    have A := Lib.hid a
    have HS := Lib.hid hs
    clear nf a hs
    dsimp only
    go_enter Try.func14, Try.ntmps14
    go_wp2_with fail
    (with_reducible refine (IX.out).mono ?_)
    rintro e w1 ⟨x, rfl, hx, hb1⟩
    have e := hx.not NF.out
    clear hx
    subst e
    have C1 := Lib.hid (C.out.later hb1)
    have c1 : w1.cell? ⟨g, 0, none⟩ = some (.slice (some ⟨gf, 0, none⟩) l.length l.length) := C1.out.top.cell 0
    go_wp2_with fail
    (with_reducible refine (has_loose w1 gf l C1.out.fs hl hj A.out).mono ?_)
    rintro e w2 ⟨rfl, hb2⟩
    have C2 := Lib.hid (C1.out.later hb2)
    go_wp2_with fail
    (with_reducible refine (sweep_any w2 g gf h l C2.out hl hh k _ HS.out).mono ?_)
    rintro e w3 ⟨rfl, hc3, hf3⟩
    have C3 := Lib.hid hc3
    have F3 := Lib.hid hf3
    clear hc3 hf3
    go_wp2
    go_ret2
    exact ⟨rfl, C3.out, (Fr.of_below (step_ hb1 hb2)).trans' F3.out (fun i _ hi => hi)⟩
end Go.Proofs.Ytimnhanjlldhoaa.Clk
