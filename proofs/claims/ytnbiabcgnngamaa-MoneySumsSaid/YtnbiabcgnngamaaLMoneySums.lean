/- The law manciplelaw03.MoneySums returns true whatever it is called with, and what it was called with reads as it did. No condition. -/
import Derived.Test.YtnbiabcgnngamaaLaw
import Derived.Test.YtnbiabcgnngamaaMoney2
namespace Go.Proofs.Ytnbiabcgnngamaa.LMoneySums
open Go.ChangeShapes Go.WideShapes Go.ChangeAt Go.RowKit Go.IntWalk Go.Proofs.Mem Law
set_option linter.unusedVariables false
open Money
theorem IR.cut {w : World} {B : Nat} {k : IntKind} {A : Option Addr} {n c m : Nat} {xs : List Int} (h : IR w B k (.slice A n c) xs) (hm : m ≤ n) (hc : A = none → m = 0) : IR w B k (.slice (if c = m then A else A.map (·.add m)) (n - m) (c - m)) (xs.drop m) := by
  obtain ⟨A', c', e, h2, h3, h4, h5⟩ := h
  injection e with e1 e2 e3
  subst e1; subst e2; subst e3
  have hl : (xs.drop m).length = xs.length - m := by rw [List.length_drop]
  refine ⟨_, _, by rw [hl], by omega, by omega, ?_, fun i hi => ?_⟩
  · intro hh
    split at hh
    · have := h4 hh; omega
    · cases A with
      | none => have := h4 rfl; omega
      | some a => simp at hh
  · obtain ⟨b, off, e, hb, hcell⟩ := h5 (m + i) (by omega)
    subst e
    refine ⟨b, off + m, ?_, hb, ?_⟩
    · rw [if_neg (by omega)]
      simp [add_plain]
    · rw [Nat.add_assoc, hcell]
      simp [List.getD]
theorem below4 {w w1 w2 w3 w4 : World} (h1 : Below w.heap.size w w1) (h2 : Below w1.heap.size w1 w2) (h3 : Below w2.heap.size w2 w3) (h4 : Below w3.heap.size w3 w4) : Below w.heap.size w w4 :=
  ((h1.trans (h2.mono h1.size)).trans (h3.mono (Nat.le_trans h1.size h2.size))).trans (h4.mono (Nat.le_trans (Nat.le_trans h1.size h2.size) h3.size))
theorem three_cases (l : List Int) (n : Nat) (h : ∀ x ∈ l, 0 ≤ x) :
    (allS l = (0, 30) ∧ allS (l.take n) = (0, 30)) ∨ (allS l = (0, 30) ∧ ∃ S1, allS (l.take n) = (S1, 0) ∧ allS (l.drop n) = (0, 30)) ∨
    (∃ S1 S2 R E, allS l = (R, E) ∧ allS (l.take n) = (S1, 0) ∧ allS (l.drop n) = (S2, 0) ∧ addS S1 S2 = (R, E) ∧ (0 ≤ S1 ∧ S1 ≤ 18446744073709551615) ∧ (0 ≤ S2 ∧ S2 ≤ 18446744073709551615)) := by
  have h1 : ∀ x ∈ l.take n, 0 ≤ x := fun x hx => h x (List.mem_of_mem_take hx)
  have h2 : ∀ x ∈ l.drop n, 0 ≤ x := fun x hx => h x (List.mem_of_mem_drop hx)
  have hs : sumL l = sumL (l.take n) + sumL (l.drop n) := by rw [← sumL_app, List.take_append_drop]
  have p1 := sumL_nonneg _ h1
  have p2 := sumL_nonneg _ h2
  rw [allS_sum l h, allS_sum _ h1, allS_sum _ h2, hs]
  generalize sumL (l.take n) = S1 at *
  generalize sumL (l.drop n) = S2 at *
  by_cases c1 : S1 ≤ 4611686018427387904
  · by_cases c2 : S2 ≤ 4611686018427387904
    · right; right
      rw [if_pos c1, if_pos c2]
      by_cases c3 : S1 + S2 ≤ 4611686018427387904
      · rw [if_pos c3]
        exact ⟨S1, S2, _, _, rfl, rfl, rfl, by unfold addS; rw [if_neg (by omega)], by omega, by omega⟩
      · rw [if_neg c3]
        exact ⟨S1, S2, _, _, rfl, rfl, rfl, by unfold addS; rw [if_pos (by omega)], by omega, by omega⟩
    · right; left
      rw [if_pos c1, if_neg c2, if_neg (by omega)]
      exact ⟨rfl, S1, rfl, rfl⟩
  · left
    rw [if_neg c1, if_neg (by omega)]
    exact ⟨rfl, rfl⟩
set_option maxHeartbeats 4000000 in
theorem walk (w : World) (l : Value) (xl : List Int) (hl : IR w w.heap.size .u64 l xl) (bl : ∀ n ∈ xl, 0 ≤ n ∧ n ≤ 18446744073709551615) (k : Int) (hk : -9223372036854775808 ≤ k ∧ k ≤ 9223372036854775807) :
    Calls Try.prog 8 #[l, .int .i64 k] w fun e w' => e = .returned (.bool true) ∧ Below w.heap.size w w' := by
  obtain ⟨A, c, rfl, hlc, hcm⟩ := hl.form
  unfold maxLen at hcm
  by_cases hn : xl.length ≤ 500
  · have hdl : decide (500 < (xl.length : Int)) = false := by simp; omega
    by_cases hk0 : k < 0
    · have hmax : True := trivial
      have hcases := three_cases xl 0 (fun x hx => (bl x hx).1)
      rcases hcases with ⟨hA1, hA2⟩ | ⟨hA1, S1, hA2, hA3⟩ | ⟨S1, S2, R, E, hA1, hA2, hA3, hA4, hS1, hS2⟩
      · have HA1 := Lib.hid hA1
        have HA2 := Lib.hid hA2
        clear hA1 hA2
        go_enter Try.func8, Try.ntmps8
        go_wp2_with fail
        (with_reducible refine (known_any _).mono ?_)
        rintro e w1 ⟨rfl, hb1⟩
        have hl1 := (hl.below hb1).more hb1.size
        go_wp2_with fail
        (with_reducible refine (all_any _ xl _ hl1 bl).mono ?_)
        rintro e w2 ⟨rfl, hb2⟩
        rw [HA1.out]
        have hl2 := (hl1.below hb2).more hb2.size
        have ht := hl2.take (m := 0) (by omega)
        have bt : ∀ x ∈ xl.take 0, 0 ≤ x ∧ x ≤ 18446744073709551615 := fun x hx => bl x (List.mem_of_mem_take hx)
        have bd : ∀ x ∈ xl.drop 0, 0 ≤ x ∧ x ≤ 18446744073709551615 := fun x hx => bl x (List.mem_of_mem_drop hx)
        go_wp2_with fail
        (with_reducible refine (all_any _ (xl.take 0) _ ht bt).mono ?_)
        rintro e w3 ⟨rfl, hb3⟩
        rw [HA2.out]
        have hl3 := (hl2.below hb3).more hb3.size
        have hd3 := hl3
        go_wp2_with fail
        (with_reducible refine (all_any _ (xl.drop 0) _ hd3 bd).mono ?_)
        rintro e w4 ⟨rfl, hb4⟩
        generalize allS (List.drop 0 xl) = r3 at *
        obtain ⟨r3a, r3b⟩ := r3
        go_wp2
        go_ret
        exact ⟨rfl, below4 hb1 hb2 hb3 hb4⟩
      · have HA1 := Lib.hid hA1
        have HA2 := Lib.hid hA2
        have HA3 := Lib.hid hA3
        clear hA1 hA2 hA3
        go_enter Try.func8, Try.ntmps8
        go_wp2_with fail
        (with_reducible refine (known_any _).mono ?_)
        rintro e w1 ⟨rfl, hb1⟩
        have hl1 := (hl.below hb1).more hb1.size
        go_wp2_with fail
        (with_reducible refine (all_any _ xl _ hl1 bl).mono ?_)
        rintro e w2 ⟨rfl, hb2⟩
        rw [HA1.out]
        have hl2 := (hl1.below hb2).more hb2.size
        have ht := hl2.take (m := 0) (by omega)
        have bt : ∀ x ∈ xl.take 0, 0 ≤ x ∧ x ≤ 18446744073709551615 := fun x hx => bl x (List.mem_of_mem_take hx)
        have bd : ∀ x ∈ xl.drop 0, 0 ≤ x ∧ x ≤ 18446744073709551615 := fun x hx => bl x (List.mem_of_mem_drop hx)
        go_wp2_with fail
        (with_reducible refine (all_any _ (xl.take 0) _ ht bt).mono ?_)
        rintro e w3 ⟨rfl, hb3⟩
        rw [HA2.out]
        have hl3 := (hl2.below hb3).more hb3.size
        have hd3 := hl3
        go_wp2_with fail
        (with_reducible refine (all_any _ (xl.drop 0) _ hd3 bd).mono ?_)
        rintro e w4 ⟨rfl, hb4⟩
        rw [HA3.out]
        go_wp2
        go_ret
        exact ⟨rfl, below4 hb1 hb2 hb3 hb4⟩
      · have HA1 := Lib.hid hA1
        have HA2 := Lib.hid hA2
        have HA3 := Lib.hid hA3
        have HA4 := Lib.hid hA4
        clear hA1 hA2 hA3 hA4
        go_enter Try.func8, Try.ntmps8
        go_wp2_with fail
        (with_reducible refine (known_any _).mono ?_)
        rintro e w1 ⟨rfl, hb1⟩
        have hl1 := (hl.below hb1).more hb1.size
        go_wp2_with fail
        (with_reducible refine (all_any _ xl _ hl1 bl).mono ?_)
        rintro e w2 ⟨rfl, hb2⟩
        rw [HA1.out]
        have hl2 := (hl1.below hb2).more hb2.size
        have ht := hl2.take (m := 0) (by omega)
        have bt : ∀ x ∈ xl.take 0, 0 ≤ x ∧ x ≤ 18446744073709551615 := fun x hx => bl x (List.mem_of_mem_take hx)
        have bd : ∀ x ∈ xl.drop 0, 0 ≤ x ∧ x ≤ 18446744073709551615 := fun x hx => bl x (List.mem_of_mem_drop hx)
        go_wp2_with fail
        (with_reducible refine (all_any _ (xl.take 0) _ ht bt).mono ?_)
        rintro e w3 ⟨rfl, hb3⟩
        rw [HA2.out]
        have hl3 := (hl2.below hb3).more hb3.size
        have hd3 := hl3
        go_wp2_with fail
        (with_reducible refine (all_any _ (xl.drop 0) _ hd3 bd).mono ?_)
        rintro e w4 ⟨rfl, hb4⟩
        rw [HA3.out]
        go_wp2_with fail
        (with_reducible refine (add_any S1 S2 hS1 hS2 _).mono ?_)
        rintro e w5 ⟨rfl, hb5⟩
        rw [HA4.out]
        go_wp2
        go_ret
        exact ⟨rfl, (below4 hb1 hb2 hb3 hb4).trans (hb5.mono (below4 hb1 hb2 hb3 hb4).size)⟩
    · obtain ⟨N, hNl, hNe⟩ : ∃ N : Nat, N ≤ xl.length ∧ k % ((xl.length : Int) + 1) = (N : Int) := by
        refine ⟨(k % ((xl.length : Int) + 1)).toNat, ?_, ?_⟩
        · have := Int.emod_lt_of_pos k (show (0 : Int) < (xl.length : Int) + 1 by omega)
          omega
        · have := Int.emod_nonneg k (show (xl.length : Int) + 1 ≠ 0 by omega)
          omega
      have hAN : A = none → N = 0 := by
        intro hh
        obtain ⟨A', c', e, q2, q3, q4, q5⟩ := hl
        injection e with e1 e2 e3
        subst e1; subst e3
        have := q4 hh
        omega
      by_cases hcN : c = N
      · obtain rfl : xl.length = N := by omega
        subst hcN
        have hd := fun (W : World) (B : Nat) (h : IR W B .u64 (.slice A xl.length xl.length) xl) => IR.cut (m := xl.length) h (Nat.le_refl _) hAN
        simp only [if_true, Nat.sub_self] at hd
        have hcases := three_cases xl xl.length (fun x hx => (bl x hx).1)
        rcases hcases with ⟨hA1, hA2⟩ | ⟨hA1, S1, hA2, hA3⟩ | ⟨S1, S2, R, E, hA1, hA2, hA3, hA4, hS1, hS2⟩
        · have HA1 := Lib.hid hA1
          have HA2 := Lib.hid hA2
          clear hA1 hA2
          go_enter Try.func8, Try.ntmps8
          go_wp2_with fail
          (with_reducible refine (known_any _).mono ?_)
          rintro e w1 ⟨rfl, hb1⟩
          have hl1 := (hl.below hb1).more hb1.size
          go_wp2_with fail
          (with_reducible refine (all_any _ xl _ hl1 bl).mono ?_)
          rintro e w2 ⟨rfl, hb2⟩
          rw [HA1.out]
          have hl2 := (hl1.below hb2).more hb2.size
          have ht := hl2.take (m := xl.length) (by omega)
          have bt : ∀ x ∈ xl.take xl.length, 0 ≤ x ∧ x ≤ 18446744073709551615 := fun x hx => bl x (List.mem_of_mem_take hx)
          have bd : ∀ x ∈ xl.drop xl.length, 0 ≤ x ∧ x ≤ 18446744073709551615 := fun x hx => bl x (List.mem_of_mem_drop hx)
          go_wp2_with fail
          (with_reducible refine (all_any _ (xl.take xl.length) _ ht bt).mono ?_)
          rintro e w3 ⟨rfl, hb3⟩
          rw [HA2.out]
          have hl3 := (hl2.below hb3).more hb3.size
          have hd3 := hd _ _ hl3
          go_wp2_with fail
          (with_reducible refine (all_any _ (xl.drop xl.length) _ hd3 bd).mono ?_)
          rintro e w4 ⟨rfl, hb4⟩
          generalize allS (List.drop xl.length xl) = r3 at *
          obtain ⟨r3a, r3b⟩ := r3
          go_wp2
          go_ret
          exact ⟨rfl, below4 hb1 hb2 hb3 hb4⟩
        · have HA1 := Lib.hid hA1
          have HA2 := Lib.hid hA2
          have HA3 := Lib.hid hA3
          clear hA1 hA2 hA3
          go_enter Try.func8, Try.ntmps8
          go_wp2_with fail
          (with_reducible refine (known_any _).mono ?_)
          rintro e w1 ⟨rfl, hb1⟩
          have hl1 := (hl.below hb1).more hb1.size
          go_wp2_with fail
          (with_reducible refine (all_any _ xl _ hl1 bl).mono ?_)
          rintro e w2 ⟨rfl, hb2⟩
          rw [HA1.out]
          have hl2 := (hl1.below hb2).more hb2.size
          have ht := hl2.take (m := xl.length) (by omega)
          have bt : ∀ x ∈ xl.take xl.length, 0 ≤ x ∧ x ≤ 18446744073709551615 := fun x hx => bl x (List.mem_of_mem_take hx)
          have bd : ∀ x ∈ xl.drop xl.length, 0 ≤ x ∧ x ≤ 18446744073709551615 := fun x hx => bl x (List.mem_of_mem_drop hx)
          go_wp2_with fail
          (with_reducible refine (all_any _ (xl.take xl.length) _ ht bt).mono ?_)
          rintro e w3 ⟨rfl, hb3⟩
          rw [HA2.out]
          have hl3 := (hl2.below hb3).more hb3.size
          have hd3 := hd _ _ hl3
          go_wp2_with fail
          (with_reducible refine (all_any _ (xl.drop xl.length) _ hd3 bd).mono ?_)
          rintro e w4 ⟨rfl, hb4⟩
          rw [HA3.out]
          go_wp2
          go_ret
          exact ⟨rfl, below4 hb1 hb2 hb3 hb4⟩
        · have HA1 := Lib.hid hA1
          have HA2 := Lib.hid hA2
          have HA3 := Lib.hid hA3
          have HA4 := Lib.hid hA4
          clear hA1 hA2 hA3 hA4
          go_enter Try.func8, Try.ntmps8
          go_wp2_with fail
          (with_reducible refine (known_any _).mono ?_)
          rintro e w1 ⟨rfl, hb1⟩
          have hl1 := (hl.below hb1).more hb1.size
          go_wp2_with fail
          (with_reducible refine (all_any _ xl _ hl1 bl).mono ?_)
          rintro e w2 ⟨rfl, hb2⟩
          rw [HA1.out]
          have hl2 := (hl1.below hb2).more hb2.size
          have ht := hl2.take (m := xl.length) (by omega)
          have bt : ∀ x ∈ xl.take xl.length, 0 ≤ x ∧ x ≤ 18446744073709551615 := fun x hx => bl x (List.mem_of_mem_take hx)
          have bd : ∀ x ∈ xl.drop xl.length, 0 ≤ x ∧ x ≤ 18446744073709551615 := fun x hx => bl x (List.mem_of_mem_drop hx)
          go_wp2_with fail
          (with_reducible refine (all_any _ (xl.take xl.length) _ ht bt).mono ?_)
          rintro e w3 ⟨rfl, hb3⟩
          rw [HA2.out]
          have hl3 := (hl2.below hb3).more hb3.size
          have hd3 := hd _ _ hl3
          go_wp2_with fail
          (with_reducible refine (all_any _ (xl.drop xl.length) _ hd3 bd).mono ?_)
          rintro e w4 ⟨rfl, hb4⟩
          rw [HA3.out]
          go_wp2_with fail
          (with_reducible refine (add_any S1 S2 hS1 hS2 _).mono ?_)
          rintro e w5 ⟨rfl, hb5⟩
          rw [HA4.out]
          go_wp2
          go_ret
          exact ⟨rfl, (below4 hb1 hb2 hb3 hb4).trans (hb5.mono (below4 hb1 hb2 hb3 hb4).size)⟩
      · have hd := fun (W : World) (B : Nat) (h : IR W B .u64 (.slice A xl.length c) xl) => IR.cut (m := N) h hNl hAN
        simp only [if_neg hcN] at hd
        have hcases := three_cases xl N (fun x hx => (bl x hx).1)
        rcases hcases with ⟨hA1, hA2⟩ | ⟨hA1, S1, hA2, hA3⟩ | ⟨S1, S2, R, E, hA1, hA2, hA3, hA4, hS1, hS2⟩
        · have HA1 := Lib.hid hA1
          have HA2 := Lib.hid hA2
          clear hA1 hA2
          go_enter Try.func8, Try.ntmps8
          go_wp2_with fail
          (with_reducible refine (known_any _).mono ?_)
          rintro e w1 ⟨rfl, hb1⟩
          have hl1 := (hl.below hb1).more hb1.size
          go_wp2_with fail
          (with_reducible refine (all_any _ xl _ hl1 bl).mono ?_)
          rintro e w2 ⟨rfl, hb2⟩
          rw [HA1.out]
          have hl2 := (hl1.below hb2).more hb2.size
          have ht := hl2.take (m := N) (by omega)
          have bt : ∀ x ∈ xl.take N, 0 ≤ x ∧ x ≤ 18446744073709551615 := fun x hx => bl x (List.mem_of_mem_take hx)
          have bd : ∀ x ∈ xl.drop N, 0 ≤ x ∧ x ≤ 18446744073709551615 := fun x hx => bl x (List.mem_of_mem_drop hx)
          go_wp2_with fail
          (with_reducible refine (all_any _ (xl.take N) _ ht bt).mono ?_)
          rintro e w3 ⟨rfl, hb3⟩
          rw [HA2.out]
          have hl3 := (hl2.below hb3).more hb3.size
          have hd3 := hd _ _ hl3
          go_wp2_with fail
          (with_reducible refine (all_any _ (xl.drop N) _ hd3 bd).mono ?_)
          rintro e w4 ⟨rfl, hb4⟩
          generalize allS (List.drop N xl) = r3 at *
          obtain ⟨r3a, r3b⟩ := r3
          go_wp2
          go_ret
          exact ⟨rfl, below4 hb1 hb2 hb3 hb4⟩
        · have HA1 := Lib.hid hA1
          have HA2 := Lib.hid hA2
          have HA3 := Lib.hid hA3
          clear hA1 hA2 hA3
          go_enter Try.func8, Try.ntmps8
          go_wp2_with fail
          (with_reducible refine (known_any _).mono ?_)
          rintro e w1 ⟨rfl, hb1⟩
          have hl1 := (hl.below hb1).more hb1.size
          go_wp2_with fail
          (with_reducible refine (all_any _ xl _ hl1 bl).mono ?_)
          rintro e w2 ⟨rfl, hb2⟩
          rw [HA1.out]
          have hl2 := (hl1.below hb2).more hb2.size
          have ht := hl2.take (m := N) (by omega)
          have bt : ∀ x ∈ xl.take N, 0 ≤ x ∧ x ≤ 18446744073709551615 := fun x hx => bl x (List.mem_of_mem_take hx)
          have bd : ∀ x ∈ xl.drop N, 0 ≤ x ∧ x ≤ 18446744073709551615 := fun x hx => bl x (List.mem_of_mem_drop hx)
          go_wp2_with fail
          (with_reducible refine (all_any _ (xl.take N) _ ht bt).mono ?_)
          rintro e w3 ⟨rfl, hb3⟩
          rw [HA2.out]
          have hl3 := (hl2.below hb3).more hb3.size
          have hd3 := hd _ _ hl3
          go_wp2_with fail
          (with_reducible refine (all_any _ (xl.drop N) _ hd3 bd).mono ?_)
          rintro e w4 ⟨rfl, hb4⟩
          rw [HA3.out]
          go_wp2
          go_ret
          exact ⟨rfl, below4 hb1 hb2 hb3 hb4⟩
        · have HA1 := Lib.hid hA1
          have HA2 := Lib.hid hA2
          have HA3 := Lib.hid hA3
          have HA4 := Lib.hid hA4
          clear hA1 hA2 hA3 hA4
          go_enter Try.func8, Try.ntmps8
          go_wp2_with fail
          (with_reducible refine (known_any _).mono ?_)
          rintro e w1 ⟨rfl, hb1⟩
          have hl1 := (hl.below hb1).more hb1.size
          go_wp2_with fail
          (with_reducible refine (all_any _ xl _ hl1 bl).mono ?_)
          rintro e w2 ⟨rfl, hb2⟩
          rw [HA1.out]
          have hl2 := (hl1.below hb2).more hb2.size
          have ht := hl2.take (m := N) (by omega)
          have bt : ∀ x ∈ xl.take N, 0 ≤ x ∧ x ≤ 18446744073709551615 := fun x hx => bl x (List.mem_of_mem_take hx)
          have bd : ∀ x ∈ xl.drop N, 0 ≤ x ∧ x ≤ 18446744073709551615 := fun x hx => bl x (List.mem_of_mem_drop hx)
          go_wp2_with fail
          (with_reducible refine (all_any _ (xl.take N) _ ht bt).mono ?_)
          rintro e w3 ⟨rfl, hb3⟩
          rw [HA2.out]
          have hl3 := (hl2.below hb3).more hb3.size
          have hd3 := hd _ _ hl3
          go_wp2_with fail
          (with_reducible refine (all_any _ (xl.drop N) _ hd3 bd).mono ?_)
          rintro e w4 ⟨rfl, hb4⟩
          rw [HA3.out]
          go_wp2_with fail
          (with_reducible refine (add_any S1 S2 hS1 hS2 _).mono ?_)
          rintro e w5 ⟨rfl, hb5⟩
          rw [HA4.out]
          go_wp2
          go_ret
          exact ⟨rfl, (below4 hb1 hb2 hb3 hb4).trans (hb5.mono (below4 hb1 hb2 hb3 hb4).size)⟩
  · have hdl : decide (500 < (xl.length : Int)) = true := by simp; omega
    go_enter Try.func8, Try.ntmps8
    go_wp2_with fail
    (with_reducible refine (known_any _).mono ?_)
    rintro e w1 ⟨rfl, hb1⟩
    go_wp2
    go_ret
    exact ⟨rfl, hb1⟩


set_option maxRecDepth 100000 in
theorem lifted (os : Os) (started : os.Started) (H : Type) (enc : TypeId × Value → H) :
    ReturnsInHanded {} Try.checked os 8 .any (Rows.moneySumsSpec.pre6 enc Try.prog Try.f8 Rows.moneySumsRow.domain false) (Rows.moneySumsSpec.post enc Try.prog Try.f8 false true false false) := by
  refine returnsInHanded_of_change (C := Try.checked) own started (by kernel_rfl) Try.func8
    (ChangeSpec.witness6 (enc := enc) (C := Try.checked) false ⟨#[], #[.slice none 0 0, .int .i64 0], []⟩ 8 (by kernel_rfl) (by kernel_rfl) (by kernel_rfl) (by kernel_rfl)) ?_
  intro W base args ds gs before hval0 hW hcnd _
  have hval : ∀ (j : Nat) t v, Try.f8.params[j]? = some t → args[j]? = some v → Value.okWide Try.prog W .any base t v := hval0
  have hW' := hW
  obtain ⟨p, q, hA0, hV, rfl, hfz, hnd⟩ := hW
  have hA1 : DataW.TrodAll enc Try.prog W 0 (fun _ => true) true Try.f8.params.toList args.toList ds p := hA0
  have hA := hA1
  rw [Try.params8] at hA hval
  obtain ⟨v0, vs0, d0, ds0, p0, q0, hargs, rfl, rfl, h0, r0⟩ := trodAll_cons hA
  obtain ⟨v1, vs1, d1, ds1, p1, q1, rfl, rfl, rfl, h1, r1⟩ := trodAll_cons r0
  obtain ⟨rfl, rfl, rfl⟩ := trodAll_nil r1
  obtain rfl : args = #[v0, v1] := by cases args; simp_all
  obtain ⟨rfl, rfl⟩ := trodVars_none hV
  obtain ⟨xl, i0, wf0⟩ := open_IR Try.underlying34 Try.underlying22 (by kernel_rfl) (hval 0 34 v0 rfl rfl) h0
  obtain ⟨k, rfl, rfl, rfl, wf1⟩ := open_int Try.underlying3 (hval 1 3 v1 rfl rfl) h1
  clear hA0 hval0
  refine (walk W v0 xl i0 (fun n hn => bounds_u64 (wf0 n hn)) k (bounds_i64 wf1)).mono fun e W' ⟨he, bel⟩ => ?_
  subst he
  exact ⟨_, rfl, _, _, _, [], _, [], hW', trodAll_mk1 (shut_bool Try.underlying4 _), args_again laidOut bel (by kernel_rfl) hA1, rfl, bel.frame _, fun h => by cases h⟩

theorem over : Rows.moneySumsRow.holds Try.pinned (OpenSpec.ofChange Rows.moneySumsSpec) :=
  OpenClaim.holds_of_wide 8 Try.f8 rfl rfl rfl rfl rfl rfl rfl ⟨rfl, rfl, rfl, rfl, rfl⟩ rfl rfl rfl rfl rfl (by kernel_rfl) Try.func8 (by kernel_rfl)
    (of_decide_eq_true (by kernel_rfl)) (by unfold Func.isWrapper; first | (rw [if_pos (by decide +kernel)]; kernel_rfl) | (rw [if_neg (by decide +kernel)]; exact ⟨rfl, rfl⟩))
    (fun os started H enc _ => lifted os started H enc)

theorem proved : Rows.MoneySumsSaid := over
end Go.Proofs.Ytnbiabcgnngamaa.LMoneySums
