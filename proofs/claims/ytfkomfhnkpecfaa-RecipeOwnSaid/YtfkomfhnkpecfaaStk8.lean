import Derived.Test.YtfkomfhnkpecfaaStk7
/- Recipes: the document's so many times. -/
namespace Go.Proofs.Ytfkomfhnkpecfaa.Stk
open Go.ChangeShapes Go.WideShapes Go.ChangeAt Go.RowKit Go.IntWalk Go.Proofs.Mem Go.Proofs.Stk
set_option linter.unusedVariables false
set_option maxRecDepth 100000 in
set_option maxHeartbeats 4000000 in
theorem needs_ref_bad (id n : Int) (h : isS id = true) (hr : n < 1 ∨ 1000 < n) (w : World) : Calls Try.prog 10 #[.int .u32 id, .int .u64 n] w (RdPost [] [] (.int .i64 1) w) := by
  have HO := Lib.hid (fun W => line_some id h W)
  have ho := lineS_one h
  have hf1 := flatI_len (lineS id).1
  have hne : (((flatI (lineS id).1).length : Int) == 0) = false := by rw [beq_eq_false_iff_ne]; omega
  clear h ho hf1
  rcases (show (decide (n < 1) = true) ∨ (decide (n < 1) = false ∧ decide (1000 < n) = true) by
    by_cases h1 : n < 1
    · exact .inl (decide_eq_true h1)
    · exact .inr ⟨decide_eq_false h1, decide_eq_true (by omega)⟩) with hd | ⟨hd, hd2⟩
  all_goals
    clear hr
    go_enter Try.func10, Try.ntmps10
    go_wp2_with fail
    (with_reducible refine (HO.out _).mono ?_)
    rintro e w1 ⟨u, v, rfl, hu, hv, hb1⟩
    obtain ⟨Au, cu, rfl, hu1, hu2⟩ := hu.form
    obtain ⟨c0, c1, f0, f1, z3⟩ := two_kept (w := w) (by simpa using hb1)
    have hbw : Below w.heap.size w w1 := ((Below.refl _ _).alloc (Nat.le_refl _) _).trans (hb1.mono (by simp))
    clear hb1
    go_wp2
    refine bodyPost_ret (v := .tuple #[.agg #[.slice none 0 0, .slice none 0 0], .int .i64 1]) (by simp [results, Try.results10, go_sem, c0, c1]; try rfl) rfl ?_
    exact ⟨_, rfl, Rd.none _, (hbw.setCell (Nat.le_refl _) _).setCell (Nat.le_refl _) _⟩
set_option maxRecDepth 100000 in
set_option maxHeartbeats 4000000 in
theorem needs_ref_none (id n : Int) (h : isS id = false) (w : World) : Calls Try.prog 10 #[.int .u32 id, .int .u64 n] w (RdPost [] [] (.int .i64 40) w) := by
  have HO := Lib.hid (fun W => line_none id h W)
  clear h
  go_enter Try.func10, Try.ntmps10
  go_wp2_with fail
  (with_reducible refine (HO.out _).mono ?_)
  rintro e w1 ⟨rfl, rfl⟩
  go_wp2
  refine bodyPost_ret (v := .tuple #[.agg #[.slice none 0 0, .slice none 0 0], .int .i64 40]) (by simp [results, Try.results10, go_sem]; try rfl) rfl ?_
  exact ⟨_, rfl, Rd.none _, (Below.refl _ _).alloc (Nat.le_refl _) _⟩
set_option maxRecDepth 100000 in
set_option maxHeartbeats 4000000 in
theorem needs_ref_some (id n : Int) (h : isS id = true) (h1 : 1 ≤ n) (h2 : n ≤ 1000) (w : World) :
    Calls Try.prog 10 #[.int .u32 id, .int .u64 n] w (RdPost (times n (lineS id).1) (times n (lineS id).2) (.int .i64 0) w) := by
  obtain ⟨s1, s2⟩ := lineS_small id
  have hl := fun W => line_some id h W
  have ho := lineS_one h
  generalize (lineS id).1 = l1 at *
  generalize (lineS id).2 = l2 at *
  have HO := Lib.hid hl
  have hf1 := flatI_len l1
  have hne : (((flatI l1).length : Int) == 0) = false := by rw [beq_eq_false_iff_ne]; omega
  clear h hl hf1 ho
  have hd : decide (n < 1) = false := by simp; omega
  have hd2 : decide (1000 < n) = false := by simp; omega
  go_enter Try.func10, Try.ntmps10
  go_wp2_with fail
  (with_reducible refine (HO.out _).mono ?_)
  rintro e w1 ⟨u, v, rfl, hu, hv, hb1⟩
  obtain ⟨Au, cu, rfl, hu1, hu2⟩ := hu.form
  go_wp2_with fail
  (with_reducible refine (stacks_any _ l1 n ⟨by omega, by omega⟩ s1 _ hu).mono ?_)
  rintro e w2 ⟨a, rfl, ha, hb2⟩
  go_wp2_with fail
  (with_reducible refine (stacks_any _ l2 n ⟨by omega, by omega⟩ s2 _ ((hv.below hb2).more hb2.size)).mono ?_)
  rintro e w3 ⟨b, rfl, hb, hb3⟩
  have z1 := hb1.size
  have z2 := hb2.size
  simp at z1
  have hB : Below (w.heap.size + 1) (w.alloc (.cells #[.slice none 0 0, .slice none 0 0] 26)) w3 := by
    simp at hb1
    exact (hb1.trans (hb2.mono (by omega))).trans (hb3.mono (by omega))
  obtain ⟨c0, c1, f0, f1, z3⟩ := two_kept hB
  have ha3 := ha.below hb3
  obtain ⟨Aa, ca, rfl, _, _⟩ := ha3.1.form
  obtain ⟨Ab, cb, rfl, _, _⟩ := hb.1.form
  have K := rd_store hB ha3 hb (by first | omega | simp) (by omega)
  go_wp2
  refine bodyPost_ret (v := .tuple #[.agg #[.slice Aa (times n l1).length ca, .slice Ab (times n l2).length cb], .int .i64 0]) (by simp [results, Try.results10, go_sem, c0, c1]; try rfl) rfl ?_
  exact ⟨_, rfl, K⟩
theorem needs_ref (id n : Int) (hn : 0 ≤ n ∧ n ≤ 18446744073709551615) (w : World) : Calls Try.prog 10 #[.int .u32 id, .int .u64 n] w (RdPost (inN id n) (outN id n) (.int .i64 (errN id n)) w) := by
  by_cases h : isS id = true
  · by_cases hr : n < 1 ∨ 1000 < n
    · have he : errN id n = 1 := by unfold errN; rw [h]; simp [hr]
      have := needs_ref_bad id n h hr w
      rw [show inN id n = [] by unfold inN; rw [he]; rfl, show outN id n = [] by unfold outN; rw [he]; rfl, he]; exact this
    · have he : errN id n = 0 := by unfold errN; rw [h]; simp [hr]
      have := needs_ref_some id n h (by omega) (by omega) w
      rw [show inN id n = times n (lineS id).1 by unfold inN; rw [he]; rfl, show outN id n = times n (lineS id).2 by unfold outN; rw [he]; rfl, he]; exact this
  · have h' : isS id = false := by simpa using h
    have he : errN id n = 40 := by unfold errN; rw [h']; rfl
    have := needs_ref_none id n h' w
    rw [show inN id n = [] by unfold inN; rw [he]; rfl, show outN id n = [] by unfold outN; rw [he]; rfl, he]; exact this
end Go.Proofs.Ytfkomfhnkpecfaa.Stk
