import Derived.Test.YtfkomfhnkpecfaaStk9
/- Recipes: how much less, how much more: the code. -/
namespace Go.Proofs.Ytfkomfhnkpecfaa.Stk
open Go.ChangeShapes Go.WideShapes Go.ChangeAt Go.RowKit Go.IntWalk Go.Proofs.Mem Go.Proofs.Stk
set_option linter.unusedVariables false
attribute [local go_sem ↓] Go.wp_at_zero Go.wp_at_succ
set_option maxRecDepth 100000 in
set_option maxHeartbeats 4000000 in
theorem change_any (id n item : Int) (hn : 0 ≤ n ∧ n ≤ 18446744073709551615) (w : World) : Calls Try.prog 11 #[.int .u32 id, .int .u64 n, .int .u32 item] w fun e w' =>
    e = .returned (.tuple #[.int .u64 (cnt item (inN id n)), .int .u64 (cnt item (outN id n))]) ∧ Below w.heap.size w w' := by
  have HO := Lib.hid (fun W => needs_any id n hn W)
  obtain ⟨i1, i2⟩ := inN_len id n
  by_cases he : errN id n = 0
  · have hd : (errN id n != 0) = false := by simpa using he
    generalize errN id n = err at *
    generalize inN id n = l1 at *
    generalize outN id n = l2 at *
    clear he
    go_enter Try.func11, Try.ntmps11
    go_wp2_with fail
    (with_reducible refine (HO.out _).mono ?_)
    rintro e w1 ⟨v, rfl, ⟨A1, c1, A2, c2, rfl, k1, k2⟩, hb1⟩
    have k1' := fun (W : World) (h : Below w1.heap.size w1 W) => (k1.below h).more h.size
    have k2' := fun (W : World) (h : Below w1.heap.size w1 W) => (k2.below h).more h.size
    have K1 := Lib.hid k1'
    have K2 := Lib.hid k2'
    clear k1 k2 k1' k2'
    go_wp2
    go_region_held3 (fun w' => w'.cell? ⟨w1.heap.size, 0, none⟩ = some (.slice A1 l1.length c1) ∧ w'.cell? ⟨w1.heap.size, 1, none⟩ = some (.slice A2 l2.length c2) ∧ w1.heap.size < w'.heap.size ∧ Below w1.heap.size w1 w')
      (first
        | (refine ⟨?_, ?_, ?_, ?_⟩ <;> first | assumption | simp | exact (((Below.refl _ _).alloc (Nat.le_refl _) _).drew))
        | (go_split_ands; exact ⟨(hbc.cell (p := ⟨w1.heap.size, 0, none⟩) (by assumption)).trans (by assumption), (hbc.cell (p := ⟨w1.heap.size, 1, none⟩) (by assumption)).trans (by assumption), Nat.lt_of_lt_of_le (by assumption) hbc.size, Below.trans (by assumption) (hbc.mono (Nat.le_of_lt (by assumption)))⟩))
      ((first
        | (go_at_call 18; (with_reducible refine (count_any (.slice A1 l1.length c1) l1 item i1 _ (K1.out _ (by go_split_ands; assumption))).mono ?_); rintro e w' ⟨rfl, hbc⟩)
        | (go_at_call 18; (with_reducible refine (count_any (.slice A2 l2.length c2) l2 item i2 _ (K2.out _ (by go_split_ands; assumption))).mono ?_); rintro e w' ⟨rfl, hbc⟩)))
    rename_i hH
    obtain ⟨_, _, _, hbz⟩ := hH
    go_wp2
    go_ret2
    exact ⟨rfl, hb1.trans (hbz.mono hb1.size)⟩
  · have hd : (errN id n != 0) = true := by simpa using he
    obtain ⟨e1, e2⟩ := inN_err id n he
    rw [e1, e2] at HO ⊢
    generalize errN id n = err at *
    clear he i1 i2 e1 e2
    go_enter Try.func11, Try.ntmps11
    go_wp2_with fail
    (with_reducible refine (HO.out _).mono ?_)
    rintro e w1 ⟨v, rfl, ⟨A1, c1, A2, c2, rfl, k1, k2⟩, hb1⟩
    clear k1 k2
    go_wp2
    go_ret2
    exact ⟨rfl, hb1.alloc hb1.size _⟩
end Go.Proofs.Ytfkomfhnkpecfaa.Stk
