import Derived.Test.YtfkomfhnkpecfaaStk8
import Derived.Test.YtfkomfhnkpecfaaStk3
import Derived.Deep.RegionWith
import Derived.Deep.RegionHeld3
import Derived.Deep.DrawnRows
/- Recipes: how much less, how much more. -/
namespace Go.Proofs.Ytfkomfhnkpecfaa.Stk
open Go.ChangeShapes Go.WideShapes Go.ChangeAt Go.RowKit Go.IntWalk Go.Proofs.Mem Go.Proofs.Stk
set_option linter.unusedVariables false
theorem ret_pair {a b : Int} {k k' : IntKind} {x y : Int} (h : a = x) (h' : b = y) : Ending.returned (.tuple #[.int k a, .int k' b]) = .returned (.tuple #[.int k x, .int k' y]) := by rw [h, h']
theorem errN_bd (id n : Int) : errN id n = 0 ∨ errN id n = 1 ∨ errN id n = 40 := by unfold errN; split; · simp
                                                                                    · split <;> simp
theorem inN_len (id n : Int) : (inN id n).length ≤ 1000 ∧ (outN id n).length ≤ 1000 := by
  obtain ⟨s1, s2⟩ := lineS_small id
  have := s1.1; have := s2.1
  unfold inN outN; constructor <;> split <;> simp [times_len] <;> omega
theorem inN_err (id n : Int) (h : errN id n ≠ 0) : inN id n = [] ∧ outN id n = [] := by
  unfold inN outN; rw [if_neg h, if_neg h]; exact ⟨rfl, rfl⟩
set_option maxRecDepth 100000 in
set_option maxHeartbeats 4000000 in
theorem change_ref (id n item : Int) (hn : 0 ≤ n ∧ n ≤ 18446744073709551615) (w : World) : Calls Try.prog 12 #[.int .u32 id, .int .u64 n, .int .u32 item] w fun e w' =>
    e = .returned (.tuple #[.int .u64 (cnt item (inN id n)), .int .u64 (cnt item (outN id n))]) ∧ Below w.heap.size w w' := by
  have HO := Lib.hid (fun W => needs_ref id n hn W)
  obtain ⟨i1, i2⟩ := inN_len id n
  by_cases he : errN id n = 0
  · have hd : (errN id n != 0) = false := by simpa using he
    generalize errN id n = err at *
    generalize inN id n = l1 at *
    generalize outN id n = l2 at *
    clear he
    go_enter Try.func12, Try.ntmps12
    go_wp2_with fail
    (with_reducible refine (HO.out _).mono ?_)
    rintro e w1 ⟨v, rfl, ⟨A1, c1, A2, c2, rfl, k1, k2⟩, hb1⟩
    have k1' := fun o => (k1.keep (w' := w1.alloc o) fun p hp => World.cell?_alloc_lt w1 o p hp)
    have k2' := fun o => (k2.keep (w' := w1.alloc o) fun p hp => World.cell?_alloc_lt w1 o p hp)
    have K1 := Lib.hid k1'
    have K2 := Lib.hid k2'
    clear k1 k2 k1' k2'
    go_wp2
    go_quiet ((first | (go_at_call 19; exact quiet_l (count_ref _ l1 item i1 _ _ ((K1.out _)))) | (go_at_call 19; exact quiet_l (count_ref _ l2 item i2 _ _ ((K2.out _))))))
    go_wp2
    go_ret2
    exact ⟨rfl, below_drewN (hb1.alloc hb1.size _) _⟩
  · have hd : (errN id n != 0) = true := by simpa using he
    obtain ⟨e1, e2⟩ := inN_err id n he
    rw [e1, e2] at HO ⊢
    generalize errN id n = err at *
    clear he i1 i2 e1 e2
    go_enter Try.func12, Try.ntmps12
    go_wp2_with fail
    (with_reducible refine (HO.out _).mono ?_)
    rintro e w1 ⟨v, rfl, ⟨A1, c1, A2, c2, rfl, k1, k2⟩, hb1⟩
    clear k1 k2
    go_wp2
    go_ret2
    exact ⟨rfl, hb1.alloc hb1.size _⟩
end Go.Proofs.Ytfkomfhnkpecfaa.Stk
