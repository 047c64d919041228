import Derived.Test.YtfkomfhnkpecfaaRows
import Derived.Test.YtfkomfhnkpecfaaStkMath
import Derived.WalkKit
import Derived.ProofKit
import Derived.Lib.Hide
import Derived.Deep.QuietTactic
import Derived.BigQuiet
import Derived.Handy
/- Recipes: what Of tells; lists read and counted. -/
namespace Go.Proofs.Ytfkomfhnkpecfaa.Stk
open Go.ChangeShapes Go.WideShapes Go.ChangeAt Go.RowKit Go.IntWalk Go.Proofs.Mem Go.Proofs.Stk
set_option linter.unusedVariables false
/-- a recipe's value at two blocks -/
def rv (g1 g2 : Nat) (n1 n2 : Nat) : Value := .agg #[.slice (some ⟨g1, 0, none⟩) n1 n1, .slice (some ⟨g2, 0, none⟩) n2 n2]
def OfPost (l1 l2 : List Pr) (x : Value) (w : World) (e : Ending) (w' : World) : Prop :=
  ∃ g1 g2, e = .returned (.tuple #[rv g1 g2 l1.length l2.length, x]) ∧ g1 ≠ g2 ∧ w.heap.size ≤ g1 ∧ w.heap.size ≤ g2 ∧
    KO w' g1 41 l1 ∧ KO w' g2 41 l2 ∧ Below w.heap.size w w'
theorem KO.new (w : World) (t : TypeId) (l : List Pr) (g : Nat) (hg : g = w.heap.size) : KO (w.alloc (.cells (flat l).toArray t)) g t l := by
  subst hg; exact heap_alloc_new w _
theorem of_post (w : World) (o : Obj) (l1 l2 : List Pr) (x : Value) (v : Value) (hv : v = rv (w.heap.size + 1) (w.heap.size + 2) l1.length l2.length) :
    OfPost l1 l2 x w (.returned (.tuple #[v, x])) (((w.alloc o).alloc (.cells (flat l1).toArray 41)).alloc (.cells (flat l2).toArray 41)) := by
  subst hv
  refine ⟨w.heap.size + 1, w.heap.size + 2, rfl, by omega, by omega, by omega, ?_, ?_, ?_⟩
  · exact (KO.new _ _ _ _ (by simp)).alloc _
  · exact KO.new _ _ _ _ (by simp)
  · exact (((Below.refl _ _).alloc (Nat.le_refl _) _).alloc (by simp) _).alloc (by simp; omega) _
set_option maxRecDepth 100000 in
set_option maxHeartbeats 4000000 in
theorem of_some (id : Int) (h : isS id = true) (w : World) : Calls Try.prog 7 #[.int .u32 id] w (OfPost (lineS id).1 (lineS id).2 (.bool true) w) := by
  refine six (id := id) ?_ ?_ ?_ ?_ ?_ ?_ (fun h0 => by rw [h] at h0; cases h0)
  all_goals intro e; subst e; clear h
  · go_enter Try.func7, Try.ntmps7
    go_wp2
    refine bodyPost_ret (v := .tuple #[rv (w.heap.size + 1) (w.heap.size + 2) 1 1, .bool true]) (by simp [results, Try.results7, go_sem]; try rfl) rfl ?_
    exact of_post w _ [(1, 2)] [(2, 1)] (.bool true) _ rfl
  · go_enter Try.func7, Try.ntmps7
    go_wp2
    refine bodyPost_ret (v := .tuple #[rv (w.heap.size + 1) (w.heap.size + 2) 2 1, .bool true]) (by simp [results, Try.results7, go_sem]; try rfl) rfl ?_
    exact of_post w _ [(2, 1), (3, 1)] [(4, 1)] (.bool true) _ rfl
  · go_enter Try.func7, Try.ntmps7
    go_wp2
    refine bodyPost_ret (v := .tuple #[rv (w.heap.size + 1) (w.heap.size + 2) 1 2, .bool true]) (by simp [results, Try.results7, go_sem]; try rfl) rfl ?_
    exact of_post w _ [(4, 1)] [(2, 1), (5, 3)] (.bool true) _ rfl
  · go_enter Try.func7, Try.ntmps7
    go_wp2
    refine bodyPost_ret (v := .tuple #[rv (w.heap.size + 1) (w.heap.size + 2) 1 2, .bool true]) (by simp [results, Try.results7, go_sem]; try rfl) rfl ?_
    exact of_post w _ [(5, 10)] [(6, 1), (5, 1)] (.bool true) _ rfl
  · go_enter Try.func7, Try.ntmps7
    go_wp2
    refine bodyPost_ret (v := .tuple #[rv (w.heap.size + 1) (w.heap.size + 2) 3 1, .bool true]) (by simp [results, Try.results7, go_sem]; try rfl) rfl ?_
    exact of_post w _ [(6, 1), (4, 2), (1, 5)] [(7, 1)] (.bool true) _ rfl
  · go_enter Try.func7, Try.ntmps7
    go_wp2
    refine bodyPost_ret (v := .tuple #[rv (w.heap.size + 1) (w.heap.size + 2) 1 2, .bool true]) (by simp [results, Try.results7, go_sem]; try rfl) rfl ?_
    exact of_post w _ [(7, 1)] [(6, 1), (1, 4)] (.bool true) _ rfl
set_option maxRecDepth 100000 in
theorem of_none (id : Int) (h : isS id = false) (w : World) : Calls Try.prog 7 #[.int .u32 id] w fun e w' => e = .returned (.tuple #[.agg #[.slice none 0 0, .slice none 0 0], .bool false]) ∧ Below w.heap.size w w' := by
  unfold isS at h; simp at h
  have a1 : (id == 1) = false := by simp; omega
  have a2 : (id == 2) = false := by simp; omega
  have a3 : (id == 3) = false := by simp; omega
  have a4 : (id == 4) = false := by simp; omega
  have a5 : (id == 5) = false := by simp; omega
  have a6 : (id == 6) = false := by simp; omega
  clear h
  go_enter Try.func7, Try.ntmps7
  go_wp2
  refine bodyPost_ret (v := .tuple #[.agg #[.slice none 0 0, .slice none 0 0], .bool false]) (by simp [results, Try.results7, go_sem]; try rfl) rfl ?_
  exact ⟨rfl, (Below.refl _ _).alloc (Nat.le_refl _) _⟩
end Go.Proofs.Ytfkomfhnkpecfaa.Stk
