import Derived.Test.YtimnhanjlldhoaaClk9
import Derived.BigRegion
/- The document's clock is made. -/
namespace Go.Proofs.Ytimnhanjlldhoaa.Clk
open Go.ChangeShapes Go.WideShapes Go.ChangeAt Go.RowKit Go.IntWalk Go.Proofs.Mem Go.Proofs.Clk
set_option linter.unusedVariables false
theorem bool_info : (Try.prog.info? 4).map (fun i => (i.zero, i.size, i.bytes)) = some (some (.bool false), 1, 1) := by kernel_rfl
theorem int_info : (Try.prog.info? 3).map (fun i => (i.zero, i.size, i.bytes)) = some (some (.int .i64 0), 1, 8) := by kernel_rfl
theorem made_one (z : Value) (hz : z.cells = #[z]) (n : Nat) : madeCells z.cells (n * 1) = (List.replicate n z).toArray := by
  apply Array.toList_inj.1
  rw [Nat.mul_one, hz, toList_madeCells_one]
theorem ref_not (w : World) (n : Int) (hn : ¬ (1 ≤ n ∧ n ≤ 64)) : Calls Try.prog 9 #[.int .i64 n] w fun e w' => e = .returned (.pointer none) ∧ w = w' := by
  by_cases h0 : n < 1
  · have d1 : decide (n < 1) = true := decide_eq_true h0
    go_enter Try.func9, Try.ntmps9
    go_wp2
    go_ret
    exact ⟨rfl, rfl⟩
  · have d1 : decide (n < 1) = false := decide_eq_false h0
    have d2 : decide (64 < n) = true := decide_eq_true (by omega)
    go_enter Try.func9, Try.ntmps9
    go_wp2
    go_ret
    exact ⟨rfl, rfl⟩
theorem newAt (w : World) (g : Nat) (hg : w.heap.size = g) (C : Array Value) (t : TypeId) : Box (w.alloc (.cells C t)) g C t := by subst hg; exact Box.new w C t
def RefPost (w : World) (n : Nat) (e : Ending) (w' : World) : Prop :=
    ∃ g ga gb gc, e = .returned (.pointer (some ⟨g, 0, none⟩)) ∧ RK w' g ga gb gc (List.replicate n z3) 0 ∧ (w.heap.size ≤ g ∧ w.heap.size ≤ ga ∧ w.heap.size ≤ gb ∧ w.heap.size ≤ gc) ∧ Below w.heap.size w w'
theorem fin (w W : World) (n : Nat) (AB AI : Array Value) (eB : AB = (List.replicate n (Value.bool false)).toArray) (eI : AI = (List.replicate n (Value.int .i64 0)).toArray) (a b c : Nat) (h : a ≠ b ∧ a ≠ c ∧ b ≠ c ∧ a < 3 ∧ b < 3 ∧ c < 3)
    (hT : Box W (w.heap.size + 3) #[.slice (some ⟨w.heap.size + a, 0, none⟩) n n, .slice (some ⟨w.heap.size + b, 0, none⟩) n n, .slice (some ⟨w.heap.size + c, 0, none⟩) n n, .int .i64 0] 46)
    (ha : Box W (w.heap.size + a) AB 4) (hb : Box W (w.heap.size + b) AB 4) (hc : Box W (w.heap.size + c) AI 3) (hB : Below w.heap.size w W) (e : Ending) (he : e = .returned (.pointer (some ⟨w.heap.size + 3, 0, none⟩))) : RefPost w n e W := by
  refine ⟨w.heap.size + 3, w.heap.size + a, w.heap.size + b, w.heap.size + c, he, ⟨by omega, by omega, by omega, by omega, by omega, by omega, ?_, ?_, ?_, ?_⟩, ⟨by omega, by omega, by omega, by omega⟩, hB⟩
  · rw [List.length_replicate]; exact hT
  · rw [List.map_replicate]; rw [eB] at ha; exact ha
  · rw [List.map_replicate]; rw [eB] at hb; exact hb
  · rw [List.map_replicate]; rw [eI] at hc; exact hc
set_option maxHeartbeats 8000000 in
theorem ref_is (w : World) (n : Nat) (hn : 1 ≤ n ∧ n ≤ 64) : Calls Try.prog 9 #[.int .i64 n] w (RefPost w n) := by
  obtain ⟨ib, hi0, hz0, hz1, hz2⟩ := info_parts bool_info
  obtain ⟨ii, hi1, hy0, hy1, hy2⟩ := info_parts int_info
  have hmb : ∀ W : World, (Instr.makeSlice 43 (.int .i64 n) (.int .i64 n)).run Try.prog W = .ok (.slice (some ⟨W.heap.size, 0, none⟩) n n) (W.alloc (.cells (List.replicate n (Value.bool false)).toArray 4)) := fun W => by
    have := run_make W 43 4 ib _ Try.underlying43 hi0 hz0 .i64 .i64 n n (by omega) (Int.le_refl _) (by rw [hz2]; omega) (by omega)
    rw [Int.toNat_natCast, hz1, made_one _ rfl] at this
    exact this
  have hmi : ∀ W : World, (Instr.makeSlice 44 (.int .i64 n) (.int .i64 n)).run Try.prog W = .ok (.slice (some ⟨W.heap.size, 0, none⟩) n n) (W.alloc (.cells (List.replicate n (Value.int .i64 0)).toArray 3)) := fun W => by
    have := run_make W 44 3 ii _ Try.underlying44 hi1 hy0 .i64 .i64 n n (by omega) (Int.le_refl _) (by rw [hy2]; omega) (by omega)
    rw [Int.toNat_natCast, hy1, made_one _ rfl] at this
    exact this
  obtain ⟨AB, hAB⟩ : ∃ A, A = (List.replicate n (Value.bool false)).toArray := ⟨_, rfl⟩
  obtain ⟨AI, hAI⟩ : ∃ A, A = (List.replicate n (Value.int .i64 0)).toArray := ⟨_, rfl⟩
  rw [← hAB] at hmb
  rw [← hAI] at hmi
  have HAB := Lib.hid hAB
  have HAI := Lib.hid hAI
  clear hAB hAI
  have d1 : decide ((n : Int) < 1) = false := decide_eq_false (by omega)
  have d1' : decide (n < 1) = false := decide_eq_false (by omega)
  have d2 : decide (64 < (n : Int)) = false := decide_eq_false (by omega)
  have d2' : decide (64 < n) = false := decide_eq_false (by omega)
  clear hi0 hz0 hz1 hz2 hi1 hy0 hy1 hy2
  go_enter Try.func9, Try.ntmps9
  go_wp2
  go_region
  all_goals go_wp2
  all_goals go_ret
  all_goals first
  | (refine fin w _ n AB AI HAB.out HAI.out 0 1 2 (by decide) ?_ ?_ ?_ ?_ (Below.drew (new_ (new_ (new_ (new_ (Below.refl _ _) _) _) _) _)) _ rfl <;> (first | (refine Box.drew (newAt _ _ ?_ _ _); simp; done) | (refine Box.drew ((newAt _ _ ?_ _ _).alloc _); simp; done) | (refine Box.drew (((newAt _ _ ?_ _ _).alloc _).alloc _); simp; done) | (refine Box.drew ((((newAt _ _ ?_ _ _).alloc _).alloc _).alloc _); rfl)); done)
  | (refine fin w _ n AB AI HAB.out HAI.out 1 0 2 (by decide) ?_ ?_ ?_ ?_ (Below.drew (new_ (new_ (new_ (new_ (Below.refl _ _) _) _) _) _)) _ rfl <;> (first | (refine Box.drew (newAt _ _ ?_ _ _); simp; done) | (refine Box.drew ((newAt _ _ ?_ _ _).alloc _); simp; done) | (refine Box.drew (((newAt _ _ ?_ _ _).alloc _).alloc _); simp; done) | (refine Box.drew ((((newAt _ _ ?_ _ _).alloc _).alloc _).alloc _); rfl)); done)
  | (refine fin w _ n AB AI HAB.out HAI.out 0 2 1 (by decide) ?_ ?_ ?_ ?_ (Below.drew (new_ (new_ (new_ (new_ (Below.refl _ _) _) _) _) _)) _ rfl <;> (first | (refine Box.drew (newAt _ _ ?_ _ _); simp; done) | (refine Box.drew ((newAt _ _ ?_ _ _).alloc _); simp; done) | (refine Box.drew (((newAt _ _ ?_ _ _).alloc _).alloc _); simp; done) | (refine Box.drew ((((newAt _ _ ?_ _ _).alloc _).alloc _).alloc _); rfl)); done)
  | (refine fin w _ n AB AI HAB.out HAI.out 2 0 1 (by decide) ?_ ?_ ?_ ?_ (Below.drew (new_ (new_ (new_ (new_ (Below.refl _ _) _) _) _) _)) _ rfl <;> (first | (refine Box.drew (newAt _ _ ?_ _ _); simp; done) | (refine Box.drew ((newAt _ _ ?_ _ _).alloc _); simp; done) | (refine Box.drew (((newAt _ _ ?_ _ _).alloc _).alloc _); simp; done) | (refine Box.drew ((((newAt _ _ ?_ _ _).alloc _).alloc _).alloc _); rfl)); done)
  | (refine fin w _ n AB AI HAB.out HAI.out 1 2 0 (by decide) ?_ ?_ ?_ ?_ (Below.drew (new_ (new_ (new_ (new_ (Below.refl _ _) _) _) _) _)) _ rfl <;> (first | (refine Box.drew (newAt _ _ ?_ _ _); simp; done) | (refine Box.drew ((newAt _ _ ?_ _ _).alloc _); simp; done) | (refine Box.drew (((newAt _ _ ?_ _ _).alloc _).alloc _); simp; done) | (refine Box.drew ((((newAt _ _ ?_ _ _).alloc _).alloc _).alloc _); rfl)); done)
  | (refine fin w _ n AB AI HAB.out HAI.out 2 1 0 (by decide) ?_ ?_ ?_ ?_ (Below.drew (new_ (new_ (new_ (new_ (Below.refl _ _) _) _) _) _)) _ rfl <;> (first | (refine Box.drew (newAt _ _ ?_ _ _); simp; done) | (refine Box.drew ((newAt _ _ ?_ _ _).alloc _); simp; done) | (refine Box.drew (((newAt _ _ ?_ _ _).alloc _).alloc _); simp; done) | (refine Box.drew ((((newAt _ _ ?_ _ _).alloc _).alloc _).alloc _); rfl)); done)
end Go.Proofs.Ytimnhanjlldhoaa.Clk
