import Derived.Test.YtneaehimdmachaaRule1
import Derived.Deep.RegionHeld3
import Derived.Deep.RegionWith
import Derived.RegionTactic
import Derived.RegionDies
import Derived.Deep.DrawnRows
import Derived.Outline
/- What is refused ahead of all look-ups. -/
namespace Go.Proofs.Ytneaehimdmachaa.Rule
open Go.ChangeShapes Go.WideShapes Go.ChangeAt Go.RowKit Go.IntWalk Go.Proofs.Mem
set_option linter.unusedVariables false
/-- an operation's numbers -/
structure Ot where
  kd : Int
  wh : Int
  wm : Int
  wt : Int
  id : Int
  n : Int
  pr : Int
def Ot.cells (q : Ot) : Array Value := #[.int .u8 q.kd, .int .u32 q.wh, .int .u32 q.wm, .int .u32 q.wt, .int .u32 q.id, .int .u64 q.n, .int .u64 q.pr]
structure Ot.Ok (q : Ot) : Prop where
  kd : 0 ≤ q.kd ∧ q.kd ≤ 255
  wh : 0 ≤ q.wh ∧ q.wh ≤ 4294967295
  wm : 0 ≤ q.wm ∧ q.wm ≤ 4294967295
  wt : 0 ≤ q.wt ∧ q.wt ≤ 4294967295
  id : 0 ≤ q.id ∧ q.id ≤ 4294967295
  n : 0 ≤ q.n ∧ q.n ≤ 18446744073709551615
  pr : 0 ≤ q.pr ∧ q.pr ≤ 18446744073709551615
/-- an operation that is being done: its numbers, what was seen, how much of it, what is put -/
def wk (q : Ot) (v : Value) (i : Int) (p : Value) : Array Value := #[.int .u8 q.kd, .int .u32 q.wh, .int .u32 q.wm, .int .u32 q.wt, .int .u32 q.id, .int .u64 q.n, .int .u64 q.pr, v, .int .i64 i, p]
abbrev WorkAt (w : World) (g : Nat) (q : Ot) (v : Value) (i : Int) (p : Value) : Prop := Box w g (wk q v i p) 63
/-- all ten cells -/
structure WC (w : World) (g : Nat) (q : Ot) (v : Value) (i : Int) (p : Value) : Prop where
  c0 : w.cell? ⟨g, 0, none⟩ = some (.int .u8 q.kd)
  c1 : w.cell? ⟨g, 1, none⟩ = some (.int .u32 q.wh)
  c2 : w.cell? ⟨g, 2, none⟩ = some (.int .u32 q.wm)
  c3 : w.cell? ⟨g, 3, none⟩ = some (.int .u32 q.wt)
  c4 : w.cell? ⟨g, 4, none⟩ = some (.int .u32 q.id)
  c5 : w.cell? ⟨g, 5, none⟩ = some (.int .u64 q.n)
  c6 : w.cell? ⟨g, 6, none⟩ = some (.int .u64 q.pr)
  c7 : w.cell? ⟨g, 7, none⟩ = some v
  c8 : w.cell? ⟨g, 8, none⟩ = some (.int .i64 i)
  c9 : w.cell? ⟨g, 9, none⟩ = some p
theorem wc_of {w : World} {g : Nat} {q : Ot} {v : Value} {i : Int} {p : Value} (h : WorkAt w g q v i p) : WC w g q v i p :=
  ⟨h.cell 0, h.cell 1, h.cell 2, h.cell 3, h.cell 4, h.cell 5, h.cell 6, h.cell 7, h.cell 8, h.cell 9⟩

set_option maxRecDepth 100000 in
set_option maxHeartbeats 2000000 in
theorem chk_who (w : World) (g : Nat) (kd wh wm wt id n pr : Int) (v : Value) (i : Int) (p : Value) (hb : WorkAt w g ⟨kd, wh, wm, wt, id, n, pr⟩ v i p) (h0 : wh = 0) :
    Calls Try.prog 32 #[.pointer (some ⟨g, 0, none⟩)] w fun e w' => e = .panicked (raise_ 1) ∧ w = w' := by
  obtain ⟨c0, c1, c2, c3, c4, c5, c6, c7, c8, c9⟩ := wc_of hb
  dsimp only at c0 c1 c2 c3 c4 c5 c6
  subst h0
  clear hb
  go_enter Try.func32, Try.ntmps32
  go_wp2_with (go_at_call 34; (with_reducible refine (deny_yes 1 _).mono ?_); rintro e w1 ⟨rfl, rfl⟩)
  exact ⟨rfl, rfl, rfl⟩

set_option maxRecDepth 100000 in
set_option maxHeartbeats 2000000 in
theorem chk_kind (w : World) (g : Nat) (kd wh wm wt id n pr : Int) (v : Value) (i : Int) (p : Value) (hb : WorkAt w g ⟨kd, wh, wm, wt, id, n, pr⟩ v i p) (h0 : wh ≠ 0) (hk : kd = 0 ∨ 19 ≤ kd) :
    Calls Try.prog 32 #[.pointer (some ⟨g, 0, none⟩)] w fun e w' => e = .returned (.tuple #[]) ∧ w = w' := by
  obtain ⟨c0, c1, c2, c3, c4, c5, c6, c7, c8, c9⟩ := wc_of hb
  dsimp only at c0 c1 c2 c3 c4 c5 c6
  have d0 : (wh == 0) = false := by simpa using h0
  have e1 : (kd == 1) = false := by simp; omega
  have e2 : (kd == 2) = false := by simp; omega
  have e3 : (kd == 3) = false := by simp; omega
  have e4 : (kd == 4) = false := by simp; omega
  have e5 : (kd == 5) = false := by simp; omega
  have e6 : (kd == 6) = false := by simp; omega
  have e7 : (kd == 7) = false := by simp; omega
  have e8 : (kd == 8) = false := by simp; omega
  have e9 : (kd == 9) = false := by simp; omega
  have e10 : (kd == 10) = false := by simp; omega
  have e11 : (kd == 11) = false := by simp; omega
  have e12 : (kd == 12) = false := by simp; omega
  have e13 : (kd == 13) = false := by simp; omega
  have e14 : (kd == 14) = false := by simp; omega
  have e15 : (kd == 15) = false := by simp; omega
  have e16 : (kd == 16) = false := by simp; omega
  have e17 : (kd == 17) = false := by simp; omega
  have e18 : (kd == 18) = false := by simp; omega
  clear hb
  go_enter Try.func32, Try.ntmps32
  go_wp2_with (go_at_call 34; (with_reducible refine (deny_no 1 _).mono ?_); rintro e w1 ⟨rfl, rfl⟩)
  go_end0
  exact ⟨rfl, rfl⟩

set_option maxRecDepth 100000 in
set_option maxHeartbeats 2000000 in
theorem chk_mint0 (w : World) (g : Nat) (kd wh wm wt id n pr : Int) (v : Value) (i : Int) (p : Value) (hb : WorkAt w g ⟨kd, wh, wm, wt, id, n, pr⟩ v i p) (h0 : wh ≠ 0) (hk : kd = 2) (hn : n = 0) :
    Calls Try.prog 32 #[.pointer (some ⟨g, 0, none⟩)] w fun e w' => e = .panicked (raise_ 1) ∧ w = w' := by
  obtain ⟨c0, c1, c2, c3, c4, c5, c6, c7, c8, c9⟩ := wc_of hb
  dsimp only at c0 c1 c2 c3 c4 c5 c6
  subst hk hn
  have d0 : (wh == 0) = false := by simpa using h0
  clear hb
  go_enter Try.func32, Try.ntmps32
  go_wp2_with (first | (go_at_call 34; (with_reducible refine (deny_no 1 _).mono ?_); rintro e w1 ⟨rfl, rfl⟩) | (go_at_call 34; (with_reducible refine (deny_yes 1 _).mono ?_); rintro e w1 ⟨rfl, rfl⟩))
  exact ⟨rfl, rfl, rfl⟩

set_option maxRecDepth 100000 in
set_option maxHeartbeats 2000000 in
theorem chk_mint (w : World) (g : Nat) (kd wh wm wt id n pr : Int) (v : Value) (i : Int) (p : Value) (hb : WorkAt w g ⟨kd, wh, wm, wt, id, n, pr⟩ v i p) (h0 : wh ≠ 0) (hk : kd = 2) (hn : n ≠ 0) :
    Calls Try.prog 32 #[.pointer (some ⟨g, 0, none⟩)] w fun e w' => e = .returned (.tuple #[]) ∧ w = w' := by
  obtain ⟨c0, c1, c2, c3, c4, c5, c6, c7, c8, c9⟩ := wc_of hb
  dsimp only at c0 c1 c2 c3 c4 c5 c6
  subst hk
  have d0 : (wh == 0) = false := by simpa using h0
  have d1 : (n == 0) = false := by simpa using hn
  clear hb
  go_enter Try.func32, Try.ntmps32
  go_wp2_with (go_at_call 34; (with_reducible refine (deny_no 1 _).mono ?_); rintro e w1 ⟨rfl, rfl⟩)
  go_end0
  exact ⟨rfl, rfl⟩

set_option maxRecDepth 100000 in
set_option maxHeartbeats 2000000 in
theorem chk_trade (w : World) (g : Nat) (kd wh wm wt id n pr : Int) (v : Value) (i : Int) (p : Value) (hb : WorkAt w g ⟨kd, wh, wm, wt, id, n, pr⟩ v i p) (h0 : wh ≠ 0) (hk : kd = 11) (hn : wm = wh) :
    Calls Try.prog 32 #[.pointer (some ⟨g, 0, none⟩)] w fun e w' => e = .panicked (raise_ 212) ∧ ∃ d, w' = w.drewN d := by
  obtain ⟨c0, c1, c2, c3, c4, c5, c6, c7, c8, c9⟩ := wc_of hb
  dsimp only at c0 c1 c2 c3 c4 c5 c6
  subst hk hn
  have d0 : (wm == 0) = false := by simpa using h0
  clear hb
  go_enter Try.func32, Try.ntmps32
  go_wp2_with (go_at_call 34; (with_reducible refine (deny_no 1 _).mono ?_); rintro e w1 ⟨rfl, rfl⟩)
  go_region_dies
  all_goals
    (with_reducible refine (deny_yes 212 _).mono ?_)
    rintro e w1 ⟨rfl, rfl⟩
    exact ⟨rfl, rfl, 1, rfl⟩

set_option maxRecDepth 100000 in
set_option maxHeartbeats 2000000 in
theorem do_none (w : World) (g : Nat) (kd wh wm wt id n pr : Int) (v : Value) (i : Int) (p : Value) (hb : WorkAt w g ⟨kd, wh, wm, wt, id, n, pr⟩ v i p) (hk : kd = 0 ∨ 19 ≤ kd) :
    Calls Try.prog 33 #[.pointer (some ⟨g, 0, none⟩)] w fun e w' => e = .returned (.agg #[.int .u16 1, .int .u64 0, .int .u64 0, .int .u64 0]) ∧ Below w.heap.size w w' := by
  have hlt := hb.lt
  obtain ⟨c0, c1, c2, c3, c4, c5, c6, c7, c8, c9⟩ := wc_of hb
  dsimp only at c0 c1 c2 c3 c4 c5 c6
  have e1 : (kd == 1) = false := by simp; omega
  have e2 : (kd == 2) = false := by simp; omega
  have e3 : (kd == 3) = false := by simp; omega
  have e4 : (kd == 4) = false := by simp; omega
  have e5 : (kd == 5) = false := by simp; omega
  have e6 : (kd == 6) = false := by simp; omega
  have e7 : (kd == 7) = false := by simp; omega
  have e8 : (kd == 8) = false := by simp; omega
  have e9 : (kd == 9) = false := by simp; omega
  have e10 : (kd == 10) = false := by simp; omega
  have e11 : (kd == 11) = false := by simp; omega
  have e12 : (kd == 12) = false := by simp; omega
  have e13 : (kd == 13) = false := by simp; omega
  have e14 : (kd == 14) = false := by simp; omega
  have e15 : (kd == 15) = false := by simp; omega
  have e16 : (kd == 16) = false := by simp; omega
  have e17 : (kd == 17) = false := by simp; omega
  have e18 : (kd == 18) = false := by simp; omega
  clear hb
  go_enter Try.func33, Try.ntmps33
  go_wp2
  refine bodyPost_ret (v := .agg #[.int .u16 1, .int .u64 0, .int .u64 0, .int .u64 0]) (by simp [results, Try.results33, go_sem]; try rfl) rfl ?_
  exact ⟨rfl, new_ (Below.refl _ _) _⟩

end Go.Proofs.Ytneaehimdmachaa.Rule
