import Derived.Test.YtneaehimdmachaaRule3
import Derived.Test.YtneaehimdmachaaLaw
import Derived.ChangeArms
import Derived.Deep.Slices
/- What is refused, asked and done; operations that came in. -/
namespace Go.Proofs.Ytneaehimdmachaa.Rule
open Go.ChangeShapes Go.WideShapes Go.ChangeAt Go.RowKit Go.IntWalk Go.Proofs.Mem
set_option linter.unusedVariables false
/-- an operation that is refused with an error, whatever it has seen -/
def Ref (kd wh wm wt id n pr e : Int) : Prop := ∀ (A : Option Addr) (l c : Nat) (W : World), Calls Try.prog 30 #[.agg #[.int .u8 kd, .int .u32 wh, .int .u32 wm, .int .u32 wt, .int .u32 id, .int .u64 n, .int .u64 pr], .slice A l c] W fun en w' => en = .returned (.agg (outE e)) ∧ Below W.heap.size W w'
theorem ref_who (kd wm wt id n pr : Int) : Ref kd 0 wm wt id n pr 1 := fun A l c W =>
  run_err W kd 0 wm wt id n pr A l c 1 (fun W' g hb => (chk_who W' g _ _ _ _ _ _ _ _ _ _ hb rfl).mono fun _ _ ⟨h1, h2⟩ => ⟨h1, 0, h2.symm⟩)
theorem ref_kind (kd wh wm wt id n pr : Int) (hk : kd = 0 ∨ 19 ≤ kd) : Ref kd wh wm wt id n pr 1 := by
  by_cases h : wh = 0
  · subst h; exact ref_who kd wm wt id n pr
  · exact fun A l c W => run_none W kd wh wm wt id n pr A l c h hk
theorem ref_trade (m wt id n pr : Int) (h : m ≠ 0) : Ref 11 m m wt id n pr 212 := fun A l c W =>
  run_err W 11 m m wt id n pr A l c 212 (fun W' g hb => chk_trade W' g _ _ _ _ _ _ _ _ _ _ hb h rfl rfl)
theorem ref_mint (wh wm wt id pr : Int) (h : wh ≠ 0) : Ref 2 wh wm wt id 0 pr 1 := fun A l c W =>
  run_err W 2 wh wm wt id 0 pr A l c 1 (fun W' g hb => (chk_mint0 W' g _ _ _ _ _ _ _ _ _ _ hb h rfl rfl).mono fun _ _ ⟨h1, h2⟩ => ⟨h1, 0, h2.symm⟩)
theorem next_ref {kd wh wm wt id n pr e : Int} (h : Ref kd wh wm wt id n pr e) (A : Option Addr) (l c : Nat) (w : World) :
    Calls Try.prog 29 #[.agg #[.int .u8 kd, .int .u32 wh, .int .u32 wm, .int .u32 wt, .int .u32 id, .int .u64 n, .int .u64 pr], .slice A l c] w fun en w' => en = .returned (.tuple #[.agg #[.int .u8 0, .int .u32 0, .int .u32 0], .bool false]) ∧ Below w.heap.size w w' :=
  next_any w kd wh wm wt id n pr (.slice A l c) none 0 0 e 0 0 0 0 0 0 false (fun W => (h A l c W).mono fun _ _ ⟨h1, h2⟩ => ⟨h1, trivial, h2⟩)
theorem do_ref {kd wh wm wt id n pr e : Int} (h : Ref kd wh wm wt id n pr e) (A : Option Addr) (l c : Nat) (w : World) :
    Calls Try.prog 27 #[.agg #[.int .u8 kd, .int .u32 wh, .int .u32 wm, .int .u32 wt, .int .u32 id, .int .u64 n, .int .u64 pr], .slice A l c] w fun en w' => en = .returned (.tuple #[.slice none 0 0, .agg #[.int .u16 e, .int .u64 0, .int .u64 0, .int .u64 0]]) ∧ Below w.heap.size w w' :=
  (do_done w kd wh wm wt id n pr (.slice A l c) e 0 0 0 0 0 0 (fun v _ => v = .slice none 0 0) (fun W _ => (h A l c W).mono fun _ _ ⟨h1, h2⟩ => ⟨none, 0, 0, h1, rfl, h2⟩)).mono fun en w' ⟨A', l', c', h1, h2, w1, hP, _⟩ => by
    injection hP with e1 e2 e3
    subst e1 e2 e3
    exact ⟨h1, h2⟩
theorem c8 : Try.prog.cellsOf 5 = 1 := by kernel_rfl
theorem c32 : Try.prog.cellsOf 22 = 1 := by kernel_rfl
theorem c64 : Try.prog.cellsOf 30 = 1 := by kernel_rfl
theorem cOp : Try.prog.cellsOf 32 = 7 := by kernel_rfl
section
variable {H : Type} {enc : TypeId × Value → H} {W : World} {base : Nat} {spare : Nat → Bool} {held : Bool}
theorem list7 {l : List Value} (h : l.length = 7) : ∃ a b c d e f g, l = [a, b, c, d, e, f, g] := by
  match l, h with
  | [a, b, c, d, e, f, g], _ => exact ⟨a, b, c, d, e, f, g, rfl⟩
theorem one_int {k : IntKind} {t : TypeId} {n : Nat} {c : Value} {o : Option (DataW H × List MemPlace)} (ht : Try.prog.underlying t = some (.int k)) (h : DataW.trod enc Try.prog W base spare held n t [c] = o) (ho : o.isSome = true) : ∃ x, c = .int k x ∧ (Lit.int k x).wf = true := by
  cases o with
  | none => cases ho
  | some y =>
    obtain ⟨x, e, _, hw⟩ := DataW.trod_int ht h
    injection e with e _
    exact ⟨x, e, hw⟩
theorem some_at {α : Type} {l : List α} {i : Nat} (h : i < l.length) : (l[i]?).isSome = true := by simp [h]
set_option maxRecDepth 100000 in
theorem open_op {r : Reach} {b0 : Nat} {v : Value} {d : DataW H} {p : List MemPlace} (hv : Value.okWide Try.prog W r b0 32 v) (h : DataW.Trod enc Try.prog W base spare held 32 v d p) : ∃ q : Ot, q.Ok ∧ v = .agg q.cells := by
  obtain ⟨cs, rfl, hsz⟩ := okWide_struct Try.underlying32 hv
  obtain ⟨l⟩ := cs
  obtain ⟨a0, a1, a2, a3, a4, a5, a6, rfl⟩ := list7 (hsz.trans cOp)
  obtain ⟨fuel, hf⟩ := h
  obtain ⟨xs, n, _, _, _, hl, hg⟩ := DataW.trod_struct Try.underlying32 hf
  have h0 := hg 0 _ rfl
  have h1 := hg 1 _ rfl
  have h2 := hg 2 _ rfl
  have h3 := hg 3 _ rfl
  have h4 := hg 4 _ rfl
  have h5 := hg 5 _ rfl
  have h6 := hg 6 _ rfl
  simp [c8, c32, c64, Value.cells] at h0 h1 h2 h3 h4 h5 h6 hl
  obtain ⟨x0, rfl, w0⟩ := one_int Try.underlying5 h0 (some_at (by omega))
  obtain ⟨x1, rfl, w1⟩ := one_int Try.underlying22 h1 (some_at (by omega))
  obtain ⟨x2, rfl, w2⟩ := one_int Try.underlying22 h2 (some_at (by omega))
  obtain ⟨x3, rfl, w3⟩ := one_int Try.underlying22 h3 (some_at (by omega))
  obtain ⟨x4, rfl, w4⟩ := one_int Try.underlying22 h4 (some_at (by omega))
  obtain ⟨x5, rfl, w5⟩ := one_int Try.underlying30 h5 (some_at (by omega))
  obtain ⟨x6, rfl, w6⟩ := one_int Try.underlying30 h6 (some_at (by omega))
  exact ⟨⟨x0, x1, x2, x3, x4, x5, x6⟩, ⟨bounds_u8 w0, bounds_u32 w1, bounds_u32 w2, bounds_u32 w3, bounds_u32 w4, bounds_u64 w5, bounds_u64 w6⟩, rfl⟩
set_option maxRecDepth 100000 in
/-- a slice of whatever: its form -/
theorem open_sl {t e : TypeId} {r : Reach} {b0 : Nat} {v : Value} {d : DataW H} {p : List MemPlace} (ht : Try.prog.underlying t = some (.slice e)) (hv : Value.okWide Try.prog W r b0 t v) (h : DataW.Trod enc Try.prog W base spare held t v d p) : ∃ A l c, v = .slice A l c ∧ l ≤ c ∧ c ≤ maxLen := by
  obtain ⟨a, len, cap, rfl⟩ := okWide_slice ht hv
  obtain ⟨fuel, hf⟩ := h
  rcases Go.Deep.open_slice ht hf with ⟨hcs, _⟩ | ⟨x, l, c, m, n, D, Pl, hcs, _, hl, hm, _⟩
  · simp [Value.cells] at hcs
    obtain ⟨rfl, rfl, rfl⟩ := hcs
    exact ⟨none, 0, 0, rfl, Nat.le_refl _, Nat.zero_le _⟩
  · simp [Value.cells] at hcs
    obtain ⟨rfl, rfl, rfl⟩ := hcs
    exact ⟨_, _, _, rfl, hl, hm⟩
end
end Go.Proofs.Ytneaehimdmachaa.Rule
