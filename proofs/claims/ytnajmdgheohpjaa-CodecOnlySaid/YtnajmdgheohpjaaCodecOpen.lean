import Derived.Test.YtnajmdgheohpjaaCodecMath
import Derived.Test.YtnajmdgheohpjaaLaw
import Derived.ChangeArms
/- Requests and replies that came in. -/
namespace Go.Proofs.Ytnajmdgheohpjaa.Codec
open Go.ChangeShapes Go.WideShapes Go.ChangeAt Go.RowKit Go.IntWalk Go.Proofs.NumMath Go.Proofs.Mem NumBytes Law
set_option linter.unusedVariables false
theorem c8 : Try.prog.cellsOf 5 = 1 := by kernel_rfl
theorem c32 : Try.prog.cellsOf 22 = 1 := by kernel_rfl
theorem c64 : Try.prog.cellsOf 23 = 1 := by kernel_rfl
theorem c16 : Try.prog.cellsOf 32 = 1 := by kernel_rfl
theorem cOp : Try.prog.cellsOf 25 = 7 := by kernel_rfl
theorem cRq : Try.prog.cellsOf 27 = 9 := by kernel_rfl
theorem cRp : Try.prog.cellsOf 41 = 4 := by kernel_rfl
section
variable {H : Type} {enc : TypeId × Value → H} {W : World} {base : Nat} {spare : Nat → Bool} {held : Bool}
theorem list9 {l : List Value} (h : l.length = 9) : ∃ a b c d e f g i j, l = [a, b, c, d, e, f, g, i, j] := by
  match l, h with
  | [a, b, c, d, e, f, g, i, j], _ => exact ⟨a, b, c, d, e, f, g, i, j, rfl⟩
theorem list4 {l : List Value} (h : l.length = 4) : ∃ a b c d, l = [a, b, c, d] := by
  match l, h with
  | [a, b, c, d], _ => exact ⟨a, b, c, d, rfl⟩
theorem one_int {k : IntKind} {t : TypeId} {n : Nat} {c : Value} {o : Option (DataW H × List MemPlace)} (ht : Try.prog.underlying t = some (.int k)) (h : DataW.trod enc Try.prog W base spare held n t [c] = o) (ho : o.isSome = true) : ∃ x, c = .int k x ∧ (Lit.int k x).wf = true := by
  cases o with
  | none => cases ho
  | some y =>
    obtain ⟨x, e, _, hw⟩ := DataW.trod_int ht h
    injection e with e _
    exact ⟨x, e, hw⟩
theorem some_at {α : Type} {l : List α} {i : Nat} (h : i < l.length) : (l[i]?).isSome = true := by simp [h]
theorem open_rp {r : Reach} {b0 : Nat} {v : Value} {d : DataW H} {p : List MemPlace} (hv : Value.okWide Try.prog W r b0 41 v) (h : DataW.Trod enc Try.prog W base spare held 41 v d p) : ∃ q : Rp, q.Ok ∧ v = .agg (cellsP q) := by
  obtain ⟨cs, rfl, hsz⟩ := okWide_struct Try.underlying41 hv
  obtain ⟨l⟩ := cs
  obtain ⟨a, b, c, d, rfl⟩ := list4 (hsz.trans cRp)
  obtain ⟨fuel, hf⟩ := h
  obtain ⟨xs, n, _, _, _, hl, hg⟩ := DataW.trod_struct Try.underlying41 hf
  have h0 := hg 0 _ rfl
  have h1 := hg 1 _ rfl
  have h2 := hg 2 _ rfl
  have h3 := hg 3 _ rfl
  simp [c16, c64, Value.cells] at h0 h1 h2 h3 hl
  obtain ⟨x0, rfl, w0⟩ := one_int Try.underlying32 h0 (some_at (by omega))
  obtain ⟨x1, rfl, w1⟩ := one_int Try.underlying23 h1 (some_at (by omega))
  obtain ⟨x2, rfl, w2⟩ := one_int Try.underlying23 h2 (some_at (by omega))
  obtain ⟨x3, rfl, w3⟩ := one_int Try.underlying23 h3 (some_at (by omega))
  exact ⟨⟨x0, x1, x2, x3⟩, ⟨bounds_u16 w0, bounds_u64 w1, bounds_u64 w2, bounds_u64 w3⟩, rfl⟩
theorem open_rq {r : Reach} {b0 : Nat} {v : Value} {d : DataW H} {p : List MemPlace} (hv : Value.okWide Try.prog W r b0 27 v) (h : DataW.Trod enc Try.prog W base spare held 27 v d p) : ∃ q : Rq, q.Ok ∧ v = .agg (cellsQ q) := by
  obtain ⟨cs, rfl, hsz⟩ := okWide_struct Try.underlying27 hv
  obtain ⟨l⟩ := cs
  obtain ⟨a0, a1, a2, a3, a4, a5, a6, a7, a8, rfl⟩ := list9 (hsz.trans cRq)
  obtain ⟨fuel, hf⟩ := h
  obtain ⟨xs, n, _, _, _, hl, hg⟩ := DataW.trod_struct Try.underlying27 hf
  have h0 := hg 0 _ rfl
  have h1 := hg 1 _ rfl
  have h2 := hg 2 _ rfl
  simp [c8, c32, cOp, Value.cells] at h0 h1 h2 hl
  obtain ⟨x0, rfl, w0⟩ := one_int Try.underlying5 h0 (some_at (by omega))
  obtain ⟨x1, rfl, w1⟩ := one_int Try.underlying22 h1 (some_at (by omega))
  have hs : (xs[2]?).isSome = true := some_at (by omega)
  cases hx : xs[2]? with
  | none => rw [hx] at hs; cases hs
  | some y =>
    rw [hx] at h2
    obtain ⟨ys, m, _, _, _, hl2, hk⟩ := DataW.trod_struct Try.underlying25 h2
    have k0 := hk 0 _ rfl
    have k1 := hk 1 _ rfl
    have k2 := hk 2 _ rfl
    have k3 := hk 3 _ rfl
    have k4 := hk 4 _ rfl
    have k5 := hk 5 _ rfl
    have k6 := hk 6 _ rfl
    simp [c8, c32, c64] at k0 k1 k2 k3 k4 k5 k6 hl2
    obtain ⟨y0, rfl, v0⟩ := one_int Try.underlying5 k0 (some_at (by omega))
    obtain ⟨y1, rfl, v1⟩ := one_int Try.underlying22 k1 (some_at (by omega))
    obtain ⟨y2, rfl, v2⟩ := one_int Try.underlying22 k2 (some_at (by omega))
    obtain ⟨y3, rfl, v3⟩ := one_int Try.underlying22 k3 (some_at (by omega))
    obtain ⟨y4, rfl, v4⟩ := one_int Try.underlying22 k4 (some_at (by omega))
    obtain ⟨y5, rfl, v5⟩ := one_int Try.underlying23 k5 (some_at (by omega))
    obtain ⟨y6, rfl, v6⟩ := one_int Try.underlying23 k6 (some_at (by omega))
    exact ⟨⟨x0, x1, y0, y1, y2, y3, y4, y5, y6⟩, ⟨bounds_u8 w0, bounds_u32 w1, bounds_u8 v0, bounds_u32 v1, bounds_u32 v2, bounds_u32 v3, bounds_u32 v4, bounds_u64 v5, bounds_u64 v6⟩, rfl⟩
end
end Go.Proofs.Ytnajmdgheohpjaa.Codec
