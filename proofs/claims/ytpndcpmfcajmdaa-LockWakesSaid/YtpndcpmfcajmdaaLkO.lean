import Derived.Test.YtpndcpmfcajmdaaLk3
import Derived.Test.YtpndcpmfcajmdaaLaw
/- Keys and calls that came in. -/
namespace Go.Proofs.Ytpndcpmfcajmdaa.Lock
open Go.ChangeShapes Go.WideShapes Go.ChangeAt Go.RowKit Go.IntWalk Go.Proofs.Mem Law
set_option linter.unusedVariables false
/-- a call that came in -/
structure Lo where
  kd : Int
  t : Int
  k : Ky
  m : Int
def cLo (x : Lo) : List Value := [.int .u8 x.kd, .int .u32 x.t, .int .u8 x.k.k, .int .u32 x.k.a, .int .u32 x.k.b, .int .u8 x.m]
def Lo.Ok (x : Lo) : Prop := (0 ≤ x.kd ∧ x.kd ≤ 255) ∧ U32 x.t ∧ x.k.ok ∧ 0 ≤ x.m ∧ x.m ≤ 255
theorem cellsLo : Try.prog.cellsOf 33 = 6 := by kernel_rfl
theorem cells8 : Try.prog.cellsOf 5 = 1 := by kernel_rfl
theorem cells32 : Try.prog.cellsOf 29 = 1 := by kernel_rfl
theorem list6 {l : List Value} (h : l.length = 6) : ∃ a b c d e f, l = [a, b, c, d, e, f] := by
  match l, h with
  | [a, b, c, d, e, f], _ => exact ⟨a, b, c, d, e, f, rfl⟩
theorem list3 {l : List Value} (h : l.length = 3) : ∃ a b c, l = [a, b, c] := by
  match l, h with
  | [a, b, c], _ => exact ⟨a, b, c, rfl⟩
section
variable {H : Type} {enc : TypeId × Value → H} {W : World} {base : Nat} {spare : Nat → Bool} {held : Bool}
theorem one_int {k : IntKind} {t : TypeId} {n : Nat} {c : Value} {o : Option (DataW H × List MemPlace)} (ht : Try.prog.underlying t = some (.int k)) (h : DataW.trod enc Try.prog W base spare held n t [c] = o) (ho : o.isSome = true) : ∃ x, c = .int k x ∧ (Lit.int k x).wf = true := by
  cases o with
  | none => cases ho
  | some y =>
    obtain ⟨x, e, _, hw⟩ := DataW.trod_int ht h
    injection e with e _
    exact ⟨x, e, hw⟩
theorem some_at {α : Type} {l : List α} {i : Nat} (h : i < l.length) : (l[i]?).isSome = true := by simp [h]
theorem one_key {n : Nat} {a0 a1 a2 : Value} {o : Option (DataW H × List MemPlace)} (h : DataW.trod enc Try.prog W base spare held n 31 [a0, a1, a2] = o) (ho : o.isSome = true) : ∃ x : Ky, x.ok ∧ a0 = .int .u8 x.k ∧ a1 = .int .u32 x.a ∧ a2 = .int .u32 x.b := by
  cases o with
  | none => cases ho
  | some y =>
    obtain ⟨xs, n', _, _, _, hl, hg⟩ := DataW.trod_struct Try.underlying31 h
    have h0 := hg 0 _ rfl
    have h1 := hg 1 _ rfl
    have h2 := hg 2 _ rfl
    simp [cells8, cells32] at h0 h1 h2 hl
    obtain ⟨x0, rfl, w0⟩ := one_int Try.underlying5 h0 (some_at (by omega))
    obtain ⟨x1, rfl, w1⟩ := one_int Try.underlying29 h1 (some_at (by omega))
    obtain ⟨x2, rfl, w2⟩ := one_int Try.underlying29 h2 (some_at (by omega))
    exact ⟨⟨x0, x1, x2⟩, ⟨w0, w1, w2⟩, rfl, rfl, rfl⟩
set_option maxRecDepth 100000 in
theorem open_key {r : Reach} {b0 : Nat} {v : Value} {d : DataW H} {p : List MemPlace} (hv : Value.okWide Try.prog W r b0 31 v) (h : DataW.Trod enc Try.prog W base spare held 31 v d p) : ∃ x : Ky, x.ok ∧ v = .agg #[.int .u8 x.k, .int .u32 x.a, .int .u32 x.b] := by
  obtain ⟨cs, rfl, hsz⟩ := okWide_struct Try.underlying31 hv
  obtain ⟨l⟩ := cs
  obtain ⟨a0, a1, a2, rfl⟩ := list3 (hsz.trans cellsK)
  obtain ⟨fuel, hf⟩ := h
  have hf' : DataW.trod enc Try.prog W base spare held fuel 31 [a0, a1, a2] = some (d, p) := hf
  obtain ⟨x, hx, rfl, rfl, rfl⟩ := one_key hf' rfl
  exact ⟨x, hx, rfl⟩
theorem one_lo {n : Nat} {a0 a1 a2 a3 a4 a5 : Value} {o : Option (DataW H × List MemPlace)} (h : DataW.trod enc Try.prog W base spare held n 33 [a0, a1, a2, a3, a4, a5] = o) (ho : o.isSome = true) : ∃ x : Lo, [a0, a1, a2, a3, a4, a5] = cLo x ∧ x.Ok := by
  cases o with
  | none => cases ho
  | some y =>
    obtain ⟨xs, n', _, _, _, hl, hg⟩ := DataW.trod_struct Try.underlying33 h
    have h0 := hg 0 _ rfl
    have h1 := hg 1 _ rfl
    have h2 := hg 2 _ rfl
    have h3 := hg 3 _ rfl
    simp [cells8, cells32, cellsK] at h0 h1 h2 h3 hl
    obtain ⟨x0, rfl, w0⟩ := one_int Try.underlying5 h0 (some_at (by omega))
    obtain ⟨x1, rfl, w1⟩ := one_int Try.underlying29 h1 (some_at (by omega))
    obtain ⟨x, hx, rfl, rfl, rfl⟩ := one_key h2 (some_at (by omega))
    obtain ⟨x3, rfl, w3⟩ := one_int Try.underlying5 h3 (some_at (by omega))
    exact ⟨⟨x0, x1, x, x3⟩, rfl, bounds_u8 w0, bounds_u32 w1, hx, bounds_u8 w3⟩
set_option maxRecDepth 100000 in
theorem open_los {r : Reach} {b0 : Nat} {v : Value} {d : DataW H} {p : List MemPlace} (hv : Value.okWide Try.prog W r b0 22 v) (h : DataW.Trod enc Try.prog W 0 (fun _ => true) true 22 v d p) : ∃ xs : List Lo, SS cLo 6 W W.heap.size v xs ∧ ∀ x ∈ xs, x.Ok := by
  refine open_SS cLo Lo.Ok Try.underlying22 cellsLo (by decide) (fun cs n y hcs hf => ?_) hv h
  obtain ⟨a0, a1, a2, a3, a4, a5, rfl⟩ := list6 hcs
  obtain ⟨x, e, hx⟩ := one_lo hf rfl
  exact ⟨x, e, hx⟩
set_option maxRecDepth 100000 in
theorem open_lo {r : Reach} {b0 : Nat} {v : Value} {d : DataW H} {p : List MemPlace} (hv : Value.okWide Try.prog W r b0 33 v) (h : DataW.Trod enc Try.prog W base spare held 33 v d p) : ∃ x : Lo, x.Ok ∧ v = .agg #[.int .u8 x.kd, .int .u32 x.t, .int .u8 x.k.k, .int .u32 x.k.a, .int .u32 x.k.b, .int .u8 x.m] := by
  obtain ⟨cs, rfl, hsz⟩ := okWide_struct Try.underlying33 hv
  obtain ⟨l⟩ := cs
  obtain ⟨a0, a1, a2, a3, a4, a5, rfl⟩ := list6 (hsz.trans cellsLo)
  obtain ⟨fuel, hf⟩ := h
  have hf' : DataW.trod enc Try.prog W base spare held fuel 33 [a0, a1, a2, a3, a4, a5] = some (d, p) := hf
  obtain ⟨x, e, hx⟩ := one_lo hf' rfl
  refine ⟨x, hx, ?_⟩
  rw [e]
  rfl
end
end Go.Proofs.Ytpndcpmfcajmdaa.Lock
