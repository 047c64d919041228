import Derived.Test.YtpndcpmfcajmdaaLk2
import Derived.DeepKeys4
/- Locks: keys of three numbers. -/
namespace Go.Proofs.Ytpndcpmfcajmdaa.Lock
open Go.ChangeShapes Go.WideShapes Go.ChangeAt Go.RowKit Go.IntWalk Go.Proofs.Mem Law
set_option linter.unusedVariables false
set_option linter.unusedSimpArgs false
structure Ky where
  k : Int
  a : Int
  b : Int
def Ky.v (x : Ky) : Value := .agg #[.int .u8 x.k, .int .u32 x.a, .int .u32 x.b]
def Ky.ok (x : Ky) : Prop := (Lit.int .u8 x.k).wf = true ∧ (Lit.int .u32 x.a).wf = true ∧ (Lit.int .u32 x.b).wf = true
theorem rowK : (31 : TypeId) < Try.prog.types.size := of_decide_eq_true (by kernel_rfl)
theorem cellsK : Try.prog.cellsOf 31 = 3 := by kernel_rfl
theorem wideK : (match Try.prog.underlying 31 with | some (.array _ _) | some (.struct _) => true | _ => false) = true := by rw [Try.underlying31]
set_option maxRecDepth 100000 in
theorem keyedK : Maps.Keyed Try.prog 31 := Maps.Keyed.of_law (deep_law_laid laidOut (m := 2) (by omega) rowK (by kernel_rfl) wideK)
theorem keyTypeK : Try.prog.keyType 31 = true := by kernel_rfl
theorem keyLits_ky (x : Ky) (hx : x.ok) : Try.prog.keyLits (Try.prog.types.size + 1) 31 x.v.cells.toList = some [.int .u8 x.k, .int .u32 x.a, .int .u32 x.b] := by
  obtain ⟨m, hm⟩ : ∃ m, Try.prog.types.size = m + 1 := ⟨Try.prog.types.size - 1, by have h : 0 < Try.prog.types.size := Nat.lt_of_le_of_lt (Nat.zero_le _) rowK; omega⟩
  rw [hm]
  have c8 : Try.prog.cellsOf 5 = 1 := by kernel_rfl
  have c32 : Try.prog.cellsOf 29 = 1 := by kernel_rfl
  obtain ⟨w1, w2, w3⟩ := hx
  simp [Program.keyLits, Try.underlying31, Try.underlying5, Try.underlying29, Ky.v, cellsK, c8, c32, w1, w2, w3, Value.cells]
theorem keyOf_ky (x : Ky) (hx : x.ok) : ∃ kl, keyOf Try.prog 31 x.v = some kl := by
  have hformed : (x.v).formed Try.prog 31 = true := by simp [Ky.v, Value.formed, Try.underlying31, cellsK]
  unfold keyOf
  rw [Try.underlying31]
  simp only [keyTypeK, hformed, Bool.and_self, if_true, keyLits_ky x hx]
  exact ⟨_, rfl⟩
theorem keyLits_inv {c0 c1 c2 : Value} {ls : List Lit} (h : Try.prog.keyLits (Try.prog.types.size + 1) 31 [c0, c1, c2] = some ls) : ∃ x : Ky, x.ok ∧ (.agg #[c0, c1, c2] : Value) = x.v := by
  obtain ⟨m, hm⟩ : ∃ m, Try.prog.types.size = m + 1 := ⟨Try.prog.types.size - 1, by have h : 0 < Try.prog.types.size := Nat.lt_of_le_of_lt (Nat.zero_le _) rowK; omega⟩
  rw [hm] at h
  have c8 : Try.prog.cellsOf 5 = 1 := by kernel_rfl
  have c32 : Try.prog.cellsOf 29 = 1 := by kernel_rfl
  simp [Program.keyLits, Try.underlying31, Try.underlying5, Try.underlying29, cellsK, c8, c32] at h
  cases c0 <;> try (simp at h; done)
  rename_i q0 n0
  by_cases h0 : q0 = .u8 ∧ (Lit.int .u8 n0).wf = true
  · obtain ⟨rfl, w0⟩ := h0
    simp [w0] at h
    cases c1 <;> try (simp at h; done)
    rename_i q1 n1
    by_cases h1 : q1 = .u32 ∧ (Lit.int .u32 n1).wf = true
    · obtain ⟨rfl, w1⟩ := h1
      simp [w1] at h
      cases c2 <;> try (simp at h; done)
      rename_i q2 n2
      by_cases h2 : q2 = .u32 ∧ (Lit.int .u32 n2).wf = true
      · obtain ⟨rfl, w2⟩ := h2
        exact ⟨⟨n0, n1, n2⟩, ⟨w0, w1, w2⟩, rfl⟩
      · simp only [if_neg h2] at h
        simp at h
    · simp only [if_neg h1] at h
      simp at h
  · simp only [if_neg h0] at h
    simp at h
set_option maxRecDepth 100000 in
theorem keyOf_inv {v : Value} {l : Lit} (h : keyOf Try.prog 31 v = some l) : ∃ x : Ky, x.ok ∧ v = x.v := by
  unfold keyOf at h
  rw [Try.underlying31] at h
  simp only [keyTypeK, Bool.true_and] at h
  split at h
  · rename_i hf
    cases v <;> try (simp [Value.formed, Try.underlying31] at hf; done)
    rename_i cs
    simp [Value.formed, Try.underlying31, cellsK] at hf
    obtain ⟨cl⟩ := cs
    match cl, hf with
    | [c0, c1, c2], _ =>
      cases e : Try.prog.keyLits (Try.prog.types.size + 1) 31 [c0, c1, c2] with
      | none =>
        have e2 : Try.prog.keyLits (Try.prog.types.size + 1) 31 (Value.agg ⟨[c0, c1, c2]⟩).cells.toList = none := e
        rw [e2] at h; cases h
      | some ls => exact keyLits_inv e
  · cases h
noncomputable def KK : KE Try.prog 31 Ky where
  kv x := x.v
  ok x := x.ok
  kl x := (keyOf Try.prog 31 x.v).getD (.bool false)
  keyed := keyedK
  key x hx := by obtain ⟨l, e⟩ := keyOf_ky x hx; rw [e]; rfl
  inv v l h := by
    obtain ⟨x, hx, rfl⟩ := keyOf_inv h
    exact ⟨x, hx, rfl, by rw [h]; rfl⟩
  inj x y h := by
    obtain ⟨a, b, c⟩ := x
    obtain ⟨a', b', c'⟩ := y
    simpa [Ky.v] using h
end Go.Proofs.Ytpndcpmfcajmdaa.Lock
