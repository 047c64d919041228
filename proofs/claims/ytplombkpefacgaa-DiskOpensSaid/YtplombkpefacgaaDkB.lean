import Derived.Test.YtplombkpefacgaaDkA
import Derived.Maps.Own
import Derived.Maps.OwnSet
import Derived.Maps.OwnOps
import Derived.Maps.Views
import Derived.DeepKeys4
/- A map of fates by their places. -/
namespace Go.Proofs.Ytplombkpefacgaa.Disk
open Go.ChangeShapes Go.WideShapes Go.ChangeAt Go.RowKit Go.IntWalk Go.Proofs.Mem Law
set_option linter.unusedVariables false
set_option linter.unusedSimpArgs false
theorem rowK : (90 : TypeId) < Try.prog.types.size := of_decide_eq_true (by kernel_rfl)
theorem cellsK : Try.prog.cellsOf 90 = 2 := by kernel_rfl
theorem wideK : (match Try.prog.underlying 90 with | some (.array _ _) | some (.struct _) => true | _ => false) = true := by rw [Try.underlying90]
theorem keyedK : Maps.Keyed Try.prog 90 := Maps.Keyed.of_law (deep_law_laid laidOut (m := 2) (by omega) rowK (by kernel_rfl) wideK)
theorem keyTypeK : Try.prog.keyType 90 = true := by kernel_rfl
def pk (f s : Int) : Value := .agg #[.int .u8 f, .int .i64 s]
theorem keyOf_pk (f s : Int) (hf : 0 ≤ f ∧ f ≤ 255) (hs : -9223372036854775808 ≤ s ∧ s ≤ 9223372036854775807) : ∃ kl, keyOf Try.prog 90 (pk f s) = some kl := by
  have w1 : (Lit.int .u8 f).wf = true := by
    have a1 : IntKind.u8.min = 0 := by decide
    have a2 : IntKind.u8.max = 255 := by decide
    simp [Lit.wf, a1, a2]; exact hf
  have w2 : (Lit.int .i64 s).wf = true := by
    have a1 : IntKind.i64.min = -9223372036854775808 := by decide
    have a2 : IntKind.i64.max = 9223372036854775807 := by decide
    simp [Lit.wf, a1, a2]; exact hs
  have hformed : (pk f s).formed Try.prog 90 = true := by simp [pk, Value.formed, Try.underlying90, cellsK]
  unfold keyOf
  rw [Try.underlying90]
  simp only [keyTypeK, hformed, Bool.and_self, if_true]
  obtain ⟨m, hm⟩ : ∃ m, Try.prog.types.size = m + 1 := ⟨Try.prog.types.size - 1, by have h : 0 < Try.prog.types.size := Nat.lt_of_le_of_lt (Nat.zero_le _) rowK; omega⟩
  rw [hm]
  have hl : Try.prog.keyLits (m + 1 + 1) 90 (pk f s).cells.toList = some [.int .u8 f, .int .i64 s] := by
    have c8 : Try.prog.cellsOf 5 = 1 := by kernel_rfl
    have c64 : Try.prog.cellsOf 3 = 1 := by kernel_rfl
    simp [Program.keyLits, Try.underlying90, Try.underlying5, Try.underlying3, pk, cellsK, c8, c64, w1, w2, Value.cells]
  rw [hl]
  exact ⟨_, rfl⟩
end Go.Proofs.Ytplombkpefacgaa.Disk
