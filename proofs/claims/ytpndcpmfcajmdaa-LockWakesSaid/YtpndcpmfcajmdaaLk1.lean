import Derived.Test.YtpndcpmfcajmdaaLaw
import Derived.BigQuiet
import Derived.BigRegion
import Derived.Deep.Cut
import Derived.Deep.CutBlock
import Derived.Deep.CutRange
import Derived.Deep.QuietTactic
import Derived.Lib.Hide
import Derived.LoopN
import Derived.ProofKit
import Derived.WalkKit
import Derived.Test.YtpndcpmfcajmdaaMp
import Derived.Test.YtpndcpmfcajmdaaEachG
import Derived.Test.YtpndcpmfcajmdaaSs
/- Locks: modes as elements of a map; two modes side by side. -/
namespace Go.Proofs.Ytpndcpmfcajmdaa.Lock
open Go.ChangeShapes Go.WideShapes Go.ChangeAt Go.RowKit Go.IntWalk Go.Proofs.Mem
set_option linter.unusedVariables false
set_option linter.unusedSimpArgs false
/-- numbers of one kind as elements -/
def RNum (q : IntKind) (v : Value) : Option (DataW Unit × List MemPlace) :=
  match v with
  | .int p x => if p = q then some (.lit (.int q x), []) else none
  | _ => none
def numEE (q : IntKind) : EE (RNum q) Int where
  ev b := .int q b
  ed b := .lit (.int q b)
  mem b := ⟨[], by simp [RNum]⟩
  inv v z h := by
    unfold RNum at h
    split at h
    · rename_i p x
      split at h
      · rename_i e; subst e; injection h with h; exact ⟨x, rfl, by rw [← h]⟩
      · cases h
    · cases h
  inj a b h := by simpa using h
/-- pointers to blocks of one's own, from their beginning on, as elements: none is nil -/
def RPtr (v : Value) : Option (DataW Unit × List MemPlace) :=
  match v with
  | .pointer none => some (.map [], [])
  | .pointer (some ⟨b, 0, none⟩) => some (.lit (.int .u64 b), [])
  | _ => none
def ptrEE : EE RPtr (Option Nat) where
  ev b := match b with
    | none => .pointer none
    | some b => .pointer (some ⟨b, 0, none⟩)
  ed b := match b with
    | none => .map []
    | some b => .lit (.int .u64 b)
  mem b := by
    cases b with
    | none => exact ⟨[], rfl⟩
    | some b => exact ⟨[], rfl⟩
  inv v z h := by
    unfold RPtr at h
    split at h
    · injection h with h; exact ⟨none, rfl, by rw [← h]⟩
    · rename_i b; injection h with h; exact ⟨some b, rfl, by rw [← h]⟩
    · cases h
  inj a b h := by
    cases a with
    | none =>
      cases b with
      | none => rfl
      | some b => cases h
    | some a =>
      cases b with
      | none => cases h
      | some b =>
        simp only [DataW.lit.injEq, Lit.int.injEq, true_and] at h
        have : a = b := by omega
        subst this
        rfl
abbrev KU : KE Try.prog 29 Int := intKE Try.prog 29 .u32 Try.underlying29
abbrev VM : EE (RNum .u8) Int := numEE .u8
theorem zeroM (w : World) : (zeroValue 5).run Try.prog w = .ok (VM.ev 0) w := by kernel_rfl
def tog (a b : Int) : Bool := decide (a = 1) && decide (b = 1)
set_option maxRecDepth 100000 in
theorem together_any (w : World) (a b : Int) : Calls Try.prog 45 #[.int .u8 a, .int .u8 b] w fun e w' => e = .returned (.bool (tog a b)) ∧ w = w' := by
  obtain ⟨F, hF⟩ : ∃ F, F = tog a b := ⟨_, rfl⟩
  rw [← hF]
  have HF := Lib.hid hF
  clear hF
  by_cases h1 : a = 1
  · by_cases h2 : b = 1
    · have d1 : decide (a = 1) = true := decide_eq_true h1
      have d2 : decide (b = 1) = true := decide_eq_true h2
      have FF := Lib.hid (show F = true by rw [HF.out]; simp [tog, h1, h2])
      subst h1 h2
      go_enter Try.func45, Try.ntmps45
      go_wp2
      go_ret
      exact ⟨by rw [FF.out]; rfl, rfl⟩
    · have d1 : decide (a = 1) = true := decide_eq_true h1
      have d2 : decide (b = 1) = false := decide_eq_false h2
      have d2' : (b == 1) = false := by simpa using h2
      have FF := Lib.hid (show F = false by rw [HF.out]; simp [tog, h2])
      subst h1
      clear h2
      go_enter Try.func45, Try.ntmps45
      go_wp2
      go_ret
      exact ⟨by rw [FF.out]; rfl, rfl⟩
  · have d1 : decide (a = 1) = false := decide_eq_false h1
    have d1' : (a == 1) = false := by simpa using h1
    have FF := Lib.hid (show F = false by rw [HF.out]; simp [tog, h1])
    clear h1
    go_enter Try.func45, Try.ntmps45
    go_wp2
    go_ret
    exact ⟨by rw [FF.out]; rfl, rfl⟩
end Go.Proofs.Ytpndcpmfcajmdaa.Lock
