import Derived.Test.YtimnhanjlldhoaaClkC
import Derived.Test.YtimnhanjlldhoaaClkD
import Derived.Test.YtimnhanjlldhoaaClkE
import Derived.Test.YtimnhanjlldhoaaClkF
import Derived.Test.YtimnhanjlldhoaaClkG
import Derived.Test.YtimnhanjlldhoaaClkI
/- Any call on both clocks. -/
namespace Go.Proofs.Ytimnhanjlldhoaa.Clk
open Go.ChangeShapes Go.WideShapes Go.ChangeAt Go.RowKit Go.IntWalk Go.Proofs.Mem Go.Proofs.Clk
set_option linter.unusedVariables false
theorem kinds (kd : Int) (h0 : 0 ≤ kd ∧ kd ≤ 255) : kd.tmod 8 = 0 ∨ kd.tmod 8 = 1 ∨ kd.tmod 8 = 2 ∨ kd.tmod 8 = 3 ∨ kd.tmod 8 = 4 ∨ kd.tmod 8 = 5 ∨ kd.tmod 8 = 6 ∨ kd.tmod 8 = 7 := by
  rw [Int.tmod_eq_emod_of_nonneg h0.1]; omega
theorem does_any (w : World) (g gf h r ra rb rc k : Nat) (l m : List Fm) (B : Int) (t : Two w g gf l h r ra rb rc m k) (hl : l.length ≤ 64) (hm : m.length ≤ 64) (hh : h < l.length) (hkm : k < m.length) (ho : Oks B l) (hp : Oks B m) (hB : 0 ≤ B ∧ B ≤ 100000) (i kd : Int) (h0 : 0 ≤ kd ∧ kd ≤ 255) :
    Calls Try.prog 10 #[.pointer (some ⟨g, 0, none⟩), .pointer (some ⟨r, 0, none⟩), .agg #[.int .u8 kd, .int .i64 i]] w (DoesP B g gf h r ra rb rc k l m w) := by
  have hB1 : B ≤ B + 1 := by omega
  rcases kinds kd h0 with hk | hk | hk | hk | hk | hk | hk | hk
  · refine (does_take w g gf h r ra rb rc k l m t hl hm i kd h0 hk).mono ?_
    rintro e w' ⟨rfl, t', f'⟩
    exact ⟨_, _, h, _, k, rfl, t', f', takeM_len, takeM_len, hh, hkm, (takeM_ok ho hB.1).mono hB1, (takeM_ok hp hB.1).mono hB1, fun e1 e2 => by subst e1; exact ⟨by simp, rfl, e2⟩⟩
  · refine (does_leave w g gf h r ra rb rc k l m B t hl hm ho hp hB i kd h0 hk).mono ?_
    rintro e w' ⟨rfl, t', f'⟩
    exact ⟨_, _, h, _, k, rfl, t', f', leaveM_len, leaveM_len, hh, hkm, (leaveM_ok ho hB.1).mono hB1, (leaveM_ok hp hB.1).mono hB1, fun e1 e2 => by subst e1; exact ⟨by simp, rfl, e2⟩⟩
  · refine (does_touch w g gf h r ra rb rc k l m B t hl hm ho hp hB i kd h0 hk).mono ?_
    rintro e w' ⟨rfl, t', f'⟩
    exact ⟨_, _, h, _, k, rfl, t', f', touchM_len, touchM_len, hh, hkm, (touchM_ok ho hB.1).mono hB1, (touchM_ok hp hB.1).mono hB1, fun e1 e2 => by subst e1; exact ⟨by simp, rfl, e2⟩⟩
  · refine (does_pin w g gf h r ra rb rc k l m B t hl hm ho hp hB i kd h0 hk).mono ?_
    rintro e w' ⟨rfl, t', f'⟩
    exact ⟨_, _, h, _, k, rfl, t', f', pinM_len, pinM_len, hh, hkm, pinM_ok ho hB.1, pinM_ok hp hB.1, fun e1 e2 => by subst e1; exact ⟨by simp, rfl, e2⟩⟩
  · refine (does_unpin w g gf h r ra rb rc k l m B t hl hm ho hp hB i kd h0 hk).mono ?_
    rintro e w' ⟨rfl, t', f'⟩
    exact ⟨_, _, h, _, k, rfl, t', f', unpinM_len, unpinM_len, hh, hkm, (unpinM_ok ho hB.1).mono hB1, (unpinM_ok hp hB.1).mono hB1, fun e1 e2 => by subst e1; exact ⟨by simp, rfl, e2⟩⟩
  · refine (does_pins w g gf h r ra rb rc k l m B t hl hm ho hp hB i kd h0 hk).mono ?_
    rintro e w' ⟨rfl, t', f'⟩
    exact ⟨_, _, h, _, k, rfl, t', f', rfl, rfl, hh, hkm, ho.mono hB1, hp.mono hB1, fun e1 e2 => by subst e1; exact ⟨by simp, rfl, e2⟩⟩
  · exact does_pick w g gf h r ra rb rc k l m B t hl hm hh hkm ho hp hB i kd h0 hk
  · exact does_again w g gf h r ra rb rc k l m B t hl hm hh hkm ho hp hB i kd h0 hk
end Go.Proofs.Ytimnhanjlldhoaa.Clk
