import Derived.Test.YtbbphfhkedldmaaRecV
/- What stands behind a record makes no difference; a front of it is not enough. -/
namespace Go.Proofs.Ytbbphfhkedldmaa.Rec
open Go.ChangeShapes Go.WideShapes Go.ChangeAt Go.RowKit Go.IntWalk Go.Proofs.NumMath Go.Proofs.Mem Go.Proofs.CrcMath NumBytes CrcA
set_option linter.unusedVariables false
set_option linter.unusedSimpArgs false
theorem enc_two (r : Rc) (Y : List Int) : (encS r ++ Y).take 2 = putS (6 + (bodyS r).length) 2 := by
  unfold encS; rw [List.append_assoc, List.append_assoc, List.take_left' (putS_len _ 2)]
theorem lenB_two (r : Rc) (hm : mayS r = true) {xs : List Int} (h : xs.take 2 = putS (6 + (bodyS r).length) 2) : lenB xs = (encS r).length := by
  have hb := len_bd r hm
  unfold lenB
  rw [h, get_put _ 2 (by decide), enc_len, show (2 : Int) ^ (8 * 2) = 65536 from rfl, Int.emod_eq_of_lt hb.1 (by omega)]
  omega
theorem enc_min (r : Rc) (hm : mayS r = true) : 27 ≤ (encS r).length := by
  have := body_len r (may_lens r hm); rw [enc_len]; omega
theorem resD_enc (r : Rc) (hr : r.Ok) (hm : mayS r = true) (Y : List Int) : resD (encS r ++ Y) = (some r, 0) ∧ lenB (encS r ++ Y) = (encS r).length := by
  have hl := lenB_two r hm (enc_two r Y)
  have h27 := enc_min r hm
  refine ⟨?_, hl⟩
  unfold resD
  rw [hl, if_neg (by rw [List.length_append]; omega), if_neg (by rw [List.length_append]; omega), List.take_left' rfl, rDec_put r hr hm]
theorem resD_front (r : Rc) (hm : mayS r = true) (m : Nat) (h : m < (encS r).length) : resD ((encS r).take m) = (none, 60) := by
  unfold resD
  by_cases h27 : ((encS r).take m).length < 27
  · rw [if_pos h27]
  · have hlm : ((encS r).take m).length = m := by rw [List.length_take]; omega
    have e : ((encS r).take m).take 2 = putS (6 + (bodyS r).length) 2 := by
      rw [List.take_take, Nat.min_eq_left (by omega)]
      have := enc_two r []
      rwa [List.append_nil] at this
    rw [if_neg h27, if_pos (.inr (by rw [lenB_two r hm e, hlm]; exact h))]
end Go.Proofs.Ytbbphfhkedldmaa.Rec
