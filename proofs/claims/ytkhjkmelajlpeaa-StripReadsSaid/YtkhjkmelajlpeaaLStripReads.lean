/- The law manciplelaw07.StripReads returns true whatever it is called with, and what it was called with reads as it did. No condition. -/
import Derived.Test.YtkhjkmelajlpeaaLaw
import Derived.Test.YtkhjkmelajlpeaaStrip6
import Derived.Test.YtkhjkmelajlpeaaSrOpen
namespace Go.Proofs.Ytkhjkmelajlpeaa.LStripReads
open Go.ChangeShapes Go.WideShapes Go.ChangeAt Go.RowKit Go.IntWalk Go.Proofs.Mem Law
set_option linter.unusedVariables false
open Go.Proofs.Ytkhjkmelajlpeaa.Strip Go.Proofs.Ytkhjkmelajlpeaa.Blk
set_option maxRecDepth 100000 in
set_option maxHeartbeats 8000000 in
theorem walk (w : World) (l : Value) (xl : List (Value × List Int)) (hl : SR w w.heap.size l xl) :
    Calls Try.prog 4 #[l] w fun e w' => e = .returned (.bool true) ∧ Below w.heap.size w w' := by
  have HV := Lib.hid hl
  obtain ⟨q, hq⟩ := fit_dec 40 xl
  have HQ := Lib.hid hq
  have BB := Lib.hid (read_bytes _ (sr_bytes hl))
  clear hl hq
  rcases q with _ | _
  · go_enter Try.func4, Try.ntmps4
    go_wp2_with fail
    (with_reducible refine (sectors_any _ xl w w.heap.size HV.out 40 (by decide) false (by have h := HQ.out; simpa using h)).mono ?_)
    rintro e w0 ⟨rfl, rfl⟩
    go_wp2_with fail
    (with_reducible refine (known_any _).mono ?_)
    rintro e w1 ⟨rfl, hb1⟩
    go_wp2
    go_ret
    exact ⟨rfl, hb1⟩
  · have hx : xl.length ≤ 1000 := by have := (HQ.out.1 rfl).1; omega
    go_enter Try.func4, Try.ntmps4
    go_wp2_with fail
    (with_reducible refine (sectors_any _ xl w w.heap.size HV.out 40 (by decide) true (by have h := HQ.out; simpa using h)).mono ?_)
    rintro e w0 ⟨rfl, rfl⟩
    go_wp2_with fail
    (with_reducible refine (known_any _).mono ?_)
    rintro e w1 ⟨rfl, hb1⟩
    have HB1 := Lib.hid hb1
    clear hb1
    have S1 := Lib.hid (HV.out.keep (fun p hp => HB1.out.cell hp))
    go_wp2_with fail
    (with_reducible refine (read_any w1 w.heap.size _ _ S1.out HB1.out.size hx).mono ?_)
    rintro e w2 ⟨v2, rfl, ow2, hb2⟩
    have HB2 := Lib.hid (step_ HB1.out hb2)
    have I2 := Lib.hid (IR.of_own ow2)
    have S2 := Lib.hid (HV.out.keep (fun p hp => HB2.out.cell hp))
    clear ow2 hb2
    go_wp2_with fail
    (with_reducible refine (ref_read_any w2 w.heap.size _ _ S2.out HB2.out.size hx).mono ?_)
    rintro e w3 ⟨v3, rfl, ow3, hb3⟩
    have HB3 := Lib.hid (step_ HB2.out hb3)
    have I3 := Lib.hid (IR.of_own ow3)
    have I23 := Lib.hid (I2.out.below hb3)
    clear ow3 hb3
    go_wp2_with fail
    (with_reducible refine (same_any _ _ (readS (xl.map (·.2))) (readS (xl.map (·.2))) w3 _ _ I23.out I3.out BB.out BB.out).mono ?_)
    rintro e w4 ⟨rfl, rfl⟩
    go_wp2
    go_ret
    exact ⟨rfl, HB3.out⟩


set_option maxRecDepth 100000 in
theorem lifted (os : Os) (started : os.Started) (H : Type) (enc : TypeId × Value → H) :
    ReturnsInHanded {} Try.checked os 4 .any (Rows.stripReadsSpec.pre6 enc Try.prog Try.f4 Rows.stripReadsRow.domain false) (Rows.stripReadsSpec.post enc Try.prog Try.f4 false true false false) := by
  refine returnsInHanded_of_change (C := Try.checked) own started (by kernel_rfl) Try.func4
    (ChangeSpec.witness6 (enc := enc) (C := Try.checked) false ⟨#[], #[.slice none 0 0], []⟩ 8 (by kernel_rfl) (by kernel_rfl) (by kernel_rfl) (by kernel_rfl)) ?_
  intro W base args ds gs before hval0 hW hcnd _
  have hval : ∀ (j : Nat) t v, Try.f4.params[j]? = some t → args[j]? = some v → Value.okWide Try.prog W .any base t v := hval0
  have hW' := hW
  obtain ⟨p, q, hA0, hV, rfl, hfz, hnd⟩ := hW
  have hA1 : DataW.TrodAll enc Try.prog W 0 (fun _ => true) true Try.f4.params.toList args.toList ds p := hA0
  have hA := hA1
  rw [Try.params4] at hA hval
  obtain ⟨v0, vs0, d0, ds0, p0, q0, hargs, rfl, rfl, h0, r0⟩ := trodAll_cons hA
  obtain ⟨rfl, rfl, rfl⟩ := trodAll_nil r0
  obtain rfl : args = #[v0] := by cases args; simp_all
  obtain ⟨rfl, rfl⟩ := trodVars_none hV
  obtain ⟨xl, i0⟩ := SrOpen.open_sr (hval 0 26 v0 rfl rfl) h0
  clear hA0 hval0
  refine (walk W v0 xl i0).mono fun e W' ⟨he, bel⟩ => ?_
  subst he
  exact ⟨_, rfl, _, _, _, [], _, [], hW', trodAll_mk1 (shut_bool Try.underlying4 _), args_again laidOut bel (by kernel_rfl) hA1, rfl, bel.frame _, fun h => by cases h⟩

theorem over : Rows.stripReadsRow.holds Try.pinned (OpenSpec.ofChange Rows.stripReadsSpec) :=
  OpenClaim.holds_of_wide 4 Try.f4 rfl rfl rfl rfl rfl rfl rfl ⟨rfl, rfl, rfl, rfl, rfl⟩ rfl rfl rfl rfl rfl (by kernel_rfl) Try.func4 (by kernel_rfl)
    (of_decide_eq_true (by kernel_rfl)) (by unfold Func.isWrapper; first | (rw [if_pos (by decide +kernel)]; kernel_rfl) | (rw [if_neg (by decide +kernel)]; exact ⟨rfl, rfl⟩))
    (fun os started H enc _ => lifted os started H enc)

theorem proved : Rows.StripReadsSaid := over
end Go.Proofs.Ytkhjkmelajlpeaa.LStripReads
