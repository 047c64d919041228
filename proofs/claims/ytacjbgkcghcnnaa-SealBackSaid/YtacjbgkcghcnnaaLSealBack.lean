/- The law manciplelaw10.SealBack returns true whatever it is called with, and what it was called with reads as it did. No condition. -/
import Derived.Test.YtacjbgkcghcnnaaLaw
import Derived.Test.YtacjbgkcghcnnaaSealC
namespace Go.Proofs.Ytacjbgkcghcnnaa.LSealBack
open Go.ChangeShapes Go.WideShapes Go.ChangeAt Go.RowKit Go.IntWalk Go.Proofs.Mem Law
set_option linter.unusedVariables false
open Go.Proofs.Ytacjbgkcghcnnaa.Seal _root_.Go.Proofs.Ytacjbgkcghcnnaa.NumBytes
set_option maxRecDepth 100000 in
set_option maxHeartbeats 8000000 in
theorem walk (w : World) (front : Value) (xfront : List Int) (hfront : IR w w.heap.size .u8 front xfront) (bfront : Bytes xfront) (stamp : Int) (hstamp : 0 ≤ stamp ∧ stamp ≤ 18446744073709551615) :
    Calls Try.prog 5 #[front, .int .u64 stamp] w fun e w' => e = .returned (.bool true) ∧ Below w.heap.size w w' := by
  obtain ⟨A, c, rfl, hlc, hcm⟩ := hfront.form
  unfold maxLen at hcm
  have HV := Lib.hid hfront
  clear hfront
  by_cases hlen : 448 < xfront.length
  · have d1 : decide (448 < (xfront.length : Int)) = true := decide_eq_true (by omega)
    have d1' : decide (448 < xfront.length) = true := decide_eq_true hlen
    go_enter Try.func5, Try.ntmps5
    go_wp2_with fail
    (with_reducible refine (known_any _).mono ?_)
    rintro e w1 ⟨rfl, hb1⟩
    go_wp2
    go_ret
    exact ⟨rfl, hb1⟩
  · have d1 : decide (448 < (xfront.length : Int)) = false := decide_eq_false (by omega)
    have d1' : decide (448 < xfront.length) = false := decide_eq_false hlen
    have BB := Lib.hid bfront
    clear bfront
    go_enter Try.func5, Try.ntmps5
    go_wp2_with fail
    (with_reducible refine (known_any _).mono ?_)
    rintro e w1 ⟨rfl, hb1⟩
    have HB1 := Lib.hid hb1
    clear hb1
    go_wp2_with fail
    (with_reducible refine (page_any _ _ _ _ (HV.out.below HB1.out) BB.out HB1.out.size).mono ?_)
    rintro e w2 ⟨g, xb, rfl, row, hxl, hxb, hb2⟩
    have HB2 := Lib.hid (step_ HB1.out hb2)
    have hg : g < w2.heap.size := by obtain ⟨_, _, _, _, h, _⟩ := row.heap; exact (Array.getElem?_eq_some_iff.1 h).1
    have I2 := Lib.hid (row.ir.more (show g + 1 ≤ w2.heap.size from hg))
    have XL := Lib.hid hxl
    have XB := Lib.hid hxb
    clear row hb2 hg hxl hxb
    go_wp2_with fail
    (with_reducible refine (seal_any _ w2.heap.size _ _ stamp I2.out (Nat.le_refl _) hstamp).mono ?_)
    rintro e w3 ⟨v3, l3, rfl, tab3, hl3, hb3⟩
    have S3 := Lib.hid (sr_of_tab tab3 hl3 (seal_list XB.out))
    rw [if_pos XL.out] at hl3
    have SD := Lib.hid (sealed hstamp XL.out (vs := l3.map (·.2)) (by rw [List.map_map]; exact hl3))
    have HB3 := Lib.hid (step_ HB2.out hb3)
    have I3 := Lib.hid (I2.out.below hb3)
    have Z3 := Lib.hid hb3.size
    have h4 : l3.length = 4 := by have := congrArg List.length hl3; simpa [sealS_eq] using this
    rcases tab3.value with ⟨_, e⟩ | ⟨g3, c3, rfl, _, _⟩
    · rw [e] at h4; cases h4
    clear tab3 hl3 hb3 h4
    go_wp2_with fail
    (with_reducible refine (open_any w3 w3.heap.size _ _ S3.out.1 (Nat.le_refl _)).mono ?_)
    rintro e w4 h4
    rcases h4 with ⟨_, v4, rfl, ow4, hb4⟩ | ⟨nw, _⟩
    · obtain ⟨g4, c4, rfl⟩ := ownsRow_succ (k := 447) ow4
      have hh := SD.out.2.1
      rw [hh]
      have e4 := SD.out.2.2.1
      rw [e4] at ow4
      have J4 := Lib.hid (IR.of_own ow4)
      have HB4 := Lib.hid (step_ HB3.out hb4)
      have I4 := Lib.hid (I3.out.below (hb4.mono Z3.out))
      have S4 := Lib.hid (S3.out.1.keep (fun p hp => hb4.cell hp))
      have Z4 := Lib.hid hb4.size
      have MS := Lib.hid (show most (stampsOf (l3.map (·.2))) = stamp by rw [SD.out.2.2.2]; exact most_rep hstamp.1)
      clear hh e4 ow4 hb4
      go_wp2_with fail
      (with_reducible refine (same_any _ _ xb xb w4 _ _ I4.out J4.out XB.out XB.out).mono ?_)
      rintro e w6 ⟨rfl, rfl⟩
      go_wp2_with fail
      (with_reducible refine (greatest_any w4 w3.heap.size _ _ S4.out Z4.out).mono ?_)
      rintro e w5 ⟨rfl, hb5⟩
      rw [MS.out]
      have HB5 := Lib.hid (step_ HB4.out hb5)
      clear hb5
      go_wp2
      go_ret
      exact ⟨rfl, HB5.out⟩
    · exact absurd SD.out.1 nw


set_option maxRecDepth 100000 in
theorem lifted (os : Os) (started : os.Started) (H : Type) (enc : TypeId × Value → H) :
    ReturnsInHanded {} Try.checked os 5 .any (Rows.sealBackSpec.pre6 enc Try.prog Try.f5 Rows.sealBackRow.domain false) (Rows.sealBackSpec.post enc Try.prog Try.f5 false true false false) := by
  refine returnsInHanded_of_change (C := Try.checked) own started (by kernel_rfl) Try.func5
    (ChangeSpec.witness6 (enc := enc) (C := Try.checked) false ⟨#[], #[.slice none 0 0, .int .u64 0], []⟩ 8 (by kernel_rfl) (by kernel_rfl) (by kernel_rfl) (by kernel_rfl)) ?_
  intro W base args ds gs before hval0 hW hcnd _
  have hval : ∀ (j : Nat) t v, Try.f5.params[j]? = some t → args[j]? = some v → Value.okWide Try.prog W .any base t v := hval0
  have hW' := hW
  obtain ⟨p, q, hA0, hV, rfl, hfz, hnd⟩ := hW
  have hA1 : DataW.TrodAll enc Try.prog W 0 (fun _ => true) true Try.f5.params.toList args.toList ds p := hA0
  have hA := hA1
  rw [Try.params5] at hA hval
  obtain ⟨v0, vs0, d0, ds0, p0, q0, hargs, rfl, rfl, h0, r0⟩ := trodAll_cons hA
  obtain ⟨v1, vs1, d1, ds1, p1, q1, rfl, rfl, rfl, h1, r1⟩ := trodAll_cons r0
  obtain ⟨rfl, rfl, rfl⟩ := trodAll_nil r1
  obtain rfl : args = #[v0, v1] := by cases args; simp_all
  obtain ⟨rfl, rfl⟩ := trodVars_none hV
  obtain ⟨xfront, i0, wf0⟩ := open_IR Try.underlying22 Try.underlying5 (by kernel_rfl) (hval 0 22 v0 rfl rfl) h0
  obtain ⟨stamp, rfl, rfl, rfl, wf1⟩ := open_int Try.underlying23 (hval 1 23 v1 rfl rfl) h1
  clear hA0 hval0
  refine (walk W v0 xfront i0 (fun n hn => bounds_u8 (wf0 n hn)) stamp (bounds_u64 wf1)).mono fun e W' ⟨he, bel⟩ => ?_
  subst he
  exact ⟨_, rfl, _, _, _, [], _, [], hW', trodAll_mk1 (shut_bool Try.underlying4 _), args_again laidOut bel (by kernel_rfl) hA1, rfl, bel.frame _, fun h => by cases h⟩

theorem over : Rows.sealBackRow.holds Try.pinned (OpenSpec.ofChange Rows.sealBackSpec) :=
  OpenClaim.holds_of_wide 5 Try.f5 rfl rfl rfl rfl rfl rfl rfl ⟨rfl, rfl, rfl, rfl, rfl⟩ rfl rfl rfl rfl rfl (by kernel_rfl) Try.func5 (by kernel_rfl)
    (of_decide_eq_true (by kernel_rfl)) (by unfold Func.isWrapper; first | (rw [if_pos (by decide +kernel)]; kernel_rfl) | (rw [if_neg (by decide +kernel)]; exact ⟨rfl, rfl⟩))
    (fun os started H enc _ => lifted os started H enc)

theorem proved : Rows.SealBackSaid := over
end Go.Proofs.Ytacjbgkcghcnnaa.LSealBack
