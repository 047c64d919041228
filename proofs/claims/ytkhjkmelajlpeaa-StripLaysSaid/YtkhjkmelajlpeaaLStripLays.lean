/- The law manciplelaw07.StripLays returns true whatever it is called with, and what it was called with reads as it did. No condition. -/
import Derived.Test.YtkhjkmelajlpeaaLaw
import Derived.Test.YtkhjkmelajlpeaaStrip6
import Derived.Test.YtkhjkmelajlpeaaSrOpen
namespace Go.Proofs.Ytkhjkmelajlpeaa.LStripLays
open Go.ChangeShapes Go.WideShapes Go.ChangeAt Go.RowKit Go.IntWalk Go.Proofs.Mem Law
set_option linter.unusedVariables false
open Go.Proofs.Ytkhjkmelajlpeaa.Strip Go.Proofs.Ytkhjkmelajlpeaa.Blk
set_option maxRecDepth 100000 in
set_option maxHeartbeats 8000000 in
theorem walk (w : World) (s : Value) (xs : List Int) (hs : IR w w.heap.size .u8 s xs) (bs : Bytes xs) (n : Int) (hn : -9223372036854775808 ≤ n ∧ n ≤ 9223372036854775807) :
    Calls Try.prog 3 #[s, .int .i64 n] w fun e w' => e = .returned (.bool true) ∧ Below w.heap.size w w' := by
  obtain ⟨A, c, rfl, hlc, hcm⟩ := hs.form
  unfold maxLen at hcm
  have HV := Lib.hid hs
  have BB := Lib.hid bs
  clear hs bs
  by_cases hlen : 2000 < xs.length
  · have d1 : decide (2000 < (xs.length : Int)) = true := decide_eq_true (by omega)
    have d1' : decide (2000 < xs.length) = true := decide_eq_true hlen
    go_enter Try.func3, Try.ntmps3
    go_wp2_with fail
    (with_reducible refine (known_any _).mono ?_)
    rintro e w1 ⟨rfl, hb1⟩
    go_wp2
    go_ret
    exact ⟨rfl, hb1⟩
  · have d1 : decide (2000 < (xs.length : Int)) = false := decide_eq_false (by omega)
    have d1' : decide (2000 < xs.length) = false := decide_eq_false hlen
    have LB := Lib.hid (lay_bytes BB.out)
    go_enter Try.func3, Try.ntmps3
    go_wp2_with fail
    (with_reducible refine (known_any _).mono ?_)
    rintro e w1 ⟨rfl, hb1⟩
    have HB1 := Lib.hid hb1
    clear hb1
    go_wp2_with fail
    (with_reducible refine (lent_any _ _ _ _ (HV.out.below HB1.out) (by omega)).mono ?_)
    rintro e w2 ⟨u, rfl, ow2, hb2⟩
    have I2 := Lib.hid (IR.of_own ow2)
    have HB2 := Lib.hid (step_ HB1.out hb2)
    clear ow2 hb2
    go_wp2_with fail
    (with_reducible refine (lay_any _ w2.heap.size _ _ I2.out (Nat.le_refl _) (by omega)).mono ?_)
    rintro e w3 ⟨v3, l3, rfl, tab3, hl3, hb3⟩
    have HB3 := Lib.hid (step_ HB2.out hb3)
    have S3 := Lib.hid (sr_of_tab tab3 hl3 LB.out)
    have I3 := Lib.hid (I2.out.below hb3)
    have Z3 := Lib.hid hb3.size
    clear tab3 hl3 hb3
    go_wp2_with fail
    (with_reducible refine (ref_lay_any _ w.heap.size _ _ (HV.out.below HB3.out) HB3.out.size (by omega)).mono ?_)
    rintro e w4 ⟨v4, l4, rfl, tab4, hl4, hb4⟩
    have HB4 := Lib.hid (step_ HB3.out hb4)
    have S4 := Lib.hid (sr_of_tab tab4 hl4 LB.out)
    have S34 := Lib.hid (S3.out.1.keep (fun p hp => hb4.cell hp))
    have I4 := Lib.hid (I3.out.below (hb4.mono Z3.out))
    have EQ := Lib.hid (show decide ((l3.map (·.2)).map (·.2) = (l4.map (·.2)).map (·.2)) = true from decide_eq_true (by rw [S3.out.2, S4.out.2]))
    clear tab4 hl4 hb4
    go_wp2_with fail
    (with_reducible refine (same_blocks _ _ _ _ w4 _ _ S34.out S4.out.1).mono ?_)
    rintro e w5 ⟨rfl, d, rfl⟩
    rw [EQ.out]
    go_wp2_with fail
    (with_reducible refine (count_any n hn _).mono ?_)
    rintro e w6 ⟨rfl, rfl⟩
    go_wp2_with fail
    (with_reducible refine (count_ref n hn _).mono ?_)
    rintro e w7 ⟨rfl, rfl⟩
    go_wp2_with fail
    (with_reducible refine (same_any _ _ xs xs _ _ _ (I4.out.drewN d) ((HV.out.below HB4.out).drewN d) BB.out BB.out).mono ?_)
    rintro e w8 ⟨rfl, rfl⟩
    go_wp2
    go_ret
    exact ⟨rfl, below_drewN HB4.out _⟩


set_option maxRecDepth 100000 in
theorem lifted (os : Os) (started : os.Started) (H : Type) (enc : TypeId × Value → H) :
    ReturnsInHanded {} Try.checked os 3 .any (Rows.stripLaysSpec.pre6 enc Try.prog Try.f3 Rows.stripLaysRow.domain false) (Rows.stripLaysSpec.post enc Try.prog Try.f3 false true false false) := by
  refine returnsInHanded_of_change (C := Try.checked) own started (by kernel_rfl) Try.func3
    (ChangeSpec.witness6 (enc := enc) (C := Try.checked) false ⟨#[], #[.slice none 0 0, .int .i64 0], []⟩ 8 (by kernel_rfl) (by kernel_rfl) (by kernel_rfl) (by kernel_rfl)) ?_
  intro W base args ds gs before hval0 hW hcnd _
  have hval : ∀ (j : Nat) t v, Try.f3.params[j]? = some t → args[j]? = some v → Value.okWide Try.prog W .any base t v := hval0
  have hW' := hW
  obtain ⟨p, q, hA0, hV, rfl, hfz, hnd⟩ := hW
  have hA1 : DataW.TrodAll enc Try.prog W 0 (fun _ => true) true Try.f3.params.toList args.toList ds p := hA0
  have hA := hA1
  rw [Try.params3] at hA hval
  obtain ⟨v0, vs0, d0, ds0, p0, q0, hargs, rfl, rfl, h0, r0⟩ := trodAll_cons hA
  obtain ⟨v1, vs1, d1, ds1, p1, q1, rfl, rfl, rfl, h1, r1⟩ := trodAll_cons r0
  obtain ⟨rfl, rfl, rfl⟩ := trodAll_nil r1
  obtain rfl : args = #[v0, v1] := by cases args; simp_all
  obtain ⟨rfl, rfl⟩ := trodVars_none hV
  obtain ⟨xs, i0, wf0⟩ := open_IR Try.underlying22 Try.underlying5 (by kernel_rfl) (hval 0 22 v0 rfl rfl) h0
  obtain ⟨n, rfl, rfl, rfl, wf1⟩ := open_int Try.underlying3 (hval 1 3 v1 rfl rfl) h1
  clear hA0 hval0
  refine (walk W v0 xs i0 (fun n hn => bounds_u8 (wf0 n hn)) n (bounds_i64 wf1)).mono fun e W' ⟨he, bel⟩ => ?_
  subst he
  exact ⟨_, rfl, _, _, _, [], _, [], hW', trodAll_mk1 (shut_bool Try.underlying4 _), args_again laidOut bel (by kernel_rfl) hA1, rfl, bel.frame _, fun h => by cases h⟩

theorem over : Rows.stripLaysRow.holds Try.pinned (OpenSpec.ofChange Rows.stripLaysSpec) :=
  OpenClaim.holds_of_wide 3 Try.f3 rfl rfl rfl rfl rfl rfl rfl ⟨rfl, rfl, rfl, rfl, rfl⟩ rfl rfl rfl rfl rfl (by kernel_rfl) Try.func3 (by kernel_rfl)
    (of_decide_eq_true (by kernel_rfl)) (by unfold Func.isWrapper; first | (rw [if_pos (by decide +kernel)]; kernel_rfl) | (rw [if_neg (by decide +kernel)]; exact ⟨rfl, rfl⟩))
    (fun os started H enc _ => lifted os started H enc)

theorem proved : Rows.StripLaysSaid := over
end Go.Proofs.Ytkhjkmelajlpeaa.LStripLays
