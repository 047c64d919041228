/- The law manciplelaw10.SealOpens returns true whatever it is called with, and what it was called with reads as it did. No condition. -/
import Derived.Test.YtacjbgkcghcnnaaLaw
import Derived.Test.YtacjbgkcghcnnaaSealE
import Derived.Test.YtacjbgkcghcnnaaSrOpen
namespace Go.Proofs.Ytacjbgkcghcnnaa.LSealOpens
open Go.ChangeShapes Go.WideShapes Go.ChangeAt Go.RowKit Go.IntWalk Go.Proofs.Mem Law
set_option linter.unusedVariables false
open Go.Proofs.Ytacjbgkcghcnnaa.Seal _root_.Go.Proofs.Ytacjbgkcghcnnaa.NumBytes
theorem bytes_body {w : World} {B : Nat} {v : Value} {vs : Sects} (h : SR w B v vs) : Bytes (bodyOf vs) := fun x hx => by
  obtain ⟨p, hp, hx⟩ := List.mem_flatMap.1 hx
  obtain ⟨k, hk, rfl⟩ := List.mem_iff_getElem.1 hp
  obtain ⟨A, c, rfl, _⟩ := h.form
  obtain ⟨_, _, u, xs, _, _, g, _, _, hb⟩ := h.index k hk
  rw [List.getElem?_eq_getElem hk] at g
  injection g with g
  rw [g] at hx
  exact hb x (List.mem_of_mem_drop (List.mem_of_mem_take hx))
set_option maxRecDepth 100000 in
set_option maxHeartbeats 8000000 in
theorem walk (w : World) (l : Value) (xl : List (Value × List Int)) (hl : SR w w.heap.size l xl) :
    Calls Try.prog 4 #[l] w fun e w' => e = .returned (.bool true) ∧ Below w.heap.size w w' := by
  have HV := Lib.hid hl
  obtain ⟨q, hq⟩ := fit_dec 20 xl
  have HQ := Lib.hid hq
  have BB := Lib.hid (bytes_body hl)
  clear hl hq
  rcases q with _ | _
  · go_enter Try.func4, Try.ntmps4
    go_wp2_with fail
    (with_reducible refine (sectors_any _ xl w w.heap.size HV.out 20 (by decide) false (by have h := HQ.out; simpa using h)).mono ?_)
    rintro e w0 ⟨rfl, rfl⟩
    go_wp2_with fail
    (with_reducible refine (known_any _).mono ?_)
    rintro e w1 ⟨rfl, hb1⟩
    go_wp2
    go_ret
    exact ⟨rfl, hb1⟩
  · go_enter Try.func4, Try.ntmps4
    go_wp2_with fail
    (with_reducible refine (sectors_any _ xl w w.heap.size HV.out 20 (by decide) true (by have h := HQ.out; simpa using h)).mono ?_)
    rintro e w0 ⟨rfl, rfl⟩
    go_wp2_with fail
    (with_reducible refine (known_any _).mono ?_)
    rintro e w1 ⟨rfl, hb1⟩
    have HB1 := Lib.hid hb1
    clear hb1
    have S1 := Lib.hid (HV.out.keep (fun p hp => HB1.out.cell hp))
    go_wp2_with fail
    (with_reducible refine (open_any w1 w.heap.size _ _ S1.out HB1.out.size).mono ?_)
    rintro e w2 h2
    rcases h2 with ⟨wh, v2, rfl, ow2, hb2⟩ | ⟨nw, rfl, hb2⟩
    · obtain ⟨g2, c2, rfl⟩ := ownsRow_succ (k := 447) ow2
      have HB2 := Lib.hid (step_ HB1.out hb2)
      have I2 := Lib.hid (IR.of_own ow2)
      have S2 := Lib.hid (HV.out.keep (fun p hp => HB2.out.cell hp))
      have WH := Lib.hid wh
      clear ow2 hb2 wh
      go_wp2_with fail
      (with_reducible refine (ref_open_any w2 w.heap.size _ _ S2.out HB2.out.size).mono ?_)
      rintro e w3 h3
      rcases h3 with ⟨_, v3, rfl, ow3, hb3⟩ | ⟨nw, _⟩
      · obtain ⟨g3, c3, rfl⟩ := ownsRow_succ (k := 447) ow3
        have HB3 := Lib.hid (step_ HB2.out hb3)
        have I3 := Lib.hid (IR.of_own ow3)
        have I23 := Lib.hid (I2.out.below hb3)
        have S3 := Lib.hid (HV.out.keep (fun p hp => HB3.out.cell hp))
        clear ow3 hb3
        go_wp2_with fail
        (with_reducible refine (same_any _ _ (bodyOf xl) (bodyOf xl) w3 _ _ I23.out I3.out BB.out BB.out).mono ?_)
        rintro e w4 ⟨rfl, rfl⟩
        go_wp2_with fail
        (with_reducible refine (greatest_any w3 w.heap.size _ _ S3.out HB3.out.size).mono ?_)
        rintro e w5 ⟨rfl, hb5⟩
        have HB5 := Lib.hid (step_ HB3.out hb5)
        clear hb5
        have S5 := Lib.hid (HV.out.keep (fun p hp => HB5.out.cell hp))
        go_wp2_with fail
        (with_reducible refine (ref_greatest_any w5 w.heap.size _ _ S5.out HB5.out.size).mono ?_)
        rintro e w6 ⟨rfl, hb6⟩
        have HB6 := Lib.hid (step_ HB5.out hb6)
        clear hb6
        go_wp2
        go_ret
        exact ⟨rfl, HB6.out⟩
      · exact absurd WH.out nw
    · have HB2 := Lib.hid (step_ HB1.out hb2)
      have S2 := Lib.hid (HV.out.keep (fun p hp => HB2.out.cell hp))
      have NW := Lib.hid nw
      clear hb2 nw
      go_wp2_with fail
      (with_reducible refine (ref_open_any w2 w.heap.size _ _ S2.out HB2.out.size).mono ?_)
      rintro e w3 h3
      rcases h3 with ⟨wh, _⟩ | ⟨_, rfl, hb3⟩
      · exact absurd wh NW.out
      · have HB3 := Lib.hid (step_ HB2.out hb3)
        have S3 := Lib.hid (HV.out.keep (fun p hp => HB3.out.cell hp))
        clear hb3
        go_wp2_with fail
        (with_reducible refine (same_any _ _ [] [] w3 0 0 (IR.nil _ _ _) (IR.nil _ _ _) Bytes.nil Bytes.nil).mono ?_)
        rintro e w4 ⟨rfl, rfl⟩
        go_wp2_with fail
        (with_reducible refine (greatest_any w3 w.heap.size _ _ S3.out HB3.out.size).mono ?_)
        rintro e w5 ⟨rfl, hb5⟩
        have HB5 := Lib.hid (step_ HB3.out hb5)
        clear hb5
        have S5 := Lib.hid (HV.out.keep (fun p hp => HB5.out.cell hp))
        go_wp2_with fail
        (with_reducible refine (ref_greatest_any w5 w.heap.size _ _ S5.out HB5.out.size).mono ?_)
        rintro e w6 ⟨rfl, hb6⟩
        have HB6 := Lib.hid (step_ HB5.out hb6)
        clear hb6
        go_wp2
        go_ret
        exact ⟨rfl, HB6.out⟩


set_option maxRecDepth 100000 in
theorem lifted (os : Os) (started : os.Started) (H : Type) (enc : TypeId × Value → H) :
    ReturnsInHanded {} Try.checked os 4 .any (Rows.sealOpensSpec.pre6 enc Try.prog Try.f4 Rows.sealOpensRow.domain false) (Rows.sealOpensSpec.post enc Try.prog Try.f4 false true false false) := by
  refine returnsInHanded_of_change (C := Try.checked) own started (by kernel_rfl) Try.func4
    (ChangeSpec.witness6 (enc := enc) (C := Try.checked) false ⟨#[], #[.slice none 0 0], []⟩ 8 (by kernel_rfl) (by kernel_rfl) (by kernel_rfl) (by kernel_rfl)) ?_
  intro W base args ds gs before hval0 hW hcnd _
  have hval : ∀ (j : Nat) t v, Try.f4.params[j]? = some t → args[j]? = some v → Value.okWide Try.prog W .any base t v := hval0
  have hW' := hW
  obtain ⟨p, q, hA0, hV, rfl, hfz, hnd⟩ := hW
  have hA1 : DataW.TrodAll enc Try.prog W 0 (fun _ => true) true Try.f4.params.toList args.toList ds p := hA0
  have hA := hA1
  rw [Try.params4] at hA hval
  obtain ⟨v0, vs0, d0, ds0, p0, q0, hargs, rfl, rfl, h0, r0⟩ := trodAll_cons hA
  obtain ⟨rfl, rfl, rfl⟩ := trodAll_nil r0
  obtain rfl : args = #[v0] := by cases args; simp_all
  obtain ⟨rfl, rfl⟩ := trodVars_none hV
  obtain ⟨xl, i0⟩ := SrOpen.open_sr (hval 0 27 v0 rfl rfl) h0
  clear hA0 hval0
  refine (walk W v0 xl i0).mono fun e W' ⟨he, bel⟩ => ?_
  subst he
  exact ⟨_, rfl, _, _, _, [], _, [], hW', trodAll_mk1 (shut_bool Try.underlying4 _), args_again laidOut bel (by kernel_rfl) hA1, rfl, bel.frame _, fun h => by cases h⟩

theorem over : Rows.sealOpensRow.holds Try.pinned (OpenSpec.ofChange Rows.sealOpensSpec) :=
  OpenClaim.holds_of_wide 4 Try.f4 rfl rfl rfl rfl rfl rfl rfl ⟨rfl, rfl, rfl, rfl, rfl⟩ rfl rfl rfl rfl rfl (by kernel_rfl) Try.func4 (by kernel_rfl)
    (of_decide_eq_true (by kernel_rfl)) (by unfold Func.isWrapper; first | (rw [if_pos (by decide +kernel)]; kernel_rfl) | (rw [if_neg (by decide +kernel)]; exact ⟨rfl, rfl⟩))
    (fun os started H enc _ => lifted os started H enc)

theorem proved : Rows.SealOpensSaid := over
end Go.Proofs.Ytacjbgkcghcnnaa.LSealOpens
