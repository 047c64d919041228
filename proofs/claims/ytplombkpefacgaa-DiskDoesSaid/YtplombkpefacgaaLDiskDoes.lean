/- The law manciplelaw05.DiskDoes returns true whatever it is called with, and what it was called with reads as it did. No condition. -/
import Derived.Test.YtplombkpefacgaaLaw
import Derived.Test.YtplombkpefacgaaDlD
import Derived.Deep.RegionWith
import Derived.Outline
namespace Go.Proofs.Ytplombkpefacgaa.LDiskDoes
open Go.ChangeShapes Go.WideShapes Go.ChangeAt Go.RowKit Go.IntWalk Go.Proofs.Mem Law
set_option linter.unusedVariables false
open Go.Proofs.Ytplombkpefacgaa.Disk Go.Proofs.Each
set_option linter.unusedSimpArgs false
set_option maxRecDepth 100000 in
set_option maxHeartbeats 8000000 in
theorem walk (w : World) (lg : Int) (hlg : -9223372036854775808 ≤ lg ∧ lg ≤ 9223372036854775807) (pg : Int) (hpg : -9223372036854775808 ≤ pg ∧ pg ≤ 9223372036854775807) (l : Value) (xl : List Disk.Oi) (hl : SS Disk.cOi 5 w w.heap.size l xl) (bl : ∀ o ∈ xl, Disk.OiAt w w.heap.size o) :
    Calls Try.prog 3 #[.int .i64 lg, .int .i64 pg, l] w fun e w' => e = .returned (.bool true) ∧ Below w.heap.size w w' := by
  obtain ⟨A, c, rfl, hlc, hcm⟩ := hl.form
  unfold maxLen at hcm
  have HV0 := Lib.hid (heavy_any w lg pg A c xl hcm hlc hl (fun x hx => (bl x hx).ok))
  have HL := Lib.hid hl
  have BL := Lib.hid bl
  clear hl bl
  obtain ⟨q, hq⟩ : ∃ q, q = hvy lg pg xl := ⟨_, rfl⟩
  rw [← hq] at HV0
  have HQ := Lib.hid hq
  clear hq
  go_enter Try.func3, Try.ntmps3
  cases q
  case true =>
    go_wp2_with (first
      | (go_at_call 9; (with_reducible refine HV0.out.mono ?_); rintro e w1 ⟨rfl, rfl⟩)
      | (go_at_call 10; (with_reducible refine (known_any _).mono ?_); rintro e w3 ⟨rfl, hb3⟩; have HB3 := Lib.hid hb3; clear hb3)
      | fail)
    go_ret
    exact ⟨rfl, HB3.out⟩
  obtain ⟨l1, l2, l3, l4⟩ := hvy_all HQ.out.symm
  have HS := Lib.hid l4
  clear l4
  go_wp2_with (first
    | (go_at_call 9; (with_reducible refine HV0.out.mono ?_); rintro e w1 ⟨rfl, rfl⟩)
    | (go_at_call 10; (with_reducible refine (known_any _).mono ?_); rintro e w3 ⟨rfl, hb3⟩; have HB3 := Lib.hid hb3; clear hb3)
    | fail)
  by_cases hneg : lg < 0 ∨ pg < 0
  · (with_reducible refine (new_no w3 lg pg (by omega) hneg).mono ?_)
    rintro e w4 ⟨rfl, hb4⟩
    have HB4 := Lib.hid (step_ HB3.out hb4)
    clear hb4
    go_wp2_with fail
    (with_reducible refine (rnew_no w4 lg pg (by omega) hneg).mono ?_)
    rintro e w5 ⟨rfl, hb5⟩
    have HB5 := Lib.hid (step_ HB4.out hb5)
    clear hb5
    go_wp2
    go_ret
    exact ⟨rfl, HB5.out⟩
  · obtain ⟨N0, e0⟩ : ∃ N : Nat, lg = N := ⟨lg.toNat, by omega⟩
    obtain ⟨N1, e1⟩ : ∃ N : Nat, pg = N := ⟨pg.toNat, by omega⟩
    subst e0 e1
    have h40 : N0 ≤ 4096 := by omega
    have h41 : N1 ≤ 4096 := by omega
    (with_reducible refine (new_at N0 N1 w3 N0 N1 rfl rfl h40 h41).mono ?_)
    rintro e w4 ⟨rfl, o1⟩
    have O1 := Lib.hid o1
    have HB4 := Lib.hid (show Below w1.heap.size w1 w4 from by obtain ⟨_, _, _, _, _, h⟩ := o1; exact step_ HB3.out h)
    clear o1
    go_wp2_with fail
    (with_reducible refine (rnew_yes w4 N0 N1 h40 h41).mono ?_)
    rintro e w5 ⟨rfl, o2⟩
    have RS := Lib.hid (RelD.start O1.out o2 HB3.out.size)
    have HB5 := Lib.hid (show Below w1.heap.size w1 w5 from by obtain ⟨_, _, _, _, h⟩ := o2; exact step_ HB4.out h)
    clear o2
    obtain ⟨a, ea⟩ : ∃ a, a = w3.heap.size := ⟨_, rfl⟩
    obtain ⟨b, eb⟩ : ∃ b, b = w4.heap.size := ⟨_, rfl⟩
    rw [← ea, ← eb] at RS
    rw [← ea, ← eb]
    clear ea eb hneg
    go_wp2
    go_loopw [9] (fun i wr => ∃ j : Nat, i = .int .i64 j ∧ j ≤ xl.length ∧ Hid (RelD w1.heap.size wr a b j) ∧ Hid (Below w1.heap.size w1 wr)) (fun i _ => xl.length - (intOf i).toNat)
    case atStart => exact ⟨0, rfl, by omega, RS, HB5⟩
    case round =>
      obtain ⟨j, rfl, hj, HR, HBL⟩ := hrel
      by_cases hlt : j < xl.length
      · have HX := Lib.hid (BL.out xl[j] (List.getElem_mem hlt))
        have HXS := Lib.hid (HS.out xl[j] (List.getElem_mem hlt))
        obtain ⟨bo, off, rfl, hb, hcell⟩ := (HL.out.below HBL.out).at_ (List.getElem?_eq_getElem hlt)
        generalize xl[j] = x at *
        obtain ⟨o, xa, xb⟩ := x
        obtain ⟨A1, c1, ex1, _⟩ := HX.out.2.1.form
        obtain ⟨A2, c2, ex2, _⟩ := HX.out.2.2.form
        simp only at ex1 ex2
        subst ex1 ex2
        have HD := Lib.hid (HR.out.does (by omega) (Nat.le_refl _) HBL.out ⟨o, _, _⟩ A1 _ c1 A2 _ c2 rfl rfl HX.out HXS.out)
        obtain ⟨L1, hL1⟩ : ∃ L, L = o.xs.length := ⟨_, rfl⟩
        obtain ⟨L2, hL2⟩ : ∃ L, L = o.fs.length := ⟨_, rfl⟩
        simp only at HD
        rw [← hL1, ← hL2] at HD hcell
        clear hL1 hL2 HX HXS
        have y0 : wr.cell? ⟨bo, off + j * 5, none⟩ = some (.int .u8 o.k) := hcell 0 _ rfl
        have y1 : wr.cell? ⟨bo, off + j * 5 + 1, none⟩ = some (.int .u8 o.f) := hcell 1 _ rfl
        have y2 : wr.cell? ⟨bo, off + j * 5 + 2, none⟩ = some (.int .i64 o.s) := hcell 2 _ rfl
        have y3 : wr.cell? ⟨bo, off + j * 5 + 3, none⟩ = some (.slice A1 L1 c1) := hcell 3 _ rfl
        have y4 : wr.cell? ⟨bo, off + j * 5 + 4, none⟩ = some (.slice A2 L2 c2) := hcell 4 _ rfl
        clear hcell
        go_wp2_with fail
        (with_reducible refine (HD.out).mono ?_)
        rintro e w6 ⟨rfl, r6, b6⟩
        have HB6 := Lib.hid (HBL.out.trans b6)
        clear b6 y0 y1 y2 y3 y4
        go_wp2_with fail
        (with_reducible refine (r6.alike (by omega)).mono ?_)
        rintro e w7 ⟨rfl, r7, b7⟩
        have R7 := Lib.hid r7
        have HB7 := Lib.hid (HB6.out.trans b7)
        clear r6 r7 b7
        go_wp2
        go_roundw
        case rel => exact ⟨j + 1, by go_num, by omega, R7, HB7⟩
        case measure => simp [intOf]; omega
      · go_wp2_with fail
        (with_reducible refine (HR.out.alike (by omega)).mono ?_)
        rintro e w7 ⟨rfl, r7, b7⟩
        have HB7 := Lib.hid (HBL.out.trans b7)
        clear r7 b7
        go_wp2
        go_ret
        exact ⟨rfl, HB7.out⟩


set_option maxRecDepth 100000 in
theorem lifted (os : Os) (started : os.Started) (H : Type) (enc : TypeId × Value → H) :
    ReturnsInHanded {} Try.checked os 3 .any (Rows.diskDoesSpec.pre6 enc Try.prog Try.f3 Rows.diskDoesRow.domain false) (Rows.diskDoesSpec.post enc Try.prog Try.f3 false true false false) := by
  refine returnsInHanded_of_change (C := Try.checked) own started (by kernel_rfl) Try.func3
    (ChangeSpec.witness6 (enc := enc) (C := Try.checked) false ⟨#[], #[.int .i64 0, .int .i64 0, .slice none 0 0], []⟩ 8 (by kernel_rfl) (by kernel_rfl) (by kernel_rfl) (by kernel_rfl)) ?_
  intro W base args ds gs before hval0 hW hcnd _
  have hval : ∀ (j : Nat) t v, Try.f3.params[j]? = some t → args[j]? = some v → Value.okWide Try.prog W .any base t v := hval0
  have hW' := hW
  obtain ⟨p, q, hA0, hV, rfl, hfz, hnd⟩ := hW
  have hA1 : DataW.TrodAll enc Try.prog W 0 (fun _ => true) true Try.f3.params.toList args.toList ds p := hA0
  have hA := hA1
  rw [Try.params3] at hA hval
  obtain ⟨v0, vs0, d0, ds0, p0, q0, hargs, rfl, rfl, h0, r0⟩ := trodAll_cons hA
  obtain ⟨v1, vs1, d1, ds1, p1, q1, rfl, rfl, rfl, h1, r1⟩ := trodAll_cons r0
  obtain ⟨v2, vs2, d2, ds2, p2, q2, rfl, rfl, rfl, h2, r2⟩ := trodAll_cons r1
  obtain ⟨rfl, rfl, rfl⟩ := trodAll_nil r2
  obtain rfl : args = #[v0, v1, v2] := by cases args; simp_all
  obtain ⟨rfl, rfl⟩ := trodVars_none hV
  obtain ⟨lg, rfl, rfl, rfl, wf0⟩ := open_int Try.underlying3 (hval 0 3 v0 rfl rfl) h0
  obtain ⟨pg, rfl, rfl, rfl, wf1⟩ := open_int Try.underlying3 (hval 1 3 v1 rfl rfl) h1
  obtain ⟨xl, i2, wf2⟩ := Disk.open_opns (hval 2 22 v2 rfl rfl) h2
  clear hA0 hval0
  refine (walk W lg (bounds_i64 wf0) pg (bounds_i64 wf1) v2 xl i2 wf2).mono fun e W' ⟨he, bel⟩ => ?_
  subst he
  exact ⟨_, rfl, _, _, _, [], _, [], hW', trodAll_mk1 (shut_bool Try.underlying4 _), args_again laidOut bel (by kernel_rfl) hA1, rfl, bel.frame _, fun h => by cases h⟩

theorem over : Rows.diskDoesRow.holds Try.pinned (OpenSpec.ofChange Rows.diskDoesSpec) :=
  OpenClaim.holds_of_wide 3 Try.f3 rfl rfl rfl rfl rfl rfl rfl ⟨rfl, rfl, rfl, rfl, rfl⟩ rfl rfl rfl rfl rfl (by kernel_rfl) Try.func3 (by kernel_rfl)
    (of_decide_eq_true (by kernel_rfl)) (by unfold Func.isWrapper; first | (rw [if_pos (by decide +kernel)]; kernel_rfl) | (rw [if_neg (by decide +kernel)]; exact ⟨rfl, rfl⟩))
    (fun os started H enc _ => lifted os started H enc)

theorem proved : Rows.DiskDoesSaid := over
end Go.Proofs.Ytplombkpefacgaa.LDiskDoes
