/- The law manciplelaw11.ClockStays returns true whatever it is called with, and what it was called with reads as it did. No condition. -/
import Derived.Test.YtimnhanjlldhoaaLaw
import Derived.Test.YtimnhanjlldhoaaClkL
import Derived.Deep.RegionWith
import Derived.Deep.QuietTactic
import Derived.BigQuiet
import Derived.Outline
namespace Go.Proofs.Ytimnhanjlldhoaa.LClockStays
open Go.ChangeShapes Go.WideShapes Go.ChangeAt Go.RowKit Go.IntWalk Go.Proofs.Mem Law
set_option linter.unusedVariables false
open Go.Proofs.Ytimnhanjlldhoaa.Clk _root_.Go.Proofs.Clk
set_option maxRecDepth 100000 in
set_option maxHeartbeats 8000000 in
theorem walk (w : World) (n : Int) (hn : 0 ≤ n ∧ n ≤ 255) (l : Value) (xl : List Clk.Cl) (hl : SS Clk.cCl 2 w w.heap.size l xl) (bl : ∀ o ∈ xl, Clk.Cl.Ok o) :
    Calls Try.prog 6 #[.int .u8 n, l] w fun e w' => e = .returned (.bool true) ∧ Below w.heap.size w w' := by
  obtain ⟨A, c, rfl, hlc, hcm⟩ := hl.form
  have HL := Lib.hid hl
  have BL := Lib.hid bl
  unfold maxLen at hcm
  have KN := Lib.hid (fun W => known_any W)
  by_cases hlen : 200 < xl.length
  · have d1 : decide (200 < (xl.length : Int)) = true := decide_eq_true (by omega)
    have d1' : decide (200 < xl.length) = true := decide_eq_true hlen
    clear hl bl
    go_enter Try.func6, Try.ntmps6
    go_wp2_with fail
    (with_reducible refine (KN.out _).mono ?_)
    rintro e w1 ⟨rfl, hb1⟩
    go_wp2
    go_ret
    exact ⟨rfl, hb1⟩
  · have d1 : decide (200 < (xl.length : Int)) = false := decide_eq_false (by omega)
    have d1' : decide (200 < xl.length) = false := decide_eq_false hlen
    obtain ⟨N, hr, hmn⟩ : ∃ N : Nat, 1 + n % 64 = (N : Int) ∧ 1 ≤ N ∧ N ≤ 64 := ⟨(1 + n % 64).toNat, by omega, by omega⟩
    have RN := Lib.hid (fun (W : World) (a : Int) (ha : a = (N : Int) - 1) (hW : SS cCl 2 W W.heap.size (.slice A xl.length c) xl) => run_at W a N ha hmn A c xl hcm hlc hW bl (by omega))
    clear hl bl
    have HR := Lib.hid hr
    go_enter Try.func6, Try.ntmps6
    go_wp2_with fail
    (with_reducible refine (KN.out _).mono ?_)
    rintro e w1 ⟨rfl, hb1⟩
    go_wp2_with fail
    (with_reducible refine (RN.out _ _ (by have := HR.out; omega) ((HL.out.below hb1).more hb1.size)).mono ?_)
    rintro e w2 ⟨g, gf, l, h, rfl, c2, hN, hh, ho, hg, hb2⟩
    have C2 := Lib.hid c2
    have HG := Lib.hid (show w.heap.size ≤ g ∧ w.heap.size ≤ gf ∧ g < w2.heap.size ∧ gf < w2.heap.size from by have := hb1.size; have := c2.top.lt; have := c2.fs.lt; omega)
    have HB2 := Lib.hid (step_ hb1 hb2)
    have HO := Lib.hid (show l.length = N ∧ h < l.length ∧ Oks xl.length l from ⟨hN, by omega, ho⟩)
    have hl64 : l.length ≤ 64 := by omega
    have HW := Lib.hid (show w.heap.size ≤ w2.heap.size from HB2.out.size)
    clear c2 hg hb1 hb2 ho hh hN
    go_wp2
    generalize hp : w2.heap.size = p at *
    have HP := Lib.hid hp
    clear hp
    go_loopw [8] (fun i W => ∃ (k : Nat) (arr : List Int), i = .int .i64 k ∧ k ≤ N ∧ Hid (CK W g gf l h) ∧ Hid (AR (.int .i64) W p arr) ∧ Hid (∀ x, x < k → arr.getD x 0 = (l.getD x z3).p) ∧ Hid (Below w.heap.size w W)) (fun i _ => N - (intOf i).toNat)
    case atStart => exact ⟨0, List.replicate 64 0, rfl, by omega, Lib.hid (C2.out.alloc _), Lib.hid ⟨by simp, _, by rw [← HP.out]; exact Box.new _ _ _⟩, Lib.hid (fun x hx => by omega), Lib.hid (HB2.out.alloc (by rw [HP.out]; exact HW.out) _)⟩
    case round =>
      obtain ⟨k, arr, rfl, hk, HC, HA, HE, HB⟩ := hrel
      by_cases hlt : k < N
      · have hd : decide ((k : Int) < (N : Int)) = true := decide_eq_true (by omega)
        have hd' : decide (k < N) = true := decide_eq_true (by omega)
        have z0 := HA.out.cell 0 (show k < 64 by omega)
        have zf := HA.out.frozen k
        have e1 : decide ((k : Int) < 64) = true := decide_eq_true (by omega)
        have e1' : decide (k < 64) = true := decide_eq_true (by omega)
        go_wp2_with fail
        (with_reducible refine (pins_in wr g gf h l HC.out hl64 k (by have := HO.out.1; omega)).mono ?_)
        rintro e W1 ⟨rfl, rfl⟩
        go_wp2
        go_roundw
        case rel =>
          refine ⟨k + 1, arr.set k (l.getD k z3).p, by go_num, by omega, Lib.hid (HC.out.far (by have := HG.out; have := HP.out; show g ≠ p; omega) (by have := HG.out; have := HP.out; show gf ≠ p; omega) _), Lib.hid (HA.out.set k _), Lib.hid (fun x hx => ?_), Lib.hid (HB.out.setCell (by have := HP.out; have := HW.out; show w.heap.size ≤ p; omega) _)⟩
          rw [getD_set_int _ _ _ (by have := HA.out.1; omega)]
          by_cases e : x = k
          · subst e; rw [if_pos rfl]
          · rw [if_neg e]; exact HE.out x (by omega)
        case measure => simp [intOf]; omega
      · obtain ⟨⟨x, b, l1, h1⟩, hpk⟩ := pick_ends l h HO.out.2.1
        have P := Lib.hid hpk
        have KP := Lib.hid (hpk.pins HO.out.2.1)
        have KE := Lib.hid (hpk.keeps HO.out.2.1)
        dsimp only at KP KE
        clear hpk
        have hd : decide ((k : Int) < (N : Int)) = false := decide_eq_false (by omega)
        have hd' : decide (k < N) = false := decide_eq_false (by omega)
        go_wp2_with fail
        (with_reducible refine (pick_any _ g gf h l HC.out hl64 HO.out.2.1 _ P.out).mono ?_)
        rintro e W1 ⟨rfl, c3, f3⟩
        have C3 := Lib.hid c3
        have HB3 := Lib.hid (HB.out.trans (f3.to_below (B := w.heap.size) (by have := HG.out; rintro k (rfl | rfl) <;> omega) HB.out.size))
        have HA3 := Lib.hid (HA.out.fr f3 (by have := HG.out; have := HP.out; rintro (rfl | rfl) <;> omega))
        clear c3 f3
        dsimp only at C3
        have hl1 : l1.length ≤ 64 := by have := KE.out.1; omega
        go_wp2
        go_loopw [11] (fun i W => ∃ (q : Nat), i = .int .i64 q ∧ q ≤ N ∧ Hid (CK W g gf l1 h1) ∧ Hid (AR (.int .i64) W p arr) ∧ Hid (Below w.heap.size w W)) (fun i _ => N - (intOf i).toNat)
        case atStart => exact ⟨0, rfl, by omega, C3, HA3, HB3⟩
        case round =>
          obtain ⟨q, rfl, hq, HC4, HA4, HB4⟩ := hrel
          by_cases hlt2 : q < N
          · have hd2 : decide ((q : Int) < (N : Int)) = true := decide_eq_true (by omega)
            have hd2' : decide (q < N) = true := decide_eq_true (by omega)
            have z0 := HA4.out.cell 0 (show q < 64 by omega)
            have e1 : decide ((q : Int) < 64) = true := decide_eq_true (by omega)
            have e1' : decide (q < 64) = true := decide_eq_true (by omega)
            have ee : arr.getD q 0 = (l1.getD q z3).p := by rw [HE.out q (by omega), (KP.out q).1]
            rw [ee] at z0
            have PI := Lib.hid (fun n => pins_in (wr.drewN n) g gf h1 l1 ⟨HC4.out.ne, HC4.out.top, HC4.out.fs⟩ hl1 q (by have := KE.out.1; have := HO.out.1; omega))
            generalize (l1.getD q z3).p = z at *
            go_wp2
            go_quiet ((go_at_call 11; exact Calls.quiet_of_same (PI.out _)))
            go_wp2
            go_roundw
            case rel => exact ⟨q + 1, by go_num, by omega, Lib.hid ⟨HC4.out.ne, HC4.out.top, HC4.out.fs⟩, Lib.hid HA4.out, Lib.hid (below_drewN HB4.out _)⟩
            case measure => simp [intOf]; omega
          · have hd2 : decide ((q : Int) < (N : Int)) = false := decide_eq_false (by omega)
            have hd2' : decide (q < N) = false := decide_eq_false (by omega)
            clear HP HA4 HA3 HA
            rcases b with _ | _
            · go_wp2
              go_ret
              exact ⟨rfl, HB4.out⟩
            · have hh1 : h1 < l1.length := by have := KE.out; have := HO.out; omega
              have O1 := Lib.hid (KE.out.2.2 xl.length (by omega) HO.out.2.2)
              have O2 := Lib.hid (touchM_ok (i := x) O1.out (by omega))
              have L2 : (touchM l1 x).2.length ≤ 64 := by rw [touchM_len]; exact hl1
              have L3 : (leaveM (touchM l1 x).2 x).2.length ≤ 64 := by rw [leaveM_len]; exact L2
              have hh3 : h1 < (leaveM (touchM l1 x).2 x).2.length := by rw [leaveM_len, touchM_len]; exact hh1
              obtain ⟨⟨y, b2, l4, h4⟩, hpk⟩ := pick_ends (leaveM (touchM l1 x).2 x).2 h1 hh3
              obtain ⟨s1, rfl, s3⟩ := stays P.out HO.out.2.1 HO.out.2.2 (by omega) hpk
              have HS3 := Lib.hid s3
              have dq : ((touchM l1 x).1 == (leaveM (touchM l1 x).2 x).1) = true := by simpa using s1
              have P4 := Lib.hid hpk
              have d3 : decide (y ≤ x) = true := decide_eq_true s3
              have L1H := Lib.hid hl1
              have L2H := Lib.hid L2
              have L3H := Lib.hid L3
              have HH3 := Lib.hid hh3
              clear hpk s3 s1 L2 L3 hh3 hh1 hl1
              go_wp2_with fail
              (with_reducible refine (touch_any _ g gf h1 l1 xl.length HC4.out L1H.out O1.out (by omega) x).mono ?_)
              rintro e W2 ⟨rfl, c5, f5⟩
              have C5 := Lib.hid c5
              have HB5 := Lib.hid (HB4.out.trans (f5.to_below (B := w.heap.size) (by have := HG.out; rintro k (rfl | rfl) <;> omega) HB4.out.size))
              clear c5 f5
              go_wp2_with fail
              (with_reducible refine (leave_any _ g gf h1 (touchM l1 x).2 xl.length C5.out L2H.out O2.out (by omega) x).mono ?_)
              rintro e W3 ⟨rfl, c6, f6⟩
              have C6 := Lib.hid c6
              have HB6 := Lib.hid (HB5.out.trans (f6.to_below (B := w.heap.size) (by have := HG.out; rintro k (rfl | rfl) <;> omega) HB5.out.size))
              clear c6 f6
              go_wp2_with fail
              (with_reducible refine (pick_any _ g gf h1 _ C6.out L3H.out HH3.out _ P4.out).mono ?_)
              rintro e W4 ⟨rfl, c7, f7⟩
              have HB7 := Lib.hid (HB6.out.trans (f7.to_below (B := w.heap.size) (by have := HG.out; rintro k (rfl | rfl) <;> omega) HB6.out.size))
              clear c7 f7
              go_wp2
              go_ret
              exact ⟨rfl, HB7.out⟩


set_option maxRecDepth 100000 in
theorem lifted (os : Os) (started : os.Started) (H : Type) (enc : TypeId × Value → H) :
    ReturnsInHanded {} Try.checked os 6 .any (Rows.clockStaysSpec.pre6 enc Try.prog Try.f6 Rows.clockStaysRow.domain false) (Rows.clockStaysSpec.post enc Try.prog Try.f6 false true false false) := by
  refine returnsInHanded_of_change (C := Try.checked) own started (by kernel_rfl) Try.func6
    (ChangeSpec.witness6 (enc := enc) (C := Try.checked) false ⟨#[], #[.int .u8 0, .slice none 0 0], []⟩ 8 (by kernel_rfl) (by kernel_rfl) (by kernel_rfl) (by kernel_rfl)) ?_
  intro W base args ds gs before hval0 hW hcnd _
  have hval : ∀ (j : Nat) t v, Try.f6.params[j]? = some t → args[j]? = some v → Value.okWide Try.prog W .any base t v := hval0
  have hW' := hW
  obtain ⟨p, q, hA0, hV, rfl, hfz, hnd⟩ := hW
  have hA1 : DataW.TrodAll enc Try.prog W 0 (fun _ => true) true Try.f6.params.toList args.toList ds p := hA0
  have hA := hA1
  rw [Try.params6] at hA hval
  obtain ⟨v0, vs0, d0, ds0, p0, q0, hargs, rfl, rfl, h0, r0⟩ := trodAll_cons hA
  obtain ⟨v1, vs1, d1, ds1, p1, q1, rfl, rfl, rfl, h1, r1⟩ := trodAll_cons r0
  obtain ⟨rfl, rfl, rfl⟩ := trodAll_nil r1
  obtain rfl : args = #[v0, v1] := by cases args; simp_all
  obtain ⟨rfl, rfl⟩ := trodVars_none hV
  obtain ⟨n, rfl, rfl, rfl, wf0⟩ := open_int Try.underlying5 (hval 0 5 v0 rfl rfl) h0
  obtain ⟨xl, i1, wf1⟩ := Clk.open_ops (hval 1 22 v1 rfl rfl) h1
  clear hA0 hval0
  refine (walk W n (bounds_u8 wf0) v1 xl i1 wf1).mono fun e W' ⟨he, bel⟩ => ?_
  subst he
  exact ⟨_, rfl, _, _, _, [], _, [], hW', trodAll_mk1 (shut_bool Try.underlying4 _), args_again laidOut bel (by kernel_rfl) hA1, rfl, bel.frame _, fun h => by cases h⟩

theorem over : Rows.clockStaysRow.holds Try.pinned (OpenSpec.ofChange Rows.clockStaysSpec) :=
  OpenClaim.holds_of_wide 6 Try.f6 rfl rfl rfl rfl rfl rfl rfl ⟨rfl, rfl, rfl, rfl, rfl⟩ rfl rfl rfl rfl rfl (by kernel_rfl) Try.func6 (by kernel_rfl)
    (of_decide_eq_true (by kernel_rfl)) (by unfold Func.isWrapper; first | (rw [if_pos (by decide +kernel)]; kernel_rfl) | (rw [if_neg (by decide +kernel)]; exact ⟨rfl, rfl⟩))
    (fun os started H enc _ => lifted os started H enc)

theorem proved : Rows.ClockStaysSaid := over
end Go.Proofs.Ytimnhanjlldhoaa.LClockStays
