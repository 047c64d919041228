/- The law manciplelaw11.ClockPicks returns true whatever it is called with, and what it was called with reads as it did. No condition. -/
import Derived.Test.YtimnhanjlldhoaaLaw
import Derived.Test.YtimnhanjlldhoaaClkL
import Derived.Deep.RegionWith
import Derived.Outline
namespace Go.Proofs.Ytimnhanjlldhoaa.LClockPicks
open Go.ChangeShapes Go.WideShapes Go.ChangeAt Go.RowKit Go.IntWalk Go.Proofs.Mem Law
set_option linter.unusedVariables false
open Go.Proofs.Ytimnhanjlldhoaa.Clk _root_.Go.Proofs.Clk
set_option maxRecDepth 100000 in
set_option maxHeartbeats 8000000 in
theorem walk (w : World) (n : Int) (hn : -9223372036854775808 ≤ n ∧ n ≤ 9223372036854775807) (l : Value) (xl : List Clk.Cl) (hl : SS Clk.cCl 2 w w.heap.size l xl) (bl : ∀ o ∈ xl, Clk.Cl.Ok o) :
    Calls Try.prog 4 #[.int .i64 n, l] w fun e w' => e = .returned (.bool true) ∧ Below w.heap.size w w' := by
  obtain ⟨A, c, rfl, hlc, hcm⟩ := hl.form
  have HL := Lib.hid hl
  have BL := Lib.hid bl
  unfold maxLen at hcm
  have KN := Lib.hid (fun W => known_any W)
  by_cases hlen : 200 < xl.length
  · have d1 : decide (200 < (xl.length : Int)) = true := decide_eq_true (by omega)
    have d1' : decide (200 < xl.length) = true := decide_eq_true hlen
    clear hl bl
    go_enter Try.func4, Try.ntmps4
    go_wp2_with fail
    (with_reducible refine (KN.out _).mono ?_)
    rintro e w1 ⟨rfl, hb1⟩
    go_wp2
    go_ret
    exact ⟨rfl, hb1⟩
  · have d1 : decide (200 < (xl.length : Int)) = false := decide_eq_false (by omega)
    have d1' : decide (200 < xl.length) = false := decide_eq_false hlen
    have RN := Lib.hid (fun (W : World) (hW : SS cCl 2 W W.heap.size (.slice A xl.length c) xl) => run_any W n A c xl hcm hlc hW bl (by omega) hn)
    have hmn := many_le n
    have hr : 1 + (if 0 ≤ n then n else 0) % 64 = (many n : Int) := by unfold many; omega
    have H0 : 0 ≤ n ∨ ¬ 0 ≤ n := by omega
    clear hl bl
    generalize many n = N at *
    go_enter Try.func4, Try.ntmps4
    go_wp2_with fail
    (with_reducible refine (KN.out _).mono ?_)
    rintro e w1 ⟨rfl, hb1⟩
    go_wp2_with fail
    (with_reducible refine (RN.out _ ((HL.out.below hb1).more hb1.size)).mono ?_)
    rintro e w2 ⟨g, gf, l, h, rfl, c2, hN, hh, ho, hg, hb2⟩
    obtain ⟨⟨x, b, l1, h1⟩, hp⟩ := pick_ends l h (by omega)
    have C2 := Lib.hid c2
    have P := Lib.hid hp
    have S0 := Lib.hid hp.none_says
    have S1 := Lib.hid (hp.some_says (by omega) ho (by omega))
    have L1 := Lib.hid ((hp.keeps (by omega)).1)
    dsimp only at S0 S1 L1
    have HH := Lib.hid (show h < l.length by omega)
    have HN := Lib.hid hN
    have HG := Lib.hid (show w.heap.size ≤ g ∧ w.heap.size ≤ gf from by have := hb1.size; omega)
    have HB2 := Lib.hid (step_ hb1 hb2)
    have HO := Lib.hid ho
    have hl64 : l.length ≤ 64 := by omega
    clear c2 hp hh hg hb1 hb2 ho hN
    go_wp2_with fail
    (with_reducible refine (pick_any _ g gf h l C2.out hl64 HH.out _ P.out).mono ?_)
    rintro e w3 ⟨rfl, c3, f3⟩
    have C3 := Lib.hid c3
    have HB3 := Lib.hid (HB2.out.trans (f3.to_below (B := w.heap.size) (by have := HG.out; rintro k (rfl | rfl) <;> omega) HB2.out.size))
    clear c3 f3
    dsimp only at C3
    have hl1 : l1.length ≤ 64 := by have := L1.out; omega
    have hNl : N = l.length := by have := HN.out; omega
    have HNL := Lib.hid hNl
    clear hNl
    rcases H0 with h0 | h0
    all_goals
      (first | rw [if_pos (show 0 ≤ n by omega)] at hr | rw [if_neg (show ¬ 0 ≤ n by omega)] at hr)
      rcases b with _ | _
      · obtain ⟨rfl, rfl, s0⟩ := S0.out rfl
        have HS := Lib.hid s0
        clear s0
        go_wp2
        go_loopw [8, 9] (fun s i W => ∃ k : Nat, s = .bool false ∧ i = .int .i64 k ∧ k ≤ N ∧ Hid (CK W g gf l1 h1) ∧ Hid (Below w.heap.size w W)) (fun _ i _ => N - (intOf i).toNat)
        case atStart => exact ⟨0, rfl, rfl, by omega, C3, HB3⟩
        case round =>
          obtain ⟨k, rfl, rfl, hk, HC, HB⟩ := hrel
          by_cases hlt : k < N
          · have hd : decide ((k : Int) < (N : Int)) = true := decide_eq_true (by omega)
            have hd' : decide (k < N) = true := decide_eq_true (by omega)
            have hd2 : (k : Int) < 1 + (if 0 ≤ n then n else 0) % 64 := by first | (rw [if_pos (show 0 ≤ n by omega)]; omega) | (rw [if_neg (show ¬ 0 ≤ n by omega)]; omega)
            first | rw [if_pos (show 0 ≤ n by omega)] at hd2 | rw [if_neg (show ¬ 0 ≤ n by omega)] at hd2
            have hp0 : ((fr l1 (k : Int)).p == 0) = false := by rw [fr_in (by have := HNL.out; omega)]; exact HS.out k (by have := HNL.out; omega)
            go_wp2_with fail
            (with_reducible refine (pins_any _ g gf h1 l1 HC.out hl1 k).mono ?_)
            rintro e W1 ⟨rfl, hb1⟩
            have HC' := Lib.hid (HC.out.later hb1)
            have HB' := Lib.hid (step_ HB.out hb1)
            clear hb1
            go_wp2
            go_roundw
            case rel => exact ⟨k + 1, rfl, by go_num, by omega, HC', HB'⟩
            case measure => simp [intOf]; omega
          · have hd : decide ((k : Int) < (N : Int)) = false := decide_eq_false (by omega)
            have hd' : decide (k < N) = false := decide_eq_false (by omega)
            have hd2 : ¬ (k : Int) < 1 + (if 0 ≤ n then n else 0) % 64 := by first | (rw [if_pos (show 0 ≤ n by omega)]; omega) | (rw [if_neg (show ¬ 0 ≤ n by omega)]; omega)
            first | rw [if_pos (show 0 ≤ n by omega)] at hd2 | rw [if_neg (show ¬ 0 ≤ n by omega)] at hd2
            go_wp2
            go_ret
            exact ⟨rfl, HB.out⟩
      · obtain ⟨y, rfl, hy, py⟩ := S1.out rfl
        have HY := Lib.hid (show y < N by have := HNL.out; omega)
        have hpy : ((fr l1 (y : Int)).p == 0) = true := by rw [fr_in (by have := L1.out; omega), py]; rfl
        clear py hy
        go_wp2
        go_loopw [8, 9] (fun s i W => ∃ (q : Bool) (k : Nat), s = .bool q ∧ i = .int .i64 k ∧ k ≤ N ∧ Hid (y < k → q = true) ∧ Hid (CK W g gf l1 h1) ∧ Hid (Below w.heap.size w W)) (fun _ i _ => N - (intOf i).toNat)
        case atStart => exact ⟨false, 0, rfl, rfl, by omega, Lib.hid (fun h => by omega), C3, HB3⟩
        case round =>
          obtain ⟨q, k, rfl, rfl, hk, HQ, HC, HB⟩ := hrel
          by_cases hlt : k < N
          · have hd : decide ((k : Int) < (N : Int)) = true := decide_eq_true (by omega)
            have hd' : decide (k < N) = true := decide_eq_true (by omega)
            have hd2 : (k : Int) < 1 + (if 0 ≤ n then n else 0) % 64 := by first | (rw [if_pos (show 0 ≤ n by omega)]; omega) | (rw [if_neg (show ¬ 0 ≤ n by omega)]; omega)
            first | rw [if_pos (show 0 ≤ n by omega)] at hd2 | rw [if_neg (show ¬ 0 ≤ n by omega)] at hd2
            rcases q with _ | _
            · have HP0 := Lib.hid (show y < k + 1 → ((fr l1 (k : Int)).p == 0) = true from fun hlt2 => by
                have : ¬ y < k := fun h => by have := HQ.out h; cases this
                have e : y = k := by omega
                rw [← e]; exact hpy)
              have PN := Lib.hid (pins_any wr g gf h1 l1 HC.out hl1 k)
              have hq2 : ∀ z : Int, z = (fr l1 (k : Int)).p → (z == 0) = ((fr l1 (k : Int)).p == 0) := fun z hz => by rw [hz]
              generalize (fr l1 (k : Int)).p = z at *
              by_cases hz : z = 0
              · subst hz
                clear hq2
                go_wp2_with fail
                (with_reducible refine (PN.out).mono ?_)
                rintro e W1 ⟨rfl, hb1⟩
                have HC' := Lib.hid (HC.out.later hb1)
                have HB' := Lib.hid (step_ HB.out hb1)
                clear hb1
                go_wp2
                go_roundw
                case rel => exact ⟨true, k + 1, rfl, by go_num, by omega, Lib.hid (fun _ => rfl), HC', HB'⟩
                case measure => simp [intOf]; omega
              · have hz0 : (z == 0) = false := by simpa using hz
                clear hq2
                go_wp2_with fail
                (with_reducible refine (PN.out).mono ?_)
                rintro e W1 ⟨rfl, hb1⟩
                have HC' := Lib.hid (HC.out.later hb1)
                have HB' := Lib.hid (step_ HB.out hb1)
                clear hb1
                go_wp2
                go_roundw
                case rel => exact ⟨false, k + 1, rfl, by go_num, by omega, Lib.hid (fun h => by have := HP0.out h; rw [hz0] at this; cases this), HC', HB'⟩
                case measure => simp [intOf]; omega
            · go_wp2
              go_roundw
              case rel => exact ⟨true, k + 1, rfl, by go_num, by omega, Lib.hid (fun _ => rfl), HC, HB⟩
              case measure => simp [intOf]; omega
          · have hd : decide ((k : Int) < (N : Int)) = false := decide_eq_false (by omega)
            have hd' : decide (k < N) = false := decide_eq_false (by omega)
            have hd2 : ¬ (k : Int) < 1 + (if 0 ≤ n then n else 0) % 64 := by first | (rw [if_pos (show 0 ≤ n by omega)]; omega) | (rw [if_neg (show ¬ 0 ≤ n by omega)]; omega)
            first | rw [if_pos (show 0 ≤ n by omega)] at hd2 | rw [if_neg (show ¬ 0 ≤ n by omega)] at hd2
            obtain rfl : q = true := HQ.out (by have := HY.out; omega)
            go_wp2_with fail
            (with_reducible refine (pins_any _ g gf h1 l1 HC.out hl1 y).mono ?_)
            rintro e W1 ⟨rfl, hb1⟩
            go_wp2
            go_ret
            exact ⟨rfl, step_ HB.out hb1⟩


set_option maxRecDepth 100000 in
theorem lifted (os : Os) (started : os.Started) (H : Type) (enc : TypeId × Value → H) :
    ReturnsInHanded {} Try.checked os 4 .any (Rows.clockPicksSpec.pre6 enc Try.prog Try.f4 Rows.clockPicksRow.domain false) (Rows.clockPicksSpec.post enc Try.prog Try.f4 false true false false) := by
  refine returnsInHanded_of_change (C := Try.checked) own started (by kernel_rfl) Try.func4
    (ChangeSpec.witness6 (enc := enc) (C := Try.checked) false ⟨#[], #[.int .i64 0, .slice none 0 0], []⟩ 8 (by kernel_rfl) (by kernel_rfl) (by kernel_rfl) (by kernel_rfl)) ?_
  intro W base args ds gs before hval0 hW hcnd _
  have hval : ∀ (j : Nat) t v, Try.f4.params[j]? = some t → args[j]? = some v → Value.okWide Try.prog W .any base t v := hval0
  have hW' := hW
  obtain ⟨p, q, hA0, hV, rfl, hfz, hnd⟩ := hW
  have hA1 : DataW.TrodAll enc Try.prog W 0 (fun _ => true) true Try.f4.params.toList args.toList ds p := hA0
  have hA := hA1
  rw [Try.params4] at hA hval
  obtain ⟨v0, vs0, d0, ds0, p0, q0, hargs, rfl, rfl, h0, r0⟩ := trodAll_cons hA
  obtain ⟨v1, vs1, d1, ds1, p1, q1, rfl, rfl, rfl, h1, r1⟩ := trodAll_cons r0
  obtain ⟨rfl, rfl, rfl⟩ := trodAll_nil r1
  obtain rfl : args = #[v0, v1] := by cases args; simp_all
  obtain ⟨rfl, rfl⟩ := trodVars_none hV
  obtain ⟨n, rfl, rfl, rfl, wf0⟩ := open_int Try.underlying3 (hval 0 3 v0 rfl rfl) h0
  obtain ⟨xl, i1, wf1⟩ := Clk.open_ops (hval 1 22 v1 rfl rfl) h1
  clear hA0 hval0
  refine (walk W n (bounds_i64 wf0) v1 xl i1 wf1).mono fun e W' ⟨he, bel⟩ => ?_
  subst he
  exact ⟨_, rfl, _, _, _, [], _, [], hW', trodAll_mk1 (shut_bool Try.underlying4 _), args_again laidOut bel (by kernel_rfl) hA1, rfl, bel.frame _, fun h => by cases h⟩

theorem over : Rows.clockPicksRow.holds Try.pinned (OpenSpec.ofChange Rows.clockPicksSpec) :=
  OpenClaim.holds_of_wide 4 Try.f4 rfl rfl rfl rfl rfl rfl rfl ⟨rfl, rfl, rfl, rfl, rfl⟩ rfl rfl rfl rfl rfl (by kernel_rfl) Try.func4 (by kernel_rfl)
    (of_decide_eq_true (by kernel_rfl)) (by unfold Func.isWrapper; first | (rw [if_pos (by decide +kernel)]; kernel_rfl) | (rw [if_neg (by decide +kernel)]; exact ⟨rfl, rfl⟩))
    (fun os started H enc _ => lifted os started H enc)

theorem proved : Rows.ClockPicksSaid := over
end Go.Proofs.Ytimnhanjlldhoaa.LClockPicks
