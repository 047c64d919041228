/- The law manciplelaw01.NumOnly returns true whatever it is called with, and what it was called with reads as it did. No condition. -/
import Derived.Test.YtfldhkmdagaliaaLaw
import Derived.Test.YtfldhkmdagaliaaNumKnown
import Derived.Test.YtfldhkmdagaliaaNumShortRef
import Derived.Test.YtfldhkmdagaliaaEach6
import Derived.Deep.QuietTactic
import Derived.BigQuiet
namespace Go.Proofs.Ytfldhkmdagaliaa.LNumOnly
open Go.ChangeShapes Go.WideShapes Go.ChangeAt Go.RowKit Go.IntWalk Go.Proofs.Mem Law
set_option linter.unusedVariables false
open NumBytes NumInts Go.Proofs.NumMath Go.Proofs.NumShort Go.Proofs.Each
set_option maxRecDepth 100000 in
set_option maxHeartbeats 8000000 in
theorem walk (w : World) (b : Value) (xb : List Int) (hb : IR w w.heap.size .u8 b xb) (bb : Bytes xb) (n : Int) (hn : 0 ≤ n ∧ n ≤ 18446744073709551615) (more : Value) (xmore : List Int) (hmore : IR w w.heap.size .u8 more xmore) (bmore : Bytes xmore) :
    Calls Try.prog 9 #[b, .int .u64 n, more] w fun e w' => e = .returned (.bool true) ∧ Below w.heap.size w w' := by
  obtain ⟨A, c, rfl, hlc, hcm⟩ := hb.form
  unfold maxLen at hcm
  obtain ⟨Am, cm, rfl, hlm, hmm⟩ := hmore.form
  unfold maxLen at hmm
  by_cases hl : xb.length ≤ 1000 ∧ xmore.length ≤ 1000
  · obtain ⟨hl1, hl2⟩ := hl
    have hd1 : decide (1000 < (xb.length : Int)) = false := by simp; omega
    have hd2 : decide (1000 < (xmore.length : Int)) = false := by simp; omega
    obtain ⟨i0, hi0, hz0, hz1, hz2⟩ := info_parts u8_info
    go_enter Try.func9, Try.ntmps9
    go_wp2_with fail
    (with_reducible refine (known_any _).mono ?_)
    rintro e w1 ⟨rfl, hb1⟩
    have hbv := hb.below hb1
    have hmv := hmore.below hb1
    go_wp2_with fail
    (with_reducible refine (short_any _ xb _ _ hbv bb).mono ?_)
    rintro e w' ⟨rfl, rfl⟩
    go_wp2_with fail
    rcases short_only xb bb with hz | ⟨k, hk1, hk10, hkl, hk2, hx0, hx1, hlong⟩
    · rw [hz]
      have d3 : decide ((xb.length : Int) < 0) = false := decide_eq_false (by omega)
      refine wp_region_ob (by kernel_rfl) (by kernel_rfl) [(fun v _ => v = Value.int .i64 0), (fun v _ => v = Value.bool false), (fun v _ => v = Value.bool false), (fun v _ => v = Value.int .i64 0), (fun v _ => v = Value.bool false), (fun v _ => v = Value.bool false), (fun v _ => v = Value.bool false), (fun v _ => v = Value.int .i64 0), (fun v _ => v = Value.slice A xb.length c), (fun v _ => v = Value.int .i64 xb.length), (fun v _ => v = Value.bool false), (fun v _ => v = Value.bool false), (fun v _ => v = Value.bool false), (fun v _ => v = Value.int .i64 0), (fun v _ => v = Value.bool false), (fun v _ => v = Value.bool false), (fun v _ => v = undef), (fun v _ => v = undef), (fun v _ => v = undef), (fun v _ => v = undef), (fun v _ => v = undef), (fun v _ => v = undef), (fun v _ => v = undef), (fun v _ => v = Value.bool false), (fun v _ => v = Value.bool false)] ⟨stays_eq _, stays_eq _, stays_eq _, stays_eq _, stays_eq _, stays_eq _, stays_eq _, stays_eq _, stays_eq _, stays_eq _, stays_eq _, stays_eq _, stays_eq _, stays_eq _, stays_eq _, stays_eq _, stays_eq _, stays_eq _, stays_eq _, stays_eq _, stays_eq _, stays_eq _, stays_eq _, stays_eq _, stays_eq _, trivial⟩ (fun vals => ?_) (fun vals W hbW hall => ?_)
      · simp only [ObF, Act.put, List.setIfInBounds_toArray, List.set_cons_succ, List.set_cons_zero]
        refine ⟨?_, ?_, ?_, ?_, ?_, ?_, ?_, ?_, ?_, ?_, ?_, ?_, ?_, ?_, ?_, ?_, ?_, ?_, ?_, ?_, ?_, ?_, ?_, ?_, ?_, trivial⟩
        · intro W hbW hw
          clear hw
          refine step_plain rfl ?_
          go_simp
          (first | exact Below.refl _ _ | exact ⟨Below.refl _ _, rfl⟩ | exact ⟨_, rfl, Below.refl _ _, rfl⟩)
        · intro W hbW hw
          have f0 : vals 0 = Value.int .i64 0 := hw ⟨0, .data⟩ (by simp) rfl
          clear hw
          refine step_plain rfl ?_
          go_simp
          (first | exact Below.refl _ _ | exact ⟨Below.refl _ _, rfl⟩ | exact ⟨_, rfl, Below.refl _ _, rfl⟩)
        · intro W hbW hw
          have f1 : vals 1 = Value.bool false := hw ⟨1, .data⟩ (by simp) rfl
          clear hw
          refine step_plain rfl ?_
          go_simp
          (first | exact Below.refl _ _ | exact ⟨Below.refl _ _, rfl⟩ | exact ⟨_, rfl, Below.refl _ _, rfl⟩)
        · intro W hbW hw
          have f2 : vals 2 = Value.bool false := hw ⟨2, .guard⟩ (by simp) rfl
          clear hw
          refine step_guard rfl (yielded_of rfl f2) ?_
          go_simp
          (first | exact Below.refl _ _ | exact ⟨Below.refl _ _, rfl⟩ | exact ⟨_, rfl, Below.refl _ _, rfl⟩)
        · intro W hbW hw
          have f3 : vals 3 = Value.int .i64 0 := hw ⟨3, .data⟩ (by simp) rfl
          have f2 : vals 2 = Value.bool false := hw ⟨2, .guard⟩ (by simp) rfl
          clear hw
          refine step_guard rfl (yielded_of rfl f2) ?_
          go_simp
          (first | exact Below.refl _ _ | exact ⟨Below.refl _ _, rfl⟩ | exact ⟨_, rfl, Below.refl _ _, rfl⟩)
        · intro W hbW hw
          have f2 : vals 2 = Value.bool false := hw ⟨2, .data⟩ (by simp) rfl
          have f4 : vals 4 = Value.bool false := hw ⟨4, .data⟩ (by simp) rfl
          clear hw
          refine step_plain rfl ?_
          go_simp
          (first | exact Below.refl _ _ | exact ⟨Below.refl _ _, rfl⟩ | exact ⟨_, rfl, Below.refl _ _, rfl⟩)
        · intro W hbW hw
          have f5 : vals 5 = Value.bool false := hw ⟨5, .data⟩ (by simp) rfl
          have f2 : vals 2 = Value.bool false := hw ⟨2, .chain⟩ (by simp) rfl
          clear hw
          refine step_plain rfl ?_
          go_simp
          (first | exact Below.refl _ _ | exact ⟨Below.refl _ _, rfl⟩ | exact ⟨_, rfl, Below.refl _ _, rfl⟩)
        · intro W hbW hw
          have f6 : vals 6 = Value.bool false := hw ⟨6, .guard⟩ (by simp) rfl
          clear hw
          refine step_guard rfl (yielded_of rfl f6) ?_
          go_simp
          (first | exact Below.refl _ _ | exact ⟨Below.refl _ _, rfl⟩ | exact ⟨_, rfl, Below.refl _ _, rfl⟩)
        · intro W hbW hw
          have f6 : vals 6 = Value.bool false := hw ⟨6, .guard⟩ (by simp) rfl
          clear hw
          refine step_guard rfl (yielded_of rfl f6) ?_
          go_simp
          (first | exact Below.refl _ _ | exact ⟨Below.refl _ _, rfl⟩ | exact ⟨_, rfl, Below.refl _ _, rfl⟩)
        · intro W hbW hw
          have f8 : vals 8 = Value.slice A xb.length c := hw ⟨8, .data⟩ (by simp) rfl
          have f6 : vals 6 = Value.bool false := hw ⟨6, .guard⟩ (by simp) rfl
          clear hw
          refine step_guard rfl (yielded_of rfl f6) ?_
          go_simp
          (first | exact Below.refl _ _ | exact ⟨Below.refl _ _, rfl⟩ | exact ⟨_, rfl, Below.refl _ _, rfl⟩)
        · intro W hbW hw
          have f7 : vals 7 = Value.int .i64 0 := hw ⟨7, .data⟩ (by simp) rfl
          have f9 : vals 9 = Value.int .i64 xb.length := hw ⟨9, .data⟩ (by simp) rfl
          have f6 : vals 6 = Value.bool false := hw ⟨6, .guard⟩ (by simp) rfl
          clear hw
          refine step_guard rfl (yielded_of rfl f6) ?_
          go_simp
          (first | exact Below.refl _ _ | exact ⟨Below.refl _ _, rfl⟩ | exact ⟨_, rfl, Below.refl _ _, rfl⟩)
        · intro W hbW hw
          have f6 : vals 6 = Value.bool false := hw ⟨6, .data⟩ (by simp) rfl
          have f10 : vals 10 = Value.bool false := hw ⟨10, .data⟩ (by simp) rfl
          clear hw
          refine step_plain rfl ?_
          go_simp
          (first | exact Below.refl _ _ | exact ⟨Below.refl _ _, rfl⟩ | exact ⟨_, rfl, Below.refl _ _, rfl⟩)
        · intro W hbW hw
          have f11 : vals 11 = Value.bool false := hw ⟨11, .data⟩ (by simp) rfl
          have f6 : vals 6 = Value.bool false := hw ⟨6, .chain⟩ (by simp) rfl
          clear hw
          refine step_plain rfl ?_
          go_simp
          (first | exact Below.refl _ _ | exact ⟨Below.refl _ _, rfl⟩ | exact ⟨_, rfl, Below.refl _ _, rfl⟩)
        · intro W hbW hw
          have f12 : vals 12 = Value.bool false := hw ⟨12, .guard⟩ (by simp) rfl
          clear hw
          refine step_guard rfl (yielded_of rfl f12) ?_
          go_simp
          (first | exact Below.refl _ _ | exact ⟨Below.refl _ _, rfl⟩ | exact ⟨_, rfl, Below.refl _ _, rfl⟩)
        · intro W hbW hw
          have f13 : vals 13 = Value.int .i64 0 := hw ⟨13, .data⟩ (by simp) rfl
          have f12 : vals 12 = Value.bool false := hw ⟨12, .guard⟩ (by simp) rfl
          clear hw
          refine step_guard rfl (yielded_of rfl f12) ?_
          go_simp
          (first | exact Below.refl _ _ | exact ⟨Below.refl _ _, rfl⟩ | exact ⟨_, rfl, Below.refl _ _, rfl⟩)
        · intro W hbW hw
          have f14 : vals 14 = Value.bool false := hw ⟨14, .data⟩ (by simp) rfl
          have f12 : vals 12 = Value.bool false := hw ⟨12, .chain⟩ (by simp) rfl
          clear hw
          refine step_guard rfl (yielded_of rfl f12) ?_
          go_simp
          (first | exact Below.refl _ _ | exact ⟨Below.refl _ _, rfl⟩ | exact ⟨_, rfl, Below.refl _ _, rfl⟩)
        · intro W hbW hw
          have f15 : vals 15 = Value.bool false := hw ⟨15, .guard⟩ (by simp) rfl
          clear hw
          exact wp_unwanted rfl (yielded_of rfl f15) (by decide) rfl
        · intro W hbW hw
          have f16 : vals 16 = undef := hw ⟨16, .data⟩ (by simp) rfl
          have f15 : vals 15 = Value.bool false := hw ⟨15, .chain⟩ (by simp) rfl
          clear hw
          exact wp_unwanted rfl (yielded_of rfl f15) (by decide) rfl
        · intro W hbW hw
          have f15 : vals 15 = Value.bool false := hw ⟨15, .guard⟩ (by simp) rfl
          clear hw
          exact wp_unwanted rfl (yielded_of rfl f15) (by decide) rfl
        · intro W hbW hw
          have f15 : vals 15 = Value.bool false := hw ⟨15, .guard⟩ (by simp) rfl
          clear hw
          exact wp_unwanted rfl (yielded_of rfl f15) (by decide) rfl
        · intro W hbW hw
          have f18 : vals 18 = undef := hw ⟨18, .data⟩ (by simp) rfl
          have f19 : vals 19 = undef := hw ⟨19, .data⟩ (by simp) rfl
          have f15 : vals 15 = Value.bool false := hw ⟨15, .guard⟩ (by simp) rfl
          clear hw
          exact wp_unwanted rfl (yielded_of rfl f15) (by decide) rfl
        · intro W hbW hw
          have f17 : vals 17 = undef := hw ⟨17, .data⟩ (by simp) rfl
          have f20 : vals 20 = undef := hw ⟨20, .data⟩ (by simp) rfl
          have f15 : vals 15 = Value.bool false := hw ⟨15, .guard⟩ (by simp) rfl
          clear hw
          exact wp_unwanted rfl (yielded_of rfl f15) (by decide) rfl
        · intro W hbW hw
          have f21 : vals 21 = undef := hw ⟨21, .data⟩ (by simp) rfl
          have f15 : vals 15 = Value.bool false := hw ⟨15, .guard⟩ (by simp) rfl
          clear hw
          exact wp_unwanted rfl (yielded_of rfl f15) (by decide) rfl
        · intro W hbW hw
          have f15 : vals 15 = Value.bool false := hw ⟨15, .data⟩ (by simp) rfl
          have f22 : vals 22 = undef := hw ⟨22, .data⟩ (by simp) rfl
          have f12 : vals 12 = Value.bool false := hw ⟨12, .guard⟩ (by simp) rfl
          clear hw
          refine step_guard rfl (yielded_of rfl f12) ?_
          go_simp
          (first | exact Below.refl _ _ | exact ⟨Below.refl _ _, rfl⟩ | exact ⟨_, rfl, Below.refl _ _, rfl⟩)
        · intro W hbW hw
          have f12 : vals 12 = Value.bool false := hw ⟨12, .data⟩ (by simp) rfl
          have f23 : vals 23 = Value.bool false := hw ⟨23, .data⟩ (by simp) rfl
          clear hw
          refine step_plain rfl ?_
          go_simp
          (first | exact Below.refl _ _ | exact ⟨Below.refl _ _, rfl⟩ | exact ⟨_, rfl, Below.refl _ _, rfl⟩)
      · simp only [TL, Act.put, List.setIfInBounds_toArray, List.set_cons_succ, List.set_cons_zero]
        have f0 : vals 0 = Value.int .i64 0 := hall 0 (by decide)
        have f1 : vals 1 = Value.bool false := hall 1 (by decide)
        have f2 : vals 2 = Value.bool false := hall 2 (by decide)
        have f3 : vals 3 = Value.int .i64 0 := hall 3 (by decide)
        have f4 : vals 4 = Value.bool false := hall 4 (by decide)
        have f5 : vals 5 = Value.bool false := hall 5 (by decide)
        have f6 : vals 6 = Value.bool false := hall 6 (by decide)
        have f7 : vals 7 = Value.int .i64 0 := hall 7 (by decide)
        have f8 : vals 8 = Value.slice A xb.length c := hall 8 (by decide)
        have f9 : vals 9 = Value.int .i64 xb.length := hall 9 (by decide)
        have f10 : vals 10 = Value.bool false := hall 10 (by decide)
        have f11 : vals 11 = Value.bool false := hall 11 (by decide)
        have f12 : vals 12 = Value.bool false := hall 12 (by decide)
        have f13 : vals 13 = Value.int .i64 0 := hall 13 (by decide)
        have f14 : vals 14 = Value.bool false := hall 14 (by decide)
        have f15 : vals 15 = Value.bool false := hall 15 (by decide)
        have f16 : vals 16 = undef := hall 16 (by decide)
        have f17 : vals 17 = undef := hall 17 (by decide)
        have f18 : vals 18 = undef := hall 18 (by decide)
        have f19 : vals 19 = undef := hall 19 (by decide)
        have f20 : vals 20 = undef := hall 20 (by decide)
        have f21 : vals 21 = undef := hall 21 (by decide)
        have f22 : vals 22 = undef := hall 22 (by decide)
        have f23 : vals 23 = Value.bool false := hall 23 (by decide)
        have f24 : vals 24 = Value.bool false := hall 24 (by decide)
        clear hall
        simp only [f0, f1, f2, f3, f4, f5, f6, f7, f8, f9, f10, f11, f12, f13, f14, f15, f16, f17, f18, f19, f20, f21, f22, f23, f24]
        clear f0 f1 f2 f3 f4 f5 f6 f7 f8 f9 f10 f11 f12 f13 f14 f15 f16 f17 f18 f19 f20 f21 f22 f23 f24
        have hmW := (hmv.below (hbW.mono hb1.size))
        obtain ⟨hlb, hl1', hl10⟩ := longS_ok n hn.1 hn.2
        obtain ⟨M, hM⟩ : ∃ M, (longS n).length = M + 1 := ⟨(longS n).length - 1, by omega⟩
        have HM := Lib.hid hM
        rw [hM] at hl10
        have HLN := fun W => long_any n hn.1 hn.2 W
        rw [hM] at HLN
        have HL := Lib.hid HLN
        clear hM hl1' HLN hlb
        go_wp2_with fail
        (with_reducible refine (HL.out _).mono ?_)
        rintro e w3 ⟨p, rfl, hown3, hb3⟩
        obtain ⟨Ap, cp, hAp, _, _⟩ := (IR.of_own hown3).form
        rw [HM.out] at hAp
        subst hAp
        have hm3 := (hmW.below (hb3.mono (Nat.le_trans hb1.size hbW.size)))
        go_wp2_with (at_builtin; refine wpList_append_all _ rfl _ _ _ rfl W.heap.size 5 i0 .u8 1 Try.underlying23 hi0 hz0 hz1 hz2 _ (M + 1) (longS n) rfl hown3 w.heap.size _ xmore rfl hm3 (by simp only [maxLen]; omega) (by omega) hb3.size ?_; intro v4 w4 hown4 hb4)
        have h4 := IR.of_own hown4
        have hby : Bytes (longS n ++ xmore) := (longS_ok n hn.1 hn.2).1.app bmore
        obtain ⟨A4, c4, hA4, hc4, hm4⟩ := h4.form
        rw [List.length_append, HM.out] at hA4 hc4
        subst hA4
        unfold maxLen at hm4
        have h5 := h4.take (m := M) (by omega)
        have e5 : (longS n ++ xmore).take M = (longS n).dropLast := by
          rw [List.take_append_of_le_length (by rw [HM.out]; omega), List.dropLast_eq_take, HM.out]; rfl
        rw [e5] at h5
        have hsl := short_long n hn.1 hn.2 xmore
        rw [HM.out] at hsl
        have hse : shortS (longS n).dropLast = (0, 0) := short_end _ (longS_dropLast n hn.1 hn.2)
        have hby5 : Bytes (longS n).dropLast := fun x hx => (longS_ok n hn.1 hn.2).1 x (List.dropLast_subset _ hx)
        have HSL := Lib.hid hsl
        have HSE := Lib.hid hse
        have H4 := Lib.hid h4
        have H5 := Lib.hid h5
        have hbz : Below w.heap.size w w4 := (hb1.trans (hbW.mono hb1.size)).trans ((hb3.mono (Nat.le_trans hb1.size hbW.size)).trans (hb4.mono (Nat.le_trans hb1.size hbW.size)))
        clear hsl hse h4 h5 hown4 hown3 e5
        go_wp2_with fail
        (with_reducible refine (short_any _ (longS n ++ xmore) _ _ H4.out hby).mono ?_)
        rintro e w' ⟨rfl, rfl⟩
        rw [HSL.out]
        have t1 : (0 : Int) ≤ (M : Int) := by omega
        go_wp2_with fail
        (with_reducible refine (short_any _ (longS n).dropLast _ _ H5.out hby5).mono ?_)
        rintro e w' ⟨rfl, rfl⟩
        rw [HSE.out]
        go_wp2
        go_ret
        exact ⟨by simp, hbz⟩
    · have hso : shortS xb = ((shortS xb).1, k) := by rw [← hk2]
      rw [hso]
      have HLG := Lib.hid hlong
      generalize (shortS xb).1 = X at *
      clear hlong hso hk2
      have hXb := (longS_ok X hx0 (by omega)).1
      have ht := (hbv.take (m := k) hkl).more hb1.size
      have d1 : decide ((k : Int) < 0) = false := decide_eq_false (by omega)
      have d2 : decide (10 < (k : Int)) = false := decide_eq_false (by omega)
      have d3 : decide ((xb.length : Int) < (k : Int)) = false := decide_eq_false (by omega)
      have d3' : decide (xb.length < k) = false := decide_eq_false (by omega)
      have d4 : decide (0 < (k : Int)) = true := decide_eq_true (by omega)
      have d4' : decide (0 < k) = true := decide_eq_true (by omega)
      have hx2 : X ≤ 18446744073709551615 := by omega
      have hkc : k ≤ c := by omega
      refine wp_region_ob (by kernel_rfl) (by kernel_rfl) [(fun v _ => v = Value.int .i64 k), (fun v _ => v = Value.bool false), (fun v _ => v = Value.bool false), (fun v _ => v = Value.int .i64 k), (fun v _ => v = Value.bool false), (fun v _ => v = Value.bool false), (fun v _ => v = Value.bool false), (fun v _ => v = Value.int .i64 k), (fun v _ => v = Value.slice A xb.length c), (fun v _ => v = Value.int .i64 xb.length), (fun v _ => v = Value.bool false), (fun v _ => v = Value.bool false), (fun v _ => v = Value.bool false), (fun v _ => v = Value.int .i64 k), (fun v _ => v = Value.bool true), (fun v _ => v = Value.bool true), (fun v _ => v = Value.int .u64 X), (fun v W => IR W W.heap.size .u8 v (longS X)), (fun v _ => v = Value.slice A xb.length c), (fun v _ => v = Value.int .i64 k), (fun v _ => v = Value.slice A k c), (fun v _ => v = Value.bool true), (fun v _ => v = Value.bool false), (fun v _ => v = Value.bool false), (fun v _ => v = Value.bool false)] ⟨stays_eq _, stays_eq _, stays_eq _, stays_eq _, stays_eq _, stays_eq _, stays_eq _, stays_eq _, stays_eq _, stays_eq _, stays_eq _, stays_eq _, stays_eq _, stays_eq _, stays_eq _, stays_eq _, stays_eq _, stays_IR _ _, stays_eq _, stays_eq _, stays_eq _, stays_eq _, stays_eq _, stays_eq _, stays_eq _, trivial⟩ (fun vals => ?_) (fun vals W hbW hall => ?_)
      · simp only [ObF, Act.put, List.setIfInBounds_toArray, List.set_cons_succ, List.set_cons_zero]
        refine ⟨?_, ?_, ?_, ?_, ?_, ?_, ?_, ?_, ?_, ?_, ?_, ?_, ?_, ?_, ?_, ?_, ?_, ?_, ?_, ?_, ?_, ?_, ?_, ?_, ?_, trivial⟩
        · intro W hbW hw
          clear hw
          refine step_plain rfl ?_
          go_simp
          (first | exact Below.refl _ _ | exact ⟨Below.refl _ _, rfl⟩ | exact ⟨_, rfl, Below.refl _ _, rfl⟩)
        · intro W hbW hw
          have f0 : vals 0 = Value.int .i64 k := hw ⟨0, .data⟩ (by simp) rfl
          clear hw
          refine step_plain rfl ?_
          go_simp
          (first | exact Below.refl _ _ | exact ⟨Below.refl _ _, rfl⟩ | exact ⟨_, rfl, Below.refl _ _, rfl⟩)
        · intro W hbW hw
          have f1 : vals 1 = Value.bool false := hw ⟨1, .data⟩ (by simp) rfl
          clear hw
          refine step_plain rfl ?_
          go_simp
          (first | exact Below.refl _ _ | exact ⟨Below.refl _ _, rfl⟩ | exact ⟨_, rfl, Below.refl _ _, rfl⟩)
        · intro W hbW hw
          have f2 : vals 2 = Value.bool false := hw ⟨2, .guard⟩ (by simp) rfl
          clear hw
          refine step_guard rfl (yielded_of rfl f2) ?_
          go_simp
          (first | exact Below.refl _ _ | exact ⟨Below.refl _ _, rfl⟩ | exact ⟨_, rfl, Below.refl _ _, rfl⟩)
        · intro W hbW hw
          have f3 : vals 3 = Value.int .i64 k := hw ⟨3, .data⟩ (by simp) rfl
          have f2 : vals 2 = Value.bool false := hw ⟨2, .guard⟩ (by simp) rfl
          clear hw
          refine step_guard rfl (yielded_of rfl f2) ?_
          go_simp
          (first | exact Below.refl _ _ | exact ⟨Below.refl _ _, rfl⟩ | exact ⟨_, rfl, Below.refl _ _, rfl⟩)
        · intro W hbW hw
          have f2 : vals 2 = Value.bool false := hw ⟨2, .data⟩ (by simp) rfl
          have f4 : vals 4 = Value.bool false := hw ⟨4, .data⟩ (by simp) rfl
          clear hw
          refine step_plain rfl ?_
          go_simp
          (first | exact Below.refl _ _ | exact ⟨Below.refl _ _, rfl⟩ | exact ⟨_, rfl, Below.refl _ _, rfl⟩)
        · intro W hbW hw
          have f5 : vals 5 = Value.bool false := hw ⟨5, .data⟩ (by simp) rfl
          have f2 : vals 2 = Value.bool false := hw ⟨2, .chain⟩ (by simp) rfl
          clear hw
          refine step_plain rfl ?_
          go_simp
          (first | exact Below.refl _ _ | exact ⟨Below.refl _ _, rfl⟩ | exact ⟨_, rfl, Below.refl _ _, rfl⟩)
        · intro W hbW hw
          have f6 : vals 6 = Value.bool false := hw ⟨6, .guard⟩ (by simp) rfl
          clear hw
          refine step_guard rfl (yielded_of rfl f6) ?_
          go_simp
          (first | exact Below.refl _ _ | exact ⟨Below.refl _ _, rfl⟩ | exact ⟨_, rfl, Below.refl _ _, rfl⟩)
        · intro W hbW hw
          have f6 : vals 6 = Value.bool false := hw ⟨6, .guard⟩ (by simp) rfl
          clear hw
          refine step_guard rfl (yielded_of rfl f6) ?_
          go_simp
          (first | exact Below.refl _ _ | exact ⟨Below.refl _ _, rfl⟩ | exact ⟨_, rfl, Below.refl _ _, rfl⟩)
        · intro W hbW hw
          have f8 : vals 8 = Value.slice A xb.length c := hw ⟨8, .data⟩ (by simp) rfl
          have f6 : vals 6 = Value.bool false := hw ⟨6, .guard⟩ (by simp) rfl
          clear hw
          refine step_guard rfl (yielded_of rfl f6) ?_
          go_simp
          (first | exact Below.refl _ _ | exact ⟨Below.refl _ _, rfl⟩ | exact ⟨_, rfl, Below.refl _ _, rfl⟩)
        · intro W hbW hw
          have f7 : vals 7 = Value.int .i64 k := hw ⟨7, .data⟩ (by simp) rfl
          have f9 : vals 9 = Value.int .i64 xb.length := hw ⟨9, .data⟩ (by simp) rfl
          have f6 : vals 6 = Value.bool false := hw ⟨6, .guard⟩ (by simp) rfl
          clear hw
          refine step_guard rfl (yielded_of rfl f6) ?_
          go_simp
          (first | exact Below.refl _ _ | exact ⟨Below.refl _ _, rfl⟩ | exact ⟨_, rfl, Below.refl _ _, rfl⟩)
        · intro W hbW hw
          have f6 : vals 6 = Value.bool false := hw ⟨6, .data⟩ (by simp) rfl
          have f10 : vals 10 = Value.bool false := hw ⟨10, .data⟩ (by simp) rfl
          clear hw
          refine step_plain rfl ?_
          go_simp
          (first | exact Below.refl _ _ | exact ⟨Below.refl _ _, rfl⟩ | exact ⟨_, rfl, Below.refl _ _, rfl⟩)
        · intro W hbW hw
          have f11 : vals 11 = Value.bool false := hw ⟨11, .data⟩ (by simp) rfl
          have f6 : vals 6 = Value.bool false := hw ⟨6, .chain⟩ (by simp) rfl
          clear hw
          refine step_plain rfl ?_
          go_simp
          (first | exact Below.refl _ _ | exact ⟨Below.refl _ _, rfl⟩ | exact ⟨_, rfl, Below.refl _ _, rfl⟩)
        · intro W hbW hw
          have f12 : vals 12 = Value.bool false := hw ⟨12, .guard⟩ (by simp) rfl
          clear hw
          refine step_guard rfl (yielded_of rfl f12) ?_
          go_simp
          (first | exact Below.refl _ _ | exact ⟨Below.refl _ _, rfl⟩ | exact ⟨_, rfl, Below.refl _ _, rfl⟩)
        · intro W hbW hw
          have f13 : vals 13 = Value.int .i64 k := hw ⟨13, .data⟩ (by simp) rfl
          have f12 : vals 12 = Value.bool false := hw ⟨12, .guard⟩ (by simp) rfl
          clear hw
          refine step_guard rfl (yielded_of rfl f12) ?_
          go_simp
          (first | exact Below.refl _ _ | exact ⟨Below.refl _ _, rfl⟩ | exact ⟨_, rfl, Below.refl _ _, rfl⟩)
        · intro W hbW hw
          have f14 : vals 14 = Value.bool true := hw ⟨14, .data⟩ (by simp) rfl
          have f12 : vals 12 = Value.bool false := hw ⟨12, .chain⟩ (by simp) rfl
          clear hw
          refine step_guard rfl (yielded_of rfl f12) ?_
          go_simp
          (first | exact Below.refl _ _ | exact ⟨Below.refl _ _, rfl⟩ | exact ⟨_, rfl, Below.refl _ _, rfl⟩)
        · intro W hbW hw
          have f15 : vals 15 = Value.bool true := hw ⟨15, .guard⟩ (by simp) rfl
          clear hw
          refine step_guard rfl (yielded_of rfl f15) ?_
          go_simp
          (first | exact Below.refl _ _ | exact ⟨Below.refl _ _, rfl⟩ | exact ⟨_, rfl, Below.refl _ _, rfl⟩)
        · intro W hbW hw
          have f16 : vals 16 = Value.int .u64 X := hw ⟨16, .data⟩ (by simp) rfl
          have f15 : vals 15 = Value.bool true := hw ⟨15, .chain⟩ (by simp) rfl
          clear hw
          refine step_guard rfl (yielded_of rfl f15) ?_
          go_simp
          refine (long_any X hx0 hx2 _).mono ?_
          rintro e W1 ⟨v, rfl, hown, hbl⟩
          exact ⟨hbl, IR.of_own hown⟩
        · intro W hbW hw
          have f15 : vals 15 = Value.bool true := hw ⟨15, .guard⟩ (by simp) rfl
          clear hw
          refine step_guard rfl (yielded_of rfl f15) ?_
          go_simp
          (first | exact Below.refl _ _ | exact ⟨Below.refl _ _, rfl⟩ | exact ⟨_, rfl, Below.refl _ _, rfl⟩)
        · intro W hbW hw
          have f15 : vals 15 = Value.bool true := hw ⟨15, .guard⟩ (by simp) rfl
          clear hw
          refine step_guard rfl (yielded_of rfl f15) ?_
          go_simp
          (first | exact Below.refl _ _ | exact ⟨Below.refl _ _, rfl⟩ | exact ⟨_, rfl, Below.refl _ _, rfl⟩)
        · intro W hbW hw
          have f18 : vals 18 = Value.slice A xb.length c := hw ⟨18, .data⟩ (by simp) rfl
          have f19 : vals 19 = Value.int .i64 k := hw ⟨19, .data⟩ (by simp) rfl
          have f15 : vals 15 = Value.bool true := hw ⟨15, .guard⟩ (by simp) rfl
          clear hw
          refine step_guard rfl (yielded_of rfl f15) ?_
          go_simp
          (first | exact Below.refl _ _ | exact ⟨Below.refl _ _, rfl⟩ | exact ⟨_, rfl, Below.refl _ _, rfl⟩)
        · intro W hbW hw
          have f17 : IR W W.heap.size .u8 (vals 17) (longS X) := hw ⟨17, .data⟩ (by simp) rfl
          have f20 : vals 20 = Value.slice A k c := hw ⟨20, .data⟩ (by simp) rfl
          have f15 : vals 15 = Value.bool true := hw ⟨15, .guard⟩ (by simp) rfl
          clear hw
          refine step_guard rfl (yielded_of rfl f15) ?_
          go_simp
          refine (same_any _ _ (longS X) (xb.take k) _ _ _ f17 (ht.below hbW) hXb (fun x hx => bb x (List.mem_of_mem_take hx))).mono ?_
          rintro e W1 ⟨rfl, rfl⟩
          exact ⟨by rw [decide_eq_true HLG.out], Below.refl _ _⟩
        · intro W hbW hw
          have f21 : vals 21 = Value.bool true := hw ⟨21, .data⟩ (by simp) rfl
          have f15 : vals 15 = Value.bool true := hw ⟨15, .guard⟩ (by simp) rfl
          clear hw
          refine step_guard rfl (yielded_of rfl f15) ?_
          go_simp
          (first | exact Below.refl _ _ | exact ⟨Below.refl _ _, rfl⟩ | exact ⟨_, rfl, Below.refl _ _, rfl⟩)
        · intro W hbW hw
          have f15 : vals 15 = Value.bool true := hw ⟨15, .data⟩ (by simp) rfl
          have f22 : vals 22 = Value.bool false := hw ⟨22, .data⟩ (by simp) rfl
          have f12 : vals 12 = Value.bool false := hw ⟨12, .guard⟩ (by simp) rfl
          clear hw
          refine step_guard rfl (yielded_of rfl f12) ?_
          go_simp
          (first | exact Below.refl _ _ | exact ⟨Below.refl _ _, rfl⟩ | exact ⟨_, rfl, Below.refl _ _, rfl⟩)
        · intro W hbW hw
          have f12 : vals 12 = Value.bool false := hw ⟨12, .data⟩ (by simp) rfl
          have f23 : vals 23 = Value.bool false := hw ⟨23, .data⟩ (by simp) rfl
          clear hw
          refine step_plain rfl ?_
          go_simp
          (first | exact Below.refl _ _ | exact ⟨Below.refl _ _, rfl⟩ | exact ⟨_, rfl, Below.refl _ _, rfl⟩)
      · simp only [TL, Act.put, List.setIfInBounds_toArray, List.set_cons_succ, List.set_cons_zero]
        have f0 : vals 0 = Value.int .i64 k := hall 0 (by decide)
        have f1 : vals 1 = Value.bool false := hall 1 (by decide)
        have f2 : vals 2 = Value.bool false := hall 2 (by decide)
        have f3 : vals 3 = Value.int .i64 k := hall 3 (by decide)
        have f4 : vals 4 = Value.bool false := hall 4 (by decide)
        have f5 : vals 5 = Value.bool false := hall 5 (by decide)
        have f6 : vals 6 = Value.bool false := hall 6 (by decide)
        have f7 : vals 7 = Value.int .i64 k := hall 7 (by decide)
        have f8 : vals 8 = Value.slice A xb.length c := hall 8 (by decide)
        have f9 : vals 9 = Value.int .i64 xb.length := hall 9 (by decide)
        have f10 : vals 10 = Value.bool false := hall 10 (by decide)
        have f11 : vals 11 = Value.bool false := hall 11 (by decide)
        have f12 : vals 12 = Value.bool false := hall 12 (by decide)
        have f13 : vals 13 = Value.int .i64 k := hall 13 (by decide)
        have f14 : vals 14 = Value.bool true := hall 14 (by decide)
        have f15 : vals 15 = Value.bool true := hall 15 (by decide)
        have f16 : vals 16 = Value.int .u64 X := hall 16 (by decide)
        have f17 : IR W W.heap.size .u8 (vals 17) (longS X) := hall 17 (by decide)
        have f18 : vals 18 = Value.slice A xb.length c := hall 18 (by decide)
        have f19 : vals 19 = Value.int .i64 k := hall 19 (by decide)
        have f20 : vals 20 = Value.slice A k c := hall 20 (by decide)
        have f21 : vals 21 = Value.bool true := hall 21 (by decide)
        have f22 : vals 22 = Value.bool false := hall 22 (by decide)
        have f23 : vals 23 = Value.bool false := hall 23 (by decide)
        have f24 : vals 24 = Value.bool false := hall 24 (by decide)
        clear hall
        simp only [f0, f1, f2, f3, f4, f5, f6, f7, f8, f9, f10, f11, f12, f13, f14, f15, f16, f18, f19, f20, f21, f22, f23, f24]
        clear f0 f1 f2 f3 f4 f5 f6 f7 f8 f9 f10 f11 f12 f13 f14 f15 f16 f18 f19 f20 f21 f22 f23 f24
        have hmW := (hmv.below (hbW.mono hb1.size))
        obtain ⟨hlb, hl1', hl10⟩ := longS_ok n hn.1 hn.2
        obtain ⟨M, hM⟩ : ∃ M, (longS n).length = M + 1 := ⟨(longS n).length - 1, by omega⟩
        have HM := Lib.hid hM
        rw [hM] at hl10
        have HLN := fun W => long_any n hn.1 hn.2 W
        rw [hM] at HLN
        have HL := Lib.hid HLN
        clear hM hl1' HLN hlb
        go_wp2_with fail
        (with_reducible refine (HL.out _).mono ?_)
        rintro e w3 ⟨p, rfl, hown3, hb3⟩
        obtain ⟨Ap, cp, hAp, _, _⟩ := (IR.of_own hown3).form
        rw [HM.out] at hAp
        subst hAp
        have hm3 := (hmW.below (hb3.mono (Nat.le_trans hb1.size hbW.size)))
        go_wp2_with (at_builtin; refine wpList_append_all _ rfl _ _ _ rfl W.heap.size 5 i0 .u8 1 Try.underlying23 hi0 hz0 hz1 hz2 _ (M + 1) (longS n) rfl hown3 w.heap.size _ xmore rfl hm3 (by simp only [maxLen]; omega) (by omega) hb3.size ?_; intro v4 w4 hown4 hb4)
        have h4 := IR.of_own hown4
        have hby : Bytes (longS n ++ xmore) := (longS_ok n hn.1 hn.2).1.app bmore
        obtain ⟨A4, c4, hA4, hc4, hm4⟩ := h4.form
        rw [List.length_append, HM.out] at hA4 hc4
        subst hA4
        unfold maxLen at hm4
        have h5 := h4.take (m := M) (by omega)
        have e5 : (longS n ++ xmore).take M = (longS n).dropLast := by
          rw [List.take_append_of_le_length (by rw [HM.out]; omega), List.dropLast_eq_take, HM.out]; rfl
        rw [e5] at h5
        have hsl := short_long n hn.1 hn.2 xmore
        rw [HM.out] at hsl
        have hse : shortS (longS n).dropLast = (0, 0) := short_end _ (longS_dropLast n hn.1 hn.2)
        have hby5 : Bytes (longS n).dropLast := fun x hx => (longS_ok n hn.1 hn.2).1 x (List.dropLast_subset _ hx)
        have HSL := Lib.hid hsl
        have HSE := Lib.hid hse
        have H4 := Lib.hid h4
        have H5 := Lib.hid h5
        have hbz : Below w.heap.size w w4 := (hb1.trans (hbW.mono hb1.size)).trans ((hb3.mono (Nat.le_trans hb1.size hbW.size)).trans (hb4.mono (Nat.le_trans hb1.size hbW.size)))
        clear hsl hse h4 h5 hown4 hown3 e5
        go_wp2_with fail
        (with_reducible refine (short_any _ (longS n ++ xmore) _ _ H4.out hby).mono ?_)
        rintro e w' ⟨rfl, rfl⟩
        rw [HSL.out]
        have t1 : (0 : Int) ≤ (M : Int) := by omega
        go_wp2_with fail
        (with_reducible refine (short_any _ (longS n).dropLast _ _ H5.out hby5).mono ?_)
        rintro e w' ⟨rfl, rfl⟩
        rw [HSE.out]
        go_wp2
        go_ret
        exact ⟨by simp, hbz⟩
  · by_cases hl1 : xb.length ≤ 1000
    · have hd1 : decide (1000 < (xb.length : Int)) = false := by simp; omega
      have hd2 : decide (1000 < (xmore.length : Int)) = true := by simp; omega
      go_enter Try.func9, Try.ntmps9
      go_wp2_with fail
      (with_reducible refine (known_any _).mono ?_)
      rintro e w1 ⟨rfl, hb1⟩
      go_wp2
      go_ret
      exact ⟨rfl, hb1⟩
    · have hd1 : decide (1000 < (xb.length : Int)) = true := by simp; omega
      go_enter Try.func9, Try.ntmps9
      go_wp2_with fail
      (with_reducible refine (known_any _).mono ?_)
      rintro e w1 ⟨rfl, hb1⟩
      go_wp2
      go_ret
      exact ⟨rfl, hb1⟩


set_option maxRecDepth 100000 in
theorem lifted (os : Os) (started : os.Started) (H : Type) (enc : TypeId × Value → H) :
    ReturnsInHanded {} Try.checked os 9 .any (Rows.numOnlySpec.pre6 enc Try.prog Try.f9 Rows.numOnlyRow.domain false) (Rows.numOnlySpec.post enc Try.prog Try.f9 false true false false) := by
  refine returnsInHanded_of_change (C := Try.checked) own started (by kernel_rfl) Try.func9
    (ChangeSpec.witness6 (enc := enc) (C := Try.checked) false ⟨#[], #[.slice none 0 0, .int .u64 0, .slice none 0 0], []⟩ 8 (by kernel_rfl) (by kernel_rfl) (by kernel_rfl) (by kernel_rfl)) ?_
  intro W base args ds gs before hval0 hW hcnd _
  have hval : ∀ (j : Nat) t v, Try.f9.params[j]? = some t → args[j]? = some v → Value.okWide Try.prog W .any base t v := hval0
  have hW' := hW
  obtain ⟨p, q, hA0, hV, rfl, hfz, hnd⟩ := hW
  have hA1 : DataW.TrodAll enc Try.prog W 0 (fun _ => true) true Try.f9.params.toList args.toList ds p := hA0
  have hA := hA1
  rw [Try.params9] at hA hval
  obtain ⟨v0, vs0, d0, ds0, p0, q0, hargs, rfl, rfl, h0, r0⟩ := trodAll_cons hA
  obtain ⟨v1, vs1, d1, ds1, p1, q1, rfl, rfl, rfl, h1, r1⟩ := trodAll_cons r0
  obtain ⟨v2, vs2, d2, ds2, p2, q2, rfl, rfl, rfl, h2, r2⟩ := trodAll_cons r1
  obtain ⟨rfl, rfl, rfl⟩ := trodAll_nil r2
  obtain rfl : args = #[v0, v1, v2] := by cases args; simp_all
  obtain ⟨rfl, rfl⟩ := trodVars_none hV
  obtain ⟨xb, i0, wf0⟩ := open_IR Try.underlying23 Try.underlying5 (by kernel_rfl) (hval 0 23 v0 rfl rfl) h0
  obtain ⟨n, rfl, rfl, rfl, wf1⟩ := open_int Try.underlying22 (hval 1 22 v1 rfl rfl) h1
  obtain ⟨xmore, i2, wf2⟩ := open_IR Try.underlying23 Try.underlying5 (by kernel_rfl) (hval 2 23 v2 rfl rfl) h2
  clear hA0 hval0
  refine (walk W v0 xb i0 (fun n hn => bounds_u8 (wf0 n hn)) n (bounds_u64 wf1) v2 xmore i2 (fun n hn => bounds_u8 (wf2 n hn))).mono fun e W' ⟨he, bel⟩ => ?_
  subst he
  exact ⟨_, rfl, _, _, _, [], _, [], hW', trodAll_mk1 (shut_bool Try.underlying4 _), args_again laidOut bel (by kernel_rfl) hA1, rfl, bel.frame _, fun h => by cases h⟩

theorem over : Rows.numOnlyRow.holds Try.pinned (OpenSpec.ofChange Rows.numOnlySpec) :=
  OpenClaim.holds_of_wide 9 Try.f9 rfl rfl rfl rfl rfl rfl rfl ⟨rfl, rfl, rfl, rfl, rfl⟩ rfl rfl rfl rfl rfl (by kernel_rfl) Try.func9 (by kernel_rfl)
    (of_decide_eq_true (by kernel_rfl)) (by unfold Func.isWrapper; first | (rw [if_pos (by decide +kernel)]; kernel_rfl) | (rw [if_neg (by decide +kernel)]; exact ⟨rfl, rfl⟩))
    (fun os started H enc _ => lifted os started H enc)

theorem proved : Rows.NumOnlySaid := over
end Go.Proofs.Ytfldhkmdagaliaa.LNumOnly
