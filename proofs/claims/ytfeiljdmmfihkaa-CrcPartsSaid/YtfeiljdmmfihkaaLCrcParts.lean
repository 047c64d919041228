/- The law manciplelaw02.CrcParts returns true whatever it is called with, and what it was called with reads as it did. No condition. -/
import Derived.Test.YtfeiljdmmfihkaaLaw
import Derived.Test.YtfeiljdmmfihkaaCrc
namespace Go.Proofs.Ytfeiljdmmfihkaa.LCrcParts
open Go.ChangeShapes Go.WideShapes Go.ChangeAt Go.RowKit Go.IntWalk Go.Proofs.Mem Law
set_option linter.unusedVariables false
open Crc Go.Proofs.CrcMath
theorem u8_info : (Try.prog.info? 5).map (fun i => (i.zero, i.size, i.bytes)) = some (some (.int .u8 0), 1, 1) := by kernel_rfl
/-- two lists -/
theorem sum_two (u v : Value) (xs ys : List Int) (w : World) (hu : IR w w.heap.size .u8 u xs) (hx : Bytes xs) (hv : IR w w.heap.size .u8 v ys) (hy : Bytes ys) :
    Calls Try.prog 8 #[.slice (some ⟨w.heap.size, 0, none⟩) 2 2] (w.alloc (.cells #[u, v] 22)) fun e w' => e = .returned (.int .u32 (tn (sumF 0#32 (xs ++ ys)))) ∧ w.alloc (.cells #[u, v] 22) = w' := by
  have h2 : SR (w.alloc (.cells #[u, v] 22)) (w.heap.size + 1) (.slice (some ⟨w.heap.size, 0, none⟩) 2 2) [(u, xs), (v, ys)] :=
    SR.lit w [(u, xs), (v, ys)] 22 _ w.heap.size rfl (Nat.le_refl _) (by simp) (by
      intro p hp; simp at hp
      rcases hp with rfl | rfl
      · exact ⟨hu, hx⟩
      · exact ⟨hv, hy⟩)
  have := sum_any _ _ _ _ h2
  rw [show flat [(u, xs), (v, ys)] = xs ++ ys by simp [flat]] at this
  exact this
set_option maxHeartbeats 2000000 in
theorem walk (w : World) (a : Value) (xa : List Int) (ha : IR w w.heap.size .u8 a xa) (ba : Bytes xa) (b : Value) (xb : List Int) (hb : IR w w.heap.size .u8 b xb) (bb : Bytes xb) (c : Int) (hc : 0 ≤ c ∧ c ≤ 255) :
    Calls Try.prog 4 #[a, b, .int .u8 c] w fun e w' => e = .returned (.bool true) ∧ Below w.heap.size w w' := by
  obtain ⟨A, k, rfl, hlc, hcm⟩ := ha.form
  unfold maxLen at hcm
  obtain ⟨A2, k2, rfl, hlc2, hcm2⟩ := hb.form
  unfold maxLen at hcm2
  by_cases hn : xa.length ≤ 2000 ∧ xb.length ≤ 2000
  · obtain ⟨hn1, hn2⟩ := hn
    have hd1 : decide (2000 < (xa.length : Int)) = false := by simp; omega
    have hd2 : decide (2000 < (xb.length : Int)) = false := by simp; omega
    obtain ⟨i0, hi0, hz0, hz1, hz2⟩ := info_parts u8_info
    go_enter Try.func4, Try.ntmps4
    go_wp2_with (first
      | (at_builtin; refine wpList_append_all _ rfl _ _ _ rfl w.heap.size 5 i0 .u8 1 Try.underlying22 hi0 hz0 hz1 hz2 (.slice none 0 0) 0 [] rfl (World.ownsRow_nil _ _ _ _) w.heap.size _ xa rfl ha (by simp only [maxLen]; omega) (by omega) (Nat.le_refl _) ?_; intro v1 w1 hown1 hb1)
      | (at_builtin; refine wpList_append_all _ rfl _ _ _ rfl w.heap.size 5 i0 .u8 1 Try.underlying22 hi0 hz0 hz1 hz2 v1 (0 + xa.length) ([] ++ xa) rfl hown1 w.heap.size _ xb rfl (hb.below hb1) (by simp only [maxLen]; omega) (by omega) hb1.size ?_; intro v2 w2 hown2 hb2))
    have hbel2 : Below w.heap.size w w2 := hb1.trans hb2
    have hall := IR.of_own hown2
    rw [List.nil_append] at hall
    obtain ⟨Av, kv, hv2, _, _⟩ := hall.form
    rw [List.length_append] at hv2
    subst hv2
    have ha2 := (ha.below hbel2).more hbel2.size
    have hb2' := (hb.below hbel2).more hbel2.size
    clear hown1 hown2
    (with_reducible refine (sum_two _ _ xa xb w2 ha2 ba hb2' bb).mono ?_)
    rintro e w' ⟨rfl, rfl⟩
    have hbel3 : Below w.heap.size w (w2.alloc (.cells #[.slice A xa.length k, .slice A2 xb.length k2] 22)) := hbel2.alloc hbel2.size _
    go_wp2_with fail
    (with_reducible refine (known_any _).mono ?_)
    rintro e w4 ⟨rfl, hb4⟩
    have hs4 : w2.heap.size ≤ w4.heap.size := by have := hb4.size; simp at this; omega
    have hk4 : Below w2.heap.size w2 w4 := ((Below.refl _ _).alloc (Nat.le_refl _) _).trans (hb4.mono (by simp))
    have hall4 := (hall.below hk4).more hs4
    have ha4 := (ha2.below hk4).more hs4
    have hb4' := (hb2'.below hk4).more hs4
    have hBall : Bytes (xa ++ xb) := ba.app bb
    go_wp2_with fail
    (with_reducible refine (sum_one _ (xa ++ xb) w4 hall4 hBall).mono ?_)
    rintro e w' ⟨rfl, rfl⟩
    have hq : IR ((w4.alloc (.cells #[.slice Av (xa.length + xb.length) kv] 22)).alloc (.cells #[.int .u8 c] 5)) (w4.heap.size + 1 + 1) .u8 (.slice (some ⟨w4.heap.size + 1, 0, none⟩) 1 1) [c] :=
      IR.lit' (w4.alloc (.cells #[.slice Av (xa.length + xb.length) kv] 22)) .u8 [c] 5 (w4.heap.size + 1) (by simp) (by simp)
    have ha5 := ((ha4.alloc (Nat.le_refl _) (.cells #[.slice Av (xa.length + xb.length) kv] 22)).alloc (by simp) (.cells #[.int .u8 c] 5)).more (B' := w4.heap.size + 1 + 1) (by omega)
    have hb5 := ((hb4'.alloc (Nat.le_refl _) (.cells #[.slice Av (xa.length + xb.length) kv] 22)).alloc (by simp) (.cells #[.int .u8 c] 5)).more (B' := w4.heap.size + 1 + 1) (by omega)
    have hnil : IR ((w4.alloc (.cells #[.slice Av (xa.length + xb.length) kv] 22)).alloc (.cells #[.int .u8 c] 5)) (w4.heap.size + 1 + 1) .u8 (.slice none 0 0) [] := IR.nil _ _ _
    have h4 : SR (((w4.alloc (.cells #[.slice Av (xa.length + xb.length) kv] 22)).alloc (.cells #[.int .u8 c] 5)).alloc (.cells #[.slice A xa.length k, .slice none 0 0, .slice A2 xb.length k2, .slice (some ⟨w4.heap.size + 1, 0, none⟩) 1 1] 22))
        (w4.heap.size + 1 + 1 + 1) (.slice (some ⟨w4.heap.size + 1 + 1, 0, none⟩) 4 4) [(.slice A xa.length k, xa), (.slice none 0 0, []), (.slice A2 xb.length k2, xb), (.slice (some ⟨w4.heap.size + 1, 0, none⟩) 1 1, [c])] :=
      SR.lit ((w4.alloc (.cells #[.slice Av (xa.length + xb.length) kv] 22)).alloc (.cells #[.int .u8 c] 5)) [(.slice A xa.length k, xa), (.slice none 0 0, []), (.slice A2 xb.length k2, xb), (.slice (some ⟨w4.heap.size + 1, 0, none⟩) 1 1, [c])] 22 (w4.heap.size + 1 + 1) (w4.heap.size + 1 + 1) (by simp) (Nat.le_refl _) (by simp) (by
        intro p hp; simp at hp
        rcases hp with rfl | rfl | rfl | rfl
        · exact ⟨ha5, ba⟩
        · exact ⟨hnil, Bytes.nil⟩
        · exact ⟨hb5, bb⟩
        · exact ⟨hq, Bytes.one hc⟩)
    have hfl : flat [(.slice A xa.length k, xa), (.slice none 0 0, []), (.slice A2 xb.length k2, xb), (.slice (some ⟨w4.heap.size + 1, 0, none⟩) 1 1, [c])] = (xa ++ xb) ++ [c] := by simp [flat]
    have hend : sumF 0#32 ((xa ++ xb) ++ [c]) = nextB (sumF 0#32 (xa ++ xb)) (BitVec.ofInt 32 c) := by rw [sumF_app]; rfl
    go_wp2_with fail
    (with_reducible refine (sum_any _ _ _ _ h4).mono ?_)
    rintro e w' ⟨rfl, rfl⟩
    rw [hfl, hend]
    go_wp2_with fail
    (with_reducible refine (next_byte_any _ c hc _).mono ?_)
    rintro e w' ⟨rfl, rfl⟩
    go_wp2
    go_ret
    exact ⟨rfl, (((hbel2.trans (hk4.mono hbel2.size)).alloc (Nat.le_trans hbel2.size hs4) _).alloc (by simp; have := hbel2.size; omega) _).alloc (by simp; have := hbel2.size; omega) _⟩
  · by_cases hn1 : xa.length ≤ 2000
    · have hd1 : decide (2000 < (xa.length : Int)) = false := by simp; omega
      have hd2 : decide (2000 < (xb.length : Int)) = true := by simp; omega
      go_enter Try.func4, Try.ntmps4
      go_wp2
      go_ret
      exact ⟨rfl, Below.refl _ _⟩
    · have hd1 : decide (2000 < (xa.length : Int)) = true := by simp; omega
      go_enter Try.func4, Try.ntmps4
      go_wp2
      go_ret
      exact ⟨rfl, Below.refl _ _⟩


set_option maxRecDepth 100000 in
theorem lifted (os : Os) (started : os.Started) (H : Type) (enc : TypeId × Value → H) :
    ReturnsInHanded {} Try.checked os 4 .any (Rows.crcPartsSpec.pre6 enc Try.prog Try.f4 Rows.crcPartsRow.domain false) (Rows.crcPartsSpec.post enc Try.prog Try.f4 false true false false) := by
  refine returnsInHanded_of_change (C := Try.checked) own started (by kernel_rfl) Try.func4
    (ChangeSpec.witness6 (enc := enc) (C := Try.checked) false ⟨#[], #[.slice none 0 0, .slice none 0 0, .int .u8 0], []⟩ 8 (by kernel_rfl) (by kernel_rfl) (by kernel_rfl) (by kernel_rfl)) ?_
  intro W base args ds gs before hval0 hW hcnd _
  have hval : ∀ (j : Nat) t v, Try.f4.params[j]? = some t → args[j]? = some v → Value.okWide Try.prog W .any base t v := hval0
  have hW' := hW
  obtain ⟨p, q, hA0, hV, rfl, hfz, hnd⟩ := hW
  have hA1 : DataW.TrodAll enc Try.prog W 0 (fun _ => true) true Try.f4.params.toList args.toList ds p := hA0
  have hA := hA1
  rw [Try.params4] at hA hval
  obtain ⟨v0, vs0, d0, ds0, p0, q0, hargs, rfl, rfl, h0, r0⟩ := trodAll_cons hA
  obtain ⟨v1, vs1, d1, ds1, p1, q1, rfl, rfl, rfl, h1, r1⟩ := trodAll_cons r0
  obtain ⟨v2, vs2, d2, ds2, p2, q2, rfl, rfl, rfl, h2, r2⟩ := trodAll_cons r1
  obtain ⟨rfl, rfl, rfl⟩ := trodAll_nil r2
  obtain rfl : args = #[v0, v1, v2] := by cases args; simp_all
  obtain ⟨rfl, rfl⟩ := trodVars_none hV
  obtain ⟨xa, i0, wf0⟩ := open_IR Try.underlying22 Try.underlying5 (by kernel_rfl) (hval 0 22 v0 rfl rfl) h0
  obtain ⟨xb, i1, wf1⟩ := open_IR Try.underlying22 Try.underlying5 (by kernel_rfl) (hval 1 22 v1 rfl rfl) h1
  obtain ⟨c, rfl, rfl, rfl, wf2⟩ := open_int Try.underlying5 (hval 2 5 v2 rfl rfl) h2
  clear hA0 hval0
  refine (walk W v0 xa i0 (fun n hn => bounds_u8 (wf0 n hn)) v1 xb i1 (fun n hn => bounds_u8 (wf1 n hn)) c (bounds_u8 wf2)).mono fun e W' ⟨he, bel⟩ => ?_
  subst he
  exact ⟨_, rfl, _, _, _, [], _, [], hW', trodAll_mk1 (shut_bool Try.underlying4 _), args_again laidOut bel (by kernel_rfl) hA1, rfl, bel.frame _, fun h => by cases h⟩

theorem over : Rows.crcPartsRow.holds Try.pinned (OpenSpec.ofChange Rows.crcPartsSpec) :=
  OpenClaim.holds_of_wide 4 Try.f4 rfl rfl rfl rfl rfl rfl rfl ⟨rfl, rfl, rfl, rfl, rfl⟩ rfl rfl rfl rfl rfl (by kernel_rfl) Try.func4 (by kernel_rfl)
    (of_decide_eq_true (by kernel_rfl)) (by unfold Func.isWrapper; first | (rw [if_pos (by decide +kernel)]; kernel_rfl) | (rw [if_neg (by decide +kernel)]; exact ⟨rfl, rfl⟩))
    (fun os started H enc _ => lifted os started H enc)

theorem proved : Rows.CrcPartsSaid := over
end Go.Proofs.Ytfeiljdmmfihkaa.LCrcParts
