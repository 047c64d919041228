/- The law manciplelaw14.KnotFinds returns true whatever it is called with, and what it was called with reads as it did. No condition. -/
import Derived.Test.YteldfoplhcnljaaLaw
import Derived.Test.YteldfoplhcnljaaKf4
namespace Go.Proofs.Yteldfoplhcnljaa.LKnotFinds
open Go.ChangeShapes Go.WideShapes Go.ChangeAt Go.RowKit Go.IntWalk Go.Proofs.Mem Law
set_option linter.unusedVariables false
open Go.Proofs.Yteldfoplhcnljaa.Knot Go.Proofs.Yteldfoplhcnljaa.Srt Go.Proofs.Ring
set_option maxRecDepth 100000 in
set_option maxHeartbeats 16000000 in
theorem walk (w : World) (l : Value) (xl : List Knot.Ed) (hl : SS Knot.cEd 2 w w.heap.size l xl) (bl : ∀ o ∈ xl, Knot.Ed.Ok o) (fr : Int) (hfr : 0 ≤ fr ∧ fr ≤ 4294967295) (ring : Value) (xring : List Int) (hring : IR w w.heap.size .u32 ring xring) (bring : ∀ n ∈ xring, 0 ≤ n ∧ n ≤ 4294967295) :
    Calls Try.prog 3 #[l, .int .u32 fr, ring] w fun e w' => e = .returned (.bool true) ∧ Below w.heap.size w w' := by
  obtain ⟨A, c, rfl, hlc, hcm⟩ := hl.form
  obtain ⟨A', c', rfl, hlc', hcm'⟩ := hring.form
  have HL := Lib.hid hl
  have BL := Lib.hid bl
  have HRG := Lib.hid hring
  have BRG := Lib.hid (show ∀ x ∈ xring, U32 x from bring)
  have KN := Lib.hid (fun W => known_any W)
  have HFR := Lib.hid hfr
  obtain ⟨N, hN⟩ : ∃ N, N = xl.length := ⟨_, rfl⟩
  obtain ⟨M, hM⟩ : ∃ M, M = xring.length := ⟨_, rfl⟩
  rw [← hN] at HL ⊢
  rw [← hM] at HRG ⊢
  have HNM := Lib.hid (⟨hN, hM⟩ : N = xl.length ∧ M = xring.length)
  have hcm2 : N ≤ maxLen := by omega
  have hcm3 : M ≤ maxLen := by omega
  unfold maxLen at hcm2 hcm3
  clear hl bl hring bring hlc hlc' hcm hcm' hN hM
  by_cases hlen : 40 < N
  · have d1 : decide (40 < (N : Int)) = true := decide_eq_true (by omega)
    have d1' : decide (40 < N) = true := decide_eq_true hlen
    go_enter Try.func3, Try.ntmps3
    go_wp2_with fail
    (with_reducible refine (KN.out _).mono ?_)
    rintro e w1 ⟨rfl, hb1⟩
    go_wp2
    go_ret
    exact ⟨rfl, hb1⟩
  by_cases hlen2 : 100 < M
  · have d1 : decide (40 < (N : Int)) = false := decide_eq_false (by omega)
    have d1' : decide (40 < N) = false := decide_eq_false hlen
    have d2 : decide (100 < (M : Int)) = true := decide_eq_true (by omega)
    have d2' : decide (100 < M) = true := decide_eq_true hlen2
    go_enter Try.func3, Try.ntmps3
    go_wp2_with fail
    (with_reducible refine (KN.out _).mono ?_)
    rintro e w1 ⟨rfl, hb1⟩
    go_wp2
    go_ret
    exact ⟨rfl, hb1⟩
  · have d1 : decide (40 < (N : Int)) = false := decide_eq_false (by omega)
    have d1' : decide (40 < N) = false := decide_eq_false hlen
    have d2 : decide (100 < (M : Int)) = false := decide_eq_false (by omega)
    have d2' : decide (100 < M) = false := decide_eq_false hlen2
    obtain ⟨j0, hj0, hj1, hj2, hj3⟩ := info_parts ed_info
    have HLE := Lib.hid (show N ≤ 40 ∧ M ≤ 100 by omega)
    clear hlen hlen2
    go_enter Try.func3, Try.ntmps3
    go_wp2_with fail
    (with_reducible refine (KN.out _).mono ?_)
    rintro e w2 ⟨rfl, hb2⟩
    have HB2 := Lib.hid hb2
    clear hb2 KN d1 d1' d2 d2'
    have HL2 := Lib.hid ((HL.out.below HB2.out).more HB2.out.size)
    go_wp2_with (at_builtin; refine wpList_push_eds _ rfl _ _ _ rfl w2.heap.size 35 j0 _ 8 Try.underlying22 hj0 hj1 hj2 hj3 rfl (.slice none 0 0) [] rfl ⟨rfl, .inl ⟨rfl, rfl⟩⟩ _ w2.heap.size xl rfl HL2.out (by have := HLE.out; have := HNM.out; simp only [List.length_nil, maxLen]; omega) (by have := HLE.out; have := HNM.out; simp only [List.length_nil]; omega) (Nat.le_refl _) ?_; intro v5 w5 hown5 ht5; rw [List.nil_append] at hown5)
    have HB5 := Lib.hid (HB2.out.trans (ht5.all.mono HB2.out.size))
    have HA5 := Lib.hid (SS.of_own cEd_len hown5)
    clear hown5 ht5 HL2
    have C1 := Lib.hid (cycle_any w5 v5 xl fr HA5.out BL.out (by have := HLE.out; have := HNM.out; omega) HFR.out)
    have HL5 := Lib.hid ((HL.out.below HB5.out).more HB5.out.size)
    go_wp2_with fail
    (with_reducible refine (C1.out).mono ?_)
    rintro e w6 ⟨⟨u6, rfl, hu6⟩, hb6⟩
    have HU6 := Lib.hid hu6
    have HB6 := Lib.hid (HB5.out.trans (hb6.mono HB5.out.size))
    have HA6 := Lib.hid ((HA5.out.below hb6).more hb6.size)
    have HL6 := Lib.hid ((HL5.out.below hb6).more hb6.size)
    have C2 := Lib.hid (rcycle_any w6 _ xl fr HL6.out (by have := HLE.out; have := HNM.out; omega))
    clear hu6 hb6 C1 HA5 HL5
    go_wp2_with fail
    (with_reducible refine (C2.out).mono ?_)
    rintro e w7 ⟨⟨u7, rfl, hu7⟩, hb7⟩
    have HU7 := Lib.hid hu7
    have HU6' := Lib.hid ((HU6.out.below hb7).more hb7.size)
    have HB7 := Lib.hid (HB6.out.trans (hb7.mono HB6.out.size))
    have HA7 := Lib.hid ((HA6.out.below hb7).more hb7.size)
    have HL7 := Lib.hid ((HL6.out.below hb7).more hb7.size)
    have HR7 := Lib.hid ((HRG.out.below HB7.out).more HB7.out.size)
    clear hu7 hb7 C2 HA6 HL6 HU6
    have C3 := Lib.hid (victim_any w7 w7.heap.size _ xring HR7.out (by have := HLE.out; have := HNM.out; omega) (fun x hx => (BRG.out x hx).1))
    have C4 := Lib.hid (rvictim_any w7 w7.heap.size _ xring HR7.out (by have := HLE.out; have := HNM.out; omega) BRG.out)
    obtain ⟨V, hV⟩ : ∃ V, V = top xring := ⟨_, rfl⟩
    obtain ⟨q, hq⟩ : ∃ q, q = decide (0 < xring.length) := ⟨_, rfl⟩
    rw [← hV, ← hq] at C3 C4
    clear hV hq
    go_wp2_with fail
    (with_reducible refine (C3.out).mono ?_)
    rintro e w8 ⟨rfl, rfl⟩
    go_wp2_with fail
    (with_reducible refine (C4.out).mono ?_)
    rintro e w8 ⟨rfl, rfl⟩
    have CL := cyc_len xl fr
    have C5 := Lib.hid (words_any w7 w7.heap.size u6 u7 _ _ HU6'.out HU7.out (by have := HLE.out; have := HNM.out; omega) (by have := HLE.out; have := HNM.out; omega))
    rw [decide_eq_true rfl] at C5
    clear CL
    go_wp2_with fail
    (with_reducible refine (C5.out).mono ?_)
    rintro e w8 ⟨rfl, hb8⟩
    have HB8 := Lib.hid (HB7.out.trans (hb8.mono HB7.out.size))
    have C6 := Lib.hid (eds_any w8 w8.heap.size v5 _ xl ((HA7.out.below hb8).more hb8.size) ((HL7.out.below hb8).more hb8.size) (by have := HLE.out; have := HNM.out; omega))
    clear hb8
    have dV : decide (V = V) = true := by simp
    have dq : (q == q) = true := by simp
    have dq2 : decide (q = q) = true := by simp
    go_wp2_with fail
    (with_reducible refine (C6.out).mono ?_)
    rintro e w9 ⟨rfl, hb9⟩
    go_wp2
    go_ret
    exact ⟨rfl, HB8.out.trans (hb9.mono HB8.out.size)⟩


set_option maxRecDepth 100000 in
theorem lifted (os : Os) (started : os.Started) (H : Type) (enc : TypeId × Value → H) :
    ReturnsInHanded {} Try.checked os 3 .any (Rows.knotFindsSpec.pre6 enc Try.prog Try.f3 Rows.knotFindsRow.domain false) (Rows.knotFindsSpec.post enc Try.prog Try.f3 false true false false) := by
  refine returnsInHanded_of_change (C := Try.checked) own started (by kernel_rfl) Try.func3
    (ChangeSpec.witness6 (enc := enc) (C := Try.checked) false ⟨#[], #[.slice none 0 0, .int .u32 0, .slice none 0 0], []⟩ 8 (by kernel_rfl) (by kernel_rfl) (by kernel_rfl) (by kernel_rfl)) ?_
  intro W base args ds gs before hval0 hW hcnd _
  have hval : ∀ (j : Nat) t v, Try.f3.params[j]? = some t → args[j]? = some v → Value.okWide Try.prog W .any base t v := hval0
  have hW' := hW
  obtain ⟨p, q, hA0, hV, rfl, hfz, hnd⟩ := hW
  have hA1 : DataW.TrodAll enc Try.prog W 0 (fun _ => true) true Try.f3.params.toList args.toList ds p := hA0
  have hA := hA1
  rw [Try.params3] at hA hval
  obtain ⟨v0, vs0, d0, ds0, p0, q0, hargs, rfl, rfl, h0, r0⟩ := trodAll_cons hA
  obtain ⟨v1, vs1, d1, ds1, p1, q1, rfl, rfl, rfl, h1, r1⟩ := trodAll_cons r0
  obtain ⟨v2, vs2, d2, ds2, p2, q2, rfl, rfl, rfl, h2, r2⟩ := trodAll_cons r1
  obtain ⟨rfl, rfl, rfl⟩ := trodAll_nil r2
  obtain rfl : args = #[v0, v1, v2] := by cases args; simp_all
  obtain ⟨rfl, rfl⟩ := trodVars_none hV
  obtain ⟨xl, i0, wf0⟩ := Knot.open_eds (hval 0 22 v0 rfl rfl) h0
  obtain ⟨fr, rfl, rfl, rfl, wf1⟩ := open_int Try.underlying23 (hval 1 23 v1 rfl rfl) h1
  obtain ⟨xring, i2, wf2⟩ := open_IR Try.underlying24 Try.underlying23 (by kernel_rfl) (hval 2 24 v2 rfl rfl) h2
  clear hA0 hval0
  refine (walk W v0 xl i0 wf0 fr (bounds_u32 wf1) v2 xring i2 (fun n hn => bounds_u32 (wf2 n hn))).mono fun e W' ⟨he, bel⟩ => ?_
  subst he
  exact ⟨_, rfl, _, _, _, [], _, [], hW', trodAll_mk1 (shut_bool Try.underlying4 _), args_again laidOut bel (by kernel_rfl) hA1, rfl, bel.frame _, fun h => by cases h⟩

theorem over : Rows.knotFindsRow.holds Try.pinned (OpenSpec.ofChange Rows.knotFindsSpec) :=
  OpenClaim.holds_of_wide 3 Try.f3 rfl rfl rfl rfl rfl rfl rfl ⟨rfl, rfl, rfl, rfl, rfl⟩ rfl rfl rfl rfl rfl (by kernel_rfl) Try.func3 (by kernel_rfl)
    (of_decide_eq_true (by kernel_rfl)) (by unfold Func.isWrapper; first | (rw [if_pos (by decide +kernel)]; kernel_rfl) | (rw [if_neg (by decide +kernel)]; exact ⟨rfl, rfl⟩))
    (fun os started H enc _ => lifted os started H enc)

theorem proved : Rows.KnotFindsSaid := over
end Go.Proofs.Yteldfoplhcnljaa.LKnotFinds
