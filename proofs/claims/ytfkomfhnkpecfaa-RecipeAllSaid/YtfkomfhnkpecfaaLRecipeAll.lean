/- The law manciplelaw04.RecipeAll returns true whatever it is called with, and what it was called with reads as it did. No condition. -/
import Derived.Test.YtfkomfhnkpecfaaLaw
import Derived.Test.YtfkomfhnkpecfaaStkB
namespace Go.Proofs.Ytfkomfhnkpecfaa.LRecipeAll
open Go.ChangeShapes Go.WideShapes Go.ChangeAt Go.RowKit Go.IntWalk Go.Proofs.Mem Law
set_option linter.unusedVariables false
open Go.Proofs.Ytfkomfhnkpecfaa.Stk _root_.Go.Proofs.Stk
set_option maxRecDepth 100000 in
set_option maxHeartbeats 4000000 in
theorem walk (w : World) (id : Int) (hid : 0 ≤ id ∧ id ≤ 4294967295) (n : Int) (hn : 0 ≤ n ∧ n ≤ 18446744073709551615) (item : Int) (hitem : 0 ≤ item ∧ item ≤ 4294967295) :
    Calls Try.prog 3 #[.int .u32 id, .int .u64 n, .int .u32 item] w fun e w' => e = .returned (.bool true) ∧ Below w.heap.size w w' := by
  obtain ⟨s1, s2⟩ := lineS_small id
  have l1 := s1.1
  have l2 := s2.1
  obtain ⟨i1, i2⟩ := inN_len id n
  have HA := Lib.hid (fun W => of_any id W)
  have HB := Lib.hid (fun W => of_ref id W)
  have HC := Lib.hid (fun W => needs_any id n hn W)
  have HD := Lib.hid (fun W => needs_ref id n hn W)
  have HE := Lib.hid (fun W => change_any id n item hn W)
  have HF := Lib.hid (fun W => change_ref id n item hn W)
  have he := errN_bd id n
  have he0 : 0 ≤ errN id n := by omega
  have he1 : errN id n ≤ 40 := by omega
  generalize errN id n = err at *
  generalize inN id n = li at *
  generalize outN id n = lo at *
  generalize (lineS id).1 = l at *
  generalize (lineS id).2 = m at *
  generalize isS id = is at *
  generalize cnt item li = x at *
  generalize cnt item lo = y at *
  clear s1 s2 he
  go_enter Try.func3, Try.ntmps3
  go_wp2_with fail
  (with_reducible refine (HA.out _).mono ?_)
  rintro e w1 ⟨v, rfl, rd1, hb1⟩
  obtain ⟨A1, c1, A2, c2, rfl, k1, k2⟩ := rd1
  go_wp2_with fail
  (with_reducible refine (HB.out _).mono ?_)
  rintro e w2 ⟨v, rfl, rd2, hb2⟩
  obtain ⟨A3, c3, A4, c4, rfl, k3, k4⟩ := rd2
  go_wp2_with fail
  (with_reducible refine (HC.out _).mono ?_)
  rintro e w3 ⟨v, rfl, rd3, hb3⟩
  obtain ⟨A5, c5, A6, c6, rfl, k5, k6⟩ := rd3
  go_wp2_with fail
  (with_reducible refine (HD.out _).mono ?_)
  rintro e w4 ⟨v, rfl, rd4, hb4⟩
  obtain ⟨A7, c7, A8, c8, rfl, k7, k8⟩ := rd4
  go_wp2_with fail
  (with_reducible refine (HE.out _).mono ?_)
  rintro e w5 ⟨rfl, hb5⟩
  go_wp2_with fail
  (with_reducible refine (HF.out _).mono ?_)
  rintro e w6 ⟨rfl, hb6⟩
  go_wp2_with fail
  (with_reducible refine (known_any _).mono ?_)
  rintro e w7 ⟨rfl, hb7⟩
  have b23 := hb2
  have z2 := hb2.size
  have z3 := hb3.size
  have z4 := hb4.size
  have z5 := hb5.size
  have z6 := hb6.size
  have z7 := hb7.size
  simp at z2 z3 z4 z5 b23
  have b47 : Below (w4.heap.size + 1) (w4.alloc (.cells #[.slice A7 li.length c7, .slice A8 lo.length c8] 26)) w7 := by
    simp at hb5; exact (hb5.trans (hb6.mono (by omega))).trans (hb7.mono (by omega))
  have b37 : Below (w3.heap.size + 1) (w3.alloc (.cells #[.slice A5 li.length c5, .slice A6 lo.length c6] 26)) w7 := by
    simp at hb4; exact (hb4.trans ((Below.refl _ _).alloc (by omega) _)).trans (b47.mono (by omega))
  have b27 : Below (w2.heap.size + 1) (w2.alloc (.cells #[.slice A3 l.length c3, .slice A4 m.length c4] 26)) w7 := by
    simp at hb3; exact (hb3.trans ((Below.refl _ _).alloc (by omega) _)).trans (b37.mono (by omega))
  have b17 : Below (w1.heap.size + 1) (w1.alloc (.cells #[.slice A1 l.length c1, .slice A2 m.length c2] 26)) w7 := by
    exact (b23.trans ((Below.refl _ _).alloc (by omega) _)).trans (b27.mono (by omega))
  have a17 : Below w1.heap.size w1 w7 := ((Below.refl _ _).new _).trans (b17.mono (by omega))
  have a27 : Below w2.heap.size w2 w7 := ((Below.refl _ _).new _).trans (b27.mono (by omega))
  have a37 : Below w3.heap.size w3 w7 := ((Below.refl _ _).new _).trans (b37.mono (by omega))
  have a47 : Below w4.heap.size w4 w7 := ((Below.refl _ _).new _).trans (b47.mono (by omega))
  obtain ⟨p0, p1, _, _, y1⟩ := two_kept b17
  obtain ⟨p2, p3, _, _, y2⟩ := two_kept b27
  obtain ⟨p4, p5, _, _, y3⟩ := two_kept b37
  obtain ⟨p6, p7, _, _, y4⟩ := two_kept b47
  have r1 := Lib.hid (show Rd l m w7 (.agg #[.slice A1 l.length c1, .slice A2 m.length c2]) from Rd.below ⟨_, _, _, _, rfl, k1, k2⟩ a17)
  have r2 := Lib.hid (show Rd l m w7 (.agg #[.slice A3 l.length c3, .slice A4 m.length c4]) from Rd.below ⟨_, _, _, _, rfl, k3, k4⟩ a27)
  have r3 := Lib.hid (show Rd li lo w7 (.agg #[.slice A5 li.length c5, .slice A6 lo.length c6]) from Rd.below ⟨_, _, _, _, rfl, k5, k6⟩ a37)
  have r4 := Lib.hid (show Rd li lo w7 (.agg #[.slice A7 li.length c7, .slice A8 lo.length c8]) from Rd.below ⟨_, _, _, _, rfl, k7, k8⟩ a47)
  have hw7 : Below w.heap.size w w7 := hb1.step a17
  clear b17 b27 b37 b47 a17 a27 a37 a47 b23 k1 k2 k3 k4 k5 k6 k7 k8 hb1 hb2 hb3 hb4 hb5 hb6 hb7 z2 z3 z4 z5 z6 z7
  go_wp2_with fail
  (with_reducible refine (same_any _ _ l m l m _ r1.out r2.out (by omega) (by omega) (by omega) (by omega)).mono ?_)
  rintro e w8 ⟨rfl, hb8⟩
  rw [decide_eq_true (rfl : l = l), decide_eq_true (rfl : m = m)]
  have q4 := (hb8.cell (p := ⟨w3.heap.size, 0, none⟩) y3).trans p4
  have q5 := (hb8.cell (p := ⟨w3.heap.size, 1, none⟩) y3).trans p5
  have q6 := (hb8.cell (p := ⟨w4.heap.size, 0, none⟩) y4).trans p6
  have q7 := (hb8.cell (p := ⟨w4.heap.size, 1, none⟩) y4).trans p7
  have r3' := Lib.hid (r3.out.below hb8)
  have r4' := Lib.hid (r4.out.below hb8)
  clear p0 p1 p2 p3 p4 p5 p6 p7
  go_wp2_with fail
  (with_reducible refine (same_any _ _ li lo li lo _ r3'.out r4'.out (by omega) (by omega) (by omega) (by omega)).mono ?_)
  rintro e w9 ⟨rfl, hb9⟩
  rw [decide_eq_true (rfl : li = li), decide_eq_true (rfl : lo = lo)]
  go_wp2
  go_ret
  exact ⟨by simp, (hw7.step hb8).step hb9⟩


set_option maxRecDepth 100000 in
theorem lifted (os : Os) (started : os.Started) (H : Type) (enc : TypeId × Value → H) :
    ReturnsInHanded {} Try.checked os 3 .any (Rows.recipeAllSpec.pre6 enc Try.prog Try.f3 Rows.recipeAllRow.domain false) (Rows.recipeAllSpec.post enc Try.prog Try.f3 false true false false) := by
  refine returnsInHanded_of_change (C := Try.checked) own started (by kernel_rfl) Try.func3
    (ChangeSpec.witness6 (enc := enc) (C := Try.checked) false ⟨#[], #[.int .u32 0, .int .u64 0, .int .u32 0], []⟩ 8 (by kernel_rfl) (by kernel_rfl) (by kernel_rfl) (by kernel_rfl)) ?_
  intro W base args ds gs before hval0 hW hcnd _
  have hval : ∀ (j : Nat) t v, Try.f3.params[j]? = some t → args[j]? = some v → Value.okWide Try.prog W .any base t v := hval0
  have hW' := hW
  obtain ⟨p, q, hA0, hV, rfl, hfz, hnd⟩ := hW
  have hA1 : DataW.TrodAll enc Try.prog W 0 (fun _ => true) true Try.f3.params.toList args.toList ds p := hA0
  have hA := hA1
  rw [Try.params3] at hA hval
  obtain ⟨v0, vs0, d0, ds0, p0, q0, hargs, rfl, rfl, h0, r0⟩ := trodAll_cons hA
  obtain ⟨v1, vs1, d1, ds1, p1, q1, rfl, rfl, rfl, h1, r1⟩ := trodAll_cons r0
  obtain ⟨v2, vs2, d2, ds2, p2, q2, rfl, rfl, rfl, h2, r2⟩ := trodAll_cons r1
  obtain ⟨rfl, rfl, rfl⟩ := trodAll_nil r2
  obtain rfl : args = #[v0, v1, v2] := by cases args; simp_all
  obtain ⟨rfl, rfl⟩ := trodVars_none hV
  obtain ⟨id, rfl, rfl, rfl, wf0⟩ := open_int Try.underlying22 (hval 0 22 v0 rfl rfl) h0
  obtain ⟨n, rfl, rfl, rfl, wf1⟩ := open_int Try.underlying23 (hval 1 23 v1 rfl rfl) h1
  obtain ⟨item, rfl, rfl, rfl, wf2⟩ := open_int Try.underlying22 (hval 2 22 v2 rfl rfl) h2
  clear hA0 hval0
  refine (walk W id (bounds_u32 wf0) n (bounds_u64 wf1) item (bounds_u32 wf2)).mono fun e W' ⟨he, bel⟩ => ?_
  subst he
  exact ⟨_, rfl, _, _, _, [], _, [], hW', trodAll_mk1 (shut_bool Try.underlying4 _), args_again laidOut bel (by kernel_rfl) hA1, rfl, bel.frame _, fun h => by cases h⟩

theorem over : Rows.recipeAllRow.holds Try.pinned (OpenSpec.ofChange Rows.recipeAllSpec) :=
  OpenClaim.holds_of_wide 3 Try.f3 rfl rfl rfl rfl rfl rfl rfl ⟨rfl, rfl, rfl, rfl, rfl⟩ rfl rfl rfl rfl rfl (by kernel_rfl) Try.func3 (by kernel_rfl)
    (of_decide_eq_true (by kernel_rfl)) (by unfold Func.isWrapper; first | (rw [if_pos (by decide +kernel)]; kernel_rfl) | (rw [if_neg (by decide +kernel)]; exact ⟨rfl, rfl⟩))
    (fun os started H enc _ => lifted os started H enc)

theorem proved : Rows.RecipeAllSaid := over
end Go.Proofs.Ytfkomfhnkpecfaa.LRecipeAll
