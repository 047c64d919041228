/- The law manciplelaw06.RecEncodes returns true whatever it is called with, and what it was called with reads as it did. No condition. -/
import Derived.Test.YtbbphfhkedldmaaLaw
import Derived.Test.YtbbphfhkedldmaaRecJ
import Derived.Test.YtbbphfhkedldmaaRecO
import Derived.Test.YtbbphfhkedldmaaRecOpen
namespace Go.Proofs.Ytbbphfhkedldmaa.LRecEncodes
open Go.ChangeShapes Go.WideShapes Go.ChangeAt Go.RowKit Go.IntWalk Go.Proofs.Mem Law
set_option linter.unusedVariables false
open NumBytes CrcA Rec
set_option linter.unusedSimpArgs false
set_option maxRecDepth 100000 in
set_option maxHeartbeats 8000000 in
theorem walk (w : World) (r : Rec.Rc) (hr : r.Ok) (r1 r2 r3 r4 : Value) (ir : Rec.RcIn w w.heap.size r r1 r2 r3 r4) :
    Calls Try.prog 3 #[.agg (Rec.rcV r r1 r2 r3 r4)] w fun e w' => e = .returned (.bool true) ∧ Below w.heap.size w w' := by
  obtain ⟨A1, c1, e1, hl1, hm1⟩ := ir.a.form
  obtain ⟨A2, c2, e2, hl2, hm2⟩ := ir.b.form
  obtain ⟨A3, c3, e3, hl3, hm3⟩ := ir.t.form
  obtain ⟨A4, c4, e4, hl4, hm4⟩ := ir.d.form
  subst e1 e2 e3 e4
  clear hl1 hm1 hl2 hm2 hl3 hm3 hl4 hm4
  obtain ⟨LX, hLX⟩ : ∃ n, n = r.c.xs.length := ⟨_, rfl⟩
  obtain ⟨LY, hLY⟩ : ∃ n, n = r.c.ys.length := ⟨_, rfl⟩
  rw [← hLX, ← hLY] at ir ⊢
  have HLX := Lib.hid hLX
  have HLY := Lib.hid hLY
  have HI := Lib.hid ir
  have BX0 := Lib.hid (Box.new w (rcV r (.slice A1 LX c1) (.slice A2 LY c2) (.slice A3 r.ts.length c3) (.slice A4 r.ds.length c4)) 31)
  have HW0 := Lib.hid (new_ (Below.refl w.heap.size w) (.cells (rcV r (.slice A1 LX c1) (.slice A2 LY c2) (.slice A3 r.ts.length c3) (.slice A4 r.ds.length c4)) 31))
  have HV := Lib.hid (fun W (h : Below w.heap.size w W) => heavy_any r _ _ _ _ W w.heap.size (ir.below h))
  obtain ⟨q1, hq1⟩ : ∃ q, q = heavyB r := ⟨_, rfl⟩
  have hlen : q1 = false → r.c.ys.length ≤ 100000 := fun h => by rw [hq1] at h; simp [heavyB] at h; omega
  have HLEN := Lib.hid hlen
  rw [← hq1] at HV
  clear hq1 hLX hLY hlen
  go_enter Try.func3, Try.ntmps3
  go_wp2_with fail
  (with_reducible refine (HV.out _ HW0.out).mono ?_)
  rintro e w1 ⟨rfl, hb1⟩
  have BX1 := Lib.hid (BX0.out.later hb1)
  have HW1 := Lib.hid (step_ HW0.out hb1)
  clear hb1
  go_wp2_with (go_at_call 10; (with_reducible refine (known_any _).mono ?_); rintro e w2 ⟨rfl, hb2⟩; have BX2 := Lib.hid (BX1.out.later hb2); have HW2 := Lib.hid (step_ HW1.out hb2); have kA := BX2.out.cell; have kA2 := (BX2.out.alloc (.cells (#[.int .u8 r.k, .int .u32 r.t, .int .u64 r.p, .int .u64 r.n, .int .u32 r.c.pg, .int .u16 r.c.sl, .bool r.c.had, .bool r.c.has, .slice A1 LX c1, .slice A2 LY c2, .slice A3 r.ts.length c3, .slice A4 r.ds.length c4]) 31)).cell; clear hb2)
  all_goals first
    | (go_ret; exact ⟨rfl, HW2.out⟩)
    | skip
  have hL : r.c.ys.length ≤ 100000 := HLEN.out (by simpa using (show ¬ q1 = true by assumption))
  have IB2 := Lib.hid ((ir.b.below HW2.out).alloc (by have := HW2.out.size; omega) (.cells (#[.int .u8 r.k, .int .u32 r.t, .int .u64 r.p, .int .u64 r.n, .int .u32 r.c.pg, .int .u16 r.c.sl, .bool r.c.had, .bool r.c.has, .slice A1 LX c1, .slice A2 LY c2, .slice A3 r.ts.length c3, .slice A4 r.ds.length c4]) 31))
  obtain ⟨w3, hw3⟩ : ∃ w3, w2.alloc (.cells (#[.int .u8 r.k, .int .u32 r.t, .int .u64 r.p, .int .u64 r.n, .int .u32 r.c.pg, .int .u16 r.c.sl, .bool r.c.had, .bool r.c.has, .slice A1 LX c1, .slice A2 LY c2, .slice A3 r.ts.length c3, .slice A4 r.ds.length c4]) 31) = w3 := ⟨_, rfl⟩
  have hb3 : Below w2.heap.size w2 w3 := by rw [← hw3]; exact new_ (Below.refl _ _) _
  have BO3 := Lib.hid (show Box w3 w2.heap.size (rcV r (.slice A1 LX c1) (.slice A2 LY c2) (.slice A3 r.ts.length c3) (.slice A4 r.ds.length c4)) 31 by rw [← hw3]; exact Box.new _ _ _)
  rw [hw3] at IB2 ⊢
  have BX3 := Lib.hid (BX2.out.later hb3)
  have HW3 := Lib.hid (step_ HW2.out hb3)
  clear hw3 hb3 kA kA2
  (with_reducible refine (lent_any _ r.c.ys _ _ IB2.out hL).mono ?_)
  rintro e w4 ⟨u4, rfl, o4, hb4⟩
  obtain ⟨A9, c9, e9, hl9, hm9⟩ := (IR.of_own o4).form
  rw [← HLY.out] at e9
  subst e9
  have O4 := Lib.hid o4
  have BO4 := Lib.hid (BO3.out.later hb4)
  have BX4 := Lib.hid (BX3.out.later hb4)
  have HW4 := Lib.hid (step_ HW3.out hb4)
  have LTO := Lib.hid BO3.out.lt
  have kO := BO4.out.cell
  have fO := BO4.out.frozen
  clear o4 hb4
  go_wp2_with fail
  have bo5 := BO4.out.set_ 9 (.slice A9 LY c9)
  simp only [List.setIfInBounds_toArray, List.set_cons_zero, List.set_cons_succ] at bo5
  have hb5 : Below w.heap.size w (w4.setCell ⟨w2.heap.size, 9, none⟩ (.slice A9 LY c9)) := HW4.out.setCell (p := ⟨w2.heap.size, 9, none⟩) HW2.out.size _
  have bx5 := BX4.out.far (p := ⟨w2.heap.size, 9, none⟩) (by have := BX2.out.lt; show w.heap.size ≠ w2.heap.size; omega) (.slice A9 LY c9)
  have iy5 : IR (w4.setCell ⟨w2.heap.size, 9, none⟩ (.slice A9 LY c9)) (w4.setCell ⟨w2.heap.size, 9, none⟩ (.slice A9 LY c9)).heap.size .u8 (.slice A9 LY c9) r.c.ys := IR.of_own (own_set_far O4.out (p := ⟨w2.heap.size, 9, none⟩) LTO.out (.slice A9 LY c9))
  generalize w4.setCell ⟨w2.heap.size, 9, none⟩ (.slice A9 LY c9) = w5 at *
  have BO5 := Lib.hid (show Box w5 w2.heap.size (rcV r (.slice A1 LX c1) (.slice A9 LY c9) (.slice A3 r.ts.length c3) (.slice A4 r.ds.length c4)) 31 from bo5)
  have BX5 := Lib.hid bx5
  have HW5 := Lib.hid hb5
  have hi5 := (ir.below hb5).more hb5.size
  have R5 := Lib.hid hi5
  have RO5 := Lib.hid (show RcIn w5 w5.heap.size r (.slice A1 LX c1) (.slice A9 LY c9) (.slice A3 r.ts.length c3) (.slice A4 r.ds.length c4) from ⟨hi5.a, iy5, hi5.t, hi5.d⟩)
  clear bo5 hb5 bx5 iy5 hi5 kO fO ir
  have kO := BO5.out.cell
  have kX := BX5.out.cell
  cases hm : mayS r
  case false =>
    go_wp2_with fail
    (with_reducible refine (encode_no r hm _ _ _ _ w5 _ (Nat.le_refl _) RO5.out).mono ?_)
    rintro e w6 ⟨rfl, hb6⟩
    have BO6 := Lib.hid (BO5.out.later hb6)
    have BX6 := Lib.hid (BX5.out.later hb6)
    have HW6 := Lib.hid (step_ HW5.out hb6)
    have R6 := Lib.hid ((R5.out.below hb6).more hb6.size)
    have RO6 := Lib.hid ((RO5.out.below hb6).more hb6.size)
    have kO6 := BO6.out.cell
    have kX6 := BX6.out.cell
    clear hb6 kO kX
    go_wp2_with fail
    (with_reducible refine (encode_ref_no r hm _ _ _ _ w6 _ (Nat.le_refl _) R6.out).mono ?_)
    rintro e w7 ⟨rfl, hb7⟩
    have BO7 := Lib.hid (BO6.out.later hb7)
    have BX7 := Lib.hid (BX6.out.later hb7)
    have HW7 := Lib.hid (step_ HW6.out hb7)
    have R7 := Lib.hid ((R6.out.below hb7).more hb7.size)
    have RO7 := Lib.hid ((RO6.out.below hb7).more hb7.size)
    have kO7 := BO7.out.cell
    have kX7 := BX7.out.cell
    clear hb7 kO6 kX6
    go_wp2_with fail
    (with_reducible refine (same_any _ _ [] [] _ 0 0 (IR.nil _ _ _) (IR.nil _ _ _) Bytes.nil Bytes.nil).mono ?_)
    rintro e w8 ⟨rfl, rfl⟩
    go_wp2_with fail
    (with_reducible refine (same_any_rc r r hr hr _ _ _ _ _ _ _ _ w7 _ (Nat.le_refl _) RO7.out R7.out).mono ?_)
    rintro e w9 ⟨q, rfl, hq, hb9⟩
    obtain rfl : q = true := hq.2 rfl
    have HB9 := Lib.hid hb9
    clear hb9 hq
    go_wp2
    go_ret
    exact ⟨rfl, step_ HW7.out HB9.out⟩
  case true =>
    go_wp2_with fail
    (with_reducible refine (encode_yes r hr hm _ _ _ _ w5 _ (Nat.le_refl _) RO5.out).mono ?_)
    rintro e w6 ⟨u6, rfl, o6, hb6⟩
    have O6 := Lib.hid o6
    clear o6
    have BO6 := Lib.hid (BO5.out.later hb6)
    have BX6 := Lib.hid (BX5.out.later hb6)
    have HW6 := Lib.hid (step_ HW5.out hb6)
    have R6 := Lib.hid ((R5.out.below hb6).more hb6.size)
    have RO6 := Lib.hid ((RO5.out.below hb6).more hb6.size)
    have kO6 := BO6.out.cell
    have kX6 := BX6.out.cell
    clear hb6 kO kX
    go_wp2_with fail
    (with_reducible refine (encode_ref_yes r hr hm _ _ _ _ w6 R6.out).mono ?_)
    rintro e w7 ⟨u7, rfl, o7, hb7⟩
    have O7 := Lib.hid o7
    have O67 := Lib.hid (own_below O6.out hb7)
    clear o7
    have BO7 := Lib.hid (BO6.out.later hb7)
    have BX7 := Lib.hid (BX6.out.later hb7)
    have HW7 := Lib.hid (step_ HW6.out hb7)
    have R7 := Lib.hid ((R6.out.below hb7).more hb7.size)
    have RO7 := Lib.hid ((RO6.out.below hb7).more hb7.size)
    have kO7 := BO7.out.cell
    have kX7 := BX7.out.cell
    clear hb7 kO6 kX6
    go_wp2_with fail
    (with_reducible refine (same_any _ _ (encS r) (encS r) _ _ _ (IR.of_own (by have := O67.out; exact this)) (IR.of_own (by have := O7.out; exact this)) (enc_bytes r hr) (enc_bytes r hr)).mono ?_)
    rintro e w8 ⟨rfl, rfl⟩
    go_wp2_with fail
    (with_reducible refine (same_any_rc r r hr hr _ _ _ _ _ _ _ _ w7 _ (Nat.le_refl _) RO7.out R7.out).mono ?_)
    rintro e w9 ⟨q, rfl, hq, hb9⟩
    obtain rfl : q = true := hq.2 rfl
    have HB9 := Lib.hid hb9
    clear hb9 hq
    go_wp2
    go_ret
    exact ⟨rfl, step_ HW7.out HB9.out⟩


set_option maxRecDepth 100000 in
theorem lifted (os : Os) (started : os.Started) (H : Type) (enc : TypeId × Value → H) :
    ReturnsInHanded {} Try.checked os 3 .any (Rows.recEncodesSpec.pre6 enc Try.prog Try.f3 Rows.recEncodesRow.domain false) (Rows.recEncodesSpec.post enc Try.prog Try.f3 false true false false) := by
  refine returnsInHanded_of_change (C := Try.checked) own started (by kernel_rfl) Try.func3
    (ChangeSpec.witness6 (enc := enc) (C := Try.checked) false ⟨#[], #[.agg #[.int .u8 0, .int .u32 0, .int .u64 0, .int .u64 0, .int .u32 0, .int .u16 0, .bool false, .bool false, .slice none 0 0, .slice none 0 0, .slice none 0 0, .slice none 0 0]], []⟩ 8 (by kernel_rfl) (by kernel_rfl) (by kernel_rfl) (by kernel_rfl)) ?_
  intro W base args ds gs before hval0 hW hcnd _
  have hval : ∀ (j : Nat) t v, Try.f3.params[j]? = some t → args[j]? = some v → Value.okWide Try.prog W .any base t v := hval0
  have hW' := hW
  obtain ⟨p, q, hA0, hV, rfl, hfz, hnd⟩ := hW
  have hA1 : DataW.TrodAll enc Try.prog W 0 (fun _ => true) true Try.f3.params.toList args.toList ds p := hA0
  have hA := hA1
  rw [Try.params3] at hA hval
  obtain ⟨v0, vs0, d0, ds0, p0, q0, hargs, rfl, rfl, h0, r0⟩ := trodAll_cons hA
  obtain ⟨rfl, rfl, rfl⟩ := trodAll_nil r0
  obtain rfl : args = #[v0] := by cases args; simp_all
  obtain ⟨rfl, rfl⟩ := trodVars_none hV
  obtain ⟨r, r1, r2, r3, r4, rfl, ok0, i0⟩ := Rec.open_rc (hval 0 31 v0 rfl rfl) h0
  clear hA0 hval0
  refine (walk W r ok0 r1 r2 r3 r4 i0).mono fun e W' ⟨he, bel⟩ => ?_
  subst he
  exact ⟨_, rfl, _, _, _, [], _, [], hW', trodAll_mk1 (shut_bool Try.underlying4 _), args_again laidOut bel (by kernel_rfl) hA1, rfl, bel.frame _, fun h => by cases h⟩

theorem over : Rows.recEncodesRow.holds Try.pinned (OpenSpec.ofChange Rows.recEncodesSpec) :=
  OpenClaim.holds_of_wide 3 Try.f3 rfl rfl rfl rfl rfl rfl rfl ⟨rfl, rfl, rfl, rfl, rfl⟩ rfl rfl rfl rfl rfl (by kernel_rfl) Try.func3 (by kernel_rfl)
    (of_decide_eq_true (by kernel_rfl)) (by unfold Func.isWrapper; first | (rw [if_pos (by decide +kernel)]; kernel_rfl) | (rw [if_neg (by decide +kernel)]; exact ⟨rfl, rfl⟩))
    (fun os started H enc _ => lifted os started H enc)

theorem proved : Rows.RecEncodesSaid := over
end Go.Proofs.Ytbbphfhkedldmaa.LRecEncodes
