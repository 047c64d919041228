/- The law manciplelaw06.RecApart returns true whatever it is called with, and what it was called with reads as it did. No condition. -/
import Derived.Test.YtbbphfhkedldmaaLaw
import Derived.Test.YtbbphfhkedldmaaRecJ
import Derived.Test.YtbbphfhkedldmaaRecK
import Derived.Test.YtbbphfhkedldmaaRecOpen
namespace Go.Proofs.Ytbbphfhkedldmaa.LRecApart
open Go.ChangeShapes Go.WideShapes Go.ChangeAt Go.RowKit Go.IntWalk Go.Proofs.Mem Law
set_option linter.unusedVariables false
open NumBytes CrcA Rec Go.Proofs.Each
set_option linter.unusedSimpArgs false
theorem prop_bool (p : Prop) : ∃ D : Bool, D = true ↔ p := by
  rcases Classical.em p with h | h
  · exact ⟨true, by simp [h]⟩
  · exact ⟨false, by simp [h]⟩
set_option maxRecDepth 100000 in
set_option maxHeartbeats 8000000 in
theorem walk (w : World) (a : Rec.Rc) (ha : a.Ok) (a1 a2 a3 a4 : Value) (ia : Rec.RcIn w w.heap.size a a1 a2 a3 a4) (b : Rec.Rc) (hb : b.Ok) (b1 b2 b3 b4 : Value) (ib : Rec.RcIn w w.heap.size b b1 b2 b3 b4) :
    Calls Try.prog 8 #[.agg (Rec.rcV a a1 a2 a3 a4), .agg (Rec.rcV b b1 b2 b3 b4)] w fun e w' => e = .returned (.bool true) ∧ Below w.heap.size w w' := by
  obtain ⟨A1, c1, e1, hl1, hm1⟩ := ia.a.form
  obtain ⟨A2, c2, e2, hl2, hm2⟩ := ia.b.form
  obtain ⟨A3, c3, e3, hl3, hm3⟩ := ia.t.form
  obtain ⟨A4, c4, e4, hl4, hm4⟩ := ia.d.form
  obtain ⟨A5, c5, e5, hl5, hm5⟩ := ib.a.form
  obtain ⟨A6, c6, e6, hl6, hm6⟩ := ib.b.form
  obtain ⟨A7, c7, e7, hl7, hm7⟩ := ib.t.form
  obtain ⟨A8, c8, e8, hl8, hm8⟩ := ib.d.form
  subst e1 e2 e3 e4 e5 e6 e7 e8
  clear hl1 hm1 hl2 hm2 hl3 hm3 hl4 hm4 hl5 hm5 hl6 hm6 hl7 hm7 hl8 hm8
  have BA0 := Lib.hid ((Box.new w (rcV a (.slice A1 a.c.xs.length c1) (.slice A2 a.c.ys.length c2) (.slice A3 a.ts.length c3) (.slice A4 a.ds.length c4)) 31).alloc (.cells (rcV b (.slice A5 b.c.xs.length c5) (.slice A6 b.c.ys.length c6) (.slice A7 b.ts.length c7) (.slice A8 b.ds.length c8)) 31))
  have bb := Box.new (w.alloc (.cells (rcV a (.slice A1 a.c.xs.length c1) (.slice A2 a.c.ys.length c2) (.slice A3 a.ts.length c3) (.slice A4 a.ds.length c4)) 31)) (rcV b (.slice A5 b.c.xs.length c5) (.slice A6 b.c.ys.length c6) (.slice A7 b.ts.length c7) (.slice A8 b.ds.length c8)) 31
  rw [World.size_alloc] at bb
  have BB0 := Lib.hid bb
  have HW0 := Lib.hid (new_ (new_ (Below.refl w.heap.size w) (.cells (rcV a (.slice A1 a.c.xs.length c1) (.slice A2 a.c.ys.length c2) (.slice A3 a.ts.length c3) (.slice A4 a.ds.length c4)) 31)) (.cells (rcV b (.slice A5 b.c.xs.length c5) (.slice A6 b.c.ys.length c6) (.slice A7 b.ts.length c7) (.slice A8 b.ds.length c8)) 31))
  have HVA := Lib.hid (fun W (h : Below w.heap.size w W) => heavy_any a _ _ _ _ W w.heap.size (ia.below h))
  have HVB := Lib.hid (fun W (h : Below w.heap.size w W) => heavy_any b _ _ _ _ W w.heap.size (ib.below h))
  obtain ⟨q1, hq1⟩ : ∃ q, q = heavyB a := ⟨_, rfl⟩
  obtain ⟨q2, hq2⟩ : ∃ q, q = heavyB b := ⟨_, rfl⟩
  rw [← hq1] at HVA
  rw [← hq2] at HVB
  clear bb hq1 hq2
  go_enter Try.func8, Try.ntmps8
  go_wp2_with fail
  (with_reducible refine (HVA.out _ HW0.out).mono ?_)
  rintro e w1 ⟨rfl, hb1⟩
  have BA1 := Lib.hid (BA0.out.later hb1)
  have BB1 := Lib.hid (BB0.out.later hb1)
  have HW1 := Lib.hid (step_ HW0.out hb1)
  have kb := BB1.out.cell
  clear hb1
  go_wp2_with (first
    | (go_at_call 9; (with_reducible refine (HVB.out _ HW1.out).mono ?_); rintro e w2 ⟨rfl, hb2⟩; have BA2 := Lib.hid (BA1.out.later hb2); have BB2 := Lib.hid (BB1.out.later hb2); have HW2 := Lib.hid (step_ HW1.out hb2); clear hb2)
    | (go_at_call 10; (with_reducible refine (known_any _).mono ?_); rintro e w3 ⟨rfl, hb3⟩; have HW3 := Lib.hid hb3; try (have BA3 := Lib.hid (BA2.out.later hb3); have BB3 := Lib.hid (BB2.out.later hb3); have HX3 := Lib.hid (step_ HW2.out hb3); have kA := BA3.out.cell; have kB := BB3.out.cell); clear hb3))
  all_goals first
    | (go_ret; exact ⟨rfl, by first | exact step_ HW1.out HW3.out | exact step_ HW2.out HW3.out⟩)
    | skip
  cases hma : mayS a
  case false =>
    (with_reducible refine (encode_no a hma _ _ _ _ w3 w.heap.size HX3.out.size (ia.below HX3.out)).mono ?_)
    rintro e w4 ⟨rfl, hb4⟩
    have BA4 := Lib.hid (BA3.out.later hb4)
    have BB4 := Lib.hid (BB3.out.later hb4)
    have HX4 := Lib.hid (step_ HX3.out hb4)
    have kA4 := BA4.out.cell
    have kB4 := BB4.out.cell
    clear kA kB hb4
    go_wp2_with fail
    cases hmb : mayS b
    case false =>
      (with_reducible refine (encode_no b hmb _ _ _ _ w4 w.heap.size HX4.out.size (ib.below HX4.out)).mono ?_)
      rintro e w5 ⟨rfl, hb5⟩
      have BA5 := Lib.hid (BA4.out.later hb5)
      have BB5 := Lib.hid (BB4.out.later hb5)
      have HX5 := Lib.hid (step_ HX4.out hb5)
      clear hb5 kA4 kB4
      go_wp2
      go_ret
      exact ⟨rfl, HX5.out⟩
    case true =>
      (with_reducible refine (encode_yes b hb hmb _ _ _ _ w4 w.heap.size HX4.out.size (ib.below HX4.out)).mono ?_)
      rintro e w5 ⟨ub, rfl, ob, hb5⟩
      obtain ⟨Ab, cb, rfl, hlb, hmb_⟩ := (IR.of_own ob).form
      rw [enc_len] at hlb
      have Ob := Lib.hid ob
      clear ob
      have BA5 := Lib.hid (BA4.out.later hb5)
      have BB5 := Lib.hid (BB4.out.later hb5)
      have HX5 := Lib.hid (step_ HX4.out hb5)
      clear hb5 kA4 kB4
      rw [enc_len]
      go_wp2
      go_ret
      exact ⟨rfl, HX5.out⟩
  case true =>
    (with_reducible refine (encode_yes a ha hma _ _ _ _ w3 w.heap.size HX3.out.size (ia.below HX3.out)).mono ?_)
    rintro e w4 ⟨ua, rfl, oa, hb4⟩
    obtain ⟨Aa, ca, rfl, hla, hma_⟩ := (IR.of_own oa).form
    rw [enc_len] at hla
    have Oa := Lib.hid oa
    clear oa
    have BA4 := Lib.hid (BA3.out.later hb4)
    have BB4 := Lib.hid (BB3.out.later hb4)
    have HX4 := Lib.hid (step_ HX3.out hb4)
    have kA4 := BA4.out.cell
    have kB4 := BB4.out.cell
    clear kA kB hb4
    go_wp2_with fail
    cases hmb : mayS b
    case false =>
      (with_reducible refine (encode_no b hmb _ _ _ _ w4 w.heap.size HX4.out.size (ib.below HX4.out)).mono ?_)
      rintro e w5 ⟨rfl, hb5⟩
      have BA5 := Lib.hid (BA4.out.later hb5)
      have BB5 := Lib.hid (BB4.out.later hb5)
      have HX5 := Lib.hid (step_ HX4.out hb5)
      clear hb5 kA4 kB4
      rw [enc_len]
      have zA : (((6 + (bodyS a).length : Nat) : Int) == 0) = false := by rw [beq_zero]; simp
      go_wp2
      go_ret
      exact ⟨rfl, HX5.out⟩
    case true =>
      (with_reducible refine (encode_yes b hb hmb _ _ _ _ w4 w.heap.size HX4.out.size (ib.below HX4.out)).mono ?_)
      rintro e w5 ⟨ub, rfl, ob, hb5⟩
      obtain ⟨Ab, cb, rfl, hlb, hmb_⟩ := (IR.of_own ob).form
      rw [enc_len] at hlb
      have Ob := Lib.hid ob
      clear ob
      have BA5 := Lib.hid (BA4.out.later hb5)
      have BB5 := Lib.hid (BB4.out.later hb5)
      have HX5 := Lib.hid (step_ HX4.out hb5)
      have Oa5 := Lib.hid (own_below Oa.out hb5)
      clear hb5 kA4 kB4
      rw [enc_len, enc_len]
      have dA : decide (6 + (bodyS a).length = 0) = false := by simp
      have zA : (((6 + (bodyS a).length : Nat) : Int) == 0) = false := by rw [beq_zero]; simp
      have zB : (((6 + (bodyS b).length : Nat) : Int) == 0) = false := by rw [beq_zero]; simp
      obtain ⟨D, hD⟩ := prop_bool (a = b)
      have HD2 := Lib.hid hD
      have HD := Lib.hid (show decide (encS a = encS b) = D by rw [Bool.eq_iff_iff, hD, decide_eq_true_eq]; exact ⟨enc_inj a b ha hb hma hmb, fun h => by rw [h]⟩)
      have EBA : Bytes (encS a) := enc_bytes a ha
      have EBB : Bytes (encS b) := enc_bytes b hb
      obtain ⟨VX, hVX⟩ : ∃ v, Value.slice Aa (6 + (bodyS a).length) ca = v := ⟨_, rfl⟩
      obtain ⟨VY, hVY⟩ : ∃ v, Value.slice Ab (6 + (bodyS b).length) cb = v := ⟨_, rfl⟩
      rw [enc_len] at Oa5 Ob
      have IX := Lib.hid (IR.of_own (xs := encS a) (by have := Oa5.out; exact this))
      have IY := Lib.hid (IR.of_own (xs := encS b) (by have := Ob.out; exact this))
      have BA := BA5
      have BB := BB5
      have HW := HX5
      clear hD BA0 BA1 BA2 BA3 BA4 BB0 BB1 BB2 BB3 BB4
      rw [hVX] at IX
      rw [hVY] at IY
      go_wp2
      clear hVX hVY
      refine wp_region_ob (by kernel_rfl) (by kernel_rfl) [(fun v _ => v = VX), (fun v _ => v = VY), (fun v _ => v = .bool D), (fun v _ => v = .agg (rcV a (.slice A1 a.c.xs.length c1) (.slice A2 a.c.ys.length c2) (.slice A3 a.ts.length c3) (.slice A4 a.ds.length c4))), (fun v _ => v = .agg (rcV b (.slice A5 b.c.xs.length c5) (.slice A6 b.c.ys.length c6) (.slice A7 b.ts.length c7) (.slice A8 b.ds.length c8))), (fun v _ => v = .bool D), (fun v _ => v = .bool true), (fun v _ => v = .bool true)] ⟨stays_eq _, stays_eq _, stays_eq _, stays_eq _, stays_eq _, stays_eq _, stays_eq _, stays_eq _, trivial⟩ (fun vals => ?_) (fun vals W hbW hall => ?_)
      · simp only [ObF, Act.put, List.setIfInBounds_toArray, List.set_cons_succ, List.set_cons_zero]
        refine ⟨?_, ?_, ?_, ?_, ?_, ?_, ?_, ?_, trivial⟩
        · intro W hbW hw
          clear hw
          refine step_plain rfl ?_
          go_simp
          (first | exact Below.refl _ _ | exact ⟨Below.refl _ _, rfl⟩ | exact ⟨_, rfl, Below.refl _ _, rfl⟩)
        · intro W hbW hw
          clear hw
          refine step_plain rfl ?_
          go_simp
          (first | exact Below.refl _ _ | exact ⟨Below.refl _ _, rfl⟩ | exact ⟨_, rfl, Below.refl _ _, rfl⟩)
        · intro W hbW hw
          have f0 : vals 0 = VX := hw ⟨0, .data⟩ (by simp) rfl
          have f1 : vals 1 = VY := hw ⟨1, .data⟩ (by simp) rfl
          clear hw
          refine step_plain rfl ?_
          go_simp
          (with_reducible refine (same_any _ _ _ _ _ _ _ (IX.out.below hbW) (IY.out.below hbW) EBA EBB).mono ?_)
          rintro e W1 ⟨rfl, rfl⟩
          rw [HD.out]
          first | exact ⟨Below.refl _ _, rfl⟩ | exact ⟨rfl, Below.refl _ _⟩
        · intro W hbW hw
          clear hw
          refine step_plain rfl ?_
          have cw := (BA.out.later hbW).cell
          go_simp
          (first | exact Below.refl _ _ | exact ⟨Below.refl _ _, rfl⟩ | exact ⟨_, rfl, Below.refl _ _, rfl⟩)
        · intro W hbW hw
          clear hw
          refine step_plain rfl ?_
          have cw := (BB.out.later hbW).cell
          go_simp
          (first | exact Below.refl _ _ | exact ⟨Below.refl _ _, rfl⟩ | exact ⟨_, rfl, Below.refl _ _, rfl⟩)
        · intro W hbW hw
          have f3 : vals 3 = .agg (rcV a (.slice A1 a.c.xs.length c1) (.slice A2 a.c.ys.length c2) (.slice A3 a.ts.length c3) (.slice A4 a.ds.length c4)) := hw ⟨3, .data⟩ (by simp) rfl
          have f4 : vals 4 = .agg (rcV b (.slice A5 b.c.xs.length c5) (.slice A6 b.c.ys.length c6) (.slice A7 b.ts.length c7) (.slice A8 b.ds.length c8)) := hw ⟨4, .data⟩ (by simp) rfl
          have f2 : vals 2 = .bool D := hw ⟨2, .chain⟩ (by simp) rfl
          clear hw
          refine step_plain rfl ?_
          go_simp
          (with_reducible refine (same_any_rc a b ha hb _ _ _ _ _ _ _ _ W w.heap.size (Nat.le_trans HW.out.size hbW.size) (ia.below (step_ HW.out hbW)) (ib.below (step_ HW.out hbW))).mono ?_)
          rintro e W1 ⟨q, rfl, hq, hbl⟩
          have hqd : q = D := by rw [Bool.eq_iff_iff, hq, HD2.out]
          subst hqd
          first | exact ⟨hbl, rfl⟩ | exact ⟨rfl, hbl⟩
        · intro W hbW hw
          have f2 : vals 2 = .bool D := hw ⟨2, .data⟩ (by simp) rfl
          have f5 : vals 5 = .bool D := hw ⟨5, .data⟩ (by simp) rfl
          clear hw
          refine step_plain rfl ?_
          go_simp
          (first | exact Below.refl _ _ | exact ⟨Below.refl _ _, rfl⟩ | exact ⟨_, rfl, Below.refl _ _, rfl⟩)
        · intro W hbW hw
          have f6 : vals 6 = .bool true := hw ⟨6, .data⟩ (by simp) rfl
          have f5 : vals 5 = .bool D := hw ⟨5, .chain⟩ (by simp) rfl
          have f0 : vals 0 = VX := hw ⟨0, .phase⟩ (by simp) rfl
          have f1 : vals 1 = VY := hw ⟨1, .phase⟩ (by simp) rfl
          have f2 : vals 2 = .bool D := hw ⟨2, .phase⟩ (by simp) rfl
          have f3 : vals 3 = .agg (rcV a (.slice A1 a.c.xs.length c1) (.slice A2 a.c.ys.length c2) (.slice A3 a.ts.length c3) (.slice A4 a.ds.length c4)) := hw ⟨3, .phase⟩ (by simp) rfl
          have f4 : vals 4 = .agg (rcV b (.slice A5 b.c.xs.length c5) (.slice A6 b.c.ys.length c6) (.slice A7 b.ts.length c7) (.slice A8 b.ds.length c8)) := hw ⟨4, .phase⟩ (by simp) rfl
          clear hw
          refine step_plain rfl ?_
          go_simp
          (first | exact Below.refl _ _ | exact ⟨Below.refl _ _, rfl⟩ | exact ⟨_, rfl, Below.refl _ _, rfl⟩)
      · simp only [TL, Act.put, List.setIfInBounds_toArray, List.set_cons_succ, List.set_cons_zero]
        have f0 : vals 0 = VX := hall 0 (by decide)
        have f1 : vals 1 = VY := hall 1 (by decide)
        have f2 : vals 2 = .bool D := hall 2 (by decide)
        have f3 : vals 3 = .agg (rcV a (.slice A1 a.c.xs.length c1) (.slice A2 a.c.ys.length c2) (.slice A3 a.ts.length c3) (.slice A4 a.ds.length c4)) := hall 3 (by decide)
        have f4 : vals 4 = .agg (rcV b (.slice A5 b.c.xs.length c5) (.slice A6 b.c.ys.length c6) (.slice A7 b.ts.length c7) (.slice A8 b.ds.length c8)) := hall 4 (by decide)
        have f5 : vals 5 = .bool D := hall 5 (by decide)
        have f6 : vals 6 = .bool true := hall 6 (by decide)
        have f7 : vals 7 = .bool true := hall 7 (by decide)
        clear hall
        simp only [f0, f1, f2, f3, f4, f5, f6, f7]
        clear f0 f1 f2 f3 f4 f5 f6 f7
        go_wp2
        go_ret
        exact ⟨by simp, step_ HW.out hbW⟩


set_option maxRecDepth 100000 in
theorem lifted (os : Os) (started : os.Started) (H : Type) (enc : TypeId × Value → H) :
    ReturnsInHanded {} Try.checked os 8 .any (Rows.recApartSpec.pre6 enc Try.prog Try.f8 Rows.recApartRow.domain false) (Rows.recApartSpec.post enc Try.prog Try.f8 false true false false) := by
  refine returnsInHanded_of_change (C := Try.checked) own started (by kernel_rfl) Try.func8
    (ChangeSpec.witness6 (enc := enc) (C := Try.checked) false ⟨#[], #[.agg #[.int .u8 0, .int .u32 0, .int .u64 0, .int .u64 0, .int .u32 0, .int .u16 0, .bool false, .bool false, .slice none 0 0, .slice none 0 0, .slice none 0 0, .slice none 0 0], .agg #[.int .u8 0, .int .u32 0, .int .u64 0, .int .u64 0, .int .u32 0, .int .u16 0, .bool false, .bool false, .slice none 0 0, .slice none 0 0, .slice none 0 0, .slice none 0 0]], []⟩ 8 (by kernel_rfl) (by kernel_rfl) (by kernel_rfl) (by kernel_rfl)) ?_
  intro W base args ds gs before hval0 hW hcnd _
  have hval : ∀ (j : Nat) t v, Try.f8.params[j]? = some t → args[j]? = some v → Value.okWide Try.prog W .any base t v := hval0
  have hW' := hW
  obtain ⟨p, q, hA0, hV, rfl, hfz, hnd⟩ := hW
  have hA1 : DataW.TrodAll enc Try.prog W 0 (fun _ => true) true Try.f8.params.toList args.toList ds p := hA0
  have hA := hA1
  rw [Try.params8] at hA hval
  obtain ⟨v0, vs0, d0, ds0, p0, q0, hargs, rfl, rfl, h0, r0⟩ := trodAll_cons hA
  obtain ⟨v1, vs1, d1, ds1, p1, q1, rfl, rfl, rfl, h1, r1⟩ := trodAll_cons r0
  obtain ⟨rfl, rfl, rfl⟩ := trodAll_nil r1
  obtain rfl : args = #[v0, v1] := by cases args; simp_all
  obtain ⟨rfl, rfl⟩ := trodVars_none hV
  obtain ⟨a, a1, a2, a3, a4, rfl, ok0, i0⟩ := Rec.open_rc (hval 0 31 v0 rfl rfl) h0
  obtain ⟨b, b1, b2, b3, b4, rfl, ok1, i1⟩ := Rec.open_rc (hval 1 31 v1 rfl rfl) h1
  clear hA0 hval0
  refine (walk W a ok0 a1 a2 a3 a4 i0 b ok1 b1 b2 b3 b4 i1).mono fun e W' ⟨he, bel⟩ => ?_
  subst he
  exact ⟨_, rfl, _, _, _, [], _, [], hW', trodAll_mk1 (shut_bool Try.underlying4 _), args_again laidOut bel (by kernel_rfl) hA1, rfl, bel.frame _, fun h => by cases h⟩

theorem over : Rows.recApartRow.holds Try.pinned (OpenSpec.ofChange Rows.recApartSpec) :=
  OpenClaim.holds_of_wide 8 Try.f8 rfl rfl rfl rfl rfl rfl rfl ⟨rfl, rfl, rfl, rfl, rfl⟩ rfl rfl rfl rfl rfl (by kernel_rfl) Try.func8 (by kernel_rfl)
    (of_decide_eq_true (by kernel_rfl)) (by unfold Func.isWrapper; first | (rw [if_pos (by decide +kernel)]; kernel_rfl) | (rw [if_neg (by decide +kernel)]; exact ⟨rfl, rfl⟩))
    (fun os started H enc _ => lifted os started H enc)

theorem proved : Rows.RecApartSaid := over
end Go.Proofs.Ytbbphfhkedldmaa.LRecApart
