/- The law manciplelaw06.RecBack returns true whatever it is called with, and what it was called with reads as it did. No condition. -/
import Derived.Test.YtbbphfhkedldmaaLaw
import Derived.Test.YtbbphfhkedldmaaRecW
import Derived.Test.YtbbphfhkedldmaaRecJ
import Derived.Test.YtbbphfhkedldmaaRecOpen
namespace Go.Proofs.Ytbbphfhkedldmaa.LRecBack
open Go.ChangeShapes Go.WideShapes Go.ChangeAt Go.RowKit Go.IntWalk Go.Proofs.Mem Law
set_option linter.unusedVariables false
open NumBytes CrcA Rec
set_option linter.unusedSimpArgs false
theorem rc_more {w : World} {B B' : Nat} {r : Rc} {a b ta da : Value} (h : RcIn w B r a b ta da) (hB : B ≤ B') : RcIn w B' r a b ta da := ⟨h.a.more hB, h.b.more hB, h.t.more hB, h.d.more hB⟩
set_option maxRecDepth 100000 in
set_option maxHeartbeats 16000000 in
theorem walk (w : World) (r : Rec.Rc) (hr : r.Ok) (r_1 r_2 r_3 r_4 : Value) (ir : Rec.RcIn w w.heap.size r r_1 r_2 r_3 r_4) (more : Value) (xmore : List Int) (hmore : IR w w.heap.size .u8 more xmore) (bmore : Bytes xmore) (k : Int) (hk : -9223372036854775808 ≤ k ∧ k ≤ 9223372036854775807) :
    Calls Try.prog 5 #[.agg (Rec.rcV r r_1 r_2 r_3 r_4), more, .int .i64 k] w fun e w' => e = .returned (.bool true) ∧ Below w.heap.size w w' := by
  obtain ⟨i0, hi0, hz0, hz1, hz2⟩ := info_parts u8_info
  obtain ⟨A1, c1, e1, hl1, hm1⟩ := ir.a.form
  obtain ⟨A2, c2, e2, hl2, hm2⟩ := ir.b.form
  obtain ⟨A3, c3, e3, hl3, hm3⟩ := ir.t.form
  obtain ⟨A4, c4, e4, hl4, hm4⟩ := ir.d.form
  obtain ⟨A5, c5, e5, hl5, hm5⟩ := hmore.form
  subst e1 e2 e3 e4 e5
  clear hl1 hm1 hl2 hm2 hl3 hm3 hl4 hm4
  unfold maxLen at hm5
  obtain ⟨LX, hLX⟩ : ∃ n, n = r.c.xs.length := ⟨_, rfl⟩
  obtain ⟨LY, hLY⟩ : ∃ n, n = r.c.ys.length := ⟨_, rfl⟩
  obtain ⟨LM, hLM⟩ : ∃ n, n = xmore.length := ⟨_, rfl⟩
  rw [← hLX, ← hLY] at ir ⊢
  rw [← hLM] at hmore hl5 ⊢
  have BX0 := Lib.hid (Box.new w (rcV r (.slice A1 LX c1) (.slice A2 LY c2) (.slice A3 r.ts.length c3) (.slice A4 r.ds.length c4)) 31)
  have HW0 := Lib.hid (new_ (Below.refl w.heap.size w) (.cells (rcV r (.slice A1 LX c1) (.slice A2 LY c2) (.slice A3 r.ts.length c3) (.slice A4 r.ds.length c4)) 31))
  have HV := Lib.hid (fun W (h : Below w.heap.size w W) => heavy_any r _ _ _ _ W w.heap.size (ir.below h))
  obtain ⟨q1, hq1⟩ : ∃ q, q = heavyB r := ⟨_, rfl⟩
  obtain ⟨q2, hq2⟩ : ∃ q, q = decide (3000 < LM) := ⟨_, rfl⟩
  have d2 : decide ((3000 : Int) < (LM : Int)) = q2 := by rw [hq2, decide_eq_decide]; omega
  have HLEN := Lib.hid (show q2 = false → LM ≤ 3000 from fun h => by rw [hq2] at h; simpa using h)
  rw [← hq1] at HV
  have HLM := Lib.hid hLM
  have HIR := Lib.hid ir
  have HMO := Lib.hid hmore
  have HBM := Lib.hid bmore
  clear hq1 hq2 hLX hLY hLM bmore hmore
  go_enter Try.func5, Try.ntmps5
  go_wp2_with fail
  (with_reducible refine (HV.out _ HW0.out).mono ?_)
  rintro e w1 ⟨rfl, hb1⟩
  have BX1 := Lib.hid (BX0.out.later hb1)
  have HW1 := Lib.hid (step_ HW0.out hb1)
  clear hb1
  go_wp2_with (go_at_call 10; (with_reducible refine (known_any _).mono ?_); rintro e w2 ⟨rfl, hb2⟩; have BX2 := Lib.hid (BX1.out.later hb2); have HW2 := Lib.hid (step_ HW1.out hb2); have kA := BX2.out.cell; clear hb2)
  all_goals first
    | (go_ret; exact ⟨rfl, HW2.out⟩)
    | skip
  have hL : LM ≤ 3000 := HLEN.out (by simpa using (show ¬ q2 = true by assumption))
  clear d2
  cases hm : mayS r
  case false =>
    (with_reducible refine (encode_no r hm _ _ _ _ w2 _ HW2.out.size (ir.below HW2.out)).mono ?_)
    rintro e w3 ⟨rfl, hb3⟩
    have HW3 := Lib.hid (step_ HW2.out hb3)
    clear hb3 ir
    go_wp2
    go_ret
    exact ⟨rfl, HW3.out⟩
  case true =>
    have hemin := enc_min r hm
    have hemax : (encS r).length ≤ 3000 := by have := body_len r (may_lens r hm); rw [enc_len]; omega
    obtain ⟨E, hE⟩ : ∃ E, E = (encS r).length := ⟨_, rfl⟩
    rw [← hE] at hemin hemax
    have HE := Lib.hid hE
    (with_reducible refine (encode_yes r hr hm _ _ _ _ w2 _ HW2.out.size (ir.below HW2.out)).mono ?_)
    rintro e w3 ⟨u3, rfl, o3, hb3⟩
    obtain ⟨A6, c6, e6, hl6, hm6⟩ := (IR.of_own o3).form
    rw [← hE] at e6 hl6
    subst e6
    unfold maxLen at hm6
    have O3 := Lib.hid o3
    have BX3 := Lib.hid (BX2.out.later hb3)
    have HW3 := Lib.hid (step_ HW2.out hb3)
    clear hb3 o3 kA ir hE
    go_wp2_with fail
    (with_reducible refine (lent_any _ (encS r) _ _ (IR.of_own (by have := O3.out; exact this)) (by have := HE.out; omega)).mono ?_)
    rintro e w4 ⟨u4, rfl, o4, hb4⟩
    have O4 := Lib.hid o4
    have O34 := Lib.hid (own_below O3.out hb4)
    have BX4 := Lib.hid (BX3.out.later hb4)
    have HW4 := Lib.hid (step_ HW3.out hb4)
    have HS34 := Lib.hid hb4.size
    have HB34 := Lib.hid hb4
    clear o4 hb4
    go_wp2_with (at_builtin; refine wpList_append_tx _ rfl _ _ _ _ rfl (w3.heap.size) 5 5 i0 .u8 1 Try.underlying25 Try.underlying25 hi0 hz0 hz1 hz2 u4 _ (encS r) rfl O4.out _ _ xmore rfl (HMO.out.below HW4.out) (by have := HE.out; have := HLM.out; simp only [maxLen]; omega) (by have := HE.out; have := HLM.out; omega) HS34.out ?_; intro v5 w5 hown hg ho; have O5 := Lib.hid (show w5.ownsRow w3.heap.size 5 1 v5 (encS r ++ xmore).length ((encS r ++ xmore).map (.int .u8)) by rw [List.length_append]; exact hown); have HF5 := Lib.hid (RowTo.app hg ho); clear hown hg ho)
    have HB45 : Below w3.heap.size w4 w5 := HF5.out.below (fun q e => (O4.out.lt q e).1) HS34.out
    have HB35 := Lib.hid (HB34.out.trans HB45)
    have HW5 := Lib.hid (step_ HW3.out HB35.out)
    have BX5 := Lib.hid (BX3.out.later HB35.out)
    have IB5 := Lib.hid ((IR.of_own (xs := encS r) (by have := O3.out; exact this)).below HB35.out)
    have hall : IR w5 w5.heap.size .u8 v5 (encS r ++ xmore) := IR.of_own O5.out
    obtain ⟨rd1, rd2⟩ := resD_enc r hr hm xmore
    have hball : Bytes (encS r ++ xmore) := (enc_bytes r hr).app HBM.out
    (with_reducible refine (decode_all_any w5 v5 (encS r ++ xmore) hall hball (by rw [List.length_append]; have := HE.out; have := HLM.out; omega)).mono ?_)
    rintro e w6 hz
    unfold DecodePost at hz
    rw [rd1, rd2, ← HE.out] at hz
    obtain ⟨sa, sb, st, sd, rfl, ro, hb6⟩ := hz
    obtain ⟨B1, l1, e1, _, _⟩ := ro.in_.a.form
    obtain ⟨B2, l2, e2, _, _⟩ := ro.in_.b.form
    obtain ⟨B3, l3, e3, _, _⟩ := ro.in_.t.form
    obtain ⟨B4, l4, e4, _, _⟩ := ro.in_.d.form
    subst e1 e2 e3 e4
    have RO6 := Lib.hid ro.in_
    have BX6 := Lib.hid (BX5.out.later hb6)
    have HW6 := Lib.hid (step_ HW5.out hb6)
    have IB6 := Lib.hid (IB5.out.below (hb6.mono HB35.out.size))
    have HS36 := Lib.hid (Nat.le_trans HB35.out.size hb6.size)
    have BS7 := Lib.hid (Box.new w6 (rcV r (.slice B1 r.c.xs.length l1) (.slice B2 r.c.ys.length l2) (.slice B3 r.ts.length l3) (.slice B4 r.ds.length l4)) 31)
    have BX7 := Lib.hid (BX6.out.alloc (.cells (rcV r (.slice B1 r.c.xs.length l1) (.slice B2 r.c.ys.length l2) (.slice B3 r.ts.length l3) (.slice B4 r.ds.length l4)) 31))
    have HW7 := Lib.hid (new_ HW6.out (.cells (rcV r (.slice B1 r.c.xs.length l1) (.slice B2 r.c.ys.length l2) (.slice B3 r.ts.length l3) (.slice B4 r.ds.length l4)) 31))
    have IB7 := Lib.hid (IB6.out.alloc HS36.out (.cells (rcV r (.slice B1 r.c.xs.length l1) (.slice B2 r.c.ys.length l2) (.slice B3 r.ts.length l3) (.slice B4 r.ds.length l4)) 31))
    have RO7 := Lib.hid ((RO6.out.alloc (Nat.le_refl _) (.cells (rcV r (.slice B1 r.c.xs.length l1) (.slice B2 r.c.ys.length l2) (.slice B3 r.ts.length l3) (.slice B4 r.ds.length l4)) 31)))
    have HS67 := Lib.hid (new_ (Below.refl w6.heap.size w6) (.cells (rcV r (.slice B1 r.c.xs.length l1) (.slice B2 r.c.ys.length l2) (.slice B3 r.ts.length l3) (.slice B4 r.ds.length l4)) 31)).size
    have HS06 := Lib.hid HW6.out.size
    clear hb6 ro hall hball rd1 rd2 HB45
    have hE0 : (0 : Int) < (E : Int) := by omega
    have DF := Lib.hid (fun (m : Nat) (hmE' : m < (encS r).length) W (h : IR W W.heap.size .u8 (.slice A6 m c6) ((encS r).take m)) => decode_all_any W _ _ h (bytes_take (enc_bytes r hr) m) (by rw [List.length_take]; have := HE.out; omega))
    have RF := Lib.hid (fun (m : Nat) (hmE' : m < (encS r).length) => resD_front r hm m hmE')
    by_cases hk : k < 0
    · have hk1 : ¬ (0 ≤ k) := by omega
      go_wp2_with fail
      have HM : 0 < (encS r).length := by rw [← HE.out]; omega
      (with_reducible refine (DF.out (0) HM _ ((IB7.out.take (by have := HE.out; omega)).more (Nat.le_trans HS36.out HS67.out))).mono ?_)
      rintro e w8 hz
      unfold DecodePost at hz
      rw [RF.out (0) HM] at hz
      obtain ⟨rfl, hb8⟩ := hz
      have BX8 := Lib.hid (BX7.out.later hb8)
      have BS8 := Lib.hid (BS7.out.later hb8)
      have HW8 := Lib.hid (step_ HW7.out hb8)
      have RO8 := Lib.hid (RO7.out.below (hb8.mono HS67.out))
      have RX8 := Lib.hid (HIR.out.below HW8.out)
      have HS8 := Lib.hid (Nat.le_trans HS67.out hb8.size)
      have kA := (BX8.out.alloc (.cells (#[.int .u8 0, .int .u32 0, .int .u64 0, .int .u64 0, .int .u32 0, .int .u16 0, .bool false, .bool false, .slice none 0 0, .slice none 0 0, .slice none 0 0, .slice none 0 0]) 31)).cell
      have kS := (BS8.out.alloc (.cells (#[.int .u8 0, .int .u32 0, .int .u64 0, .int .u64 0, .int .u32 0, .int .u16 0, .bool false, .bool false, .slice none 0 0, .slice none 0 0, .slice none 0 0, .slice none 0 0]) 31)).cell
      have RO9 := Lib.hid (RO8.out.alloc HS8.out (.cells (#[.int .u8 0, .int .u32 0, .int .u64 0, .int .u64 0, .int .u32 0, .int .u16 0, .bool false, .bool false, .slice none 0 0, .slice none 0 0, .slice none 0 0, .slice none 0 0]) 31))
      have RX9 := Lib.hid (rc_more (RX8.out.alloc HW8.out.size (.cells (#[.int .u8 0, .int .u32 0, .int .u64 0, .int .u64 0, .int .u32 0, .int .u16 0, .bool false, .bool false, .slice none 0 0, .slice none 0 0, .slice none 0 0, .slice none 0 0]) 31)) HS06.out)
      have HW9 := Lib.hid (new_ HW8.out (.cells (#[.int .u8 0, .int .u32 0, .int .u64 0, .int .u64 0, .int .u32 0, .int .u16 0, .bool false, .bool false, .slice none 0 0, .slice none 0 0, .slice none 0 0, .slice none 0 0]) 31))
      have HS9 := Lib.hid (Nat.le_trans HS8.out (new_ (Below.refl w8.heap.size w8) (.cells (#[.int .u8 0, .int .u32 0, .int .u64 0, .int .u64 0, .int .u32 0, .int .u16 0, .bool false, .bool false, .slice none 0 0, .slice none 0 0, .slice none 0 0, .slice none 0 0]) 31)).size)
      clear hb8
      go_wp2_with fail
      first
        | (with_reducible refine (same_any_rc r r hr hr _ _ _ _ _ _ _ _ _ _ HS9.out RX9.out RO9.out).mono ?_)
        | (with_reducible refine (same_any_rc r r hr hr _ _ _ _ _ _ _ _ _ _ HS9.out RO9.out RX9.out).mono ?_)
      rintro e w9 ⟨q, rfl, hq, hb9⟩
      obtain rfl : q = true := hq.2 rfl
      have HB9 := Lib.hid hb9
      clear hb9 hq
      go_wp2
      go_ret
      exact ⟨rfl, step_ HW9.out HB9.out⟩
    · have hk1 : 0 ≤ k := by omega
      have bm0 : (0 : Int) ≤ k % (E : Int) := Int.emod_nonneg k (by omega)
      have bm2 : k % (E : Int) < (E : Int) := Int.emod_lt_of_pos k hE0
      have bm1 : k % (E : Int) ≤ (c6 : Int) := by omega
      go_wp2_with fail
      have HM : (k % (E : Int)).toNat < (encS r).length := by rw [← HE.out]; omega
      (with_reducible refine (DF.out ((k % (E : Int)).toNat) HM _ ((IB7.out.take (by have := HE.out; omega)).more (Nat.le_trans HS36.out HS67.out))).mono ?_)
      rintro e w8 hz
      unfold DecodePost at hz
      rw [RF.out ((k % (E : Int)).toNat) HM] at hz
      obtain ⟨rfl, hb8⟩ := hz
      have BX8 := Lib.hid (BX7.out.later hb8)
      have BS8 := Lib.hid (BS7.out.later hb8)
      have HW8 := Lib.hid (step_ HW7.out hb8)
      have RO8 := Lib.hid (RO7.out.below (hb8.mono HS67.out))
      have RX8 := Lib.hid (HIR.out.below HW8.out)
      have HS8 := Lib.hid (Nat.le_trans HS67.out hb8.size)
      have kA := (BX8.out.alloc (.cells (#[.int .u8 0, .int .u32 0, .int .u64 0, .int .u64 0, .int .u32 0, .int .u16 0, .bool false, .bool false, .slice none 0 0, .slice none 0 0, .slice none 0 0, .slice none 0 0]) 31)).cell
      have kS := (BS8.out.alloc (.cells (#[.int .u8 0, .int .u32 0, .int .u64 0, .int .u64 0, .int .u32 0, .int .u16 0, .bool false, .bool false, .slice none 0 0, .slice none 0 0, .slice none 0 0, .slice none 0 0]) 31)).cell
      have RO9 := Lib.hid (RO8.out.alloc HS8.out (.cells (#[.int .u8 0, .int .u32 0, .int .u64 0, .int .u64 0, .int .u32 0, .int .u16 0, .bool false, .bool false, .slice none 0 0, .slice none 0 0, .slice none 0 0, .slice none 0 0]) 31))
      have RX9 := Lib.hid (rc_more (RX8.out.alloc HW8.out.size (.cells (#[.int .u8 0, .int .u32 0, .int .u64 0, .int .u64 0, .int .u32 0, .int .u16 0, .bool false, .bool false, .slice none 0 0, .slice none 0 0, .slice none 0 0, .slice none 0 0]) 31)) HS06.out)
      have HW9 := Lib.hid (new_ HW8.out (.cells (#[.int .u8 0, .int .u32 0, .int .u64 0, .int .u64 0, .int .u32 0, .int .u16 0, .bool false, .bool false, .slice none 0 0, .slice none 0 0, .slice none 0 0, .slice none 0 0]) 31))
      have HS9 := Lib.hid (Nat.le_trans HS8.out (new_ (Below.refl w8.heap.size w8) (.cells (#[.int .u8 0, .int .u32 0, .int .u64 0, .int .u64 0, .int .u32 0, .int .u16 0, .bool false, .bool false, .slice none 0 0, .slice none 0 0, .slice none 0 0, .slice none 0 0]) 31)).size)
      clear hb8
      go_wp2_with fail
      first
        | (with_reducible refine (same_any_rc r r hr hr _ _ _ _ _ _ _ _ _ _ HS9.out RX9.out RO9.out).mono ?_)
        | (with_reducible refine (same_any_rc r r hr hr _ _ _ _ _ _ _ _ _ _ HS9.out RO9.out RX9.out).mono ?_)
      rintro e w9 ⟨q, rfl, hq, hb9⟩
      obtain rfl : q = true := hq.2 rfl
      have HB9 := Lib.hid hb9
      clear hb9 hq
      go_wp2
      go_ret
      exact ⟨rfl, step_ HW9.out HB9.out⟩


set_option maxRecDepth 100000 in
theorem lifted (os : Os) (started : os.Started) (H : Type) (enc : TypeId × Value → H) :
    ReturnsInHanded {} Try.checked os 5 .any (Rows.recBackSpec.pre6 enc Try.prog Try.f5 Rows.recBackRow.domain false) (Rows.recBackSpec.post enc Try.prog Try.f5 false true false false) := by
  refine returnsInHanded_of_change (C := Try.checked) own started (by kernel_rfl) Try.func5
    (ChangeSpec.witness6 (enc := enc) (C := Try.checked) false ⟨#[], #[.agg #[.int .u8 0, .int .u32 0, .int .u64 0, .int .u64 0, .int .u32 0, .int .u16 0, .bool false, .bool false, .slice none 0 0, .slice none 0 0, .slice none 0 0, .slice none 0 0], .slice none 0 0, .int .i64 0], []⟩ 8 (by kernel_rfl) (by kernel_rfl) (by kernel_rfl) (by kernel_rfl)) ?_
  intro W base args ds gs before hval0 hW hcnd _
  have hval : ∀ (j : Nat) t v, Try.f5.params[j]? = some t → args[j]? = some v → Value.okWide Try.prog W .any base t v := hval0
  have hW' := hW
  obtain ⟨p, q, hA0, hV, rfl, hfz, hnd⟩ := hW
  have hA1 : DataW.TrodAll enc Try.prog W 0 (fun _ => true) true Try.f5.params.toList args.toList ds p := hA0
  have hA := hA1
  rw [Try.params5] at hA hval
  obtain ⟨v0, vs0, d0, ds0, p0, q0, hargs, rfl, rfl, h0, r0⟩ := trodAll_cons hA
  obtain ⟨v1, vs1, d1, ds1, p1, q1, rfl, rfl, rfl, h1, r1⟩ := trodAll_cons r0
  obtain ⟨v2, vs2, d2, ds2, p2, q2, rfl, rfl, rfl, h2, r2⟩ := trodAll_cons r1
  obtain ⟨rfl, rfl, rfl⟩ := trodAll_nil r2
  obtain rfl : args = #[v0, v1, v2] := by cases args; simp_all
  obtain ⟨rfl, rfl⟩ := trodVars_none hV
  obtain ⟨r, r_1, r_2, r_3, r_4, rfl, ok0, i0⟩ := Rec.open_rc (hval 0 31 v0 rfl rfl) h0
  obtain ⟨xmore, i1, wf1⟩ := open_IR Try.underlying25 Try.underlying5 (by kernel_rfl) (hval 1 25 v1 rfl rfl) h1
  obtain ⟨k, rfl, rfl, rfl, wf2⟩ := open_int Try.underlying3 (hval 2 3 v2 rfl rfl) h2
  clear hA0 hval0
  refine (walk W r ok0 r_1 r_2 r_3 r_4 i0 v1 xmore i1 (fun n hn => bounds_u8 (wf1 n hn)) k (bounds_i64 wf2)).mono fun e W' ⟨he, bel⟩ => ?_
  subst he
  exact ⟨_, rfl, _, _, _, [], _, [], hW', trodAll_mk1 (shut_bool Try.underlying4 _), args_again laidOut bel (by kernel_rfl) hA1, rfl, bel.frame _, fun h => by cases h⟩

theorem over : Rows.recBackRow.holds Try.pinned (OpenSpec.ofChange Rows.recBackSpec) :=
  OpenClaim.holds_of_wide 5 Try.f5 rfl rfl rfl rfl rfl rfl rfl ⟨rfl, rfl, rfl, rfl, rfl⟩ rfl rfl rfl rfl rfl (by kernel_rfl) Try.func5 (by kernel_rfl)
    (of_decide_eq_true (by kernel_rfl)) (by unfold Func.isWrapper; first | (rw [if_pos (by decide +kernel)]; kernel_rfl) | (rw [if_neg (by decide +kernel)]; exact ⟨rfl, rfl⟩))
    (fun os started H enc _ => lifted os started H enc)

theorem proved : Rows.RecBackSaid := over
end Go.Proofs.Ytbbphfhkedldmaa.LRecBack
