/- The law manciplelaw06.RecDecodes returns true whatever it is called with, and what it was called with reads as it did. No condition. -/
import Derived.Test.YtbbphfhkedldmaaLaw
import Derived.Test.YtbbphfhkedldmaaRecEnd2
import Derived.Test.YtbbphfhkedldmaaRecJ
namespace Go.Proofs.Ytbbphfhkedldmaa.LRecDecodes
open Go.ChangeShapes Go.WideShapes Go.ChangeAt Go.RowKit Go.IntWalk Go.Proofs.Mem Law
set_option linter.unusedVariables false
open NumBytes CrcA Rec
set_option linter.unusedSimpArgs false
theorem resD_no {xs : List Int} {er : Int} (h : resD xs = (none, er)) : er = 60 ∨ er = 61 := by
  unfold resD at h
  split at h
  · injection h with _ h; exact .inl h.symm
  split at h
  · injection h with _ h; exact .inl h.symm
  cases e : rDec (xs.take (lenB xs)) with
  | none => rw [e] at h; injection h with _ h; exact .inr h.symm
  | some r => rw [e] at h; injection h with h _; cases h
theorem rc_more {w : World} {B B' : Nat} {r : Rc} {a b ta da : Value} (h : RcIn w B r a b ta da) (hB : B ≤ B') : RcIn w B' r a b ta da := ⟨h.a.more hB, h.b.more hB, h.t.more hB, h.d.more hB⟩
@[reducible] def bareR : Rc := ⟨0, 0, 0, 0, nullC, [], []⟩
theorem bare_ok : bareR.Ok := ⟨by decide, by decide, by decide, by decide, nullC_ok, fun a ha => (List.not_mem_nil ha).elim, fun a ha => (List.not_mem_nil ha).elim⟩
theorem bare_in (w : World) : RcIn w w.heap.size bareR (.slice none 0 0) (.slice none 0 0) (.slice none 0 0) (.slice none 0 0) :=
  RcOwn.in_ (base := 0) ⟨World.ownsRow_nil _ _ _ _, World.ownsRow_nil _ _ _ _, World.ownsRow_nil _ _ _ _, World.ownsRow_nil _ _ _ _⟩
set_option maxRecDepth 100000 in
set_option maxHeartbeats 16000000 in
theorem walk (w : World) (b : Value) (xb : List Int) (hb : IR w w.heap.size .u8 b xb) (bb : Bytes xb) :
    Calls Try.prog 4 #[b] w fun e w' => e = .returned (.bool true) ∧ Below w.heap.size w w' := by
  obtain ⟨A1, c1, e1, hl1, hm1⟩ := hb.form
  subst e1
  unfold maxLen at hm1
  obtain ⟨L, hL⟩ : ∃ n, n = xb.length := ⟨_, rfl⟩
  rw [← hL] at hb hl1 ⊢
  obtain ⟨q2, hq2⟩ : ∃ q, q = decide (3000 < L) := ⟨_, rfl⟩
  have d2 : decide ((3000 : Int) < (L : Int)) = q2 := by rw [hq2, decide_eq_decide]; omega
  have HLEN := Lib.hid (show q2 = false → L ≤ 3000 from fun h => by rw [hq2] at h; simpa using h)
  have HLM := Lib.hid hL
  have HB0 := Lib.hid hb
  have HBB := Lib.hid bb
  clear hq2 hL hb bb
  go_enter Try.func4, Try.ntmps4
  go_wp2_with (go_at_call 10; (with_reducible refine (known_any _).mono ?_); rintro e w2 ⟨rfl, hb2⟩; have HW2 := Lib.hid hb2; clear hb2)
  all_goals first
    | (go_ret; exact ⟨rfl, HW2.out⟩)
    | skip
  have hL3 : xb.length ≤ 3000 := by rw [← HLM.out]; exact HLEN.out (by simpa using (show ¬ q2 = true by assumption))
  have HL3 := Lib.hid hL3
  clear d2 hL3
  (with_reducible refine (lent_any _ xb _ _ ((HB0.out.below HW2.out).more HW2.out.size) (by have := HL3.out; omega)).mono ?_)
  rintro e w3 ⟨u3, rfl, o3, hb3⟩
  obtain ⟨A3, c3, e3, hl3, hm3⟩ := (IR.of_own o3).form
  rw [← HLM.out] at e3
  subst e3
  have O3 := Lib.hid o3
  have HW3 := Lib.hid (step_ HW2.out hb3)
  have I3 := Lib.hid (IR.of_own o3)
  clear o3 hb3 hl3
  have DA := Lib.hid (decode_all_any w3 _ xb I3.out HBB.out (by have := HL3.out; omega))
  have RD := Lib.hid (fun W (h : Below w.heap.size w W) => decode_ref W (.slice A1 L c1) xb ((HB0.out.below h).more h.size) HBB.out (by have := HL3.out; omega))
  have SB := Lib.hid (fun W (h3 : Below w3.heap.size w3 W) (h : Below w.heap.size w W) => same_any (.slice A3 L c3) (.slice A1 L c1) xb xb W W.heap.size W.heap.size ((I3.out.below h3).more h3.size) ((HB0.out.below h).more h.size) HBB.out HBB.out)
  go_wp2_with fail
  (with_reducible refine DA.out.mono ?_)
  rintro e w4 hz
  rcases hr0 : resD xb with ⟨o, er⟩
  unfold DecodePost at hz
  rw [hr0] at hz
  cases o with
  | none =>
    obtain ⟨rfl, hb4⟩ := hz
    have HR0 := Lib.hid hr0
    have HW4 := Lib.hid (step_ HW3.out hb4)
    have H34 := Lib.hid hb4
    have BR5 := Lib.hid (Box.new w4 #[.int .u8 0, .int .u32 0, .int .u64 0, .int .u64 0, .int .u32 0, .int .u16 0, .bool false, .bool false, .slice none 0 0, .slice none 0 0, .slice none 0 0, .slice none 0 0] 31)
    have HW5 := Lib.hid (new_ HW4.out (.cells (#[.int .u8 0, .int .u32 0, .int .u64 0, .int .u64 0, .int .u32 0, .int .u16 0, .bool false, .bool false, .slice none 0 0, .slice none 0 0, .slice none 0 0, .slice none 0 0]) 31))
    have H35 := Lib.hid (new_ H34.out (.cells (#[.int .u8 0, .int .u32 0, .int .u64 0, .int .u64 0, .int .u32 0, .int .u16 0, .bool false, .bool false, .slice none 0 0, .slice none 0 0, .slice none 0 0, .slice none 0 0]) 31))
    clear hb4 hr0
    go_wp2_with fail
    (with_reducible refine (RD.out _ HW5.out).mono ?_)
    rintro e w6 hz
    unfold RefPost at hz
    rw [HR0.out] at hz
    obtain ⟨rfl, hb6⟩ := hz
    have BR7 := Lib.hid ((BR5.out.later hb6).alloc (.cells (#[.int .u8 0, .int .u32 0, .int .u64 0, .int .u64 0, .int .u32 0, .int .u16 0, .bool false, .bool false, .slice none 0 0, .slice none 0 0, .slice none 0 0, .slice none 0 0]) 31))
    have HW7 := Lib.hid (new_ (step_ HW5.out hb6) (.cells (#[.int .u8 0, .int .u32 0, .int .u64 0, .int .u64 0, .int .u32 0, .int .u16 0, .bool false, .bool false, .slice none 0 0, .slice none 0 0, .slice none 0 0, .slice none 0 0]) 31))
    have H37 := Lib.hid (new_ (step_ H35.out hb6) (.cells (#[.int .u8 0, .int .u32 0, .int .u64 0, .int .u64 0, .int .u32 0, .int .u16 0, .bool false, .bool false, .slice none 0 0, .slice none 0 0, .slice none 0 0, .slice none 0 0]) 31))
    have BS7 := Lib.hid (Box.new w6 #[.int .u8 0, .int .u32 0, .int .u64 0, .int .u64 0, .int .u32 0, .int .u16 0, .bool false, .bool false, .slice none 0 0, .slice none 0 0, .slice none 0 0, .slice none 0 0] 31)
    have kR := BR7.out.cell
    have kS := BS7.out.cell
    clear hb6
    rcases resD_no HR0.out with rfl | rfl
    · skip
      go_wp2_with fail
      (with_reducible refine (same_any_rc bareR bareR bare_ok bare_ok _ _ _ _ _ _ _ _ _ _ (Nat.le_refl _) (bare_in _) (bare_in _)).mono ?_)
      rintro e w8 ⟨q, rfl, hq, hb8⟩
      obtain rfl : q = true := hq.2 rfl
      have HW8 := Lib.hid (step_ HW7.out hb8)
      have H38 := Lib.hid (step_ H37.out hb8)
      clear hq hb8
      go_wp2_with fail
      (with_reducible refine (SB.out _ H38.out HW8.out).mono ?_)
      rintro e w9 ⟨rfl, rfl⟩
      go_wp2
      go_ret
      exact ⟨rfl, HW8.out⟩
    · skip
      go_wp2_with fail
      (with_reducible refine (same_any_rc bareR bareR bare_ok bare_ok _ _ _ _ _ _ _ _ _ _ (Nat.le_refl _) (bare_in _) (bare_in _)).mono ?_)
      rintro e w8 ⟨q, rfl, hq, hb8⟩
      obtain rfl : q = true := hq.2 rfl
      have HW8 := Lib.hid (step_ HW7.out hb8)
      have H38 := Lib.hid (step_ H37.out hb8)
      clear hq hb8
      go_wp2_with fail
      (with_reducible refine (SB.out _ H38.out HW8.out).mono ?_)
      rintro e w9 ⟨rfl, rfl⟩
      go_wp2
      go_ret
      exact ⟨rfl, HW8.out⟩
  | some r =>
    obtain ⟨sa, sb, st, sd, rfl, ro, hb4⟩ := hz
    obtain ⟨rfl, hr, hm, ht, hle, hln⟩ := resD_inv hr0 HBB.out
    obtain ⟨B1, l1, e1, _, _⟩ := ro.in_.a.form
    obtain ⟨B2, l2, e2, _, _⟩ := ro.in_.b.form
    obtain ⟨B3, l3, e3, _, _⟩ := ro.in_.t.form
    obtain ⟨B4, l4, e4, _, _⟩ := ro.in_.d.form
    subst e1 e2 e3 e4
    obtain ⟨E, hE⟩ : ∃ E, E = lenB xb := ⟨_, rfl⟩
    rw [← hE]
    have HE := Lib.hid hE
    have HR0 := Lib.hid hr0
    have HW4 := Lib.hid (step_ HW3.out hb4)
    have H34 := Lib.hid hb4
    have RO4 := Lib.hid ro.in_
    have BR5 := Lib.hid (Box.new w4 (rcV r (.slice B1 r.c.xs.length l1) (.slice B2 r.c.ys.length l2) (.slice B3 r.ts.length l3) (.slice B4 r.ds.length l4)) 31)
    have HW5 := Lib.hid (new_ HW4.out (.cells (rcV r (.slice B1 r.c.xs.length l1) (.slice B2 r.c.ys.length l2) (.slice B3 r.ts.length l3) (.slice B4 r.ds.length l4)) 31))
    have H35 := Lib.hid (new_ H34.out (.cells (rcV r (.slice B1 r.c.xs.length l1) (.slice B2 r.c.ys.length l2) (.slice B3 r.ts.length l3) (.slice B4 r.ds.length l4)) 31))
    have RO5 := Lib.hid (RO4.out.alloc (Nat.le_refl _) (.cells (rcV r (.slice B1 r.c.xs.length l1) (.slice B2 r.c.ys.length l2) (.slice B3 r.ts.length l3) (.slice B4 r.ds.length l4)) 31))
    have HS5 := Lib.hid (new_ (Below.refl w4.heap.size w4) (.cells (rcV r (.slice B1 r.c.xs.length l1) (.slice B2 r.c.ys.length l2) (.slice B3 r.ts.length l3) (.slice B4 r.ds.length l4)) 31)).size
    clear hb4 hr0 ro ht hle hln hE
    go_wp2_with fail
    (with_reducible refine (RD.out _ HW5.out).mono ?_)
    rintro e w6 hz
    unfold RefPost at hz
    rw [HR0.out, ← HE.out] at hz
    obtain ⟨sa, sb, st, sd, rfl, ri, hb6⟩ := hz
    obtain ⟨F1, m1, e1, _, _⟩ := ri.a.form
    obtain ⟨F2, m2, e2, _, _⟩ := ri.b.form
    obtain ⟨F3, m3, e3, _, _⟩ := ri.t.form
    obtain ⟨F4, m4, e4, _, _⟩ := ri.d.form
    subst e1 e2 e3 e4
    have RO6 := Lib.hid (RO5.out.below (hb6.mono HS5.out))
    have HS6 := Lib.hid (Nat.le_trans HS5.out hb6.size)
    have RO7 := Lib.hid (rc_more (RO6.out.alloc HS6.out (.cells (rcV r (.slice F1 r.c.xs.length m1) (.slice F2 r.c.ys.length m2) (.slice F3 r.ts.length m3) (.slice F4 r.ds.length m4)) 31)) (Nat.le_trans HS6.out (new_ (Below.refl w6.heap.size w6) (.cells (rcV r (.slice F1 r.c.xs.length m1) (.slice F2 r.c.ys.length m2) (.slice F3 r.ts.length m3) (.slice F4 r.ds.length m4)) 31)).size))
    have RI7 := Lib.hid (rc_more (ri.alloc (Nat.le_refl _) (.cells (rcV r (.slice F1 r.c.xs.length m1) (.slice F2 r.c.ys.length m2) (.slice F3 r.ts.length m3) (.slice F4 r.ds.length m4)) 31)) (new_ (Below.refl w6.heap.size w6) (.cells (rcV r (.slice F1 r.c.xs.length m1) (.slice F2 r.c.ys.length m2) (.slice F3 r.ts.length m3) (.slice F4 r.ds.length m4)) 31)).size)
    have BR7 := Lib.hid ((BR5.out.later hb6).alloc (.cells (rcV r (.slice F1 r.c.xs.length m1) (.slice F2 r.c.ys.length m2) (.slice F3 r.ts.length m3) (.slice F4 r.ds.length m4)) 31))
    have HW7 := Lib.hid (new_ (step_ HW5.out hb6) (.cells (rcV r (.slice F1 r.c.xs.length m1) (.slice F2 r.c.ys.length m2) (.slice F3 r.ts.length m3) (.slice F4 r.ds.length m4)) 31))
    have H37 := Lib.hid (new_ (step_ H35.out hb6) (.cells (rcV r (.slice F1 r.c.xs.length m1) (.slice F2 r.c.ys.length m2) (.slice F3 r.ts.length m3) (.slice F4 r.ds.length m4)) 31))
    have BS7 := Lib.hid (Box.new w6 (rcV r (.slice F1 r.c.xs.length m1) (.slice F2 r.c.ys.length m2) (.slice F3 r.ts.length m3) (.slice F4 r.ds.length m4)) 31)
    have kR := BR7.out.cell
    have kS := BS7.out.cell
    clear hb6 ri
    go_wp2_with fail
    (with_reducible refine (same_any_rc r r hr hr _ _ _ _ _ _ _ _ _ _ (Nat.le_refl _) RO7.out RI7.out).mono ?_)
    rintro e w8 ⟨q, rfl, hq, hb8⟩
    obtain rfl : q = true := hq.2 rfl
    have HW8 := Lib.hid (step_ HW7.out hb8)
    have H38 := Lib.hid (step_ H37.out hb8)
    clear hq hb8
    go_wp2_with fail
    (with_reducible refine (SB.out _ H38.out HW8.out).mono ?_)
    rintro e w9 ⟨rfl, rfl⟩
    go_wp2
    go_ret
    exact ⟨rfl, HW8.out⟩


set_option maxRecDepth 100000 in
theorem lifted (os : Os) (started : os.Started) (H : Type) (enc : TypeId × Value → H) :
    ReturnsInHanded {} Try.checked os 4 .any (Rows.recDecodesSpec.pre6 enc Try.prog Try.f4 Rows.recDecodesRow.domain false) (Rows.recDecodesSpec.post enc Try.prog Try.f4 false true false false) := by
  refine returnsInHanded_of_change (C := Try.checked) own started (by kernel_rfl) Try.func4
    (ChangeSpec.witness6 (enc := enc) (C := Try.checked) false ⟨#[], #[.slice none 0 0], []⟩ 8 (by kernel_rfl) (by kernel_rfl) (by kernel_rfl) (by kernel_rfl)) ?_
  intro W base args ds gs before hval0 hW hcnd _
  have hval : ∀ (j : Nat) t v, Try.f4.params[j]? = some t → args[j]? = some v → Value.okWide Try.prog W .any base t v := hval0
  have hW' := hW
  obtain ⟨p, q, hA0, hV, rfl, hfz, hnd⟩ := hW
  have hA1 : DataW.TrodAll enc Try.prog W 0 (fun _ => true) true Try.f4.params.toList args.toList ds p := hA0
  have hA := hA1
  rw [Try.params4] at hA hval
  obtain ⟨v0, vs0, d0, ds0, p0, q0, hargs, rfl, rfl, h0, r0⟩ := trodAll_cons hA
  obtain ⟨rfl, rfl, rfl⟩ := trodAll_nil r0
  obtain rfl : args = #[v0] := by cases args; simp_all
  obtain ⟨rfl, rfl⟩ := trodVars_none hV
  obtain ⟨xb, i0, wf0⟩ := open_IR Try.underlying25 Try.underlying5 (by kernel_rfl) (hval 0 25 v0 rfl rfl) h0
  clear hA0 hval0
  refine (walk W v0 xb i0 (fun n hn => bounds_u8 (wf0 n hn))).mono fun e W' ⟨he, bel⟩ => ?_
  subst he
  exact ⟨_, rfl, _, _, _, [], _, [], hW', trodAll_mk1 (shut_bool Try.underlying4 _), args_again laidOut bel (by kernel_rfl) hA1, rfl, bel.frame _, fun h => by cases h⟩

theorem over : Rows.recDecodesRow.holds Try.pinned (OpenSpec.ofChange Rows.recDecodesSpec) :=
  OpenClaim.holds_of_wide 4 Try.f4 rfl rfl rfl rfl rfl rfl rfl ⟨rfl, rfl, rfl, rfl, rfl⟩ rfl rfl rfl rfl rfl (by kernel_rfl) Try.func4 (by kernel_rfl)
    (of_decide_eq_true (by kernel_rfl)) (by unfold Func.isWrapper; first | (rw [if_pos (by decide +kernel)]; kernel_rfl) | (rw [if_neg (by decide +kernel)]; exact ⟨rfl, rfl⟩))
    (fun os started H enc _ => lifted os started H enc)

theorem proved : Rows.RecDecodesSaid := over
end Go.Proofs.Ytbbphfhkedldmaa.LRecDecodes
