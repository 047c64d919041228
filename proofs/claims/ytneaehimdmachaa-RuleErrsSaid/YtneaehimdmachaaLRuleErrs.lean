/- The law manciplelaw21.RuleErrs returns true whatever it is called with, and what it was called with reads as it did. No condition. -/
import Derived.Test.YtneaehimdmachaaLaw
import Derived.Test.YtneaehimdmachaaRule10
import Derived.Test.YtneaehimdmachaaRule11
import Derived.Deep.DeepCutAuto
namespace Go.Proofs.Ytneaehimdmachaa.LRuleErrs
open Go.ChangeShapes Go.WideShapes Go.ChangeAt Go.RowKit Go.IntWalk Go.Proofs.Mem Law
set_option linter.unusedVariables false
open Go.Proofs.Ytneaehimdmachaa.Rule
/-- the five operations -/
def five (kd wh wm wt id n pr kc m : Int) : Array Value := #[.int .u8 kd, .int .u32 0, .int .u32 wm, .int .u32 wt, .int .u32 id, .int .u64 n, .int .u64 pr, .int .u8 0, .int .u32 wh, .int .u32 wm, .int .u32 wt, .int .u32 id, .int .u64 n, .int .u64 pr,
  .int .u8 kc, .int .u32 wh, .int .u32 wm, .int .u32 wt, .int .u32 id, .int .u64 n, .int .u64 pr, .int .u8 11, .int .u32 m, .int .u32 m, .int .u32 wt, .int .u32 id, .int .u64 n, .int .u64 pr, .int .u8 2, .int .u32 m, .int .u32 wm, .int .u32 wt, .int .u32 id, .int .u64 0, .int .u64 pr]
theorem box_at {W : World} {C : Array Value} {t : TypeId} {g : Nat} (h : W.heap.size = g) : Box (W.alloc (.cells C t)) g C t := by subst h; exact Box.new _ _ _
set_option maxRecDepth 100000 in
set_option maxHeartbeats 8000000 in
theorem walk (w : World) (op : Rule.Ot) (hop : op.Ok) (seen : Value) (hseen : ∃ A l c, seen = .slice A l c ∧ l ≤ c ∧ c ≤ maxLen) :
    Calls Try.prog 6 #[.agg (Rule.Ot.cells op), seen] w fun e w' => e = .returned (.bool true) ∧ Below w.heap.size w w' := by
  obtain ⟨A, l, c, rfl, hlc, hcm⟩ := hseen
  unfold maxLen at hcm
  obtain ⟨kd, wh, wm, wt, id, n, pr⟩ := op
  obtain ⟨ok1, ok2, ok3, ok4, ok5, ok6, ok7⟩ := hop
  dsimp only at ok1 ok2 ok3 ok4 ok5 ok6 ok7
  unfold Ot.cells
  dsimp only
  by_cases hl : 40 < l
  · have d1 : decide (40 < (l : Int)) = true := decide_eq_true (by omega)
    have d1' : decide (40 < l) = true := decide_eq_true hl
    go_enter Try.func6, Try.ntmps6
    go_wp2_with (go_at_call 23; (with_reducible refine (known_any _).mono ?_); rintro e w1 ⟨rfl, hb1⟩)
    go_ret
    exact ⟨rfl, step_ (new_ (Below.refl _ _) _) hb1⟩
  · have d1 : decide (40 < (l : Int)) = false := decide_eq_false (by omega)
    have d1' : decide (40 < l) = false := decide_eq_false hl
    have OB := Lib.hid (Box.new w #[.int .u8 kd, .int .u32 wh, .int .u32 wm, .int .u32 wt, .int .u32 id, .int .u64 n, .int .u64 pr] 32)
    go_enter Try.func6, Try.ntmps6
    go_upto_region 17 with (go_at_call 23; (with_reducible refine (known_any _).mono ?_); rintro e w1 ⟨rfl, hb1⟩; have ob1 := OB.out.later hb1; have o0 := ob1.cell 0; have o1 := ob1.cell 1; have o2 := ob1.cell 2; have o3 := ob1.cell 3; have o4 := ob1.cell 4; have o5 := ob1.cell 5; have o6 := ob1.cell 6; simp only [List.getElem?_toArray, List.getElem?_cons_zero, List.getElem?_cons_succ] at o0 o1 o2 o3 o4 o5 o6; have HB1 := Lib.hid (step_ (new_ (Below.refl w.heap.size w) _) hb1); have OB1 := Lib.hid ob1; have hz1 : w.heap.size < w1.heap.size := (by have := ob1.lt; exact this); have hz2 : w.heap.size < w1.heap.size + 1 := (by omega); have hz3 : w.heap.size < w1.heap.size + 1 + 1 := (by omega); have hz4 : w.heap.size < w1.heap.size + 1 + 1 + 1 := (by omega); have hz5 : w.heap.size < w1.heap.size + 1 + 1 + 1 + 1 := (by omega); have hz6 : w.heap.size < w1.heap.size + 1 + 1 + 1 + 1 + 1 := (by omega); have hz7 : w.heap.size < w1.heap.size + 1 + 1 + 1 + 1 + 1 + 1 := (by omega); clear hb1 ob1)
    obtain ⟨m, hm⟩ : ∃ m, (if wh < 1 then (1 : Int) else wh) = m := ⟨_, rfl⟩
    obtain ⟨kc, hkc⟩ : ∃ kc, 19 + kd % 200 = kc := ⟨_, rfl⟩
    have hm0 : m ≠ 0 := by rw [← hm]; split <;> omega
    have hk19 : 19 ≤ kc := by omega
    rw [hm, hkc]
    have R0 := ref_who kd wm wt id n pr
    have R1 := ref_kind 0 wh wm wt id n pr (.inl rfl)
    have R2 := ref_kind kc wh wm wt id n pr (.inr hk19)
    have R3 := ref_trade m wt id n pr hm0
    have R4 := ref_mint m wm wt id pr hm0
    clear hm hkc o0 o1 o2 o3 o4 o5 o6 hz2 hz3 hz4 hz5 hz6 hz7
    go_wp2
    go_loopw [11] (fun i wr => ∃ k : Nat, i = .int .i64 k ∧ k ≤ 5 ∧ Hid (Box wr (w1.heap.size + 1 + 1 + 1 + 1 + 1) (five kd wh wm wt id n pr kc m) 32) ∧ Hid (Below w.heap.size w wr)) (fun i _ => 5 - (intOf i).toNat)
    case atStart => exact ⟨0, rfl, by decide, Lib.hid (box_at (by simp)), Lib.hid (new_ (new_ (new_ (new_ (new_ (new_ HB1.out _) _) _) _) _) _)⟩
    case round =>
      obtain ⟨k, rfl, hk, HBX, HBL⟩ := hrel
      by_cases hlt : k < 5
      · have hk5 : k = 0 ∨ k = 1 ∨ k = 2 ∨ k = 3 ∨ k = 4 := by omega
        clear hlt hk
        rcases hk5 with rfl | rfl | rfl | rfl | rfl
        · have lt := HBX.out.lt
          have q0 := HBX.out.cell 0
          have q1 := HBX.out.cell 1
          have q2 := HBX.out.cell 2
          have q3 := HBX.out.cell 3
          have q4 := HBX.out.cell 4
          have q5 := HBX.out.cell 5
          have q6 := HBX.out.cell 6
          simp only [five, List.getElem?_toArray, List.getElem?_cons_zero, List.getElem?_cons_succ] at q0 q1 q2 q3 q4 q5 q6
          go_wp2_with (first
            | (go_at_call 29; (with_reducible refine (next_ref R0 none 0 0 _).mono ?_); rintro e w3 ⟨rfl, hb3⟩; have bx3 := (HBX.out.later hb3).alloc (.cells #[.int .u8 0, .int .u32 0, .int .u32 0] 24); have s0 := bx3.cell 0; have s1 := bx3.cell 1; have s2 := bx3.cell 2; have s3 := bx3.cell 3; have s4 := bx3.cell 4; have s5 := bx3.cell 5; have s6 := bx3.cell 6; simp only [five, List.getElem?_toArray, List.getElem?_cons_zero, List.getElem?_cons_succ] at s0 s1 s2 s3 s4 s5 s6; have HB3 := Lib.hid hb3; have BX3 := Lib.hid bx3; have z3 := hb3.size; clear hb3 bx3 q0 q1 q2 q3 q4 q5 q6)
            | (go_at_call 27; (with_reducible refine (do_ref R0 A l c _).mono ?_); rintro e w4 ⟨rfl, hb4⟩; have HB4 := Lib.hid hb4; have BX4 := Lib.hid (BX3.out.later hb4); clear hb4 s0 s1 s2 s3 s4 s5 s6))
          go_roundw
          case rel => exact ⟨0 + 1, by go_num, by decide, Lib.hid (BX4.out.alloc _), Lib.hid (((HBL.out.trans (HB3.out.mono HBL.out.size)).alloc (by have := HBL.out.size; omega) _).trans (HB4.out.mono (by have := HBL.out.size; simp; omega)) |>.alloc (by have := HBL.out.size; have := HB4.out.size; simp at this; omega) _)⟩
          case measure => simp [intOf]
        · have lt := HBX.out.lt
          have q0 := HBX.out.cell 7
          have q1 := HBX.out.cell 8
          have q2 := HBX.out.cell 9
          have q3 := HBX.out.cell 10
          have q4 := HBX.out.cell 11
          have q5 := HBX.out.cell 12
          have q6 := HBX.out.cell 13
          simp only [five, List.getElem?_toArray, List.getElem?_cons_zero, List.getElem?_cons_succ] at q0 q1 q2 q3 q4 q5 q6
          go_wp2_with (first
            | (go_at_call 29; (with_reducible refine (next_ref R1 none 0 0 _).mono ?_); rintro e w3 ⟨rfl, hb3⟩; have bx3 := (HBX.out.later hb3).alloc (.cells #[.int .u8 0, .int .u32 0, .int .u32 0] 24); have s0 := bx3.cell 7; have s1 := bx3.cell 8; have s2 := bx3.cell 9; have s3 := bx3.cell 10; have s4 := bx3.cell 11; have s5 := bx3.cell 12; have s6 := bx3.cell 13; simp only [five, List.getElem?_toArray, List.getElem?_cons_zero, List.getElem?_cons_succ] at s0 s1 s2 s3 s4 s5 s6; have HB3 := Lib.hid hb3; have BX3 := Lib.hid bx3; have z3 := hb3.size; clear hb3 bx3 q0 q1 q2 q3 q4 q5 q6)
            | (go_at_call 27; (with_reducible refine (do_ref R1 A l c _).mono ?_); rintro e w4 ⟨rfl, hb4⟩; have HB4 := Lib.hid hb4; have BX4 := Lib.hid (BX3.out.later hb4); clear hb4 s0 s1 s2 s3 s4 s5 s6))
          go_roundw
          case rel => exact ⟨1 + 1, by go_num, by decide, Lib.hid (BX4.out.alloc _), Lib.hid (((HBL.out.trans (HB3.out.mono HBL.out.size)).alloc (by have := HBL.out.size; omega) _).trans (HB4.out.mono (by have := HBL.out.size; simp; omega)) |>.alloc (by have := HBL.out.size; have := HB4.out.size; simp at this; omega) _)⟩
          case measure => simp [intOf]
        · have lt := HBX.out.lt
          have q0 := HBX.out.cell 14
          have q1 := HBX.out.cell 15
          have q2 := HBX.out.cell 16
          have q3 := HBX.out.cell 17
          have q4 := HBX.out.cell 18
          have q5 := HBX.out.cell 19
          have q6 := HBX.out.cell 20
          simp only [five, List.getElem?_toArray, List.getElem?_cons_zero, List.getElem?_cons_succ] at q0 q1 q2 q3 q4 q5 q6
          go_wp2_with (first
            | (go_at_call 29; (with_reducible refine (next_ref R2 none 0 0 _).mono ?_); rintro e w3 ⟨rfl, hb3⟩; have bx3 := (HBX.out.later hb3).alloc (.cells #[.int .u8 0, .int .u32 0, .int .u32 0] 24); have s0 := bx3.cell 14; have s1 := bx3.cell 15; have s2 := bx3.cell 16; have s3 := bx3.cell 17; have s4 := bx3.cell 18; have s5 := bx3.cell 19; have s6 := bx3.cell 20; simp only [five, List.getElem?_toArray, List.getElem?_cons_zero, List.getElem?_cons_succ] at s0 s1 s2 s3 s4 s5 s6; have HB3 := Lib.hid hb3; have BX3 := Lib.hid bx3; have z3 := hb3.size; clear hb3 bx3 q0 q1 q2 q3 q4 q5 q6)
            | (go_at_call 27; (with_reducible refine (do_ref R2 A l c _).mono ?_); rintro e w4 ⟨rfl, hb4⟩; have HB4 := Lib.hid hb4; have BX4 := Lib.hid (BX3.out.later hb4); clear hb4 s0 s1 s2 s3 s4 s5 s6))
          go_roundw
          case rel => exact ⟨2 + 1, by go_num, by decide, Lib.hid (BX4.out.alloc _), Lib.hid (((HBL.out.trans (HB3.out.mono HBL.out.size)).alloc (by have := HBL.out.size; omega) _).trans (HB4.out.mono (by have := HBL.out.size; simp; omega)) |>.alloc (by have := HBL.out.size; have := HB4.out.size; simp at this; omega) _)⟩
          case measure => simp [intOf]
        · have lt := HBX.out.lt
          have q0 := HBX.out.cell 21
          have q1 := HBX.out.cell 22
          have q2 := HBX.out.cell 23
          have q3 := HBX.out.cell 24
          have q4 := HBX.out.cell 25
          have q5 := HBX.out.cell 26
          have q6 := HBX.out.cell 27
          simp only [five, List.getElem?_toArray, List.getElem?_cons_zero, List.getElem?_cons_succ] at q0 q1 q2 q3 q4 q5 q6
          go_wp2_with (first
            | (go_at_call 29; (with_reducible refine (next_ref R3 none 0 0 _).mono ?_); rintro e w3 ⟨rfl, hb3⟩; have bx3 := (HBX.out.later hb3).alloc (.cells #[.int .u8 0, .int .u32 0, .int .u32 0] 24); have s0 := bx3.cell 21; have s1 := bx3.cell 22; have s2 := bx3.cell 23; have s3 := bx3.cell 24; have s4 := bx3.cell 25; have s5 := bx3.cell 26; have s6 := bx3.cell 27; simp only [five, List.getElem?_toArray, List.getElem?_cons_zero, List.getElem?_cons_succ] at s0 s1 s2 s3 s4 s5 s6; have HB3 := Lib.hid hb3; have BX3 := Lib.hid bx3; have z3 := hb3.size; clear hb3 bx3 q0 q1 q2 q3 q4 q5 q6)
            | (go_at_call 27; (with_reducible refine (do_ref R3 A l c _).mono ?_); rintro e w4 ⟨rfl, hb4⟩; have HB4 := Lib.hid hb4; have BX4 := Lib.hid (BX3.out.later hb4); clear hb4 s0 s1 s2 s3 s4 s5 s6))
          go_roundw
          case rel => exact ⟨3 + 1, by go_num, by decide, Lib.hid (BX4.out.alloc _), Lib.hid (((HBL.out.trans (HB3.out.mono HBL.out.size)).alloc (by have := HBL.out.size; omega) _).trans (HB4.out.mono (by have := HBL.out.size; simp; omega)) |>.alloc (by have := HBL.out.size; have := HB4.out.size; simp at this; omega) _)⟩
          case measure => simp [intOf]
        · have lt := HBX.out.lt
          have q0 := HBX.out.cell 28
          have q1 := HBX.out.cell 29
          have q2 := HBX.out.cell 30
          have q3 := HBX.out.cell 31
          have q4 := HBX.out.cell 32
          have q5 := HBX.out.cell 33
          have q6 := HBX.out.cell 34
          simp only [five, List.getElem?_toArray, List.getElem?_cons_zero, List.getElem?_cons_succ] at q0 q1 q2 q3 q4 q5 q6
          go_wp2_with (first
            | (go_at_call 29; (with_reducible refine (next_ref R4 none 0 0 _).mono ?_); rintro e w3 ⟨rfl, hb3⟩; have bx3 := (HBX.out.later hb3).alloc (.cells #[.int .u8 0, .int .u32 0, .int .u32 0] 24); have s0 := bx3.cell 28; have s1 := bx3.cell 29; have s2 := bx3.cell 30; have s3 := bx3.cell 31; have s4 := bx3.cell 32; have s5 := bx3.cell 33; have s6 := bx3.cell 34; simp only [five, List.getElem?_toArray, List.getElem?_cons_zero, List.getElem?_cons_succ] at s0 s1 s2 s3 s4 s5 s6; have HB3 := Lib.hid hb3; have BX3 := Lib.hid bx3; have z3 := hb3.size; clear hb3 bx3 q0 q1 q2 q3 q4 q5 q6)
            | (go_at_call 27; (with_reducible refine (do_ref R4 A l c _).mono ?_); rintro e w4 ⟨rfl, hb4⟩; have HB4 := Lib.hid hb4; have BX4 := Lib.hid (BX3.out.later hb4); clear hb4 s0 s1 s2 s3 s4 s5 s6))
          go_roundw
          case rel => exact ⟨4 + 1, by go_num, by decide, Lib.hid (BX4.out.alloc _), Lib.hid (((HBL.out.trans (HB3.out.mono HBL.out.size)).alloc (by have := HBL.out.size; omega) _).trans (HB4.out.mono (by have := HBL.out.size; simp; omega)) |>.alloc (by have := HBL.out.size; have := HB4.out.size; simp at this; omega) _)⟩
          case measure => simp [intOf]
      · obtain rfl : k = 5 := by omega
        go_wp2
        go_ret
        exact ⟨rfl, HBL.out⟩


set_option maxRecDepth 100000 in
theorem lifted (os : Os) (started : os.Started) (H : Type) (enc : TypeId × Value → H) :
    ReturnsInHanded {} Try.checked os 6 .any (Rows.ruleErrsSpec.pre6 enc Try.prog Try.f6 Rows.ruleErrsRow.domain false) (Rows.ruleErrsSpec.post enc Try.prog Try.f6 false true false false) := by
  refine returnsInHanded_of_change (C := Try.checked) own started (by kernel_rfl) Try.func6
    (ChangeSpec.witness6 (enc := enc) (C := Try.checked) false ⟨#[], #[.agg #[.int .u8 0, .int .u32 0, .int .u32 0, .int .u32 0, .int .u32 0, .int .u64 0, .int .u64 0], .slice none 0 0], []⟩ 8 (by kernel_rfl) (by kernel_rfl) (by kernel_rfl) (by kernel_rfl)) ?_
  intro W base args ds gs before hval0 hW hcnd _
  have hval : ∀ (j : Nat) t v, Try.f6.params[j]? = some t → args[j]? = some v → Value.okWide Try.prog W .any base t v := hval0
  have hW' := hW
  obtain ⟨p, q, hA0, hV, rfl, hfz, hnd⟩ := hW
  have hA1 : DataW.TrodAll enc Try.prog W 0 (fun _ => true) true Try.f6.params.toList args.toList ds p := hA0
  have hA := hA1
  rw [Try.params6] at hA hval
  obtain ⟨v0, vs0, d0, ds0, p0, q0, hargs, rfl, rfl, h0, r0⟩ := trodAll_cons hA
  obtain ⟨v1, vs1, d1, ds1, p1, q1, rfl, rfl, rfl, h1, r1⟩ := trodAll_cons r0
  obtain ⟨rfl, rfl, rfl⟩ := trodAll_nil r1
  obtain rfl : args = #[v0, v1] := by cases args; simp_all
  obtain ⟨rfl, rfl⟩ := trodVars_none hV
  obtain ⟨op, ok0, rfl⟩ := Rule.open_op (hval 0 32 v0 rfl rfl) h0
  have i1 := Rule.open_sl Try.underlying33 (hval 1 33 v1 rfl rfl) h1
  clear hA0 hval0
  refine (walk W op ok0 v1 i1).mono fun e W' ⟨he, bel⟩ => ?_
  subst he
  exact ⟨_, rfl, _, _, _, [], _, [], hW', trodAll_mk1 (shut_bool Try.underlying4 _), args_again laidOut bel (by kernel_rfl) hA1, rfl, bel.frame _, fun h => by cases h⟩

theorem over : Rows.ruleErrsRow.holds Try.pinned (OpenSpec.ofChange Rows.ruleErrsSpec) :=
  OpenClaim.holds_of_wide 6 Try.f6 rfl rfl rfl rfl rfl rfl rfl ⟨rfl, rfl, rfl, rfl, rfl⟩ rfl rfl rfl rfl rfl (by kernel_rfl) Try.func6 (by kernel_rfl)
    (of_decide_eq_true (by kernel_rfl)) (by unfold Func.isWrapper; first | (rw [if_pos (by decide +kernel)]; kernel_rfl) | (rw [if_neg (by decide +kernel)]; exact ⟨rfl, rfl⟩))
    (fun os started H enc _ => lifted os started H enc)

theorem proved : Rows.RuleErrsSaid := over
end Go.Proofs.Ytneaehimdmachaa.LRuleErrs
