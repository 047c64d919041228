/- The law manciplelaw23.CodecOnly returns true whatever it is called with, and what it was called with reads as it did. No condition. -/
import Derived.Test.YtnajmdgheohpjaaLaw
import Derived.Test.YtnajmdgheohpjaaCodecA
import Derived.Test.YtnajmdgheohpjaaCodec8
import Derived.Test.YtnajmdgheohpjaaCodec4
import Derived.Test.YtnajmdgheohpjaaCodec3
import Derived.Test.YtnajmdgheohpjaaCodecB
import Derived.Test.YtnajmdgheohpjaaCodecOpen
namespace Go.Proofs.Ytnajmdgheohpjaa.LCodecOnly
open Go.ChangeShapes Go.WideShapes Go.ChangeAt Go.RowKit Go.IntWalk Go.Proofs.Mem Law
set_option linter.unusedVariables false
open NumBytes Go.Proofs.Each Codec
theorem off_len (xs : List Int) (h : xs.length ≠ 38) : askedQ xs = zeroQ ∧ askedE xs = 230 := by
  have hn : ¬ (xs.length = 38 ∧ mayB (ofB xs) = true) := fun k => h k.1
  unfold askedQ askedE
  rw [if_neg hn, if_neg hn]; exact ⟨rfl, rfl⟩
set_option maxRecDepth 100000 in
set_option maxHeartbeats 8000000 in
theorem walk (w : World) (b : Value) (xb : List Int) (hb : IR w w.heap.size .u8 b xb) (bb : Bytes xb) (c : Int) (hc : 0 ≤ c ∧ c ≤ 255) :
    Calls Try.prog 6 #[b, .int .u8 c] w fun e w' => e = .returned (.bool true) ∧ Below w.heap.size w w' := by
  obtain ⟨A, cc, rfl, hlc, hcm⟩ := hb.form
  unfold maxLen at hcm
  by_cases hl : xb.length ≤ 200
  · have hd : decide (200 < (xb.length : Int)) = false := decide_eq_false (by omega)
    by_cases hg : xb.length = 38 ∧ mayB (ofB xb) = true
    · obtain ⟨hx, hm⟩ := hg
      have hq1 : askedQ xb = ofB xb := by unfold askedQ; rw [if_pos ⟨hx, hm⟩]
      have hq2 : askedE xb = 0 := by unfold askedE; rw [if_pos ⟨hx, hm⟩]
      have HQ := Lib.hid (fun (v : Value) W h => asked_any v xb bb W h (by omega))
      have bm : Bytes (xb ++ [c]) := bb.app (fun y hy => by rw [List.mem_singleton] at hy; subst hy; exact hc)
      have hM := fun (v : Value) W h => asked_any v (xb ++ [c]) bm W h (by simp; omega)
      have ht : Bytes (xb.take 37) := bytes_take bb 37
      have hT := fun (v : Value) W h => asked_any v (xb.take 37) ht W h (by simp; omega)
      obtain ⟨m1, m2⟩ := off_len (xb ++ [c]) (by simp; omega)
      obtain ⟨t1, t2⟩ := off_len (xb.take 37) (by simp; omega)
      have hAq := fun W => ask_any (ofB xb) (ofB_ok xb bb) W
      rw [ask_of xb bb hx] at hAq
      rw [hq1, hq2] at HQ
      rw [m1, m2] at hM
      rw [t1, t2] at hT
      obtain ⟨x, hxx⟩ : ∃ x, ofB xb = x := ⟨_, rfl⟩
      rw [hxx] at HQ hAq
      unfold cellsQ at HQ hM hT hAq
      unfold zeroQ at hM hT
      dsimp only at hM hT
      have HM := Lib.hid hM
      have HT := Lib.hid hT
      have HA := Lib.hid hAq
      have HBM := Lib.hid bm
      clear hM hT hAq m1 m2 t1 t2 hq1 hq2 hm hxx bm ht
      rw [hx] at hb hlc hd ⊢
      obtain ⟨i0, hi0, hz0, hz1, hz2⟩ := info_parts u8_info
      go_enter Try.func6, Try.ntmps6
      go_wp2_with fail
      (with_reducible refine (known_any _).mono ?_)
      rintro e w1 ⟨rfl, hb1⟩
      have i1 := hb.below hb1
      have hw1 := hb1
      clear hb1
      (go_wp2_with fail)
      (with_reducible refine (HQ.out _ _ (i1.more hw1.size)).mono ?_)
      rintro e w2 ⟨rfl, hb2⟩
      have bX := Box.new w2 #[.int .u8 x.kind, .int .u32 x.n, .int .u8 x.k, .int .u32 x.who, .int .u32 x.whom, .int .u32 x.what, .int .u32 x.id, .int .u64 x.am, .int .u64 x.price] 27
      have hw3 := new_ (step_ hw1 hb2) (.cells #[.int .u8 x.kind, .int .u32 x.n, .int .u8 x.k, .int .u32 x.who, .int .u32 x.whom, .int .u32 x.what, .int .u32 x.id, .int .u64 x.am, .int .u64 x.price] 27)
      have hs2 := (step_ hw1 hb2).size
      have i3 := hb.below hw3
      have i3' := i3.more (show w.heap.size ≤ w2.heap.size + 1 by omega)
      go_wp2_with (first
        | (at_builtin; refine wpList_append_all _ rfl _ _ _ rfl (w2.heap.size + 1) 5 i0 .u8 1 Try.underlying28 hi0 hz0 hz1 hz2 (.slice none 0 0) 0 [] rfl (World.ownsRow_nil _ _ _ _) (w2.heap.size + 1) _ xb rfl i3' (by simp only [maxLen]; omega) (by omega) (by simp) ?_; intro v4 w4 hown4 hb4; rw [Nat.zero_add, List.nil_append, hx] at hown4; have bX4 := bX.below hb4 (Nat.lt_succ_self _); have hz4 : w2.heap.size + 1 ≤ w4.heap.size := bX4.lt)
        | (at_builtin; refine wpList_push _ rfl _ _ _ rfl (w2.heap.size + 1) 5 i0 .u8 1 Try.underlying28 hi0 hz0 hz1 hz2 _ 38 xb rfl (World.ownsRow.alloc hown4 _) w4.heap.size c rfl (cell_new _ _ _ 0) (by simp only [maxLen]; omega) (by omega) (by simp; omega) ?_; intro v5 w5 hown5 hb5))
      have bX5 := (bX4.alloc _).below hb5 (Nat.lt_succ_self _)
      have hw4 : Below w.heap.size w w4 := hw3.trans (hb4.mono (by omega))
      have hw5 : Below w.heap.size w w5 := (new_ hw4 _).trans (hb5.mono (by omega))
      have i5 := IR.of_own hown5
      (go_wp2_with fail)
      (with_reducible refine (HM.out _ _ i5).mono ?_)
      rintro e w6 ⟨rfl, hb6⟩
      have bX7 := (bX5.later hb6).alloc (.cells #[.int .u8 0, .int .u32 0, .int .u8 0, .int .u32 0, .int .u32 0, .int .u32 0, .int .u32 0, .int .u64 0, .int .u64 0] 27)
      have hw7 := new_ (step_ hw5 hb6) (.cells #[.int .u8 0, .int .u32 0, .int .u8 0, .int .u32 0, .int .u32 0, .int .u32 0, .int .u32 0, .int .u64 0, .int .u64 0] 27)
      have i7 := (hb.below hw7).more hw7.size
      have i7' := i7.take (m := 37) (by omega)
      have d1 : decide (cc < 37) = false := decide_eq_false (by omega)
      have d2 : decide ((cc : Int) < 37) = false := decide_eq_false (by omega)
      clear bX bX4 hz4 hown4 hb4 hown5 hb5 bX5 i5 i3 i3' hb2 i1
      (go_wp2_with fail)
      (with_reducible refine (HT.out _ _ i7').mono ?_)
      rintro e w8 ⟨rfl, hb8⟩
      have bX9 := (bX7.later hb8).alloc (.cells #[.int .u8 0, .int .u32 0, .int .u8 0, .int .u32 0, .int .u32 0, .int .u32 0, .int .u32 0, .int .u64 0, .int .u64 0] 27)
      have hw9 := new_ (step_ hw7 hb8) (.cells #[.int .u8 0, .int .u32 0, .int .u8 0, .int .u32 0, .int .u32 0, .int .u32 0, .int .u32 0, .int .u64 0, .int .u64 0] 27)
      have c0 : (w8.alloc (.cells #[.int .u8 0, .int .u32 0, .int .u8 0, .int .u32 0, .int .u32 0, .int .u32 0, .int .u32 0, .int .u64 0, .int .u64 0] 27)).cell? ⟨w2.heap.size, 0, none⟩ = some (.int .u8 x.kind) := bX9.cell 0
      have c1 : (w8.alloc (.cells #[.int .u8 0, .int .u32 0, .int .u8 0, .int .u32 0, .int .u32 0, .int .u32 0, .int .u32 0, .int .u64 0, .int .u64 0] 27)).cell? ⟨w2.heap.size, 1, none⟩ = some (.int .u32 x.n) := bX9.cell 1
      have c2 : (w8.alloc (.cells #[.int .u8 0, .int .u32 0, .int .u8 0, .int .u32 0, .int .u32 0, .int .u32 0, .int .u32 0, .int .u64 0, .int .u64 0] 27)).cell? ⟨w2.heap.size, 2, none⟩ = some (.int .u8 x.k) := bX9.cell 2
      have c3 : (w8.alloc (.cells #[.int .u8 0, .int .u32 0, .int .u8 0, .int .u32 0, .int .u32 0, .int .u32 0, .int .u32 0, .int .u64 0, .int .u64 0] 27)).cell? ⟨w2.heap.size, 3, none⟩ = some (.int .u32 x.who) := bX9.cell 3
      have c4 : (w8.alloc (.cells #[.int .u8 0, .int .u32 0, .int .u8 0, .int .u32 0, .int .u32 0, .int .u32 0, .int .u32 0, .int .u64 0, .int .u64 0] 27)).cell? ⟨w2.heap.size, 4, none⟩ = some (.int .u32 x.whom) := bX9.cell 4
      have c5 : (w8.alloc (.cells #[.int .u8 0, .int .u32 0, .int .u8 0, .int .u32 0, .int .u32 0, .int .u32 0, .int .u32 0, .int .u64 0, .int .u64 0] 27)).cell? ⟨w2.heap.size, 5, none⟩ = some (.int .u32 x.what) := bX9.cell 5
      have c6 : (w8.alloc (.cells #[.int .u8 0, .int .u32 0, .int .u8 0, .int .u32 0, .int .u32 0, .int .u32 0, .int .u32 0, .int .u64 0, .int .u64 0] 27)).cell? ⟨w2.heap.size, 6, none⟩ = some (.int .u32 x.id) := bX9.cell 6
      have c7 : (w8.alloc (.cells #[.int .u8 0, .int .u32 0, .int .u8 0, .int .u32 0, .int .u32 0, .int .u32 0, .int .u32 0, .int .u64 0, .int .u64 0] 27)).cell? ⟨w2.heap.size, 7, none⟩ = some (.int .u64 x.am) := bX9.cell 7
      have c8 : (w8.alloc (.cells #[.int .u8 0, .int .u32 0, .int .u8 0, .int .u32 0, .int .u32 0, .int .u32 0, .int .u32 0, .int .u64 0, .int .u64 0] 27)).cell? ⟨w2.heap.size, 8, none⟩ = some (.int .u64 x.price) := bX9.cell 8
      (go_wp2_with fail)
      (with_reducible refine (HA.out _).mono ?_)
      rintro e w10 ⟨v10, rfl, i10, hb10⟩
      have hw10 := step_ hw9 hb10
      have i10' := (hb.below hw10).more hw10.size
      clear c0 c1 c2 c3 c4 c5 c6 c7 c8
      (go_wp2_with fail)
      (with_reducible refine (same_any _ _ _ _ _ _ _ i10 i10' bb bb).mono ?_)
      rintro e w11 ⟨rfl, rfl⟩
      rw [decide_eq_true rfl]
      go_wp2
      go_ret
      exact ⟨rfl, hw10⟩
    · have hq1 : askedQ xb = zeroQ := by unfold askedQ; rw [if_neg hg]
      have hq2 : askedE xb = 230 := by unfold askedE; rw [if_neg hg]
      have hQ := fun (v : Value) W h => asked_any v xb bb W h (by omega)
      rw [hq1, hq2] at hQ
      unfold cellsQ zeroQ at hQ
      dsimp only at hQ
      have HQ := Lib.hid hQ
      clear hQ hq1 hq2 hg
      go_enter Try.func6, Try.ntmps6
      go_wp2_with fail
      (with_reducible refine (known_any _).mono ?_)
      rintro e w1 ⟨rfl, hb1⟩
      have i1 := (hb.below hb1).more hb1.size
      (go_wp2_with fail)
      (with_reducible refine (HQ.out _ _ i1).mono ?_)
      rintro e w2 ⟨rfl, hb2⟩
      go_wp2
      go_ret
      exact ⟨rfl, new_ (step_ hb1 hb2) _⟩
  · have hd : decide (200 < (xb.length : Int)) = true := decide_eq_true (by omega)
    go_enter Try.func6, Try.ntmps6
    go_wp2_with fail
    (with_reducible refine (known_any _).mono ?_)
    rintro e w1 ⟨rfl, hb1⟩
    go_wp2
    go_ret
    exact ⟨rfl, hb1⟩


set_option maxRecDepth 100000 in
theorem lifted (os : Os) (started : os.Started) (H : Type) (enc : TypeId × Value → H) :
    ReturnsInHanded {} Try.checked os 6 .any (Rows.codecOnlySpec.pre6 enc Try.prog Try.f6 Rows.codecOnlyRow.domain false) (Rows.codecOnlySpec.post enc Try.prog Try.f6 false true false false) := by
  refine returnsInHanded_of_change (C := Try.checked) own started (by kernel_rfl) Try.func6
    (ChangeSpec.witness6 (enc := enc) (C := Try.checked) false ⟨#[], #[.slice none 0 0, .int .u8 0], []⟩ 8 (by kernel_rfl) (by kernel_rfl) (by kernel_rfl) (by kernel_rfl)) ?_
  intro W base args ds gs before hval0 hW hcnd _
  have hval : ∀ (j : Nat) t v, Try.f6.params[j]? = some t → args[j]? = some v → Value.okWide Try.prog W .any base t v := hval0
  have hW' := hW
  obtain ⟨p, q, hA0, hV, rfl, hfz, hnd⟩ := hW
  have hA1 : DataW.TrodAll enc Try.prog W 0 (fun _ => true) true Try.f6.params.toList args.toList ds p := hA0
  have hA := hA1
  rw [Try.params6] at hA hval
  obtain ⟨v0, vs0, d0, ds0, p0, q0, hargs, rfl, rfl, h0, r0⟩ := trodAll_cons hA
  obtain ⟨v1, vs1, d1, ds1, p1, q1, rfl, rfl, rfl, h1, r1⟩ := trodAll_cons r0
  obtain ⟨rfl, rfl, rfl⟩ := trodAll_nil r1
  obtain rfl : args = #[v0, v1] := by cases args; simp_all
  obtain ⟨rfl, rfl⟩ := trodVars_none hV
  obtain ⟨xb, i0, wf0⟩ := open_IR Try.underlying28 Try.underlying5 (by kernel_rfl) (hval 0 28 v0 rfl rfl) h0
  obtain ⟨c, rfl, rfl, rfl, wf1⟩ := open_int Try.underlying5 (hval 1 5 v1 rfl rfl) h1
  clear hA0 hval0
  refine (walk W v0 xb i0 (fun n hn => bounds_u8 (wf0 n hn)) c (bounds_u8 wf1)).mono fun e W' ⟨he, bel⟩ => ?_
  subst he
  exact ⟨_, rfl, _, _, _, [], _, [], hW', trodAll_mk1 (shut_bool Try.underlying4 _), args_again laidOut bel (by kernel_rfl) hA1, rfl, bel.frame _, fun h => by cases h⟩

theorem over : Rows.codecOnlyRow.holds Try.pinned (OpenSpec.ofChange Rows.codecOnlySpec) :=
  OpenClaim.holds_of_wide 6 Try.f6 rfl rfl rfl rfl rfl rfl rfl ⟨rfl, rfl, rfl, rfl, rfl⟩ rfl rfl rfl rfl rfl (by kernel_rfl) Try.func6 (by kernel_rfl)
    (of_decide_eq_true (by kernel_rfl)) (by unfold Func.isWrapper; first | (rw [if_pos (by decide +kernel)]; kernel_rfl) | (rw [if_neg (by decide +kernel)]; exact ⟨rfl, rfl⟩))
    (fun os started H enc _ => lifted os started H enc)

theorem proved : Rows.CodecOnlySaid := over
end Go.Proofs.Ytnajmdgheohpjaa.LCodecOnly
