/- The law manciplelaw22.ModelTwice returns true whatever it is called with, and what it was called with reads as it did. No condition. -/
import Derived.Test.YtabckmadpdchnaaGreatLaw
import Derived.Test.YtabckmadpdchnaaGreatMoD
namespace Go.Proofs.YtabckmadpdchnaaGreat.LModelTwice
open Go.ChangeShapes Go.WideShapes Go.ChangeAt Go.RowKit Go.IntWalk Go.Proofs.Mem Law
set_option linter.unusedVariables false
open Go.Proofs.YtabckmadpdchnaaGreat.Rule
set_option maxRecDepth 100000 in
set_option maxHeartbeats 8000000 in
theorem walk (w : World) (first : Value) (xfirst : List Rule.Ce) (hfirst : SS Rule.Ce.cells 6 w w.heap.size first xfirst) (bfirst : ∀ o ∈ xfirst, Rule.Ce.Fit o) (l : Value) (xl : List Rule.Ot) (hl : SS Rule.cOt 7 w w.heap.size l xl) (bl : ∀ o ∈ xl, Rule.Ot.Ok o) :
    Calls Tryz.prog 5 #[first, l] w fun e w' => e = .returned (.bool true) ∧ Below w.heap.size w w' := by
  have KN := Lib.hid (fun W => known_w W)
  have BF := Lib.hid bfirst
  have BL := Lib.hid bl
  have HF := Lib.hid hfirst
  have HL := Lib.hid hl
  obtain ⟨A1, c1, rfl, hl1, hl2⟩ := hfirst.form
  obtain ⟨A2, c2, rfl, hl3, hl4⟩ := hl.form
  clear bfirst bl hfirst hl
  by_cases h60 : 60 < xfirst.length
  · have d1 : decide (60 < (xfirst.length : Int)) = true := decide_eq_true (by omega)
    have d1' : decide (60 < xfirst.length) = true := decide_eq_true h60
    go_enter Tryz.func5, Tryz.ntmps5
    go_wp2_with (go_at_call 6; (with_reducible refine (KN.out _).mono ?_); rintro e w1 ⟨rfl, hb1⟩)
    go_ret
    exact ⟨rfl, hb1⟩
  have d1 : decide (60 < (xfirst.length : Int)) = false := decide_eq_false (by omega)
  have d1' : decide (60 < xfirst.length) = false := decide_eq_false h60
  by_cases h40 : 40 < xl.length
  · have d2 : decide (40 < (xl.length : Int)) = true := decide_eq_true (by omega)
    have d2' : decide (40 < xl.length) = true := decide_eq_true h40
    go_enter Tryz.func5, Tryz.ntmps5
    go_wp2_with (go_at_call 6; (with_reducible refine (KN.out _).mono ?_); rintro e w1 ⟨rfl, hb1⟩)
    go_ret
    exact ⟨rfl, hb1⟩
  have d2 : decide (40 < (xl.length : Int)) = false := decide_eq_false (by omega)
  have d2' : decide (40 < xl.length) = false := decide_eq_false h40
  have OKF := Lib.hid (wok_of BF.out)
  go_enter Tryz.func5, Tryz.ntmps5
  go_wp2_with (first
    | (go_at_call 6; (with_reducible refine (KN.out _).mono ?_); rintro e w1 ⟨rfl, hb1⟩
       have HB1 := Lib.hid hb1
       have O1 := Lib.hid (of_any w1 _ xfirst ((HF.out.below hb1).more hb1.size) BF.out (by omega))
       clear hb1)
    | (go_at_call 15; (with_reducible refine O1.out.mono ?_); rintro e w2 ⟨p, m, rfl, hp, hm, hw2, hb2⟩
       have HW2 := Lib.hid hw2
       have HB2 := Lib.hid (HB1.out.trans (hb2.mono HB1.out.size))
       have HP := Lib.hid (⟨hp, hm⟩ : w1.heap.size ≤ p ∧ w1.heap.size ≤ m)
       have AL := Lib.hid (all_any w2 p m xfirst.length _ hw2 (by omega))
       clear hp hm hw2 hb2 O1)
    | (go_at_call 8; (with_reducible refine AL.out.mono ?_); rintro e w3 ⟨v3, ks, rfl, hr3, ht3, hn3, hb3⟩
       have HT3 := Lib.hid ht3
       have HW3 := Lib.hid (HW2.out.later hb3)
       have HB3 := Lib.hid (HB2.out.trans (hb3.mono HB2.out.size))
       have O3 := Lib.hid (of_any w3 v3 ks hr3.ss (ht3.fit HW2.out OKF.out) (by omega))
       have HN3 := Lib.hid hn3
       clear ht3 hb3 hr3 hn3 AL)
    | (go_at_call 15; (with_reducible refine O3.out.mono ?_); rintro e w4 ⟨p', m', rfl, hp, hm, hw4, hb4⟩
       have TW := Lib.hid (show Two w w4 p m (60 + 9 * 0) p' m' (60 + 9 * 0) (ofF xfirst) (ofF xfirst) by
         rw [HT3.out.of] at hw4
         have h1 := HP.out
         have h2 := HB1.out.size
         have h3 := HW3.out.box.lt
         have h4 := HW3.out.fm.lt
         have h5 := HB3.out.size
         exact ⟨(HW3.out.later hb4).mono (by omega), hw4.mono (by have := HN3.out; omega), HB3.out.trans (hb4.mono HB3.out.size), by omega, by omega, by omega, by omega, by omega⟩)
       clear hp hm hw4 hb4 O3))
  clear d1 d1' d2 d2'
  go_loopw [7] (fun i wr => ∃ (j : Nat) (f : Wm), j ≤ xl.length ∧ i = .int .i64 j ∧ Hid (Two w wr p m (60 + 9 * j) p' m' (60 + 9 * j) f f) ∧ Hid (Wok f)) (fun i _ => xl.length - (intOf i).toNat)
  case atStart => exact ⟨0, _, Nat.zero_le _, rfl, TW, OKF⟩
  case round =>
    clear TW OKF HT3 HW3 HN3 HW2
    obtain ⟨j, f, hj, rfl, HT, HO⟩ := hrel
    by_cases hlt : j < xl.length
    · obtain ⟨q, hq⟩ : ∃ x, xl[j]? = some x := ⟨_, List.getElem?_eq_getElem hlt⟩
      have d1 : decide ((j : Int) < (xl.length : Int)) = true := by simp; omega
      have q1 : decide (j < xl.length) = true := by simp; omega
      obtain ⟨b, off, rfl, hb, hat⟩ := HL.out.at_ hq
      have YY := Lib.hid (fun (W : World) (hB : Below w.heap.size w W) => op_cells (w := W) (fun t u hu => (hB.cell (p := ⟨b, off + j * 7 + t, none⟩) hb).trans (hat t u hu)))
      obtain ⟨y0, y1, y2, y3, y4, y5, y6⟩ := YY.out wr HT.out.bel
      have HQ := Lib.hid (BL.out q (List.mem_of_getElem? hq))
      obtain ⟨d, hd⟩ : ∃ d, evD f q = d := ⟨_, rfl⟩
      have DA := Lib.hid (fun W (h : Two w W p m (60 + 9 * j) p' m' (60 + 9 * j) f f) => (by have := do_q W p m _ f h.a HO.out q HQ.out (by omega); rw [hd] at this; exact this : Calls Tryz.prog 9 #[.pointer (some ⟨p, 0, none⟩), .agg #[.int .u8 q.kd, .int .u32 q.wh, .int .u32 q.wm, .int .u32 q.wt, .int .u32 q.id, .int .u64 q.n, .int .u64 q.pr]] W fun e w' => e = .returned (.agg #[.int .u16 d.2.1, .int .u64 d.2.2.A, .int .u64 d.2.2.B, .int .u64 d.2.2.C]) ∧ WAt w' p m (60 + 9 * j + 9) (opF f q) ∧ Fr (fun g => g = m) W w'))
      have DB := Lib.hid (fun W (h : Two w W p m (60 + 9 * j + 9) p' m' (60 + 9 * j) (opF f q) f) => (by have := do_q W p' m' _ f h.b HO.out q HQ.out (by omega); rw [hd] at this; exact this : Calls Tryz.prog 9 #[.pointer (some ⟨p', 0, none⟩), .agg #[.int .u8 q.kd, .int .u32 q.wh, .int .u32 q.wm, .int .u32 q.wt, .int .u32 q.id, .int .u64 q.n, .int .u64 q.pr]] W fun e w' => e = .returned (.agg #[.int .u16 d.2.1, .int .u64 d.2.2.A, .int .u64 d.2.2.B, .int .u64 d.2.2.C]) ∧ WAt w' p' m' (60 + 9 * j + 9) (opF f q) ∧ Fr (fun g => g = m') W w'))
      have HO2 := Lib.hid (HO.out.op HQ.out)
      obtain ⟨dl, de, da, db, dc⟩ := d
      clear hat hb hq hd
      go_wp2_with (first
        | (go_at_call 9; (with_reducible refine (DA.out _ HT.out).mono ?_); rintro e w5 ⟨rfl, h5, f5⟩
           have HT5 := Lib.hid ((HT.out.left h5 f5).later (new_ (Below.refl _ _) (.cells #[.int .u16 de, .int .u64 da, .int .u64 db, .int .u64 dc] 35)))
           have R5 := Lib.hid (Box.new w5 #[.int .u16 de, .int .u64 da, .int .u64 db, .int .u64 dc] 35)
           have N5 := Lib.hid (show ¬ w5.heap.size = m' from fun e => by have := HT.out.b.fm.lt; have := f5.size; omega)
           clear y0 y1 y2 y3 y4 y5 y6
           obtain ⟨y0, y1, y2, y3, y4, y5, y6⟩ := YY.out _ HT5.out.bel
           clear h5 f5)
        | (go_at_call 9; (with_reducible refine (DB.out _ HT5.out).mono ?_); rintro e w6 ⟨rfl, h6, f6⟩
           have HT6 := Lib.hid ((HT5.out.right h6 f6).later (new_ (Below.refl _ _) (.cells #[.int .u16 de, .int .u64 da, .int .u64 db, .int .u64 dc] 35)))
           have r5 := ((R5.out.fr f6 N5.out).alloc (.cells #[.int .u16 de, .int .u64 da, .int .u64 db, .int .u64 dc] 35)).cell
           clear y0 y1 y2 y3 y4 y5 y6 h6 f6))
      have e9 : 60 + 9 * (j + 1) = 60 + 9 * j + 9 := by omega
      exact ⟨⟨j + 1, _, by omega, rfl, by rw [e9]; exact HT6, HO2⟩, by simp [intOf]; omega⟩
    · have d1 : decide ((j : Int) < (xl.length : Int)) = false := by simp; omega
      have hT := HT.out
      have A1 := Lib.hid (all_any wr p m _ f hT.a (by omega))
      clear hT
      go_wp2_with (first
        | (go_at_call 8; (with_reducible refine A1.out.mono ?_); rintro e w5 ⟨v5, ks, rfl, hr5, ht5, _, hb5⟩
           have HR5 := Lib.hid hr5.ss
           have HK5 := Lib.hid ht5
           have HT5 := Lib.hid (HT.out.later hb5)
           have A2 := Lib.hid (all_any w5 p' m' _ f HT5.out.b (by omega))
           clear hr5 ht5 hb5 A1)
        | (go_at_call 8; (with_reducible refine A2.out.mono ?_); rintro e w6 ⟨v6, ks6, rfl, hr6, ht6, _, hb6⟩
           have hu := ht6.uniq HK5.out
           subst hu
           have SC := Lib.hid (same_cells w6 v5 v6 ks6 ((HR5.out.below hb6).more hb6.size) hr6.ss)
           have HB6 := Lib.hid ((HT5.out.later hb6).bel)
           clear hr6 ht6 hb6)
        | (go_at_call 10; (with_reducible refine SC.out.mono ?_); rintro e w7 ⟨rfl, hb7⟩))
      go_ret
      exact ⟨rfl, HB6.out.trans (hb7.mono HB6.out.size)⟩


set_option maxRecDepth 100000 in
theorem lifted (os : Os) (started : os.Started) (H : Type) (enc : TypeId × Value → H) :
    ReturnsInHanded {} Tryz.checked os 5 .any (Rows.modelTwiceSpec.pre6 enc Tryz.prog Tryz.f5 Rows.modelTwiceRow.domain false) (Rows.modelTwiceSpec.post enc Tryz.prog Tryz.f5 false true false false) := by
  refine returnsInHanded_of_change (C := Tryz.checked) own started (by kernel_rfl) Tryz.func5
    (ChangeSpec.witness6 (enc := enc) (C := Tryz.checked) false ⟨#[], #[.slice none 0 0, .slice none 0 0], []⟩ 8 (by kernel_rfl) (by kernel_rfl) (by kernel_rfl) (by kernel_rfl)) ?_
  intro W base args ds gs before hval0 hW hcnd _
  have hval : ∀ (j : Nat) t v, Tryz.f5.params[j]? = some t → args[j]? = some v → Value.okWide Tryz.prog W .any base t v := hval0
  have hW' := hW
  obtain ⟨p, q, hA0, hV, rfl, hfz, hnd⟩ := hW
  have hA1 : DataW.TrodAll enc Tryz.prog W 0 (fun _ => true) true Tryz.f5.params.toList args.toList ds p := hA0
  have hA := hA1
  rw [Tryz.params5] at hA hval
  obtain ⟨v0, vs0, d0, ds0, p0, q0, hargs, rfl, rfl, h0, r0⟩ := trodAll_cons hA
  obtain ⟨v1, vs1, d1, ds1, p1, q1, rfl, rfl, rfl, h1, r1⟩ := trodAll_cons r0
  obtain ⟨rfl, rfl, rfl⟩ := trodAll_nil r1
  obtain rfl : args = #[v0, v1] := by cases args; simp_all
  obtain ⟨rfl, rfl⟩ := trodVars_none hV
  obtain ⟨xfirst, i0, wf0⟩ := Rule.open_cellsF (hval 0 30 v0 rfl rfl) h0
  obtain ⟨xl, i1, wf1⟩ := Rule.open_ops (hval 1 22 v1 rfl rfl) h1
  clear hA0 hval0
  refine (walk W v0 xfirst i0 wf0 v1 xl i1 wf1).mono fun e W' ⟨he, bel⟩ => ?_
  subst he
  exact ⟨_, rfl, _, _, _, [], _, [], hW', trodAll_mk1 (shut_bool Tryz.underlying4 _), args_again laidOut bel (by kernel_rfl) hA1, rfl, bel.frame _, fun h => by cases h⟩

theorem over : Rows.modelTwiceRow.holds Tryz.pinned (OpenSpec.ofChange Rows.modelTwiceSpec) :=
  OpenClaim.holds_of_wide 5 Tryz.f5 rfl rfl rfl rfl rfl rfl rfl ⟨rfl, rfl, rfl, rfl, rfl⟩ rfl rfl rfl rfl rfl (by kernel_rfl) Tryz.func5 (by kernel_rfl)
    (of_decide_eq_true (by kernel_rfl)) (by unfold Func.isWrapper; first | (rw [if_pos (by decide +kernel)]; kernel_rfl) | (rw [if_neg (by decide +kernel)]; exact ⟨rfl, rfl⟩))
    (fun os started H enc _ => lifted os started H enc)

theorem proved : Rows.ModelTwiceSaid := over
end Go.Proofs.YtabckmadpdchnaaGreat.LModelTwice
