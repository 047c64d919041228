/- The law manciplelaw22.ModelOwn returns true whatever it is called with, and what it was called with reads as it did. No condition. -/
import Derived.Test.YtabckmadpdchnaaGreatLaw
import Derived.Test.YtabckmadpdchnaaGreatMoE
namespace Go.Proofs.YtabckmadpdchnaaGreat.LModelOwn
open Go.ChangeShapes Go.WideShapes Go.ChangeAt Go.RowKit Go.IntWalk Go.Proofs.Mem Law
set_option linter.unusedVariables false
open Go.Proofs.YtabckmadpdchnaaGreat.Rule
set_option maxRecDepth 100000 in
set_option maxHeartbeats 8000000 in
theorem walk (w : World) (first : Value) (xfirst : List Rule.Ce) (hfirst : SS Rule.Ce.cells 6 w w.heap.size first xfirst) (bfirst : ∀ o ∈ xfirst, Rule.Ce.Fit o) (l : Value) (xl : List Rule.Ot) (hl : SS Rule.cOt 7 w w.heap.size l xl) (bl : ∀ o ∈ xl, Rule.Ot.Ok o) :
    Calls Tryz.prog 4 #[first, l] w fun e w' => e = .returned (.bool true) ∧ Below w.heap.size w w' := by
  have KN := Lib.hid (fun W => known_w W)
  have BF := Lib.hid bfirst
  have BL := Lib.hid bl
  have HF := Lib.hid hfirst
  have HL := Lib.hid hl
  obtain ⟨A1, c1, rfl, hl1, hl2⟩ := hfirst.form
  obtain ⟨A2, c2, rfl, hl3, hl4⟩ := hl.form
  clear bfirst bl hfirst hl
  by_cases h60 : 60 < xfirst.length
  · have d1 : decide (60 < (xfirst.length : Int)) = true := decide_eq_true (by omega)
    have d1' : decide (60 < xfirst.length) = true := decide_eq_true h60
    go_enter Tryz.func4, Tryz.ntmps4
    go_wp2_with (go_at_call 6; (with_reducible refine (KN.out _).mono ?_); rintro e w1 ⟨rfl, hb1⟩)
    go_ret
    exact ⟨rfl, hb1⟩
  have d1 : decide (60 < (xfirst.length : Int)) = false := decide_eq_false (by omega)
  have d1' : decide (60 < xfirst.length) = false := decide_eq_false h60
  by_cases h40 : 40 < xl.length
  · have d2 : decide (40 < (xl.length : Int)) = true := decide_eq_true (by omega)
    have d2' : decide (40 < xl.length) = true := decide_eq_true h40
    go_enter Tryz.func4, Tryz.ntmps4
    go_wp2_with (go_at_call 6; (with_reducible refine (KN.out _).mono ?_); rintro e w1 ⟨rfl, hb1⟩)
    go_ret
    exact ⟨rfl, hb1⟩
  have d2 : decide (40 < (xl.length : Int)) = false := decide_eq_false (by omega)
  have d2' : decide (40 < xl.length) = false := decide_eq_false h40
  have OKF := Lib.hid (wok_of BF.out)
  obtain ⟨f, hf⟩ : ∃ f, ofF xfirst = f := ⟨_, rfl⟩
  have OF := Lib.hid (fun (W : World) (hb : Below w.heap.size w W) => (by have := of_any W _ xfirst ((HF.out.below hb).more hb.size) BF.out (by omega); rw [hf] at this; exact this : Calls Tryz.prog 15 #[.slice A1 xfirst.length c1] W fun e w' => ∃ p m, e = .returned (.pointer (some ⟨p, 0, none⟩)) ∧ W.heap.size ≤ p ∧ W.heap.size ≤ m ∧ WAt w' p m xfirst.length f ∧ Below W.heap.size W w'))
  rw [hf] at OKF
  clear hf
  go_enter Tryz.func4, Tryz.ntmps4
  go_wp2_with (first
    | (go_at_call 6; (with_reducible refine (KN.out _).mono ?_); rintro e w1 ⟨rfl, hb1⟩
       have HB1 := Lib.hid hb1
       have HWS := Lib.hid hb1.size
       clear hb1)
    | (go_at_call 15; (with_reducible refine (OF.out _ HB1.out).mono ?_); rintro e w2 ⟨p, m, rfl, hp, hm, hw2, hb2⟩
       have HW2 := Lib.hid hw2
       have HB2 := Lib.hid (HB1.out.trans (hb2.mono HB1.out.size))
       have HP := Lib.hid (⟨hp, hm⟩ : w1.heap.size ≤ p ∧ w1.heap.size ≤ m)
       clear hp hm hw2 hb2 HB1)
    | (go_at_call 15; (with_reducible refine (OF.out _ HB2.out).mono ?_); rintro e w4 ⟨p', m', rfl, hp, hm, hw4, hb4⟩
       have TW := Lib.hid (show Two w w4 p m (60 + 9 * 0) p' m' (60 + 9 * 0) f f by
         have h1 := HP.out
         have h3 := HW2.out.box.lt
         have h4 := HW2.out.fm.lt
         have h5 := HB2.out.size
         have h6 := HWS.out
         exact ⟨(HW2.out.later hb4).mono (by omega), hw4.mono (by omega), HB2.out.trans (hb4.mono HB2.out.size), by omega, by omega, by omega, by omega, by omega⟩)
       have AL := Lib.hid (all_any w4 p m _ f TW.out.a (by omega))
       clear hp hm hw4 hb4)
    | (go_at_call 8; (with_reducible refine AL.out.mono ?_); rintro e w5 ⟨v5, ks, rfl, hr5, ht5, hn5, hb5⟩
       have HT5 := Lib.hid ht5
       have HR5 := Lib.hid hr5
       have TW5 := Lib.hid (TW.out.later hb5)
       have HB5 := Lib.hid hb5.size
       have AL2 := Lib.hid (all_any w5 p m _ f TW5.out.a (by omega))
       clear ht5 hb5 hr5 hn5 AL)
    | (go_at_call 8; (with_reducible refine AL2.out.mono ?_); rintro e w6 ⟨v6, ks6, rfl, hr6, ht6, hn6, hb6⟩
       obtain rfl := ht6.uniq HT5.out
       have TW6 := Lib.hid (TW5.out.later hb6)
       have HR6 := Lib.hid hr6
       have HB6 := Lib.hid hb6
       obtain ⟨A6, c6, rfl, hl6, hc6⟩ := hr6.ss.form
       have HN6 := Lib.hid (show ks6.length ≤ 1000 by omega)
       clear ht6 hb6 hr6 hn6 AL2))
  clear d1 d1' d2 d2'
  have HG := Lib.hid (show p < w4.heap.size ∧ m < w4.heap.size ∧ p' < w4.heap.size ∧ m' < w4.heap.size ∧ w4.heap.size ≤ w5.heap.size ∧ w.heap.size ≤ w4.heap.size from ⟨TW.out.a.box.lt, TW.out.a.fm.lt, TW.out.b.box.lt, TW.out.b.fm.lt, HB5.out, TW.out.bel.size⟩)
  go_loopw [9] (fun i wr => ∃ j : Nat, j ≤ ks6.length ∧ i = .int .i64 j ∧ Hid (Fr (fun x => A6 = some ⟨x, 0, none⟩ ∧ w5.heap.size ≤ x) w6 wr) ∧ Hid (∀ g, A6 = some ⟨g, 0, none⟩ → ks6 ≠ [] → Wb wr g (ks6.length * 6))) (fun i _ => ks6.length - (intOf i).toNat)
  case atStart => exact ⟨0, Nat.zero_le _, rfl, Lib.hid (Fr.refl _ _), Lib.hid (fun g e hn => by
    obtain ⟨g', e', _, _, h⟩ := HR6.out.at_ hn
    rw [e] at e'
    injection e' with e'
    injection e' with e' _ _
    rw [e']; exact h)⟩
  case round =>
    obtain ⟨j, hj, rfl, HFR, HWB⟩ := hrel
    by_cases hlt : j < ks6.length
    · have d1 : decide ((j : Int) < (ks6.length : Int)) = true := by simp; omega
      have q1 : decide (j < ks6.length) = true := by simp; omega
      have hne : ks6 ≠ [] := fun e => by rw [e] at hlt; simp at hlt
      obtain ⟨g, rfl, hg5, hg6, _⟩ := HR6.out.at_ hne
      have HB := Lib.hid (HWB.out g rfl hne)
      obtain ⟨u0, z0⟩ := HB.out.cell (i := j * 6) (by omega)
      obtain ⟨u1, z1⟩ := HB.out.cell (i := j * 6 + 1) (by omega)
      obtain ⟨u2, z2⟩ := HB.out.cell (i := j * 6 + 2) (by omega)
      obtain ⟨u3, z3⟩ := HB.out.cell (i := j * 6 + 3) (by omega)
      obtain ⟨u4, z4⟩ := HB.out.cell (i := j * 6 + 4) (by omega)
      obtain ⟨u5, z5⟩ := HB.out.cell (i := j * 6 + 5) (by omega)
      have x0 := HB.out.frozen (i := j * 6) (by omega)
      have x1 := HB.out.frozen (i := j * 6 + 1) (by omega)
      have x2 := HB.out.frozen (i := j * 6 + 2) (by omega)
      have x3 := HB.out.frozen (i := j * 6 + 3) (by omega)
      have x4 := HB.out.frozen (i := j * 6 + 4) (by omega)
      have x5 := HB.out.frozen (i := j * 6 + 5) (by omega)
      have HGG := Lib.hid hg5
      clear hne hg5 hg6
      go_wp2
      have hj1 : j + 1 ≤ ks6.length := hlt
      have hw1 : wrap64 ((j : Int) + 1) = ((j + 1 : Nat) : Int) := w64_succ (Nat.le_trans hlt (Nat.le_trans HN6.out (by decide)))
      have hme : ks6.length - (j + 1) < ks6.length - j := by omega
      rw [hw1]
      have F9 := Lib.hid (st6_fr (g := g) HFR.out (And.intro rfl HGG.out) (j * 6) (.int .u8 0) (.int .u32 0) (.int .u32 0) (.int .u64 0) (.int .u64 0) (.bool false))
      have B9 := Lib.hid (st6_wb HB.out (j * 6) (.int .u8 0) (.int .u32 0) (.int .u32 0) (.int .u64 0) (.int .u64 0) (.bool false))
      generalize (World.setCell _ (⟨g, j * 6 + 5, none⟩ : Addr) _) = W9 at F9 B9 ⊢
      have C9 := Lib.hid (show ∀ g' : Nat, some (⟨g, 0, none⟩ : Addr) = some ⟨g', 0, none⟩ → ks6 ≠ [] → Wb W9 g' (ks6.length * 6) from fun g' e _ => by
        injection e with e
        injection e with e _ _
        rw [← e]
        exact B9.out)
      exact ⟨⟨j + 1, hj1, rfl, F9, C9⟩, hme⟩
    · have d1 : decide ((j : Int) < (ks6.length : Int)) = false := by simp; omega
      have TW7 := Lib.hid (show Two w wr p m (60 + 9 * 0) p' m' (60 + 9 * 0) f f from TW6.out.fr HFR.out (fun k hk => by have := HG.out; have := hk.2; omega))
      have RW7 := Lib.hid (show RowC w4.heap.size wr v5 ks6 from HR5.out.keep (Nat.le_trans HB6.out.size HFR.out.size) (fun k h1 h2 => (HFR.out.block k (Nat.lt_of_lt_of_le h2 HB6.out.size) (fun e => absurd h2 (Nat.not_lt.2 e.2))).trans (HB6.out.block k h2)))
      clear HWB
      go_wp2
      go_loopw [10] (fun i wr => ∃ (j : Nat) (g : Wm), j ≤ xl.length ∧ i = .int .i64 j ∧ Hid (Two w wr p m (60 + 9 * 0) p' m' (60 + 9 * j) f g) ∧ Hid (Wok g) ∧ Hid (RowC w4.heap.size wr v5 ks6)) (fun i _ => xl.length - (intOf i).toNat)
      case atStart => exact ⟨0, _, Nat.zero_le _, rfl, TW7, OKF, RW7⟩
      case round =>
        clear TW7 OKF RW7
        obtain ⟨j, g, hj, rfl, HT, HO, HR⟩ := hrel
        by_cases hlt : j < xl.length
        · obtain ⟨q, hq⟩ : ∃ x, xl[j]? = some x := ⟨_, List.getElem?_eq_getElem hlt⟩
          have d1 : decide ((j : Int) < (xl.length : Int)) = true := by simp; omega
          have q1 : decide (j < xl.length) = true := by simp; omega
          obtain ⟨b, off, rfl, hb, hat⟩ := HL.out.at_ hq
          obtain ⟨y0, y1, y2, y3, y4, y5, y6⟩ := op_cells (w := wr) (fun t u hu => (HT.out.bel.cell (p := ⟨b, off + j * 7 + t, none⟩) hb).trans (hat t u hu))
          have HQ := Lib.hid (BL.out q (List.mem_of_getElem? hq))
          have DB := Lib.hid (do_q wr p' m' _ g HT.out.b HO.out q HQ.out (by omega))
          have HO2 := Lib.hid (HO.out.op HQ.out)
          clear hat hb hq
          go_wp2_with (go_at_call 9; (with_reducible refine DB.out.mono ?_); rintro e w8 ⟨rfl, h6, f6⟩
                       have HT6 := Lib.hid (HT.out.right h6 f6)
                       have HR6 := Lib.hid (HR.out.fr f6 (fun k h1 h2 e => by have := HG.out; have e2 : k = m' := e; omega))
                       clear h6 f6)
          have e9 : 60 + 9 * (j + 1) = 60 + 9 * j + 9 := by omega
          exact ⟨⟨j + 1, _, by omega, rfl, by rw [e9]; exact HT6, HO2, HR6⟩, by simp [intOf]; omega⟩
        · have d1 : decide ((j : Int) < (xl.length : Int)) = false := by simp; omega
          have A1 := Lib.hid (all_any wr p m _ f HT.out.a (by omega))
          go_wp2_with (first
            | (go_at_call 8; (with_reducible refine A1.out.mono ?_); rintro e w8 ⟨v8, ks8, rfl, hr8, ht8, _, hb8⟩
               have hu := ht8.uniq HT5.out
               subst hu
               have SC := Lib.hid (same_cells w8 v8 v5 ks8 hr8.ss ((HR.out.ss.below hb8).more hb8.size))
               have HB8 := Lib.hid ((HT.out.later hb8).bel)
               clear hr8 ht8 hb8)
            | (go_at_call 10; (with_reducible refine SC.out.mono ?_); rintro e w9 ⟨rfl, hb9⟩))
          go_ret
          exact ⟨rfl, HB8.out.trans (hb9.mono HB8.out.size)⟩


set_option maxRecDepth 100000 in
theorem lifted (os : Os) (started : os.Started) (H : Type) (enc : TypeId × Value → H) :
    ReturnsInHanded {} Tryz.checked os 4 .any (Rows.modelOwnSpec.pre6 enc Tryz.prog Tryz.f4 Rows.modelOwnRow.domain false) (Rows.modelOwnSpec.post enc Tryz.prog Tryz.f4 false true false false) := by
  refine returnsInHanded_of_change (C := Tryz.checked) own started (by kernel_rfl) Tryz.func4
    (ChangeSpec.witness6 (enc := enc) (C := Tryz.checked) false ⟨#[], #[.slice none 0 0, .slice none 0 0], []⟩ 8 (by kernel_rfl) (by kernel_rfl) (by kernel_rfl) (by kernel_rfl)) ?_
  intro W base args ds gs before hval0 hW hcnd _
  have hval : ∀ (j : Nat) t v, Tryz.f4.params[j]? = some t → args[j]? = some v → Value.okWide Tryz.prog W .any base t v := hval0
  have hW' := hW
  obtain ⟨p, q, hA0, hV, rfl, hfz, hnd⟩ := hW
  have hA1 : DataW.TrodAll enc Tryz.prog W 0 (fun _ => true) true Tryz.f4.params.toList args.toList ds p := hA0
  have hA := hA1
  rw [Tryz.params4] at hA hval
  obtain ⟨v0, vs0, d0, ds0, p0, q0, hargs, rfl, rfl, h0, r0⟩ := trodAll_cons hA
  obtain ⟨v1, vs1, d1, ds1, p1, q1, rfl, rfl, rfl, h1, r1⟩ := trodAll_cons r0
  obtain ⟨rfl, rfl, rfl⟩ := trodAll_nil r1
  obtain rfl : args = #[v0, v1] := by cases args; simp_all
  obtain ⟨rfl, rfl⟩ := trodVars_none hV
  obtain ⟨xfirst, i0, wf0⟩ := Rule.open_cellsF (hval 0 30 v0 rfl rfl) h0
  obtain ⟨xl, i1, wf1⟩ := Rule.open_ops (hval 1 22 v1 rfl rfl) h1
  clear hA0 hval0
  refine (walk W v0 xfirst i0 wf0 v1 xl i1 wf1).mono fun e W' ⟨he, bel⟩ => ?_
  subst he
  exact ⟨_, rfl, _, _, _, [], _, [], hW', trodAll_mk1 (shut_bool Tryz.underlying4 _), args_again laidOut bel (by kernel_rfl) hA1, rfl, bel.frame _, fun h => by cases h⟩

theorem over : Rows.modelOwnRow.holds Tryz.pinned (OpenSpec.ofChange Rows.modelOwnSpec) :=
  OpenClaim.holds_of_wide 4 Tryz.f4 rfl rfl rfl rfl rfl rfl rfl ⟨rfl, rfl, rfl, rfl, rfl⟩ rfl rfl rfl rfl rfl (by kernel_rfl) Tryz.func4 (by kernel_rfl)
    (of_decide_eq_true (by kernel_rfl)) (by unfold Func.isWrapper; first | (rw [if_pos (by decide +kernel)]; kernel_rfl) | (rw [if_neg (by decide +kernel)]; exact ⟨rfl, rfl⟩))
    (fun os started H enc _ => lifted os started H enc)

theorem proved : Rows.ModelOwnSaid := over
end Go.Proofs.YtabckmadpdchnaaGreat.LModelOwn
