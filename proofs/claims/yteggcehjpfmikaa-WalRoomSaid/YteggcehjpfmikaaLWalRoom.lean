/- The law manciplelaw08.WalRoom returns true whatever it is called with, and what it was called with reads as it did. No condition. -/
import Derived.Test.YteggcehjpfmikaaLaw
import Derived.Test.YteggcehjpfmikaaWrI
import Derived.Deep.DeepCutAuto
namespace Go.Proofs.Yteggcehjpfmikaa.LWalRoom
open Go.ChangeShapes Go.WideShapes Go.ChangeAt Go.RowKit Go.IntWalk Go.Proofs.Mem Law
set_option linter.unusedVariables false
open Go.Proofs.Yteggcehjpfmikaa.Disk Go.Proofs.Yteggcehjpfmikaa.Wal Go.Proofs.Yteggcehjpfmikaa.Rec Go.Proofs.Each Strip
set_option linter.unusedSimpArgs false
theorem ss_one {α : Type} {F : α → List Value} {sz z : Nat} {w : World} {T : TypeId} (x : α) (X : Box w z (F x).toArray T) : SS F sz w (z + 1) (.slice (some ⟨z, 0, none⟩) 1 1) [x] := by
  refine ⟨some ⟨z, 0, none⟩, 1, rfl, Nat.le_refl _, by unfold maxLen; omega, fun i y hy => ?_⟩
  match i, hy with
  | 0, hy =>
    injection hy with hy
    subst hy
    refine ⟨z, 0, rfl, by omega, fun j u hu => ?_⟩
    rw [X.cell, show 0 + 0 * sz + j = j by omega]
    simpa using hu
theorem lv_ap {D : Dv} {L : Lv} {rs : List Rc} {es : List Ent} {j : Nat} (ok : RunOk D L rs es j) (hj : j < 60) (r : Rc) (hr : r.Ok) (hm : mayS r = true) (hf : L.ys.length + (encS r).length ≤ Wal.sz D * 127) : LvOk D (apL L r) := by
  obtain ⟨rs', ok'⟩ := ok.step hj (o := ⟨0, r, .slice none 0 0, .slice none 0 0, .slice none 0 0, .slice none 0 0, 0, 0, .slice none 0 0, []⟩) (L' := apL L r) (D' := D) (es' := es ++ [⟨L.h.ba + L.ys.length, r, (none, 0), (none, 0), (none, 0), (none, 0)⟩]) hr ⟨by show (0 : Int) ≤ 0; decide, by show (0 : Int) ≤ _; decide⟩ (.inr (.inr (.inr (.inl ⟨by show (0 : Int) % 11 ≤ 3; decide, rfl, by
    show apE D L r 0 = 0
    unfold apE; rw [if_neg (by rw [hm]; decide), if_pos (by omega)], rfl, _, rfl, rfl, rfl⟩))))
  exact ok'.lv (by omega)
theorem hvy_small {size : Int} {l : List Oq} (h : hvy size l = false) : size ≤ 120 ∧ l.length ≤ 40 := by
  unfold hvy at h
  simp only [Bool.or_eq_false_iff, decide_eq_false_iff_not] at h
  omega
theorem apE_cases (D : Dv) (L : Lv) (r : Rc) (sp : Nat) : apE D L r sp = 0 → mayS r = true ∧ L.ys.length + (encS r).length + sp ≤ Wal.sz D * 127 := fun h => by
  unfold apE at h
  cases hm : mayS r with
  | false => rw [if_pos hm] at h; omega
  | true =>
    rw [if_neg (by rw [hm]; decide)] at h
    exact ⟨rfl, Decidable.byContradiction fun hc => by rw [if_neg hc] at h; omega⟩
theorem apE_lt (D : Dv) (L : Lv) (r : Rc) (sp : Nat) : apE D L r sp < 100 := by unfold apE; split; omega; split <;> omega
set_option maxRecDepth 100000 in
set_option maxHeartbeats 16000000 in
theorem walk (w : World) (size : Int) (hsize : -9223372036854775808 ≤ size ∧ size ≤ 9223372036854775807) (l : Value) (xl : List Wal.Oq) (hl : SS Wal.cOq 16 w w.heap.size l xl) (bl : ∀ o ∈ xl, Wal.OqAt w w.heap.size o) (r : Rec.Rc) (hr : r.Ok) (r_1 r_2 r_3 r_4 : Value) (ir : Rec.RcIn w w.heap.size r r_1 r_2 r_3 r_4) (spare : Int) (hspare : 0 ≤ spare ∧ spare ≤ 18446744073709551615) :
    Calls Try.prog 5 #[.int .i64 size, l, .agg (Rec.rcV r r_1 r_2 r_3 r_4), .int .u64 spare] w fun e w' => e = .returned (.bool true) ∧ Below w.heap.size w w' := by
  obtain ⟨A, c, rfl, hlc, hcm⟩ := hl.form
  obtain ⟨A1, c1, e1, hl1, hm1⟩ := ir.a.form
  obtain ⟨A2, c2, e2, hl2, hm2⟩ := ir.b.form
  obtain ⟨A3, c3, e3, hl3, hm3⟩ := ir.t.form
  obtain ⟨A4, c4, e4, hl4, hm4⟩ := ir.d.form
  subst e1 e2 e3 e4
  have b1 := new_ (Below.refl w.heap.size w) (.cells (rcV r (.slice A1 r.c.xs.length c1) (.slice A2 r.c.ys.length c2) (.slice A3 r.ts.length c3) (.slice A4 r.ds.length c4)) 54)
  have X1 := Box.new w (rcV r (.slice A1 r.c.xs.length c1) (.slice A2 r.c.ys.length c2) (.slice A3 r.ts.length c3) (.slice A4 r.ds.length c4)) 54
  obtain ⟨z, hz⟩ : ∃ z, w.heap.size = z := ⟨_, rfl⟩
  obtain ⟨w1, hw1⟩ : ∃ w1, w.alloc (.cells (rcV r (.slice A1 r.c.xs.length c1) (.slice A2 r.c.ys.length c2) (.slice A3 r.ts.length c3) (.slice A4 r.ds.length c4)) 54) = w1 := ⟨_, rfl⟩
  rw [hw1] at b1 X1
  rw [hz] at X1
  have hforms : ∀ o ∈ xl, OqF o := fun o ho => (bl o ho).forms
  have CH := Lib.hid (fun W (hb : Below w.heap.size w W) => heavy_any W w.heap.size hb.size size A c xl hlc hcm (hl.below hb) hforms)
  obtain ⟨sp, rfl⟩ : ∃ sp : Nat, spare = sp := ⟨spare.toNat, by omega⟩
  obtain ⟨o', ho'⟩ : ∃ o' : Oq, o' = ⟨0, r, .slice A1 r.c.xs.length c1, .slice A2 r.c.ys.length c2, .slice A3 r.ts.length c3, .slice A4 r.ds.length c4, 0, 0, .slice none 0 0, []⟩ := ⟨_, rfl⟩
  have hof : OqF o' := by rw [ho']; exact ⟨⟨_, _, rfl⟩, ⟨_, _, rfl⟩, ⟨_, _, rfl⟩, ⟨_, _, rfl⟩, ⟨_, _, rfl⟩⟩
  have hoc : cOq o' = [.int .u8 0, .int .u8 r.k, .int .u32 r.t, .int .u64 r.p, .int .u64 r.n, .int .u32 r.c.pg, .int .u16 r.c.sl, .bool r.c.had, .bool r.c.has, .slice A1 r.c.xs.length c1, .slice A2 r.c.ys.length c2, .slice A3 r.ts.length c3, .slice A4 r.ds.length c4, .int .u64 0, .int .u64 0, .slice none 0 0] := by rw [ho']; rfl
  have CH2 := Lib.hid (fun W => heavy_any (W.alloc (.cells (cOq o').toArray 61)) (W.heap.size + 1) (by simp) 18 (some ⟨W.heap.size, 0, none⟩) 1 [o'] (by simp) (by unfold maxLen; omega) (ss_one o' (Box.new W (cOq o').toArray 61)) (fun o ho => by rw [List.mem_singleton.1 ho]; exact hof))
  rw [hoc, show [o'].length = 1 from rfl] at CH2
  have CK := Lib.hid (fun W => known_any W)
  obtain ⟨q1, hq1⟩ : ∃ q, hvy size xl = q := ⟨_, rfl⟩
  obtain ⟨q2, hq2⟩ : ∃ q, hvy 18 [o'] = q := ⟨_, rfl⟩
  rw [hq1] at CH
  rw [hq2] at CH2
  have HB1 := Lib.hid b1
  have HX1 := Lib.hid X1
  have HQ1 := Lib.hid hq1
  have HL := Lib.hid hl
  have HBL := Lib.hid bl
  have HIR := Lib.hid ir
  have HR := Lib.hid hr
  have HSP := Lib.hid hspare
  have HLC := Lib.hid (And.intro hlc hcm)
  have kx := X1.cell
  have HZ := Lib.hid hz
  clear b1 X1 hl bl hforms ho' hof hoc hq1 hq2 hl1 hm1 hl2 hm2 hl3 hm3 hl4 hm4 ir hr hspare hlc hcm hsize
  cases q1 with
  | true =>
    go_enter Try.func5, Try.ntmps5
    go_wp2_with fail
    (with_reducible refine (CH.out _ HB1.out).mono ?_)
    rintro e w2 ⟨rfl, hb2⟩
    have HB2 := Lib.hid (HB1.out.trans (hb2.mono HB1.out.size))
    clear hb2
    go_wp2_with fail
    (with_reducible refine (CK.out _).mono ?_)
    rintro e w3 ⟨rfl, hb3⟩
    have HB3 := Lib.hid (HB2.out.trans (hb3.mono HB2.out.size))
    clear hb3
    go_wp2
    go_ret
    exact ⟨rfl, HB3.out⟩
  | false =>
    have hsm := hvy_small HQ1.out
    have HSM := Lib.hid hsm
    clear hsm
    cases q2 with
    | true =>
      go_enter Try.func5, Try.ntmps5
      go_wp2_with fail
      (with_reducible refine (CH.out _ HB1.out).mono ?_)
      rintro e w2 ⟨rfl, hb2⟩
      have HB2 := Lib.hid (HB1.out.trans (hb2.mono HB1.out.size))
      have k2 := (HX1.out.later hb2).cell
      clear hb2 kx
      go_wp2_with fail
      (with_reducible refine (CH2.out _).mono ?_)
      rintro e w3 ⟨rfl, hb3⟩
      have HB3 := Lib.hid ((HB2.out.alloc HB2.out.size _).trans (hb3.mono (by have := HB2.out.size; simp; omega)))
      clear hb3
      go_wp2_with fail
      (with_reducible refine (CK.out _).mono ?_)
      rintro e w4 ⟨rfl, hb4⟩
      have HB4 := Lib.hid (HB3.out.trans (hb4.mono HB3.out.size))
      clear hb4
      go_wp2
      go_ret
      exact ⟨rfl, HB4.out⟩
    | false =>
      go_enter Try.func5, Try.ntmps5
      go_wp2_with fail
      (with_reducible refine (CH.out _ HB1.out).mono ?_)
      rintro e w2 ⟨rfl, hb2⟩
      have HB2 := Lib.hid (HB1.out.trans (hb2.mono HB1.out.size))
      have HX2 := Lib.hid (HX1.out.later hb2)
      have k2 := (HX1.out.later hb2).cell
      clear hb2 kx
      go_wp2_with fail
      (with_reducible refine (CH2.out _).mono ?_)
      rintro e w3 ⟨rfl, hb3⟩
      have HB3 := Lib.hid ((HB2.out.alloc HB2.out.size _).trans (hb3.mono (by have := HB2.out.size; simp; omega)))
      have HX3 := Lib.hid ((HX2.out.alloc _).later hb3)
      clear hb3
      go_wp2_with fail
      (with_reducible refine (CK.out _).mono ?_)
      rintro e w4 ⟨rfl, hb4⟩
      have HB4 := Lib.hid (HB3.out.trans (hb4.mono HB3.out.size))
      have HX4 := Lib.hid (HX3.out.later hb4)
      have CR := Lib.hid (run_any w4 size HSM.out.1 A c xl HLC.out.1 HLC.out.2 (((HL.out.below HB4.out).more HB4.out.size)) (fun o ho => ((HBL.out o ho).below HB4.out).more HB4.out.size) HSM.out.2 (-1) (by decide))
      clear hb4 k2
      go_wp2_with fail
      (with_reducible refine CR.out.mono ?_)
      rintro e w5 ⟨T, pb, t, g, fv, D, L, b0, l0, A0, c0, e0, A5, c5, es, rfl, hpl, hb5, hrun⟩
      have HB5 := Lib.hid (HB4.out.trans (hb5.mono HB4.out.size))
      have hx5 := HX4.out.later hb5
      obtain ⟨hn1, hn2⟩ := sizeN_in size HSM.out.1
      obtain ⟨hgd, rs, hok⟩ := run_free hn1 hn2 (fun o ho => (HBL.out o ho).p) HSM.out.2 hrun
      have lv := hok.lv (by have := HSM.out; omega)
      have s1 : w5.cell? ⟨pb, 1, none⟩ = some (.pointer (some ⟨t, 0, none⟩)) := hpl.bx.cell 1
      have HX5 := Lib.hid hx5
      have HPL := Lib.hid hpl
      have HOK := Lib.hid hok
      have HLV := Lib.hid lv
      obtain ⟨rm, hrm⟩ : ∃ rm, Wal.sz D * 127 - L.ys.length = rm := ⟨_, rfl⟩
      obtain ⟨en, hen⟩ : ∃ en, L.h.ba + (L.ys.length : Int) = en := ⟨_, rfl⟩
      have RM5 := Lib.hid (fun W (hb : Below w5.heap.size w5 W) => by have := room_lg (hpl.lg.later hb) lv; rw [hrm] at this; exact this)
      have EN5 := Lib.hid (fun W (hb : Below w5.heap.size w5 W) => by have := end_lg (hpl.lg.later hb) lv; rw [hen] at this; exact this)
      have HRM := Lib.hid hrm
      have HEN := Lib.hid hen
      clear hpl hb5 hrun hgd hok lv hx5 hrm hen hn1 hn2
      go_wp2_with fail
      (with_reducible refine (RM5.out _ (Below.refl _ _)).mono ?_)
      rintro e w6 ⟨rfl, hb6⟩
      have H6 := Lib.hid hb6
      clear hb6
      go_wp2_with fail
      (with_reducible refine (EN5.out _ H6.out).mono ?_)
      rintro e w6' ⟨rfl, rfl⟩
      have HX6 := Lib.hid (HX5.out.later H6.out)
      have k6 := HX6.out.cell
      have HB6 := Lib.hid (HB5.out.trans (H6.out.mono HB5.out.size))
      have hri : RcIn w6 w6.heap.size r (.slice A1 r.c.xs.length c1) (.slice A2 r.c.ys.length c2) (.slice A3 r.ts.length c3) (.slice A4 r.ds.length c4) := by
        have := HIR.out.below HB6.out
        exact ⟨this.a.more HB6.out.size, this.b.more HB6.out.size, this.t.more HB6.out.size, this.d.more HB6.out.size⟩
      have CA := append_any (HPL.out.lg.later H6.out) HLV.out r HR.out _ _ _ _ hri sp (by have := HSP.out; omega)
      rw [HEN.out] at CA
      obtain ⟨E, hE⟩ : ∃ E, apE D L r sp = E := ⟨_, rfl⟩
      rw [hE] at CA
      have HE := Lib.hid hE
      have hlt := apE_lt D L r sp
      rw [hE] at hlt
      by_cases h0 : E = 0
      · rw [h0, if_pos rfl, if_pos rfl, show ((0 : Nat) : Int) = 0 from rfl] at CA
        have HCA := Lib.hid CA
        obtain ⟨hms, hfit⟩ := apE_cases D L r sp (HE.out.trans h0)
        have lv' := lv_ap HOK.out (by have := HSM.out; omega) r HR.out hms (by omega)
        have hpos : 0 < (encS r).length := by rw [enc_len]; omega
        obtain ⟨rm', hrm'⟩ : ∃ rm', Wal.sz D * 127 - (apL L r).ys.length = rm' := ⟨_, rfl⟩
        obtain ⟨en', hen'⟩ : ∃ en', (apL L r).h.ba + ((apL L r).ys.length : Int) = en' := ⟨_, rfl⟩
        have hl' : (apL L r).ys.length = L.ys.length + (encS r).length := by simp [apL]
        have d1 : sp ≤ rm' := by omega
        have d2 : rm' < rm := by have := HRM.out; omega
        have d3 : en' - en = ((rm - rm' : Nat) : Int) := by have := HRM.out; have := HEN.out; have : (apL L r).h.ba = L.h.ba := rfl; omega
        have d4 : rm ≤ 88900 := by have := HRM.out; have := HLV.out.sz; omega
        have HLV' := Lib.hid lv'
        have HRM' := Lib.hid hrm'
        have HEN' := Lib.hid hen'
        clear CA hE hlt hri hms hfit lv' hrm' hen' hl'
        go_wp2_with fail
        (with_reducible refine HCA.out.mono ?_)
        rintro e w7 ⟨rfl, lg7, f7⟩
        have RM7 := Lib.hid (fun W (hb : Below w7.heap.size w7 W) => by have := room_lg (lg7.later hb) HLV'.out; rw [HRM'.out] at this; exact this)
        have EN7 := Lib.hid (fun W (hb : Below w7.heap.size w7 W) => by have := end_lg (lg7.later hb) HLV'.out; rw [HEN'.out] at this; exact this)
        have HB7 := Lib.hid (HB6.out.trans (f7.to_below (fun k hk => by have := (HPL.out.tB k hk).1; have := HB4.out.size; omega) HB6.out.size))
        clear lg7 f7 k6
        go_wp2_with fail
        (with_reducible refine (RM7.out _ (Below.refl _ _)).mono ?_)
        rintro e w8 ⟨rfl, hb8⟩
        have HB8 := Lib.hid hb8
        clear hb8
        have d5 : ((sp : Nat) : Int) ≤ rm' := by omega
        have d6 : ((rm' : Nat) : Int) < rm := by omega
        go_wp2_with fail
        (with_reducible refine (RM7.out _ HB8.out).mono ?_)
        rintro e w9 ⟨rfl, hb9⟩
        have HB9 := Lib.hid (HB8.out.trans (hb9.mono HB8.out.size))
        clear hb9
        go_wp2_with fail
        (with_reducible refine (EN7.out _ HB9.out).mono ?_)
        rintro e w10 ⟨rfl, rfl⟩
        go_wp2_with fail
        (with_reducible refine (RM7.out _ HB9.out).mono ?_)
        rintro e w11 ⟨rfl, hb11⟩
        have HB11 := Lib.hid (HB9.out.trans (hb11.mono HB9.out.size))
        clear hb11
        go_wp2
        go_ret
        refine ⟨?_, HB7.out.trans (HB11.out.mono HB7.out.size)⟩
        have d7 : (rm : Int) - (rm' : Int) = ((rm - rm' : Nat) : Int) := by omega
        rw [show (((rm - rm' : Nat) : Int) == (rm : Int) - rm') = true from beq_iff_eq.2 d7.symm]
        rfl
      · rw [if_neg h0, if_neg h0] at CA
        have de : (((E : Nat) : Int) != 0) = true := by simp; omega
        have HCA := Lib.hid CA
        clear CA hE hlt h0 hri
        go_wp2_with fail
        (with_reducible refine HCA.out.mono ?_)
        rintro e w7 ⟨rfl, lg7, f7⟩
        have RM7 := Lib.hid (fun W (hb : Below w7.heap.size w7 W) => by have := room_lg (lg7.later hb) HLV.out; rw [HRM.out] at this; exact this)
        have EN7 := Lib.hid (fun W (hb : Below w7.heap.size w7 W) => by have := end_lg (lg7.later hb) HLV.out; rw [HEN.out] at this; exact this)
        have HB7 := Lib.hid (HB6.out.trans (f7.to_below (fun k hk => by have := (HPL.out.tB k hk).1; have := HB4.out.size; omega) HB6.out.size))
        clear lg7 f7 k6
        go_wp2_with (first
          | (go_at_call 22; (with_reducible refine (RM7.out _ (Below.refl _ _)).mono ?_); rintro er w8 ⟨rfl, hb8⟩; have HB8 := Lib.hid hb8; clear hb8)
          | (go_at_call 15; (with_reducible refine (EN7.out _ HB8.out).mono ?_); rintro er w9 ⟨rfl, rfl⟩))
        go_ret
        exact ⟨by simp, HB7.out.trans (HB8.out.mono HB7.out.size)⟩


set_option maxRecDepth 100000 in
theorem lifted (os : Os) (started : os.Started) (H : Type) (enc : TypeId × Value → H) :
    ReturnsInHanded {} Try.checked os 5 .any (Rows.walRoomSpec.pre6 enc Try.prog Try.f5 Rows.walRoomRow.domain false) (Rows.walRoomSpec.post enc Try.prog Try.f5 false true false false) := by
  refine returnsInHanded_of_change (C := Try.checked) own started (by kernel_rfl) Try.func5
    (ChangeSpec.witness6 (enc := enc) (C := Try.checked) false ⟨#[], #[.int .i64 0, .slice none 0 0, .agg #[.int .u8 0, .int .u32 0, .int .u64 0, .int .u64 0, .int .u32 0, .int .u16 0, .bool false, .bool false, .slice none 0 0, .slice none 0 0, .slice none 0 0, .slice none 0 0], .int .u64 0], []⟩ 8 (by kernel_rfl) (by kernel_rfl) (by kernel_rfl) (by kernel_rfl)) ?_
  intro W base args ds gs before hval0 hW hcnd _
  have hval : ∀ (j : Nat) t v, Try.f5.params[j]? = some t → args[j]? = some v → Value.okWide Try.prog W .any base t v := hval0
  have hW' := hW
  obtain ⟨p, q, hA0, hV, rfl, hfz, hnd⟩ := hW
  have hA1 : DataW.TrodAll enc Try.prog W 0 (fun _ => true) true Try.f5.params.toList args.toList ds p := hA0
  have hA := hA1
  rw [Try.params5] at hA hval
  obtain ⟨v0, vs0, d0, ds0, p0, q0, hargs, rfl, rfl, h0, r0⟩ := trodAll_cons hA
  obtain ⟨v1, vs1, d1, ds1, p1, q1, rfl, rfl, rfl, h1, r1⟩ := trodAll_cons r0
  obtain ⟨v2, vs2, d2, ds2, p2, q2, rfl, rfl, rfl, h2, r2⟩ := trodAll_cons r1
  obtain ⟨v3, vs3, d3, ds3, p3, q3, rfl, rfl, rfl, h3, r3⟩ := trodAll_cons r2
  obtain ⟨rfl, rfl, rfl⟩ := trodAll_nil r3
  obtain rfl : args = #[v0, v1, v2, v3] := by cases args; simp_all
  obtain ⟨rfl, rfl⟩ := trodVars_none hV
  obtain ⟨size, rfl, rfl, rfl, wf0⟩ := open_int Try.underlying3 (hval 0 3 v0 rfl rfl) h0
  obtain ⟨xl, i1, wf1⟩ := Wal.open_oqs (hval 1 22 v1 rfl rfl) h1
  obtain ⟨r, r_1, r_2, r_3, r_4, rfl, ok2, i2⟩ := Rec.open_rc (hval 2 54 v2 rfl rfl) h2
  obtain ⟨spare, rfl, rfl, rfl, wf3⟩ := open_int Try.underlying30 (hval 3 30 v3 rfl rfl) h3
  clear hA0 hval0
  refine (walk W size (bounds_i64 wf0) v1 xl i1 wf1 r ok2 r_1 r_2 r_3 r_4 i2 spare (bounds_u64 wf3)).mono fun e W' ⟨he, bel⟩ => ?_
  subst he
  exact ⟨_, rfl, _, _, _, [], _, [], hW', trodAll_mk1 (shut_bool Try.underlying4 _), args_again laidOut bel (by kernel_rfl) hA1, rfl, bel.frame _, fun h => by cases h⟩

theorem over : Rows.walRoomRow.holds Try.pinned (OpenSpec.ofChange Rows.walRoomSpec) :=
  OpenClaim.holds_of_wide 5 Try.f5 rfl rfl rfl rfl rfl rfl rfl ⟨rfl, rfl, rfl, rfl, rfl⟩ rfl rfl rfl rfl rfl (by kernel_rfl) Try.func5 (by kernel_rfl)
    (of_decide_eq_true (by kernel_rfl)) (by unfold Func.isWrapper; first | (rw [if_pos (by decide +kernel)]; kernel_rfl) | (rw [if_neg (by decide +kernel)]; exact ⟨rfl, rfl⟩))
    (fun os started H enc _ => lifted os started H enc)

theorem proved : Rows.WalRoomSaid := over
end Go.Proofs.Yteggcehjpfmikaa.LWalRoom
