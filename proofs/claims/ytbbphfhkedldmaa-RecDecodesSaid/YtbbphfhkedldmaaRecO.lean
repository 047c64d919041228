import Derived.Test.YtbbphfhkedldmaaRecL
import Derived.Test.YtbbphfhkedldmaaRecN
import Derived.Test.YtbbphfhkedldmaaRecK
/- The document's record as bytes. -/
namespace Go.Proofs.Ytbbphfhkedldmaa.Rec
open Go.ChangeShapes Go.WideShapes Go.ChangeAt Go.RowKit Go.IntWalk Go.Proofs.NumMath Go.Proofs.Mem Go.Proofs.CrcMath NumBytes CrcA
set_option linter.unusedVariables false
set_option linter.unusedSimpArgs false
theorem SS.more' {α : Type} {F : α → List Value} {sz B B' : Nat} {w : World} {v : Value} {xs : List α} (h : SS F sz w B v xs) (hB : B ≤ B') : SS F sz w B' v xs := h.more hB
theorem RcIn.more {w : World} {B B' : Nat} {r : Rc} {a b ta da : Value} (h : RcIn w B r a b ta da) (hB : B ≤ B') : RcIn w B' r a b ta da := ⟨h.a.more hB, h.b.more hB, h.t.more hB, h.d.more hB⟩
set_option maxRecDepth 100000 in
set_option maxHeartbeats 4000000 in
theorem encode_ref_no (r : Rc) (hm : mayS r = false) (a b ta da : Value) (w : World) (B : Nat) (hB : B ≤ w.heap.size) (h : RcIn w B r a b ta da) :
    Calls Try.prog 13 #[.agg (rcV r a b ta da)] w fun e w' => e = .returned (.tuple #[.slice none 0 0, .int .i64 61]) ∧ Below w.heap.size w w' := by
  have MB := fun W (h : RcIn W B r a b ta da) (hW : B ≤ W.heap.size) => Lib.hid (may_ref r a b ta da W B hW h)
  rw [hm] at MB
  have R := Lib.hid (h.alloc hB (.cells (rcV r a b ta da) 31))
  obtain ⟨A1, c1, rfl, _, _⟩ := h.a.form
  obtain ⟨A2, c2, rfl, _, _⟩ := h.b.form
  obtain ⟨A3, c3, rfl, _, _⟩ := h.t.form
  obtain ⟨A4, c4, rfl, _, _⟩ := h.d.form
  clear h hm
  go_enter Try.func13, Try.ntmps13
  go_wp2_with fail
  (with_reducible refine (MB _ R.out (by simp; omega)).out.mono ?_)
  rintro e w1 ⟨rfl, hb1⟩
  have HB1 := Lib.hid hb1
  clear hb1
  go_wp2
  go_ret2
  exact ⟨rfl, step_ (new_ (Below.refl _ _) _) HB1.out⟩
set_option maxRecDepth 100000 in
set_option maxHeartbeats 32000000 in
theorem encode_ref_yes (r : Rc) (hr : r.Ok) (hm : mayS r = true) (a b ta da : Value) (w : World) (h : RcIn w w.heap.size r a b ta da) :
    Calls Try.prog 13 #[.agg (rcV r a b ta da)] w fun e w' => ∃ u, e = .returned (.tuple #[u, .int .i64 0]) ∧ w'.ownsRow w.heap.size 5 1 u (encS r).length ((encS r).map (.int .u8)) ∧ Below w.heap.size w w' := by
  obtain ⟨i0, hi0, hz0, hz1, hz2⟩ := info_parts u8_info
  have ML := may_lens r hm
  obtain ⟨⟨k0, k1⟩, ⟨t0, t1⟩, ⟨p0, p1⟩, ⟨n0, n1⟩, hc, hts, hds⟩ := id hr
  have MB := Lib.hid (fun W (h : RcIn W w.heap.size r a b ta da) (hW : w.heap.size ≤ W.heap.size) => may_ref r a b ta da W w.heap.size hW h)
  rw [hm] at MB
  have wt := u64_wrap (x := r.t) (by omega) (by omega)
  obtain ⟨zs, hzs⟩ : ∃ zs, zs = bodyS r := ⟨_, rfl⟩
  have hzb := body_bytes r hr
  have hzl := body_len r ML
  rw [← hzs] at hzb hzl
  obtain ⟨Z, hZ⟩ : ∃ Z, Z = zs.length := ⟨_, rfl⟩
  rw [← hZ] at hzl
  have wZ := u64_wrap (x := (Z : Int) + 6) (by omega) (by omega)
  obtain ⟨C, hC⟩ : ∃ C, C = tn (sumF 0#32 zs) := ⟨_, rfl⟩
  have hCb := tn_bd (sumF 0#32 zs)
  rw [← hC] at hCb
  have wC := u64_wrap (x := C) (by omega) (by omega)
  have henc : putS ((Z : Int) + 6) 2 ++ putS C 4 ++ zs = encS r := by rw [hC, hZ, hzs, Int.add_comm]; rfl
  have hx64 := ML.xs
  have hy64 := ML.ys
  have ht64 := ML.ts
  have hd64 := ML.ds
  have P1 := fun W => Lib.hid (put_ref_w r.t 4 4 rfl t0 (by omega) (by decide) (by decide) W)
  have P2 := fun W => Lib.hid (put_ref_w r.p 8 8 rfl p0 (by omega) (by decide) (by decide) W)
  have P3 := fun W => Lib.hid (put_ref_w r.n 8 8 rfl n0 (by omega) (by decide) (by decide) W)
  have PA := fun W => Lib.hid (put_ref_w ((Z : Int) + 6) 2 2 rfl (by omega) (by omega) (by decide) (by decide) W)
  have PB := fun W => Lib.hid (put_ref_w C 4 4 rfl (by omega) (by omega) (by decide) (by decide) W)
  have SU := Lib.hid (fun W v (h : IR W W.heap.size .u8 v zs) => by have := sum_ref v zs W _ h hzb; rw [← hC] at this; exact this)
  have CG := Lib.hid (fun W (h : RcIn W W.heap.size r a b ta da) => change_ref r.c hc a b W h.a h.b hx64 hy64)
  have TB := Lib.hid (fun W (h : RcIn W W.heap.size r a b ta da) => tables_ref r hr a b ta da W h ht64 hd64)
  have HBD : bodyS r = [r.k] ++ putS r.t 4 ++ putS r.p 8 ++ putS r.n 8 ++ (if r.k = 2 ∨ r.k = 3 then chgS r.c else []) ++ (if r.k = 8 then tabS r.ts r.ds else []) := by rw [bodyS, put_one ⟨k0, k1⟩]
  rw [← hzs] at HBD
  have HE := Lib.hid henc
  have HZ := Lib.hid hZ
  have R := Lib.hid h
  have RA := Lib.hid (h.alloc (Nat.le_refl _) (.cells (rcV r a b ta da) 31))
  obtain ⟨A1, c1, rfl, _, _⟩ := h.a.form
  obtain ⟨A2, c2, rfl, _, _⟩ := h.b.form
  obtain ⟨A3, c3, rfl, _, _⟩ := h.t.form
  obtain ⟨A4, c4, rfl, _, _⟩ := h.d.form
  have BX := Lib.hid (Box.new w (rcV r (.slice A1 r.c.xs.length c1) (.slice A2 r.c.ys.length c2) (.slice A3 r.ts.length c3) (.slice A4 r.ds.length c4)) 31)
  have HW0 := Lib.hid (new_ (Below.refl w.heap.size w) (.cells (rcV r (.slice A1 r.c.xs.length c1) (.slice A2 r.c.ys.length c2) (.slice A3 r.ts.length c3) (.slice A4 r.ds.length c4)) 31))
  have hchg := chg_len r.c
  have htab := tab_len r.ts r.ds
  clear hC hZ hzs hzb hCb henc hm ML hr hc hts hds h t0 t1 p0 p1 n0 n1 k0 k1
  by_cases h2 : r.k = 2 ∨ r.k = 3
  · have d8 : (r.k == 8) = false := by rw [beq_dec]; simp; omega
    rw [if_pos h2, if_neg (by omega)] at HBD
    have HBD := Lib.hid HBD
    by_cases h3 : r.k = 2
    · have d2 : (r.k == 2) = true := by rw [beq_dec]; simp; omega
      clear h2 h3
      go_enter Try.func13, Try.ntmps13
      go_wp2_with fail
      (with_reducible refine (MB.out _ RA.out (by simp)).mono ?_)
      rintro e w1 ⟨rfl, hb1⟩
      have B1 := Lib.hid (BX.out.later hb1)
      have HB1 := Lib.hid (step_ HW0.out hb1)
      have OW0 : (w1.alloc (.cells #[.int .u8 r.k] 5)).ownsRow w1.heap.size 5 1 (.slice (some ⟨w1.heap.size, 0, none⟩) 1 1) ([r.k]).length (([r.k]).map (.int .u8)) :=
        ⟨rfl, .inr ⟨w1.heap.size, 1, _, rfl, Nat.le_refl _, heap_alloc_new w1 _, Nat.le_refl _, by decide, rfl, rfl⟩⟩
      have T0 := Lib.hid (RowTo.made (new_ (Below.refl w1.heap.size w1) (.cells #[.int .u8 r.k] 5)) OW0)
      have NBR : Hid (∀ v' W, RowTo w1 W (.slice none 0 0) v' → Box W w.heap.size (rcV r (.slice A1 r.c.xs.length c1) (.slice A2 r.c.ys.length c2) (.slice A3 r.ts.length c3) (.slice A4 r.ds.length c4)) 31 ∧ Below w.heap.size w W) := Lib.hid (fun v' W t => ⟨B1.out.later t.all, step_ HB1.out t.all⟩)
      obtain ⟨V0, hV0⟩ : ∃ v : Value, Value.slice (some ⟨w1.heap.size, 0, none⟩) 1 1 = v := ⟨_, rfl⟩
      rw [hV0] at T0 OW0
      have OW := Lib.hid OW0
      have kk := B1.out.cell
      have kk0 := (B1.out.alloc (.cells #[.int .u8 r.k] 5)).cell
      clear hb1 OW0
      go_wp2_with (first
        | (go_at_call 30; (with_reducible refine ((P1 _).out).mono ?_); rintro e y1 ⟨u1, rfl, ou, hb⟩
           have T1 := Lib.hid (T0.out.later hb)
           have O1 := Lib.hid (own_below OW.out hb)
           have I1 := Lib.hid (IR.of_own ou)
           clear ou
           have kR1 := (NBR.out _ _ T1.out).1.cell
           clear hb kk kk0)
        | (at_builtin; refine wpList_append_tx _ rfl _ _ _ _ rfl (w1.heap.size) 5 5 i0 .u8 1 Try.underlying25 Try.underlying25 hi0 hz0 hz1 hz2 V0 _ ([r.k]) rfl O1.out _ u1 ((putS r.t 4)) rfl I1.out (by simp only [maxLen, List.length_append, putS_len, List.length_cons, List.length_nil]; omega) (by simp only [List.length_append, putS_len, List.length_cons, List.length_nil]; omega) T1.out.fr.size ?_; intro v2 y2 hown hg ho
           have T2 := Lib.hid ((T1.out).trans (RowTo.app hg ho))
           have O2 := Lib.hid (show y2.ownsRow (w1.heap.size) 5 1 v2 ([r.k] ++ (putS r.t 4)).length (([r.k] ++ (putS r.t 4)).map (.int .u8)) by rw [List.length_append]; exact hown)
           have hb := hg
           clear hown hg ho
           have kR2 := (NBR.out _ _ T2.out).1.cell
           clear hb kR1)
        | (go_at_call 30; (with_reducible refine ((P2 _).out).mono ?_); rintro e y3 ⟨u3, rfl, ou, hb⟩
           have T3 := Lib.hid (T2.out.later hb)
           have O3 := Lib.hid (own_below O2.out hb)
           have I3 := Lib.hid (IR.of_own ou)
           clear ou
           have kR3 := (NBR.out _ _ T3.out).1.cell
           clear hb kR2)
        | (at_builtin; refine wpList_append_tx _ rfl _ _ _ _ rfl (w1.heap.size) 5 5 i0 .u8 1 Try.underlying25 Try.underlying25 hi0 hz0 hz1 hz2 v2 _ (([r.k] ++ (putS r.t 4))) rfl O3.out _ u3 ((putS r.p 8)) rfl I3.out (by simp only [maxLen, List.length_append, putS_len, List.length_cons, List.length_nil]; omega) (by simp only [List.length_append, putS_len, List.length_cons, List.length_nil]; omega) T3.out.fr.size ?_; intro v4 y4 hown hg ho
           have T4 := Lib.hid ((T3.out).trans (RowTo.app hg ho))
           have O4 := Lib.hid (show y4.ownsRow (w1.heap.size) 5 1 v4 (([r.k] ++ (putS r.t 4)) ++ (putS r.p 8)).length ((([r.k] ++ (putS r.t 4)) ++ (putS r.p 8)).map (.int .u8)) by rw [List.length_append]; exact hown)
           have hb := hg
           clear hown hg ho
           have kR4 := (NBR.out _ _ T4.out).1.cell
           clear hb kR3)
        | (go_at_call 30; (with_reducible refine ((P3 _).out).mono ?_); rintro e y5 ⟨u5, rfl, ou, hb⟩
           have T5 := Lib.hid (T4.out.later hb)
           have O5 := Lib.hid (own_below O4.out hb)
           have I5 := Lib.hid (IR.of_own ou)
           clear ou
           have kR5 := (NBR.out _ _ T5.out).1.cell
           clear hb kR4)
        | (at_builtin; refine wpList_append_tx _ rfl _ _ _ _ rfl (w1.heap.size) 5 5 i0 .u8 1 Try.underlying25 Try.underlying25 hi0 hz0 hz1 hz2 v4 _ ((([r.k] ++ (putS r.t 4)) ++ (putS r.p 8))) rfl O5.out _ u5 ((putS r.n 8)) rfl I5.out (by simp only [maxLen, List.length_append, putS_len, List.length_cons, List.length_nil]; omega) (by simp only [List.length_append, putS_len, List.length_cons, List.length_nil]; omega) T5.out.fr.size ?_; intro v6 y6 hown hg ho
           have T6 := Lib.hid ((T5.out).trans (RowTo.app hg ho))
           have O6 := Lib.hid (show y6.ownsRow (w1.heap.size) 5 1 v6 ((([r.k] ++ (putS r.t 4)) ++ (putS r.p 8)) ++ (putS r.n 8)).length (((([r.k] ++ (putS r.t 4)) ++ (putS r.p 8)) ++ (putS r.n 8)).map (.int .u8)) by rw [List.length_append]; exact hown)
           have hb := hg
           clear hown hg ho
           have kR6 := (NBR.out _ _ T6.out).1.cell
           clear hb kR5)
        | (go_at_call 31; (with_reducible refine ((CG.out _ ((R.out.below (NBR.out _ _ T6.out).2).more (NBR.out _ _ T6.out).2.size))).mono ?_); rintro e y7 ⟨u7, rfl, ou, hb⟩
           have T7 := Lib.hid (T6.out.later hb)
           have O7 := Lib.hid (own_below O6.out hb)
           have I7 := Lib.hid (IR.of_own ou)
           clear ou
           have kR7 := (NBR.out _ _ T7.out).1.cell
           clear hb kR6)
        | (at_builtin; refine wpList_append_tx _ rfl _ _ _ _ rfl (w1.heap.size) 5 5 i0 .u8 1 Try.underlying25 Try.underlying25 hi0 hz0 hz1 hz2 v6 _ (((([r.k] ++ (putS r.t 4)) ++ (putS r.p 8)) ++ (putS r.n 8))) rfl O7.out _ u7 ((chgS r.c)) rfl I7.out (by have := hchg; have := htab; simp only [maxLen, List.length_append, putS_len, List.length_cons, List.length_nil]; omega) (by have := hchg; have := htab; simp only [List.length_append, putS_len, List.length_cons, List.length_nil]; omega) T7.out.fr.size ?_; intro v8 y8 hown hg ho
           have T8 := Lib.hid ((T7.out).trans (RowTo.app hg ho))
           have O8 := Lib.hid (show y8.ownsRow (w1.heap.size) 5 1 v8 (((([r.k] ++ (putS r.t 4)) ++ (putS r.p 8)) ++ (putS r.n 8)) ++ (chgS r.c)).length ((((([r.k] ++ (putS r.t 4)) ++ (putS r.p 8)) ++ (putS r.n 8)) ++ (chgS r.c)).map (.int .u8)) by rw [List.length_append]; exact hown)
           have hb := hg
           clear hown hg ho
           have kR8 := (NBR.out _ _ T8.out).1.cell
           clear hb kR7
           have ZE := Lib.hid (show zs = (((([r.k] ++ (putS r.t 4)) ++ (putS r.p 8)) ++ (putS r.n 8)) ++ (chgS r.c)) by rw [HBD.out]; simp)
           obtain ⟨A9, c9, e9, hl9, hm9⟩ := (IR.of_own (own_eq O8.out ZE.out.symm)).form
           rw [← HZ.out] at e9 hl9
           subst e9
           unfold maxLen at hm9)
        | (go_at_call 30; (with_reducible refine (PA _).out.mono ?_); rintro e ya ⟨ua, rfl, ou, hb⟩
           have BO := Lib.hid (own_below (own_eq O8.out ZE.out.symm) hb)
           have TP := Lib.hid (T8.out)
           have BODY := Lib.hid (own_eq O8.out ZE.out.symm)
           have TA := Lib.hid (RowTo.made hb ou)
           have TW := Lib.hid (T8.out.later hb)
           have OA := Lib.hid (show ya.ownsRow w1.heap.size 5 1 ua (putS ((Z : Int) + 6) 2).length ((putS ((Z : Int) + 6) 2).map (.int .u8)) by rw [putS_len]; exact own_lower ou T8.out.fr.size)
           have SI := Lib.hid (IR.of_own BO.out)
           clear ou hb kR8)
        | (go_at_call 33; (with_reducible refine (SU.out _ _ SI.out).mono ?_); rintro e yb ⟨rfl, rfl⟩)
        | (go_at_call 30; (with_reducible refine (PB _).out.mono ?_); rintro e yc ⟨uc, rfl, ou, hb⟩
           have OC := Lib.hid (own_below OA.out hb)
           have IC := Lib.hid (IR.of_own ou)
           have BC := Lib.hid (own_below BO.out hb)
           have TC := Lib.hid (TW.out.later hb)
           have TD := Lib.hid (TA.out.later hb)
           clear ou hb)
        | (at_builtin; refine wpList_append_tx _ rfl _ _ _ _ rfl (w1.heap.size) 5 5 i0 .u8 1 Try.underlying25 Try.underlying25 hi0 hz0 hz1 hz2 ua _ (putS ((Z : Int) + 6) 2) rfl OC.out _ uc (putS C 4) rfl IC.out (by simp only [maxLen, putS_len]; omega) (by simp only [putS_len]; omega) TC.out.fr.size ?_; intro vd yd hown hg ho
           have OD := Lib.hid (show yd.ownsRow w1.heap.size 5 1 vd ((putS ((Z : Int) + 6) 2) ++ putS C 4).length (((putS ((Z : Int) + 6) 2) ++ putS C 4).map (.int .u8)) by rw [List.length_append]; exact hown)
           have TE := Lib.hid (TD.out.trans (RowTo.app hg ho))
           have ID := Lib.hid ((IR.of_own BODY.out).below TE.out.all)
           have HWD := Lib.hid ((NBR.out _ _ TP.out).2.trans (TE.out.all.mono (NBR.out _ _ TP.out).2.size))
           clear hown hg ho)
        | (at_builtin; refine wpList_append_tx _ rfl _ _ _ _ rfl (w1.heap.size) 5 5 i0 .u8 1 Try.underlying25 Try.underlying25 hi0 hz0 hz1 hz2 vd _ ((putS ((Z : Int) + 6) 2) ++ putS C 4) rfl OD.out _ _ zs rfl ID.out (by have := HZ.out; simp only [maxLen, List.length_append, putS_len]; omega) (by have := HZ.out; simp only [List.length_append, putS_len]; omega) (Nat.le_trans TP.out.fr.size TE.out.fr.size) ?_; intro ve ye hown hg ho
           have OE := Lib.hid (own_eq (show ye.ownsRow w1.heap.size 5 1 ve ((putS ((Z : Int) + 6) 2) ++ putS C 4 ++ zs).length (((putS ((Z : Int) + 6) 2) ++ putS C 4 ++ zs).map (.int .u8)) by rw [List.length_append]; exact hown) HE.out)
           have TF := Lib.hid (TE.out.trans (RowTo.app hg ho))
           have HWE := Lib.hid ((NBR.out _ _ TP.out).2.trans (TF.out.all.mono (NBR.out _ _ TP.out).2.size))
           clear hown hg ho))
      go_ret2
      exact ⟨_, rfl, own_lower OE.out (by have := HB1.out.size; omega), HWE.out⟩
    · have d2 : (r.k == 2) = false := by rw [beq_dec]; simp; omega
      have d3 : (r.k == 3) = true := by rw [beq_dec]; simp; omega
      clear h2 h3
      go_enter Try.func13, Try.ntmps13
      go_wp2_with fail
      (with_reducible refine (MB.out _ RA.out (by simp)).mono ?_)
      rintro e w1 ⟨rfl, hb1⟩
      have B1 := Lib.hid (BX.out.later hb1)
      have HB1 := Lib.hid (step_ HW0.out hb1)
      have OW0 : (w1.alloc (.cells #[.int .u8 r.k] 5)).ownsRow w1.heap.size 5 1 (.slice (some ⟨w1.heap.size, 0, none⟩) 1 1) ([r.k]).length (([r.k]).map (.int .u8)) :=
        ⟨rfl, .inr ⟨w1.heap.size, 1, _, rfl, Nat.le_refl _, heap_alloc_new w1 _, Nat.le_refl _, by decide, rfl, rfl⟩⟩
      have T0 := Lib.hid (RowTo.made (new_ (Below.refl w1.heap.size w1) (.cells #[.int .u8 r.k] 5)) OW0)
      have NBR : Hid (∀ v' W, RowTo w1 W (.slice none 0 0) v' → Box W w.heap.size (rcV r (.slice A1 r.c.xs.length c1) (.slice A2 r.c.ys.length c2) (.slice A3 r.ts.length c3) (.slice A4 r.ds.length c4)) 31 ∧ Below w.heap.size w W) := Lib.hid (fun v' W t => ⟨B1.out.later t.all, step_ HB1.out t.all⟩)
      obtain ⟨V0, hV0⟩ : ∃ v : Value, Value.slice (some ⟨w1.heap.size, 0, none⟩) 1 1 = v := ⟨_, rfl⟩
      rw [hV0] at T0 OW0
      have OW := Lib.hid OW0
      have kk := B1.out.cell
      have kk0 := (B1.out.alloc (.cells #[.int .u8 r.k] 5)).cell
      clear hb1 OW0
      go_wp2_with (first
        | (go_at_call 30; (with_reducible refine ((P1 _).out).mono ?_); rintro e y1 ⟨u1, rfl, ou, hb⟩
           have T1 := Lib.hid (T0.out.later hb)
           have O1 := Lib.hid (own_below OW.out hb)
           have I1 := Lib.hid (IR.of_own ou)
           clear ou
           have kR1 := (NBR.out _ _ T1.out).1.cell
           clear hb kk kk0)
        | (at_builtin; refine wpList_append_tx _ rfl _ _ _ _ rfl (w1.heap.size) 5 5 i0 .u8 1 Try.underlying25 Try.underlying25 hi0 hz0 hz1 hz2 V0 _ ([r.k]) rfl O1.out _ u1 ((putS r.t 4)) rfl I1.out (by simp only [maxLen, List.length_append, putS_len, List.length_cons, List.length_nil]; omega) (by simp only [List.length_append, putS_len, List.length_cons, List.length_nil]; omega) T1.out.fr.size ?_; intro v2 y2 hown hg ho
           have T2 := Lib.hid ((T1.out).trans (RowTo.app hg ho))
           have O2 := Lib.hid (show y2.ownsRow (w1.heap.size) 5 1 v2 ([r.k] ++ (putS r.t 4)).length (([r.k] ++ (putS r.t 4)).map (.int .u8)) by rw [List.length_append]; exact hown)
           have hb := hg
           clear hown hg ho
           have kR2 := (NBR.out _ _ T2.out).1.cell
           clear hb kR1)
        | (go_at_call 30; (with_reducible refine ((P2 _).out).mono ?_); rintro e y3 ⟨u3, rfl, ou, hb⟩
           have T3 := Lib.hid (T2.out.later hb)
           have O3 := Lib.hid (own_below O2.out hb)
           have I3 := Lib.hid (IR.of_own ou)
           clear ou
           have kR3 := (NBR.out _ _ T3.out).1.cell
           clear hb kR2)
        | (at_builtin; refine wpList_append_tx _ rfl _ _ _ _ rfl (w1.heap.size) 5 5 i0 .u8 1 Try.underlying25 Try.underlying25 hi0 hz0 hz1 hz2 v2 _ (([r.k] ++ (putS r.t 4))) rfl O3.out _ u3 ((putS r.p 8)) rfl I3.out (by simp only [maxLen, List.length_append, putS_len, List.length_cons, List.length_nil]; omega) (by simp only [List.length_append, putS_len, List.length_cons, List.length_nil]; omega) T3.out.fr.size ?_; intro v4 y4 hown hg ho
           have T4 := Lib.hid ((T3.out).trans (RowTo.app hg ho))
           have O4 := Lib.hid (show y4.ownsRow (w1.heap.size) 5 1 v4 (([r.k] ++ (putS r.t 4)) ++ (putS r.p 8)).length ((([r.k] ++ (putS r.t 4)) ++ (putS r.p 8)).map (.int .u8)) by rw [List.length_append]; exact hown)
           have hb := hg
           clear hown hg ho
           have kR4 := (NBR.out _ _ T4.out).1.cell
           clear hb kR3)
        | (go_at_call 30; (with_reducible refine ((P3 _).out).mono ?_); rintro e y5 ⟨u5, rfl, ou, hb⟩
           have T5 := Lib.hid (T4.out.later hb)
           have O5 := Lib.hid (own_below O4.out hb)
           have I5 := Lib.hid (IR.of_own ou)
           clear ou
           have kR5 := (NBR.out _ _ T5.out).1.cell
           clear hb kR4)
        | (at_builtin; refine wpList_append_tx _ rfl _ _ _ _ rfl (w1.heap.size) 5 5 i0 .u8 1 Try.underlying25 Try.underlying25 hi0 hz0 hz1 hz2 v4 _ ((([r.k] ++ (putS r.t 4)) ++ (putS r.p 8))) rfl O5.out _ u5 ((putS r.n 8)) rfl I5.out (by simp only [maxLen, List.length_append, putS_len, List.length_cons, List.length_nil]; omega) (by simp only [List.length_append, putS_len, List.length_cons, List.length_nil]; omega) T5.out.fr.size ?_; intro v6 y6 hown hg ho
           have T6 := Lib.hid ((T5.out).trans (RowTo.app hg ho))
           have O6 := Lib.hid (show y6.ownsRow (w1.heap.size) 5 1 v6 ((([r.k] ++ (putS r.t 4)) ++ (putS r.p 8)) ++ (putS r.n 8)).length (((([r.k] ++ (putS r.t 4)) ++ (putS r.p 8)) ++ (putS r.n 8)).map (.int .u8)) by rw [List.length_append]; exact hown)
           have hb := hg
           clear hown hg ho
           have kR6 := (NBR.out _ _ T6.out).1.cell
           clear hb kR5)
        | (go_at_call 31; (with_reducible refine ((CG.out _ ((R.out.below (NBR.out _ _ T6.out).2).more (NBR.out _ _ T6.out).2.size))).mono ?_); rintro e y7 ⟨u7, rfl, ou, hb⟩
           have T7 := Lib.hid (T6.out.later hb)
           have O7 := Lib.hid (own_below O6.out hb)
           have I7 := Lib.hid (IR.of_own ou)
           clear ou
           have kR7 := (NBR.out _ _ T7.out).1.cell
           clear hb kR6)
        | (at_builtin; refine wpList_append_tx _ rfl _ _ _ _ rfl (w1.heap.size) 5 5 i0 .u8 1 Try.underlying25 Try.underlying25 hi0 hz0 hz1 hz2 v6 _ (((([r.k] ++ (putS r.t 4)) ++ (putS r.p 8)) ++ (putS r.n 8))) rfl O7.out _ u7 ((chgS r.c)) rfl I7.out (by have := hchg; have := htab; simp only [maxLen, List.length_append, putS_len, List.length_cons, List.length_nil]; omega) (by have := hchg; have := htab; simp only [List.length_append, putS_len, List.length_cons, List.length_nil]; omega) T7.out.fr.size ?_; intro v8 y8 hown hg ho
           have T8 := Lib.hid ((T7.out).trans (RowTo.app hg ho))
           have O8 := Lib.hid (show y8.ownsRow (w1.heap.size) 5 1 v8 (((([r.k] ++ (putS r.t 4)) ++ (putS r.p 8)) ++ (putS r.n 8)) ++ (chgS r.c)).length ((((([r.k] ++ (putS r.t 4)) ++ (putS r.p 8)) ++ (putS r.n 8)) ++ (chgS r.c)).map (.int .u8)) by rw [List.length_append]; exact hown)
           have hb := hg
           clear hown hg ho
           have kR8 := (NBR.out _ _ T8.out).1.cell
           clear hb kR7
           have ZE := Lib.hid (show zs = (((([r.k] ++ (putS r.t 4)) ++ (putS r.p 8)) ++ (putS r.n 8)) ++ (chgS r.c)) by rw [HBD.out]; simp)
           obtain ⟨A9, c9, e9, hl9, hm9⟩ := (IR.of_own (own_eq O8.out ZE.out.symm)).form
           rw [← HZ.out] at e9 hl9
           subst e9
           unfold maxLen at hm9)
        | (go_at_call 30; (with_reducible refine (PA _).out.mono ?_); rintro e ya ⟨ua, rfl, ou, hb⟩
           have BO := Lib.hid (own_below (own_eq O8.out ZE.out.symm) hb)
           have TP := Lib.hid (T8.out)
           have BODY := Lib.hid (own_eq O8.out ZE.out.symm)
           have TA := Lib.hid (RowTo.made hb ou)
           have TW := Lib.hid (T8.out.later hb)
           have OA := Lib.hid (show ya.ownsRow w1.heap.size 5 1 ua (putS ((Z : Int) + 6) 2).length ((putS ((Z : Int) + 6) 2).map (.int .u8)) by rw [putS_len]; exact own_lower ou T8.out.fr.size)
           have SI := Lib.hid (IR.of_own BO.out)
           clear ou hb kR8)
        | (go_at_call 33; (with_reducible refine (SU.out _ _ SI.out).mono ?_); rintro e yb ⟨rfl, rfl⟩)
        | (go_at_call 30; (with_reducible refine (PB _).out.mono ?_); rintro e yc ⟨uc, rfl, ou, hb⟩
           have OC := Lib.hid (own_below OA.out hb)
           have IC := Lib.hid (IR.of_own ou)
           have BC := Lib.hid (own_below BO.out hb)
           have TC := Lib.hid (TW.out.later hb)
           have TD := Lib.hid (TA.out.later hb)
           clear ou hb)
        | (at_builtin; refine wpList_append_tx _ rfl _ _ _ _ rfl (w1.heap.size) 5 5 i0 .u8 1 Try.underlying25 Try.underlying25 hi0 hz0 hz1 hz2 ua _ (putS ((Z : Int) + 6) 2) rfl OC.out _ uc (putS C 4) rfl IC.out (by simp only [maxLen, putS_len]; omega) (by simp only [putS_len]; omega) TC.out.fr.size ?_; intro vd yd hown hg ho
           have OD := Lib.hid (show yd.ownsRow w1.heap.size 5 1 vd ((putS ((Z : Int) + 6) 2) ++ putS C 4).length (((putS ((Z : Int) + 6) 2) ++ putS C 4).map (.int .u8)) by rw [List.length_append]; exact hown)
           have TE := Lib.hid (TD.out.trans (RowTo.app hg ho))
           have ID := Lib.hid ((IR.of_own BODY.out).below TE.out.all)
           have HWD := Lib.hid ((NBR.out _ _ TP.out).2.trans (TE.out.all.mono (NBR.out _ _ TP.out).2.size))
           clear hown hg ho)
        | (at_builtin; refine wpList_append_tx _ rfl _ _ _ _ rfl (w1.heap.size) 5 5 i0 .u8 1 Try.underlying25 Try.underlying25 hi0 hz0 hz1 hz2 vd _ ((putS ((Z : Int) + 6) 2) ++ putS C 4) rfl OD.out _ _ zs rfl ID.out (by have := HZ.out; simp only [maxLen, List.length_append, putS_len]; omega) (by have := HZ.out; simp only [List.length_append, putS_len]; omega) (Nat.le_trans TP.out.fr.size TE.out.fr.size) ?_; intro ve ye hown hg ho
           have OE := Lib.hid (own_eq (show ye.ownsRow w1.heap.size 5 1 ve ((putS ((Z : Int) + 6) 2) ++ putS C 4 ++ zs).length (((putS ((Z : Int) + 6) 2) ++ putS C 4 ++ zs).map (.int .u8)) by rw [List.length_append]; exact hown) HE.out)
           have TF := Lib.hid (TE.out.trans (RowTo.app hg ho))
           have HWE := Lib.hid ((NBR.out _ _ TP.out).2.trans (TF.out.all.mono (NBR.out _ _ TP.out).2.size))
           clear hown hg ho))
      go_ret2
      exact ⟨_, rfl, own_lower OE.out (by have := HB1.out.size; omega), HWE.out⟩
  · have d2 : (r.k == 2) = false := by rw [beq_dec]; simp; omega
    have d3 : (r.k == 3) = false := by rw [beq_dec]; simp; omega
    rw [if_neg h2] at HBD
    by_cases h8 : r.k = 8
    · have d8 : (r.k == 8) = true := by rw [beq_dec]; simp; omega
      rw [if_pos h8] at HBD
      have HBD := Lib.hid HBD
      clear h2 h8
      go_enter Try.func13, Try.ntmps13
      go_wp2_with fail
      (with_reducible refine (MB.out _ RA.out (by simp)).mono ?_)
      rintro e w1 ⟨rfl, hb1⟩
      have B1 := Lib.hid (BX.out.later hb1)
      have HB1 := Lib.hid (step_ HW0.out hb1)
      have OW0 : (w1.alloc (.cells #[.int .u8 r.k] 5)).ownsRow w1.heap.size 5 1 (.slice (some ⟨w1.heap.size, 0, none⟩) 1 1) ([r.k]).length (([r.k]).map (.int .u8)) :=
        ⟨rfl, .inr ⟨w1.heap.size, 1, _, rfl, Nat.le_refl _, heap_alloc_new w1 _, Nat.le_refl _, by decide, rfl, rfl⟩⟩
      have T0 := Lib.hid (RowTo.made (new_ (Below.refl w1.heap.size w1) (.cells #[.int .u8 r.k] 5)) OW0)
      have NBR : Hid (∀ v' W, RowTo w1 W (.slice none 0 0) v' → Box W w.heap.size (rcV r (.slice A1 r.c.xs.length c1) (.slice A2 r.c.ys.length c2) (.slice A3 r.ts.length c3) (.slice A4 r.ds.length c4)) 31 ∧ Below w.heap.size w W) := Lib.hid (fun v' W t => ⟨B1.out.later t.all, step_ HB1.out t.all⟩)
      obtain ⟨V0, hV0⟩ : ∃ v : Value, Value.slice (some ⟨w1.heap.size, 0, none⟩) 1 1 = v := ⟨_, rfl⟩
      rw [hV0] at T0 OW0
      have OW := Lib.hid OW0
      have kk := B1.out.cell
      have kk0 := (B1.out.alloc (.cells #[.int .u8 r.k] 5)).cell
      clear hb1 OW0
      go_wp2_with (first
        | (go_at_call 30; (with_reducible refine ((P1 _).out).mono ?_); rintro e y1 ⟨u1, rfl, ou, hb⟩
           have T1 := Lib.hid (T0.out.later hb)
           have O1 := Lib.hid (own_below OW.out hb)
           have I1 := Lib.hid (IR.of_own ou)
           clear ou
           have kR1 := (NBR.out _ _ T1.out).1.cell
           clear hb kk kk0)
        | (at_builtin; refine wpList_append_tx _ rfl _ _ _ _ rfl (w1.heap.size) 5 5 i0 .u8 1 Try.underlying25 Try.underlying25 hi0 hz0 hz1 hz2 V0 _ ([r.k]) rfl O1.out _ u1 ((putS r.t 4)) rfl I1.out (by simp only [maxLen, List.length_append, putS_len, List.length_cons, List.length_nil]; omega) (by simp only [List.length_append, putS_len, List.length_cons, List.length_nil]; omega) T1.out.fr.size ?_; intro v2 y2 hown hg ho
           have T2 := Lib.hid ((T1.out).trans (RowTo.app hg ho))
           have O2 := Lib.hid (show y2.ownsRow (w1.heap.size) 5 1 v2 ([r.k] ++ (putS r.t 4)).length (([r.k] ++ (putS r.t 4)).map (.int .u8)) by rw [List.length_append]; exact hown)
           have hb := hg
           clear hown hg ho
           have kR2 := (NBR.out _ _ T2.out).1.cell
           clear hb kR1)
        | (go_at_call 30; (with_reducible refine ((P2 _).out).mono ?_); rintro e y3 ⟨u3, rfl, ou, hb⟩
           have T3 := Lib.hid (T2.out.later hb)
           have O3 := Lib.hid (own_below O2.out hb)
           have I3 := Lib.hid (IR.of_own ou)
           clear ou
           have kR3 := (NBR.out _ _ T3.out).1.cell
           clear hb kR2)
        | (at_builtin; refine wpList_append_tx _ rfl _ _ _ _ rfl (w1.heap.size) 5 5 i0 .u8 1 Try.underlying25 Try.underlying25 hi0 hz0 hz1 hz2 v2 _ (([r.k] ++ (putS r.t 4))) rfl O3.out _ u3 ((putS r.p 8)) rfl I3.out (by simp only [maxLen, List.length_append, putS_len, List.length_cons, List.length_nil]; omega) (by simp only [List.length_append, putS_len, List.length_cons, List.length_nil]; omega) T3.out.fr.size ?_; intro v4 y4 hown hg ho
           have T4 := Lib.hid ((T3.out).trans (RowTo.app hg ho))
           have O4 := Lib.hid (show y4.ownsRow (w1.heap.size) 5 1 v4 (([r.k] ++ (putS r.t 4)) ++ (putS r.p 8)).length ((([r.k] ++ (putS r.t 4)) ++ (putS r.p 8)).map (.int .u8)) by rw [List.length_append]; exact hown)
           have hb := hg
           clear hown hg ho
           have kR4 := (NBR.out _ _ T4.out).1.cell
           clear hb kR3)
        | (go_at_call 30; (with_reducible refine ((P3 _).out).mono ?_); rintro e y5 ⟨u5, rfl, ou, hb⟩
           have T5 := Lib.hid (T4.out.later hb)
           have O5 := Lib.hid (own_below O4.out hb)
           have I5 := Lib.hid (IR.of_own ou)
           clear ou
           have kR5 := (NBR.out _ _ T5.out).1.cell
           clear hb kR4)
        | (at_builtin; refine wpList_append_tx _ rfl _ _ _ _ rfl (w1.heap.size) 5 5 i0 .u8 1 Try.underlying25 Try.underlying25 hi0 hz0 hz1 hz2 v4 _ ((([r.k] ++ (putS r.t 4)) ++ (putS r.p 8))) rfl O5.out _ u5 ((putS r.n 8)) rfl I5.out (by simp only [maxLen, List.length_append, putS_len, List.length_cons, List.length_nil]; omega) (by simp only [List.length_append, putS_len, List.length_cons, List.length_nil]; omega) T5.out.fr.size ?_; intro v6 y6 hown hg ho
           have T6 := Lib.hid ((T5.out).trans (RowTo.app hg ho))
           have O6 := Lib.hid (show y6.ownsRow (w1.heap.size) 5 1 v6 ((([r.k] ++ (putS r.t 4)) ++ (putS r.p 8)) ++ (putS r.n 8)).length (((([r.k] ++ (putS r.t 4)) ++ (putS r.p 8)) ++ (putS r.n 8)).map (.int .u8)) by rw [List.length_append]; exact hown)
           have hb := hg
           clear hown hg ho
           have kR6 := (NBR.out _ _ T6.out).1.cell
           clear hb kR5)
        | (go_at_call 32; (with_reducible refine ((TB.out _ ((R.out.below (NBR.out _ _ T6.out).2).more (NBR.out _ _ T6.out).2.size))).mono ?_); rintro e y7 ⟨u7, rfl, ou, hb⟩
           have T7 := Lib.hid (T6.out.later hb)
           have O7 := Lib.hid (own_below O6.out hb)
           have I7 := Lib.hid (IR.of_own ou)
           clear ou
           have kR7 := (NBR.out _ _ T7.out).1.cell
           clear hb kR6)
        | (at_builtin; refine wpList_append_tx _ rfl _ _ _ _ rfl (w1.heap.size) 5 5 i0 .u8 1 Try.underlying25 Try.underlying25 hi0 hz0 hz1 hz2 v6 _ (((([r.k] ++ (putS r.t 4)) ++ (putS r.p 8)) ++ (putS r.n 8))) rfl O7.out _ u7 ((tabS r.ts r.ds)) rfl I7.out (by have := hchg; have := htab; simp only [maxLen, List.length_append, putS_len, List.length_cons, List.length_nil]; omega) (by have := hchg; have := htab; simp only [List.length_append, putS_len, List.length_cons, List.length_nil]; omega) T7.out.fr.size ?_; intro v8 y8 hown hg ho
           have T8 := Lib.hid ((T7.out).trans (RowTo.app hg ho))
           have O8 := Lib.hid (show y8.ownsRow (w1.heap.size) 5 1 v8 (((([r.k] ++ (putS r.t 4)) ++ (putS r.p 8)) ++ (putS r.n 8)) ++ (tabS r.ts r.ds)).length ((((([r.k] ++ (putS r.t 4)) ++ (putS r.p 8)) ++ (putS r.n 8)) ++ (tabS r.ts r.ds)).map (.int .u8)) by rw [List.length_append]; exact hown)
           have hb := hg
           clear hown hg ho
           have kR8 := (NBR.out _ _ T8.out).1.cell
           clear hb kR7
           have ZE := Lib.hid (show zs = (((([r.k] ++ (putS r.t 4)) ++ (putS r.p 8)) ++ (putS r.n 8)) ++ (tabS r.ts r.ds)) by rw [HBD.out]; simp)
           obtain ⟨A9, c9, e9, hl9, hm9⟩ := (IR.of_own (own_eq O8.out ZE.out.symm)).form
           rw [← HZ.out] at e9 hl9
           subst e9
           unfold maxLen at hm9)
        | (go_at_call 30; (with_reducible refine (PA _).out.mono ?_); rintro e ya ⟨ua, rfl, ou, hb⟩
           have BO := Lib.hid (own_below (own_eq O8.out ZE.out.symm) hb)
           have TP := Lib.hid (T8.out)
           have BODY := Lib.hid (own_eq O8.out ZE.out.symm)
           have TA := Lib.hid (RowTo.made hb ou)
           have TW := Lib.hid (T8.out.later hb)
           have OA := Lib.hid (show ya.ownsRow w1.heap.size 5 1 ua (putS ((Z : Int) + 6) 2).length ((putS ((Z : Int) + 6) 2).map (.int .u8)) by rw [putS_len]; exact own_lower ou T8.out.fr.size)
           have SI := Lib.hid (IR.of_own BO.out)
           clear ou hb kR8)
        | (go_at_call 33; (with_reducible refine (SU.out _ _ SI.out).mono ?_); rintro e yb ⟨rfl, rfl⟩)
        | (go_at_call 30; (with_reducible refine (PB _).out.mono ?_); rintro e yc ⟨uc, rfl, ou, hb⟩
           have OC := Lib.hid (own_below OA.out hb)
           have IC := Lib.hid (IR.of_own ou)
           have BC := Lib.hid (own_below BO.out hb)
           have TC := Lib.hid (TW.out.later hb)
           have TD := Lib.hid (TA.out.later hb)
           clear ou hb)
        | (at_builtin; refine wpList_append_tx _ rfl _ _ _ _ rfl (w1.heap.size) 5 5 i0 .u8 1 Try.underlying25 Try.underlying25 hi0 hz0 hz1 hz2 ua _ (putS ((Z : Int) + 6) 2) rfl OC.out _ uc (putS C 4) rfl IC.out (by simp only [maxLen, putS_len]; omega) (by simp only [putS_len]; omega) TC.out.fr.size ?_; intro vd yd hown hg ho
           have OD := Lib.hid (show yd.ownsRow w1.heap.size 5 1 vd ((putS ((Z : Int) + 6) 2) ++ putS C 4).length (((putS ((Z : Int) + 6) 2) ++ putS C 4).map (.int .u8)) by rw [List.length_append]; exact hown)
           have TE := Lib.hid (TD.out.trans (RowTo.app hg ho))
           have ID := Lib.hid ((IR.of_own BODY.out).below TE.out.all)
           have HWD := Lib.hid ((NBR.out _ _ TP.out).2.trans (TE.out.all.mono (NBR.out _ _ TP.out).2.size))
           clear hown hg ho)
        | (at_builtin; refine wpList_append_tx _ rfl _ _ _ _ rfl (w1.heap.size) 5 5 i0 .u8 1 Try.underlying25 Try.underlying25 hi0 hz0 hz1 hz2 vd _ ((putS ((Z : Int) + 6) 2) ++ putS C 4) rfl OD.out _ _ zs rfl ID.out (by have := HZ.out; simp only [maxLen, List.length_append, putS_len]; omega) (by have := HZ.out; simp only [List.length_append, putS_len]; omega) (Nat.le_trans TP.out.fr.size TE.out.fr.size) ?_; intro ve ye hown hg ho
           have OE := Lib.hid (own_eq (show ye.ownsRow w1.heap.size 5 1 ve ((putS ((Z : Int) + 6) 2) ++ putS C 4 ++ zs).length (((putS ((Z : Int) + 6) 2) ++ putS C 4 ++ zs).map (.int .u8)) by rw [List.length_append]; exact hown) HE.out)
           have TF := Lib.hid (TE.out.trans (RowTo.app hg ho))
           have HWE := Lib.hid ((NBR.out _ _ TP.out).2.trans (TF.out.all.mono (NBR.out _ _ TP.out).2.size))
           clear hown hg ho))
      go_ret2
      exact ⟨_, rfl, own_lower OE.out (by have := HB1.out.size; omega), HWE.out⟩
    · have d8 : (r.k == 8) = false := by rw [beq_dec]; simp; omega
      rw [if_neg h8] at HBD
      have HBD := Lib.hid HBD
      clear h2 h8
      go_enter Try.func13, Try.ntmps13
      go_wp2_with fail
      (with_reducible refine (MB.out _ RA.out (by simp)).mono ?_)
      rintro e w1 ⟨rfl, hb1⟩
      have B1 := Lib.hid (BX.out.later hb1)
      have HB1 := Lib.hid (step_ HW0.out hb1)
      have OW0 : (w1.alloc (.cells #[.int .u8 r.k] 5)).ownsRow w1.heap.size 5 1 (.slice (some ⟨w1.heap.size, 0, none⟩) 1 1) ([r.k]).length (([r.k]).map (.int .u8)) :=
        ⟨rfl, .inr ⟨w1.heap.size, 1, _, rfl, Nat.le_refl _, heap_alloc_new w1 _, Nat.le_refl _, by decide, rfl, rfl⟩⟩
      have T0 := Lib.hid (RowTo.made (new_ (Below.refl w1.heap.size w1) (.cells #[.int .u8 r.k] 5)) OW0)
      have NBR : Hid (∀ v' W, RowTo w1 W (.slice none 0 0) v' → Box W w.heap.size (rcV r (.slice A1 r.c.xs.length c1) (.slice A2 r.c.ys.length c2) (.slice A3 r.ts.length c3) (.slice A4 r.ds.length c4)) 31 ∧ Below w.heap.size w W) := Lib.hid (fun v' W t => ⟨B1.out.later t.all, step_ HB1.out t.all⟩)
      obtain ⟨V0, hV0⟩ : ∃ v : Value, Value.slice (some ⟨w1.heap.size, 0, none⟩) 1 1 = v := ⟨_, rfl⟩
      rw [hV0] at T0 OW0
      have OW := Lib.hid OW0
      have kk := B1.out.cell
      have kk0 := (B1.out.alloc (.cells #[.int .u8 r.k] 5)).cell
      clear hb1 OW0
      go_wp2_with (first
        | (go_at_call 30; (with_reducible refine ((P1 _).out).mono ?_); rintro e y1 ⟨u1, rfl, ou, hb⟩
           have T1 := Lib.hid (T0.out.later hb)
           have O1 := Lib.hid (own_below OW.out hb)
           have I1 := Lib.hid (IR.of_own ou)
           clear ou
           have kR1 := (NBR.out _ _ T1.out).1.cell
           clear hb kk kk0)
        | (at_builtin; refine wpList_append_tx _ rfl _ _ _ _ rfl (w1.heap.size) 5 5 i0 .u8 1 Try.underlying25 Try.underlying25 hi0 hz0 hz1 hz2 V0 _ ([r.k]) rfl O1.out _ u1 ((putS r.t 4)) rfl I1.out (by simp only [maxLen, List.length_append, putS_len, List.length_cons, List.length_nil]; omega) (by simp only [List.length_append, putS_len, List.length_cons, List.length_nil]; omega) T1.out.fr.size ?_; intro v2 y2 hown hg ho
           have T2 := Lib.hid ((T1.out).trans (RowTo.app hg ho))
           have O2 := Lib.hid (show y2.ownsRow (w1.heap.size) 5 1 v2 ([r.k] ++ (putS r.t 4)).length (([r.k] ++ (putS r.t 4)).map (.int .u8)) by rw [List.length_append]; exact hown)
           have hb := hg
           clear hown hg ho
           have kR2 := (NBR.out _ _ T2.out).1.cell
           clear hb kR1)
        | (go_at_call 30; (with_reducible refine ((P2 _).out).mono ?_); rintro e y3 ⟨u3, rfl, ou, hb⟩
           have T3 := Lib.hid (T2.out.later hb)
           have O3 := Lib.hid (own_below O2.out hb)
           have I3 := Lib.hid (IR.of_own ou)
           clear ou
           have kR3 := (NBR.out _ _ T3.out).1.cell
           clear hb kR2)
        | (at_builtin; refine wpList_append_tx _ rfl _ _ _ _ rfl (w1.heap.size) 5 5 i0 .u8 1 Try.underlying25 Try.underlying25 hi0 hz0 hz1 hz2 v2 _ (([r.k] ++ (putS r.t 4))) rfl O3.out _ u3 ((putS r.p 8)) rfl I3.out (by simp only [maxLen, List.length_append, putS_len, List.length_cons, List.length_nil]; omega) (by simp only [List.length_append, putS_len, List.length_cons, List.length_nil]; omega) T3.out.fr.size ?_; intro v4 y4 hown hg ho
           have T4 := Lib.hid ((T3.out).trans (RowTo.app hg ho))
           have O4 := Lib.hid (show y4.ownsRow (w1.heap.size) 5 1 v4 (([r.k] ++ (putS r.t 4)) ++ (putS r.p 8)).length ((([r.k] ++ (putS r.t 4)) ++ (putS r.p 8)).map (.int .u8)) by rw [List.length_append]; exact hown)
           have hb := hg
           clear hown hg ho
           have kR4 := (NBR.out _ _ T4.out).1.cell
           clear hb kR3)
        | (go_at_call 30; (with_reducible refine ((P3 _).out).mono ?_); rintro e y5 ⟨u5, rfl, ou, hb⟩
           have T5 := Lib.hid (T4.out.later hb)
           have O5 := Lib.hid (own_below O4.out hb)
           have I5 := Lib.hid (IR.of_own ou)
           clear ou
           have kR5 := (NBR.out _ _ T5.out).1.cell
           clear hb kR4)
        | (at_builtin; refine wpList_append_tx _ rfl _ _ _ _ rfl (w1.heap.size) 5 5 i0 .u8 1 Try.underlying25 Try.underlying25 hi0 hz0 hz1 hz2 v4 _ ((([r.k] ++ (putS r.t 4)) ++ (putS r.p 8))) rfl O5.out _ u5 ((putS r.n 8)) rfl I5.out (by simp only [maxLen, List.length_append, putS_len, List.length_cons, List.length_nil]; omega) (by simp only [List.length_append, putS_len, List.length_cons, List.length_nil]; omega) T5.out.fr.size ?_; intro v6 y6 hown hg ho
           have T6 := Lib.hid ((T5.out).trans (RowTo.app hg ho))
           have O6 := Lib.hid (show y6.ownsRow (w1.heap.size) 5 1 v6 ((([r.k] ++ (putS r.t 4)) ++ (putS r.p 8)) ++ (putS r.n 8)).length (((([r.k] ++ (putS r.t 4)) ++ (putS r.p 8)) ++ (putS r.n 8)).map (.int .u8)) by rw [List.length_append]; exact hown)
           have hb := hg
           clear hown hg ho
           have kR6 := (NBR.out _ _ T6.out).1.cell
           clear hb kR5
           have ZE := Lib.hid (show zs = ((([r.k] ++ (putS r.t 4)) ++ (putS r.p 8)) ++ (putS r.n 8)) by rw [HBD.out]; simp)
           obtain ⟨A9, c9, e9, hl9, hm9⟩ := (IR.of_own (own_eq O6.out ZE.out.symm)).form
           rw [← HZ.out] at e9 hl9
           subst e9
           unfold maxLen at hm9)
        | (go_at_call 30; (with_reducible refine (PA _).out.mono ?_); rintro e ya ⟨ua, rfl, ou, hb⟩
           have BO := Lib.hid (own_below (own_eq O6.out ZE.out.symm) hb)
           have TP := Lib.hid (T6.out)
           have BODY := Lib.hid (own_eq O6.out ZE.out.symm)
           have TA := Lib.hid (RowTo.made hb ou)
           have TW := Lib.hid (T6.out.later hb)
           have OA := Lib.hid (show ya.ownsRow w1.heap.size 5 1 ua (putS ((Z : Int) + 6) 2).length ((putS ((Z : Int) + 6) 2).map (.int .u8)) by rw [putS_len]; exact own_lower ou T6.out.fr.size)
           have SI := Lib.hid (IR.of_own BO.out)
           clear ou hb kR6)
        | (go_at_call 33; (with_reducible refine (SU.out _ _ SI.out).mono ?_); rintro e yb ⟨rfl, rfl⟩)
        | (go_at_call 30; (with_reducible refine (PB _).out.mono ?_); rintro e yc ⟨uc, rfl, ou, hb⟩
           have OC := Lib.hid (own_below OA.out hb)
           have IC := Lib.hid (IR.of_own ou)
           have BC := Lib.hid (own_below BO.out hb)
           have TC := Lib.hid (TW.out.later hb)
           have TD := Lib.hid (TA.out.later hb)
           clear ou hb)
        | (at_builtin; refine wpList_append_tx _ rfl _ _ _ _ rfl (w1.heap.size) 5 5 i0 .u8 1 Try.underlying25 Try.underlying25 hi0 hz0 hz1 hz2 ua _ (putS ((Z : Int) + 6) 2) rfl OC.out _ uc (putS C 4) rfl IC.out (by simp only [maxLen, putS_len]; omega) (by simp only [putS_len]; omega) TC.out.fr.size ?_; intro vd yd hown hg ho
           have OD := Lib.hid (show yd.ownsRow w1.heap.size 5 1 vd ((putS ((Z : Int) + 6) 2) ++ putS C 4).length (((putS ((Z : Int) + 6) 2) ++ putS C 4).map (.int .u8)) by rw [List.length_append]; exact hown)
           have TE := Lib.hid (TD.out.trans (RowTo.app hg ho))
           have ID := Lib.hid ((IR.of_own BODY.out).below TE.out.all)
           have HWD := Lib.hid ((NBR.out _ _ TP.out).2.trans (TE.out.all.mono (NBR.out _ _ TP.out).2.size))
           clear hown hg ho)
        | (at_builtin; refine wpList_append_tx _ rfl _ _ _ _ rfl (w1.heap.size) 5 5 i0 .u8 1 Try.underlying25 Try.underlying25 hi0 hz0 hz1 hz2 vd _ ((putS ((Z : Int) + 6) 2) ++ putS C 4) rfl OD.out _ _ zs rfl ID.out (by have := HZ.out; simp only [maxLen, List.length_append, putS_len]; omega) (by have := HZ.out; simp only [List.length_append, putS_len]; omega) (Nat.le_trans TP.out.fr.size TE.out.fr.size) ?_; intro ve ye hown hg ho
           have OE := Lib.hid (own_eq (show ye.ownsRow w1.heap.size 5 1 ve ((putS ((Z : Int) + 6) 2) ++ putS C 4 ++ zs).length (((putS ((Z : Int) + 6) 2) ++ putS C 4 ++ zs).map (.int .u8)) by rw [List.length_append]; exact hown) HE.out)
           have TF := Lib.hid (TE.out.trans (RowTo.app hg ho))
           have HWE := Lib.hid ((NBR.out _ _ TP.out).2.trans (TF.out.all.mono (NBR.out _ _ TP.out).2.size))
           clear hown hg ho))
      go_ret2
      exact ⟨_, rfl, own_lower OE.out (by have := HB1.out.size; omega), HWE.out⟩
end Go.Proofs.Ytbbphfhkedldmaa.Rec
