import Derived.Test.YtbbphfhkedldmaaRecM
import Derived.Test.YtbbphfhkedldmaaRowTo
/- The document's tables as bytes. -/
namespace Go.Proofs.Ytbbphfhkedldmaa.Rec
open Go.ChangeShapes Go.WideShapes Go.ChangeAt Go.RowKit Go.IntWalk Go.Proofs.NumMath Go.Proofs.Mem Go.Proofs.CrcMath NumBytes CrcA
set_option linter.unusedVariables false
set_option linter.unusedSimpArgs false
theorem own_eq {W : World} {base : Nat} {v : Value} {xs ys : List Int} (h : W.ownsRow base 5 1 v xs.length (xs.map (.int .u8))) (e : xs = ys) : W.ownsRow base 5 1 v ys.length (ys.map (.int .u8)) := e ▸ h
set_option maxRecDepth 100000 in
set_option maxHeartbeats 16000000 in
theorem tables_ref (r : Rc) (hr : r.Ok) (a b ta da : Value) (w : World) (hi : RcIn w w.heap.size r a b ta da) (ht : r.ts.length ≤ 64) (hd : r.ds.length ≤ 64) :
    Calls Try.prog 32 #[.agg (rcV r a b ta da)] w fun e w' => ∃ u, e = .returned u ∧ w'.ownsRow w.heap.size 5 1 u (tabS r.ts r.ds).length ((tabS r.ts r.ds).map (.int .u8)) ∧ Below w.heap.size w w' := by
  obtain ⟨i0, hi0, hz0, hz1, hz2⟩ := info_parts u8_info
  obtain ⟨A1, c1, e1, hl1, hm1⟩ := hi.a.form
  obtain ⟨A2, c2, e2, hl2, hm2⟩ := hi.b.form
  obtain ⟨A3, c3, e3, hl3, hm3⟩ := hi.t.form
  obtain ⟨A4, c4, e4, hl4, hm4⟩ := hi.d.form
  subst e1 e2 e3 e4
  obtain ⟨LT, hLT⟩ : ∃ n, n = r.ts.length := ⟨_, rfl⟩
  obtain ⟨LD, hLD⟩ : ∃ n, n = r.ds.length := ⟨_, rfl⟩
  rw [← hLT] at hi hl3 ht ⊢
  rw [← hLD] at hi hl4 hd ⊢
  have e5 := u8_wrap' (x := (LT : Int)) (by omega) (by omega)
  have e6 := u8_wrap' (x := (LD : Int)) (by omega) (by omega)
  have hs : [(LT : Int)] ++ acsS r.ts ++ [(LD : Int)] ++ dtsS r.ds = tabS r.ts r.ds := by
    rw [tabS, ← hLT, ← hLD, put_one (x := (LT : Int)) (by omega), put_one (x := (LD : Int)) (by omega)]
  have HS := Lib.hid hs
  have HOT := Lib.hid hr.2.2.2.2.2.1
  have HOD := Lib.hid hr.2.2.2.2.2.2
  have HT := Lib.hid hi.t
  have HD := Lib.hid hi.d
  have HLT := Lib.hid hLT
  have HLD := Lib.hid hLD
  obtain ⟨w1, hw1⟩ : ∃ w1, w.alloc (.cells (rcV r (.slice A1 r.c.xs.length c1) (.slice A2 r.c.ys.length c2) (.slice A3 LT c3) (.slice A4 LD c4)) 31) = w1 := ⟨_, rfl⟩
  have BX1 := Lib.hid (show Box w1 w.heap.size (rcV r (.slice A1 r.c.xs.length c1) (.slice A2 r.c.ys.length c2) (.slice A3 LT c3) (.slice A4 LD c4)) 31 by rw [← hw1]; exact Box.new _ _ _)
  have HB1 := Lib.hid (show Below w.heap.size w w1 by rw [← hw1]; exact new_ (Below.refl _ _) _)
  have hs1 : w1.heap.size = w.heap.size + 1 := by rw [← hw1]; simp
  have OW0 : (w1.alloc (.cells #[.int .u8 (LT : Int)] 5)).ownsRow w1.heap.size 5 1 (.slice (some ⟨w1.heap.size, 0, none⟩) 1 1) ([(LT : Int)]).length (([(LT : Int)]).map (.int .u8)) :=
    ⟨rfl, .inr ⟨w1.heap.size, 1, _, rfl, Nat.le_refl _, heap_alloc_new w1 _, Nat.le_refl _, by decide, rfl, rfl⟩⟩
  have T0 := Lib.hid (RowTo.made (new_ (Below.refl w1.heap.size w1) _) OW0)
  have NBR : Hid (∀ v' W, RowTo w1 W (.slice none 0 0) v' → Box W w.heap.size (rcV r (.slice A1 r.c.xs.length c1) (.slice A2 r.c.ys.length c2) (.slice A3 LT c3) (.slice A4 LD c4)) 31 ∧ Below w.heap.size w W) := Lib.hid (fun v' W t => ⟨BX1.out.later t.all, step_ HB1.out t.all⟩)
  obtain ⟨V0, hV0⟩ : ∃ v : Value, Value.slice (some ⟨w1.heap.size, 0, none⟩) 1 1 = v := ⟨_, rfl⟩
  rw [hV0] at T0 OW0
  rw [hs1] at hV0
  have OW := Lib.hid OW0
  have HW1 := Lib.hid hw1
  have HS1 := Lib.hid hs1
  clear hs hi hLT hLD hr hm1 hm2 hl1 hl2 hw1 hs1 OW0
  unfold maxLen at hm3 hm4
  go_enter Try.func32, Try.ntmps32
  go_wp2
  have HV0 := Lib.hid hV0
  clear hV0
  rw [HW1.out]
  go_loopw [3, 4] (fun v i wr => ∃ j : Nat, i = .int .i64 j ∧ j ≤ LT ∧ Hid (wr.ownsRow w1.heap.size 5 1 v ([(LT : Int)] ++ acsS (r.ts.take j)).length (([(LT : Int)] ++ acsS (r.ts.take j)).map (.int .u8))) ∧ Hid (RowTo w1 wr (.slice none 0 0) v)) (fun _ i _ => LT - (intOf i).toNat)
  case atStart => exact ⟨0, rfl, Nat.zero_le _, Lib.hid (own_eq OW.out (by simp [acsS])), T0⟩
  case round =>
    clear OW T0
    obtain ⟨j, rfl, hj, OW, T0⟩ := hrel
    have kBX0 := (NBR.out _ _ T0.out).1.cell
    by_cases hlt : j < LT
    · have hlt' : j < r.ts.length := by have := HLT.out; omega
      have hok := HOT.out r.ts[j] (List.getElem_mem hlt')
      have hzl : ([(LT : Int)] ++ acsS (r.ts.take j)).length ≤ 2000 := by simp [acs_len, List.length_take]; have := HLT.out; omega
      obtain ⟨gg, off, rfl, hgg, hcell⟩ := (HT.out.below (NBR.out _ _ T0.out).2).at_ (List.getElem?_eq_getElem hlt')
      have y0 : wr.cell? ⟨gg, off + j * 4, none⟩ = some (.int .u32 r.ts[j].t) := hcell 0 _ rfl
      have y1 : wr.cell? ⟨gg, off + j * 4 + 1, none⟩ = some (.int .u64 r.ts[j].l) := hcell 1 _ rfl
      have y2 : wr.cell? ⟨gg, off + j * 4 + 2, none⟩ = some (.int .u64 r.ts[j].u) := hcell 2 _ rfl
      have y3 : wr.cell? ⟨gg, off + j * 4 + 3, none⟩ = some (.int .u8 r.ts[j].s) := hcell 3 _ rfl
      have SN := Lib.hid (acs_snoc r.ts j hlt')
      obtain ⟨⟨a0, b0⟩, ⟨a1, b1⟩, ⟨a2, b2⟩, ⟨a3, b3⟩⟩ := hok
      generalize r.ts[j].t = z0 at *
      generalize r.ts[j].l = z1 at *
      generalize r.ts[j].u = z2 at *
      generalize r.ts[j].s = z3 at *
      have e0 := u64_wrap (x := z0) (by omega) (by omega)
      have P1 := fun W => Lib.hid (put_ref_w z0 4 4 rfl a0 (by omega) (by decide) (by decide) W)
      have P2 := fun W => Lib.hid (put_ref_w z1 8 8 rfl a1 (by omega) (by decide) (by decide) W)
      have P3 := fun W => Lib.hid (put_ref_w z2 8 8 rfl a2 (by omega) (by decide) (by decide) W)
      obtain ⟨zz, hzz⟩ : ∃ zz, zz = [(LT : Int)] ++ acsS (r.ts.take j) := ⟨_, rfl⟩
      rw [← hzz] at OW hzl
      have HZZ := Lib.hid hzz
      obtain ⟨wa, hwa⟩ : ∃ wa, wr.alloc (.cells #[.int .u32 z0, .int .u64 z1, .int .u64 z2, .int .u8 z3] 64) = wa := ⟨_, rfl⟩
      have hba : Below wr.heap.size wr wa := by rw [← hwa]; exact new_ (Below.refl _ _) _
      have sxa : Box wa wr.heap.size #[.int .u32 z0, .int .u64 z1, .int .u64 z2, .int .u8 z3] 64 := by rw [← hwa]; exact Box.new _ _ _
      have OWA := Lib.hid (own_below OW.out hba)
      have TA := Lib.hid (T0.out.later hba)
      have NB : Hid (∀ v' W, RowTo wa W u3 v' → Box W wr.heap.size #[.int .u32 z0, .int .u64 z1, .int .u64 z2, .int .u8 z3] 64 ∧ Box W w.heap.size (rcV r (.slice A1 r.c.xs.length c1) (.slice A2 r.c.ys.length c2) (.slice (some ⟨gg, off, none⟩) LT c3) (.slice A4 LD c4)) 31 ∧ w1.heap.size ≤ W.heap.size) := Lib.hid (fun v' W t => ⟨t.box sxa (fun e => by have := (OW.out.lt _ e).2; omega), t.box (NBR.out _ _ TA.out).1 (fun e => by have := (OW.out.lt _ e).1; have := HS1.out; omega), Nat.le_trans TA.out.fr.size t.fr.size⟩)
      have kA := sxa.cell
      have HWA := Lib.hid hwa
      clear hzz hcell hwa hba sxa
      go_wp2_with fail
      rw [HWA.out]
      clear y0 y1 y2 y3 kBX0
      (with_reducible refine ((P1 _).out).mono ?_)
      rintro e y1 ⟨u1, rfl, ou, hb⟩
      have T1 := Lib.hid (RowTo.of_below hb u3)
      have O1 := Lib.hid (own_below OWA.out hb)
      have I1 := Lib.hid (IR.of_own ou)
      clear ou
      have kS1 := (NB.out _ _ T1.out).1.cell
      have kR1 := (NB.out _ _ T1.out).2.1.cell
      clear hb 
      go_wp2_with (first
        | (at_builtin; refine wpList_append_tx _ rfl _ _ _ _ rfl (w1.heap.size) 5 5 i0 .u8 1 Try.underlying25 Try.underlying25 hi0 hz0 hz1 hz2 u3 _ (zz) rfl O1.out _ u1 ((putS z0 4)) rfl I1.out (by simp only [maxLen, List.length_append, putS_len, List.length_cons, List.length_nil]; omega) (by simp only [List.length_append, putS_len, List.length_cons, List.length_nil]; omega) (NB.out _ _ T1.out).2.2 ?_; intro v2 y2 hown hg ho
           have T2 := Lib.hid ((T1.out).trans (RowTo.app hg ho))
           have O2 := Lib.hid (show y2.ownsRow (w1.heap.size) 5 1 v2 (zz ++ (putS z0 4)).length ((zz ++ (putS z0 4)).map (.int .u8)) by rw [List.length_append]; exact hown)
           have hb := hg
           clear hown hg ho
           have kS2 := (NB.out _ _ T2.out).1.cell
           have kR2 := (NB.out _ _ T2.out).2.1.cell
           clear hb kS1 kR1)
        | (go_at_call 30; (with_reducible refine ((P2 _).out).mono ?_); rintro e y3 ⟨u3, rfl, ou, hb⟩
           have T3 := Lib.hid (T2.out.later hb)
           have O3 := Lib.hid (own_below O2.out hb)
           have I3 := Lib.hid (IR.of_own ou)
           clear ou
           have kS3 := (NB.out _ _ T3.out).1.cell
           have kR3 := (NB.out _ _ T3.out).2.1.cell
           clear hb kS2 kR2)
        | (at_builtin; refine wpList_append_tx _ rfl _ _ _ _ rfl (w1.heap.size) 5 5 i0 .u8 1 Try.underlying25 Try.underlying25 hi0 hz0 hz1 hz2 v2 _ ((zz ++ (putS z0 4))) rfl O3.out _ u3 ((putS z1 8)) rfl I3.out (by simp only [maxLen, List.length_append, putS_len, List.length_cons, List.length_nil]; omega) (by simp only [List.length_append, putS_len, List.length_cons, List.length_nil]; omega) (NB.out _ _ T3.out).2.2 ?_; intro v4 y4 hown hg ho
           have T4 := Lib.hid ((T3.out).trans (RowTo.app hg ho))
           have O4 := Lib.hid (show y4.ownsRow (w1.heap.size) 5 1 v4 ((zz ++ (putS z0 4)) ++ (putS z1 8)).length (((zz ++ (putS z0 4)) ++ (putS z1 8)).map (.int .u8)) by rw [List.length_append]; exact hown)
           have hb := hg
           clear hown hg ho
           have kS4 := (NB.out _ _ T4.out).1.cell
           have kR4 := (NB.out _ _ T4.out).2.1.cell
           clear hb kS3 kR3)
        | (go_at_call 30; (with_reducible refine ((P3 _).out).mono ?_); rintro e y5 ⟨u5, rfl, ou, hb⟩
           have T5 := Lib.hid (T4.out.later hb)
           have O5 := Lib.hid (own_below O4.out hb)
           have I5 := Lib.hid (IR.of_own ou)
           clear ou
           have kS5 := (NB.out _ _ T5.out).1.cell
           have kR5 := (NB.out _ _ T5.out).2.1.cell
           clear hb kS4 kR4)
        | (at_builtin; refine wpList_append_tx _ rfl _ _ _ _ rfl (w1.heap.size) 5 5 i0 .u8 1 Try.underlying25 Try.underlying25 hi0 hz0 hz1 hz2 v4 _ (((zz ++ (putS z0 4)) ++ (putS z1 8))) rfl O5.out _ u5 ((putS z2 8)) rfl I5.out (by simp only [maxLen, List.length_append, putS_len, List.length_cons, List.length_nil]; omega) (by simp only [List.length_append, putS_len, List.length_cons, List.length_nil]; omega) (NB.out _ _ T5.out).2.2 ?_; intro v6 y6 hown hg ho
           have T6 := Lib.hid ((T5.out).trans (RowTo.app hg ho))
           have O6 := Lib.hid (show y6.ownsRow (w1.heap.size) 5 1 v6 (((zz ++ (putS z0 4)) ++ (putS z1 8)) ++ (putS z2 8)).length ((((zz ++ (putS z0 4)) ++ (putS z1 8)) ++ (putS z2 8)).map (.int .u8)) by rw [List.length_append]; exact hown)
           have hb := hg
           clear hown hg ho
           have kS6 := (NB.out _ _ T6.out).1.cell
           have kR6 := (NB.out _ _ T6.out).2.1.cell
           clear hb kS5 kR5)
        | (at_builtin; refine wpList_append_tx _ rfl _ _ _ _ rfl (w1.heap.size) 5 5 i0 .u8 1 Try.underlying25 Try.underlying25 hi0 hz0 hz1 hz2 v6 _ ((((zz ++ (putS z0 4)) ++ (putS z1 8)) ++ (putS z2 8))) rfl (own_below O6.out (new_ (Below.refl _ _) (.cells #[.int .u8 z3] 5))) _ (.slice (some ⟨y6.heap.size, 0, none⟩) 1 1) ([z3]) rfl (IR.lit y6 .u8 [z3] 5 (by simp)) (by simp only [maxLen, List.length_append, putS_len, List.length_cons, List.length_nil]; omega) (by simp only [List.length_append, putS_len, List.length_cons, List.length_nil]; omega) (by have := (NB.out _ _ T6.out).2.2; simp; omega) ?_; intro v7 y7 hown hg ho
           have T7 := Lib.hid (((T6.out).later (new_ (Below.refl _ _) (.cells #[.int .u8 z3] 5))).trans (RowTo.app hg ho))
           have O7 := Lib.hid (show y7.ownsRow (w1.heap.size) 5 1 v7 ((((zz ++ (putS z0 4)) ++ (putS z1 8)) ++ (putS z2 8)) ++ [z3]).length (((((zz ++ (putS z0 4)) ++ (putS z1 8)) ++ (putS z2 8)) ++ [z3]).map (.int .u8)) by rw [List.length_append]; exact hown)
           have hb := hg
           clear hown hg ho
           have kS7 := (NB.out _ _ T7.out).1.cell
           have kR7 := (NB.out _ _ T7.out).2.1.cell
           clear hb kS6 kR6))
      go_roundw
      case rel => exact ⟨j + 1, by go_num, by omega, Lib.hid (own_eq O7.out (by rw [SN.out, HZZ.out, put_one (x := z3) ⟨a3, b3⟩]; simp)), Lib.hid (TA.out.trans T7.out)⟩
      case measure => simp [intOf]; omega
    · have hje : j = LT := by omega
      have o1 : wr.ownsRow w1.heap.size 5 1 u3 ([(LT : Int)] ++ acsS r.ts).length (([(LT : Int)] ++ acsS r.ts).map (.int .u8)) := own_eq OW.out (by rw [List.take_of_length_le (by have := HLT.out; omega)])
      have O1 := Lib.hid o1
      have hzl : ([(LT : Int)] ++ acsS r.ts).length ≤ 2000 := by simp [acs_len]; have := HLT.out; omega
      obtain ⟨zz, hzz⟩ : ∃ zz, zz = [(LT : Int)] ++ acsS r.ts := ⟨_, rfl⟩
      rw [← hzz] at O1 hzl
      have HZZ := Lib.hid hzz
      clear o1 OW hzz
      go_wp2_with (first
        | (at_builtin; refine wpList_append_tx _ rfl _ _ _ _ rfl (w1.heap.size) 5 5 i0 .u8 1 Try.underlying25 Try.underlying25 hi0 hz0 hz1 hz2 u3 _ (zz) rfl (own_below O1.out (new_ (Below.refl _ _) (.cells #[.int .u8 (LD : Int)] 5))) _ (.slice (some ⟨wr.heap.size, 0, none⟩) 1 1) ([(LD : Int)]) rfl (IR.lit wr .u8 [(LD : Int)] 5 (by simp)) (by simp only [maxLen, List.length_append, putS_len, List.length_cons, List.length_nil]; omega) (by simp only [List.length_append, putS_len, List.length_cons, List.length_nil]; omega) (by have := T0.out.fr.size; simp; omega) ?_; intro vq1 yq1 hown hg ho
           have Tq1 := Lib.hid (((T0.out).later (new_ (Below.refl _ _) (.cells #[.int .u8 (LD : Int)] 5))).trans (RowTo.app hg ho))
           have Oq1 := Lib.hid (show yq1.ownsRow (w1.heap.size) 5 1 vq1 (zz ++ [(LD : Int)]).length ((zz ++ [(LD : Int)]).map (.int .u8)) by rw [List.length_append]; exact hown)
           have hb := hg
           clear hown hg ho
           have kRq1 := (NBR.out _ _ Tq1.out).1.cell
           clear hb ))
      clear kBX0
      have OQ := Oq1
      have TQ := Tq1
      go_loopw [3, 6] (fun v i wr => ∃ j : Nat, i = .int .i64 j ∧ j ≤ LD ∧ Hid (wr.ownsRow w1.heap.size 5 1 v (zz ++ [(LD : Int)] ++ dtsS (r.ds.take j)).length ((zz ++ [(LD : Int)] ++ dtsS (r.ds.take j)).map (.int .u8))) ∧ Hid (RowTo w1 wr (.slice none 0 0) v)) (fun _ i _ => LD - (intOf i).toNat)
      case atStart => exact ⟨0, rfl, Nat.zero_le _, Lib.hid (own_eq OQ.out (by simp [dtsS])), TQ⟩
      case round =>
        clear OQ TQ Oq1 Tq1 O1 T0
        obtain ⟨j, rfl, hj, OW, T0⟩ := hrel
        have kBX0 := (NBR.out _ _ T0.out).1.cell
        by_cases hlt : j < LD
        · have hlt' : j < r.ds.length := by have := HLD.out; omega
          have hok := HOD.out r.ds[j] (List.getElem_mem hlt')
          have hzm : (zz ++ [(LD : Int)] ++ dtsS (r.ds.take j)).length ≤ 5000 := by simp [dts_len, List.length_take]; have := HLD.out; omega
          obtain ⟨gg, off, rfl, hgg, hcell⟩ := HD.out.at_ (List.getElem?_eq_getElem hlt')
          have c0w : w.cell? ⟨gg, off + j * 2, none⟩ = some (.int .u32 r.ds[j].p) := hcell 0 _ rfl
          have c1w : w.cell? ⟨gg, off + j * 2 + 1, none⟩ = some (.int .u64 r.ds[j].f) := hcell 1 _ rfl
          have SN := Lib.hid (dts_snoc r.ds j hlt')
          obtain ⟨⟨a0, b0⟩, ⟨a1, b1⟩⟩ := hok
          generalize r.ds[j].p = z0 at *
          generalize r.ds[j].f = z1 at *
          have e0 := u64_wrap (x := z0) (by omega) (by omega)
          have P1 := fun W => Lib.hid (put_ref_w z0 4 4 rfl a0 (by omega) (by decide) (by decide) W)
          have P2 := fun W => Lib.hid (put_ref_w z1 8 8 rfl a1 (by omega) (by decide) (by decide) W)
          obtain ⟨yy, hyy⟩ : ∃ yy, yy = zz ++ [(LD : Int)] ++ dtsS (r.ds.take j) := ⟨_, rfl⟩
          rw [← hyy] at OW hzm
          have HYY := Lib.hid hyy
          have kc0 := ((NBR.out _ _ T0.out).2.cell (p := ⟨gg, off + j * 2, none⟩) hgg).trans c0w
          have C0 := Lib.hid c0w
          have C1 := Lib.hid c1w
          clear hyy hcell c0w c1w
          go_wp2_with fail
          clear kBX0 kc0
          (with_reducible refine ((P1 _).out).mono ?_)
          rintro e ys1 ⟨us1, rfl, ou, hb⟩
          have Ts1 := Lib.hid (T0.out.later hb)
          have Os1 := Lib.hid (own_below OW.out hb)
          have Is1 := Lib.hid (IR.of_own ou)
          clear ou
          have kRs1 := (NBR.out _ _ Ts1.out).1.cell
          have kcs1 := ((NBR.out _ _ Ts1.out).2.cell (p := ⟨gg, off + j * 2, none⟩) hgg).trans C0.out
          have kds1 := ((NBR.out _ _ Ts1.out).2.cell (p := ⟨gg, off + j * 2 + 1, none⟩) hgg).trans C1.out
          clear hb 
          go_wp2_with (first
            | (at_builtin; refine wpList_append_tx _ rfl _ _ _ _ rfl (w1.heap.size) 5 5 i0 .u8 1 Try.underlying25 Try.underlying25 hi0 hz0 hz1 hz2 u3 _ (yy) rfl Os1.out _ us1 ((putS z0 4)) rfl Is1.out (by simp only [maxLen, List.length_append, putS_len, List.length_cons, List.length_nil]; omega) (by simp only [List.length_append, putS_len, List.length_cons, List.length_nil]; omega) Ts1.out.fr.size ?_; intro vs2 ys2 hown hg ho
               have Ts2 := Lib.hid ((Ts1.out).trans (RowTo.app hg ho))
               have Os2 := Lib.hid (show ys2.ownsRow (w1.heap.size) 5 1 vs2 (yy ++ (putS z0 4)).length ((yy ++ (putS z0 4)).map (.int .u8)) by rw [List.length_append]; exact hown)
               have hb := hg
               clear hown hg ho
               have kRs2 := (NBR.out _ _ Ts2.out).1.cell
               have kcs2 := ((NBR.out _ _ Ts2.out).2.cell (p := ⟨gg, off + j * 2, none⟩) hgg).trans C0.out
               have kds2 := ((NBR.out _ _ Ts2.out).2.cell (p := ⟨gg, off + j * 2 + 1, none⟩) hgg).trans C1.out
               clear hb kRs1 kcs1 kds1)
            | (go_at_call 30; (with_reducible refine ((P2 _).out).mono ?_); rintro e ys3 ⟨us3, rfl, ou, hb⟩
               have Ts3 := Lib.hid (Ts2.out.later hb)
               have Os3 := Lib.hid (own_below Os2.out hb)
               have Is3 := Lib.hid (IR.of_own ou)
               clear ou
               have kRs3 := (NBR.out _ _ Ts3.out).1.cell
               have kcs3 := ((NBR.out _ _ Ts3.out).2.cell (p := ⟨gg, off + j * 2, none⟩) hgg).trans C0.out
               have kds3 := ((NBR.out _ _ Ts3.out).2.cell (p := ⟨gg, off + j * 2 + 1, none⟩) hgg).trans C1.out
               clear hb kRs2 kcs2 kds2)
            | (at_builtin; refine wpList_append_tx _ rfl _ _ _ _ rfl (w1.heap.size) 5 5 i0 .u8 1 Try.underlying25 Try.underlying25 hi0 hz0 hz1 hz2 vs2 _ ((yy ++ (putS z0 4))) rfl Os3.out _ us3 ((putS z1 8)) rfl Is3.out (by simp only [maxLen, List.length_append, putS_len, List.length_cons, List.length_nil]; omega) (by simp only [List.length_append, putS_len, List.length_cons, List.length_nil]; omega) Ts3.out.fr.size ?_; intro vs4 ys4 hown hg ho
               have Ts4 := Lib.hid ((Ts3.out).trans (RowTo.app hg ho))
               have Os4 := Lib.hid (show ys4.ownsRow (w1.heap.size) 5 1 vs4 ((yy ++ (putS z0 4)) ++ (putS z1 8)).length (((yy ++ (putS z0 4)) ++ (putS z1 8)).map (.int .u8)) by rw [List.length_append]; exact hown)
               have hb := hg
               clear hown hg ho
               have kRs4 := (NBR.out _ _ Ts4.out).1.cell
               have kcs4 := ((NBR.out _ _ Ts4.out).2.cell (p := ⟨gg, off + j * 2, none⟩) hgg).trans C0.out
               have kds4 := ((NBR.out _ _ Ts4.out).2.cell (p := ⟨gg, off + j * 2 + 1, none⟩) hgg).trans C1.out
               clear hb kRs3 kcs3 kds3))
          go_roundw
          case rel => exact ⟨j + 1, by go_num, by omega, Lib.hid (own_eq Os4.out (by rw [SN.out, HYY.out]; simp)), Ts4⟩
          case measure => simp [intOf]; omega
        · have hje : j = LD := by omega
          have o1 : wr.ownsRow w1.heap.size 5 1 u3 (tabS r.ts r.ds).length ((tabS r.ts r.ds).map (.int .u8)) := own_eq OW.out (by rw [← HS.out, HZZ.out, List.take_of_length_le (by have := HLD.out; omega)])
          have O9 := Lib.hid o1
          clear o1
          go_wp2
          go_ret
          exact ⟨_, rfl, own_lower O9.out (by have := HS1.out; omega), (NBR.out _ _ T0.out).2⟩
end Go.Proofs.Ytbbphfhkedldmaa.Rec
