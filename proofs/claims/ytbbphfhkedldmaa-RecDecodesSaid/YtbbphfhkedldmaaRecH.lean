import Derived.Test.YtbbphfhkedldmaaRecG
/- A writer's tables. -/
namespace Go.Proofs.Ytbbphfhkedldmaa.Rec
open Go.ChangeShapes Go.WideShapes Go.ChangeAt Go.RowKit Go.IntWalk Go.Proofs.NumMath Go.Proofs.Mem Go.Proofs.CrcMath NumBytes CrcA
set_option linter.unusedVariables false
set_option linter.unusedSimpArgs false
def acS (a : Ac) : List Int := putS a.t 4 ++ putS a.l 8 ++ putS a.u 8 ++ putS a.s 1
def dtS (a : Dt) : List Int := putS a.p 4 ++ putS a.f 8
def acsS (l : List Ac) : List Int := l.flatMap acS
def dtsS (l : List Dt) : List Int := l.flatMap dtS
theorem acs_len : ∀ l : List Ac, (acsS l).length = 21 * l.length
  | [] => rfl
  | a :: l => by have := acs_len l; simp only [acsS, List.flatMap_cons, List.length_append, List.length_cons] at this ⊢; rw [this]; simp [acS, putS_len]; omega
theorem dts_len : ∀ l : List Dt, (dtsS l).length = 12 * l.length
  | [] => rfl
  | a :: l => by have := dts_len l; simp only [dtsS, List.flatMap_cons, List.length_append, List.length_cons] at this ⊢; rw [this]; simp [dtS, putS_len]; omega
theorem acs_snoc (l : List Ac) (j : Nat) (h : j < l.length) : acsS (l.take (j + 1)) = acsS (l.take j) ++ putS l[j].t 4 ++ putS l[j].l 8 ++ putS l[j].u 8 ++ putS l[j].s 1 := by
  unfold acsS; rw [List.take_succ_eq_append_getElem h, List.flatMap_append]; simp [acS]
theorem dts_snoc (l : List Dt) (j : Nat) (h : j < l.length) : dtsS (l.take (j + 1)) = dtsS (l.take j) ++ putS l[j].p 4 ++ putS l[j].f 8 := by
  unfold dtsS; rw [List.take_succ_eq_append_getElem h, List.flatMap_append]; simp [dtS]
/-- lists as bytes -/
def tabS (ts : List Ac) (ds : List Dt) : List Int := putS ts.length 1 ++ acsS ts ++ putS ds.length 1 ++ dtsS ds
set_option maxRecDepth 100000 in
set_option maxHeartbeats 8000000 in
theorem tables_any (w : World) (g B : Nat) (v a b : Value) (xs : List Int) (ts : List Ac) (ds : List Dt) (ht : ∀ x ∈ ts, x.Ok) (hd : ∀ x ∈ ds, x.Ok) (h : Wr w g v xs) (hl : xs.length ≤ 50000) (ha : SS cAc 4 w B a ts) (hb : SS cDt 2 w B b ds) (hB : B ≤ g) (hx : ts.length ≤ 1000) (hy : ds.length ≤ 1000) :
    Calls Try.prog 25 #[.pointer (some ⟨g, 0, none⟩), a, b] w fun e w' => e = .returned (.tuple #[]) ∧ ∃ v', Wr w' g v' (xs ++ tabS ts ds) ∧ WrTo w w' g v v' := by
  obtain ⟨A1, c1, rfl, hl1, hm1⟩ := ha.form
  obtain ⟨A2, c2, rfl, hl2, hm2⟩ := hb.form
  obtain ⟨L1, hL1⟩ : ∃ n, n = ts.length := ⟨_, rfl⟩
  obtain ⟨L2, hL2⟩ : ∃ n, n = ds.length := ⟨_, rfl⟩
  unfold maxLen at hm1 hm2
  have w1_ := u64_wrap (x := (L1 : Int)) (by omega) (by omega)
  have w2_ := u64_wrap (x := (L2 : Int)) (by omega) (by omega)
  have N1 := Lib.hid (fun W v (h : Wr W g v xs) => number_w W g v xs h (by omega) L1 1 1 rfl (by omega) (by omega) (by decide) (by decide))
  have N2 := Lib.hid (fun W v zs (h : Wr W g v zs) (hz : zs.length ≤ 90000) => number_w W g v zs h (by omega) L2 1 1 rfl (by omega) (by omega) (by decide) (by decide))
  have hfin : xs ++ tabS ts ds = xs ++ putS L1 1 ++ acsS ts ++ putS L2 1 ++ dtsS ds := by rw [hL1, hL2]; simp [tabS]
  rw [hfin]
  have HA := Lib.hid ha
  have HB := Lib.hid hb
  have BG := Lib.hid hB
  have H0 := Lib.hid h
  have HL1 := Lib.hid hL1
  have HL2 := Lib.hid hL2
  have HT := Lib.hid ht
  have HD := Lib.hid hd
  rw [← hL1] at hl1 hx ⊢
  rw [← hL2] at hl2 hy ⊢
  clear ha hb hB h hL1 hL2 ht hd hfin
  go_enter Try.func25, Try.ntmps25
  go_wp2_with fail
  (with_reducible refine (N1.out _ _ H0.out).mono ?_)
  rintro e w1 ⟨rfl, v1, wr1, t1⟩
  have W1 := Lib.hid wr1
  have T1 := Lib.hid t1
  clear wr1 t1
  go_wp2_with fail
  go_loopw [17] (fun i wr => ∃ (j : Nat) (v' : Value), i = .int .i64 j ∧ j ≤ L1 ∧ Hid (Wr wr g v' (xs ++ putS L1 1 ++ acsS (ts.take j))) ∧ Hid (WrTo w wr g v v')) (fun i _ => L1 - (intOf i).toNat)
  case atStart => exact ⟨0, _, rfl, Nat.zero_le _, Lib.hid (by have := W1.out; simpa [acsS] using this), T1⟩
  case round =>
    obtain ⟨j, v', rfl, hj, HW, HTo⟩ := hrel
    by_cases hlt : j < L1
    · have hlt' : j < ts.length := by have := HL1.out; omega
      have hok := HT.out ts[j] (List.getElem_mem hlt')
      have hz : (xs ++ putS L1 1 ++ acsS (ts.take j)).length ≤ 90000 := by simp [putS_len, acs_len, dts_len, List.length_take]; have := HL1.out; have := HL2.out; omega
      obtain ⟨gg, off, rfl, hgg, hcell⟩ := (HA.out.below ((HTo.out.below H0.out).mono BG.out)).at_ (List.getElem?_eq_getElem hlt')
      have y0 : wr.cell? ⟨gg, off + j * 4, none⟩ = some (.int .u32 ts[j].t) := hcell 0 _ rfl
      have y1 : wr.cell? ⟨gg, off + j * 4 + 1, none⟩ = some (.int .u64 ts[j].l) := hcell 1 _ rfl
      have y2 : wr.cell? ⟨gg, off + j * 4 + 2, none⟩ = some (.int .u64 ts[j].u) := hcell 2 _ rfl
      have y3 : wr.cell? ⟨gg, off + j * 4 + 3, none⟩ = some (.int .u8 ts[j].s) := hcell 3 _ rfl
      have SN := Lib.hid (acs_snoc ts j hlt')
      obtain ⟨⟨o0, p0⟩, ⟨o1, p1⟩, ⟨o2, p2⟩, ⟨o3, p3⟩⟩ := hok
      generalize ts[j].t = z0 at *
      generalize ts[j].l = z1 at *
      generalize ts[j].u = z2 at *
      generalize ts[j].s = z3 at *
      have e0 := u64_wrap (x := z0) (by omega) (by omega)
      have e3 := u64_wrap (x := z3) (by omega) (by omega)
      have M0 := Lib.hid (fun W u (h : Wr W g u (xs ++ putS L1 1 ++ acsS (ts.take j))) => number_w W g u _ h (by simp only [List.length_append, putS_len] at hz ⊢; omega) z0 4 4 rfl o0 (by omega) (by decide) (by decide))
      have M1 := Lib.hid (fun W u (h : Wr W g u ((xs ++ putS L1 1 ++ acsS (ts.take j)) ++ putS z0 4)) => number_w W g u _ h (by simp only [List.length_append, putS_len] at hz ⊢; omega) z1 8 8 rfl o1 (by omega) (by decide) (by decide))
      have M2 := Lib.hid (fun W u (h : Wr W g u (((xs ++ putS L1 1 ++ acsS (ts.take j)) ++ putS z0 4) ++ putS z1 8)) => number_w W g u _ h (by simp only [List.length_append, putS_len] at hz ⊢; omega) z2 8 8 rfl o2 (by omega) (by decide) (by decide))
      have M3 := Lib.hid (fun W u (h : Wr W g u ((((xs ++ putS L1 1 ++ acsS (ts.take j)) ++ putS z0 4) ++ putS z1 8) ++ putS z2 8)) => number_w W g u _ h (by simp only [List.length_append, putS_len] at hz ⊢; omega) z3 1 1 rfl o3 (by omega) (by decide) (by decide))
      obtain ⟨w0, hw0⟩ : ∃ w0, wr.alloc (.cells #[.int .u32 z0, .int .u64 z1, .int .u64 z2, .int .u8 z3] 64) = w0 := ⟨_, rfl⟩
      have hb0 : Below wr.heap.size wr w0 := by rw [← hw0]; exact new_ (Below.refl _ _) _
      have bx0 : Box w0 wr.heap.size #[.int .u32 z0, .int .u64 z1, .int .u64 z2, .int .u8 z3] 64 := by rw [← hw0]; exact Box.new _ _ _
      have U0 := Lib.hid (HW.out.later hb0)
      have T0 := Lib.hid (show WrTo wr w0 g v' v' from ⟨Fr.of_below hb0, .inl rfl⟩)
      have NB : Hid (∀ (u : Value) W, WrTo w0 W g v' u → Box W wr.heap.size #[.int .u32 z0, .int .u64 z1, .int .u64 z2, .int .u8 z3] 64) := Lib.hid (fun u W ht => ht.box bx0 (by have := HW.out.lt; omega) (fun e => by have := (HW.out.own.lt _ e).2; omega))
      have k0 := bx0.cell
      have HW0 := Lib.hid hw0
      clear hcell bx0 hb0 hw0 hz
      go_wp2_with fail
      rw [HW0.out]
      (with_reducible refine (M0.out _ _ U0.out).mono ?_)
      rintro e x1 ⟨rfl, u1_, wr1, t1⟩
      have S1 := Lib.hid (t1)
      have U1 := Lib.hid wr1
      have kk1 := (NB.out _ _ S1.out).cell
      clear wr1 t1 k0
      go_wp2_with fail
      (with_reducible refine (M1.out _ _ U1.out).mono ?_)
      rintro e x2 ⟨rfl, u2_, wr2, t2⟩
      have S2 := Lib.hid (S1.out.trans t2)
      have U2 := Lib.hid wr2
      have kk2 := (NB.out _ _ S2.out).cell
      clear wr2 t2 kk1
      go_wp2_with fail
      (with_reducible refine (M2.out _ _ U2.out).mono ?_)
      rintro e x3 ⟨rfl, u3_, wr3, t3⟩
      have S3 := Lib.hid (S2.out.trans t3)
      have U3 := Lib.hid wr3
      have kk3 := (NB.out _ _ S3.out).cell
      clear wr3 t3 kk2
      go_wp2_with fail
      (with_reducible refine (M3.out _ _ U3.out).mono ?_)
      rintro e x4 ⟨rfl, u4_, wr4, t4⟩
      have S4 := Lib.hid (S3.out.trans t4)
      have U4 := Lib.hid wr4
      have kk4 := (NB.out _ _ S4.out).cell
      clear wr4 t4 kk3
      go_wp2
      go_roundw
      case rel => exact ⟨j + 1, _, by go_num, by omega, Lib.hid (by have := U4.out; rw [SN.out]; simpa [List.append_assoc] using this), Lib.hid (HTo.out.trans (T0.out.trans S4.out))⟩
      case measure => simp [intOf]; omega
    · have hje : j = L1 := by omega
      have hw2 := HW.out
      rw [List.take_of_length_le (by have := HL1.out; omega)] at hw2
      have W2 := Lib.hid hw2
      have hz2 : (xs ++ putS L1 1 ++ acsS ts).length ≤ 90000 := by simp [putS_len, acs_len]; have := HL1.out; omega
      have HZ2 := Lib.hid hz2
      clear hw2 hz2
      go_wp2_with fail
      (with_reducible refine (N2.out _ _ _ W2.out HZ2.out).mono ?_)
      rintro e w3 ⟨rfl, v3, wr3, t3⟩
      have W3 := Lib.hid wr3
      have T3 := Lib.hid (HTo.out.trans t3)
      clear wr3 t3 HW HTo hlt hj hje
      go_wp2_with fail
      go_loopw [47] (fun i wr => ∃ (j : Nat) (v' : Value), i = .int .i64 j ∧ j ≤ L2 ∧ Hid (Wr wr g v' (xs ++ putS L1 1 ++ acsS ts ++ putS L2 1 ++ dtsS (ds.take j))) ∧ Hid (WrTo w wr g v v')) (fun i _ => L2 - (intOf i).toNat)
      case atStart => exact ⟨0, _, rfl, Nat.zero_le _, Lib.hid (by have := W3.out; simpa [dtsS] using this), T3⟩
      case round =>
        obtain ⟨j, v', rfl, hj, HW, HTo⟩ := hrel
        by_cases hlt : j < L2
        · have hlt' : j < ds.length := by have := HL2.out; omega
          have hok := HD.out ds[j] (List.getElem_mem hlt')
          have hz : (xs ++ putS L1 1 ++ acsS ts ++ putS L2 1 ++ dtsS (ds.take j)).length ≤ 90000 := by simp [putS_len, acs_len, dts_len, List.length_take]; have := HL1.out; have := HL2.out; omega
          obtain ⟨gg, off, rfl, hgg, hcell⟩ := (HB.out.below ((HTo.out.below H0.out).mono BG.out)).at_ (List.getElem?_eq_getElem hlt')
          have y0 : wr.cell? ⟨gg, off + j * 2, none⟩ = some (.int .u32 ds[j].p) := hcell 0 _ rfl
          have y1 : wr.cell? ⟨gg, off + j * 2 + 1, none⟩ = some (.int .u64 ds[j].f) := hcell 1 _ rfl
          have SN := Lib.hid (dts_snoc ds j hlt')
          obtain ⟨⟨o0, p0⟩, ⟨o1, p1⟩⟩ := hok
          generalize ds[j].p = z0 at *
          generalize ds[j].f = z1 at *
          have e0 := u64_wrap (x := z0) (by omega) (by omega)
          have M0 := Lib.hid (fun W u (h : Wr W g u (xs ++ putS L1 1 ++ acsS ts ++ putS L2 1 ++ dtsS (ds.take j))) => number_w W g u _ h (by simp only [List.length_append, putS_len] at hz ⊢; omega) z0 4 4 rfl o0 (by omega) (by decide) (by decide))
          have M1 := Lib.hid (fun W u (h : Wr W g u ((xs ++ putS L1 1 ++ acsS ts ++ putS L2 1 ++ dtsS (ds.take j)) ++ putS z0 4)) => number_w W g u _ h (by simp only [List.length_append, putS_len] at hz ⊢; omega) z1 8 8 rfl o1 (by omega) (by decide) (by decide))
          obtain ⟨w0, hw0⟩ : ∃ w0, wr.alloc (.cells #[.int .u32 z0, .int .u64 z1] 66) = w0 := ⟨_, rfl⟩
          have hb0 : Below wr.heap.size wr w0 := by rw [← hw0]; exact new_ (Below.refl _ _) _
          have bx0 : Box w0 wr.heap.size #[.int .u32 z0, .int .u64 z1] 66 := by rw [← hw0]; exact Box.new _ _ _
          have U0 := Lib.hid (HW.out.later hb0)
          have T0 := Lib.hid (show WrTo wr w0 g v' v' from ⟨Fr.of_below hb0, .inl rfl⟩)
          have NB : Hid (∀ (u : Value) W, WrTo w0 W g v' u → Box W wr.heap.size #[.int .u32 z0, .int .u64 z1] 66) := Lib.hid (fun u W ht => ht.box bx0 (by have := HW.out.lt; omega) (fun e => by have := (HW.out.own.lt _ e).2; omega))
          have k0 := bx0.cell
          have HW0 := Lib.hid hw0
          clear hcell bx0 hb0 hw0 hz
          go_wp2_with fail
          rw [HW0.out]
          (with_reducible refine (M0.out _ _ U0.out).mono ?_)
          rintro e x1 ⟨rfl, u1_, wr1, t1⟩
          have S1 := Lib.hid (t1)
          have U1 := Lib.hid wr1
          have kk1 := (NB.out _ _ S1.out).cell
          clear wr1 t1 k0
          go_wp2_with fail
          (with_reducible refine (M1.out _ _ U1.out).mono ?_)
          rintro e x2 ⟨rfl, u2_, wr2, t2⟩
          have S2 := Lib.hid (S1.out.trans t2)
          have U2 := Lib.hid wr2
          have kk2 := (NB.out _ _ S2.out).cell
          clear wr2 t2 kk1
          go_wp2
          go_roundw
          case rel => exact ⟨j + 1, _, by go_num, by omega, Lib.hid (by have := U2.out; rw [SN.out]; simpa [List.append_assoc] using this), Lib.hid (HTo.out.trans (T0.out.trans S2.out))⟩
          case measure => simp [intOf]; omega
        · have hje : j = L2 := by omega
          have hw2 := HW.out
          rw [List.take_of_length_le (by have := HL2.out; omega)] at hw2
          have W9 := Lib.hid hw2
          clear hw2
          go_wp2
          go_end0
          exact ⟨rfl, _, W9.out, HTo.out⟩
end Go.Proofs.Ytbbphfhkedldmaa.Rec
