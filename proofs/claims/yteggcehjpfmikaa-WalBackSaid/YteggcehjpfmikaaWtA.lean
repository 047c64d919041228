import Derived.Test.YteggcehjpfmikaaWt8
import Derived.Test.YteggcehjpfmikaaWt9
namespace Go.Proofs.Yteggcehjpfmikaa.Rec
open Go.ChangeShapes Go.WideShapes Go.ChangeAt Go.RowKit Go.IntWalk Go.Proofs.NumMath Go.Proofs.Mem Go.Proofs.CrcMath NumBytes CrcA
set_option linter.unusedVariables false
set_option linter.unusedSimpArgs false
def bodyS (r : Rc) : List Int := putS r.k 1 ++ putS r.t 4 ++ putS r.p 8 ++ putS r.n 8 ++ (if r.k = 2 ∨ r.k = 3 then chgS r.c else []) ++ (if r.k = 8 then tabS r.ts r.ds else [])
def encS (r : Rc) : List Int := putS (6 + (bodyS r).length) 2 ++ putS (tn (sumF 0#32 (bodyS r))) 4 ++ bodyS r
theorem enc_len (r : Rc) : (encS r).length = 6 + (bodyS r).length := by simp [encS, putS_len]; omega
theorem chg_len (c : Cg) : (chgS c).length = 9 + c.xs.length + c.ys.length := by simp [chgS, putS_len]; omega
theorem tab_len (ts : List Ac) (ds : List Dt) : (tabS ts ds).length = 2 + 21 * ts.length + 12 * ds.length := by simp [tabS, putS_len, acs_len, dts_len]; omega
theorem acs_bytes (l : List Ac) : Bytes (acsS l) := fun x hx => by
  obtain ⟨a, _, h⟩ := List.mem_flatMap.1 hx
  exact ((((putS_bytes _ _).app (putS_bytes _ _)).app (putS_bytes _ _)).app (putS_bytes _ _)) x h
theorem dts_bytes (l : List Dt) : Bytes (dtsS l) := fun x hx => by
  obtain ⟨a, _, h⟩ := List.mem_flatMap.1 hx
  exact ((putS_bytes _ _).app (putS_bytes _ _)) x h
theorem body_bytes (r : Rc) (hr : r.Ok) : Bytes (bodyS r) := by
  have hx := hr.2.2.2.2.1.2.2
  unfold bodyS
  refine ((((putS_bytes _ _).app (putS_bytes _ _)).app (putS_bytes _ _)).app (putS_bytes _ _)).app ?_ |>.app ?_
  · split
    · exact ((((((putS_bytes _ _).app (putS_bytes _ _)).app (putS_bytes _ _)).app (putS_bytes _ _)).app hx.1).app (putS_bytes _ _)).app hx.2
    · exact Bytes.nil
  · split
    · exact (((putS_bytes _ _).app (acs_bytes _)).app (putS_bytes _ _)).app (dts_bytes _)
    · exact Bytes.nil
theorem enc_bytes (r : Rc) (hr : r.Ok) : Bytes (encS r) := ((putS_bytes _ _).app (putS_bytes _ _)).app (body_bytes r hr)
structure MayL (r : Rc) : Prop where
  k : 1 ≤ r.k ∧ r.k ≤ 8
  ts : r.ts.length ≤ 64
  ds : r.ds.length ≤ 64
  xs : r.c.xs.length ≤ 64
  ys : r.c.ys.length ≤ 64
theorem may_lens (r : Rc) (h : mayS r = true) : MayL r := by
  simp only [mayS, mayF, sideB, Bool.and_eq_true, Bool.not_eq_true', decide_eq_false_iff_not, decide_eq_true_eq] at h
  exact ⟨by omega, by omega, by omega, by omega, by omega⟩
theorem body_len (r : Rc) (h : MayL r) : 21 ≤ (bodyS r).length ∧ (bodyS r).length ≤ 21 + 9 + 128 + 2 + 33 * 64 := by
  obtain ⟨_, h1, h2, h3, h4⟩ := h
  unfold bodyS
  simp only [List.length_append, putS_len]
  split <;> split <;> simp only [chg_len, tab_len, List.length_nil] <;> omega
set_option maxRecDepth 100000 in
set_option maxHeartbeats 4000000 in
theorem encode_no (r : Rc) (hm : mayS r = false) (a b ta da : Value) (w : World) (B : Nat) (hB : B ≤ w.heap.size) (h : RcIn w B r a b ta da) :
    Calls Try.prog 46 #[.agg (rcV r a b ta da)] w fun e w' => e = .returned (.tuple #[.slice none 0 0, .int .u16 61]) ∧ Below w.heap.size w w' := by
  have MB := fun W (h : RcIn W B r a b ta da) (hW : B ≤ W.heap.size) => Lib.hid (may_any r a b ta da W B hW h)
  rw [hm] at MB
  have R := Lib.hid (h.alloc hB (.cells (rcV r a b ta da) 54))
  obtain ⟨A1, c1, rfl, _, _⟩ := h.a.form
  obtain ⟨A2, c2, rfl, _, _⟩ := h.b.form
  obtain ⟨A3, c3, rfl, _, _⟩ := h.t.form
  obtain ⟨A4, c4, rfl, _, _⟩ := h.d.form
  clear h hm
  go_enter Try.func46, Try.ntmps46
  go_wp2_with fail
  (with_reducible refine (MB _ R.out (by simp; omega)).out.mono ?_)
  rintro e w1 ⟨rfl, hb1⟩
  have HB1 := Lib.hid hb1
  clear hb1
  go_wp2
  go_ret2
  exact ⟨rfl, step_ (new_ (Below.refl _ _) _) HB1.out⟩
set_option maxRecDepth 100000 in
set_option maxHeartbeats 16000000 in
theorem encode_yes (r : Rc) (hr : r.Ok) (hm : mayS r = true) (a b ta da : Value) (w : World) (B : Nat) (hB : B ≤ w.heap.size) (h : RcIn w B r a b ta da) :
    Calls Try.prog 46 #[.agg (rcV r a b ta da)] w fun e w' => ∃ u, e = .returned (.tuple #[u, .int .u16 0]) ∧ w'.ownsRow w.heap.size 5 1 u (encS r).length ((encS r).map (.int .u8)) ∧ Below w.heap.size w w' := by
  have ML := may_lens r hm
  obtain ⟨⟨k0, k1⟩, ⟨t0, t1⟩, ⟨p0, p1⟩, ⟨n0, n1⟩, hc, hts, hds⟩ := id hr
  have MB := fun W (h : RcIn W B r a b ta da) (hW : B ≤ W.heap.size) => Lib.hid (may_any r a b ta da W B hW h)
  rw [hm] at MB
  have wk := u64_wrap (x := r.k) (by omega) (by omega)
  have wt := u64_wrap (x := r.t) (by omega) (by omega)
  obtain ⟨zs, hzs⟩ : ∃ zs, zs = bodyS r := ⟨_, rfl⟩
  have hzb := body_bytes r hr
  have hzl := body_len r ML
  rw [← hzs] at hzb hzl
  obtain ⟨Z, hZ⟩ : ∃ Z, Z = zs.length := ⟨_, rfl⟩
  rw [← hZ] at hzl
  have wZ := u64_wrap (x := 6 + (Z : Int)) (by omega) (by omega)
  obtain ⟨C, hC⟩ : ∃ C, C = tn (sumF 0#32 zs) := ⟨_, rfl⟩
  have hCb := tn_bd (sumF 0#32 zs)
  rw [← hC] at hCb
  have wC := u64_wrap (x := C) (by omega) (by omega)
  have henc : encS r = putS (6 + Z) 2 ++ putS C 4 ++ zs := by rw [hC, hZ, hzs]; rfl
  have CH := fun W => Lib.hid (changes_any r.k W)
  obtain ⟨qc, hqc⟩ : ∃ q, q = (decide (r.k = 2) || decide (r.k = 3)) := ⟨_, rfl⟩
  obtain ⟨q8, hq8⟩ : ∃ q, q = decide (r.k = 8) := ⟨_, rfl⟩
  have d8 : (r.k == 8) = q8 := by rw [hq8, beq_dec]
  have hbody : zs = putS r.k 1 ++ putS r.t 4 ++ putS r.p 8 ++ putS r.n 8 ++ (if qc = true then chgS r.c else []) ++ (if q8 = true then tabS r.ts r.ds else []) := by rw [hzs, bodyS, hqc, hq8]; simp
  have hnot : ¬ (qc = true ∧ q8 = true) := by rw [hqc, hq8]; simp; omega
  rw [← hqc] at CH
  have N1 := Lib.hid (fun W g v (h : Wr W g v []) => number_w W g v [] h (by simp) r.k 1 1 rfl k0 (by omega) (by decide) (by decide))
  have N2 := Lib.hid (fun W g v (h : Wr W g v (putS r.k 1)) => number_w W g v _ h (by simp [putS_len]) r.t 4 4 rfl t0 (by omega) (by decide) (by decide))
  have N3 := Lib.hid (fun W g v (h : Wr W g v (putS r.k 1 ++ putS r.t 4)) => number_w W g v _ h (by simp [putS_len]) r.p 8 8 rfl p0 (by omega) (by decide) (by decide))
  have N4 := Lib.hid (fun W g v (h : Wr W g v (putS r.k 1 ++ putS r.t 4 ++ putS r.p 8)) => number_w W g v _ h (by simp [putS_len]) r.n 8 8 rfl n0 (by omega) (by decide) (by decide))
  have CG := Lib.hid (fun W g v (h : Wr W g v (putS r.k 1 ++ putS r.t 4 ++ putS r.p 8 ++ putS r.n 8)) (hi : RcIn W B r a b ta da) (hg : B ≤ g) => wchange_any W g B v a b _ r.c hc h (by simp [putS_len]) hi.a hi.b hg (by have := ML.xs; omega) (by have := ML.ys; omega))
  have TB := Lib.hid (fun W g v (h : Wr W g v (putS r.k 1 ++ putS r.t 4 ++ putS r.p 8 ++ putS r.n 8)) (hi : RcIn W B r a b ta da) (hg : B ≤ g) => tables_any W g B v ta da _ r.ts r.ds hts hds h (by simp [putS_len]) hi.t hi.d hg (by have := ML.ts; omega) (by have := ML.ds; omega))
  have PA := fun W => Lib.hid (by have h := put_any (6 + (Z : Int)) 2 (by omega) (by omega) (by decide) (by decide) W; rw [show (2 : Int).toNat = 2 from rfl] at h; exact h)
  have PB := fun W => Lib.hid (by have h := put_any C 4 (by omega) (by omega) (by decide) (by decide) W; rw [show (4 : Int).toNat = 4 from rfl] at h; exact h)
  have SU : ∀ (W : World) v (h : IR W W.heap.size .u8 v zs), Calls Try.prog 71 #[.slice (some ⟨W.heap.size, 0, none⟩) 1 1] (W.alloc (.cells #[v] 48)) fun e w' => e = .returned (.int .u32 C) ∧ W.alloc (.cells #[v] 48) = w' := fun W v h => by rw [hC]; exact sum_one v _ W h hzb
  have CO : ∀ (W : World) a b c (ha : IR W W.heap.size .u8 a (putS (6 + Z) 2)) (hb : IR W W.heap.size .u8 b (putS C 4)) (hc : IR W W.heap.size .u8 c zs),
      Calls Try.prog 72 #[.slice (some ⟨W.heap.size, 0, none⟩) 3 3] (W.alloc (.cells #[a, b, c] 129)) fun e w' => ∃ u, e = .returned u ∧ w'.ownsRow (W.heap.size + 1) 5 1 u (encS r).length ((encS r).map (.int .u8)) ∧ Below W.heap.size W w' := fun W a b c ha hb hc => by
    have hf : flat [(a, putS (6 + Z) 2), (b, putS C 4), (c, zs)] = encS r := by rw [henc]; simp [flat]
    have hl : (encS r).length = 6 + Z := by rw [henc, hZ]; simp [putS_len]; omega
    have h := concat_any _ _ _ _ (SR.lit W [(a, putS (6 + Z) 2), (b, putS C 4), (c, zs)] 129 W.heap.size W.heap.size rfl (Nat.le_refl _) (by simp) (by
      intro q hq
      simp only [List.mem_cons, List.not_mem_nil, or_false] at hq
      rcases hq with rfl | rfl | rfl
      · exact ⟨ha, putS_bytes _ _⟩
      · exact ⟨hb, putS_bytes _ _⟩
      · exact ⟨hc, hzb⟩)) (by simp) (by rw [hf, hl]; omega) (by rw [hf, hl]; omega)
    rw [hf] at h
    refine h.mono ?_
    rintro e w' ⟨u, rfl, h1, h2⟩
    refine ⟨u, rfl, by simpa using h1, (new_ (Below.refl W.heap.size W) _).trans (h2.mono (by simp))⟩
  have CO := Lib.hid CO
  have SU := Lib.hid SU
  have HBD := Lib.hid hbody
  have HNO := Lib.hid hnot
  have HZ := Lib.hid hZ
  have HB := Lib.hid hB
  have R := Lib.hid (h.alloc hB (.cells (rcV r a b ta da) 54))
  obtain ⟨A1, c1, rfl, _, _⟩ := h.a.form
  obtain ⟨A2, c2, rfl, _, _⟩ := h.b.form
  obtain ⟨A3, c3, rfl, _, _⟩ := h.t.form
  obtain ⟨A4, c4, rfl, _, _⟩ := h.d.form
  have BX := Lib.hid (Box.new w (rcV r (.slice A1 r.c.xs.length c1) (.slice A2 r.c.ys.length c2) (.slice A3 r.ts.length c3) (.slice A4 r.ds.length c4)) 54)
  have HW0 := Lib.hid (new_ (Below.refl w.heap.size w) (.cells (rcV r (.slice A1 r.c.xs.length c1) (.slice A2 r.c.ys.length c2) (.slice A3 r.ts.length c3) (.slice A4 r.ds.length c4)) 54))
  clear hC hZ hzs hzb hCb hqc hq8 hbody hnot henc hm ML hr hc hts hds h k0 k1 t0 t1 p0 p1 n0 n1
  go_enter Try.func46, Try.ntmps46
  go_wp2_with fail
  (with_reducible refine (MB _ R.out (by have := HB.out; simp; omega)).out.mono ?_)
  rintro e w1 ⟨rfl, hb1⟩
  have B1 := Lib.hid ((BX.out.later hb1).alloc (.cells #[.slice none 0 0] 129))
  have HB1 := Lib.hid (new_ (step_ HW0.out hb1) (.cells #[.slice none 0 0] 129))
  have L1 : Hid (w.heap.size < w1.heap.size) := Lib.hid (BX.out.later hb1).lt
  have R1 := Lib.hid ((R.out.below (hb1.mono (by have := HB.out; simp; omega))).alloc (by have := HB.out; have := L1.out; omega) (.cells #[.slice none 0 0] 129))
  have U0 : Hid (Wr (w1.alloc (.cells #[.slice none 0 0] 129)) w1.heap.size (.slice none 0 0) []) := Lib.hid ⟨Box.new _ _ _, World.ownsRow_nil _ _ _ _, by simp⟩
  have kkA := B1.out.cell
  obtain ⟨g, hg⟩ : ∃ g, g = w1.heap.size := ⟨_, rfl⟩
  obtain ⟨wa, hwa⟩ : ∃ wa, w1.alloc (.cells #[.slice none 0 0] 129) = wa := ⟨_, rfl⟩
  rw [hwa] at B1 HB1 R1 U0
  rw [← hg] at L1 U0
  have GG := Lib.hid (show B ≤ g by have := HB.out; have := L1.out; omega)
  have HWA := Lib.hid hwa
  have HG := Lib.hid hg
  have kk0 := B1.out.cell
  have NB : Hid (∀ (v : Value) W, WrTo wa W g (.slice none 0 0) v → Below g wa W) := Lib.hid (fun v W ht => ht.below U0.out)
  clear hb1 hwa hg
  go_wp2_with fail
  rw [HWA.out, ← HG.out]
  clear kkA
  (with_reducible refine (N1.out _ _ _ U0.out).mono ?_)
  rintro e x1 ⟨rfl, u1_, wr_, t_⟩
  have T1 := Lib.hid (t_)
  have U1 := Lib.hid wr_
  have kk1 := (B1.out.below (NB.out _ _ T1.out) L1.out).cell
  clear wr_ t_ kk0
  rw [List.nil_append] at U1
  go_wp2_with fail
  (with_reducible refine (N2.out _ _ _ U1.out).mono ?_)
  rintro e x2 ⟨rfl, u2_, wr_, t_⟩
  have T2 := Lib.hid (T1.out.trans t_)
  have U2 := Lib.hid wr_
  have kk2 := (B1.out.below (NB.out _ _ T2.out) L1.out).cell
  clear wr_ t_ kk1
  go_wp2_with fail
  (with_reducible refine (N3.out _ _ _ U2.out).mono ?_)
  rintro e x3 ⟨rfl, u3_, wr_, t_⟩
  have T3 := Lib.hid (T2.out.trans t_)
  have U3 := Lib.hid wr_
  have kk3 := (B1.out.below (NB.out _ _ T3.out) L1.out).cell
  clear wr_ t_ kk2
  go_wp2_with fail
  (with_reducible refine (N4.out _ _ _ U3.out).mono ?_)
  rintro e x4 ⟨rfl, u4_, wr_, t_⟩
  have T4 := Lib.hid (T3.out.trans t_)
  have U4 := Lib.hid wr_
  have kk4 := (B1.out.below (NB.out _ _ T4.out) L1.out).cell
  clear wr_ t_ kk3
  go_wp2_with fail
  (with_reducible refine (CH _).out.mono ?_)
  rintro e x5 ⟨rfl, rfl⟩
  have R4 := Lib.hid (R1.out.below ((NB.out _ _ T4.out).mono GG.out))
  cases qc
  · cases q8
    · have UF := Lib.hid (show Wr x4 g u4_ zs by have := U4.out; rw [HBD.out]; simpa using this)
      have HXN := Lib.hid (HB1.out.trans ((NB.out _ _ T4.out).mono (Nat.le_of_lt L1.out)))
      obtain ⟨A9, c9, e9, hl9, hm9⟩ := UF.out.ir.form
      rw [← HZ.out] at e9 hl9
      subst e9
      unfold maxLen at hm9
      have kk9 := UF.out.box.cell
      go_wp2_with fail
      (with_reducible refine (PA _).out.mono ?_)
      rintro e y7 ⟨v7, rfl, hp7, hb7⟩
      obtain ⟨A7, c7, rfl, hl7, hm7⟩ := (IR.of_own hp7).form
      rw [putS_len] at hl7
      rw [putS_len]
      have O7 := Lib.hid hp7
      have W7 := Lib.hid (UF.out.later hb7)
      have HB7 := Lib.hid hb7
      have kk10 := W7.out.box.cell
      have S7 := Lib.hid (SU.out y7 _ W7.out.ir)
      clear hp7 hb7 kk9 kk4
      go_wp2_with fail
      (with_reducible refine S7.out.mono ?_)
      rintro e y8 ⟨rfl, rfl⟩
      go_wp2_with fail
      (with_reducible refine (PB _).out.mono ?_)
      rintro e y9 ⟨v9, rfl, hp9, hb9⟩
      obtain ⟨A10, c10, rfl, hl10, hm10⟩ := (IR.of_own hp9).form
      rw [putS_len] at hl10
      rw [putS_len]
      have hb9' : Below y7.heap.size y7 y9 := (new_ (Below.refl y7.heap.size y7) (.cells #[.slice A9 Z c9] 48)).trans (hb9.mono (by simp))
      have W9 := Lib.hid (W7.out.later hb9')
      have O9 := Lib.hid (own_below O7.out hb9')
      have HB9 := Lib.hid (step_ (step_ HXN.out HB7.out) hb9')
      have kk11 := W9.out.box.cell
      have CC := Lib.hid (CO.out y9 _ _ _ (IR.of_own O9.out) (IR.of_own hp9) W9.out.ir)
      rw [putS_len, putS_len] at CC
      clear hp9 hb9 hb9' kk10
      go_wp2_with fail
      (with_reducible refine CC.out.mono ?_)
      rintro e y10 ⟨u, rfl, hu, hb10⟩
      have HU := Lib.hid hu
      have HB10 := Lib.hid hb10
      clear hu hb10
      go_wp2
      go_ret2
      exact ⟨_, rfl, own_lower HU.out (Nat.le_succ_of_le HB9.out.size), step_ HB9.out HB10.out⟩
    · go_wp2_with fail
      (with_reducible refine (TB.out _ _ _ U4.out R4.out GG.out).mono ?_)
      rintro e x6 ⟨rfl, u6_, wr_, t_⟩
      have T6 := Lib.hid (T4.out.trans t_)
      have U6 := Lib.hid wr_
      have kk6 := (B1.out.below (NB.out _ _ T6.out) L1.out).cell
      clear wr_ t_ kk4
      have UF := Lib.hid (show Wr x6 g u6_ zs by have := U6.out; rw [HBD.out]; simpa using this)
      have HXN := Lib.hid (HB1.out.trans ((NB.out _ _ T6.out).mono (Nat.le_of_lt L1.out)))
      obtain ⟨A9, c9, e9, hl9, hm9⟩ := UF.out.ir.form
      rw [← HZ.out] at e9 hl9
      subst e9
      unfold maxLen at hm9
      have kk9 := UF.out.box.cell
      go_wp2_with fail
      (with_reducible refine (PA _).out.mono ?_)
      rintro e y7 ⟨v7, rfl, hp7, hb7⟩
      obtain ⟨A7, c7, rfl, hl7, hm7⟩ := (IR.of_own hp7).form
      rw [putS_len] at hl7
      rw [putS_len]
      have O7 := Lib.hid hp7
      have W7 := Lib.hid (UF.out.later hb7)
      have HB7 := Lib.hid hb7
      have kk10 := W7.out.box.cell
      have S7 := Lib.hid (SU.out y7 _ W7.out.ir)
      clear hp7 hb7 kk9 kk6
      go_wp2_with fail
      (with_reducible refine S7.out.mono ?_)
      rintro e y8 ⟨rfl, rfl⟩
      go_wp2_with fail
      (with_reducible refine (PB _).out.mono ?_)
      rintro e y9 ⟨v9, rfl, hp9, hb9⟩
      obtain ⟨A10, c10, rfl, hl10, hm10⟩ := (IR.of_own hp9).form
      rw [putS_len] at hl10
      rw [putS_len]
      have hb9' : Below y7.heap.size y7 y9 := (new_ (Below.refl y7.heap.size y7) (.cells #[.slice A9 Z c9] 48)).trans (hb9.mono (by simp))
      have W9 := Lib.hid (W7.out.later hb9')
      have O9 := Lib.hid (own_below O7.out hb9')
      have HB9 := Lib.hid (step_ (step_ HXN.out HB7.out) hb9')
      have kk11 := W9.out.box.cell
      have CC := Lib.hid (CO.out y9 _ _ _ (IR.of_own O9.out) (IR.of_own hp9) W9.out.ir)
      rw [putS_len, putS_len] at CC
      clear hp9 hb9 hb9' kk10
      go_wp2_with fail
      (with_reducible refine CC.out.mono ?_)
      rintro e y10 ⟨u, rfl, hu, hb10⟩
      have HU := Lib.hid hu
      have HB10 := Lib.hid hb10
      clear hu hb10
      go_wp2
      go_ret2
      exact ⟨_, rfl, own_lower HU.out (Nat.le_succ_of_le HB9.out.size), step_ HB9.out HB10.out⟩
  · have hq0 : q8 = false := by have := HNO.out; simpa using this
    subst hq0
    go_wp2_with fail
    (with_reducible refine (CG.out _ _ _ U4.out R4.out GG.out).mono ?_)
    rintro e x6 ⟨rfl, u6_, wr_, t_⟩
    have T6 := Lib.hid (T4.out.trans t_)
    have U6 := Lib.hid wr_
    have kk6 := (B1.out.below (NB.out _ _ T6.out) L1.out).cell
    clear wr_ t_ kk4
    have UF := Lib.hid (show Wr x6 g u6_ zs by have := U6.out; rw [HBD.out]; simpa using this)
    have HXN := Lib.hid (HB1.out.trans ((NB.out _ _ T6.out).mono (Nat.le_of_lt L1.out)))
    obtain ⟨A9, c9, e9, hl9, hm9⟩ := UF.out.ir.form
    rw [← HZ.out] at e9 hl9
    subst e9
    unfold maxLen at hm9
    have kk9 := UF.out.box.cell
    go_wp2_with fail
    (with_reducible refine (PA _).out.mono ?_)
    rintro e y7 ⟨v7, rfl, hp7, hb7⟩
    obtain ⟨A7, c7, rfl, hl7, hm7⟩ := (IR.of_own hp7).form
    rw [putS_len] at hl7
    rw [putS_len]
    have O7 := Lib.hid hp7
    have W7 := Lib.hid (UF.out.later hb7)
    have HB7 := Lib.hid hb7
    have kk10 := W7.out.box.cell
    have S7 := Lib.hid (SU.out y7 _ W7.out.ir)
    clear hp7 hb7 kk9 kk6
    go_wp2_with fail
    (with_reducible refine S7.out.mono ?_)
    rintro e y8 ⟨rfl, rfl⟩
    go_wp2_with fail
    (with_reducible refine (PB _).out.mono ?_)
    rintro e y9 ⟨v9, rfl, hp9, hb9⟩
    obtain ⟨A10, c10, rfl, hl10, hm10⟩ := (IR.of_own hp9).form
    rw [putS_len] at hl10
    rw [putS_len]
    have hb9' : Below y7.heap.size y7 y9 := (new_ (Below.refl y7.heap.size y7) (.cells #[.slice A9 Z c9] 48)).trans (hb9.mono (by simp))
    have W9 := Lib.hid (W7.out.later hb9')
    have O9 := Lib.hid (own_below O7.out hb9')
    have HB9 := Lib.hid (step_ (step_ HXN.out HB7.out) hb9')
    have kk11 := W9.out.box.cell
    have CC := Lib.hid (CO.out y9 _ _ _ (IR.of_own O9.out) (IR.of_own hp9) W9.out.ir)
    rw [putS_len, putS_len] at CC
    clear hp9 hb9 hb9' kk10
    go_wp2_with fail
    (with_reducible refine CC.out.mono ?_)
    rintro e y10 ⟨u, rfl, hu, hb10⟩
    have HU := Lib.hid hu
    have HB10 := Lib.hid hb10
    clear hu hb10
    go_wp2
    go_ret2
    exact ⟨_, rfl, own_lower HU.out (Nat.le_succ_of_le HB9.out.size), step_ HB9.out HB10.out⟩
end Go.Proofs.Yteggcehjpfmikaa.Rec
namespace Go.Proofs.Yteggcehjpfmikaa.Wal
open Go.ChangeShapes Go.WideShapes Go.ChangeAt Go.RowKit Go.IntWalk Go.Proofs.Mem Go.Proofs.Each Law Go.Proofs.Yteggcehjpfmikaa.Disk Rec
set_option linter.unusedVariables false
set_option linter.unusedSimpArgs false
section
variable {w : World} {S : Nat → Prop} {g t : Nat} {fv : Nat → Value} {D : Dv} {H : Hh} {se : Int} {la : Nat} {A At : Option Addr} {n c nt ct : Nat} {r : Rc} {a b ta da : Value}
set_option maxRecDepth 100000 in
set_option maxHeartbeats 4000000 in
theorem append_bad (r : Rc) (hm : mayS r = false) (a b ta da : Value) (hi : RcIn w w.heap.size r a b ta da) (t : Nat) (spare : Int) :
    Calls Try.prog 23 #[.pointer (some ⟨t, 0, none⟩), .agg (rcV r a b ta da), .int .u64 spare] w fun e w' => e = .returned (.tuple #[.int .u64 0, .int .u16 61]) ∧ Below w.heap.size w w' := by
  have R := hi.alloc (Nat.le_refl _) (.cells (rcV r a b ta da) 54)
  have b1 := new_ (Below.refl w.heap.size w) (.cells (rcV r a b ta da) 54)
  have BX := Lib.hid (Box.new w (rcV r a b ta da) 54)
  obtain ⟨w1, hw1⟩ : ∃ w1, w.alloc (.cells (rcV r a b ta da) 54) = w1 := ⟨_, rfl⟩
  rw [hw1] at R b1 BX
  have EN := Lib.hid (encode_no r hm a b ta da w1 w.heap.size b1.size R)
  have HB1 := Lib.hid b1
  have k0 := BX.out.cell
  obtain ⟨A1, c1, rfl, _, _⟩ := hi.a.form
  obtain ⟨A2, c2, rfl, _, _⟩ := hi.b.form
  obtain ⟨A3, c3, rfl, _, _⟩ := hi.t.form
  obtain ⟨A4, c4, rfl, _, _⟩ := hi.d.form
  clear R b1 hi hm
  go_enter Try.func23, Try.ntmps23
  go_wp2_with fail
  (with_reducible refine (EN.out).mono ?_)
  rintro e w2 ⟨rfl, hb2⟩
  have HB2 := Lib.hid (HB1.out.trans (hb2.mono HB1.out.size))
  clear hb2
  go_wp2
  go_ret2
  exact ⟨rfl, HB2.out⟩
set_option maxRecDepth 100000 in
set_option maxHeartbeats 4000000 in
theorem append_full (X : Box w t (lgC g H se (.slice A n c) (.slice At nt ct) la) 89) (h : DX w S g fv D) (hl : 2 ≤ (D.f 0).length) (hn : n ≤ sz D * 127) (r : Rc) (hr : r.Ok) (hm : mayS r = true) (a b ta da : Value) (hi : RcIn w w.heap.size r a b ta da) (spare : Nat) (hsp : spare ≤ 18446744073709551615) (hf : ¬ n + (encS r).length + spare ≤ sz D * 127) :
    Calls Try.prog 23 #[.pointer (some ⟨t, 0, none⟩), .agg (rcV r a b ta da), .int .u64 spare] w fun e w' => e = .returned (.tuple #[.int .u64 0, .int .u16 80]) ∧ Below w.heap.size w w' := by
  have hs : sz D ≤ 2047 := by obtain ⟨col, uv, h'⟩ := h; exact sz_le h'
  have hel : (encS r).length ≤ 2500 := by have := body_len r (may_lens r hm); rw [enc_len]; omega
  have R := hi.alloc (Nat.le_refl _) (.cells (rcV r a b ta da) 54)
  have b1 := new_ (Below.refl w.heap.size w) (.cells (rcV r a b ta da) 54)
  have BX := Lib.hid (Box.new w (rcV r a b ta da) 54)
  obtain ⟨w1, hw1⟩ : ∃ w1, w.alloc (.cells (rcV r a b ta da) 54) = w1 := ⟨_, rfl⟩
  rw [hw1] at R b1 BX
  have EN := Lib.hid (encode_yes r hr hm a b ta da w1 w.heap.size b1.size R)
  have HB1 := Lib.hid b1
  have k0 := BX.out.cell
  obtain ⟨A1, c1, rfl, _, _⟩ := hi.a.form
  obtain ⟨A2, c2, rfl, _, _⟩ := hi.b.form
  obtain ⟨A3, c3, rfl, _, _⟩ := hi.t.form
  obtain ⟨A4, c4, rfl, _, _⟩ := hi.d.form
  have RM := Lib.hid (fun W (hb : Below w.heap.size w W) => (by obtain ⟨col, uv, h'⟩ := h; exact room_any W (X.later hb) (h'.later hb) hl hn : Calls Try.prog 22 #[.pointer (some ⟨t, 0, none⟩)] W fun e w' => e = .returned (.int .u64 (sz D * 127 - n : Nat)) ∧ Below W.heap.size W w'))
  obtain ⟨E, hE⟩ : ∃ E, (encS r).length = E := ⟨_, rfl⟩
  rw [hE] at EN hel hf
  obtain ⟨rm, hrm⟩ : ∃ rm, sz D * 127 - n = rm := ⟨_, rfl⟩
  rw [hrm] at RM
  obtain ⟨q5, hq5⟩ : ∃ q, q = decide (rm < spare) := ⟨_, rfl⟩
  have d5 : decide ((rm : Int) < (spare : Int)) = q5 := by rw [hq5, decide_eq_decide]; omega
  have d5n : decide (rm < spare) = q5 := hq5.symm
  have wE : IntKind.u64.wrap (E : Int) = (E : Int) := by rw [IntKind.wrap_u64]; omega
  obtain ⟨df, hdf⟩ : ∃ df : Int, IntKind.u64.wrap ((rm : Int) - (spare : Int)) = df := ⟨_, rfl⟩
  have d6 : q5 = false → decide (df < (E : Int)) = true := fun hq => by
    have h1 : ¬ rm < spare := of_decide_eq_false (by rw [← hq5]; exact hq)
    rw [← hdf, show IntKind.u64.wrap ((rm : Int) - (spare : Int)) = (rm : Int) - (spare : Int) from by rw [IntKind.wrap_u64]; omega]
    simp; omega
  have D6 := Lib.hid d6
  have XS := Lib.hid (fun W (hb : Below w.heap.size w W) => (X.later hb).cell)
  clear R b1 hi hm hr h X hrm hq5 hf hn hE d6
  go_enter Try.func23, Try.ntmps23
  go_wp2_with fail
  (with_reducible refine (EN.out).mono ?_)
  rintro e w2 ⟨u, rfl, ho, hb2⟩
  have HB2 := Lib.hid (HB1.out.trans (hb2.mono HB1.out.size))
  have HO := Lib.hid ho
  obtain ⟨Au, cu, rfl⟩ := own_slice' HO.out
  clear hb2 ho
  go_wp2_with fail
  (with_reducible refine ((RM.out w2 HB2.out)).mono ?_)
  rintro e w3 ⟨rfl, hb3⟩
  have HB3 := Lib.hid (HB2.out.trans (hb3.mono HB2.out.size))
  clear hb3
  cases q5 with
  | true =>
    clear D6
    go_wp2
    go_ret2
    exact ⟨rfl, HB3.out⟩
  | false =>
    have d7 := D6.out rfl
    clear D6
    go_wp2
    go_ret2
    exact ⟨rfl, HB3.out⟩
end
end Go.Proofs.Yteggcehjpfmikaa.Wal
namespace Go.Proofs.Yteggcehjpfmikaa.Wal
open Go.ChangeShapes Go.WideShapes Go.ChangeAt Go.RowKit Go.IntWalk Go.Proofs.Mem Go.Proofs.Each Law Go.Proofs.Yteggcehjpfmikaa.Disk Rec
set_option linter.unusedVariables false
set_option linter.unusedSimpArgs false
theorem int_info : (Try.prog.info? 3).map (fun i => (i.zero, i.size, i.bytes)) = some (some (.int .i64 0), 1, 8) := by kernel_rfl
theorem wpList_app_at {P : Program} (w : World) {ops : Array Oper} {rest : List Oper} {o : Oper} {a : Act} {Q : Exit → Act → World → Prop} (hgd : o.guard = none) (s x : Operand) (t : TypeId)
    (ho : o.op = .call { callee := .builtin .append, args := #[s, x], argTypes := #[t, t] })
    (base : Nat) (e : TypeId) (i : TypeInfo) (k : IntKind) (bytes : Nat) (ht : P.underlying t = some (.slice e)) (hi : P.info? e = some i) (hz : i.zero = some (.int k 0))
    (hsize : i.size = 1) (hby : i.bytes = bytes) (v : Value) (n : Nat) (xs : List Int) (hs : a.eval s = v) (hown : w.ownsRow base e 1 v n (xs.map (.int k)))
    (B : Nat) (u : Value) (ys : List Int) (m : Nat) (hm : ys.length = m) (hpos : 0 < m) (hx : a.eval x = u) (hr : IR w B k u ys) (h63 : n + m ≤ maxLen) (hbytes : (n + m) * bytes ≤ 140737488355328) (hbase : base ≤ w.heap.size)
    (h : ∀ v' w', w'.ownsRow base e 1 v' (n + m) ((xs ++ ys).map (.int k)) → w.grownBy w' v.ownBlock → (v'.ownBlock = v.ownBlock ∨ v'.ownBlock = some w.heap.size) → wpList P ops Q rest (a.put o.dst v') w') : wpList P ops Q (o :: rest) a w := by
  subst hm
  obtain ⟨A, c, rfl, h2, h3, h4, h5⟩ := hr
  obtain ⟨b, off, rfl, _, _⟩ := h5 0 hpos
  refine wpList_append_own_at w hgd s x t ho base e i _ 1 bytes ht hi hz hsize hby rfl (by omega) v n _ hs hown ⟨b, off, none⟩ ys.length c (ys.map (.int k)) hx (by simp) ?_ ?_ h63 hbytes hbase ?_
  · intro j u' hj
    have hjl : j < ys.length := by
      rcases Nat.lt_or_ge j ys.length with hh | hh
      · exact hh
      · rw [List.getElem?_eq_none (by simpa using hh)] at hj; cases hj
    obtain ⟨b', off', e, _, hc⟩ := h5 j hjl
    injection e with e
    injection e with e1 e2
    subst e1 e2
    rw [Go.WideShapes.add_plain, hc, ← hj]
    simp [List.getD, List.getElem?_eq_getElem hjl]
  · intro u' hu
    obtain ⟨z, _, rfl⟩ := List.mem_map.1 hu
    rfl
  · intro v' w' h1 h2 _ h4
    exact h v' w' (by simpa using h1) h2 h4
theorem row_ne_box {w : World} {n sz b g : Nat} {t t' : TypeId} {v : Value} {xs : List Value} {C : Array Value} (h : w.ownsRow b t sz v n xs) (hb : Box w g C t') (hne : t ≠ t') : v.ownBlock ≠ some g := fun hv => by
  rcases h.2 with ⟨rfl, _⟩ | ⟨g', cap, cur, rfl, _, hg, _⟩
  · cases hv
  · injection hv with hv
    subst hv
    have hh : w.heap[g']? = some (.cells C t' (0, 0)) := hb
    rw [hg] at hh
    injection hh with hh
    injection hh with _ hh _
    exact hne hh
section
variable {w : World} {S : Nat → Prop} {g t : Nat} {fv : Nat → Value} {D : Dv} {H : Hh} {se : Int} {la : Nat} {A At : Option Addr} {n c nt ct : Nat} {xs : List Value} {ys : List Int}
set_option maxRecDepth 100000 in
set_option maxHeartbeats 8000000 in
theorem append_yes (X : Box w t (lgC g H se (.slice A n c) (.slice At nt ct) la) 89) (h : DX w S g fv D) (hl : 2 ≤ (D.f 0).length)
    (hso : w.ownsRow 0 5 1 (.slice A n c) n (ys.map (.int .u8))) (hto : w.ownsRow 0 3 1 (.slice At nt ct) nt xs) (hnt : nt ≤ 100000) (hb : 0 ≤ H.ba ∧ H.ba + n ≤ 18446744073709551615)
    (r : Rc) (hr : r.Ok) (hm : mayS r = true) (a b ta da : Value) (hi : RcIn w w.heap.size r a b ta da) (spare : Nat) (hsp : spare ≤ 18446744073709551615) (hf : n + (encS r).length + spare ≤ sz D * 127) :
    Calls Try.prog 23 #[.pointer (some ⟨t, 0, none⟩), .agg (rcV r a b ta da), .int .u64 spare] w fun e w' => e = .returned (.tuple #[.int .u64 (H.ba + n), .int .u16 0]) ∧
      ∃ sv tv, Box w' t (lgC g H se sv tv la) 89 ∧ w'.ownsRow 0 5 1 sv (n + (encS r).length) ((ys ++ encS r).map (.int .u8)) ∧ w'.ownsRow 0 3 1 tv (nt + 1) (xs ++ [.int .i64 n]) ∧
      Fr (fun x => x = t ∨ (Value.slice A n c).ownBlock = some x ∨ (Value.slice At nt ct).ownBlock = some x) w w' ∧
      (sv.ownBlock = (Value.slice A n c).ownBlock ∨ ∀ k, sv.ownBlock = some k → w.heap.size ≤ k) ∧ (tv.ownBlock = (Value.slice At nt ct).ownBlock ∨ ∀ k, tv.ownBlock = some k → w.heap.size ≤ k) := by
  have hs : sz D ≤ 2047 := by obtain ⟨col, uv, h'⟩ := h; exact sz_le h'
  have hel : (encS r).length ≤ 2500 := by have := body_len r (may_lens r hm); rw [enc_len]; omega
  have R := hi.alloc (Nat.le_refl _) (.cells (rcV r a b ta da) 54)
  have b1 := new_ (Below.refl w.heap.size w) (.cells (rcV r a b ta da) 54)
  have BX := Lib.hid (Box.new w (rcV r a b ta da) 54)
  obtain ⟨w0, hw0⟩ : ∃ w0, w.alloc (.cells (rcV r a b ta da) 54) = w0 := ⟨_, rfl⟩
  rw [hw0] at R b1 BX
  have EN := Lib.hid (encode_yes r hr hm a b ta da w0 w.heap.size b1.size R)
  have HB1 := Lib.hid b1
  have k0 := BX.out.cell
  obtain ⟨A1, c1, rfl, _, _⟩ := hi.a.form
  obtain ⟨A2, c2, rfl, _, _⟩ := hi.b.form
  obtain ⟨A3, c3, rfl, _, _⟩ := hi.t.form
  obtain ⟨A4, c4, rfl, _, _⟩ := hi.d.form
  obtain ⟨j0, hj0, hj1, hj2, hj3⟩ := info_parts int_info
  have RM := Lib.hid (fun W (hb : Below w.heap.size w W) => (by obtain ⟨col, uv, h'⟩ := h; exact room_any W (X.later hb) (h'.later hb) hl (by omega) : Calls Try.prog 22 #[.pointer (some ⟨t, 0, none⟩)] W fun e w' => e = .returned (.int .u64 (sz D * 127 - n : Nat)) ∧ Below W.heap.size W w'))
  obtain ⟨es, hes⟩ : ∃ es, encS r = es := ⟨_, rfl⟩
  rw [hes] at EN hel hf ⊢
  obtain ⟨E, hE⟩ : ∃ E, es.length = E := ⟨_, rfl⟩
  rw [hE] at EN hel hf ⊢
  have HE := Lib.hid hE
  have HEP := Lib.hid (show 0 < E by rw [← hE, ← hes, enc_len]; omega)
  obtain ⟨rm, hrm⟩ : ∃ rm, sz D * 127 - n = rm := ⟨_, rfl⟩
  rw [hrm] at RM
  have d5 : decide ((rm : Int) < (spare : Int)) = false := by simp; omega
  have d5n : decide (rm < spare) = false := by simp; omega
  have wE : IntKind.u64.wrap (E : Int) = (E : Int) := by rw [IntKind.wrap_u64]; omega
  obtain ⟨df, hdf⟩ : ∃ df : Nat, rm - spare = df := ⟨_, rfl⟩
  have hdf2 : IntKind.u64.wrap ((rm : Int) - (spare : Int)) = (df : Int) := by rw [IntKind.wrap_u64]; omega
  have d6 : decide ((df : Int) < (E : Int)) = false := by simp; omega
  have d6n : decide (df < E) = false := by simp; omega
  have HX := Lib.hid X
  have HNT := Lib.hid hnt
  have HSO := Lib.hid hso
  have HTO := Lib.hid hto
  have HVB := Lib.hid (show nt ≤ 100000 from hnt)
  have HEL := Lib.hid (show n + E ≤ 300000 by omega)
  have HBA := Lib.hid hb
  have HRG : (Value.slice At nt ct).ownBlock ≠ some t := fun e => row_ne_box hto X (by decide) e
  have HRS : (Value.slice A n c).ownBlock ≠ some t := fun e => row_ne_box hso X (by decide) e
  have HRA : ∀ k, (Value.slice A n c).ownBlock = some k → (Value.slice At nt ct).ownBlock ≠ some k := fun k e => own_apart hso hto (by decide) k e
  clear R b1 hi hm hr h X hrm hf hE hdf hs hel hso hto hnt hb hes hl hsp
  go_enter Try.func23, Try.ntmps23
  go_wp2_with fail
  (with_reducible refine (EN.out).mono ?_)
  rintro e w2 ⟨u, rfl, ho, hb2⟩
  have HB2 := Lib.hid (HB1.out.trans (hb2.mono HB1.out.size))
  have HO := Lib.hid ho
  obtain ⟨Au, cu, rfl⟩ := own_slice' HO.out
  clear hb2 ho
  go_wp2_with fail
  (with_reducible refine ((RM.out w2 HB2.out)).mono ?_)
  rintro e w1 ⟨rfl, hb3⟩
  have HB3 := Lib.hid (HB2.out.trans (hb3.mono HB2.out.size))
  have HU3 := Lib.hid (own_below HO.out hb3)
  clear hb3
  have BX1 := Lib.hid (HX.out.later HB3.out)
  have OW1 := Lib.hid (own_below HTO.out HB3.out)
  have OS1 := Lib.hid (own_below HSO.out HB3.out)
  have HRL := Lib.hid (show ∀ k, (Value.slice At nt ct).ownBlock = some k → k < w1.heap.size from fun k e => (OW1.out.lt k e).2)
  go_upto_region 7 with fail
  refine wp_region_app (by kernel_rfl) (by kernel_rfl) (Value.slice At nt ct).ownBlock t 11 14 89 (fun v => (lgC g H se (.slice A n c) (.slice At nt ct) la).setIfInBounds 7 v) [(fun v _ => v = .pointer (some ⟨t, 0, none⟩)), (fun v _ => v = .pointer (some ⟨t, 0, none⟩)), (fun v _ => v = .pointer (some ⟨t, 0, none⟩)), (fun v _ => v = .pointer (some ⟨t, 7, none⟩)), (fun v _ => v = .slice At nt ct), (fun v _ => v = .pointer (some ⟨t, 0, none⟩)), (fun v _ => v = .pointer (some ⟨t, 0, none⟩)), (fun v _ => v = .pointer (some ⟨t, 6, none⟩)), (fun v _ => v = .slice A n c), (fun v _ => v = .int .i64 n), (fun v W => ∃ g1, v = .slice (some ⟨g1, 0, none⟩) 1 1 ∧ w1.heap.size ≤ g1 ∧ Box W g1 #[.int .i64 n] 3), (fun v W => W.ownsRow 0 3 1 v (nt + 1) (xs ++ [.int .i64 n]) ∧ (v.ownBlock = (Value.slice At nt ct).ownBlock ∨ ∀ k, v.ownBlock = some k → w1.heap.size ≤ k)), (fun v _ => v = .pointer (some ⟨t, 0, none⟩)), (fun v _ => v = .pointer (some ⟨t, 7, none⟩)), (fun v _ => v = undef)] (by decide) (by intro o ho; injection ho with ho; subst ho; exact ⟨⟨11, .data⟩, by simp, rfl, rfl⟩) HRG ?_ (fun vals => ?_) (fun vals W hfr hbx hall _ => ?_) (by decide)
  · intro j v W W' hj hsz hf h
    match j, hj, h with
    | 0, _, h => exact h
    | 1, _, h => exact h
    | 2, _, h => exact h
    | 3, _, h => exact h
    | 4, _, h => exact h
    | 5, _, h => exact h
    | 6, _, h => exact h
    | 7, _, h => exact h
    | 8, _, h => exact h
    | 9, _, h => exact h
    | 10, _, h => obtain ⟨g1, e1, e2, e3⟩ := h; exact ⟨g1, e1, e2, e3.fr hf (fun hk => by rcases hk with ⟨_, h1⟩ | h1; (have := HRL.out _ h1; omega); (have := BX1.out.lt; omega))⟩
    | 11, _, h => obtain ⟨e1, e3⟩ := h; exact ⟨Disk.own_frS e1 hf (fun k hk hs => by rcases hs with ⟨h1, _⟩ | h1; (exact h1 rfl); (subst h1; rcases e3 with h3 | h3; (rw [h3] at hk; exact HRG hk); (have := h3 _ hk; have := BX1.out.lt; omega))), e3⟩
    | 12, _, h => exact h
    | 13, _, h => exact h
    | 14, hj, _ => exact absurd rfl hj
    | _ + 15, _, _ => trivial
  · simp only [ObL, Act.put, List.setIfInBounds_toArray, List.set_cons_succ, List.set_cons_zero]
    refine ⟨?_, ?_, ?_, ?_, ?_, ?_, ?_, ?_, ?_, ?_, ?_, ?_, ?_, ?_, ?_, trivial⟩
    · intro L W hL hk hC hw
      clear hw
      clear hL hC hk
      refine step_plain rfl ?_
      go_simp
      first | exact ⟨Ra.same _, Fa.val (by decide) rfl rfl⟩ | exact ⟨_, rfl, Ra.same _, Fa.val (by decide) rfl rfl⟩
    · intro L W hL hk hC hw
      clear hw
      clear hL hC hk
      refine step_plain rfl ?_
      go_simp
      first | exact ⟨Ra.same _, Fa.val (by decide) rfl rfl⟩ | exact ⟨_, rfl, Ra.same _, Fa.val (by decide) rfl rfl⟩
    · intro L W hL hk hC hw
      have f1 : vals 1 = .pointer (some ⟨t, 0, none⟩) := Fa.get (hw ⟨1, .data⟩ (by simp) rfl) (by decide)
      clear hw
      clear hL hC hk
      refine step_plain rfl ?_
      go_simp
      first | exact ⟨Ra.same _, Fa.val (by decide) rfl rfl⟩ | exact ⟨_, rfl, Ra.same _, Fa.val (by decide) rfl rfl⟩
    · intro L W hL hk hC hw
      have f2 : vals 2 = .pointer (some ⟨t, 0, none⟩) := Fa.get (hw ⟨2, .data⟩ (by simp) rfl) (by decide)
      clear hw
      clear hL hC hk
      refine step_plain rfl ?_
      go_simp
      first | exact ⟨Ra.same _, Fa.val (by decide) rfl rfl⟩ | exact ⟨_, rfl, Ra.same _, Fa.val (by decide) rfl rfl⟩
    · intro L W hL hk hC hw
      have f3 : vals 3 = .pointer (some ⟨t, 7, none⟩) := Fa.get (hw ⟨3, .data⟩ (by simp) rfl) (by decide)
      clear hw
      have bx := hC.box BX1.out (hL.not_yet hk 14 8 (by decide +kernel)) HRG
      have kc : W.cell? ⟨t, 7, none⟩ = some (.slice At nt ct) := bx.cell 7
      clear hL hC hk bx
      refine step_plain rfl ?_
      go_simp
      first | exact ⟨Ra.same _, Fa.val (by decide) rfl rfl⟩ | exact ⟨_, rfl, Ra.same _, Fa.val (by decide) rfl rfl⟩
    · intro L W hL hk hC hw
      clear hw
      clear hL hC hk
      refine step_plain rfl ?_
      go_simp
      first | exact ⟨Ra.same _, Fa.val (by decide) rfl rfl⟩ | exact ⟨_, rfl, Ra.same _, Fa.val (by decide) rfl rfl⟩
    · intro L W hL hk hC hw
      have f5 : vals 5 = .pointer (some ⟨t, 0, none⟩) := Fa.get (hw ⟨5, .data⟩ (by simp) rfl) (by decide)
      clear hw
      clear hL hC hk
      refine step_plain rfl ?_
      go_simp
      first | exact ⟨Ra.same _, Fa.val (by decide) rfl rfl⟩ | exact ⟨_, rfl, Ra.same _, Fa.val (by decide) rfl rfl⟩
    · intro L W hL hk hC hw
      have f6 : vals 6 = .pointer (some ⟨t, 0, none⟩) := Fa.get (hw ⟨6, .data⟩ (by simp) rfl) (by decide)
      clear hw
      clear hL hC hk
      refine step_plain rfl ?_
      go_simp
      first | exact ⟨Ra.same _, Fa.val (by decide) rfl rfl⟩ | exact ⟨_, rfl, Ra.same _, Fa.val (by decide) rfl rfl⟩
    · intro L W hL hk hC hw
      have f7 : vals 7 = .pointer (some ⟨t, 6, none⟩) := Fa.get (hw ⟨7, .data⟩ (by simp) rfl) (by decide)
      clear hw
      have bx := hC.box BX1.out (hL.not_yet hk 14 8 (by decide +kernel)) HRG
      have kc : W.cell? ⟨t, 6, none⟩ = some (.slice A n c) := bx.cell 6
      clear hL hC hk bx
      refine step_plain rfl ?_
      go_simp
      first | exact ⟨Ra.same _, Fa.val (by decide) rfl rfl⟩ | exact ⟨_, rfl, Ra.same _, Fa.val (by decide) rfl rfl⟩
    · intro L W hL hk hC hw
      have f8 : vals 8 = .slice A n c := Fa.get (hw ⟨8, .data⟩ (by simp) rfl) (by decide)
      clear hw
      clear hL hC hk
      refine step_plain rfl ?_
      go_simp
      first | exact ⟨Ra.same _, Fa.val (by decide) rfl rfl⟩ | exact ⟨_, rfl, Ra.same _, Fa.val (by decide) rfl rfl⟩
    · intro L W hL hk hC hw
      have f9 : vals 9 = .int .i64 n := Fa.get (hw ⟨9, .data⟩ (by simp) rfl) (by decide)
      clear hw
      have hsz := Lib.hid (show w1.heap.size ≤ W.heap.size from hC.size)
      clear hL hC hk
      refine step_plain rfl ?_
      go_simp
      have hz := new_ (Below.refl W.heap.size W) (.cells #[.int .i64 n] 3)
      first | exact ⟨Ra.of_below hz, Fa.val (by decide) rfl ⟨_, rfl, hsz.out, Box.new _ _ _⟩⟩ | exact ⟨_, rfl, Ra.of_below hz, Fa.val (by decide) rfl ⟨_, rfl, hsz.out, Box.new _ _ _⟩⟩
    · intro L W hL hk hC hw
      have f4 : vals 4 = .slice At nt ct := Fa.get (hw ⟨4, .data⟩ (by simp) rfl) (by decide)
      have f10 : ∃ g1, (vals 10) = .slice (some ⟨g1, 0, none⟩) 1 1 ∧ w1.heap.size ≤ g1 ∧ Box W g1 #[.int .i64 n] 3 := Fa.get (hw ⟨10, .data⟩ (by simp) rfl) (by decide)
      clear hw
      have hb := hC.below hk (hL.not_yet hk 14 8 (by decide +kernel))
      have ow := own_below OW1.out hb
      obtain ⟨g1, e7, hg1, hbx1⟩ := f10
      clear hL hC hk
      refine step_plain rfl ?_
      refine wp_push W _ _ _ rfl 0 3 j0 _ 1 8 Try.underlying87 hj0 hj1 hj2 hj3 rfl (by decide) [.int .i64 n] rfl (by intro u hu; simp only [List.mem_singleton] at hu; subst hu; rfl) (.slice At nt ct) nt xs f4 ow g1 _ e7 hbx1 (by simp only [maxLen]; have := HVB.out; omega) (by have := HVB.out; omega) (Nat.zero_le _) ?_
      intro v1 w2 ho1 hgr1 hb1
      have hk2 : v1.ownBlock = (Value.slice At nt ct).ownBlock ∨ ∀ k, v1.ownBlock = some k → w1.heap.size ≤ k := by
              rcases hb1 with h | h
              · exact .inl h
              · exact .inr (fun k hk => by rw [h] at hk; injection hk with hk; have := hb.size; omega)
      exact ⟨_, rfl, Fr.grown (Fr.refl _ _) hgr1 (fun g e => .inl (.inl ⟨rfl, e⟩)), Fa.val (by decide) rfl ⟨ho1, hk2⟩⟩
    · intro L W hL hk hC hw
      have f0 : vals 0 = .pointer (some ⟨t, 0, none⟩) := Fa.get (hw ⟨0, .data⟩ (by simp) rfl) (by decide)
      clear hw
      clear hL hC hk
      refine step_plain rfl ?_
      go_simp
      first | exact ⟨Ra.same _, Fa.val (by decide) rfl rfl⟩ | exact ⟨_, rfl, Ra.same _, Fa.val (by decide) rfl rfl⟩
    · intro L W hL hk hC hw
      have f12 : vals 12 = .pointer (some ⟨t, 0, none⟩) := Fa.get (hw ⟨12, .data⟩ (by simp) rfl) (by decide)
      clear hw
      clear hL hC hk
      refine step_plain rfl ?_
      go_simp
      first | exact ⟨Ra.same _, Fa.val (by decide) rfl rfl⟩ | exact ⟨_, rfl, Ra.same _, Fa.val (by decide) rfl rfl⟩
    · intro L W hL hk hC hw
      have f13 : vals 13 = .pointer (some ⟨t, 7, none⟩) := Fa.get (hw ⟨13, .data⟩ (by simp) rfl) (by decide)
      have f11 : W.ownsRow 0 3 1 (vals 11) (nt + 1) (xs ++ [.int .i64 n]) ∧ ((vals 11).ownBlock = (Value.slice At nt ct).ownBlock ∨ ∀ k, (vals 11).ownBlock = some k → w1.heap.size ≤ k) := Fa.get (hw ⟨11, .data⟩ (by simp) rfl) (by decide)
      clear hw
      have bx := hC.box BX1.out hk HRG
      obtain ⟨hx8, hx9⟩ := f11
      obtain ⟨A2, l2, e21⟩ := own_slice' hx8
      have kc : W.cell? ⟨t, 7, none⟩ = some (.slice At nt ct) := bx.cell 7
      have fc := bx.frozen 7
      clear hL hC hk
      refine step_plain rfl ?_
      go_simp
      have hb9 := Box.set_ bx 7 (.slice A2 (nt + 1) l2)
      exact ⟨Fr.setCell (Fr.refl _ _) (p := ⟨t, 7, none⟩) (.inl (.inr ⟨rfl, rfl⟩)) _, undef, Fa.last (by decide) (by rw [e21]; exact hb9)⟩
  · simp only [TL, Act.put, List.setIfInBounds_toArray, List.set_cons_succ, List.set_cons_zero]
    have f11 : W.ownsRow 0 3 1 (vals 11) (nt + 1) (xs ++ [.int .i64 n]) ∧ ((vals 11).ownBlock = (Value.slice At nt ct).ownBlock ∨ ∀ k, (vals 11).ownBlock = some k → w1.heap.size ≤ k) := hall 11 (by decide) (by decide)
    obtain ⟨o11, p11⟩ := f11
    obtain ⟨A2, c2', e2⟩ := own_slice' o11
    rw [e2] at hbx o11 p11
    simp only [List.setIfInBounds_toArray, List.set_cons_succ, List.set_cons_zero] at hbx
    rw [e2]
    have HBX := Lib.hid hbx
    have HO11 := Lib.hid o11
    have HP11 := Lib.hid p11
    have HFR := Lib.hid hfr
    have HOS2 := Lib.hid (Disk.own_frS OS1.out hfr (fun k hk hS => by rcases hS with h1 | h1; (exact HRA k hk h1); (exact HRS (h1 ▸ hk))))
    have HU2 := Lib.hid (IR.of_own (Disk.own_frS HU3.out hfr (fun k hk hS => by
      have h5 := (HU3.out.lt k hk).1
      have := HB1.out.size
      rcases hS with h1 | h1
      · have := (HTO.out.lt k h1).2; omega
      · have := HX.out.lt; omega)))
    have CE := Lib.hid (end_any W HBX.out HBA.out (by have := HEL.out; omega))
    have q6 := HBX.out.cell 6
    have f6 := HBX.out.frozen 6
    obtain ⟨i0, hi0, hz0, hz1, hz2⟩ := info_parts NumBytes.u8_info
    clear hfr hbx hall o11 p11 e2
    go_wp2_with (first
      | (go_at_call 15
         (with_reducible refine CE.out.mono ?_)
         rintro er w6 ⟨rfl, rfl⟩)
      | (at_builtin
         refine wpList_app_at _ rfl _ _ _ rfl 0 5 i0 .u8 1 Try.underlying48 hi0 hz0 hz1 hz2 _ n ys rfl HOS2.out _ _ es E HE.out HEP.out rfl HU2.out (by simp only [maxLen]; have := HEL.out; omega) (by have := HEL.out; omega) (Nat.zero_le _) ?_
         intro v7 w7 ho7 hg7 ha7
         obtain ⟨A7, c7, e7⟩ := own_slice' ho7
         subst e7
         have bx7 := HBX.out.fr (S := fun x => (Value.slice A n c).ownBlock = some x) (Fr.grown (Fr.refl _ _) hg7 (fun q e => .inl e)) HRS
         have HO7 := Lib.hid ho7
         have HG7 := Lib.hid hg7
         have HA7 := Lib.hid ha7
         have HB7 := Lib.hid bx7
         have k7 := bx7.frozen 6
         have r7 := bx7.cell 6
         clear ho7 hg7 ha7 bx7))
    have b9 := HB7.out.set_ 6 (.slice A7 (n + E) c7)
    simp only [List.setIfInBounds_toArray, List.set_cons_succ, List.set_cons_zero] at b9
    have H9 := Lib.hid b9
    clear b9
    go_ret2
    have hfrw : Fr (fun x => x = t ∨ (Value.slice A n c).ownBlock = some x ∨ (Value.slice At nt ct).ownBlock = some x) w W := by
      refine (Fr.of_below HB3.out).trans' HFR.out (fun i hi hS => ?_)
      rcases hS with h1 | h1
      · exact .inr (.inr h1)
      · exact .inl h1
    have hfr7 : Fr (fun x => x = t ∨ (Value.slice A n c).ownBlock = some x ∨ (Value.slice At nt ct).ownBlock = some x) w w7 :=
      hfrw.trans' (Fr.grown (S := fun x => (Value.slice A n c).ownBlock = some x) (Fr.refl _ _) HG7.out (fun q e => .inl e)) (fun i hi hS => .inr (.inl hS))
    have hsz := HB3.out.size
    have hszW := hfrw.size
    have ht11 : (Value.slice A2 (nt + 1) c2').ownBlock ≠ some t := fun e => row_ne_box HO11.out HBX.out (by decide) e
    have o12 := HO11.out.kept HG7.out (by
      cases hq : (Value.slice A2 (nt + 1) c2').ownBlock with
      | none => exact .inl rfl
      | some k => exact .inr (fun e => own_apart HOS2.out HO11.out (by decide) k e.symm hq))
    refine ⟨rfl, _, _, H9.out, own_set_far' HO7.out (p := ⟨t, 6, none⟩) (fun e => ?_) _, own_set_far' o12 (p := ⟨t, 6, none⟩) (fun e => ht11 e) _, hfr7.setCell (.inl (.inl rfl)) _, ?_, ?_⟩
    · exact row_ne_box HO7.out HB7.out (by decide) e
    · rcases HA7.out with h1 | h1
      · exact .inl h1
      · refine .inr (fun k hk => ?_)
        rw [h1] at hk
        injection hk with hk
        omega
    · rcases HP11.out with h1 | h1
      · exact .inl h1
      · exact .inr (fun k hk => by have := h1 k hk; omega)
end
end Go.Proofs.Yteggcehjpfmikaa.Wal
namespace Go.Proofs.Yteggcehjpfmikaa.Rec
open Go.ChangeShapes Go.WideShapes Go.ChangeAt Go.RowKit Go.IntWalk Go.Proofs.NumMath Go.Proofs.Mem Go.Proofs.CrcMath NumBytes CrcA
set_option linter.unusedVariables false
set_option linter.unusedSimpArgs false
theorem b8 {a : Int} (h : 0 ≤ a ∧ a ≤ 255) : 0 ≤ a ∧ a < 2 ^ (8 * 1) := ⟨h.1, by have := h.2; show a < 256; omega⟩
theorem b16 {a : Int} (h : 0 ≤ a ∧ a ≤ 65535) : 0 ≤ a ∧ a < 2 ^ (8 * 2) := ⟨h.1, by have := h.2; show a < 65536; omega⟩
theorem b32 {a : Int} (h : 0 ≤ a ∧ a ≤ 4294967295) : 0 ≤ a ∧ a < 2 ^ (8 * 4) := ⟨h.1, by have := h.2; show a < 4294967296; omega⟩
theorem b64 {a : Int} (h : 0 ≤ a ∧ a ≤ 18446744073709551615) : 0 ≤ a ∧ a < 2 ^ (8 * 8) := ⟨h.1, by have := h.2; show a < 18446744073709551616; omega⟩
theorem nat_b8 {n : Nat} (h : n ≤ 64) : 0 ≤ (n : Int) ∧ (n : Int) ≤ 255 := by omega
theorem flag_b (a b : Bool) : 0 ≤ flagS a b ∧ flagS a b ≤ 255 := by cases a <;> cases b <;> decide
theorem may_more (r : Rc) (h : mayS r = true) : (¬ (r.k = 2 ∨ r.k = 3) → r.c = ⟨0, 0, false, false, [], []⟩) ∧ (r.k ≠ 8 → r.ts = [] ∧ r.ds = []) := by
  simp only [mayS, mayF, nullB, Bool.and_eq_true, Bool.or_eq_true, Bool.not_eq_true', decide_eq_false_iff_not, decide_eq_true_eq] at h
  obtain ⟨⟨⟨⟨⟨⟨⟨⟨_, _⟩, h1⟩, h2⟩, _⟩, _⟩, _⟩, _⟩, _⟩ := h
  constructor
  · intro hk
    rcases h2 with h2 | h2
    · exact absurd h2 hk
    · obtain ⟨⟨⟨⟨⟨a, b⟩, c⟩, d⟩, e⟩, f⟩ := h2
      have e' := List.eq_nil_of_length_eq_zero e
      have f' := List.eq_nil_of_length_eq_zero f
      generalize r.c = q at *
      cases q; simp_all
  · intro hk
    rcases h1 with h1 | h1
    · exact absurd h1 hk
    · exact ⟨List.eq_nil_of_length_eq_zero h1.1, List.eq_nil_of_length_eq_zero h1.2⟩
end Go.Proofs.Yteggcehjpfmikaa.Rec
namespace Go.Proofs.Yteggcehjpfmikaa.Rec
open Go.ChangeShapes Go.WideShapes Go.ChangeAt Go.RowKit Go.IntWalk Go.Proofs.NumMath Go.Proofs.Mem Go.Proofs.CrcMath NumBytes CrcA
set_option linter.unusedVariables false
set_option linter.unusedSimpArgs false
def raise_ : List PanicEntry := [{ v := .iface 39 (.int .u16 61), recovered := false }]
theorem give_up (v : Value) (w : World) : Calls Try.prog 89 #[v] w fun e w' => e = .panicked raise_ ∧ w = w' := by
  go_enter Try.func89, Try.ntmps89
  go_wp2
  exact ⟨rfl, rfl, rfl⟩
set_option maxHeartbeats 2000000 in
theorem take_no (w : World) (g B : Nat) (v : Value) (xs : List Int) (h : Rd w g B v xs) (n : Nat) (hn : xs.length < n) (hn2 : n ≤ 1000) :
    Calls Try.prog 92 #[.pointer (some ⟨g, 0, none⟩), .int .i64 n] w fun e w' => e = .panicked raise_ ∧ w = w' := by
  obtain ⟨A, c, rfl, hlc, hcm⟩ := h.ir.form
  have x0 := h.box.cell 0
  simp only [List.getElem?_toArray, List.getElem?_cons_zero] at x0
  unfold maxLen at hcm
  clear h
  have d1 : decide ((xs.length : Int) < (n : Int)) = true := by simp; omega
  go_enter Try.func92, Try.ntmps92
  go_wp2_with (go_at_call 89; (with_reducible refine (give_up _ _).mono ?_); rintro e w1 ⟨rfl, rfl⟩)
  exact ⟨rfl, rfl, rfl⟩
def rNum (n : Nat) (xs : List Int) : Option (Int × List Int) := if n ≤ xs.length then some (getS (xs.take n), xs.drop n) else none
theorem rNum_some {n : Nat} {xs ys : List Int} {a : Int} (h : rNum n xs = some (a, ys)) : n ≤ xs.length ∧ a = getS (xs.take n) ∧ ys = xs.drop n := by
  unfold rNum at h
  split at h
  · injection h with h
    injection h with h1 h2
    exact ⟨by assumption, h1.symm, h2.symm⟩
  · cases h
theorem rNum_none {n : Nat} {xs : List Int} (h : rNum n xs = none) : xs.length < n := by
  unfold rNum at h
  split at h
  · cases h
  · omega
theorem bytes_drop {xs : List Int} (h : Bytes xs) (n : Nat) : Bytes (xs.drop n) := fun y hy => h y (List.mem_of_mem_drop hy)
theorem bytes_take {xs : List Int} (h : Bytes xs) (n : Nat) : Bytes (xs.take n) := fun y hy => h y (List.mem_of_mem_take hy)
theorem rNum_bytes {n : Nat} {xs ys : List Int} {a : Int} (h : rNum n xs = some (a, ys)) (hx : Bytes xs) : Bytes ys := by
  rw [(rNum_some h).2.2]; exact bytes_drop hx n
theorem getTo_bd (xs : List Int) (hx : Bytes xs) : ∀ k, 0 ≤ getTo xs k ∧ getTo xs k < 2 ^ (8 * k) := by
  intro k
  induction k with
  | zero => exact ⟨Int.le_refl _, by simp [getTo]⟩
  | succ k ih =>
    have hb := hx.at_ k
    have e : (2 : Int) ^ (8 * (k + 1)) = 2 ^ (8 * k) * 256 := by rw [show 8 * (k + 1) = 8 * k + 8 by omega, p2_add]; rfl
    have p := p2 (8 * k)
    show 0 ≤ getTo xs k + xs.getD k 0 * 2 ^ (8 * k) ∧ getTo xs k + xs.getD k 0 * 2 ^ (8 * k) < _
    rw [e]
    generalize xs.getD k 0 = x at hb
    generalize (2 : Int) ^ (8 * k) = q at ih p
    obtain ⟨m, rfl⟩ : ∃ m : Nat, x = (m : Int) := ⟨x.toNat, by omega⟩
    have h1 : (m : Int) * q ≤ 255 * q := Int.mul_le_mul_of_nonneg_right (by omega) (by omega)
    have h2 : 0 ≤ (m : Int) * q := Int.mul_nonneg (by omega) (by omega)
    rw [Int.mul_comm q 256]
    omega
theorem rNum_bd {n : Nat} (hn : n ≤ 8) {xs ys : List Int} {a : Int} (h : rNum n xs = some (a, ys)) (hx : Bytes xs) : 0 ≤ a ∧ a < 2 ^ (8 * n) := by
  obtain ⟨h1, h2, _⟩ := rNum_some h
  rw [h2]
  unfold getS
  rw [List.length_take, Nat.min_eq_left h1, Nat.min_eq_left hn]
  exact getTo_bd _ (bytes_take hx n) n
theorem num_some (w : World) (g B : Nat) (v : Value) (xs ys : List Int) (a : Int) (h : Rd w g B v xs) (hx : Bytes xs) (n : Nat) (N : Int) (hN : N = n) (hr : rNum n xs = some (a, ys)) :
    Calls Try.prog 88 #[.pointer (some ⟨g, 0, none⟩), .int .i64 N] w fun e w' => e = .returned (.int .u64 a) ∧ (∃ v', Rd w' g B v' ys) ∧ Fr (fun x => x = g) w w' := by
  obtain ⟨h1, rfl, rfl⟩ := rNum_some hr
  subst hN
  exact rnumber_any w g B v xs h hx n h1
set_option maxHeartbeats 2000000 in
theorem num_none (w : World) (g B : Nat) (v : Value) (xs : List Int) (h : Rd w g B v xs) (n : Nat) (N : Int) (hN : N = n) (hn : n ≤ 8) (hr : rNum n xs = none) :
    Calls Try.prog 88 #[.pointer (some ⟨g, 0, none⟩), .int .i64 N] w fun e w' => e = .panicked raise_ ∧ w = w' := by
  subst hN
  have TA := Lib.hid (take_no w g B v xs h n (rNum_none hr) (by omega))
  clear h hr
  go_enter Try.func88, Try.ntmps88
  go_wp2_with (go_at_call 92; (with_reducible refine TA.out.mono ?_); rintro e w1 ⟨rfl, rfl⟩)
  exact ⟨rfl, rfl, rfl⟩
def rText (xs : List Int) : Option (List Int × List Int) :=
  match rNum 1 xs with
  | none => none
  | some (k, ys) => if k.toNat ≤ ys.length then some (ys.take k.toNat, ys.drop k.toNat) else none
theorem rText_bytes {xs ys zs : List Int} (h : rText xs = some (ys, zs)) (hx : Bytes xs) : Bytes ys ∧ Bytes zs ∧ ys.length ≤ 255 := by
  unfold rText at h
  cases e : rNum 1 xs with
  | none => rw [e] at h; cases h
  | some p =>
    obtain ⟨k, us⟩ := p
    rw [e] at h
    simp only at h
    split at h
    · injection h with h
      injection h with h1 h2
      have hb := rNum_bytes e hx
      have hk := rNum_bd (by decide) e hx
      subst h1 h2
      exact ⟨bytes_take hb _, bytes_drop hb _, by rw [List.length_take]; have := hk.2; rw [show (2 : Int) ^ (8 * 1) = 256 from rfl] at this; omega⟩
    · cases h
set_option maxRecDepth 100000 in
set_option maxHeartbeats 4000000 in
theorem rtext_some (w : World) (g B : Nat) (v : Value) (xs ys zs : List Int) (h : Rd w g B v xs) (hx : Bytes xs) (hr : rText xs = some (ys, zs)) :
    Calls Try.prog 93 #[.pointer (some ⟨g, 0, none⟩)] w fun e w' => ∃ u, e = .returned u ∧ w'.ownsRow w.heap.size 5 1 u ys.length (ys.map (.int .u8)) ∧ (∃ v', Rd w' g B v' zs) ∧ Fr (fun x => x = g) w w' := by
  obtain ⟨i0, hi0, hz0, hz1, hz2⟩ := info_parts u8_info
  have hyl := (rText_bytes hr hx).2.2
  unfold rText at hr
  cases e : rNum 1 xs with
  | none => rw [e] at hr; cases hr
  | some p =>
    obtain ⟨k, us⟩ := p
    rw [e] at hr
    simp only at hr
    have hk := rNum_bd (by decide) e hx
    rw [show (2 : Int) ^ (8 * 1) = 256 from rfl] at hk
    split at hr
    case isFalse => cases hr
    case isTrue hle =>
      injection hr with hr
      injection hr with h1 h2
      subst h1 h2
      obtain ⟨K, rfl⟩ : ∃ K : Nat, k = K := ⟨k.toNat, by omega⟩
      rw [Int.toNat_natCast] at hle hyl ⊢
      have wk : IntKind.i64.wrap (K : Int) = (K : Int) := IntWalk.i64_in _ (by omega)
      have NS := Lib.hid (num_some w g B v xs us K h hx 1 1 rfl e)
      have TK := Lib.hid (fun W v (h : Rd W g B v us) => take_any W g B v us h K hle)
      have GB := Lib.hid h.le
      have GL := Lib.hid h.box.lt
      have HK := Lib.hid hk
      clear h e hk
      go_enter Try.func93, Try.ntmps93
      go_wp2_with (first
        | (go_at_call 88; (with_reducible refine NS.out.mono ?_); rintro e w1 ⟨rfl, ⟨v1, r1⟩, f1⟩; have R1 := Lib.hid r1; have F1 := Lib.hid f1; clear r1 f1)
        | (go_at_call 92; (with_reducible refine (TK.out _ _ R1.out).mono ?_); rintro e w2 ⟨u, rfl, iu, ⟨v2, r2⟩, f2⟩; have R2 := Lib.hid r2; have F2 := Lib.hid (F1.out.trans f2); have IU := Lib.hid iu; clear r2 f2 iu)
        | (at_builtin; refine wpList_append_tx _ rfl _ _ _ _ rfl w.heap.size 5 5 i0 .u8 1 Try.underlying48 Try.underlying48 hi0 hz0 hz1 hz2 (.slice none 0 0) 0 [] rfl (World.ownsRow_nil _ _ _ _) B u (us.take K) rfl IU.out (by unfold maxLen; omega) (by omega) F2.out.size ?_; intro v3 w3 hown3 hg3 ho3
           rw [Nat.zero_add, List.nil_append] at hown3
           have O3 := Lib.hid hown3
           have R3 := Lib.hid (R2.out.below (grown_below hg3))
           have F3 := Lib.hid (F2.out.below (grown_below hg3))
           clear hown3 hg3 ho3))
      go_ret
      exact ⟨_, rfl, O3.out, ⟨_, R3.out⟩, F3.out⟩
set_option maxHeartbeats 4000000 in
theorem rtext_none (w : World) (g B : Nat) (v : Value) (xs : List Int) (h : Rd w g B v xs) (hx : Bytes xs) (hr : rText xs = none) :
    Calls Try.prog 93 #[.pointer (some ⟨g, 0, none⟩)] w fun e w' => e = .panicked raise_ ∧ Fr (fun x => x = g) w w' := by
  unfold rText at hr
  cases e : rNum 1 xs with
  | none =>
    have NN := Lib.hid (num_none w g B v xs h 1 1 rfl (by decide) e)
    clear h e hr
    go_enter Try.func93, Try.ntmps93
    go_wp2_with (go_at_call 88; (with_reducible refine NN.out.mono ?_); rintro e w1 ⟨rfl, rfl⟩)
    exact ⟨rfl, rfl, Fr.refl _ _⟩
  | some p =>
    obtain ⟨k, us⟩ := p
    rw [e] at hr
    simp only at hr
    have hk := rNum_bd (by decide) e hx
    rw [show (2 : Int) ^ (8 * 1) = 256 from rfl] at hk
    split at hr
    case isTrue => cases hr
    case isFalse hle =>
      obtain ⟨K, rfl⟩ : ∃ K : Nat, k = K := ⟨k.toNat, by omega⟩
      rw [Int.toNat_natCast] at hle
      have wk : IntKind.i64.wrap (K : Int) = (K : Int) := IntWalk.i64_in _ (by omega)
      have NS := Lib.hid (num_some w g B v xs us K h hx 1 1 rfl e)
      have TK := Lib.hid (fun W v (h : Rd W g B v us) => take_no W g B v us h K (by omega) (by omega))
      have HK := Lib.hid hk
      clear h e hk hr hle
      go_enter Try.func93, Try.ntmps93
      go_wp2_with (first
        | (go_at_call 88; (with_reducible refine NS.out.mono ?_); rintro e w1 ⟨rfl, ⟨v1, r1⟩, f1⟩; have R1 := Lib.hid r1; have F1 := Lib.hid f1; clear r1 f1)
        | (go_at_call 92; (with_reducible refine (TK.out _ _ R1.out).mono ?_); rintro e w2 ⟨rfl, rfl⟩))
      exact ⟨rfl, rfl, F1.out⟩
end Go.Proofs.Yteggcehjpfmikaa.Rec
