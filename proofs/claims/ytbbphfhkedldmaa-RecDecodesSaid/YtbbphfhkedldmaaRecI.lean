import Derived.Test.YtbbphfhkedldmaaRecF
import Derived.Test.YtbbphfhkedldmaaRecH
/- A record as bytes. -/
namespace Go.Proofs.Ytbbphfhkedldmaa.Rec
open Go.ChangeShapes Go.WideShapes Go.ChangeAt Go.RowKit Go.IntWalk Go.Proofs.NumMath Go.Proofs.Mem Go.Proofs.CrcMath NumBytes CrcA
set_option linter.unusedVariables false
set_option linter.unusedSimpArgs false
def bodyS (r : Rc) : List Int := putS r.k 1 ++ putS r.t 4 ++ putS r.p 8 ++ putS r.n 8 ++ (if r.k = 2 ∨ r.k = 3 then chgS r.c else []) ++ (if r.k = 8 then tabS r.ts r.ds else [])
def encS (r : Rc) : List Int := putS (6 + (bodyS r).length) 2 ++ putS (tn (sumF 0#32 (bodyS r))) 4 ++ bodyS r
theorem enc_len (r : Rc) : (encS r).length = 6 + (bodyS r).length := by simp [encS, putS_len]; omega
theorem chg_len (c : Cg) : (chgS c).length = 9 + c.xs.length + c.ys.length := by simp [chgS, putS_len]; omega
theorem tab_len (ts : List Ac) (ds : List Dt) : (tabS ts ds).length = 2 + 21 * ts.length + 12 * ds.length := by simp [tabS, putS_len, acs_len, dts_len]; omega
theorem acs_bytes (l : List Ac) : Bytes (acsS l) := fun x hx => by
  obtain ⟨a, _, h⟩ := List.mem_flatMap.1 hx
  exact ((((putS_bytes _ _).app (putS_bytes _ _)).app (putS_bytes _ _)).app (putS_bytes _ _)) x h
theorem dts_bytes (l : List Dt) : Bytes (dtsS l) := fun x hx => by
  obtain ⟨a, _, h⟩ := List.mem_flatMap.1 hx
  exact ((putS_bytes _ _).app (putS_bytes _ _)) x h
theorem body_bytes (r : Rc) (hr : r.Ok) : Bytes (bodyS r) := by
  have hx := hr.2.2.2.2.1.2.2
  unfold bodyS
  refine ((((putS_bytes _ _).app (putS_bytes _ _)).app (putS_bytes _ _)).app (putS_bytes _ _)).app ?_ |>.app ?_
  · split
    · exact ((((((putS_bytes _ _).app (putS_bytes _ _)).app (putS_bytes _ _)).app (putS_bytes _ _)).app hx.1).app (putS_bytes _ _)).app hx.2
    · exact Bytes.nil
  · split
    · exact (((putS_bytes _ _).app (acs_bytes _)).app (putS_bytes _ _)).app (dts_bytes _)
    · exact Bytes.nil
theorem enc_bytes (r : Rc) (hr : r.Ok) : Bytes (encS r) := ((putS_bytes _ _).app (putS_bytes _ _)).app (body_bytes r hr)
structure MayL (r : Rc) : Prop where
  k : 1 ≤ r.k ∧ r.k ≤ 8
  ts : r.ts.length ≤ 64
  ds : r.ds.length ≤ 64
  xs : r.c.xs.length ≤ 64
  ys : r.c.ys.length ≤ 64
theorem may_lens (r : Rc) (h : mayS r = true) : MayL r := by
  simp only [mayS, mayF, sideB, Bool.and_eq_true, Bool.not_eq_true', decide_eq_false_iff_not, decide_eq_true_eq] at h
  exact ⟨by omega, by omega, by omega, by omega, by omega⟩
theorem body_len (r : Rc) (h : MayL r) : 21 ≤ (bodyS r).length ∧ (bodyS r).length ≤ 21 + 9 + 128 + 2 + 33 * 64 := by
  obtain ⟨_, h1, h2, h3, h4⟩ := h
  unfold bodyS
  simp only [List.length_append, putS_len]
  split <;> split <;> simp only [chg_len, tab_len, List.length_nil] <;> omega
set_option maxRecDepth 100000 in
set_option maxHeartbeats 4000000 in
theorem encode_no (r : Rc) (hm : mayS r = false) (a b ta da : Value) (w : World) (B : Nat) (hB : B ≤ w.heap.size) (h : RcIn w B r a b ta da) :
    Calls Try.prog 12 #[.agg (rcV r a b ta da)] w fun e w' => e = .returned (.tuple #[.slice none 0 0, .int .u16 61]) ∧ Below w.heap.size w w' := by
  have MB := fun W (h : RcIn W B r a b ta da) (hW : B ≤ W.heap.size) => Lib.hid (may_any r a b ta da W B hW h)
  rw [hm] at MB
  have R := Lib.hid (h.alloc hB (.cells (rcV r a b ta da) 31))
  obtain ⟨A1, c1, rfl, _, _⟩ := h.a.form
  obtain ⟨A2, c2, rfl, _, _⟩ := h.b.form
  obtain ⟨A3, c3, rfl, _, _⟩ := h.t.form
  obtain ⟨A4, c4, rfl, _, _⟩ := h.d.form
  clear h hm
  go_enter Try.func12, Try.ntmps12
  go_wp2_with fail
  (with_reducible refine (MB _ R.out (by simp; omega)).out.mono ?_)
  rintro e w1 ⟨rfl, hb1⟩
  have HB1 := Lib.hid hb1
  clear hb1
  go_wp2
  go_ret2
  exact ⟨rfl, step_ (new_ (Below.refl _ _) _) HB1.out⟩
set_option maxRecDepth 100000 in
set_option maxHeartbeats 16000000 in
theorem encode_yes (r : Rc) (hr : r.Ok) (hm : mayS r = true) (a b ta da : Value) (w : World) (B : Nat) (hB : B ≤ w.heap.size) (h : RcIn w B r a b ta da) :
    Calls Try.prog 12 #[.agg (rcV r a b ta da)] w fun e w' => ∃ u, e = .returned (.tuple #[u, .int .u16 0]) ∧ w'.ownsRow w.heap.size 5 1 u (encS r).length ((encS r).map (.int .u8)) ∧ Below w.heap.size w w' := by
  have ML := may_lens r hm
  obtain ⟨⟨k0, k1⟩, ⟨t0, t1⟩, ⟨p0, p1⟩, ⟨n0, n1⟩, hc, hts, hds⟩ := id hr
  have MB := fun W (h : RcIn W B r a b ta da) (hW : B ≤ W.heap.size) => Lib.hid (may_any r a b ta da W B hW h)
  rw [hm] at MB
  have wk := u64_wrap (x := r.k) (by omega) (by omega)
  have wt := u64_wrap (x := r.t) (by omega) (by omega)
  obtain ⟨zs, hzs⟩ : ∃ zs, zs = bodyS r := ⟨_, rfl⟩
  have hzb := body_bytes r hr
  have hzl := body_len r ML
  rw [← hzs] at hzb hzl
  obtain ⟨Z, hZ⟩ : ∃ Z, Z = zs.length := ⟨_, rfl⟩
  rw [← hZ] at hzl
  have wZ := u64_wrap (x := 6 + (Z : Int)) (by omega) (by omega)
  obtain ⟨C, hC⟩ : ∃ C, C = tn (sumF 0#32 zs) := ⟨_, rfl⟩
  have hCb := tn_bd (sumF 0#32 zs)
  rw [← hC] at hCb
  have wC := u64_wrap (x := C) (by omega) (by omega)
  have henc : encS r = putS (6 + Z) 2 ++ putS C 4 ++ zs := by rw [hC, hZ, hzs]; rfl
  have CH := fun W => Lib.hid (changes_any r.k W)
  obtain ⟨qc, hqc⟩ : ∃ q, q = (decide (r.k = 2) || decide (r.k = 3)) := ⟨_, rfl⟩
  obtain ⟨q8, hq8⟩ : ∃ q, q = decide (r.k = 8) := ⟨_, rfl⟩
  have d8 : (r.k == 8) = q8 := by rw [hq8, beq_dec]
  have hbody : zs = putS r.k 1 ++ putS r.t 4 ++ putS r.p 8 ++ putS r.n 8 ++ (if qc = true then chgS r.c else []) ++ (if q8 = true then tabS r.ts r.ds else []) := by rw [hzs, bodyS, hqc, hq8]; simp
  have hnot : ¬ (qc = true ∧ q8 = true) := by rw [hqc, hq8]; simp; omega
  rw [← hqc] at CH
  have N1 := Lib.hid (fun W g v (h : Wr W g v []) => number_w W g v [] h (by simp) r.k 1 1 rfl k0 (by omega) (by decide) (by decide))
  have N2 := Lib.hid (fun W g v (h : Wr W g v (putS r.k 1)) => number_w W g v _ h (by simp [putS_len]) r.t 4 4 rfl t0 (by omega) (by decide) (by decide))
  have N3 := Lib.hid (fun W g v (h : Wr W g v (putS r.k 1 ++ putS r.t 4)) => number_w W g v _ h (by simp [putS_len]) r.p 8 8 rfl p0 (by omega) (by decide) (by decide))
  have N4 := Lib.hid (fun W g v (h : Wr W g v (putS r.k 1 ++ putS r.t 4 ++ putS r.p 8)) => number_w W g v _ h (by simp [putS_len]) r.n 8 8 rfl n0 (by omega) (by decide) (by decide))
  have CG := Lib.hid (fun W g v (h : Wr W g v (putS r.k 1 ++ putS r.t 4 ++ putS r.p 8 ++ putS r.n 8)) (hi : RcIn W B r a b ta da) (hg : B ≤ g) => wchange_any W g B v a b _ r.c hc h (by simp [putS_len]) hi.a hi.b hg (by have := ML.xs; omega) (by have := ML.ys; omega))
  have TB := Lib.hid (fun W g v (h : Wr W g v (putS r.k 1 ++ putS r.t 4 ++ putS r.p 8 ++ putS r.n 8)) (hi : RcIn W B r a b ta da) (hg : B ≤ g) => tables_any W g B v ta da _ r.ts r.ds hts hds h (by simp [putS_len]) hi.t hi.d hg (by have := ML.ts; omega) (by have := ML.ds; omega))
  have PA := fun W => Lib.hid (by have h := put_any (6 + (Z : Int)) 2 (by omega) (by omega) (by decide) (by decide) W; rw [show (2 : Int).toNat = 2 from rfl] at h; exact h)
  have PB := fun W => Lib.hid (by have h := put_any C 4 (by omega) (by omega) (by decide) (by decide) W; rw [show (4 : Int).toNat = 4 from rfl] at h; exact h)
  have SU : ∀ (W : World) v (h : IR W W.heap.size .u8 v zs), Calls Try.prog 27 #[.slice (some ⟨W.heap.size, 0, none⟩) 1 1] (W.alloc (.cells #[v] 25)) fun e w' => e = .returned (.int .u32 C) ∧ W.alloc (.cells #[v] 25) = w' := fun W v h => by rw [hC]; exact sum_one v _ W h hzb
  have CO : ∀ (W : World) a b c (ha : IR W W.heap.size .u8 a (putS (6 + Z) 2)) (hb : IR W W.heap.size .u8 b (putS C 4)) (hc : IR W W.heap.size .u8 c zs),
      Calls Try.prog 28 #[.slice (some ⟨W.heap.size, 0, none⟩) 3 3] (W.alloc (.cells #[a, b, c] 52)) fun e w' => ∃ u, e = .returned u ∧ w'.ownsRow (W.heap.size + 1) 5 1 u (encS r).length ((encS r).map (.int .u8)) ∧ Below W.heap.size W w' := fun W a b c ha hb hc => by
    have hf : flat [(a, putS (6 + Z) 2), (b, putS C 4), (c, zs)] = encS r := by rw [henc]; simp [flat]
    have hl : (encS r).length = 6 + Z := by rw [henc, hZ]; simp [putS_len]; omega
    have h := concat_any _ _ _ _ (SR.lit W [(a, putS (6 + Z) 2), (b, putS C 4), (c, zs)] 52 W.heap.size W.heap.size rfl (Nat.le_refl _) (by simp) (by
      intro q hq
      simp only [List.mem_cons, List.not_mem_nil, or_false] at hq
      rcases hq with rfl | rfl | rfl
      · exact ⟨ha, putS_bytes _ _⟩
      · exact ⟨hb, putS_bytes _ _⟩
      · exact ⟨hc, hzb⟩)) (by simp) (by rw [hf, hl]; omega) (by rw [hf, hl]; omega)
    rw [hf] at h
    refine h.mono ?_
    rintro e w' ⟨u, rfl, h1, h2⟩
    refine ⟨u, rfl, by simpa using h1, (new_ (Below.refl W.heap.size W) _).trans (h2.mono (by simp))⟩
  have CO := Lib.hid CO
  have SU := Lib.hid SU
  have HBD := Lib.hid hbody
  have HNO := Lib.hid hnot
  have HZ := Lib.hid hZ
  have HB := Lib.hid hB
  have R := Lib.hid (h.alloc hB (.cells (rcV r a b ta da) 31))
  obtain ⟨A1, c1, rfl, _, _⟩ := h.a.form
  obtain ⟨A2, c2, rfl, _, _⟩ := h.b.form
  obtain ⟨A3, c3, rfl, _, _⟩ := h.t.form
  obtain ⟨A4, c4, rfl, _, _⟩ := h.d.form
  have BX := Lib.hid (Box.new w (rcV r (.slice A1 r.c.xs.length c1) (.slice A2 r.c.ys.length c2) (.slice A3 r.ts.length c3) (.slice A4 r.ds.length c4)) 31)
  have HW0 := Lib.hid (new_ (Below.refl w.heap.size w) (.cells (rcV r (.slice A1 r.c.xs.length c1) (.slice A2 r.c.ys.length c2) (.slice A3 r.ts.length c3) (.slice A4 r.ds.length c4)) 31))
  clear hC hZ hzs hzb hCb hqc hq8 hbody hnot henc hm ML hr hc hts hds h k0 k1 t0 t1 p0 p1 n0 n1
  go_enter Try.func12, Try.ntmps12
  go_wp2_with fail
  (with_reducible refine (MB _ R.out (by have := HB.out; simp; omega)).out.mono ?_)
  rintro e w1 ⟨rfl, hb1⟩
  have B1 := Lib.hid ((BX.out.later hb1).alloc (.cells #[.slice none 0 0] 52))
  have HB1 := Lib.hid (new_ (step_ HW0.out hb1) (.cells #[.slice none 0 0] 52))
  have L1 : Hid (w.heap.size < w1.heap.size) := Lib.hid (BX.out.later hb1).lt
  have R1 := Lib.hid ((R.out.below (hb1.mono (by have := HB.out; simp; omega))).alloc (by have := HB.out; have := L1.out; omega) (.cells #[.slice none 0 0] 52))
  have U0 : Hid (Wr (w1.alloc (.cells #[.slice none 0 0] 52)) w1.heap.size (.slice none 0 0) []) := Lib.hid ⟨Box.new _ _ _, World.ownsRow_nil _ _ _ _, by simp⟩
  have kkA := B1.out.cell
  obtain ⟨g, hg⟩ : ∃ g, g = w1.heap.size := ⟨_, rfl⟩
  obtain ⟨wa, hwa⟩ : ∃ wa, w1.alloc (.cells #[.slice none 0 0] 52) = wa := ⟨_, rfl⟩
  rw [hwa] at B1 HB1 R1 U0
  rw [← hg] at L1 U0
  have GG := Lib.hid (show B ≤ g by have := HB.out; have := L1.out; omega)
  have HWA := Lib.hid hwa
  have HG := Lib.hid hg
  have kk0 := B1.out.cell
  have NB : Hid (∀ (v : Value) W, WrTo wa W g (.slice none 0 0) v → Below g wa W) := Lib.hid (fun v W ht => ht.below U0.out)
  clear hb1 hwa hg
  go_wp2_with fail
  rw [HWA.out, ← HG.out]
  clear kkA
  (with_reducible refine (N1.out _ _ _ U0.out).mono ?_)
  rintro e x1 ⟨rfl, u1_, wr_, t_⟩
  have T1 := Lib.hid (t_)
  have U1 := Lib.hid wr_
  have kk1 := (B1.out.below (NB.out _ _ T1.out) L1.out).cell
  clear wr_ t_ kk0
  rw [List.nil_append] at U1
  go_wp2_with fail
  (with_reducible refine (N2.out _ _ _ U1.out).mono ?_)
  rintro e x2 ⟨rfl, u2_, wr_, t_⟩
  have T2 := Lib.hid (T1.out.trans t_)
  have U2 := Lib.hid wr_
  have kk2 := (B1.out.below (NB.out _ _ T2.out) L1.out).cell
  clear wr_ t_ kk1
  go_wp2_with fail
  (with_reducible refine (N3.out _ _ _ U2.out).mono ?_)
  rintro e x3 ⟨rfl, u3_, wr_, t_⟩
  have T3 := Lib.hid (T2.out.trans t_)
  have U3 := Lib.hid wr_
  have kk3 := (B1.out.below (NB.out _ _ T3.out) L1.out).cell
  clear wr_ t_ kk2
  go_wp2_with fail
  (with_reducible refine (N4.out _ _ _ U3.out).mono ?_)
  rintro e x4 ⟨rfl, u4_, wr_, t_⟩
  have T4 := Lib.hid (T3.out.trans t_)
  have U4 := Lib.hid wr_
  have kk4 := (B1.out.below (NB.out _ _ T4.out) L1.out).cell
  clear wr_ t_ kk3
  go_wp2_with fail
  (with_reducible refine (CH _).out.mono ?_)
  rintro e x5 ⟨rfl, rfl⟩
  have R4 := Lib.hid (R1.out.below ((NB.out _ _ T4.out).mono GG.out))
  cases qc
  · cases q8
    · have UF := Lib.hid (show Wr x4 g u4_ zs by have := U4.out; rw [HBD.out]; simpa using this)
      have HXN := Lib.hid (HB1.out.trans ((NB.out _ _ T4.out).mono (Nat.le_of_lt L1.out)))
      obtain ⟨A9, c9, e9, hl9, hm9⟩ := UF.out.ir.form
      rw [← HZ.out] at e9 hl9
      subst e9
      unfold maxLen at hm9
      have kk9 := UF.out.box.cell
      go_wp2_with fail
      (with_reducible refine (PA _).out.mono ?_)
      rintro e y7 ⟨v7, rfl, hp7, hb7⟩
      obtain ⟨A7, c7, rfl, hl7, hm7⟩ := (IR.of_own hp7).form
      rw [putS_len] at hl7
      rw [putS_len]
      have O7 := Lib.hid hp7
      have W7 := Lib.hid (UF.out.later hb7)
      have HB7 := Lib.hid hb7
      have kk10 := W7.out.box.cell
      have S7 := Lib.hid (SU.out y7 _ W7.out.ir)
      clear hp7 hb7 kk9 kk4
      go_wp2_with fail
      (with_reducible refine S7.out.mono ?_)
      rintro e y8 ⟨rfl, rfl⟩
      go_wp2_with fail
      (with_reducible refine (PB _).out.mono ?_)
      rintro e y9 ⟨v9, rfl, hp9, hb9⟩
      obtain ⟨A10, c10, rfl, hl10, hm10⟩ := (IR.of_own hp9).form
      rw [putS_len] at hl10
      rw [putS_len]
      have hb9' : Below y7.heap.size y7 y9 := (new_ (Below.refl y7.heap.size y7) (.cells #[.slice A9 Z c9] 25)).trans (hb9.mono (by simp))
      have W9 := Lib.hid (W7.out.later hb9')
      have O9 := Lib.hid (own_below O7.out hb9')
      have HB9 := Lib.hid (step_ (step_ HXN.out HB7.out) hb9')
      have kk11 := W9.out.box.cell
      have CC := Lib.hid (CO.out y9 _ _ _ (IR.of_own O9.out) (IR.of_own hp9) W9.out.ir)
      rw [putS_len, putS_len] at CC
      clear hp9 hb9 hb9' kk10
      go_wp2_with fail
      (with_reducible refine CC.out.mono ?_)
      rintro e y10 ⟨u, rfl, hu, hb10⟩
      have HU := Lib.hid hu
      have HB10 := Lib.hid hb10
      clear hu hb10
      go_wp2
      go_ret2
      exact ⟨_, rfl, own_lower HU.out (Nat.le_succ_of_le HB9.out.size), step_ HB9.out HB10.out⟩
    · go_wp2_with fail
      (with_reducible refine (TB.out _ _ _ U4.out R4.out GG.out).mono ?_)
      rintro e x6 ⟨rfl, u6_, wr_, t_⟩
      have T6 := Lib.hid (T4.out.trans t_)
      have U6 := Lib.hid wr_
      have kk6 := (B1.out.below (NB.out _ _ T6.out) L1.out).cell
      clear wr_ t_ kk4
      have UF := Lib.hid (show Wr x6 g u6_ zs by have := U6.out; rw [HBD.out]; simpa using this)
      have HXN := Lib.hid (HB1.out.trans ((NB.out _ _ T6.out).mono (Nat.le_of_lt L1.out)))
      obtain ⟨A9, c9, e9, hl9, hm9⟩ := UF.out.ir.form
      rw [← HZ.out] at e9 hl9
      subst e9
      unfold maxLen at hm9
      have kk9 := UF.out.box.cell
      go_wp2_with fail
      (with_reducible refine (PA _).out.mono ?_)
      rintro e y7 ⟨v7, rfl, hp7, hb7⟩
      obtain ⟨A7, c7, rfl, hl7, hm7⟩ := (IR.of_own hp7).form
      rw [putS_len] at hl7
      rw [putS_len]
      have O7 := Lib.hid hp7
      have W7 := Lib.hid (UF.out.later hb7)
      have HB7 := Lib.hid hb7
      have kk10 := W7.out.box.cell
      have S7 := Lib.hid (SU.out y7 _ W7.out.ir)
      clear hp7 hb7 kk9 kk6
      go_wp2_with fail
      (with_reducible refine S7.out.mono ?_)
      rintro e y8 ⟨rfl, rfl⟩
      go_wp2_with fail
      (with_reducible refine (PB _).out.mono ?_)
      rintro e y9 ⟨v9, rfl, hp9, hb9⟩
      obtain ⟨A10, c10, rfl, hl10, hm10⟩ := (IR.of_own hp9).form
      rw [putS_len] at hl10
      rw [putS_len]
      have hb9' : Below y7.heap.size y7 y9 := (new_ (Below.refl y7.heap.size y7) (.cells #[.slice A9 Z c9] 25)).trans (hb9.mono (by simp))
      have W9 := Lib.hid (W7.out.later hb9')
      have O9 := Lib.hid (own_below O7.out hb9')
      have HB9 := Lib.hid (step_ (step_ HXN.out HB7.out) hb9')
      have kk11 := W9.out.box.cell
      have CC := Lib.hid (CO.out y9 _ _ _ (IR.of_own O9.out) (IR.of_own hp9) W9.out.ir)
      rw [putS_len, putS_len] at CC
      clear hp9 hb9 hb9' kk10
      go_wp2_with fail
      (with_reducible refine CC.out.mono ?_)
      rintro e y10 ⟨u, rfl, hu, hb10⟩
      have HU := Lib.hid hu
      have HB10 := Lib.hid hb10
      clear hu hb10
      go_wp2
      go_ret2
      exact ⟨_, rfl, own_lower HU.out (Nat.le_succ_of_le HB9.out.size), step_ HB9.out HB10.out⟩
  · have hq0 : q8 = false := by have := HNO.out; simpa using this
    subst hq0
    go_wp2_with fail
    (with_reducible refine (CG.out _ _ _ U4.out R4.out GG.out).mono ?_)
    rintro e x6 ⟨rfl, u6_, wr_, t_⟩
    have T6 := Lib.hid (T4.out.trans t_)
    have U6 := Lib.hid wr_
    have kk6 := (B1.out.below (NB.out _ _ T6.out) L1.out).cell
    clear wr_ t_ kk4
    have UF := Lib.hid (show Wr x6 g u6_ zs by have := U6.out; rw [HBD.out]; simpa using this)
    have HXN := Lib.hid (HB1.out.trans ((NB.out _ _ T6.out).mono (Nat.le_of_lt L1.out)))
    obtain ⟨A9, c9, e9, hl9, hm9⟩ := UF.out.ir.form
    rw [← HZ.out] at e9 hl9
    subst e9
    unfold maxLen at hm9
    have kk9 := UF.out.box.cell
    go_wp2_with fail
    (with_reducible refine (PA _).out.mono ?_)
    rintro e y7 ⟨v7, rfl, hp7, hb7⟩
    obtain ⟨A7, c7, rfl, hl7, hm7⟩ := (IR.of_own hp7).form
    rw [putS_len] at hl7
    rw [putS_len]
    have O7 := Lib.hid hp7
    have W7 := Lib.hid (UF.out.later hb7)
    have HB7 := Lib.hid hb7
    have kk10 := W7.out.box.cell
    have S7 := Lib.hid (SU.out y7 _ W7.out.ir)
    clear hp7 hb7 kk9 kk6
    go_wp2_with fail
    (with_reducible refine S7.out.mono ?_)
    rintro e y8 ⟨rfl, rfl⟩
    go_wp2_with fail
    (with_reducible refine (PB _).out.mono ?_)
    rintro e y9 ⟨v9, rfl, hp9, hb9⟩
    obtain ⟨A10, c10, rfl, hl10, hm10⟩ := (IR.of_own hp9).form
    rw [putS_len] at hl10
    rw [putS_len]
    have hb9' : Below y7.heap.size y7 y9 := (new_ (Below.refl y7.heap.size y7) (.cells #[.slice A9 Z c9] 25)).trans (hb9.mono (by simp))
    have W9 := Lib.hid (W7.out.later hb9')
    have O9 := Lib.hid (own_below O7.out hb9')
    have HB9 := Lib.hid (step_ (step_ HXN.out HB7.out) hb9')
    have kk11 := W9.out.box.cell
    have CC := Lib.hid (CO.out y9 _ _ _ (IR.of_own O9.out) (IR.of_own hp9) W9.out.ir)
    rw [putS_len, putS_len] at CC
    clear hp9 hb9 hb9' kk10
    go_wp2_with fail
    (with_reducible refine CC.out.mono ?_)
    rintro e y10 ⟨u, rfl, hu, hb10⟩
    have HU := Lib.hid hu
    have HB10 := Lib.hid hb10
    clear hu hb10
    go_wp2
    go_ret2
    exact ⟨_, rfl, own_lower HU.out (Nat.le_succ_of_le HB9.out.size), step_ HB9.out HB10.out⟩
end Go.Proofs.Ytbbphfhkedldmaa.Rec
