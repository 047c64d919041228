import Derived.Test.YtbbphfhkedldmaaRecI
/- The document's change as bytes. -/
namespace Go.Proofs.Ytbbphfhkedldmaa.Rec
open Go.ChangeShapes Go.WideShapes Go.ChangeAt Go.RowKit Go.IntWalk Go.Proofs.NumMath Go.Proofs.Mem Go.Proofs.CrcMath NumBytes CrcA
set_option linter.unusedVariables false
set_option linter.unusedSimpArgs false
theorem put_one {x : Int} (h : 0 ≤ x ∧ x ≤ 255) : putS x 1 = [x] := by
  simp [putS, List.range_succ]; omega
theorem u8_wrap' {x : Int} (h0 : 0 ≤ x) (h1 : x ≤ 255) : IntKind.u8.wrap x = x := by
  rw [show IntKind.u8.wrap x = x % 256 from rfl]; omega
theorem put_ref_w (n K : Int) (k : Nat) (hK : K = (k : Int)) (h0 : 0 ≤ n) (h1 : n ≤ 18446744073709551615) (h2 : 1 ≤ k) (h3 : k ≤ 8) (w : World) :
    Calls Try.prog 30 #[.int .u64 n, .int .i64 K] w fun e w' => ∃ v, e = .returned v ∧ w'.ownsRow w.heap.size 5 1 v k ((putS n k).map (.int .u8)) ∧ Below w.heap.size w w' := by
  subst hK
  refine (put_ref n k h0 h1 (by omega) (by omega) w).mono ?_
  rintro e w' ⟨v, rfl, h, hb⟩
  rw [Int.toNat_natCast] at h
  exact ⟨v, rfl, h, hb⟩
set_option maxRecDepth 100000 in
set_option maxHeartbeats 16000000 in
theorem change_ref (c : Cg) (hc : c.Ok) (a b : Value) (w : World) (ha : IR w w.heap.size .u8 a c.xs) (hb : IR w w.heap.size .u8 b c.ys) (hx : c.xs.length ≤ 64) (hy : c.ys.length ≤ 64) :
    Calls Try.prog 31 #[.agg (cgC c.pg c.sl c.had c.has a b)] w fun e w' => ∃ u, e = .returned u ∧ w'.ownsRow w.heap.size 5 1 u (chgS c).length ((chgS c).map (.int .u8)) ∧ Below w.heap.size w w' := by
  obtain ⟨⟨pa, pb⟩, ⟨sa, sb⟩, hbx, hby⟩ := hc
  obtain ⟨i0, hi0, hz0, hz1, hz2⟩ := info_parts u8_info
  obtain ⟨pg, sl, had, has, cx, cy⟩ := c
  simp only at pa pb sa sb ha hb hx hy hbx hby ⊢
  obtain ⟨X, hX⟩ : ∃ n, n = cx.length := ⟨_, rfl⟩
  obtain ⟨Y, hY⟩ : ∃ n, n = cy.length := ⟨_, rfl⟩
  have e1 := u64_wrap (x := pg) (by omega) (by omega)
  have e2 := u64_wrap (x := sl) (by omega) (by omega)
  have e3 := u8_wrap' (x := (X : Int)) (by omega) (by omega)
  have e4 := u8_wrap' (x := (Y : Int)) (by omega) (by omega)
  obtain ⟨f, hf⟩ : ∃ f, f = flagS had has := ⟨_, rfl⟩
  have hf0 : 0 ≤ f ∧ f ≤ 3 := by rw [hf]; cases had <;> cases has <;> decide
  have hs : chgS ⟨pg, sl, had, has, cx, cy⟩ = putS pg 4 ++ putS sl 2 ++ [f, (X : Int)] ++ cx ++ [(Y : Int)] ++ cy := by
    rw [chgS, ← hf, ← hX, ← hY, put_one (x := f) (by omega), put_one (x := (X : Int)) (by omega), put_one (x := (Y : Int)) (by omega)]; simp
  have P1 := fun W => Lib.hid (put_ref_w pg 4 4 rfl pa (by omega) (by decide) (by decide) W)
  have P2 := fun W => Lib.hid (put_ref_w sl 2 2 rfl sa (by omega) (by decide) (by decide) W)
  obtain ⟨A1, c1, rfl, hl1, hm1⟩ := ha.form
  obtain ⟨A2, c2, rfl, hl2, hm2⟩ := hb.form
  unfold maxLen at hm1 hm2
  rw [← hX] at ha hl1 hx ⊢
  rw [← hY] at hb hl2 hy ⊢
  have BX0 := Lib.hid (Box.new w (cgC pg sl had has (.slice A1 X c1) (.slice A2 Y c2)) 27)
  have HW0 := Lib.hid (new_ (Below.refl w.heap.size w) (.cells (cgC pg sl had has (.slice A1 X c1) (.slice A2 Y c2)) 27))
  have IA := Lib.hid ha
  have IB := Lib.hid hb
  have HS := Lib.hid hs
  have HX := Lib.hid hX
  have HY := Lib.hid hY
  rw [HS.out]
  clear ha hb hs hX hY hf0
  cases had <;> cases has
  · simp only [flagS, Bool.false_eq_true, if_false, if_true, Int.zero_add, Int.add_zero, Int.reduceAdd] at hf
    subst hf
    go_enter Try.func31, Try.ntmps31
    go_wp2_with (first
      | (go_at_call 30; (with_reducible refine (P1 _).out.mono ?_); rintro e y1 ⟨u1, rfl, ou1, hb1⟩
         have BX1 := Lib.hid (BX0.out.later hb1)
         have kBX1 := BX1.out.cell
         have HW1 := Lib.hid (step_ HW0.out hb1)
         have ou1x := (show y1.ownsRow _ 5 1 u1 (putS (pg) 4).length ((putS (pg) 4).map (.int .u8)) by rw [putS_len]; exact ou1)
         have O1 := Lib.hid (own_lower ou1x (base' := w.heap.size + 1) (by simp))
         clear ou1 ou1x hb1)
      | (go_at_call 30; (with_reducible refine (P2 _).out.mono ?_); rintro e y2 ⟨u2, rfl, ou2, hb2⟩
         have BX2 := Lib.hid (BX1.out.later hb2)
         have kBX2 := BX2.out.cell
         have HW2 := Lib.hid (step_ HW1.out hb2)
         have O2 := Lib.hid (own_below O1.out hb2)
         have I2 := Lib.hid (IR.of_own ou2)
         clear ou2 hb2 kBX1)
      | (at_builtin; refine wpList_append_all _ rfl _ _ _ rfl (w.heap.size + 1) 5 i0 .u8 1 Try.underlying25 hi0 hz0 hz1 hz2 u1 _ (putS pg 4) rfl O2.out _ u2 ((putS sl 2)) rfl I2.out (by have := HX.out; have := HY.out; simp only [maxLen, List.length_append, putS_len, List.length_cons, List.length_nil];  omega) (by have := HX.out; have := HY.out; simp only [List.length_append, putS_len, List.length_cons, List.length_nil];  omega) (show w.heap.size + 1 ≤ _ from BX2.out.lt) ?_; intro v3 y3 hown hb
         have BX3 := Lib.hid (BX2.out.below hb (Nat.lt_succ_self _))
         have kBX3 := BX3.out.cell
         have HW3 := Lib.hid (HW2.out.trans (hb.mono (Nat.le_succ _)))
         have O3 := Lib.hid (show y3.ownsRow (w.heap.size + 1) 5 1 v3 (putS pg 4 ++ (putS sl 2)).length ((putS pg 4 ++ (putS sl 2)).map (.int .u8)) by rw [List.length_append]; exact hown)
         clear hown hb kBX2)
      | (at_builtin; refine wpList_append_all _ rfl _ _ _ rfl (w.heap.size + 1) 5 i0 .u8 1 Try.underlying25 hi0 hz0 hz1 hz2 v3 _ ((putS pg 4 ++ (putS sl 2))) rfl (own_below O3.out (new_ (Below.refl _ _) (.cells #[.int .u8 0, .int .u8 (X : Int)] 5))) _ (.slice (some ⟨y3.heap.size, 0, none⟩) 2 2) ([0, (X : Int)]) rfl (IR.lit y3 .u8 [0, (X : Int)] 5 (by simp)) (by have := HX.out; have := HY.out; simp only [maxLen, List.length_append, putS_len, List.length_cons, List.length_nil];  omega) (by have := HX.out; have := HY.out; simp only [List.length_append, putS_len, List.length_cons, List.length_nil];  omega) (by have := BX3.out.lt; simp; omega) ?_; intro v4 y4 hown hb
         have BX4 := Lib.hid ((BX3.out.alloc (.cells #[.int .u8 0, .int .u8 (X : Int)] 5)).below hb (Nat.lt_succ_self _))
         have kBX4 := BX4.out.cell
         have HW4 := Lib.hid ((new_ HW3.out (.cells #[.int .u8 0, .int .u8 (X : Int)] 5)).trans (hb.mono (Nat.le_succ _)))
         have O4 := Lib.hid (show y4.ownsRow (w.heap.size + 1) 5 1 v4 ((putS pg 4 ++ (putS sl 2)) ++ [0, (X : Int)]).length (((putS pg 4 ++ (putS sl 2)) ++ [0, (X : Int)]).map (.int .u8)) by rw [List.length_append]; exact hown)
         clear hown hb kBX3)
      | (at_builtin; refine wpList_append_all _ rfl _ _ _ rfl (w.heap.size + 1) 5 i0 .u8 1 Try.underlying25 hi0 hz0 hz1 hz2 v4 _ (((putS pg 4 ++ (putS sl 2)) ++ [0, (X : Int)])) rfl O4.out _ (.slice A1 X c1) (cx) rfl (IA.out.below HW4.out) (by have := HX.out; have := HY.out; simp only [maxLen, List.length_append, putS_len, List.length_cons, List.length_nil];  omega) (by have := HX.out; have := HY.out; simp only [List.length_append, putS_len, List.length_cons, List.length_nil];  omega) (show w.heap.size + 1 ≤ _ from BX4.out.lt) ?_; intro v5 y5 hown hb
         have BX5 := Lib.hid (BX4.out.below hb (Nat.lt_succ_self _))
         have kBX5 := BX5.out.cell
         have HW5 := Lib.hid (HW4.out.trans (hb.mono (Nat.le_succ _)))
         have O5 := Lib.hid (show y5.ownsRow (w.heap.size + 1) 5 1 v5 (((putS pg 4 ++ (putS sl 2)) ++ [0, (X : Int)]) ++ cx).length ((((putS pg 4 ++ (putS sl 2)) ++ [0, (X : Int)]) ++ cx).map (.int .u8)) by rw [List.length_append]; exact hown)
         clear hown hb kBX4)
      | (at_builtin; refine wpList_append_all _ rfl _ _ _ rfl (w.heap.size + 1) 5 i0 .u8 1 Try.underlying25 hi0 hz0 hz1 hz2 v5 _ ((((putS pg 4 ++ (putS sl 2)) ++ [0, (X : Int)]) ++ cx)) rfl (own_below O5.out (new_ (Below.refl _ _) (.cells #[.int .u8 (Y : Int)] 5))) _ (.slice (some ⟨y5.heap.size, 0, none⟩) 1 1) ([(Y : Int)]) rfl (IR.lit y5 .u8 [(Y : Int)] 5 (by simp)) (by have := HX.out; have := HY.out; simp only [maxLen, List.length_append, putS_len, List.length_cons, List.length_nil];  omega) (by have := HX.out; have := HY.out; simp only [List.length_append, putS_len, List.length_cons, List.length_nil];  omega) (by have := BX5.out.lt; simp; omega) ?_; intro v6 y6 hown hb
         have BX6 := Lib.hid ((BX5.out.alloc (.cells #[.int .u8 (Y : Int)] 5)).below hb (Nat.lt_succ_self _))
         have kBX6 := BX6.out.cell
         have HW6 := Lib.hid ((new_ HW5.out (.cells #[.int .u8 (Y : Int)] 5)).trans (hb.mono (Nat.le_succ _)))
         have O6 := Lib.hid (show y6.ownsRow (w.heap.size + 1) 5 1 v6 ((((putS pg 4 ++ (putS sl 2)) ++ [0, (X : Int)]) ++ cx) ++ [(Y : Int)]).length (((((putS pg 4 ++ (putS sl 2)) ++ [0, (X : Int)]) ++ cx) ++ [(Y : Int)]).map (.int .u8)) by rw [List.length_append]; exact hown)
         clear hown hb kBX5)
      | (at_builtin; refine wpList_append_all _ rfl _ _ _ rfl (w.heap.size + 1) 5 i0 .u8 1 Try.underlying25 hi0 hz0 hz1 hz2 v6 _ (((((putS pg 4 ++ (putS sl 2)) ++ [0, (X : Int)]) ++ cx) ++ [(Y : Int)])) rfl O6.out _ (.slice A2 Y c2) (cy) rfl (IB.out.below HW6.out) (by have := HX.out; have := HY.out; simp only [maxLen, List.length_append, putS_len, List.length_cons, List.length_nil];  omega) (by have := HX.out; have := HY.out; simp only [List.length_append, putS_len, List.length_cons, List.length_nil];  omega) (show w.heap.size + 1 ≤ _ from BX6.out.lt) ?_; intro v7 y7 hown hb
         have BX7 := Lib.hid (BX6.out.below hb (Nat.lt_succ_self _))
         have kBX7 := BX7.out.cell
         have HW7 := Lib.hid (HW6.out.trans (hb.mono (Nat.le_succ _)))
         have O7 := Lib.hid (show y7.ownsRow (w.heap.size + 1) 5 1 v7 (((((putS pg 4 ++ (putS sl 2)) ++ [0, (X : Int)]) ++ cx) ++ [(Y : Int)]) ++ cy).length ((((((putS pg 4 ++ (putS sl 2)) ++ [0, (X : Int)]) ++ cx) ++ [(Y : Int)]) ++ cy).map (.int .u8)) by rw [List.length_append]; exact hown)
         clear hown hb kBX6))
    go_ret
    exact ⟨_, rfl, own_lower O7.out (Nat.le_succ _), HW7.out⟩
  · simp only [flagS, Bool.false_eq_true, if_false, if_true, Int.zero_add, Int.add_zero, Int.reduceAdd] at hf
    subst hf
    go_enter Try.func31, Try.ntmps31
    go_wp2_with (first
      | (go_at_call 30; (with_reducible refine (P1 _).out.mono ?_); rintro e y1 ⟨u1, rfl, ou1, hb1⟩
         have BX1 := Lib.hid (BX0.out.later hb1)
         have kBX1 := BX1.out.cell
         have HW1 := Lib.hid (step_ HW0.out hb1)
         have ou1x := (show y1.ownsRow _ 5 1 u1 (putS (pg) 4).length ((putS (pg) 4).map (.int .u8)) by rw [putS_len]; exact ou1)
         have O1 := Lib.hid (own_lower ou1x (base' := w.heap.size + 1) (by simp))
         clear ou1 ou1x hb1)
      | (go_at_call 30; (with_reducible refine (P2 _).out.mono ?_); rintro e y2 ⟨u2, rfl, ou2, hb2⟩
         have BX2 := Lib.hid (BX1.out.later hb2)
         have kBX2 := BX2.out.cell
         have HW2 := Lib.hid (step_ HW1.out hb2)
         have O2 := Lib.hid (own_below O1.out hb2)
         have I2 := Lib.hid (IR.of_own ou2)
         clear ou2 hb2 kBX1)
      | (at_builtin; refine wpList_append_all _ rfl _ _ _ rfl (w.heap.size + 1) 5 i0 .u8 1 Try.underlying25 hi0 hz0 hz1 hz2 u1 _ (putS pg 4) rfl O2.out _ u2 ((putS sl 2)) rfl I2.out (by have := HX.out; have := HY.out; simp only [maxLen, List.length_append, putS_len, List.length_cons, List.length_nil];  omega) (by have := HX.out; have := HY.out; simp only [List.length_append, putS_len, List.length_cons, List.length_nil];  omega) (show w.heap.size + 1 ≤ _ from BX2.out.lt) ?_; intro v3 y3 hown hb
         have BX3 := Lib.hid (BX2.out.below hb (Nat.lt_succ_self _))
         have kBX3 := BX3.out.cell
         have HW3 := Lib.hid (HW2.out.trans (hb.mono (Nat.le_succ _)))
         have O3 := Lib.hid (show y3.ownsRow (w.heap.size + 1) 5 1 v3 (putS pg 4 ++ (putS sl 2)).length ((putS pg 4 ++ (putS sl 2)).map (.int .u8)) by rw [List.length_append]; exact hown)
         clear hown hb kBX2)
      | (at_builtin; refine wpList_append_all _ rfl _ _ _ rfl (w.heap.size + 1) 5 i0 .u8 1 Try.underlying25 hi0 hz0 hz1 hz2 v3 _ ((putS pg 4 ++ (putS sl 2))) rfl (own_below O3.out (new_ (Below.refl _ _) (.cells #[.int .u8 2, .int .u8 (X : Int)] 5))) _ (.slice (some ⟨y3.heap.size, 0, none⟩) 2 2) ([2, (X : Int)]) rfl (IR.lit y3 .u8 [2, (X : Int)] 5 (by simp)) (by have := HX.out; have := HY.out; simp only [maxLen, List.length_append, putS_len, List.length_cons, List.length_nil];  omega) (by have := HX.out; have := HY.out; simp only [List.length_append, putS_len, List.length_cons, List.length_nil];  omega) (by have := BX3.out.lt; simp; omega) ?_; intro v4 y4 hown hb
         have BX4 := Lib.hid ((BX3.out.alloc (.cells #[.int .u8 2, .int .u8 (X : Int)] 5)).below hb (Nat.lt_succ_self _))
         have kBX4 := BX4.out.cell
         have HW4 := Lib.hid ((new_ HW3.out (.cells #[.int .u8 2, .int .u8 (X : Int)] 5)).trans (hb.mono (Nat.le_succ _)))
         have O4 := Lib.hid (show y4.ownsRow (w.heap.size + 1) 5 1 v4 ((putS pg 4 ++ (putS sl 2)) ++ [2, (X : Int)]).length (((putS pg 4 ++ (putS sl 2)) ++ [2, (X : Int)]).map (.int .u8)) by rw [List.length_append]; exact hown)
         clear hown hb kBX3)
      | (at_builtin; refine wpList_append_all _ rfl _ _ _ rfl (w.heap.size + 1) 5 i0 .u8 1 Try.underlying25 hi0 hz0 hz1 hz2 v4 _ (((putS pg 4 ++ (putS sl 2)) ++ [2, (X : Int)])) rfl O4.out _ (.slice A1 X c1) (cx) rfl (IA.out.below HW4.out) (by have := HX.out; have := HY.out; simp only [maxLen, List.length_append, putS_len, List.length_cons, List.length_nil];  omega) (by have := HX.out; have := HY.out; simp only [List.length_append, putS_len, List.length_cons, List.length_nil];  omega) (show w.heap.size + 1 ≤ _ from BX4.out.lt) ?_; intro v5 y5 hown hb
         have BX5 := Lib.hid (BX4.out.below hb (Nat.lt_succ_self _))
         have kBX5 := BX5.out.cell
         have HW5 := Lib.hid (HW4.out.trans (hb.mono (Nat.le_succ _)))
         have O5 := Lib.hid (show y5.ownsRow (w.heap.size + 1) 5 1 v5 (((putS pg 4 ++ (putS sl 2)) ++ [2, (X : Int)]) ++ cx).length ((((putS pg 4 ++ (putS sl 2)) ++ [2, (X : Int)]) ++ cx).map (.int .u8)) by rw [List.length_append]; exact hown)
         clear hown hb kBX4)
      | (at_builtin; refine wpList_append_all _ rfl _ _ _ rfl (w.heap.size + 1) 5 i0 .u8 1 Try.underlying25 hi0 hz0 hz1 hz2 v5 _ ((((putS pg 4 ++ (putS sl 2)) ++ [2, (X : Int)]) ++ cx)) rfl (own_below O5.out (new_ (Below.refl _ _) (.cells #[.int .u8 (Y : Int)] 5))) _ (.slice (some ⟨y5.heap.size, 0, none⟩) 1 1) ([(Y : Int)]) rfl (IR.lit y5 .u8 [(Y : Int)] 5 (by simp)) (by have := HX.out; have := HY.out; simp only [maxLen, List.length_append, putS_len, List.length_cons, List.length_nil];  omega) (by have := HX.out; have := HY.out; simp only [List.length_append, putS_len, List.length_cons, List.length_nil];  omega) (by have := BX5.out.lt; simp; omega) ?_; intro v6 y6 hown hb
         have BX6 := Lib.hid ((BX5.out.alloc (.cells #[.int .u8 (Y : Int)] 5)).below hb (Nat.lt_succ_self _))
         have kBX6 := BX6.out.cell
         have HW6 := Lib.hid ((new_ HW5.out (.cells #[.int .u8 (Y : Int)] 5)).trans (hb.mono (Nat.le_succ _)))
         have O6 := Lib.hid (show y6.ownsRow (w.heap.size + 1) 5 1 v6 ((((putS pg 4 ++ (putS sl 2)) ++ [2, (X : Int)]) ++ cx) ++ [(Y : Int)]).length (((((putS pg 4 ++ (putS sl 2)) ++ [2, (X : Int)]) ++ cx) ++ [(Y : Int)]).map (.int .u8)) by rw [List.length_append]; exact hown)
         clear hown hb kBX5)
      | (at_builtin; refine wpList_append_all _ rfl _ _ _ rfl (w.heap.size + 1) 5 i0 .u8 1 Try.underlying25 hi0 hz0 hz1 hz2 v6 _ (((((putS pg 4 ++ (putS sl 2)) ++ [2, (X : Int)]) ++ cx) ++ [(Y : Int)])) rfl O6.out _ (.slice A2 Y c2) (cy) rfl (IB.out.below HW6.out) (by have := HX.out; have := HY.out; simp only [maxLen, List.length_append, putS_len, List.length_cons, List.length_nil];  omega) (by have := HX.out; have := HY.out; simp only [List.length_append, putS_len, List.length_cons, List.length_nil];  omega) (show w.heap.size + 1 ≤ _ from BX6.out.lt) ?_; intro v7 y7 hown hb
         have BX7 := Lib.hid (BX6.out.below hb (Nat.lt_succ_self _))
         have kBX7 := BX7.out.cell
         have HW7 := Lib.hid (HW6.out.trans (hb.mono (Nat.le_succ _)))
         have O7 := Lib.hid (show y7.ownsRow (w.heap.size + 1) 5 1 v7 (((((putS pg 4 ++ (putS sl 2)) ++ [2, (X : Int)]) ++ cx) ++ [(Y : Int)]) ++ cy).length ((((((putS pg 4 ++ (putS sl 2)) ++ [2, (X : Int)]) ++ cx) ++ [(Y : Int)]) ++ cy).map (.int .u8)) by rw [List.length_append]; exact hown)
         clear hown hb kBX6))
    go_ret
    exact ⟨_, rfl, own_lower O7.out (Nat.le_succ _), HW7.out⟩
  · simp only [flagS, Bool.false_eq_true, if_false, if_true, Int.zero_add, Int.add_zero, Int.reduceAdd] at hf
    subst hf
    go_enter Try.func31, Try.ntmps31
    go_wp2_with (first
      | (go_at_call 30; (with_reducible refine (P1 _).out.mono ?_); rintro e y1 ⟨u1, rfl, ou1, hb1⟩
         have BX1 := Lib.hid (BX0.out.later hb1)
         have kBX1 := BX1.out.cell
         have HW1 := Lib.hid (step_ HW0.out hb1)
         have ou1x := (show y1.ownsRow _ 5 1 u1 (putS (pg) 4).length ((putS (pg) 4).map (.int .u8)) by rw [putS_len]; exact ou1)
         have O1 := Lib.hid (own_lower ou1x (base' := w.heap.size + 1) (by simp))
         clear ou1 ou1x hb1)
      | (go_at_call 30; (with_reducible refine (P2 _).out.mono ?_); rintro e y2 ⟨u2, rfl, ou2, hb2⟩
         have BX2 := Lib.hid (BX1.out.later hb2)
         have kBX2 := BX2.out.cell
         have HW2 := Lib.hid (step_ HW1.out hb2)
         have O2 := Lib.hid (own_below O1.out hb2)
         have I2 := Lib.hid (IR.of_own ou2)
         clear ou2 hb2 kBX1)
      | (at_builtin; refine wpList_append_all _ rfl _ _ _ rfl (w.heap.size + 1) 5 i0 .u8 1 Try.underlying25 hi0 hz0 hz1 hz2 u1 _ (putS pg 4) rfl O2.out _ u2 ((putS sl 2)) rfl I2.out (by have := HX.out; have := HY.out; simp only [maxLen, List.length_append, putS_len, List.length_cons, List.length_nil];  omega) (by have := HX.out; have := HY.out; simp only [List.length_append, putS_len, List.length_cons, List.length_nil];  omega) (show w.heap.size + 1 ≤ _ from BX2.out.lt) ?_; intro v3 y3 hown hb
         have BX3 := Lib.hid (BX2.out.below hb (Nat.lt_succ_self _))
         have kBX3 := BX3.out.cell
         have HW3 := Lib.hid (HW2.out.trans (hb.mono (Nat.le_succ _)))
         have O3 := Lib.hid (show y3.ownsRow (w.heap.size + 1) 5 1 v3 (putS pg 4 ++ (putS sl 2)).length ((putS pg 4 ++ (putS sl 2)).map (.int .u8)) by rw [List.length_append]; exact hown)
         clear hown hb kBX2)
      | (at_builtin; refine wpList_append_all _ rfl _ _ _ rfl (w.heap.size + 1) 5 i0 .u8 1 Try.underlying25 hi0 hz0 hz1 hz2 v3 _ ((putS pg 4 ++ (putS sl 2))) rfl (own_below O3.out (new_ (Below.refl _ _) (.cells #[.int .u8 1, .int .u8 (X : Int)] 5))) _ (.slice (some ⟨y3.heap.size, 0, none⟩) 2 2) ([1, (X : Int)]) rfl (IR.lit y3 .u8 [1, (X : Int)] 5 (by simp)) (by have := HX.out; have := HY.out; simp only [maxLen, List.length_append, putS_len, List.length_cons, List.length_nil];  omega) (by have := HX.out; have := HY.out; simp only [List.length_append, putS_len, List.length_cons, List.length_nil];  omega) (by have := BX3.out.lt; simp; omega) ?_; intro v4 y4 hown hb
         have BX4 := Lib.hid ((BX3.out.alloc (.cells #[.int .u8 1, .int .u8 (X : Int)] 5)).below hb (Nat.lt_succ_self _))
         have kBX4 := BX4.out.cell
         have HW4 := Lib.hid ((new_ HW3.out (.cells #[.int .u8 1, .int .u8 (X : Int)] 5)).trans (hb.mono (Nat.le_succ _)))
         have O4 := Lib.hid (show y4.ownsRow (w.heap.size + 1) 5 1 v4 ((putS pg 4 ++ (putS sl 2)) ++ [1, (X : Int)]).length (((putS pg 4 ++ (putS sl 2)) ++ [1, (X : Int)]).map (.int .u8)) by rw [List.length_append]; exact hown)
         clear hown hb kBX3)
      | (at_builtin; refine wpList_append_all _ rfl _ _ _ rfl (w.heap.size + 1) 5 i0 .u8 1 Try.underlying25 hi0 hz0 hz1 hz2 v4 _ (((putS pg 4 ++ (putS sl 2)) ++ [1, (X : Int)])) rfl O4.out _ (.slice A1 X c1) (cx) rfl (IA.out.below HW4.out) (by have := HX.out; have := HY.out; simp only [maxLen, List.length_append, putS_len, List.length_cons, List.length_nil];  omega) (by have := HX.out; have := HY.out; simp only [List.length_append, putS_len, List.length_cons, List.length_nil];  omega) (show w.heap.size + 1 ≤ _ from BX4.out.lt) ?_; intro v5 y5 hown hb
         have BX5 := Lib.hid (BX4.out.below hb (Nat.lt_succ_self _))
         have kBX5 := BX5.out.cell
         have HW5 := Lib.hid (HW4.out.trans (hb.mono (Nat.le_succ _)))
         have O5 := Lib.hid (show y5.ownsRow (w.heap.size + 1) 5 1 v5 (((putS pg 4 ++ (putS sl 2)) ++ [1, (X : Int)]) ++ cx).length ((((putS pg 4 ++ (putS sl 2)) ++ [1, (X : Int)]) ++ cx).map (.int .u8)) by rw [List.length_append]; exact hown)
         clear hown hb kBX4)
      | (at_builtin; refine wpList_append_all _ rfl _ _ _ rfl (w.heap.size + 1) 5 i0 .u8 1 Try.underlying25 hi0 hz0 hz1 hz2 v5 _ ((((putS pg 4 ++ (putS sl 2)) ++ [1, (X : Int)]) ++ cx)) rfl (own_below O5.out (new_ (Below.refl _ _) (.cells #[.int .u8 (Y : Int)] 5))) _ (.slice (some ⟨y5.heap.size, 0, none⟩) 1 1) ([(Y : Int)]) rfl (IR.lit y5 .u8 [(Y : Int)] 5 (by simp)) (by have := HX.out; have := HY.out; simp only [maxLen, List.length_append, putS_len, List.length_cons, List.length_nil];  omega) (by have := HX.out; have := HY.out; simp only [List.length_append, putS_len, List.length_cons, List.length_nil];  omega) (by have := BX5.out.lt; simp; omega) ?_; intro v6 y6 hown hb
         have BX6 := Lib.hid ((BX5.out.alloc (.cells #[.int .u8 (Y : Int)] 5)).below hb (Nat.lt_succ_self _))
         have kBX6 := BX6.out.cell
         have HW6 := Lib.hid ((new_ HW5.out (.cells #[.int .u8 (Y : Int)] 5)).trans (hb.mono (Nat.le_succ _)))
         have O6 := Lib.hid (show y6.ownsRow (w.heap.size + 1) 5 1 v6 ((((putS pg 4 ++ (putS sl 2)) ++ [1, (X : Int)]) ++ cx) ++ [(Y : Int)]).length (((((putS pg 4 ++ (putS sl 2)) ++ [1, (X : Int)]) ++ cx) ++ [(Y : Int)]).map (.int .u8)) by rw [List.length_append]; exact hown)
         clear hown hb kBX5)
      | (at_builtin; refine wpList_append_all _ rfl _ _ _ rfl (w.heap.size + 1) 5 i0 .u8 1 Try.underlying25 hi0 hz0 hz1 hz2 v6 _ (((((putS pg 4 ++ (putS sl 2)) ++ [1, (X : Int)]) ++ cx) ++ [(Y : Int)])) rfl O6.out _ (.slice A2 Y c2) (cy) rfl (IB.out.below HW6.out) (by have := HX.out; have := HY.out; simp only [maxLen, List.length_append, putS_len, List.length_cons, List.length_nil];  omega) (by have := HX.out; have := HY.out; simp only [List.length_append, putS_len, List.length_cons, List.length_nil];  omega) (show w.heap.size + 1 ≤ _ from BX6.out.lt) ?_; intro v7 y7 hown hb
         have BX7 := Lib.hid (BX6.out.below hb (Nat.lt_succ_self _))
         have kBX7 := BX7.out.cell
         have HW7 := Lib.hid (HW6.out.trans (hb.mono (Nat.le_succ _)))
         have O7 := Lib.hid (show y7.ownsRow (w.heap.size + 1) 5 1 v7 (((((putS pg 4 ++ (putS sl 2)) ++ [1, (X : Int)]) ++ cx) ++ [(Y : Int)]) ++ cy).length ((((((putS pg 4 ++ (putS sl 2)) ++ [1, (X : Int)]) ++ cx) ++ [(Y : Int)]) ++ cy).map (.int .u8)) by rw [List.length_append]; exact hown)
         clear hown hb kBX6))
    go_ret
    exact ⟨_, rfl, own_lower O7.out (Nat.le_succ _), HW7.out⟩
  · simp only [flagS, Bool.false_eq_true, if_false, if_true, Int.zero_add, Int.add_zero, Int.reduceAdd] at hf
    subst hf
    go_enter Try.func31, Try.ntmps31
    go_wp2_with (first
      | (go_at_call 30; (with_reducible refine (P1 _).out.mono ?_); rintro e y1 ⟨u1, rfl, ou1, hb1⟩
         have BX1 := Lib.hid (BX0.out.later hb1)
         have kBX1 := BX1.out.cell
         have HW1 := Lib.hid (step_ HW0.out hb1)
         have ou1x := (show y1.ownsRow _ 5 1 u1 (putS (pg) 4).length ((putS (pg) 4).map (.int .u8)) by rw [putS_len]; exact ou1)
         have O1 := Lib.hid (own_lower ou1x (base' := w.heap.size + 1) (by simp))
         clear ou1 ou1x hb1)
      | (go_at_call 30; (with_reducible refine (P2 _).out.mono ?_); rintro e y2 ⟨u2, rfl, ou2, hb2⟩
         have BX2 := Lib.hid (BX1.out.later hb2)
         have kBX2 := BX2.out.cell
         have HW2 := Lib.hid (step_ HW1.out hb2)
         have O2 := Lib.hid (own_below O1.out hb2)
         have I2 := Lib.hid (IR.of_own ou2)
         clear ou2 hb2 kBX1)
      | (at_builtin; refine wpList_append_all _ rfl _ _ _ rfl (w.heap.size + 1) 5 i0 .u8 1 Try.underlying25 hi0 hz0 hz1 hz2 u1 _ (putS pg 4) rfl O2.out _ u2 ((putS sl 2)) rfl I2.out (by have := HX.out; have := HY.out; simp only [maxLen, List.length_append, putS_len, List.length_cons, List.length_nil];  omega) (by have := HX.out; have := HY.out; simp only [List.length_append, putS_len, List.length_cons, List.length_nil];  omega) (show w.heap.size + 1 ≤ _ from BX2.out.lt) ?_; intro v3 y3 hown hb
         have BX3 := Lib.hid (BX2.out.below hb (Nat.lt_succ_self _))
         have kBX3 := BX3.out.cell
         have HW3 := Lib.hid (HW2.out.trans (hb.mono (Nat.le_succ _)))
         have O3 := Lib.hid (show y3.ownsRow (w.heap.size + 1) 5 1 v3 (putS pg 4 ++ (putS sl 2)).length ((putS pg 4 ++ (putS sl 2)).map (.int .u8)) by rw [List.length_append]; exact hown)
         clear hown hb kBX2)
      | (at_builtin; refine wpList_append_all _ rfl _ _ _ rfl (w.heap.size + 1) 5 i0 .u8 1 Try.underlying25 hi0 hz0 hz1 hz2 v3 _ ((putS pg 4 ++ (putS sl 2))) rfl (own_below O3.out (new_ (Below.refl _ _) (.cells #[.int .u8 3, .int .u8 (X : Int)] 5))) _ (.slice (some ⟨y3.heap.size, 0, none⟩) 2 2) ([3, (X : Int)]) rfl (IR.lit y3 .u8 [3, (X : Int)] 5 (by simp)) (by have := HX.out; have := HY.out; simp only [maxLen, List.length_append, putS_len, List.length_cons, List.length_nil];  omega) (by have := HX.out; have := HY.out; simp only [List.length_append, putS_len, List.length_cons, List.length_nil];  omega) (by have := BX3.out.lt; simp; omega) ?_; intro v4 y4 hown hb
         have BX4 := Lib.hid ((BX3.out.alloc (.cells #[.int .u8 3, .int .u8 (X : Int)] 5)).below hb (Nat.lt_succ_self _))
         have kBX4 := BX4.out.cell
         have HW4 := Lib.hid ((new_ HW3.out (.cells #[.int .u8 3, .int .u8 (X : Int)] 5)).trans (hb.mono (Nat.le_succ _)))
         have O4 := Lib.hid (show y4.ownsRow (w.heap.size + 1) 5 1 v4 ((putS pg 4 ++ (putS sl 2)) ++ [3, (X : Int)]).length (((putS pg 4 ++ (putS sl 2)) ++ [3, (X : Int)]).map (.int .u8)) by rw [List.length_append]; exact hown)
         clear hown hb kBX3)
      | (at_builtin; refine wpList_append_all _ rfl _ _ _ rfl (w.heap.size + 1) 5 i0 .u8 1 Try.underlying25 hi0 hz0 hz1 hz2 v4 _ (((putS pg 4 ++ (putS sl 2)) ++ [3, (X : Int)])) rfl O4.out _ (.slice A1 X c1) (cx) rfl (IA.out.below HW4.out) (by have := HX.out; have := HY.out; simp only [maxLen, List.length_append, putS_len, List.length_cons, List.length_nil];  omega) (by have := HX.out; have := HY.out; simp only [List.length_append, putS_len, List.length_cons, List.length_nil];  omega) (show w.heap.size + 1 ≤ _ from BX4.out.lt) ?_; intro v5 y5 hown hb
         have BX5 := Lib.hid (BX4.out.below hb (Nat.lt_succ_self _))
         have kBX5 := BX5.out.cell
         have HW5 := Lib.hid (HW4.out.trans (hb.mono (Nat.le_succ _)))
         have O5 := Lib.hid (show y5.ownsRow (w.heap.size + 1) 5 1 v5 (((putS pg 4 ++ (putS sl 2)) ++ [3, (X : Int)]) ++ cx).length ((((putS pg 4 ++ (putS sl 2)) ++ [3, (X : Int)]) ++ cx).map (.int .u8)) by rw [List.length_append]; exact hown)
         clear hown hb kBX4)
      | (at_builtin; refine wpList_append_all _ rfl _ _ _ rfl (w.heap.size + 1) 5 i0 .u8 1 Try.underlying25 hi0 hz0 hz1 hz2 v5 _ ((((putS pg 4 ++ (putS sl 2)) ++ [3, (X : Int)]) ++ cx)) rfl (own_below O5.out (new_ (Below.refl _ _) (.cells #[.int .u8 (Y : Int)] 5))) _ (.slice (some ⟨y5.heap.size, 0, none⟩) 1 1) ([(Y : Int)]) rfl (IR.lit y5 .u8 [(Y : Int)] 5 (by simp)) (by have := HX.out; have := HY.out; simp only [maxLen, List.length_append, putS_len, List.length_cons, List.length_nil];  omega) (by have := HX.out; have := HY.out; simp only [List.length_append, putS_len, List.length_cons, List.length_nil];  omega) (by have := BX5.out.lt; simp; omega) ?_; intro v6 y6 hown hb
         have BX6 := Lib.hid ((BX5.out.alloc (.cells #[.int .u8 (Y : Int)] 5)).below hb (Nat.lt_succ_self _))
         have kBX6 := BX6.out.cell
         have HW6 := Lib.hid ((new_ HW5.out (.cells #[.int .u8 (Y : Int)] 5)).trans (hb.mono (Nat.le_succ _)))
         have O6 := Lib.hid (show y6.ownsRow (w.heap.size + 1) 5 1 v6 ((((putS pg 4 ++ (putS sl 2)) ++ [3, (X : Int)]) ++ cx) ++ [(Y : Int)]).length (((((putS pg 4 ++ (putS sl 2)) ++ [3, (X : Int)]) ++ cx) ++ [(Y : Int)]).map (.int .u8)) by rw [List.length_append]; exact hown)
         clear hown hb kBX5)
      | (at_builtin; refine wpList_append_all _ rfl _ _ _ rfl (w.heap.size + 1) 5 i0 .u8 1 Try.underlying25 hi0 hz0 hz1 hz2 v6 _ (((((putS pg 4 ++ (putS sl 2)) ++ [3, (X : Int)]) ++ cx) ++ [(Y : Int)])) rfl O6.out _ (.slice A2 Y c2) (cy) rfl (IB.out.below HW6.out) (by have := HX.out; have := HY.out; simp only [maxLen, List.length_append, putS_len, List.length_cons, List.length_nil];  omega) (by have := HX.out; have := HY.out; simp only [List.length_append, putS_len, List.length_cons, List.length_nil];  omega) (show w.heap.size + 1 ≤ _ from BX6.out.lt) ?_; intro v7 y7 hown hb
         have BX7 := Lib.hid (BX6.out.below hb (Nat.lt_succ_self _))
         have kBX7 := BX7.out.cell
         have HW7 := Lib.hid (HW6.out.trans (hb.mono (Nat.le_succ _)))
         have O7 := Lib.hid (show y7.ownsRow (w.heap.size + 1) 5 1 v7 (((((putS pg 4 ++ (putS sl 2)) ++ [3, (X : Int)]) ++ cx) ++ [(Y : Int)]) ++ cy).length ((((((putS pg 4 ++ (putS sl 2)) ++ [3, (X : Int)]) ++ cx) ++ [(Y : Int)]) ++ cy).map (.int .u8)) by rw [List.length_append]; exact hown)
         clear hown hb kBX6))
    go_ret
    exact ⟨_, rfl, own_lower O7.out (Nat.le_succ _), HW7.out⟩
end Go.Proofs.Ytbbphfhkedldmaa.Rec
