import Derived.Test.YtbbphfhkedldmaaRecE
/- A writer's text, change and tables. -/
namespace Go.Proofs.Ytbbphfhkedldmaa.Rec
open Go.ChangeShapes Go.WideShapes Go.ChangeAt Go.RowKit Go.IntWalk Go.Proofs.NumMath Go.Proofs.Mem Go.Proofs.CrcMath NumBytes CrcA
set_option linter.unusedVariables false
set_option linter.unusedSimpArgs false
theorem number_w (w : World) (g : Nat) (v : Value) (xs : List Int) (h : Wr w g v xs) (hl : xs.length ≤ 100000) (n K : Int) (k : Nat) (hK : K = (k : Int)) (h0 : 0 ≤ n) (h1 : n ≤ 18446744073709551615) (h2 : 1 ≤ k) (h3 : k ≤ 8) :
    Calls Try.prog 22 #[.pointer (some ⟨g, 0, none⟩), .int .u64 n, .int .i64 K] w fun e w' => e = .returned (.tuple #[]) ∧ ∃ v', Wr w' g v' (xs ++ putS n k) ∧ WrTo w w' g v v' := by
  subst hK
  refine (number_to w g v xs h hl n k h0 h1 (by omega) (by omega)).mono ?_
  rintro e w' ⟨rfl, v', h', hb⟩
  rw [Int.toNat_natCast] at h'
  exact ⟨rfl, v', h', hb⟩
set_option maxRecDepth 100000 in
set_option maxHeartbeats 4000000 in
theorem text_any (w : World) (g B : Nat) (v b : Value) (xs ys : List Int) (h : Wr w g v xs) (hl : xs.length ≤ 90000) (hb : IR w B .u8 b ys) (hB : B ≤ g) (hy : ys.length ≤ 1000) :
    Calls Try.prog 41 #[.pointer (some ⟨g, 0, none⟩), b] w fun e w' => e = .returned (.tuple #[]) ∧ ∃ v', Wr w' g v' (xs ++ putS ys.length 1 ++ ys) ∧ WrTo w w' g v v' := by
  obtain ⟨i0, hi0, hz0, hz1, hz2⟩ := info_parts u8_info
  obtain ⟨A, c, rfl, hl1, hm1⟩ := hb.form
  have NU := Lib.hid (number_w w g v xs h (by omega) ys.length 1 1 rfl (by omega) (by omega) (by decide) (by decide))
  have IB := Lib.hid hb
  have H0 := Lib.hid h
  have wk := u64_wrap (x := (ys.length : Int)) (by omega) (by omega)
  clear h hb
  go_enter Try.func41, Try.ntmps41
  go_wp2_with (first
    | (go_at_call 22; (with_reducible refine NU.out.mono ?_); rintro e w1 ⟨rfl, v1, wr1, hb1⟩; have W1 := Lib.hid wr1; have HB1 := Lib.hid hb1; have I1 := Lib.hid (IB.out.below ((hb1.below H0.out).mono hB)); have c1 := wr1.box.cell; clear wr1 hb1)
    | (at_builtin; refine wpList_append_tx _ rfl _ _ _ _ rfl (g + 1) 5 5 i0 .u8 1 Try.underlying52 Try.underlying25 hi0 hz0 hz1 hz2 v1 _ _ rfl W1.out.own B _ ys rfl I1.out (by rw [List.length_append, putS_len]; simp only [maxLen]; omega) (by rw [List.length_append, putS_len]; omega) W1.out.lt ?_; intro v2 w2 hown2 hg2 ho2
       have hb2 := W1.out.box.grown hg2 (fun e => by have := (W1.out.own.lt g e).1; omega)
       have HF := Lib.hid ((Fr.refl (fun x => x = g ∨ v1.ownBlock = some x) w1).grown hg2 (fun k e => .inl (.inr e)))
       have HO := Lib.hid ho2
       have HZ := Lib.hid hg2.size
       rw [← List.length_append] at hown2
       obtain ⟨A2, c2, e2, _, _⟩ := (IR.of_own hown2).form
       obtain ⟨n2, hn2⟩ : ∃ n, n = (xs ++ putS ys.length 1 ++ ys).length := ⟨_, rfl⟩
       rw [← hn2] at e2 hown2
       subst e2
       have HN := Lib.hid hn2
       have OW := Lib.hid hown2
       have BX := Lib.hid hb2
       have k2 := hb2.cell
       have f2 := hb2.frozen
       clear hown2 hb2 hg2 ho2 c1 hn2))
  go_end0
  refine ⟨rfl, .slice A2 n2 c2, ⟨BX.out.set_ 0 _, by rw [← HN.out]; exact own_set_far OW.out (Nat.lt_succ_self g) _, ?_⟩, HB1.out.trans ⟨HF.out.setCell (p := ⟨g, 0, none⟩) (.inl (.inl rfl)) _, HO.out.imp id (fun e => ⟨_, e, Nat.le_refl _⟩)⟩⟩
  exact Nat.lt_of_lt_of_le W1.out.lt (Nat.le_trans HZ.out (by simp))
/-- a change as bytes -/
def flagS (had has : Bool) : Int := (if had then 1 else 0) + (if has then 2 else 0)
def chgS (c : Cg) : List Int := putS c.pg 4 ++ putS c.sl 2 ++ putS (flagS c.had c.has) 1 ++ putS c.xs.length 1 ++ c.xs ++ putS c.ys.length 1 ++ c.ys
set_option maxRecDepth 100000 in
set_option maxHeartbeats 8000000 in
theorem wchange_any (w : World) (g B : Nat) (v a b : Value) (xs : List Int) (c : Cg) (hc : c.Ok) (h : Wr w g v xs) (hl : xs.length ≤ 80000) (ha : IR w B .u8 a c.xs) (hb : IR w B .u8 b c.ys) (hB : B ≤ g) (hx : c.xs.length ≤ 1000) (hy : c.ys.length ≤ 1000) :
    Calls Try.prog 24 #[.pointer (some ⟨g, 0, none⟩), .agg (cgC c.pg c.sl c.had c.has a b)] w fun e w' => e = .returned (.tuple #[]) ∧ ∃ v', Wr w' g v' (xs ++ chgS c) ∧ WrTo w w' g v v' := by
  obtain ⟨⟨p0, p1⟩, ⟨s0, s1⟩, hbx, hby⟩ := hc
  obtain ⟨pg, sl, had, has, cx, cy⟩ := c
  simp only at p0 p1 s0 s1 ha hb hx hy ⊢
  obtain ⟨X, hX⟩ : ∃ n, n = cx.length := ⟨_, rfl⟩
  obtain ⟨Y, hY⟩ : ∃ n, n = cy.length := ⟨_, rfl⟩
  have wp_ := u64_wrap (x := pg) (by omega) (by omega)
  have ws_ := u64_wrap (x := sl) (by omega) (by omega)
  obtain ⟨f, hf⟩ : ∃ f, f = flagS had has := ⟨_, rfl⟩
  have hf0 : 0 ≤ f ∧ f ≤ 3 := by rw [hf]; cases had <;> cases has <;> decide
  have hs : xs ++ chgS ⟨pg, sl, had, has, cx, cy⟩ = xs ++ putS pg 4 ++ putS sl 2 ++ putS f 1 ++ putS X 1 ++ cx ++ putS Y 1 ++ cy := by rw [hf, hX, hY]; simp [chgS]
  have HS := Lib.hid hs
  have N1 := Lib.hid (fun W v (h : Wr W g v xs) => number_w W g v xs h (by omega) pg 4 4 rfl p0 (by omega) (by decide) (by decide))
  have N2 := Lib.hid (fun W v (h : Wr W g v (xs ++ putS pg 4)) => number_w W g v _ h (by simp [putS_len]; omega) sl 2 2 rfl s0 (by omega) (by decide) (by decide))
  have N3 := Lib.hid (fun W v (h : Wr W g v (xs ++ putS pg 4 ++ putS sl 2)) => number_w W g v _ h (by simp [putS_len]; omega) f 1 1 rfl hf0.1 (by omega) (by decide) (by decide))
  have T1 := Lib.hid (fun W v (h : Wr W g v (xs ++ putS pg 4 ++ putS sl 2 ++ putS f 1)) (h2 : IR W B .u8 a cx) => text_any W g B v a _ cx h (by simp [putS_len]; omega) h2 hB hx)
  have T2 := Lib.hid (fun W v (h : Wr W g v (xs ++ putS pg 4 ++ putS sl 2 ++ putS f 1 ++ putS X 1 ++ cx)) (h2 : IR W B .u8 b cy) => text_any W g B v b _ cy h (by simp [putS_len]; omega) h2 hB hy)
  obtain ⟨A1, c1, rfl, _, _⟩ := ha.form
  obtain ⟨A2, c2, rfl, _, _⟩ := hb.form
  rw [← hX] at ha T1 ⊢
  rw [← hY] at hb T2 ⊢
  obtain ⟨w0, hw0⟩ : ∃ w0, w.alloc (.cells (cgC pg sl had has (.slice A1 X c1) (.slice A2 Y c2)) 27) = w0 := ⟨_, rfl⟩
  have hb0 : Below w.heap.size w w0 := by rw [← hw0]; exact new_ (Below.refl _ _) _
  have bx0 : Box w0 w.heap.size (cgC pg sl had has (.slice A1 X c1) (.slice A2 Y c2)) 27 := by rw [← hw0]; exact Box.new _ _ _
  have W0 := Lib.hid (h.later hb0)
  have T0 := Lib.hid (show WrTo w w0 g v v from ⟨Fr.of_below hb0, .inl rfl⟩)
  have NB : Hid (∀ (v' : Value) W, WrTo w0 W g v v' → Box W w.heap.size (cgC pg sl had has (.slice A1 X c1) (.slice A2 Y c2)) 27 ∧ Below g w W) := Lib.hid (fun v' W ht => ⟨ht.box bx0 (by have := h.lt; omega) (fun e => by have := (h.own.lt _ e).2; omega), (hb0.mono (Nat.le_of_lt h.lt)).trans (ht.below (h.later hb0))⟩)
  have IA := Lib.hid ha
  have IB := Lib.hid hb
  have BG := Lib.hid hB
  rw [HS.out]
  clear h hf0 hs ha hb hb0 hB HS hX hY hx hy
  have FIN : ∀ W v' zs, WrTo w0 W g v v' → Wr W g v' zs → ∃ v', Wr W g v' zs ∧ WrTo w W g v v' := fun W v' zs ht hw => ⟨v', hw, T0.out.trans ht⟩
  have FIN := Lib.hid FIN
  cases had <;> cases has
  all_goals
    rw [flagS] at hf
    simp only [Bool.false_eq_true, if_false, if_true, Int.zero_add, Int.add_zero, Int.reduceAdd] at hf
    subst hf
    have k0 := bx0.cell
    have hw0' : w.alloc (.cells #[.int .u32 pg, .int .u16 sl, .bool _, .bool _, .slice A1 X c1, .slice A2 Y c2] 27) = w0 := hw0
    have HW0 := Lib.hid hw0'
    have b01 : bits BinOp.or IntKind.u64 0 1 = 1 := by decide +kernel
    have b02 : bits BinOp.or IntKind.u64 0 2 = 2 := by decide +kernel
    have b12 : bits BinOp.or IntKind.u64 1 2 = 3 := by decide +kernel
    clear bx0 hw0 hw0'
    go_enter Try.func24, Try.ntmps24
    go_wp2_with fail
    rw [HW0.out]
    (with_reducible refine (N1.out _ _ W0.out).mono ?_)
    rintro e w1 ⟨rfl, v1, W1, t1⟩
    have k1 := (NB.out _ _ t1).1.cell
    have T1' := Lib.hid t1
    have W1' := Lib.hid W1
    clear t1 W1 k0
    go_wp2_with fail
    (with_reducible refine (N2.out _ _ W1'.out).mono ?_)
    rintro e w2 ⟨rfl, v2, W2, t2⟩
    have T2' := Lib.hid (T1'.out.trans t2)
    have k2 := (NB.out _ _ T2'.out).1.cell
    have W2' := Lib.hid W2
    clear t2 W2 k1
    go_wp2_with fail
    (with_reducible refine (N3.out _ _ W2'.out).mono ?_)
    rintro e w3 ⟨rfl, v3, W3, t3⟩
    have T3' := Lib.hid (T2'.out.trans t3)
    have k3 := (NB.out _ _ T3'.out).1.cell
    have W3' := Lib.hid W3
    clear t3 W3 k2
    go_wp2_with fail
    (with_reducible refine (T1.out _ _ W3'.out (IA.out.below ((NB.out _ _ T3'.out).2.mono BG.out))).mono ?_)
    rintro e w4 ⟨rfl, v4, W4, t4⟩
    have T4' := Lib.hid (T3'.out.trans t4)
    have k4 := (NB.out _ _ T4'.out).1.cell
    have W4' := Lib.hid W4
    clear t4 W4 k3
    go_wp2_with fail
    (with_reducible refine (T2.out _ _ W4'.out (IB.out.below ((NB.out _ _ T4'.out).2.mono BG.out))).mono ?_)
    rintro e w5 ⟨rfl, v5, W5, t5⟩
    have F5 := Lib.hid (FIN.out _ _ _ (T4'.out.trans t5) W5)
    clear t5 W5 k4
    go_wp2
    go_end0
    exact ⟨rfl, F5.out⟩
end Go.Proofs.Ytbbphfhkedldmaa.Rec
