/- The law manciplelaw06.RecTurned returns true whatever it is called with, and what it was called with reads as it did. No condition. -/
import Derived.Test.YtbbphfhkedldmaaLaw
import Derived.Test.YtbbphfhkedldmaaRecD
import Derived.Test.YtbbphfhkedldmaaRecOpen
import Derived.RegionTactic
namespace Go.Proofs.Ytbbphfhkedldmaa.LRecTurned
open Go.ChangeShapes Go.WideShapes Go.ChangeAt Go.RowKit Go.IntWalk Go.Proofs.Mem Law
set_option linter.unusedVariables false
open NumBytes CrcA Rec Go.Proofs.Each
set_option linter.unusedSimpArgs false
set_option maxRecDepth 100000 in
set_option maxHeartbeats 8000000 in
theorem walk (w : World) (c : Rec.Cg) (hc : c.Ok) (ca cb : Value) (ic : IR w w.heap.size .u8 ca c.xs) (jc : IR w w.heap.size .u8 cb c.ys) :
    Calls Try.prog 7 #[.agg (Rec.cgC c.pg c.sl c.had c.has ca cb)] w fun e w' => e = .returned (.bool true) ∧ Below w.heap.size w w' := by
  obtain ⟨A1, c1, rfl, hl1, hm1⟩ := ic.form
  obtain ⟨A2, c2, rfl, hl2, hm2⟩ := jc.form
  have hBX : Bytes c.xs := hc.2.2.1
  have hBY : Bytes c.ys := hc.2.2.2
  obtain ⟨L1, hL1⟩ : ∃ L, L = c.xs.length := ⟨_, rfl⟩
  obtain ⟨L2, hL2⟩ : ∃ L, L = c.ys.length := ⟨_, rfl⟩
  rw [← hL1] at hl1 ic ⊢
  rw [← hL2] at hl2 jc ⊢
  unfold maxLen at hm1 hm2
  obtain ⟨q1, hq1⟩ : ∃ q, q = decide (200 < L1) := ⟨_, rfl⟩
  obtain ⟨q2, hq2⟩ : ∃ q, q = decide (200 < L2) := ⟨_, rfl⟩
  have d1 : decide ((200 : Int) < (L1 : Int)) = q1 := by rw [hq1, decide_eq_decide]; omega
  have d2 : decide ((200 : Int) < (L2 : Int)) = q2 := by rw [hq2, decide_eq_decide]; omega
  have HL1 := Lib.hid hL1
  have HL2 := Lib.hid hL2
  have HQ1 := Lib.hid hq1
  have HQ2 := Lib.hid hq2
  have BR0 := Lib.hid (Box.new w (cgC c.pg c.sl c.had c.has (.slice A1 L1 c1) (.slice A2 L2 c2)) 27)
  have HW0 := Lib.hid (new_ (Below.refl w.heap.size w) (.cells (cgC c.pg c.sl c.had c.has (.slice A1 L1 c1) (.slice A2 L2 c2)) 27))
  clear hL1 hL2 hq1 hq2
  go_enter Try.func7, Try.ntmps7
  go_wp2_with (go_at_call 10; (with_reducible refine (known_any _).mono ?_); rintro e w1 ⟨rfl, hb1⟩; have b1 := Lib.hid (BR0.out.later hb1); have k1 := b1.out.cell; have HW1 := Lib.hid (step_ HW0.out hb1); clear hb1)
  all_goals first
    | (go_ret; exact ⟨rfl, HW1.out⟩)
    | skip
  have n1 : q1 = false := by simpa using (show ¬ q1 = true by assumption)
  have n2 : q2 = false := by simpa using (show ¬ q2 = true by assumption)
  have l1 : L1 ≤ 200 := by rw [HQ1.out] at n1; simpa using n1
  have l2 : L2 ≤ 200 := by rw [HQ2.out] at n2; simpa using n2
  have hx5 : c.xs.length ≤ 100000 := by have := HL1.out; omega
  have hy5 : c.ys.length ≤ 100000 := by have := HL2.out; omega
  clear n1 n2 d1 d2 k1
  (with_reducible refine (turned_any c.pg c.sl c.had c.has _ _ c.xs c.ys w1 _ (Nat.le_refl _) ((ic.below HW1.out).more HW1.out.size) ((jc.below HW1.out).more HW1.out.size) hx5 hy5).mono ?_)
  rintro e w2 ⟨u, v, rfl, o1, o2, hb2⟩
  obtain ⟨A3, c3, rfl, hl3, hm3⟩ := (IR.of_own o1).form
  obtain ⟨A4, c4, rfl, hl4, hm4⟩ := (IR.of_own o2).form
  rw [← HL2.out] at o1 hl3 ⊢
  rw [← HL1.out] at o2 hl4 ⊢
  unfold maxLen at hm3 hm4
  have O1 := Lib.hid o1
  have O2 := Lib.hid o2
  have B2 := Lib.hid (b1.out.later hb2)
  have HW2 := Lib.hid (step_ HW1.out hb2)
  have HS2 := Lib.hid hb2.size
  clear o1 o2 hb2
  go_wp2_with fail
  obtain ⟨w3, hw3⟩ : ∃ w3, w2.alloc (.cells (cgC c.pg c.sl c.has c.had (.slice A3 L2 c3) (.slice A4 L1 c4)) 27) = w3 := ⟨_, rfl⟩
  have hb3 : Below w2.heap.size w2 w3 := by rw [← hw3]; exact new_ (Below.refl _ _) _
  have BD := Lib.hid (show Box w3 w2.heap.size (cgC c.pg c.sl c.has c.had (.slice A3 L2 c3) (.slice A4 L1 c4)) 27 by rw [← hw3]; exact Box.new _ _ _)
  have hs3 : w3.heap.size = w2.heap.size + 1 := by rw [← hw3]; simp
  have hw3' : w2.alloc (.cells #[.int .u32 c.pg, .int .u16 c.sl, .bool c.has, .bool c.had, .slice A3 L2 c3, .slice A4 L1 c4] 27) = w3 := hw3
  rw [hw3']
  clear hw3 hw3'
  have BR := Lib.hid (B2.out.later hb3)
  have HW3 := Lib.hid (step_ HW2.out hb3)
  have OU := Lib.hid (own_below O1.out hb3)
  have OV := Lib.hid (own_below O2.out hb3)
  have IU := Lib.hid (IR.of_own (xs := c.ys) (by have := OU.out; exact this))
  have IV := Lib.hid (IR.of_own (xs := c.xs) (by have := OV.out; exact this))
  have IA := Lib.hid ((ic.below HW3.out).more HW3.out.size)
  have IB := Lib.hid ((jc.below HW3.out).more HW3.out.size)
  have HS3 := Lib.hid hs3
  clear hb3 hs3
  refine wp_region_ob (by kernel_rfl) (by kernel_rfl) [(fun v _ => v = .agg (cgC c.pg c.sl c.has c.had (.slice A3 L2 c3) (.slice A4 L1 c4))), (fun v _ => v = .agg (cgC c.pg c.sl c.had c.has (.slice A1 L1 c1) (.slice A2 L2 c2))), (fun v W => ∃ u1 u2, v = .agg (cgC c.pg c.sl c.has c.had u1 u2) ∧ IR W W.heap.size .u8 u1 c.ys ∧ IR W W.heap.size .u8 u2 c.xs), (fun v _ => v = .bool true), (fun v _ => v = .bool true), (fun v _ => v = .agg (cgC c.pg c.sl c.has c.had (.slice A3 L2 c3) (.slice A4 L1 c4))), (fun v W => ∃ u1 u2, v = .agg (cgC c.pg c.sl c.had c.has u1 u2) ∧ IR W W.heap.size .u8 u1 c.xs ∧ IR W W.heap.size .u8 u2 c.ys), (fun v _ => v = .agg (cgC c.pg c.sl c.had c.has (.slice A1 L1 c1) (.slice A2 L2 c2))), (fun v _ => v = .bool true), (fun v _ => v = .bool true), (fun v _ => v = .bool true)] ⟨stays_eq _, stays_eq _, (fun _ _ _ hb h => by obtain ⟨u1, u2, e, h1, h2⟩ := h; exact ⟨u1, u2, e, (h1.below hb).more hb.size, (h2.below hb).more hb.size⟩), stays_eq _, stays_eq _, stays_eq _, (fun _ _ _ hb h => by obtain ⟨u1, u2, e, h1, h2⟩ := h; exact ⟨u1, u2, e, (h1.below hb).more hb.size, (h2.below hb).more hb.size⟩), stays_eq _, stays_eq _, stays_eq _, stays_eq _, trivial⟩ (fun vals => ?_) (fun vals W hbW hall => ?_)
  · simp only [ObF, Act.put, List.setIfInBounds_toArray, List.set_cons_succ, List.set_cons_zero]
    refine ⟨?_, ?_, ?_, ?_, ?_, ?_, ?_, ?_, ?_, ?_, ?_, trivial⟩
    · intro W hbW hw
      clear hw
      refine step_plain rfl ?_
      have bw := BD.out.later hbW
      have cw := bw.cell
      clear bw
      go_simp
      (first | exact Below.refl _ _ | exact ⟨Below.refl _ _, rfl⟩ | exact ⟨_, rfl, Below.refl _ _, rfl⟩)
    · intro W hbW hw
      clear hw
      refine step_plain rfl ?_
      have bw := BR.out.later hbW
      have cw := bw.cell
      clear bw
      go_simp
      (first | exact Below.refl _ _ | exact ⟨Below.refl _ _, rfl⟩ | exact ⟨_, rfl, Below.refl _ _, rfl⟩)
    · intro W hbW hw
      have f1 : vals 1 = .agg (cgC c.pg c.sl c.had c.has (.slice A1 L1 c1) (.slice A2 L2 c2)) := hw ⟨1, .data⟩ (by simp) rfl
      clear hw
      refine step_plain rfl ?_
      have ia := (IA.out.below hbW).more hbW.size
      have ib := (IB.out.below hbW).more hbW.size
      go_simp
      (with_reducible refine (turned_ref c.pg c.sl c.had c.has _ _ c.xs c.ys W _ (Nat.le_refl _) ia ib hx5 hy5).mono ?_)
      rintro e W1 ⟨u1, u2, rfl, o1, o2, hbl⟩
      exact ⟨hbl, u1, u2, rfl, o1, o2⟩
    · intro W hbW hw
      have f0 : vals 0 = .agg (cgC c.pg c.sl c.has c.had (.slice A3 L2 c3) (.slice A4 L1 c4)) := hw ⟨0, .data⟩ (by simp) rfl
      have f2 : ∃ u1 u2, (vals 2) = .agg (cgC c.pg c.sl c.has c.had u1 u2) ∧ IR W W.heap.size .u8 u1 c.ys ∧ IR W W.heap.size .u8 u2 c.xs := hw ⟨2, .data⟩ (by simp) rfl
      clear hw
      refine step_plain rfl ?_
      obtain ⟨u1, u2, e2, h1, h2⟩ := f2
      rw [e2]
      clear e2
      go_simp
      (with_reducible refine (same_cg c.pg c.sl c.has c.had _ _ _ _ c.ys c.xs W _ (Nat.le_refl _) ((IU.out.below hbW).more hbW.size) h1 ((IV.out.below hbW).more hbW.size) h2 hBY hBX).mono ?_)
      rintro e W1 ⟨rfl, hbl⟩
      first | exact ⟨hbl, rfl⟩ | exact ⟨rfl, hbl⟩
    · intro W hbW hw
      have f3 : vals 3 = .bool true := hw ⟨3, .data⟩ (by simp) rfl
      clear hw
      refine step_plain rfl ?_
      go_simp
      (first | exact Below.refl _ _ | exact ⟨Below.refl _ _, rfl⟩ | exact ⟨_, rfl, Below.refl _ _, rfl⟩)
    · intro W hbW hw
      have f4 : vals 4 = .bool true := hw ⟨4, .guard⟩ (by simp) rfl
      clear hw
      refine step_guard rfl (yielded_of rfl f4) ?_
      have bw := BD.out.later hbW
      have cw := bw.cell
      clear bw
      go_simp
      (first | exact Below.refl _ _ | exact ⟨Below.refl _ _, rfl⟩ | exact ⟨_, rfl, Below.refl _ _, rfl⟩)
    · intro W hbW hw
      have f5 : vals 5 = .agg (cgC c.pg c.sl c.has c.had (.slice A3 L2 c3) (.slice A4 L1 c4)) := hw ⟨5, .data⟩ (by simp) rfl
      have f4 : vals 4 = .bool true := hw ⟨4, .chain⟩ (by simp) rfl
      clear hw
      refine step_guard rfl (yielded_of rfl f4) ?_
      have ia := (IU.out.below hbW).more hbW.size
      have ib := (IV.out.below hbW).more hbW.size
      go_simp
      (with_reducible refine (turned_any c.pg c.sl c.has c.had _ _ c.ys c.xs W _ (Nat.le_refl _) ia ib hy5 hx5).mono ?_)
      rintro e W1 ⟨u1, u2, rfl, o1, o2, hbl⟩
      exact ⟨hbl, u1, u2, rfl, IR.of_own o1, IR.of_own o2⟩
    · intro W hbW hw
      have f4 : vals 4 = .bool true := hw ⟨4, .guard⟩ (by simp) rfl
      clear hw
      refine step_guard rfl (yielded_of rfl f4) ?_
      have bw := BR.out.later hbW
      have cw := bw.cell
      clear bw
      go_simp
      (first | exact Below.refl _ _ | exact ⟨Below.refl _ _, rfl⟩ | exact ⟨_, rfl, Below.refl _ _, rfl⟩)
    · intro W hbW hw
      have f6 : ∃ u1 u2, (vals 6) = .agg (cgC c.pg c.sl c.had c.has u1 u2) ∧ IR W W.heap.size .u8 u1 c.xs ∧ IR W W.heap.size .u8 u2 c.ys := hw ⟨6, .data⟩ (by simp) rfl
      have f7 : vals 7 = .agg (cgC c.pg c.sl c.had c.has (.slice A1 L1 c1) (.slice A2 L2 c2)) := hw ⟨7, .data⟩ (by simp) rfl
      have f4 : vals 4 = .bool true := hw ⟨4, .guard⟩ (by simp) rfl
      clear hw
      refine step_guard rfl (yielded_of rfl f4) ?_
      obtain ⟨u1, u2, e6, h1, h2⟩ := f6
      rw [e6]
      clear e6
      go_simp
      (with_reducible refine (same_cg c.pg c.sl c.had c.has _ _ _ _ c.xs c.ys W _ (Nat.le_refl _) h1 ((IA.out.below hbW).more hbW.size) h2 ((IB.out.below hbW).more hbW.size) hBX hBY).mono ?_)
      rintro e W1 ⟨rfl, hbl⟩
      first | exact ⟨hbl, rfl⟩ | exact ⟨rfl, hbl⟩
    · intro W hbW hw
      have f4 : vals 4 = .bool true := hw ⟨4, .data⟩ (by simp) rfl
      have f8 : vals 8 = .bool true := hw ⟨8, .data⟩ (by simp) rfl
      clear hw
      refine step_plain rfl ?_
      go_simp
      (first | exact Below.refl _ _ | exact ⟨Below.refl _ _, rfl⟩ | exact ⟨_, rfl, Below.refl _ _, rfl⟩)
    · intro W hbW hw
      have f9 : vals 9 = .bool true := hw ⟨9, .data⟩ (by simp) rfl
      have f8 : vals 8 = .bool true := hw ⟨8, .chain⟩ (by simp) rfl
      have f0 : vals 0 = .agg (cgC c.pg c.sl c.has c.had (.slice A3 L2 c3) (.slice A4 L1 c4)) := hw ⟨0, .phase⟩ (by simp) rfl
      have f1 : vals 1 = .agg (cgC c.pg c.sl c.had c.has (.slice A1 L1 c1) (.slice A2 L2 c2)) := hw ⟨1, .phase⟩ (by simp) rfl
      have f2 : ∃ u1 u2, (vals 2) = .agg (cgC c.pg c.sl c.has c.had u1 u2) ∧ IR W W.heap.size .u8 u1 c.ys ∧ IR W W.heap.size .u8 u2 c.xs := hw ⟨2, .phase⟩ (by simp) rfl
      have f3 : vals 3 = .bool true := hw ⟨3, .phase⟩ (by simp) rfl
      have f4 : vals 4 = .bool true := hw ⟨4, .phase⟩ (by simp) rfl
      have f5 : vals 5 = .agg (cgC c.pg c.sl c.has c.had (.slice A3 L2 c3) (.slice A4 L1 c4)) := hw ⟨5, .phase⟩ (by simp) rfl
      have f6 : ∃ u1 u2, (vals 6) = .agg (cgC c.pg c.sl c.had c.has u1 u2) ∧ IR W W.heap.size .u8 u1 c.xs ∧ IR W W.heap.size .u8 u2 c.ys := hw ⟨6, .phase⟩ (by simp) rfl
      have f7 : vals 7 = .agg (cgC c.pg c.sl c.had c.has (.slice A1 L1 c1) (.slice A2 L2 c2)) := hw ⟨7, .phase⟩ (by simp) rfl
      clear hw
      refine step_plain rfl ?_
      go_simp
      (first | exact Below.refl _ _ | exact ⟨Below.refl _ _, rfl⟩ | exact ⟨_, rfl, Below.refl _ _, rfl⟩)
  · simp only [TL, Act.put, List.setIfInBounds_toArray, List.set_cons_succ, List.set_cons_zero]
    have f0 : vals 0 = .agg (cgC c.pg c.sl c.has c.had (.slice A3 L2 c3) (.slice A4 L1 c4)) := hall 0 (by decide)
    have f1 : vals 1 = .agg (cgC c.pg c.sl c.had c.has (.slice A1 L1 c1) (.slice A2 L2 c2)) := hall 1 (by decide)
    have f2 : ∃ u1 u2, (vals 2) = .agg (cgC c.pg c.sl c.has c.had u1 u2) ∧ IR W W.heap.size .u8 u1 c.ys ∧ IR W W.heap.size .u8 u2 c.xs := hall 2 (by decide)
    have f3 : vals 3 = .bool true := hall 3 (by decide)
    have f4 : vals 4 = .bool true := hall 4 (by decide)
    have f5 : vals 5 = .agg (cgC c.pg c.sl c.has c.had (.slice A3 L2 c3) (.slice A4 L1 c4)) := hall 5 (by decide)
    have f6 : ∃ u1 u2, (vals 6) = .agg (cgC c.pg c.sl c.had c.has u1 u2) ∧ IR W W.heap.size .u8 u1 c.xs ∧ IR W W.heap.size .u8 u2 c.ys := hall 6 (by decide)
    have f7 : vals 7 = .agg (cgC c.pg c.sl c.had c.has (.slice A1 L1 c1) (.slice A2 L2 c2)) := hall 7 (by decide)
    have f8 : vals 8 = .bool true := hall 8 (by decide)
    have f9 : vals 9 = .bool true := hall 9 (by decide)
    have f10 : vals 10 = .bool true := hall 10 (by decide)
    clear hall
    simp only [f0, f1, f3, f4, f5, f7, f8, f9, f10]
    clear f0 f1 f3 f4 f5 f7 f8 f9 f10
    have BD4 := Lib.hid (BD.out.later hbW)
    have BR4 := Lib.hid (BR.out.later hbW)
    have OV4 := Lib.hid (own_below OV.out hbW)
    have IA4 := Lib.hid ((ic.below (step_ HW3.out hbW)).more (step_ HW3.out hbW).size)
    have HW4 := Lib.hid (step_ HW3.out hbW)
    have k4 := BR4.out.cell
    have hzW := hbW.size
    have HZ4 := Lib.hid hzW
    clear hbW hzW f2 f6
    go_wp2_with (go_at_call 11; (with_reducible refine (lent_any _ c.xs _ _ IA4.out hx5).mono ?_); rintro e w5 ⟨u5, rfl, o5, hb5⟩)
    obtain ⟨A5, c5, rfl, hl5, hm5⟩ := (IR.of_own o5).form
    rw [← HL1.out] at o5 hl5 ⊢
    unfold maxLen at hm5
    have O5 := Lib.hid o5
    have BD5 := Lib.hid (BD4.out.later hb5)
    have BR5 := Lib.hid (BR4.out.later hb5)
    have OV5 := Lib.hid (own_below OV4.out hb5)
    have HW5 := Lib.hid (step_ HW4.out hb5)
    clear o5 hb5 k4
    go_loopw [6] (fun i wr => ∃ j : Nat, i = .int .i64 j ∧ j ≤ L1 ∧ Hid (Box wr w2.heap.size (cgC c.pg c.sl c.has c.had (.slice A3 L2 c3) (.slice A4 L1 c4)) 27) ∧ Hid (Box wr w.heap.size (cgC c.pg c.sl c.had c.has (.slice A1 L1 c1) (.slice A2 L2 c2)) 27) ∧ Hid (∃ zs : List Int, zs.length = L1 ∧ wr.ownsRow (w1.heap.size + 1 + 1) 5 1 (.slice A4 L1 c4) L1 (zs.map (.int .u8))) ∧ Hid (wr.ownsRow W.heap.size 5 1 (.slice A5 L1 c5) L1 (c.xs.map (.int .u8))) ∧ Hid (Below w.heap.size w wr)) (fun i _ => L1 - (intOf i).toNat)
    case atStart => exact ⟨0, rfl, Nat.zero_le _, BD5, BR5, Lib.hid ⟨c.xs, HL1.out.symm, OV5.out⟩, O5, HW5⟩
    case round =>
      obtain ⟨j, rfl, hj, BDr, BRr, OVr, OWr, HWr⟩ := hrel
      have kD := BDr.out.cell
      have kR := BRr.out.cell
      by_cases hlt : j < L1
      · obtain ⟨zs, hz, ov⟩ := OVr.out
        obtain ⟨g, rfl⟩ : ∃ g, A4 = some ⟨g, 0, none⟩ := by
          rcases ov.2 with ⟨_, hn⟩ | ⟨g, cap, cur, e, _⟩
          · omega
          · injection e with e1; exact ⟨g, e1⟩
        have hg1 : g < w2.heap.size := (O2.out.lt g rfl).2
        have hg2 : w1.heap.size + 1 + 1 ≤ g := (O2.out.lt g rfl).1
        have hg3 : w.heap.size ≤ w1.heap.size := HW1.out.size
        have hg4 : g < W.heap.size := by have := HS2.out; have := HS3.out; have := HZ4.out; omega
        have cj : wr.cell? ⟨g, j, none⟩ = some (.int .u8 (zs.getD j 0)) := by
          rw [ov.cellAt j (by omega)]
          simp [List.getD, List.getElem?_eq_getElem (show j < zs.length by omega)]
        have fj := ov.frozenAt j
        have b0 : (0 : Int) ≤ (j : Int) := by omega
        have b1' : (j : Int) < (L1 : Int) := by omega
        have OVj := Lib.hid ov
        have HZ := Lib.hid hz
        have HG := Lib.hid (And.intro hg1 (And.intro hg2 (And.intro hg3 hg4)))
        generalize zs.getD j 0 = z at *
        clear ov hz hg1 hg2 hg3 hg4
        go_wp2
        go_region
        have st := OVj.out.stored j (.int .u8 (bits BinOp.xor IntKind.u8 z 255))
        have hgg := HG.out
        have ST := Lib.hid st
        have q1 := Lib.hid ((BDr.out.far (p := ⟨g, j, none⟩) (show w2.heap.size ≠ g by omega) (.int .u8 (bits BinOp.xor IntKind.u8 z 255))).drew)
        have q2 := Lib.hid ((BRr.out.far (p := ⟨g, j, none⟩) (show w.heap.size ≠ g by omega) (.int .u8 (bits BinOp.xor IntKind.u8 z 255))).drew)
        have q3 := Lib.hid ((own_set_far OWr.out (p := ⟨g, j, none⟩) hgg.2.2.2 (.int .u8 (bits BinOp.xor IntKind.u8 z 255))).drew)
        have q4 := Lib.hid ((HWr.out.setCell (p := ⟨g, j, none⟩) (show w.heap.size ≤ g by omega) (.int .u8 (bits BinOp.xor IntKind.u8 z 255))).drew)
        have q5 := Lib.hid (show ∃ zs' : List Int, zs'.length = L1 ∧ ((wr.setCell ⟨g, j, none⟩ (.int .u8 (bits BinOp.xor IntKind.u8 z 255))).drew).ownsRow (w1.heap.size + 1 + 1) 5 1 (.slice (some ⟨g, 0, none⟩) L1 c4) L1 (zs'.map (.int .u8)) from ⟨zs.set j (bits BinOp.xor IntKind.u8 z 255), by rw [List.length_set]; exact HZ.out, by rw [List.map_set]; exact st.1.drew⟩)
        clear st hgg kD kR cj fj
        go_wp2
        go_roundw
        case rel => exact ⟨j + 1, by go_num, by omega, q1, q2, q5, q3, q4⟩
        case measure => simp [intOf]; omega
      · have hje : j = L1 := by omega
        go_wp2_with (go_at_call 14; (with_reducible refine (same_any _ _ c.xs c.xs _ wr.heap.size wr.heap.size (IR.of_own (by have := OWr.out; exact this)) ((ic.below HWr.out).more HWr.out.size) hBX hBX).mono ?_); rintro e w9 ⟨rfl, rfl⟩)
        go_ret
        exact ⟨by simp, HWr.out⟩


set_option maxRecDepth 100000 in
theorem lifted (os : Os) (started : os.Started) (H : Type) (enc : TypeId × Value → H) :
    ReturnsInHanded {} Try.checked os 7 .any (Rows.recTurnedSpec.pre6 enc Try.prog Try.f7 Rows.recTurnedRow.domain false) (Rows.recTurnedSpec.post enc Try.prog Try.f7 false true false false) := by
  refine returnsInHanded_of_change (C := Try.checked) own started (by kernel_rfl) Try.func7
    (ChangeSpec.witness6 (enc := enc) (C := Try.checked) false ⟨#[], #[.agg #[.int .u32 0, .int .u16 0, .bool false, .bool false, .slice none 0 0, .slice none 0 0]], []⟩ 8 (by kernel_rfl) (by kernel_rfl) (by kernel_rfl) (by kernel_rfl)) ?_
  intro W base args ds gs before hval0 hW hcnd _
  have hval : ∀ (j : Nat) t v, Try.f7.params[j]? = some t → args[j]? = some v → Value.okWide Try.prog W .any base t v := hval0
  have hW' := hW
  obtain ⟨p, q, hA0, hV, rfl, hfz, hnd⟩ := hW
  have hA1 : DataW.TrodAll enc Try.prog W 0 (fun _ => true) true Try.f7.params.toList args.toList ds p := hA0
  have hA := hA1
  rw [Try.params7] at hA hval
  obtain ⟨v0, vs0, d0, ds0, p0, q0, hargs, rfl, rfl, h0, r0⟩ := trodAll_cons hA
  obtain ⟨rfl, rfl, rfl⟩ := trodAll_nil r0
  obtain rfl : args = #[v0] := by cases args; simp_all
  obtain ⟨rfl, rfl⟩ := trodVars_none hV
  obtain ⟨c, ca, cb, rfl, ok0, i0, j0⟩ := Rec.open_cg (hval 0 27 v0 rfl rfl) h0
  clear hA0 hval0
  refine (walk W c ok0 ca cb i0 j0).mono fun e W' ⟨he, bel⟩ => ?_
  subst he
  exact ⟨_, rfl, _, _, _, [], _, [], hW', trodAll_mk1 (shut_bool Try.underlying4 _), args_again laidOut bel (by kernel_rfl) hA1, rfl, bel.frame _, fun h => by cases h⟩

theorem over : Rows.recTurnedRow.holds Try.pinned (OpenSpec.ofChange Rows.recTurnedSpec) :=
  OpenClaim.holds_of_wide 7 Try.f7 rfl rfl rfl rfl rfl rfl rfl ⟨rfl, rfl, rfl, rfl, rfl⟩ rfl rfl rfl rfl rfl (by kernel_rfl) Try.func7 (by kernel_rfl)
    (of_decide_eq_true (by kernel_rfl)) (by unfold Func.isWrapper; first | (rw [if_pos (by decide +kernel)]; kernel_rfl) | (rw [if_neg (by decide +kernel)]; exact ⟨rfl, rfl⟩))
    (fun os started H enc _ => lifted os started H enc)

theorem proved : Rows.RecTurnedSaid := over
end Go.Proofs.Ytbbphfhkedldmaa.LRecTurned
