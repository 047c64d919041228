import Derived.Test.YtplombkpefacgaaDlD
/- One call on any two devices; rows beside two devices. -/
namespace Go.Proofs.Ytplombkpefacgaa.Disk
open Go.ChangeShapes Go.WideShapes Go.ChangeAt Go.RowKit Go.IntWalk Go.Proofs.Mem Go.Proofs.Each
set_option linter.unusedVariables false
set_option linter.unusedSimpArgs false
/-- a Bool is told -/
def SomeB (e : Ending) : Prop := ∃ q : Bool, e = .returned (.bool q)
set_option maxRecDepth 100000 in
set_option maxHeartbeats 16000000 in
theorem does_some {K : Nat → Prop} {B0 a b : Nat} {w : World} {D E : Dv} (h : Pq K B0 w a b D E) (hD : D.Few 100000) (hE : E.Few 100000) (o : Opn) (A1 : Option Addr) (L1 c1 : Nat) (A2 : Option Addr) (L2 c2 : Nat)
    (ho : o.Ok) (hx : ∀ w', Below B0 w w' → IR w' B0 .u8 (.slice A1 L1 c1) o.xs) (hs : ∀ w', Below B0 w w' → SS cFt 4 w' B0 (.slice A2 L2 c2) o.fs) (hxl : o.xs.length ≤ 100000) (hsl : o.fs.length ≤ 100000) :
    Calls Try.prog 13 #[.pointer (some ⟨a, 0, none⟩), .pointer (some ⟨b, 0, none⟩), .agg (opC o (.slice A1 L1 c1) (.slice A2 L2 c2))] w fun e w' => SomeB e ∧ Pq K B0 w' a b (doD D o) (doE E o) ∧ Below B0 w w' := by
  obtain ⟨f, hfi⟩ : ∃ f : Nat, o.f = f := ⟨o.f.toNat, by have := ho.2.1; omega⟩
  have hfn : o.f.toNat = f := by omega
  have hf255 : f ≤ 255 := by have := ho.2.1; omega
  have hm9 : o.k.tmod 9 = o.k % 9 := Int.tmod_eq_emod_of_nonneg ho.1.1
  have hmr : 0 ≤ o.k % 9 ∧ o.k % 9 < 9 := by omega
  have hbase := h.base
  obtain ⟨w1, hw1⟩ : ∃ w1, w1 = w.alloc (.cells (opC o (.slice A1 L1 c1) (.slice A2 L2 c2)) 33) := ⟨_, rfl⟩
  have BO := Lib.hid (show Box w1 w.heap.size (opC o (.slice A1 L1 c1) (.slice A2 L2 c2)) 33 by rw [hw1]; exact Box.new _ _ _)
  have P1 := Lib.hid (show Pq (fun x => K x ∨ x = w.heap.size) B0 w1 a b D E by rw [hw1]; exact h.fresh _)
  have HB1 := Lib.hid (show Below B0 w w1 by rw [hw1]; exact (new_ (Below.refl _ _) _).mono hbase)
  have HS1 := Lib.hid (show B0 ≤ w1.heap.size from Nat.le_trans hbase HB1.out.size)
  have kb := BO.out.cell
  have FD := Lib.hid hD
  have FE := Lib.hid hE
  have HX := Lib.hid hx
  have HSS := Lib.hid hs
  have HXL := Lib.hid hxl
  have HSL := Lib.hid hsl
  have HXB := Lib.hid ho.2.2.2.1
  have HFO := Lib.hid ho.2.2.2.2
  have HFI := Lib.hid hfi
  have HF := Lib.hid hf255
  have HSO := Lib.hid ho.2.2.1
  have FIN : Hid (∀ W D2 E2, Pq (fun x => K x ∨ x = w.heap.size) B0 W a b D2 E2 → Below B0 w1 W → Pq K B0 W a b D2 E2 ∧ Below B0 w W) := Lib.hid (fun W D2 E2 p q => ⟨p.less (fun x hx => .inl hx), HB1.out.trans q⟩)
  obtain ⟨m, hm⟩ : ∃ m, m = o.k % 9 := ⟨_, rfl⟩
  rw [← hm] at hm9 hmr
  have EDO : Hid (doD D o = if m = 8 then { D with lim := true, left := max o.s 0 } else if m = 5 then D.synA f else if m = 6 then D.crash o.fs else if m < 3 then D.wrA f o.s (fullS o.xs) else if m = 3 then D.wrA f o.s o.xs else D) := Lib.hid (by rw [hm, ← hfn]; rfl)
  have EEO : Hid (doE E o = if m = 8 then { E with lim := true, left := max o.s 0 } else if m = 5 then E.synA f else if m = 6 then E.rcrash o.fs else if m < 3 then E.wrA f o.s (fullS o.xs) else if m = 3 then E.wrA f o.s o.xs else E) := Lib.hid (by rw [hm, ← hfn]; rfl)
  obtain ⟨D2, hD2⟩ : ∃ D2, D2 = doD D o := ⟨_, rfl⟩
  obtain ⟨E2, hE2⟩ : ∃ E2, E2 = doE E o := ⟨_, rfl⟩
  rw [← hD2] at EDO
  rw [← hE2] at EEO
  rw [← hD2, ← hE2]
  have hcs : m = 8 ∨ m = 5 ∨ m = 6 ∨ m = 4 ∨ m = 7 ∨ m = 0 ∨ m = 1 ∨ m = 2 ∨ m = 3 := by omega
  clear h hD hE hx hs hxl hsl ho hfn hf255 hm hD2 hE2 hmr
  rcases hcs with rfl | rfl | rfl | rfl | rfl | rfl | rfl | rfl | rfl
  · have e1 := EDO.out
    have e2 := EEO.out
    simp only [if_true] at e1 e2
    have CA := Lib.hid (qa_halt P1.out o.s HSO.out.2)
    rw [← e1] at CA
    have E2E := Lib.hid e2
    clear e1 e2 EDO EEO
    go_enter Try.func13, Try.ntmps13
    go_wp2_with fail
    rw [← hw1]
    (with_reducible refine CA.out.mono ?_)
    rintro e w2 ⟨rfl, p2, b2, f2⟩
    clear hw1 kb
    have P2 := Lib.hid p2
    have B2 := Lib.hid b2
    have BO2 := Lib.hid (BO.out.fr f2 (fun h => h (.inr rfl)))
    have kb2 := BO2.out.cell
    have CB := Lib.hid (qb_halt P2.out o.s HSO.out.2)
    rw [← E2E.out] at CB
    clear p2 b2 f2
    go_wp2_with fail
    (with_reducible refine CB.out.mono ?_)
    rintro e w3 ⟨rfl, p3, b3, f3⟩
    have P3 := Lib.hid p3
    have B3 := Lib.hid (B2.out.trans b3)
    clear p3 b3 f3 kb2
    obtain ⟨SA, ca, fa, ua, ha⟩ := P3.out.one
    have HA := Lib.hid (halted_any w3 a fa D2.lim D2.left D2.dead ha.box)
    obtain ⟨SB, cb, fb, ub, hb⟩ := P3.out.swap.one
    have HBH := Lib.hid (rhalted_any w3 b fb E2.lim E2.left E2.dead hb.box)
    clear ha hb
    go_wp2_with fail
    (with_reducible refine HA.out.mono ?_)
    rintro e w9 ⟨rfl, rfl⟩
    go_wp2_with fail
    (with_reducible refine HBH.out.mono ?_)
    rintro e w9 ⟨rfl, rfl⟩
    go_wp2
    go_ret
    exact ⟨⟨_, rfl⟩, FIN.out _ _ _ P3.out B3.out⟩
  · have e1 := EDO.out
    have e2 := EEO.out
    simp only [Int.reduceEq, if_true, if_false, reduceIte] at e1 e2
    have CA := Lib.hid (qa_sync P1.out f f rfl HF.out FD.out)
    rw [← e1] at CA
    have E2E := Lib.hid e2
    clear e1 e2 EDO EEO
    go_enter Try.func13, Try.ntmps13
    go_wp2_with fail
    rw [← hw1]
    (with_reducible refine CA.out.mono ?_)
    rintro e w2 ⟨rfl, p2, b2, f2⟩
    clear hw1 kb
    have P2 := Lib.hid p2
    have B2 := Lib.hid b2
    have BO2 := Lib.hid (BO.out.fr f2 (fun h => h (.inr rfl)))
    have kb2 := BO2.out.cell
    have CB := Lib.hid (qb_sync P2.out f f rfl HF.out FE.out)
    rw [← E2E.out] at CB
    clear p2 b2 f2
    go_wp2_with fail
    (with_reducible refine CB.out.mono ?_)
    rintro e w3 ⟨rfl, p3, b3, f3⟩
    have P3 := Lib.hid p3
    have B3 := Lib.hid (B2.out.trans b3)
    clear p3 b3 f3 kb2
    obtain ⟨SA, ca, fa, ua, ha⟩ := P3.out.one
    have HA := Lib.hid (halted_any w3 a fa D2.lim D2.left D2.dead ha.box)
    obtain ⟨SB, cb, fb, ub, hb⟩ := P3.out.swap.one
    have HBH := Lib.hid (rhalted_any w3 b fb E2.lim E2.left E2.dead hb.box)
    clear ha hb
    go_wp2_with fail
    (with_reducible refine HA.out.mono ?_)
    rintro e w9 ⟨rfl, rfl⟩
    go_wp2_with fail
    (with_reducible refine HBH.out.mono ?_)
    rintro e w9 ⟨rfl, rfl⟩
    go_wp2
    go_ret
    exact ⟨⟨_, rfl⟩, FIN.out _ _ _ P3.out B3.out⟩
  · have e1 := EDO.out
    have e2 := EEO.out
    simp only [Int.reduceEq, if_true, if_false, reduceIte] at e1 e2
    have CA := Lib.hid (qa_crash P1.out (.slice A2 L2 c2) o.fs (fun w' hb _ => (HSS.out w' (HB1.out.trans hb)).more (Nat.le_trans P1.out.base hb.size)) HFO.out HSL.out FD.out)
    rw [← e1] at CA
    have E2E := Lib.hid e2
    clear e1 e2 EDO EEO
    go_enter Try.func13, Try.ntmps13
    go_wp2_with fail
    rw [← hw1]
    (with_reducible refine CA.out.mono ?_)
    rintro e w2 ⟨rfl, p2, b2, f2⟩
    clear hw1 kb
    have P2 := Lib.hid p2
    have B2 := Lib.hid b2
    have BO2 := Lib.hid (BO.out.fr f2 (fun h => h (.inr rfl)))
    have kb2 := BO2.out.cell
    have CB := Lib.hid (qb_crash P2.out (.slice A2 L2 c2) o.fs (fun w' hb _ => (HSS.out w' (HB1.out.trans (B2.out.trans hb))).more (Nat.le_trans P2.out.base hb.size)) HFO.out HSL.out FE.out)
    rw [← E2E.out] at CB
    clear p2 b2 f2
    go_wp2_with fail
    (with_reducible refine CB.out.mono ?_)
    rintro e w3 ⟨rfl, p3, b3, f3⟩
    have P3 := Lib.hid p3
    have B3 := Lib.hid (B2.out.trans b3)
    clear p3 b3 f3 kb2
    obtain ⟨SA, ca, fa, ua, ha⟩ := P3.out.one
    have HA := Lib.hid (halted_any w3 a fa D2.lim D2.left D2.dead ha.box)
    obtain ⟨SB, cb, fb, ub, hb⟩ := P3.out.swap.one
    have HBH := Lib.hid (rhalted_any w3 b fb E2.lim E2.left E2.dead hb.box)
    clear ha hb
    go_wp2_with fail
    (with_reducible refine HA.out.mono ?_)
    rintro e w9 ⟨rfl, rfl⟩
    go_wp2_with fail
    (with_reducible refine HBH.out.mono ?_)
    rintro e w9 ⟨rfl, rfl⟩
    go_wp2
    go_ret
    exact ⟨⟨_, rfl⟩, FIN.out _ _ _ P3.out B3.out⟩
  · have e1 := EDO.out
    have e2 := EEO.out
    simp only [Int.reduceEq, if_false, reduceIte, Int.reduceLT] at e1 e2
    rw [e1]
    rw [e2]
    clear e1 e2 EDO EEO
    obtain ⟨RE, hRE⟩ : ∃ R, R = D.rdE f o.s := ⟨_, rfl⟩
    have hrr : RE = 0 ∨ RE = 50 := by rw [hRE]; unfold Dv.rdE; split; (exact .inl rfl); (exact .inr rfl)
    obtain ⟨SA, ca, fa, ua, ha⟩ := P1.out.one
    have CA := Lib.hid (read_any ha FD.out f o.s f rfl HF.out)
    rw [← hRE] at CA
    obtain ⟨RF, hRE2⟩ : ∃ R, R = E.rdE f o.s := ⟨_, rfl⟩
    have HR2 := Lib.hid hRE2
    obtain ⟨q1, hq1⟩ : ∃ q, (RE == RF) = q := ⟨_, rfl⟩
    have wre : IntKind.i64.wrap RE = RE := IntWalk.i64_in _ (by omega)
    clear ha hRE hRE2 hrr
    go_enter Try.func13, Try.ntmps13
    go_wp2_with fail
    rw [← hw1]
    (with_reducible refine CA.out.mono ?_)
    rintro e w6 ⟨u6, rfl, o6, y6, hb6⟩
    clear hw1 kb
    have P6 := Lib.hid (P1.out.later hb6)
    have B6 := Lib.hid (hb6.mono HS1.out)
    have kb6 := (BO.out.later hb6).cell
    have O6 := Lib.hid o6
    have Y6 := Lib.hid y6
    clear o6 y6 hb6
    obtain ⟨SB, cb, fb, ub, hb⟩ := P6.out.swap.one
    have CB := Lib.hid (rread_any hb FE.out f o.s f rfl HF.out)
    rw [← HR2.out] at CB
    clear hb
    go_wp2_with fail
    (with_reducible refine CB.out.mono ?_)
    rintro e w7 ⟨u7, rfl, o7, y7, hb7⟩
    have P7 := Lib.hid (P6.out.later hb7)
    have B7 := Lib.hid (B6.out.trans (hb7.mono (P6.out.base)))
    have SM := Lib.hid (Blk.same_any _ _ _ _ _ _ _ (O6.out.below hb7) o7 Y6.out y7)
    obtain ⟨q2, hq2⟩ : ∃ q, decide (D.rd f o.s = E.rd f o.s) = q := ⟨_, rfl⟩
    rw [hq2] at SM
    clear o7 y7 hb7 kb6 hq2
    cases q1
    · go_wp2
      go_ret
      exact ⟨⟨_, rfl⟩, FIN.out _ _ _ P7.out B7.out⟩
    · go_wp2_with fail
      (with_reducible refine SM.out.mono ?_)
      rintro e w8 ⟨rfl, rfl⟩
      go_wp2
      go_ret
      exact ⟨⟨_, rfl⟩, FIN.out _ _ _ P7.out B7.out⟩
  · have e1 := EDO.out
    have e2 := EEO.out
    simp only [Int.reduceEq, if_false, reduceIte, Int.reduceLT] at e1 e2
    rw [e1]
    rw [e2]
    clear e1 e2 EDO EEO
    have WA := Lib.hid (fun d : Nat => (by
      obtain ⟨SA, ca, fa, ua, ha⟩ := P1.out.one
      exact waits_any (ha.later (below_drewN (Below.refl _ _) d)) f o.s f rfl HF.out : Calls Try.prog 23 #[.pointer (some ⟨a, 0, none⟩), .int .u8 (f : Int), .int .i64 o.s] (w1.drewN d) fun e w' => e = .returned (.int .i64 (D.wts f o.s)) ∧ w1.drewN d = w'))
    have WB := Lib.hid (fun d : Nat => (by
      obtain ⟨SB, cb, fb, ub, hb⟩ := P1.out.swap.one
      exact rwaits_any (hb.later (below_drewN (Below.refl _ _) d)) f o.s f rfl HF.out : Calls Try.prog 36 #[.pointer (some ⟨b, 0, none⟩), .int .u8 (f : Int), .int .i64 o.s] (w1.drewN d) fun e w' => e = .returned (.int .i64 (E.wts f o.s)) ∧ w1.drewN d = w'))
    have SA := Lib.hid (fun d : Nat => (by
      obtain ⟨SA, ca, fa, ua, ha⟩ := P1.out.one
      exact siz_any (ha.later (below_drewN (Below.refl _ _) d)) f f rfl HF.out : Calls Try.prog 22 #[.pointer (some ⟨a, 0, none⟩), .int .u8 (f : Int)] (w1.drewN d) fun e w' => e = .returned (.int .i64 (D.siz f)) ∧ w1.drewN d = w'))
    have SB := Lib.hid (fun d : Nat => (by
      obtain ⟨SB, cb, fb, ub, hb⟩ := P1.out.swap.one
      exact rsiz_any (hb.later (below_drewN (Below.refl _ _) d)) f f rfl HF.out : Calls Try.prog 37 #[.pointer (some ⟨b, 0, none⟩), .int .u8 (f : Int)] (w1.drewN d) fun e w' => e = .returned (.int .i64 (E.siz f)) ∧ w1.drewN d = w'))
    obtain ⟨W9, hW9⟩ : ∃ W9 : Int, W9 = D.wts f o.s := ⟨_, rfl⟩
    obtain ⟨V9, hV9⟩ : ∃ V9 : Int, V9 = E.wts f o.s := ⟨_, rfl⟩
    obtain ⟨Z9, hZ9⟩ : ∃ Z9 : Int, Z9 = D.siz f := ⟨_, rfl⟩
    obtain ⟨Y9, hY9⟩ : ∃ Y9 : Int, Y9 = E.siz f := ⟨_, rfl⟩
    rw [← hW9] at WA
    rw [← hV9] at WB
    rw [← hZ9] at SA
    rw [← hY9] at SB
    obtain ⟨q1, bw⟩ : ∃ q, (W9 == V9) = q := ⟨_, rfl⟩
    obtain ⟨q2, bz⟩ : ∃ q, (Z9 == Y9) = q := ⟨_, rfl⟩
    clear hW9 hZ9 hV9 hY9
    go_enter Try.func13, Try.ntmps13
    go_wp2_with fail
    rw [← hw1]
    clear hw1
    cases q1
    · go_quiet ((first
        | (go_at_call 23; (with_reducible exact quiet_l (WA.out _)))
        | (go_at_call 36; (with_reducible exact quiet_l (WB.out _)))
        | (go_at_call 22; (with_reducible exact quiet_l (SA.out _)))
        | (go_at_call 37; (with_reducible exact quiet_l (SB.out _)))))
      go_wp2
      go_ret
      exact ⟨⟨_, rfl⟩, FIN.out _ _ _ (P1.out.later (below_drewN (Below.refl _ _) _)) (below_drewN (Below.refl _ _) _)⟩
    · go_quiet ((first
        | (go_at_call 23; (with_reducible exact quiet_l (WA.out _)))
        | (go_at_call 36; (with_reducible exact quiet_l (WB.out _)))
        | (go_at_call 22; (with_reducible exact quiet_l (SA.out _)))
        | (go_at_call 37; (with_reducible exact quiet_l (SB.out _)))))
      go_wp2
      go_ret
      exact ⟨⟨_, rfl⟩, FIN.out _ _ _ (P1.out.later (below_drewN (Below.refl _ _) _)) (below_drewN (Below.refl _ _) _)⟩
  · have e1 := EDO.out
    have e2 := EEO.out
    simp only [Int.reduceEq, if_true, if_false, reduceIte, Int.reduceLT] at e1 e2
    have E1 := Lib.hid e1
    have E2E := Lib.hid e2
    clear e1 e2 EDO EEO
    have LB := Lib.hid (Blk.lent_any _ o.xs w1 B0 (HX.out w1 HB1.out) HXL.out)
    go_enter Try.func13, Try.ntmps13
    go_wp2_with fail
    rw [← hw1]
    (with_reducible refine LB.out.mono ?_)
    rintro e w2 ⟨u1, rfl, h1, b1⟩
    clear hw1 kb
    have kb2 := (BO.out.later b1).cell
    have HS2 := Lib.hid b1.size
    have FU := Lib.hid (full_any _ o.xs w2 B0 (Nat.le_trans HS1.out b1.size) (HX.out w2 (HB1.out.trans (b1.mono HS1.out))) HXB.out)
    have B12 := Lib.hid b1
    clear h1 b1
    go_wp2_with fail
    (with_reducible refine FU.out.mono ?_)
    rintro e w3 ⟨u, rfl, h3, b3⟩
    have R3 := Lib.hid (show w3.ownsRow w1.heap.size 5 1 u (fullS o.xs).length ((fullS o.xs).map (.int .u8)) by rw [fullS_len]; exact own_lower h3 HS2.out)
    have B3 := Lib.hid (show Below w1.heap.size w1 w3 from step_ B12.out b3)
    clear h3 b3 kb2
    have kb3 := (BO.out.later B3.out).cell
    obtain ⟨ys, hys⟩ : ∃ ys, ys = fullS o.xs := ⟨_, rfl⟩
    rw [← hys] at R3 E1 E2E
    have HYB := Lib.hid (show Bytes ys by rw [hys]; exact fullS_bytes HXB.out)
    have HYL := Lib.hid (show ys.length ≤ 100000 by rw [hys]; rw [fullS_len]; decide)
    clear hys
    have LB3 := Lib.hid (Blk.lent_any _ ys w3 _ (IR.of_own R3.out) HYL.out)
    go_wp2_with fail
    (with_reducible refine LB3.out.mono ?_)
    rintro e w4 ⟨u2, rfl, h4, b4⟩
    have B4 := Lib.hid (show Below w1.heap.size w1 w4 from step_ B3.out b4)
    have P4 := Lib.hid (P1.out.new B4.out (fun x => u.ownBlock = some x ∨ u2.ownBlock = some x) (fun x hx => by
      rcases hx with hx | hx
      · have := R3.out.lt x hx; have := b4.size; omega
      · have := h4.lt x hx; have := B3.out.size; omega))
    have R4 := Lib.hid (own_below R3.out b4)
    have R2 := Lib.hid h4
    have BO4 := Lib.hid (BO.out.later B4.out)
    have kb4 := BO4.out.cell
    obtain ⟨Au, cu, eu⟩ := own_slice' h4
    subst eu
    clear h4 b4 kb3
    have CA := Lib.hid (qa_write P4.out f o.s f rfl HF.out FD.out _ ys (fun w' hf => row_stay R2.out (fun g hg => .inr (.inr hg)) hf) HYB.out)
    rw [← E1.out] at CA
    obtain ⟨WE, hWE⟩ : ∃ WE, WE = D.wrE f o.s ys.length := ⟨_, rfl⟩
    rw [← hWE] at CA
    have hwe : WE = 0 ∨ WE = 1 ∨ WE = 50 := by
      rw [hWE]; unfold Dv.wrE
      split
      · split
        · exact .inl rfl
        · exact .inr (.inl rfl)
      · exact .inr (.inr rfl)
    obtain ⟨WF, hWF⟩ : ∃ WF, WF = E.wrE f o.s ys.length := ⟨_, rfl⟩
    have HWE2 := Lib.hid hWF
    obtain ⟨q1, bre⟩ : ∃ q, (WE == WF) = q := ⟨_, rfl⟩
    have wre : IntKind.i64.wrap WE = WE := IntWalk.i64_in _ (by omega)
    clear hWE hwe hWF
    go_wp2_with fail
    (with_reducible refine CA.out.mono ?_)
    rintro e w5 ⟨rfl, p5, b5, f5⟩
    have P5 := Lib.hid p5
    have B5 := Lib.hid ((B4.out.mono HS1.out).trans b5)
    have kb5 := (BO4.out.fr f5 (fun h => h (.inl (.inr rfl)))).cell
    have R5 := Lib.hid (own_frS R4.out f5 (fun k hk hs => hs (.inr (.inl hk))))
    have R25 := Lib.hid (own_frS R2.out f5 (fun k hk hs => hs (.inr (.inr hk))))
    have CB := Lib.hid (qb_write P5.out f o.s f rfl HF.out FE.out _ ys (fun w' hf => row_stay R5.out (fun g hg => .inr (.inl hg)) hf) HYB.out)
    rw [← E2E.out, ← HWE2.out] at CB
    clear p5 b5 f5 kb4
    go_wp2_with fail
    (with_reducible refine CB.out.mono ?_)
    rintro e w6 ⟨rfl, p6, b6, f6⟩
    have P6 := Lib.hid p6
    have B6 := Lib.hid (B5.out.trans b6)
    have R26 := Lib.hid (own_frS R25.out f6 (fun k hk hs => hs (.inr (.inr hk))))
    obtain ⟨Ly, hLy⟩ : ∃ Ly, Ly = ys.length := ⟨_, rfl⟩
    rw [← hLy] at R26 ⊢
    have HLY := Lib.hid hLy
    have hlyb : Ly ≤ 100000 := by rw [hLy]; exact HYL.out
    clear p6 b6 f6 kb5 hLy
    go_wp2
    go_loopw [15] (fun x wr => ∃ j : Nat, j ≤ Ly ∧ x = .int .i64 j ∧ Hid (Fr (fun x => (Value.slice Au Ly cu).ownBlock = some x) w6 wr) ∧ Hid (∃ zs : List Int, zs.length = Ly ∧ wr.ownsRow 0 5 1 (.slice Au Ly cu) zs.length (zs.map (.int .u8)))) (fun x _ => Ly - (intOf x).toNat)
    case atStart => exact ⟨0, Nat.zero_le _, rfl, Lib.hid (Fr.refl _ _), Lib.hid ⟨ys, HLY.out.symm, by rw [← HLY.out]; exact own_lower R26.out (Nat.zero_le _)⟩⟩
    case round =>
      obtain ⟨j, hj, rfl, HFR, HZ⟩ := hrel
      by_cases hlt : j < Ly
      · obtain ⟨zs, hzl, hzo⟩ := HZ.out
        obtain ⟨g, row, _, _⟩ := RowAt.of_own hzo (by omega)
        obtain ⟨cap9, eg⟩ := row.form
        injection eg with eg1 eg2 eg3
        subst eg1 eg3
        have dj : decide ((j : Int) < (Ly : Int)) = true := by simp; omega
        have djn : decide (j < Ly) = true := by simp; omega
        have kz : wr.cell? ⟨g, j, none⟩ = some (.int .u8 (zs.getD j 0)) := row_cell row j (by omega)
        have fz := row_frozen row j
        have HP := Lib.hid (fun x : Int => (⟨zs.set j x, by rw [List.length_set]; exact hzl, (row.put j x).own⟩ : ∃ zs' : List Int, zs'.length = Ly ∧ (wr.setCell ⟨g, j, none⟩ (.int .u8 x)).ownsRow 0 5 1 (.slice (some ⟨g, 0, none⟩) Ly cu) zs'.length (zs'.map (.int .u8))))
        have hji : (j : Int) < Ly := by omega
        generalize zs.getD j 0 = z0 at *
        clear hzo row HZ hzl
        go_wp2
        go_roundw
        case rel => exact ⟨j + 1, by omega, by go_num, Lib.hid (Fr.setCell HFR.out (p := ⟨g, j, none⟩) (.inl rfl) _), Lib.hid (HP.out _)⟩
        case measure => simp [intOf]; omega
      · have ej : j = Ly := by omega
        have dj : decide ((j : Int) < (Ly : Int)) = false := by simp; omega
        have P7 := Lib.hid (P6.out.away HFR.out (fun x hx => .inr (.inr (by rw [← HLY.out]; exact hx))))
        have B7 := Lib.hid (B6.out.trans (HFR.out.to_below (B := B0) (fun k hk => by have := (R2.out.lt k (by rw [← HLY.out]; exact hk)).1; have := B3.out.size; have := HS1.out; omega) P6.out.base))
        have FIN9 := Lib.hid (FIN.out _ _ _ (P7.out.less (fun x hx => .inl hx)) B7.out)
        have hji : ¬ (j : Int) < Ly := by omega
        clear ej hj
        go_wp2
        go_ret
        exact ⟨⟨_, rfl⟩, FIN9.out⟩
  · have e1 := EDO.out
    have e2 := EEO.out
    simp only [Int.reduceEq, if_true, if_false, reduceIte, Int.reduceLT] at e1 e2
    have E1 := Lib.hid e1
    have E2E := Lib.hid e2
    clear e1 e2 EDO EEO
    have LB := Lib.hid (Blk.lent_any _ o.xs w1 B0 (HX.out w1 HB1.out) HXL.out)
    go_enter Try.func13, Try.ntmps13
    go_wp2_with fail
    rw [← hw1]
    (with_reducible refine LB.out.mono ?_)
    rintro e w2 ⟨u1, rfl, h1, b1⟩
    clear hw1 kb
    have kb2 := (BO.out.later b1).cell
    have HS2 := Lib.hid b1.size
    have FU := Lib.hid (full_any _ o.xs w2 B0 (Nat.le_trans HS1.out b1.size) (HX.out w2 (HB1.out.trans (b1.mono HS1.out))) HXB.out)
    have B12 := Lib.hid b1
    clear h1 b1
    go_wp2_with fail
    (with_reducible refine FU.out.mono ?_)
    rintro e w3 ⟨u, rfl, h3, b3⟩
    have R3 := Lib.hid (show w3.ownsRow w1.heap.size 5 1 u (fullS o.xs).length ((fullS o.xs).map (.int .u8)) by rw [fullS_len]; exact own_lower h3 HS2.out)
    have B3 := Lib.hid (show Below w1.heap.size w1 w3 from step_ B12.out b3)
    clear h3 b3 kb2
    have kb3 := (BO.out.later B3.out).cell
    obtain ⟨ys, hys⟩ : ∃ ys, ys = fullS o.xs := ⟨_, rfl⟩
    rw [← hys] at R3 E1 E2E
    have HYB := Lib.hid (show Bytes ys by rw [hys]; exact fullS_bytes HXB.out)
    have HYL := Lib.hid (show ys.length ≤ 100000 by rw [hys]; rw [fullS_len]; decide)
    clear hys
    have LB3 := Lib.hid (Blk.lent_any _ ys w3 _ (IR.of_own R3.out) HYL.out)
    go_wp2_with fail
    (with_reducible refine LB3.out.mono ?_)
    rintro e w4 ⟨u2, rfl, h4, b4⟩
    have B4 := Lib.hid (show Below w1.heap.size w1 w4 from step_ B3.out b4)
    have P4 := Lib.hid (P1.out.new B4.out (fun x => u.ownBlock = some x ∨ u2.ownBlock = some x) (fun x hx => by
      rcases hx with hx | hx
      · have := R3.out.lt x hx; have := b4.size; omega
      · have := h4.lt x hx; have := B3.out.size; omega))
    have R4 := Lib.hid (own_below R3.out b4)
    have R2 := Lib.hid h4
    have BO4 := Lib.hid (BO.out.later B4.out)
    have kb4 := BO4.out.cell
    obtain ⟨Au, cu, eu⟩ := own_slice' h4
    subst eu
    clear h4 b4 kb3
    have CA := Lib.hid (qa_write P4.out f o.s f rfl HF.out FD.out _ ys (fun w' hf => row_stay R2.out (fun g hg => .inr (.inr hg)) hf) HYB.out)
    rw [← E1.out] at CA
    obtain ⟨WE, hWE⟩ : ∃ WE, WE = D.wrE f o.s ys.length := ⟨_, rfl⟩
    rw [← hWE] at CA
    have hwe : WE = 0 ∨ WE = 1 ∨ WE = 50 := by
      rw [hWE]; unfold Dv.wrE
      split
      · split
        · exact .inl rfl
        · exact .inr (.inl rfl)
      · exact .inr (.inr rfl)
    obtain ⟨WF, hWF⟩ : ∃ WF, WF = E.wrE f o.s ys.length := ⟨_, rfl⟩
    have HWE2 := Lib.hid hWF
    obtain ⟨q1, bre⟩ : ∃ q, (WE == WF) = q := ⟨_, rfl⟩
    have wre : IntKind.i64.wrap WE = WE := IntWalk.i64_in _ (by omega)
    clear hWE hwe hWF
    go_wp2_with fail
    (with_reducible refine CA.out.mono ?_)
    rintro e w5 ⟨rfl, p5, b5, f5⟩
    have P5 := Lib.hid p5
    have B5 := Lib.hid ((B4.out.mono HS1.out).trans b5)
    have kb5 := (BO4.out.fr f5 (fun h => h (.inl (.inr rfl)))).cell
    have R5 := Lib.hid (own_frS R4.out f5 (fun k hk hs => hs (.inr (.inl hk))))
    have R25 := Lib.hid (own_frS R2.out f5 (fun k hk hs => hs (.inr (.inr hk))))
    have CB := Lib.hid (qb_write P5.out f o.s f rfl HF.out FE.out _ ys (fun w' hf => row_stay R5.out (fun g hg => .inr (.inl hg)) hf) HYB.out)
    rw [← E2E.out, ← HWE2.out] at CB
    clear p5 b5 f5 kb4
    go_wp2_with fail
    (with_reducible refine CB.out.mono ?_)
    rintro e w6 ⟨rfl, p6, b6, f6⟩
    have P6 := Lib.hid p6
    have B6 := Lib.hid (B5.out.trans b6)
    have R26 := Lib.hid (own_frS R25.out f6 (fun k hk hs => hs (.inr (.inr hk))))
    obtain ⟨Ly, hLy⟩ : ∃ Ly, Ly = ys.length := ⟨_, rfl⟩
    rw [← hLy] at R26 ⊢
    have HLY := Lib.hid hLy
    have hlyb : Ly ≤ 100000 := by rw [hLy]; exact HYL.out
    clear p6 b6 f6 kb5 hLy
    go_wp2
    go_loopw [15] (fun x wr => ∃ j : Nat, j ≤ Ly ∧ x = .int .i64 j ∧ Hid (Fr (fun x => (Value.slice Au Ly cu).ownBlock = some x) w6 wr) ∧ Hid (∃ zs : List Int, zs.length = Ly ∧ wr.ownsRow 0 5 1 (.slice Au Ly cu) zs.length (zs.map (.int .u8)))) (fun x _ => Ly - (intOf x).toNat)
    case atStart => exact ⟨0, Nat.zero_le _, rfl, Lib.hid (Fr.refl _ _), Lib.hid ⟨ys, HLY.out.symm, by rw [← HLY.out]; exact own_lower R26.out (Nat.zero_le _)⟩⟩
    case round =>
      obtain ⟨j, hj, rfl, HFR, HZ⟩ := hrel
      by_cases hlt : j < Ly
      · obtain ⟨zs, hzl, hzo⟩ := HZ.out
        obtain ⟨g, row, _, _⟩ := RowAt.of_own hzo (by omega)
        obtain ⟨cap9, eg⟩ := row.form
        injection eg with eg1 eg2 eg3
        subst eg1 eg3
        have dj : decide ((j : Int) < (Ly : Int)) = true := by simp; omega
        have djn : decide (j < Ly) = true := by simp; omega
        have kz : wr.cell? ⟨g, j, none⟩ = some (.int .u8 (zs.getD j 0)) := row_cell row j (by omega)
        have fz := row_frozen row j
        have HP := Lib.hid (fun x : Int => (⟨zs.set j x, by rw [List.length_set]; exact hzl, (row.put j x).own⟩ : ∃ zs' : List Int, zs'.length = Ly ∧ (wr.setCell ⟨g, j, none⟩ (.int .u8 x)).ownsRow 0 5 1 (.slice (some ⟨g, 0, none⟩) Ly cu) zs'.length (zs'.map (.int .u8))))
        have hji : (j : Int) < Ly := by omega
        generalize zs.getD j 0 = z0 at *
        clear hzo row HZ hzl
        go_wp2
        go_roundw
        case rel => exact ⟨j + 1, by omega, by go_num, Lib.hid (Fr.setCell HFR.out (p := ⟨g, j, none⟩) (.inl rfl) _), Lib.hid (HP.out _)⟩
        case measure => simp [intOf]; omega
      · have ej : j = Ly := by omega
        have dj : decide ((j : Int) < (Ly : Int)) = false := by simp; omega
        have P7 := Lib.hid (P6.out.away HFR.out (fun x hx => .inr (.inr (by rw [← HLY.out]; exact hx))))
        have B7 := Lib.hid (B6.out.trans (HFR.out.to_below (B := B0) (fun k hk => by have := (R2.out.lt k (by rw [← HLY.out]; exact hk)).1; have := B3.out.size; have := HS1.out; omega) P6.out.base))
        have FIN9 := Lib.hid (FIN.out _ _ _ (P7.out.less (fun x hx => .inl hx)) B7.out)
        have hji : ¬ (j : Int) < Ly := by omega
        clear ej hj
        go_wp2
        go_ret
        exact ⟨⟨_, rfl⟩, FIN9.out⟩
  · have e1 := EDO.out
    have e2 := EEO.out
    simp only [Int.reduceEq, if_true, if_false, reduceIte, Int.reduceLT] at e1 e2
    have E1 := Lib.hid e1
    have E2E := Lib.hid e2
    clear e1 e2 EDO EEO
    have LB := Lib.hid (Blk.lent_any _ o.xs w1 B0 (HX.out w1 HB1.out) HXL.out)
    go_enter Try.func13, Try.ntmps13
    go_wp2_with fail
    rw [← hw1]
    (with_reducible refine LB.out.mono ?_)
    rintro e w2 ⟨u1, rfl, h1, b1⟩
    clear hw1 kb
    have kb2 := (BO.out.later b1).cell
    have HS2 := Lib.hid b1.size
    have FU := Lib.hid (full_any _ o.xs w2 B0 (Nat.le_trans HS1.out b1.size) (HX.out w2 (HB1.out.trans (b1.mono HS1.out))) HXB.out)
    have B12 := Lib.hid b1
    clear h1 b1
    go_wp2_with fail
    (with_reducible refine FU.out.mono ?_)
    rintro e w3 ⟨u, rfl, h3, b3⟩
    have R3 := Lib.hid (show w3.ownsRow w1.heap.size 5 1 u (fullS o.xs).length ((fullS o.xs).map (.int .u8)) by rw [fullS_len]; exact own_lower h3 HS2.out)
    have B3 := Lib.hid (show Below w1.heap.size w1 w3 from step_ B12.out b3)
    clear h3 b3 kb2
    have kb3 := (BO.out.later B3.out).cell
    obtain ⟨ys, hys⟩ : ∃ ys, ys = fullS o.xs := ⟨_, rfl⟩
    rw [← hys] at R3 E1 E2E
    have HYB := Lib.hid (show Bytes ys by rw [hys]; exact fullS_bytes HXB.out)
    have HYL := Lib.hid (show ys.length ≤ 100000 by rw [hys]; rw [fullS_len]; decide)
    clear hys
    have LB3 := Lib.hid (Blk.lent_any _ ys w3 _ (IR.of_own R3.out) HYL.out)
    go_wp2_with fail
    (with_reducible refine LB3.out.mono ?_)
    rintro e w4 ⟨u2, rfl, h4, b4⟩
    have B4 := Lib.hid (show Below w1.heap.size w1 w4 from step_ B3.out b4)
    have P4 := Lib.hid (P1.out.new B4.out (fun x => u.ownBlock = some x ∨ u2.ownBlock = some x) (fun x hx => by
      rcases hx with hx | hx
      · have := R3.out.lt x hx; have := b4.size; omega
      · have := h4.lt x hx; have := B3.out.size; omega))
    have R4 := Lib.hid (own_below R3.out b4)
    have R2 := Lib.hid h4
    have BO4 := Lib.hid (BO.out.later B4.out)
    have kb4 := BO4.out.cell
    obtain ⟨Au, cu, eu⟩ := own_slice' h4
    subst eu
    clear h4 b4 kb3
    have CA := Lib.hid (qa_write P4.out f o.s f rfl HF.out FD.out _ ys (fun w' hf => row_stay R2.out (fun g hg => .inr (.inr hg)) hf) HYB.out)
    rw [← E1.out] at CA
    obtain ⟨WE, hWE⟩ : ∃ WE, WE = D.wrE f o.s ys.length := ⟨_, rfl⟩
    rw [← hWE] at CA
    have hwe : WE = 0 ∨ WE = 1 ∨ WE = 50 := by
      rw [hWE]; unfold Dv.wrE
      split
      · split
        · exact .inl rfl
        · exact .inr (.inl rfl)
      · exact .inr (.inr rfl)
    obtain ⟨WF, hWF⟩ : ∃ WF, WF = E.wrE f o.s ys.length := ⟨_, rfl⟩
    have HWE2 := Lib.hid hWF
    obtain ⟨q1, bre⟩ : ∃ q, (WE == WF) = q := ⟨_, rfl⟩
    have wre : IntKind.i64.wrap WE = WE := IntWalk.i64_in _ (by omega)
    clear hWE hwe hWF
    go_wp2_with fail
    (with_reducible refine CA.out.mono ?_)
    rintro e w5 ⟨rfl, p5, b5, f5⟩
    have P5 := Lib.hid p5
    have B5 := Lib.hid ((B4.out.mono HS1.out).trans b5)
    have kb5 := (BO4.out.fr f5 (fun h => h (.inl (.inr rfl)))).cell
    have R5 := Lib.hid (own_frS R4.out f5 (fun k hk hs => hs (.inr (.inl hk))))
    have R25 := Lib.hid (own_frS R2.out f5 (fun k hk hs => hs (.inr (.inr hk))))
    have CB := Lib.hid (qb_write P5.out f o.s f rfl HF.out FE.out _ ys (fun w' hf => row_stay R5.out (fun g hg => .inr (.inl hg)) hf) HYB.out)
    rw [← E2E.out, ← HWE2.out] at CB
    clear p5 b5 f5 kb4
    go_wp2_with fail
    (with_reducible refine CB.out.mono ?_)
    rintro e w6 ⟨rfl, p6, b6, f6⟩
    have P6 := Lib.hid p6
    have B6 := Lib.hid (B5.out.trans b6)
    have R26 := Lib.hid (own_frS R25.out f6 (fun k hk hs => hs (.inr (.inr hk))))
    obtain ⟨Ly, hLy⟩ : ∃ Ly, Ly = ys.length := ⟨_, rfl⟩
    rw [← hLy] at R26 ⊢
    have HLY := Lib.hid hLy
    have hlyb : Ly ≤ 100000 := by rw [hLy]; exact HYL.out
    clear p6 b6 f6 kb5 hLy
    go_wp2
    go_loopw [15] (fun x wr => ∃ j : Nat, j ≤ Ly ∧ x = .int .i64 j ∧ Hid (Fr (fun x => (Value.slice Au Ly cu).ownBlock = some x) w6 wr) ∧ Hid (∃ zs : List Int, zs.length = Ly ∧ wr.ownsRow 0 5 1 (.slice Au Ly cu) zs.length (zs.map (.int .u8)))) (fun x _ => Ly - (intOf x).toNat)
    case atStart => exact ⟨0, Nat.zero_le _, rfl, Lib.hid (Fr.refl _ _), Lib.hid ⟨ys, HLY.out.symm, by rw [← HLY.out]; exact own_lower R26.out (Nat.zero_le _)⟩⟩
    case round =>
      obtain ⟨j, hj, rfl, HFR, HZ⟩ := hrel
      by_cases hlt : j < Ly
      · obtain ⟨zs, hzl, hzo⟩ := HZ.out
        obtain ⟨g, row, _, _⟩ := RowAt.of_own hzo (by omega)
        obtain ⟨cap9, eg⟩ := row.form
        injection eg with eg1 eg2 eg3
        subst eg1 eg3
        have dj : decide ((j : Int) < (Ly : Int)) = true := by simp; omega
        have djn : decide (j < Ly) = true := by simp; omega
        have kz : wr.cell? ⟨g, j, none⟩ = some (.int .u8 (zs.getD j 0)) := row_cell row j (by omega)
        have fz := row_frozen row j
        have HP := Lib.hid (fun x : Int => (⟨zs.set j x, by rw [List.length_set]; exact hzl, (row.put j x).own⟩ : ∃ zs' : List Int, zs'.length = Ly ∧ (wr.setCell ⟨g, j, none⟩ (.int .u8 x)).ownsRow 0 5 1 (.slice (some ⟨g, 0, none⟩) Ly cu) zs'.length (zs'.map (.int .u8))))
        have hji : (j : Int) < Ly := by omega
        generalize zs.getD j 0 = z0 at *
        clear hzo row HZ hzl
        go_wp2
        go_roundw
        case rel => exact ⟨j + 1, by omega, by go_num, Lib.hid (Fr.setCell HFR.out (p := ⟨g, j, none⟩) (.inl rfl) _), Lib.hid (HP.out _)⟩
        case measure => simp [intOf]; omega
      · have ej : j = Ly := by omega
        have dj : decide ((j : Int) < (Ly : Int)) = false := by simp; omega
        have P7 := Lib.hid (P6.out.away HFR.out (fun x hx => .inr (.inr (by rw [← HLY.out]; exact hx))))
        have B7 := Lib.hid (B6.out.trans (HFR.out.to_below (B := B0) (fun k hk => by have := (R2.out.lt k (by rw [← HLY.out]; exact hk)).1; have := B3.out.size; have := HS1.out; omega) P6.out.base))
        have FIN9 := Lib.hid (FIN.out _ _ _ (P7.out.less (fun x hx => .inl hx)) B7.out)
        have hji : ¬ (j : Int) < Ly := by omega
        clear ej hj
        go_wp2
        go_ret
        exact ⟨⟨_, rfl⟩, FIN9.out⟩
  · have e1 := EDO.out
    have e2 := EEO.out
    simp only [Int.reduceEq, if_true, if_false, reduceIte, Int.reduceLT] at e1 e2
    have E1 := Lib.hid e1
    have E2E := Lib.hid e2
    clear e1 e2 EDO EEO
    have LB := Lib.hid (Blk.lent_any _ o.xs w1 B0 (HX.out w1 HB1.out) HXL.out)
    go_enter Try.func13, Try.ntmps13
    go_wp2_with fail
    rw [← hw1]
    (with_reducible refine LB.out.mono ?_)
    rintro e w2 ⟨u1, rfl, h1, b1⟩
    clear hw1 kb
    have kb2 := (BO.out.later b1).cell
    have HS2 := Lib.hid b1.size
    obtain ⟨w3, hw3⟩ : ∃ w3, w3 = w2 := ⟨_, rfl⟩
    rw [← hw3] at h1 b1 kb2 ⊢
    obtain ⟨u, hu⟩ : ∃ u, u = u1 := ⟨_, rfl⟩
    rw [← hu] at h1 ⊢
    have R3 := Lib.hid h1
    have B3 := Lib.hid b1
    clear h1 b1 hw3 hu
    obtain ⟨ys, hys⟩ : ∃ ys, ys = o.xs := ⟨_, rfl⟩
    rw [← hys] at R3 E1 E2E
    have HYB := Lib.hid (show Bytes ys by rw [hys]; exact HXB.out)
    have HYL := Lib.hid (show ys.length ≤ 100000 by rw [hys]; exact HXL.out)
    clear hys
    have LB3 := Lib.hid (Blk.lent_any _ ys w3 _ (IR.of_own R3.out) HYL.out)
    go_wp2_with fail
    (with_reducible refine LB3.out.mono ?_)
    rintro e w4 ⟨u2, rfl, h4, b4⟩
    have B4 := Lib.hid (show Below w1.heap.size w1 w4 from step_ B3.out b4)
    have P4 := Lib.hid (P1.out.new B4.out (fun x => u.ownBlock = some x ∨ u2.ownBlock = some x) (fun x hx => by
      rcases hx with hx | hx
      · have := R3.out.lt x hx; have := b4.size; omega
      · have := h4.lt x hx; have := B3.out.size; omega))
    have R4 := Lib.hid (own_below R3.out b4)
    have R2 := Lib.hid h4
    have BO4 := Lib.hid (BO.out.later B4.out)
    have kb4 := BO4.out.cell
    obtain ⟨Au, cu, eu⟩ := own_slice' h4
    subst eu
    clear h4 b4 kb2
    have CA := Lib.hid (qa_write P4.out f o.s f rfl HF.out FD.out _ ys (fun w' hf => row_stay R2.out (fun g hg => .inr (.inr hg)) hf) HYB.out)
    rw [← E1.out] at CA
    obtain ⟨WE, hWE⟩ : ∃ WE, WE = D.wrE f o.s ys.length := ⟨_, rfl⟩
    rw [← hWE] at CA
    have hwe : WE = 0 ∨ WE = 1 ∨ WE = 50 := by
      rw [hWE]; unfold Dv.wrE
      split
      · split
        · exact .inl rfl
        · exact .inr (.inl rfl)
      · exact .inr (.inr rfl)
    obtain ⟨WF, hWF⟩ : ∃ WF, WF = E.wrE f o.s ys.length := ⟨_, rfl⟩
    have HWE2 := Lib.hid hWF
    obtain ⟨q1, bre⟩ : ∃ q, (WE == WF) = q := ⟨_, rfl⟩
    have wre : IntKind.i64.wrap WE = WE := IntWalk.i64_in _ (by omega)
    clear hWE hwe hWF
    go_wp2_with fail
    (with_reducible refine CA.out.mono ?_)
    rintro e w5 ⟨rfl, p5, b5, f5⟩
    have P5 := Lib.hid p5
    have B5 := Lib.hid ((B4.out.mono HS1.out).trans b5)
    have kb5 := (BO4.out.fr f5 (fun h => h (.inl (.inr rfl)))).cell
    have R5 := Lib.hid (own_frS R4.out f5 (fun k hk hs => hs (.inr (.inl hk))))
    have R25 := Lib.hid (own_frS R2.out f5 (fun k hk hs => hs (.inr (.inr hk))))
    have CB := Lib.hid (qb_write P5.out f o.s f rfl HF.out FE.out _ ys (fun w' hf => row_stay R5.out (fun g hg => .inr (.inl hg)) hf) HYB.out)
    rw [← E2E.out, ← HWE2.out] at CB
    clear p5 b5 f5 kb4
    go_wp2_with fail
    (with_reducible refine CB.out.mono ?_)
    rintro e w6 ⟨rfl, p6, b6, f6⟩
    have P6 := Lib.hid p6
    have B6 := Lib.hid (B5.out.trans b6)
    have R26 := Lib.hid (own_frS R25.out f6 (fun k hk hs => hs (.inr (.inr hk))))
    obtain ⟨Ly, hLy⟩ : ∃ Ly, Ly = ys.length := ⟨_, rfl⟩
    rw [← hLy] at R26 ⊢
    have HLY := Lib.hid hLy
    have hlyb : Ly ≤ 100000 := by rw [hLy]; exact HYL.out
    clear p6 b6 f6 kb5 hLy
    go_wp2
    go_loopw [15] (fun x wr => ∃ j : Nat, j ≤ Ly ∧ x = .int .i64 j ∧ Hid (Fr (fun x => (Value.slice Au Ly cu).ownBlock = some x) w6 wr) ∧ Hid (∃ zs : List Int, zs.length = Ly ∧ wr.ownsRow 0 5 1 (.slice Au Ly cu) zs.length (zs.map (.int .u8)))) (fun x _ => Ly - (intOf x).toNat)
    case atStart => exact ⟨0, Nat.zero_le _, rfl, Lib.hid (Fr.refl _ _), Lib.hid ⟨ys, HLY.out.symm, by rw [← HLY.out]; exact own_lower R26.out (Nat.zero_le _)⟩⟩
    case round =>
      obtain ⟨j, hj, rfl, HFR, HZ⟩ := hrel
      by_cases hlt : j < Ly
      · obtain ⟨zs, hzl, hzo⟩ := HZ.out
        obtain ⟨g, row, _, _⟩ := RowAt.of_own hzo (by omega)
        obtain ⟨cap9, eg⟩ := row.form
        injection eg with eg1 eg2 eg3
        subst eg1 eg3
        have dj : decide ((j : Int) < (Ly : Int)) = true := by simp; omega
        have djn : decide (j < Ly) = true := by simp; omega
        have kz : wr.cell? ⟨g, j, none⟩ = some (.int .u8 (zs.getD j 0)) := row_cell row j (by omega)
        have fz := row_frozen row j
        have HP := Lib.hid (fun x : Int => (⟨zs.set j x, by rw [List.length_set]; exact hzl, (row.put j x).own⟩ : ∃ zs' : List Int, zs'.length = Ly ∧ (wr.setCell ⟨g, j, none⟩ (.int .u8 x)).ownsRow 0 5 1 (.slice (some ⟨g, 0, none⟩) Ly cu) zs'.length (zs'.map (.int .u8))))
        have hji : (j : Int) < Ly := by omega
        generalize zs.getD j 0 = z0 at *
        clear hzo row HZ hzl
        go_wp2
        go_roundw
        case rel => exact ⟨j + 1, by omega, by go_num, Lib.hid (Fr.setCell HFR.out (p := ⟨g, j, none⟩) (.inl rfl) _), Lib.hid (HP.out _)⟩
        case measure => simp [intOf]; omega
      · have ej : j = Ly := by omega
        have dj : decide ((j : Int) < (Ly : Int)) = false := by simp; omega
        have P7 := Lib.hid (P6.out.away HFR.out (fun x hx => .inr (.inr (by rw [← HLY.out]; exact hx))))
        have B7 := Lib.hid (B6.out.trans (HFR.out.to_below (B := B0) (fun k hk => by have := (R2.out.lt k (by rw [← HLY.out]; exact hk)).1; have := B3.out.size; have := HS1.out; omega) P6.out.base))
        have FIN9 := Lib.hid (FIN.out _ _ _ (P7.out.less (fun x hx => .inl hx)) B7.out)
        have hji : ¬ (j : Int) < Ly := by omega
        clear ej hj
        go_wp2
        go_ret
        exact ⟨⟨_, rfl⟩, FIN9.out⟩
theorem doE_few {D : Dv} {m : Nat} (hm : D.Few m) (o : Opn) : (doE D o).Few (m + 1) := by
  unfold doE
  split
  · exact (hm.more (Nat.le_succ _)).of_f rfl
  · split
    · exact (synA_few' hm _).more (Nat.le_succ _)
    · split
      · exact ((crash_few D o.fs).more (Nat.zero_le _)).of_f rfl
      · split
        · exact wrA_few' hm _ _ _
        · split
          · exact wrA_few' hm _ _ _
          · exact hm.more (Nat.le_succ _)
theorem doD_lim {D : Dv} (h : D.lim = false) (o : Opn) (hk : ¬ o.k % 9 = 8) : (doD D o).lim = false := by
  unfold doD
  rw [if_neg hk]
  split
  · exact synA_lim h _
  · split
    · rfl
    · split
      · exact wrA_lim h _ _ _
      · split
        · exact wrA_lim h _ _ _
        · exact h
/-- what holds between two calls, when the two are not alike any more -/
def RelM (B0 : Nat) (w : World) (a b j : Nat) : Prop := ∃ D E : Dv, Pq none_ B0 w a b D E ∧ D.lim = false ∧ D.Few j ∧ E.Few j
theorem RelM.does {B0 : Nat} {w0 w : World} {a b j : Nat} (h : RelM B0 w a b j) (hj : j ≤ 100000) (hb0 : Below B0 w0 w) (x : Oi) (A1 : Option Addr) (L1 c1 : Nat) (A2 : Option Addr) (L2 c2 : Nat) (e1 : x.a = .slice A1 L1 c1) (e2 : x.lb = .slice A2 L2 c2) (hx : OiAt w0 B0 x) (hs : x.o.xs.length ≤ 200 ∧ x.o.fs.length ≤ 60) (hk : ¬ x.o.k % 9 = 8) :
    Calls Try.prog 13 #[.pointer (some ⟨a, 0, none⟩), .pointer (some ⟨b, 0, none⟩), .agg (opC x.o (.slice A1 L1 c1) (.slice A2 L2 c2))] w fun e w' => SomeB e ∧ RelM B0 w' a b (j + 1) ∧ Below B0 w w' := by
  obtain ⟨D, E, hp, hl, hf, hg⟩ := h
  obtain ⟨ho, hi, hss⟩ := hx
  rw [e1] at hi
  rw [e2] at hss
  refine (does_some hp (hf.more hj) (hg.more hj) x.o A1 L1 c1 A2 L2 c2 ho (fun w' hb => hi.below (hb0.trans hb)) (fun w' hb => hss.below (hb0.trans hb)) (by omega) (by omega)).mono ?_
  rintro e w' ⟨hq, p, b'⟩
  exact ⟨hq, ⟨_, _, p, doD_lim hl x.o hk, doD_few hf x.o, doE_few hg x.o⟩, b'⟩
/-- rows that lie where no device does -/
def TK (K : Nat → Prop) (w : World) (v : Value) (l : List Rw) : Prop := ∃ base top, Tab 5 30 w base top v l ∧ ∀ x, base ≤ x → x < top → K x
section
variable {K K' : Nat → Prop} {w w' : World} {v : Value} {l : List Rw}
theorem TK.fr (h : TK K w v l) (hf : Fr (fun x => ¬ K x) w w') : TK K w' v l := by
  obtain ⟨base, top, t, hk⟩ := h
  refine ⟨base, top, ⟨own_frS t.outer hf (fun g hg hn => hn (hk g (t.outer.lt g hg).1 (t.vtop g hg))), fun p hp => ?_, t.apart, t.vtop⟩, hk⟩
  have hr := (t.rows p hp)
  obtain ⟨cap, e⟩ := hr.1.form
  refine ⟨⟨hr.1.form, own_frS hr.1.own hf (fun g hg hn => ?_)⟩, hr.2⟩
  have h1 := (hr.1.own.lt g hg).1
  rw [e] at hg
  injection hg with hg
  simp only at hg
  exact hn (hk g h1 (by rw [← hg]; exact hr.2))
theorem TK.later (h : TK K w v l) (hb : Below w.heap.size w w') : TK K w' v l := by
  obtain ⟨base, top, t, hk⟩ := h
  exact ⟨base, top, t.later hb, hk⟩
theorem TK.more (h : TK K w v l) (hk' : ∀ x, K x → K' x) : TK K' w v l := by
  obtain ⟨base, top, t, hk⟩ := h
  exact ⟨base, top, t, fun x h1 h2 => hk' x (hk x h1 h2)⟩
theorem TK.sr (h : TK K w v l) (hx : ∀ p ∈ l, Bytes p.2.2) : ∃ top, SR w top v (l.map (·.2)) := by
  obtain ⟨base, top, t, hk⟩ := h
  exact ⟨top, t.sr hx⟩
end
theorem PairT.range {tS tD tS' tD' : TypeId} {K : Nat → Prop} {B0 a b : Nat} {w w' : World} {D E : Dv} (h : PairT tS tD tS' tD' K B0 w a b D E) (hb : Below w.heap.size w w') : PairT tS tD tS' tD' (fun x => K x ∨ (w.heap.size ≤ x ∧ x < w'.heap.size)) B0 w' a b D E :=
  h.new hb _ (fun x hx => hx)
theorem qa_image {K : Nat → Prop} {B0 a b : Nat} {w : World} {D E : Dv} (h : Pq K B0 w a b D E) (I : Int) (i : Nat) (hI : I = i) (hi : i < 2) :
    Calls Try.prog 19 #[.pointer (some ⟨a, 0, none⟩), .int .u8 I] w fun e w' => ∃ v l, e = .returned v ∧ Pq (fun x => K x ∨ (w.heap.size ≤ x ∧ x < w'.heap.size)) B0 w' a b D E ∧ TK (fun x => K x ∨ (w.heap.size ≤ x ∧ x < w'.heap.size)) w' v l ∧ l.map (·.2.2) = (D.f i).map (·.last) ∧ (∀ p ∈ l, Bytes p.2.2) ∧ Below w.heap.size w w' := by
  obtain ⟨S, c, f, u, ha⟩ := h.one
  refine (image_at I ha i hI hi).mono ?_
  rintro e w' ⟨v, l, rfl, t, m, hb⟩
  exact ⟨v, l, rfl, h.range hb, ⟨_, _, t, fun x h1 h2 => .inr ⟨h1, h2⟩⟩, m, img_bytes ha hi m, hb⟩
/-- nothing waits for it: a crash leaves it -/
theorem crS_bare (l : List Ft) (k n : Nat) (s : Se) (h : s.wait.length = 0) : crS l k n s = ⟨s.last, []⟩ := by
  unfold crS Se.crash
  have e : kp (fateAt l k n).keep s.wait.length = 0 := by rw [h]; unfold kp; omega
  rw [e, h, if_neg (by omega)]
  unfold Se.keep
  rw [if_pos rfl]
theorem crash_f (D : Dv) (l : List Ft) (k : Nat) (hk : k < 2) : (D.crash l).f k = (D.f k).mapIdx (fun n s => crS l k n s) := by
  show (D.f k).mapIdx (fun n s => if k < 2 ∨ (k = 2 ∧ n < 0) then crS l k n s else s) = _
  congr 1
  funext n s
  rw [if_pos (.inl hk)]
theorem crash_last (D : Dv) (l : List Ft) (k : Nat) (hk : k < 2) (n : Nat) (s : Se) (hs : (D.f k)[n]? = some s) (h : s.wait.length = 0) : ((D.crash l).f k)[n]? = some ⟨s.last, []⟩ := by
  rw [crash_f D l k hk, List.getElem?_mapIdx, hs]
  simp only [Option.map_some]
  rw [crS_bare l k n s h]
theorem crash_lasts (D : Dv) (l : List Ft) (k : Nat) (hk : k < 2) (h : ∀ s ∈ D.f k, s.wait.length = 0) : ((D.crash l).f k).map (·.last) = (D.f k).map (·.last) := by
  apply List.ext_getElem?
  intro n
  rw [List.getElem?_map, List.getElem?_map]
  cases e : (D.f k)[n]? with
  | none => rw [crash_f D l k hk, List.getElem?_mapIdx, e]; rfl
  | some s => rw [crash_last D l k hk n s e (h s (List.mem_of_getElem? e))]; rfl
/-- DiskLasts' device: as it was when its image was taken, behind Sync of the other file, behind two crashes -/
structure Lst (D : Dv) : Prop where
  lim : D.lim = false
  few : D.Few 100
  l0 : (D.f 0).length ≤ 4096
theorem lst_sync {D : Dv} (h : D.lim = false) : (D.synA 1).f 0 = D.f 0 ∧ ∀ s ∈ (D.synA 1).f 1, s.wait.length = 0 := by
  constructor
  · rw [synA_f h, if_neg (fun hh => by cases hh.2)]
  · intro s hs
    rw [synA_f h, if_pos ⟨by decide, rfl⟩] at hs
    obtain ⟨s', _, rfl⟩ := List.mem_map.1 hs
    rfl
end Go.Proofs.Ytplombkpefacgaa.Disk
