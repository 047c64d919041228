import Derived.Test.YtbbphfhkedldmaaRecL0
import Derived.Deep.DeepCutAuto
import Derived.Deep.CutRange
/- The document's record that may be. -/
namespace Go.Proofs.Ytbbphfhkedldmaa.Rec
open Go.ChangeShapes Go.WideShapes Go.ChangeAt Go.RowKit Go.IntWalk Go.Proofs.NumMath Go.Proofs.Mem Go.Proofs.CrcMath NumBytes CrcA
set_option linter.unusedVariables false
set_option linter.unusedSimpArgs false
set_option maxRecDepth 100000 in
set_option maxHeartbeats 16000000 in
theorem may_ref (r : Rc) (a b ta da : Value) (w : World) (B : Nat) (hB : B ≤ w.heap.size) (h : RcIn w B r a b ta da) : Calls Try.prog 29 #[.agg (rcV r a b ta da)] w fun e w' => e = .returned (.bool (mayS r)) ∧ Below w.heap.size w w' := by
  have hme := may_eq r
  obtain ⟨A1, c1, e1, hl1, hm1⟩ := h.a.form
  obtain ⟨A2, c2, e2, hl2, hm2⟩ := h.b.form
  obtain ⟨A3, c3, e3, hl3, hm3⟩ := h.t.form
  obtain ⟨A4, c4, e4, hl4, hm4⟩ := h.d.form
  obtain ⟨L1, hL1⟩ : ∃ L, L = r.c.xs.length := ⟨_, rfl⟩
  obtain ⟨L2, hL2⟩ : ∃ L, L = r.c.ys.length := ⟨_, rfl⟩
  obtain ⟨L4, hL4⟩ : ∃ L, L = r.ds.length := ⟨_, rfl⟩
  obtain ⟨L3, hL3⟩ : ∃ L, L = r.ts.length := ⟨_, rfl⟩
  subst e1 e2 e3 e4
  rw [← hL1] at hl1 h ⊢ hme
  rw [← hL2] at hl2 h ⊢ hme
  rw [← hL3] at hl3 h ⊢ hme
  rw [← hL4] at hl4 h ⊢ hme
  unfold maxLen at hm1 hm2 hm3 hm4
  obtain ⟨q, hq⟩ : ∃ q, q = mayS r := ⟨_, rfl⟩
  rw [← hq] at hme ⊢
  obtain ⟨lt1, hlt1⟩ : ∃ b, b = decide (r.k < 1) := ⟨_, rfl⟩
  have d_lt1 : decide (r.k < 1) = lt1 := hlt1.symm
  rw [← hlt1] at hme
  clear hlt1
  obtain ⟨gt8, hgt8⟩ : ∃ b, b = decide (8 < r.k) := ⟨_, rfl⟩
  have d_gt8 : decide (8 < r.k) = gt8 := hgt8.symm
  rw [← hgt8] at hme
  clear hgt8
  obtain ⟨m3, hm3⟩ : ∃ b, b = decide (64 < L3) := ⟨_, rfl⟩
  have d0_m3 : decide ((64 : Int) < (L3 : Int)) = m3 := by rw [hm3, decide_eq_decide]; omega
  rw [← hm3] at hme
  clear hm3
  obtain ⟨m4, hm4⟩ : ∃ b, b = decide (64 < L4) := ⟨_, rfl⟩
  have d0_m4 : decide ((64 : Int) < (L4 : Int)) = m4 := by rw [hm4, decide_eq_decide]; omega
  rw [← hm4] at hme
  clear hm4
  obtain ⟨x64, hx64⟩ : ∃ b, b = decide (64 < L1) := ⟨_, rfl⟩
  have d0_x64 : decide ((64 : Int) < (L1 : Int)) = x64 := by rw [hx64, decide_eq_decide]; omega
  rw [← hx64] at hme
  clear hx64
  obtain ⟨y64, hy64⟩ : ∃ b, b = decide (64 < L2) := ⟨_, rfl⟩
  have d0_y64 : decide ((64 : Int) < (L2 : Int)) = y64 := by rw [hy64, decide_eq_decide]; omega
  rw [← hy64] at hme
  clear hy64
  obtain ⟨k2, hk2⟩ : ∃ b, b = decide (r.k = 2) := ⟨_, rfl⟩
  have d0_k2 : (r.k == 2) = k2 := by rw [hk2, beq_dec]
  rw [← hk2] at hme
  clear hk2
  obtain ⟨k3, hk3⟩ : ∃ b, b = decide (r.k = 3) := ⟨_, rfl⟩
  have d0_k3 : (r.k == 3) = k3 := by rw [hk3, beq_dec]
  rw [← hk3] at hme
  clear hk3
  obtain ⟨p0, hp0⟩ : ∃ b, b = !decide (r.c.pg = 0) := ⟨_, rfl⟩
  have d0_p0 : (r.c.pg != 0) = p0 := by rw [hp0, bne_dec]
  rw [← hp0] at hme
  clear hp0
  obtain ⟨s0, hs0⟩ : ∃ b, b = !decide (r.c.sl = 0) := ⟨_, rfl⟩
  have d0_s0 : (r.c.sl != 0) = s0 := by rw [hs0, bne_dec]
  rw [← hs0] at hme
  clear hs0
  obtain ⟨x0, hx0⟩ : ∃ b, b = decide (0 < L1) := ⟨_, rfl⟩
  have d0_x0 : decide ((0 : Int) < (L1 : Int)) = x0 := by rw [hx0, decide_eq_decide]; omega
  have d1_x0 : decide (0 < L1) = x0 := by rw [hx0]
  rw [← hx0] at hme
  clear hx0
  obtain ⟨y0, hy0⟩ : ∃ b, b = decide (0 < L2) := ⟨_, rfl⟩
  have d0_y0 : decide ((0 : Int) < (L2 : Int)) = y0 := by rw [hy0, decide_eq_decide]; omega
  have d1_y0 : decide (0 < L2) = y0 := by rw [hy0]
  rw [← hy0] at hme
  clear hy0
  obtain ⟨b8, hb8⟩ : ∃ b, b = decide (r.k = 8) := ⟨_, rfl⟩
  have d0_b8 : (r.k != 8) = !b8 := by rw [hb8, bne_dec]
  rw [← hb8] at hme
  clear hb8
  obtain ⟨n34, hn34⟩ : ∃ b, b = decide (0 < L3 + L4) := ⟨_, rfl⟩
  have d0_n34 : decide ((0 : Int) < (L3 : Int) + (L4 : Int)) = n34 := by rw [hn34, decide_eq_decide]; omega
  rw [← hn34] at hme
  clear hn34

  obtain ⟨w0, hw0⟩ : ∃ w0, (w.alloc (.cells (rcV r (.slice A1 L1 c1) (.slice A2 L2 c2) (.slice A3 L3 c3) (.slice A4 L4 c4)) 31)).alloc (.cells (cgC r.c.pg r.c.sl r.c.had r.c.has (.slice A1 L1 c1) (.slice A2 L2 c2)) 27) = w0 := ⟨_, rfl⟩
  have BR := Lib.hid (show Box w0 w.heap.size (rcV r (.slice A1 L1 c1) (.slice A2 L2 c2) (.slice A3 L3 c3) (.slice A4 L4 c4)) 31 by rw [← hw0]; exact (Box.new _ _ _).alloc _)
  have BC := Lib.hid (show Box w0 (w.heap.size + 1) (cgC r.c.pg r.c.sl r.c.had r.c.has (.slice A1 L1 c1) (.slice A2 L2 c2)) 27 by rw [← hw0]; have := Box.new (w.alloc (.cells (rcV r (.slice A1 L1 c1) (.slice A2 L2 c2) (.slice A3 L3 c3) (.slice A4 L4 c4)) 31)) (cgC r.c.pg r.c.sl r.c.had r.c.has (.slice A1 L1 c1) (.slice A2 L2 c2)) 27; rwa [World.size_alloc] at this)
  have HW0 := Lib.hid (show Below w.heap.size w w0 by rw [← hw0]; exact new_ (new_ (Below.refl _ _) _) _)
  have R0 := Lib.hid (h.below (HW0.out.mono hB))
  have hw0' : (w.alloc (.cells (rcV r (.slice A1 L1 c1) (.slice A2 L2 c2) (.slice A3 L3 c3) (.slice A4 L4 c4)) 31)).alloc (.cells #[.int .u32 r.c.pg, .int .u16 r.c.sl, .bool r.c.had, .bool r.c.has, .slice A1 L1 c1, .slice A2 L2 c2] 27) = w0 := hw0
  have HWE := Lib.hid hw0'
  obtain ⟨qc, hqc⟩ : ∃ b, b = (k2 || k3) := ⟨_, rfl⟩
  obtain ⟨t3, ht3⟩ : ∃ b, b = (lt1 || gt8 || m3 || m4 || x64 || y64) := ⟨_, rfl⟩
  obtain ⟨t5, ht5⟩ : ∃ b, b = (!qc && (p0 || s0 || r.c.had || r.c.has)) := ⟨_, rfl⟩
  obtain ⟨t7, ht7⟩ : ∃ b, b = ((!r.c.had && x0) || (!r.c.has && y0)) := ⟨_, rfl⟩
  obtain ⟨t9, ht9⟩ : ∃ b, b = (!b8 && n34) := ⟨_, rfl⟩
  unfold mayR at hme
  rw [← hqc, ← ht3, ← ht5, ← ht7, ← ht9] at hme
  have HQC := Lib.hid hqc
  have HT3 := Lib.hid ht3
  have HT5 := Lib.hid ht5
  have HT7 := Lib.hid ht7
  have HT9 := Lib.hid ht9
  have HQ := Lib.hid hme
  clear hqc ht3 ht5 ht7 ht9
  have HL3 := Lib.hid hL3
  clear hw0 hw0' hme hL1 hL2 hL3 hL4 h hB hq
  go_enter Try.func29, Try.ntmps29
  go_upto_region 2 with (fail)
  rw [HWE.out]
  have kR := BR.out.cell
  have kC := BC.out.cell
  go_cut [4] (fun v wx => v = .bool qc ∧ w0 = wx)
  case first =>
    go_wp2_with fail
    all_goals
      go_meet
      exact ⟨by rw [HQC.out]; simp [*], rfl⟩
  case rest =>
    obtain ⟨rfl, rfl⟩ := hcut
    go_upto_region 3 with (fail)
    go_cut [47] (fun v wx => v = .bool t3 ∧ w0 = wx)
    case first =>
      go_wp2_with fail
      all_goals
        go_meet
        exact ⟨by rw [HT3.out]; simp [*], rfl⟩
    case rest =>
      obtain ⟨rfl, rfl⟩ := hcut
      go_upto_region 5 with (fail)
      all_goals first
        | (go_ret; exact ⟨by rw [HQ.out]; simp [*], HW0.out⟩)
        | skip
      have hmm : m3 = false ∧ m4 = false := by have := HT3.out; rw [show t3 = false by assumption] at this; revert this; cases lt1 <;> cases gt8 <;> cases m3 <;> cases m4 <;> simp
      have hz3 : L3 ≤ 64 := by have := d0_m3; rw [hmm.1] at this; simp at this; omega
      have hz4 : L4 ≤ 64 := by have := d0_m4; rw [hmm.2] at this; simp at this; omega
      clear hmm
      go_cut [4, 67] (fun c v wx => c = .bool qc ∧ v = .bool t5 ∧ w0 = wx)
      case first =>
        go_wp2_with fail
        all_goals
          go_meet
          exact ⟨by simp [*], by rw [HT5.out]; simp [*], rfl⟩
      case rest =>
        obtain ⟨rfl, rfl, rfl⟩ := hcut
        go_upto_region 7 with (fail)
        all_goals first
          | (go_ret; exact ⟨by rw [HQ.out]; simp [*], HW0.out⟩)
          | skip
        go_cut [87] (fun v wx => v = .bool t7 ∧ w0 = wx)
        case first =>
          go_wp2_with fail
          all_goals
            go_meet
            exact ⟨by rw [HT7.out]; simp [*], rfl⟩
        case rest =>
          obtain ⟨rfl, rfl⟩ := hcut
          go_upto_region 9 with (fail)
          all_goals first
            | (go_ret; exact ⟨by rw [HQ.out]; simp [*], HW0.out⟩)
            | skip
          go_cut [100] (fun v wx => v = .bool t9 ∧ w0 = wx)
          case first =>
            go_wp2_with fail
            all_goals
              go_meet
              exact ⟨by rw [HT9.out]; simp [*], rfl⟩
          case rest =>
            obtain ⟨rfl, rfl⟩ := hcut
            go_upto_region 11 with (fail)
            all_goals first
              | (go_ret; exact ⟨by rw [HQ.out]; simp [*], HW0.out⟩)
              | skip
            have e3 : t3 = false := by assumption
            have e5 : t5 = false := by assumption
            have e7 : t7 = false := by assumption
            have e9 : t9 = false := by assumption
            have hq2 : q = r.ts.all okA := by rw [HQ.out, e3, e5, e7, e9]; simp
            have HQ2 := Lib.hid hq2
            have f3 := e3
            have f5 := e5
            have f7 := e7
            have f9 := e9
            clear hq2 e3 e5 e7 e9 HQ HQC HT3 HT5 HT7 HT9 d0_m3 d0_m4 d0_x64 d0_y64 d0_k2 d0_k3 d0_p0 d0_s0 d0_x0 d1_x0 d0_y0 d1_y0 d0_b8 d0_n34 d_lt1 d_gt8
            subst f3 f5 f7 f9
            go_wp2
            go_loopw [5] (fun i wr => ∃ j : Nat, i = .int .i64 j ∧ j ≤ L3 ∧ Hid ((r.ts.take j).all okA = true) ∧ w0 = wr) (fun i _ => L3 - (intOf i).toNat)
            case atStart => exact ⟨0, rfl, Nat.zero_le _, Lib.hid (by simp), rfl⟩
            case round =>
              obtain ⟨j, rfl, hj, HA, rfl⟩ := hrel
              by_cases hlt : j < L3
              · have hlt' : j < r.ts.length := by have := HL3.out; omega
                obtain ⟨g, off, rfl, hg, hcell⟩ := R0.out.t.at_ (List.getElem?_eq_getElem hlt')
                have y3 : w0.cell? ⟨g, off + j * 4 + 3, none⟩ = some (.int .u8 r.ts[j].s) := hcell 3 _ rfl
                have hsn := take_all_snoc r.ts j hlt'
                obtain ⟨s1, hs1⟩ : ∃ b, b = decide (r.ts[j].s < 1) := ⟨_, rfl⟩
                obtain ⟨s2, hs2⟩ : ∃ b, b = decide (3 < r.ts[j].s) := ⟨_, rfl⟩
                have d1 : decide (r.ts[j].s < 1) = s1 := hs1.symm
                have d2 : decide (3 < r.ts[j].s) = s2 := hs2.symm
                rw [HA.out, Bool.true_and, okA, show decide (1 ≤ r.ts[j].s) = !s1 by rw [hs1, ← decide_not, decide_eq_decide]; omega, show decide (r.ts[j].s ≤ 3) = !s2 by rw [hs2, ← decide_not, decide_eq_decide]; omega] at hsn
                have HS := Lib.hid hsn
                have hfull : r.ts.all okA = ((r.ts.take (j + 1)).all okA && (r.ts.drop (j + 1)).all okA) := by rw [← List.all_append, List.take_append_drop]
                have HF := Lib.hid hfull
                generalize r.ts[j].s = v3 at *
                clear hcell hsn hs1 hs2 hfull
                go_wp2
                all_goals first
                  | (go_ret; exact ⟨by rw [HQ2.out, HF.out, HS.out]; simp [*], HW0.out⟩)
                  | (go_roundw
                     case rel => exact ⟨j + 1, by go_num, by omega, Lib.hid (by rw [HS.out]; simp [*]), by first | rfl | trivial⟩
                     case measure => simp [intOf]; omega)
              · have hje : j = L3 := by omega
                have hall : r.ts.all okA = true := by have := HA.out; rwa [List.take_of_length_le (by have := HL3.out; omega)] at this
                have HALL := Lib.hid hall
                clear hall HA
                go_wp2
                go_ret
                exact ⟨by rw [HQ2.out, HALL.out]; rfl, HW0.out⟩
end Go.Proofs.Ytbbphfhkedldmaa.Rec
