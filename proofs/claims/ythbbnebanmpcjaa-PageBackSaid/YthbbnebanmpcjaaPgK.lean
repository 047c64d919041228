import Derived.Test.YthbbnebanmpcjaaPgJ
import Derived.Deep.RegionWith
import Derived.Deep.DeepCutAuto
import Derived.Deep.CutRange
/- A page: whole. -/
namespace Go.Proofs.Ythbbnebanmpcjaa.Pg
open Go.ChangeShapes Go.WideShapes Go.ChangeAt Go.RowKit Go.IntWalk Go.Proofs.Mem Go.Proofs.Each
set_option linter.unusedVariables false
set_option linter.unusedSimpArgs false
def WholeOut (xs : List Int) (w : World) (e : Ending) (w' : World) : Prop := ∃ q, e = .returned (.bool q) ∧ (q = true ↔ Wf xs) ∧ Below w.heap.size w w'
theorem whole_no {xs : List Int} {w W : World} (hW : Below w.heap.size w W) (hn : ¬ Wf xs) : WholeOut xs w (.returned (.bool false)) W := ⟨false, rfl, by simp [hn], hW⟩
set_option maxRecDepth 100000 in
set_option maxHeartbeats 8000000 in
theorem whole_any (w : World) (b : Nat) (xs : List Int) (h : PgAt w b xs) :
    Calls Try.prog 40 #[.pointer (some ⟨b, 0, none⟩)] w (WholeOut xs w) := by
  have CA := Lib.hid (count_any w b xs h)
  obtain ⟨C, hC⟩ : ∃ C, C = cnt xs := ⟨_, rfl⟩
  by_cases hc : cnt xs ≤ 40
  case neg =>
    rw [← hC] at CA hc
    have NO := Lib.hid (fun (W : World) (hW : Below w.heap.size w W) => whole_no (xs := xs) hW (fun k => hc (by rw [hC]; exact k.w0.cnt)))
    have dc : decide ((40 : Int) < (C : Int)) = true := by simp; omega
    clear h hC hc
    go_enter Try.func40, Try.ntmps40
    go_wp2_with fail
    (with_reducible refine CA.out.mono ?_)
    rintro e wx ⟨rfl, rfl⟩
    go_wp2
    go_ret
    exact NO.out _ (Below.refl _ _)
  have HP := Lib.hid h
  have LA := Lib.hid (fun (h0 : C ≠ 0) => length_any w b xs h (C - 1) (by omega) ((C : Int) - 1) (by omega))
  have LO := Lib.hid (low_any w b xs h)
  have LW := Lib.hid (lowest_any w b xs h)
  rw [Nat.min_eq_left hc] at LW
  obtain ⟨lo, hlo⟩ : ∃ l, l = low xs := ⟨_, rfl⟩
  obtain ⟨lw, hlw⟩ : ∃ l, l = lowTo xs (cnt xs) := ⟨_, rfl⟩
  obtain ⟨ll, hll⟩ : ∃ l, l = len xs (C - 1) := ⟨_, rfl⟩
  rw [← hlo] at LO
  rw [← hlw] at LW
  rw [← hll] at LA
  rw [← hC] at CA hc hlw
  obtain ⟨qb, hqb⟩ : ∃ q, ((lo : Int) != (lw : Int)) = q := ⟨_, rfl⟩
  obtain ⟨qa, hqa⟩ : ∃ q, ((ll : Int) == 0) = q := ⟨_, rfl⟩
  obtain ⟨qz, hqz⟩ : ∃ q, decide ((0 : Int) < (C : Int)) = q := ⟨_, rfl⟩
  have hqz2 : decide (0 < C) = qz := by rw [← hqz]; exact decide_eq_decide.2 (by omega)
  have NO := Lib.hid (show (qz && qa || qb) = true → ∀ (W : World) (hW : Below w.heap.size w W), WholeOut xs w (.returned (.bool false)) W from fun hq W hW => whole_no hW (fun k => by
    cases qb
    · simp at hq
      obtain ⟨rfl, rfl⟩ := hq
      have h1 := of_decide_eq_true hqz
      have h2 := k.last (by omega)
      rw [← hC, ← hll] at h2
      simp at hqa
      omega
    · have h1 := k.w0.low
      rw [← hlo, ← hC, ← hlw] at h1
      rw [bne_iff_ne] at hqb
      omega))
  have YES := Lib.hid (show (qz && qa || qb) = false → (C ≠ 0 → len xs (C - 1) ≠ 0) ∧ low xs = lowTo xs C from fun hq => by
    cases qb
    · refine ⟨fun h0 => ?_, ?_⟩
      · have e1 : qz = true := by rw [← hqz]; exact decide_eq_true (by omega)
        rw [e1] at hq
        have e2 : qa = false := by simpa using hq
        rw [e2, beq_eq_false_iff_ne] at hqa
        rw [← hll]; omega
      · have := bne_eq_false_iff_eq.1 hqb
        omega
    · simp at hq)
  have h40 : decide ((40 : Int) < (C : Int)) = false := by simp; omega
  have HC := Lib.hid hC
  have HCC := Lib.hid hc
  have HZ := Lib.hid (show (qz = true ↔ C ≠ 0) from by rw [← hqz, decide_eq_true_iff]; omega)
  have wC : wrap64 ((C : Int) - 1) = (C : Int) - 1 := wrap64_in _ (by omega)
  clear h hlo hlw hll hC
  go_enter Try.func40, Try.ntmps40
  go_wp2_with fail
  (with_reducible refine CA.out.mono ?_)
  rintro e wx ⟨rfl, rfl⟩
  go_upto_region 2 with fail
  go_cut [31] (fun v wx => v = .bool (qz && qa || qb) ∧ wx = w)
  case first =>
    cases qz
    · go_wp2_with fail
      (with_reducible refine LO.out.mono ?_)
      rintro e wx ⟨rfl, rfl⟩
      go_wp2_with fail
      (with_reducible refine LW.out.mono ?_)
      rintro e wx ⟨rfl, rfl⟩
      go_wp2
      go_meet
      exact ⟨by simp, rfl⟩
    · have LA' := Lib.hid (LA.out (HZ.out.1 rfl))
      cases qa
      · go_wp2_with fail
        (with_reducible refine LA'.out.mono ?_)
        rintro e wx ⟨rfl, rfl⟩
        go_wp2_with fail
        (with_reducible refine LO.out.mono ?_)
        rintro e wx ⟨rfl, rfl⟩
        go_wp2_with fail
        (with_reducible refine LW.out.mono ?_)
        rintro e wx ⟨rfl, rfl⟩
        go_wp2
        go_meet
        exact ⟨by simp, rfl⟩
      · go_wp2_with fail
        (with_reducible refine LA'.out.mono ?_)
        rintro e wx ⟨rfl, rfl⟩
        go_wp2
        go_meet
        exact ⟨by simp, rfl⟩
  case rest =>
    obtain ⟨rfl, rfl⟩ := hcut
    obtain ⟨bad, hbad⟩ : ∃ q, q = (qz && qa || qb) := ⟨_, rfl⟩
    rw [← hbad] at NO YES ⊢
    clear hbad LA LO LW hqb hqa hqz hqz2 HZ wC CA
    cases bad
    case true =>
      have NO' := Lib.hid (NO.out rfl _ (Below.refl _ _))
      clear NO YES
      go_wp2
      go_ret
      exact NO'.out
    have HY := Lib.hid (YES.out rfl)
    clear NO YES h40
    obtain ⟨PZ, hPZ⟩ : ∃ PZ, PZ = pgC z448 := ⟨_, rfl⟩
    have HPZ := Lib.hid hPZ
    have hz : ∀ W : World, (zeroValue 62).run Try.prog W = .ok (.agg PZ) W := fun W => by rw [hPZ]; exact zeroIm W
    have HSZ := Lib.hid (show (Try.prog.info? 62).map (·.size) = some (pgC xs).size by rw [pgC_size HP.out.len]; exact im_info)
    clear hPZ
    go_upto_region 5 with fail
    obtain ⟨cb, hcb⟩ : ∃ cb, cb = wc.heap.size := ⟨_, rfl⟩
    obtain ⟨w1, hw1⟩ : ∃ w1, wc.alloc (.cells PZ 62) = w1 := ⟨_, rfl⟩
    have IC := Lib.hid (show ImAt w1 cb z448 from ⟨by rw [← hw1, hcb, HPZ.out]; exact Box.new _ _ _, List.length_replicate, z448_bytes⟩)
    have HB1 := Lib.hid (show Below cb wc w1 by rw [← hw1, hcb]; exact new_ (Below.refl _ _) _)
    have HCB := Lib.hid hcb
    rw [hw1, ← hcb]
    clear hw1 hcb
    obtain ⟨w3, hst, ir3, hb3⟩ := im_copy w1 xs HP.out.len HP.out.byt PZ HPZ.out
    have IR3 := Lib.hid ir3
    have HB3 := Lib.hid hb3
    have HP1 := Lib.hid (HP.out.later (show Below wc.heap.size wc w1 by rw [← HCB.out]; exact HB1.out))
    have hs448 : (pgC xs).size = 448 := pgC_size HP.out.len
    clear ir3 hb3
    go_wp2_with fail
    refine wp_load_row 62 _ rfl b rfl 64 (pgC xs) (0, 0) _ HP1.out.box Try.underlying62 rfl HSZ.out ?_
    go_upto_region 6 with fail
    obtain ⟨rb, hrb⟩ : ∃ rb, rb = w1.heap.size := ⟨_, rfl⟩
    have HC1 := Lib.hid (show ImAt w3 cb z448 ∧ cb < rb ∧ rb < w3.heap.size ∧ cb = wc.heap.size ∧ b < cb from ⟨IC.out.later HB3.out, by rw [hrb]; exact IC.out.box.lt, by rw [hrb]; exact IR3.out.box.lt, HCB.out, by rw [HCB.out]; exact HP.out.box.lt⟩)
    rw [← hrb] at IR3 ⊢
    have HB3' := Lib.hid (show Below cb wc w3 from HB1.out.trans (HB3.out.mono (by have := HB1.out.size; have := HC1.out.2.1; omega)))
    have HP3 := Lib.hid (HP1.out.later HB3.out)
    clear hst hs448 hz hrb HB3 IC HB1 HP1 HPZ HCB
    have hx448 := HP.out.len
    have LE := Lib.hid (fun W => listEnd_any W C (by have := HCC.out; omega) (C : Int) rfl)
    obtain ⟨e0, he0⟩ : ∃ e0, e0 = 16 + 4 * C := ⟨_, rfl⟩
    have hc := HCC.out
    have c3 : e0 ≤ 448 := by omega
    have c4 : 0 < e0 := by omega
    rw [← he0] at LE
    have HE0 := Lib.hid he0
    have RS := Lib.hid (Rest.start hx448 HP.out.byt (by rw [← HC.out]; exact hc))
    rw [← HC.out, ← he0] at RS
    clear hx448 he0
    have c5 : (0 : Int) ≤ (e0 : Int) := by omega
    have c6 : (e0 : Int) ≤ 448 := by omega
    have c7 : (e0 : Int) - 0 = (e0 : Int) := by omega
    have c9 : 0 + e0 ≤ 448 := by omega
    go_wp2_with (first
      | ((with_reducible refine (LE.out _).mono ?_); rintro e wx ⟨rfl, rfl⟩)
      | (refine wpList_clear_im _ rfl _ rfl rb 0 e0 448 xs IR3.out rfl c4 c9 ?_
         intro w4 hi4 hf4
         have IR4 := Lib.hid hi4
         have F4 := Lib.hid hf4
         clear hi4 hf4)
      | fail)
    have HB4 := Lib.hid (show Below cb wc w4 from HB3'.out.trans (F4.out.to_below (fun k hk => by rw [hk]; have := HC1.out.2.1; omega) (by have := HB3'.out.size; have := HC1.out; omega)))
    have ST := Lib.hid (show ∃ CV R, ImAt w4 cb CV ∧ ImAt w4 rb R ∧ Lie xs 0 ∧ Cov xs CV 0 (off xs 0) ∧ Rest xs R 0 from ⟨z448, _, HC1.out.1.fr F4.out (by have := HC1.out.2.1; omega), IR4.out, Lie.start xs, Cov.start xs, RS.out⟩)
    clear RS IR4 F4 c3 c4 c5 c6 c7 c9 IR3 HP3 HB3'
    have HE := Lib.hid (show e0 ≤ 448 by have := HE0.out; omega)
    go_wp2
    go_loopw [40, 6, 7, 8, 9] (fun kv _ _ _ _ wr => ∃ s : Nat, s ≤ C ∧ kv = .int .i64 s ∧ Hid (∃ CV R, ImAt wr cb CV ∧ ImAt wr rb R ∧ Lie xs s ∧ Cov xs CV s (off xs s) ∧ Rest xs R s) ∧ Hid (Below cb wc wr)) (fun kv _ _ _ _ _ => C - (intOf kv).toNat)
    case atStart => exact ⟨0, Nat.zero_le _, rfl, ST, HB4⟩
    case round =>
      obtain ⟨s, hs, rfl, HS, HW⟩ := hrel
      clear ST HB4
      by_cases hlt : s < C
      · have HPW := Lib.hid (show PgAt wr b xs from HP.out.later (show Below wc.heap.size wc wr by rw [← HC1.out.2.2.2.1]; exact HW.out))
        have OF := Lib.hid (offset_any wr b xs HPW.out s (by omega) (s : Int) rfl)
        have LN := Lib.hid (length_any wr b xs HPW.out s (by omega) (s : Int) rfl)
        have hO8 := off_le xs HP.out.byt HP.out.len s (by omega)
        have hL8 := len_le xs HP.out.byt HP.out.len s (by omega)
        have LE1 := Lib.hid (LE.out wr)
        obtain ⟨O, hO⟩ : ∃ O, O = off xs s := ⟨_, rfl⟩
        obtain ⟨Lq, hLq⟩ : ∃ L, L = len xs s := ⟨_, rfl⟩
        rw [← hO] at OF hO8
        rw [← hLq] at LN hL8
        obtain ⟨T, hT⟩ : ∃ T : Int, T = (O : Int) + (Lq : Int) := ⟨_, rfl⟩
        have wT1 : wrap64 ((O : Int) + (Lq : Int)) = T := by rw [hT]; exact wrap64_in _ (by omega)
        have wT2 : wrap64 (T - (O : Int)) = (Lq : Int) := by rw [hT, wrap64_in _ (by omega)]; omega
        obtain ⟨q1, hq1⟩ : ∃ q, ((O : Int) == T) = q := ⟨_, rfl⟩
        obtain ⟨q0, hq0⟩ : ∃ q, ((O : Int) == 0) = q := ⟨_, rfl⟩
        obtain ⟨q2, hq2⟩ : ∃ q, decide ((64 : Int) < (Lq : Int)) = q := ⟨_, rfl⟩
        have hq2' : decide (64 < Lq) = q2 := by rw [← hq2]; exact decide_eq_decide.2 (by omega)
        obtain ⟨q3, hq3⟩ : ∃ q, decide ((O : Int) < (e0 : Int)) = q := ⟨_, rfl⟩
        have hq3' : decide (O < e0) = q3 := by rw [← hq3]; exact decide_eq_decide.2 (by omega)
        obtain ⟨q4, hq4⟩ : ∃ q, decide ((448 : Int) < T) = q := ⟨_, rfl⟩
        have HM := Lib.hid (show (q1 = true ↔ Lq = 0) ∧ (q0 = true ↔ O = 0) ∧ (q2 = true ↔ 64 < Lq) ∧ (q3 = true ↔ O < 16 + 4 * cnt xs) ∧ (q4 = true ↔ 448 < O + Lq) from by
          rw [← hq1, ← hq0, ← hq2', ← hq3', ← hq4, hT, ← HC.out, ← HE0.out]
          simp
          omega)
        have NO := Lib.hid (show ¬ ((Lq = 0 ∧ O = 0) ∨ (Lq ≠ 0 ∧ Lq ≤ 64 ∧ 16 + 4 * cnt xs ≤ O ∧ O + Lq ≤ 448)) → WholeOut xs wc (.returned (.bool false)) wr from fun h => whole_no (by rw [← HC1.out.2.2.2.1]; exact HW.out) (not_slot (s := s) (by rw [← HC.out]; exact hlt) (by rw [← hO, ← hLq]; exact h)))
        have HOL := Lib.hid (And.intro hO hLq)
        have HT := Lib.hid hT
        have HLT := Lib.hid hlt
        have HJ1 := Lib.hid (show wrap64 ((s : Int) + 1) = (s : Int) + 1 from wrap64_in _ (by omega))
        clear hO hLq hT hO8 hL8 hlt hs
        go_wp2_with fail
        (with_reducible refine OF.out.mono ?_)
        rintro e wx ⟨rfl, rfl⟩
        go_wp2_with fail
        (with_reducible refine OF.out.mono ?_)
        rintro e wx ⟨rfl, rfl⟩
        go_wp2_with fail
        (with_reducible refine LN.out.mono ?_)
        rintro e wx ⟨rfl, rfl⟩
        go_upto_region 11 with fail
        clear OF LN
        cases q1
        case true =>
          cases q0
          case true =>
            have HS' := Lib.hid (show ∃ CV R, ImAt wr cb CV ∧ ImAt wr rb R ∧ Lie xs (s + 1) ∧ Cov xs CV (s + 1) (off xs (s + 1)) ∧ Rest xs R (s + 1) from by
              obtain ⟨CV, R, i1, i2, l1, k1, r1⟩ := HS.out
              have h0 : len xs s = 0 := by have := HM.out.1.1 rfl; rw [← HOL.out.2]; exact this
              have h1 : off xs s = 0 := by have := HM.out.2.1.1 rfl; rw [← HOL.out.1]; exact this
              exact ⟨CV, R, i1, i2, l1.none h0 h1, Cov.next (by rw [h0]; exact k1), r1.none h0⟩)
            go_wp2
            go_roundw
            case rel => exact ⟨s + 1, by have := HLT.out; omega, by go_num, HS', HW⟩
            case measure => have := HLT.out; simp [intOf]; omega
          case false =>
            have N9 := Lib.hid (NO.out (by have := HM.out; simp at this; omega))
            clear HM NO
            go_wp2
            go_ret
            exact N9.out
        case false =>
          cases q2
          case true =>
            have N9 := Lib.hid (NO.out (by have := HM.out; simp at this; omega))
            clear HM NO
            go_wp2
            go_ret
            exact N9.out
          case false =>
            cases q3
            case true =>
              have N9 := Lib.hid (NO.out (by have := HM.out; simp at this; omega))
              clear HM NO
              go_wp2_with fail
              (with_reducible refine LE1.out.mono ?_)
              rintro e wx ⟨rfl, rfl⟩
              go_wp2
              go_ret
              exact N9.out
            case false =>
              cases q4
              case true =>
                have N9 := Lib.hid (NO.out (by have := HM.out; simp at this; omega))
                clear HM NO
                go_wp2_with fail
                (with_reducible refine LE1.out.mono ?_)
                rintro e wx ⟨rfl, rfl⟩
                go_wp2
                go_ret
                exact N9.out
              case false =>
                go_wp2_with fail
                (with_reducible refine LE1.out.mono ?_)
                rintro e wx ⟨rfl, rfl⟩
                clear NO LE1
                go_upto_region 15 with fail
                have hm := HM.out
                simp only [Bool.false_eq_true, false_iff] at hm
                have HL := Lib.hid (show Lq ≠ 0 ∧ Lq ≤ 64 ∧ 16 + 4 * cnt xs ≤ O ∧ O + Lq ≤ 448 by omega)
                clear hm HM hq1 hq0 hq2 hq3 hq4 hq2' hq3' wT1 wT2
                obtain ⟨CV, R, i1, i2, l1, k1, r1⟩ := HS.out
                have RI := Lib.hid (And.intro i2 r1)
                have LI := Lib.hid l1
                have CI := Lib.hid (show ∃ CV, ImAt wr cb CV ∧ Cov xs CV s O ∧ ∀ i, O ≤ i → i < O → ∀ t, t < s → i < off xs t ∨ off xs t + len xs t ≤ i from ⟨CV, i1, by rw [HOL.out.1]; exact k1, fun i h1 h2 => by omega⟩)
                clear i1 i2 l1 k1 r1 HS
                obtain ⟨wj, rfl⟩ : ∃ wj, wj = wr := ⟨wr, rfl⟩
                go_loopw [9] (fun kv wi => ∃ k : Nat, O ≤ k ∧ k ≤ O + Lq ∧ kv = .int .i64 k ∧ Hid (∃ CV, ImAt wi cb CV ∧ Cov xs CV s k ∧ ∀ i, O ≤ i → i < k → ∀ t, t < s → i < off xs t ∨ off xs t + len xs t ≤ i) ∧ Hid (Fr (fun x => x = cb) wj wi)) (fun kv _ => O + Lq - (intOf kv).toNat)
                case atStart => exact ⟨O, Nat.le_refl _, by omega, rfl, CI, Lib.hid (Fr.refl _ _)⟩
                case round =>
                  obtain ⟨k, hk0, hk, rfl, HK, HF⟩ := hrel
                  clear CI
                  by_cases hlk : k < O + Lq
                  · have hk448 : k < 448 := by have := HL.out; omega
                    have dk : decide ((k : Int) < T) = true := by rw [HT.out]; simp; omega
                    obtain ⟨CV, i1, k1, n1⟩ := HK.out
                    have kc := i1.cell k hk448
                    have kf := i1.box.frozen k
                    obtain ⟨cv, hcv⟩ : ∃ c, c = CV.getD k 0 := ⟨_, rfl⟩
                    rw [← hcv] at kc
                    obtain ⟨qc, hqc⟩ : ∃ q, (cv != 0) = q := ⟨_, rfl⟩
                    have k448 : (k : Int) < 448 := by omega
                    have HB5 := Lib.hid (show Below cb wc wr from HW.out.trans (HF.out.to_below (fun x hx => by omega) (by have := HC1.out; have := HW.out.size; omega)))
                    have NO := Lib.hid (show cv ≠ 0 → WholeOut xs wc (.returned (.bool false)) wr from fun h => whole_no (by rw [← HC1.out.2.2.2.1]; exact HB5.out) (not_apart (s := s) (by rw [← HC.out]; exact HLT.out) k1 (by rw [← HOL.out.1, ← HOL.out.2]; omega) (by rw [← hcv]; exact h)))
                    have HK' := Lib.hid (show cv = 0 → ∃ CV', ImAt (wr.setCell ⟨cb, k, none⟩ (.int .u8 1)) cb CV' ∧ Cov xs CV' s (k + 1) ∧ ∀ i, O ≤ i → i < k + 1 → ∀ t, t < s → i < off xs t ∨ off xs t + len xs t ≤ i from fun h0 => by
                      refine ⟨CV.set k 1, im_set i1 k 1 (by decide), k1.step (by rw [← HOL.out.1]; exact hk0) hk448 (by rw [← hcv]; exact h0), fun i h1 h2 t ht => ?_⟩
                      rcases Nat.lt_succ_iff_lt_or_eq.mp h2 with h3 | h3
                      · exact n1 i h1 h3 t ht
                      · subst h3
                        rcases Nat.lt_or_ge i (off xs t) with h4 | h4
                        · exact .inl h4
                        · rcases Nat.lt_or_ge i (off xs t + len xs t) with h5 | h5
                          · exact absurd (hcv.symm.trans h0) ((k1.hit i).2 (.inl ⟨t, ht, h4, h5⟩))
                          · exact .inr h5)
                    have HF' := Lib.hid (Fr.setCell HF.out (p := ⟨cb, k, none⟩) (.inl rfl) (.int .u8 1))
                    have HQ := Lib.hid (show (qc = true ↔ cv ≠ 0) by rw [← hqc, bne_iff_ne])
                    have HK3 := Lib.hid (And.intro hk0 hlk)
                    have HK2 := Lib.hid (show wrap64 ((k : Int) + 1) = (k : Int) + 1 from wrap64_in _ (by omega))
                    clear i1 k1 n1 hcv HK hk0 hk hlk
                    cases qc
                    case true =>
                      have N9 := Lib.hid (NO.out (HQ.out.1 rfl))
                      clear NO HQ HK'
                      go_wp2
                      go_ret
                      exact N9.out
                    case false =>
                      have K9 := Lib.hid (HK'.out (by have := HQ.out; simp at this; exact this))
                      clear NO HQ HK'
                      go_wp2
                      go_roundw
                      case rel => exact ⟨k + 1, by have := HK3.out; omega, by have := HK3.out; omega, by go_num, K9, HF'⟩
                      case measure => have := HK3.out; simp [intOf]; omega
                  · have dk : decide ((k : Int) < T) = false := by rw [HT.out]; simp; omega
                    have hke : k = O + Lq := by omega
                    have HB5 := Lib.hid (show Below cb wc wr from HW.out.trans (HF.out.to_below (fun x hx => by omega) (by have := HC1.out; have := HW.out.size; omega)))
                    have IR5 := Lib.hid (show ImAt wr rb _ from RI.out.1.fr HF.out (by have := HC1.out; omega))
                    have HL1 := HL.out
                    have c1 : (0 : Int) ≤ O := by omega
                    have c2 : (O : Int) ≤ T := by rw [HT.out]; omega
                    have c3 : T ≤ 448 := by rw [HT.out]; omega
                    have e1 : T.toNat - O = Lq := by rw [HT.out]; omega
                    have c4 : ¬ 448 = O := by omega
                    have c5 : ¬ 448 - O = 0 := by omega
                    have c6 : O < 448 := by omega
                    have c7 : ¬ 448 ≤ O := by omega
                    have c8 : 0 < Lq := by omega
                    have c9 : O + Lq ≤ 448 := by omega
                    have c10 : ¬ (448 : Int) = (O : Int) := by omega
                    have HKK := Lib.hid (show ∃ CV, ImAt wr cb CV ∧ Cov xs CV (s + 1) (off xs (s + 1)) ∧ Lie xs (s + 1) from by
                      obtain ⟨CV, i1, k1, n1⟩ := HK.out
                      rw [hke] at k1 n1
                      refine ⟨CV, i1, Cov.next (by rw [← HOL.out.1, ← HOL.out.2]; exact k1), LI.out.some (by rw [← HOL.out.2]; omega) (by rw [← HOL.out.1, ← HOL.out.2]; omega) (by rw [← HOL.out.1, ← HOL.out.2]; exact n1)⟩)
                    have RI2 := Lib.hid (RI.out.2.some (by rw [← HOL.out.1, ← HOL.out.2]; omega))
                    rw [← HOL.out.1, ← HOL.out.2] at RI2
                    obtain ⟨RR, hRR⟩ : ∃ RR, RR = R := ⟨_, rfl⟩
                    rw [← hRR] at IR5 RI2
                    clear RI hRR HL1 hke hk0 hk HK LI
                    go_wp2_with (first
                      | (refine wpList_clear_im _ rfl _ rfl rb O Lq (448 - O) RR IR5.out rfl c8 c9 ?_
                         intro w6 hi6 hf6
                         have IR6 := Lib.hid hi6
                         have F6 := Lib.hid hf6
                         clear hi6 hf6)
                      | fail)
                    have HB6 := Lib.hid (show Below cb wc w6 from HB5.out.trans (F6.out.to_below (fun x hx => by rw [hx]; have := HC1.out; omega) (by have := HC1.out; have := HB5.out.size; omega)))
                    have HS6 := Lib.hid (show ∃ CV R, ImAt w6 cb CV ∧ ImAt w6 rb R ∧ Lie xs (s + 1) ∧ Cov xs CV (s + 1) (off xs (s + 1)) ∧ Rest xs R (s + 1) from by
                      obtain ⟨CV, i1, k1, l1⟩ := HKK.out
                      exact ⟨CV, _, i1.fr F6.out (by have := HC1.out; omega), IR6.out, l1, k1, RI2.out⟩)
                    clear HKK RI2 IR5 F6 IR6 HB5 HF c1 c2 c3 e1 c4 c5 c6 c7 c8 c9 c10 dk
                    go_roundw
                    case rel => exact ⟨s + 1, by have := HLT.out; omega, by first | go_num | rw [HJ1.out]; go_num, HS6, HB6⟩
                    case measure => have := HLT.out; simp [intOf]; omega
      · have hse : s = C := by omega
        obtain ⟨CV, R, i1, i2, l1, k1, r1⟩ := HS.out
        rw [hse] at l1 k1 r1
        have hy := HY.out
        have RW := Lib.hid (rest_wf HP.out.len (by rw [← HC.out]; exact HCC.out) (by rw [← HC.out]; exact hy.1) (by rw [← HC.out]; exact hy.2) (by rw [← HC.out]; exact l1) (by rw [← HC.out]; exact k1) (by rw [← HC.out]; exact r1))
        have IRR := Lib.hid i2
        obtain ⟨qr, hqr⟩ : ∃ q, q = decide (R = z448) := ⟨_, rfl⟩
        have HE1 := Lib.hid (fun W => im_eq W R z448 r1.len List.length_replicate)
        rw [← hqr] at RW HE1
        have HSR := Lib.hid (show (Try.prog.info? 62).map (·.size) = some (pgC R).size by rw [pgC_size r1.len]; exact im_info)
        obtain ⟨PR, hPR⟩ : ∃ P, P = pgC R := ⟨_, rfl⟩
        have HIB := Lib.hid i2.box
        rw [← hPR] at HE1 HSR HIB
        obtain ⟨PZ, hPZ⟩ : ∃ P, P = pgC z448 := ⟨_, rfl⟩
        rw [← hPZ] at HE1
        have hbu : ∀ W : World, (zeroValue 62).run Try.prog W = .ok (.agg PZ) W := fun W => by rw [hPZ]; exact zeroIm W
        have heq := HE1.out
        have hgr : ∀ (x y : Operand) (W : World), (eqGuard .eql 62 x y (.agg PR) (.agg PZ)).run Try.prog W = .ok () W := fun x y W => im_grd x y PR PZ W
        have HOUT := Lib.hid (show WholeOut xs wc (.returned (.bool qr)) wr from ⟨qr, rfl, RW.out, by rw [← HC1.out.2.2.2.1]; exact HW.out⟩)
        clear hqr hPR hPZ i1 i2 l1 k1 r1 hse hy hs HS HE1 IRR RW
        go_wp2_with fail
        refine wp_load_row 62 _ rfl rb rfl 62 PR (0, 0) _ HIB.out Try.underlying62 rfl HSR.out ?_
        go_wp2
        go_ret
        exact HOUT.out
end Go.Proofs.Ythbbnebanmpcjaa.Pg
