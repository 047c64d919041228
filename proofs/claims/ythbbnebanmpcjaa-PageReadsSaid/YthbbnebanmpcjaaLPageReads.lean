/- The law manciplelaw09.PageReads returns true whatever it is called with, and what it was called with reads as it did. No condition. -/
import Derived.Test.YthbbnebanmpcjaaLaw
import Derived.Test.YthbbnebanmpcjaaPgDm
namespace Go.Proofs.Ythbbnebanmpcjaa.LPageReads
open Go.ChangeShapes Go.WideShapes Go.ChangeAt Go.RowKit Go.IntWalk Go.Proofs.Mem Law
set_option linter.unusedVariables false
open Go.Proofs.Ythbbnebanmpcjaa.Pg Go.Proofs.Each
set_option linter.unusedSimpArgs false
theorem hvy_len {l : List Pi} (h : hvy l = false) : l.length ≤ 120 := by
  rcases Nat.lt_or_ge 120 l.length with e | e
  · unfold hvy at h; rw [decide_eq_true e] at h; simp at h
  · exact e
theorem hvy_small {l : List Pi} {j : Nat} (h : hvy l = false) (hj : j < l.length) : l[j].o.xs.length ≤ 200 := by
  rcases Nat.lt_or_ge 200 l[j].o.xs.length with e | e
  · have := hvy_at hj (show big l[j] = true by unfold big; exact decide_eq_true e)
    rw [h] at this; cases this
  · exact e
theorem both {xs : List Int} {w0 w1 w2 w3 : World} {e f : Ending} (h1 : ReadOut xs w0 e w1) (h2 : ReadD xs w2 f w3) (hs : w1.heap.size ≤ w2.heap.size) :
    (∃ b r ys, e = .returned (.tuple #[.pointer (some ⟨b, 0, none⟩), .int .u16 0]) ∧ f = .returned (.tuple #[.pointer (some ⟨r, 0, none⟩), .int .i64 0]) ∧ w0.heap.size ≤ b ∧ b < w1.heap.size ∧ w2.heap.size ≤ r ∧ Pw w1 b ys ∧ Dw w3 r ys)
    ∨ (e = .returned (.tuple #[.pointer none, .int .u16 90]) ∧ f = .returned (.tuple #[.pointer none, .int .i64 90])) := by
  rcases h1 with ⟨b, ys, a1, a2, a3, a4, a5⟩ | ⟨a1, a2, a3, a4⟩
  · rcases h2 with ⟨r, zs, c1, c2, c3, c4, c5⟩ | ⟨c1, c2, c3, c4⟩
    · refine .inl ⟨b, r, ys, a1, c1, a2, a3.at_.box.lt, c2, a3, ?_⟩
      have e : zs = ys := by
        rcases a5 with ⟨d1, d2⟩ | ⟨d1, _, d2⟩
        · rcases c5 with ⟨_, f2⟩ | ⟨f1, _, _⟩
          · rw [d2, f2]
          · exact absurd d1 f1
        · rcases c5 with ⟨f1, _⟩ | ⟨_, _, f2⟩
          · exact absurd f1 d1
          · rw [d2, f2]
      rw [← e]; exact c3
    · rcases a5 with ⟨d1, _⟩ | ⟨_, d2, _⟩
      · exact absurd d1 c3
      · exact absurd d2 c4
  · rcases h2 with ⟨r, zs, c1, c2, c3, c4, c5⟩ | ⟨c1, c2, c3, c4⟩
    · rcases c5 with ⟨d1, _⟩ | ⟨_, d2, _⟩
      · exact absurd d1 a3
      · exact absurd d2 a4
    · exact .inr ⟨a1, c1⟩
theorem ro_below {xs : List Int} {w w' : World} {e : Ending} (h : ReadOut xs w e w') : Below w.heap.size w w' := by
  rcases h with ⟨_, _, _, _, _, h, _⟩ | ⟨_, h, _⟩ <;> exact h
theorem rd_below {xs : List Int} {w w' : World} {e : Ending} (h : ReadD xs w e w') : Below w.heap.size w w' := by
  rcases h with ⟨_, _, _, _, _, h, _⟩ | ⟨_, h, _⟩ <;> exact h
set_option maxRecDepth 100000 in
set_option maxHeartbeats 8000000 in
theorem walk (w : World) (z : Value) (xz : List Int) (hz : IR w w.heap.size .u8 z xz) (bz : Bytes xz) (l : Value) (xl : List Pg.Pi) (hl : SS Pg.cPi 4 w w.heap.size l xl) (bl : ∀ o ∈ xl, Pg.PiAt w w.heap.size o) :
    Calls Try.prog 4 #[z, l] w fun e w' => e = .returned (.bool true) ∧ Below w.heap.size w w' := by
  obtain ⟨A, c, rfl, hlc, hcm⟩ := hl.form
  obtain ⟨Az, cz, rfl, hzc, hzm⟩ := hz.form
  unfold maxLen at hcm hzm
  have HV := Lib.hid (heavy_any w A c xl hcm hlc hl bl)
  have HL := Lib.hid hl
  have BL := Lib.hid bl
  have HZ0 := Lib.hid hz
  have BZ := Lib.hid bz
  have H120 := Lib.hid (fun h => hvy_len (l := xl) h)
  have HSM := Lib.hid (fun h j hj => hvy_small (l := xl) (j := j) h hj)
  clear hl bl hz bz
  obtain ⟨q, hq⟩ : ∃ q, q = hvy xl := ⟨_, rfl⟩
  rw [← hq] at HV H120 HSM
  clear hq
  obtain ⟨LZ, hLZ⟩ : ∃ L, L = xz.length := ⟨_, rfl⟩
  have HLZ := Lib.hid hLZ
  rw [← hLZ] at HZ0 hzc ⊢
  clear hLZ
  obtain ⟨q2, hq2⟩ : ∃ q, decide ((600 : Int) < (LZ : Int)) = q := ⟨_, rfl⟩
  have HQ2 := Lib.hid (show q2 = false → LZ ≤ 600 from fun h => by rw [h] at hq2; have := of_decide_eq_false hq2; omega)
  go_enter Try.func4, Try.ntmps4
  cases q2
  case true =>
    go_wp2_with ((with_reducible refine (known_any _).mono ?_); rintro e w3 ⟨rfl, hb3⟩; have HB3 := Lib.hid hb3; clear hb3)
    go_ret
    exact ⟨rfl, HB3.out⟩
  have hz6 := HQ2.out rfl
  cases q
  case true =>
    go_wp2_with (first
      | ((with_reducible refine HV.out.mono ?_); rintro e w1 ⟨rfl, rfl⟩)
      | ((with_reducible refine (known_any _).mono ?_); rintro e w3 ⟨rfl, hb3⟩; have HB3 := Lib.hid hb3; clear hb3))
    go_ret
    exact ⟨rfl, HB3.out⟩
  have H12 := Lib.hid (H120.out rfl)
  have HS9 := Lib.hid (HSM.out rfl)
  go_wp2_with (first
    | ((with_reducible refine HV.out.mono ?_); rintro e w1 ⟨rfl, rfl⟩)
    | ((with_reducible refine (known_any _).mono ?_); rintro e w3 ⟨rfl, hb3⟩; have HB3 := Lib.hid hb3; clear hb3)
    | fail)
  clear hq2
  have LE := Lib.hid (NumBytes.lent_any (.slice Az LZ cz) xz w3 _ (HZ0.out.below HB3.out) (by rw [← HLZ.out]; omega))
  rw [← HLZ.out] at LE
  (with_reducible refine LE.out.mono ?_)
  rintro e w4 ⟨u4, rfl, o4, b4⟩
  obtain ⟨AR, cR, eR⟩ := own_slice' o4
  subst eR
  have O4 := Lib.hid o4
  have B4 := Lib.hid (step_ HB3.out b4)
  have RD := Lib.hid (read_any w4 w4.heap.size (.slice AR LZ cR) xz (by have := IR.of_own (xs := xz) (by rw [HLZ.out] at o4; exact o4); rw [HLZ.out]; exact this) BZ.out)
  clear o4 LE
  have HB34 := Lib.hid b4
  clear b4
  go_wp2_with fail
  (with_reducible refine RD.out.mono ?_)
  rintro e w5 hrd
  have HRD := Lib.hid hrd
  have B5 := Lib.hid (step_ B4.out (ro_below hrd))
  have RR := Lib.hid (rread w5 w5.heap.size (.slice Az LZ cz) xz ((HZ0.out.below B5.out).more B5.out.size) BZ.out (Nat.le_refl _))
  rcases hrd with ⟨b, ys, rfl, hb1, hb2, hb3', hb4⟩ | ⟨rfl, hb1, hb2, hb3'⟩
  · clear hb1 hb2 hb3' hb4
    go_wp2_with fail
    (with_reducible refine RR.out.mono ?_)
    rintro e wj hrr
    have BJ := Lib.hid (step_ B5.out (rd_below hrr))
    rcases both HRD.out hrr (Nat.le_refl _) with ⟨b', r, zs, e1, rfl, n1, n2, n3, pp, dd⟩ | ⟨e1, _⟩
    · injection e1 with e1
      injection e1 with e1
      have eb : b' = b := by
        have := congrArg (fun a => a[0]?) e1
        simp at this
        exact this.symm
      subst eb
      have HPJ := Lib.hid (show Pw wj b' zs from pp.later (rd_below hrr))
      have HDJ := Lib.hid dd
      obtain ⟨n, hn⟩ : ∃ n, n = LZ := ⟨_, rfl⟩
      obtain ⟨B1, hB1⟩ : ∃ B, B = w3.heap.size := ⟨_, rfl⟩
      obtain ⟨B2, hB2⟩ : ∃ B, B = w4.heap.size := ⟨_, rfl⟩
      have ROW := Lib.hid (show ∃ zs : List Int, zs.length = n ∧ wj.ownsRow B1 5 1 (.slice AR n cR) n (zs.map (.int .u8)) ∧ ∀ g, AR = some ⟨g, 0, none⟩ → g < B2 from ⟨xz, by rw [hn]; exact HLZ.out.symm, by rw [hn, hB1]; exact own_below (own_below O4.out (ro_below HRD.out)) (rd_below hrr), fun g hg => by rw [hB2]; exact (O4.out.lt g (by rw [hg]; rfl)).2⟩)
      have HBB := Lib.hid (show w1.heap.size ≤ B1 ∧ B2 ≤ b' ∧ b' < r ∧ B1 ≤ B2 from ⟨by rw [hB1]; exact HB3.out.size, by rw [hB2]; exact n1, by omega, by rw [hB1, hB2]; exact HB34.out.size⟩)
      have hn600 : n ≤ 600 := by omega
      subst hn
      clear hrr n1 n2 n3 pp dd e1 hB1 hB2 RR RD
      go_wp2
      go_loopw [10] (fun iv wr => ∃ j : Nat, j ≤ n ∧ iv = .int .i64 j ∧ Hid (∃ zs : List Int, zs.length = n ∧ wr.ownsRow B1 5 1 (.slice AR n cR) n (zs.map (.int .u8)) ∧ ∀ g, AR = some ⟨g, 0, none⟩ → g < B2) ∧ Hid (Fr (fun x => B1 ≤ x ∧ x < B2) wj wr)) (fun iv _ => n - (intOf iv).toNat)
      case atStart => exact ⟨0, Nat.zero_le _, rfl, ROW, Lib.hid (Fr.refl _ _)⟩
      case round =>
        obtain ⟨j, hj, rfl, HRW, HFJ⟩ := hrel
        by_cases hlt : j < n
        · obtain ⟨zs, hz, ov, hgl⟩ := HRW.out
          obtain ⟨g, hg⟩ : ∃ g, AR = some ⟨g, 0, none⟩ := by
            rcases ov.2 with ⟨_, hn⟩ | ⟨g, cap, cur, e, _⟩
            · omega
            · injection e with e1; exact ⟨g, e1⟩
          subst hg
          have HG := Lib.hid (show B1 ≤ g ∧ g < B2 from ⟨(ov.lt g rfl).1, hgl g rfl⟩)
          have cj : wr.cell? ⟨g, j, none⟩ = some (.int .u8 (zs.getD j 0)) := by
            rw [ov.cellAt j (by omega)]
            simp [List.getD, List.getElem?_eq_getElem (show j < zs.length by omega)]
          have fj := ov.frozenAt j
          have b0 : (0 : Int) ≤ (j : Int) := by omega
          have b1' : (j : Int) < (n : Int) := by omega
          have OVj := Lib.hid ov
          have HZ := Lib.hid hz
          have HLT := Lib.hid hlt
          have HN2 := hn600
          generalize zs.getD j 0 = z at *
          clear ov hz hj hlt hgl
          go_wp2
          have F9 := Lib.hid (Fr.setCell HFJ.out (p := ⟨g, j, none⟩) (.inl HG.out) (.int .u8 (bits BinOp.xor IntKind.u8 z 255)))
          have R9 := Lib.hid (show ∃ zs' : List Int, zs'.length = n ∧ (wr.setCell ⟨g, j, none⟩ (.int .u8 (bits BinOp.xor IntKind.u8 z 255))).ownsRow B1 5 1 (.slice (some ⟨g, 0, none⟩) n cR) n (zs'.map (.int .u8)) ∧ ∀ g', (some ⟨g, 0, none⟩ : Option Addr) = some ⟨g', 0, none⟩ → g' < B2 from ⟨zs.set j (bits BinOp.xor IntKind.u8 z 255), by rw [List.length_set]; exact HZ.out, by rw [List.map_set]; exact (OVj.out.stored j (.int .u8 (bits BinOp.xor IntKind.u8 z 255))).1, fun g' e => by injection e with e; injection e with e; rw [← e]; exact HG.out.2⟩)
          clear cj fj
          go_roundw
          case rel => exact ⟨j + 1, by have := HLT.out; omega, by go_num, R9, F9⟩
          case measure => have := HLT.out; simp [intOf]; omega
        · have dj : ¬ (j : Int) < (n : Int) := by omega
          clear hj HRW
          have P9 := Lib.hid (HPJ.out.fr HFJ.out (fun e => by have := HBB.out; omega))
          have D9 := Lib.hid (HDJ.out.fr HFJ.out (fun e => by have := HBB.out; omega))
          have B9 := Lib.hid (show Below w1.heap.size w1 wr from BJ.out.trans (HFJ.out.to_below (fun x hx => by have := HBB.out; omega) BJ.out.size))
          obtain ⟨wq, rfl⟩ : ∃ wq, wq = wr := ⟨wr, rfl⟩
          have h120 := H12.out
          clear HFJ HPJ HDJ dj
          go_wp2
          go_loopw [11, 12, 13] (fun iv _ _ wr => ∃ j : Nat, j ≤ xl.length ∧ iv = .int .i64 j ∧ Hid (∃ xs, Pw wr b' xs ∧ Dw wr r xs) ∧ Hid (Below w1.heap.size w1 wr)) (fun iv _ _ _ => xl.length - (intOf iv).toNat)
          case atStart => exact ⟨0, Nat.zero_le _, rfl, Lib.hid ⟨_, P9.out, D9.out⟩, B9⟩
          case round =>
            obtain ⟨j, hj, rfl, HX, HW⟩ := hrel
            obtain ⟨xs, hp, hd⟩ := HX.out
            have HP := Lib.hid hp
            have HD := Lib.hid hd
            clear hp hd HX
            by_cases hlt : j < xl.length
            · have HOX := Lib.hid (BL.out xl[j] (List.getElem_mem hlt))
              have hsm := HS9.out j hlt
              obtain ⟨g, off, rfl, hgb, hcell⟩ := (HL.out.below HW.out).at_ (List.getElem?_eq_getElem hlt)
              generalize xl[j] = x at *
              obtain ⟨o, xa⟩ := x
              obtain ⟨A1, c1, e1, _⟩ := HOX.out.2.form
              simp only at e1
              subst e1
              obtain ⟨L1, hL1⟩ : ∃ L, L = o.xs.length := ⟨_, rfl⟩
              have HL1 := Lib.hid hL1
              rw [← hL1] at HOX hcell hsm
              have y0 : wr.cell? ⟨g, off + j * 4, none⟩ = some (.int .u8 o.kind) := hcell 0 _ rfl
              have y1 : wr.cell? ⟨g, off + j * 4 + 1, none⟩ = some (.int .i64 o.slot) := hcell 1 _ rfl
              have y2 : wr.cell? ⟨g, off + j * 4 + 2, none⟩ = some (.slice A1 L1 c1) := hcell 2 _ rfl
              have y3 : wr.cell? ⟨g, off + j * 4 + 3, none⟩ = some (.int .u64 o.lsn) := hcell 3 _ rfl
              have DO := Lib.hid (does_any wr b' r xs HP.out HD.out (by have := HBB.out; omega) o HOX.out.1 A1 L1 c1 HL1.out.symm hsm (fun w' hf => by
                have hb9 : Below w1.heap.size w1 w' := HW.out.trans (hf.to_below (fun x hx => by have := HBB.out; omega) HW.out.size)
                exact (HOX.out.2.below hb9).more hb9.size))
              have HLT := Lib.hid hlt
              have hji : (j : Int) < (xl.length : Int) := by omega
              clear hcell hL1 hsm hgb hlt hj
              go_wp2_with fail
              (with_reducible refine DO.out.mono ?_)
              rintro e w7 ⟨rfl, p7, d7, f7⟩
              have P7 := Lib.hid p7
              have D7 := Lib.hid d7
              have AL := Lib.hid (alike_any w7 b' r _ p7 d7)
              have B7 := Lib.hid (show Below w1.heap.size w1 w7 from HW.out.trans (f7.to_below (fun x hx => by have := HBB.out; omega) HW.out.size))
              clear p7 d7 f7 y0 y1 y2 y3
              go_wp2_with fail
              (with_reducible refine AL.out.mono ?_)
              rintro e w8 ⟨rfl, b8⟩
              have R8 := Lib.hid (show ∃ xs, Pw w8 b' xs ∧ Dw w8 r xs from ⟨_, P7.out.later b8, D7.out.later b8⟩)
              have B8 := Lib.hid (step_ B7.out b8)
              clear b8
              go_wp2
              go_roundw
              case rel => exact ⟨j + 1, by have := HLT.out; omega, by go_num, R8, B8⟩
              case measure => have := HLT.out; simp [intOf]; omega
            · have AL := Lib.hid (alike_any wr b' r xs HP.out HD.out)
              clear hj
              go_wp2_with fail
              (with_reducible refine AL.out.mono ?_)
              rintro e w8 ⟨rfl, b8⟩
              have B8 := Lib.hid (step_ HW.out b8)
              clear b8
              go_wp2
              go_ret
              exact ⟨rfl, B8.out⟩
    · injection e1 with e1
      injection e1 with e1
      exact absurd (congrArg (fun a => a[0]?) e1) (by simp)
  · clear hb1 hb2 hb3'
    go_wp2_with fail
    (with_reducible refine RR.out.mono ?_)
    rintro e wj hrr
    have BJ := Lib.hid (step_ B5.out (rd_below hrr))
    rcases both HRD.out hrr (Nat.le_refl _) with ⟨b', r, zs, e1, rfl, n1, n2, n3, pp, dd⟩ | ⟨_, rfl⟩
    · injection e1 with e1
      injection e1 with e1
      exact absurd (congrArg (fun a => a[0]?) e1) (by simp)
    · obtain ⟨n, hn⟩ : ∃ n, n = LZ := ⟨_, rfl⟩
      obtain ⟨B1, hB1⟩ : ∃ B, B = w3.heap.size := ⟨_, rfl⟩
      obtain ⟨B2, hB2⟩ : ∃ B, B = w4.heap.size := ⟨_, rfl⟩
      have ROW := Lib.hid (show ∃ zs : List Int, zs.length = n ∧ wj.ownsRow B1 5 1 (.slice AR n cR) n (zs.map (.int .u8)) ∧ ∀ g, AR = some ⟨g, 0, none⟩ → g < B2 from ⟨xz, by rw [hn]; exact HLZ.out.symm, by rw [hn, hB1]; exact own_below (own_below O4.out (ro_below HRD.out)) (rd_below hrr), fun g hg => by rw [hB2]; exact (O4.out.lt g (by rw [hg]; rfl)).2⟩)
      have HBB := Lib.hid (show w1.heap.size ≤ B1 by rw [hB1]; exact HB3.out.size)
      have hn600 : n ≤ 600 := by omega
      subst hn
      clear hrr hB1 hB2 RR RD
      go_wp2
      go_loopw [10] (fun iv wr => ∃ j : Nat, j ≤ n ∧ iv = .int .i64 j ∧ Hid (∃ zs : List Int, zs.length = n ∧ wr.ownsRow B1 5 1 (.slice AR n cR) n (zs.map (.int .u8)) ∧ ∀ g, AR = some ⟨g, 0, none⟩ → g < B2) ∧ Hid (Fr (fun x => B1 ≤ x ∧ x < B2) wj wr)) (fun iv _ => n - (intOf iv).toNat)
      case atStart => exact ⟨0, Nat.zero_le _, rfl, ROW, Lib.hid (Fr.refl _ _)⟩
      case round =>
        obtain ⟨j, hj, rfl, HRW, HFJ⟩ := hrel
        by_cases hlt : j < n
        · obtain ⟨zs, hz, ov, hgl⟩ := HRW.out
          obtain ⟨g, hg⟩ : ∃ g, AR = some ⟨g, 0, none⟩ := by
            rcases ov.2 with ⟨_, hn⟩ | ⟨g, cap, cur, e, _⟩
            · omega
            · injection e with e1; exact ⟨g, e1⟩
          subst hg
          have HG := Lib.hid (show B1 ≤ g ∧ g < B2 from ⟨(ov.lt g rfl).1, hgl g rfl⟩)
          have cj : wr.cell? ⟨g, j, none⟩ = some (.int .u8 (zs.getD j 0)) := by
            rw [ov.cellAt j (by omega)]
            simp [List.getD, List.getElem?_eq_getElem (show j < zs.length by omega)]
          have fj := ov.frozenAt j
          have b0 : (0 : Int) ≤ (j : Int) := by omega
          have b1' : (j : Int) < (n : Int) := by omega
          have OVj := Lib.hid ov
          have HZ := Lib.hid hz
          have HLT := Lib.hid hlt
          have HN2 := hn600
          generalize zs.getD j 0 = z at *
          clear ov hz hj hlt hgl
          go_wp2
          have F9 := Lib.hid (Fr.setCell HFJ.out (p := ⟨g, j, none⟩) (.inl HG.out) (.int .u8 (bits BinOp.xor IntKind.u8 z 255)))
          have R9 := Lib.hid (show ∃ zs' : List Int, zs'.length = n ∧ (wr.setCell ⟨g, j, none⟩ (.int .u8 (bits BinOp.xor IntKind.u8 z 255))).ownsRow B1 5 1 (.slice (some ⟨g, 0, none⟩) n cR) n (zs'.map (.int .u8)) ∧ ∀ g', (some ⟨g, 0, none⟩ : Option Addr) = some ⟨g', 0, none⟩ → g' < B2 from ⟨zs.set j (bits BinOp.xor IntKind.u8 z 255), by rw [List.length_set]; exact HZ.out, by rw [List.map_set]; exact (OVj.out.stored j (.int .u8 (bits BinOp.xor IntKind.u8 z 255))).1, fun g' e => by injection e with e; injection e with e; rw [← e]; exact HG.out.2⟩)
          clear cj fj
          go_roundw
          case rel => exact ⟨j + 1, by have := HLT.out; omega, by go_num, R9, F9⟩
          case measure => have := HLT.out; simp [intOf]; omega
        · have dj : ¬ (j : Int) < (n : Int) := by omega
          clear hj HRW
          have B9 := Lib.hid (show Below w1.heap.size w1 wr from BJ.out.trans (HFJ.out.to_below (fun x hx => by have := HBB.out; omega) BJ.out.size))
          clear HFJ
          go_wp2
          go_ret
          exact ⟨rfl, B9.out⟩


set_option maxRecDepth 100000 in
theorem lifted (os : Os) (started : os.Started) (H : Type) (enc : TypeId × Value → H) :
    ReturnsInHanded {} Try.checked os 4 .any (Rows.pageReadsSpec.pre6 enc Try.prog Try.f4 Rows.pageReadsRow.domain false) (Rows.pageReadsSpec.post enc Try.prog Try.f4 false true false false) := by
  refine returnsInHanded_of_change (C := Try.checked) own started (by kernel_rfl) Try.func4
    (ChangeSpec.witness6 (enc := enc) (C := Try.checked) false ⟨#[], #[.slice none 0 0, .slice none 0 0], []⟩ 8 (by kernel_rfl) (by kernel_rfl) (by kernel_rfl) (by kernel_rfl)) ?_
  intro W base args ds gs before hval0 hW hcnd _
  have hval : ∀ (j : Nat) t v, Try.f4.params[j]? = some t → args[j]? = some v → Value.okWide Try.prog W .any base t v := hval0
  have hW' := hW
  obtain ⟨p, q, hA0, hV, rfl, hfz, hnd⟩ := hW
  have hA1 : DataW.TrodAll enc Try.prog W 0 (fun _ => true) true Try.f4.params.toList args.toList ds p := hA0
  have hA := hA1
  rw [Try.params4] at hA hval
  obtain ⟨v0, vs0, d0, ds0, p0, q0, hargs, rfl, rfl, h0, r0⟩ := trodAll_cons hA
  obtain ⟨v1, vs1, d1, ds1, p1, q1, rfl, rfl, rfl, h1, r1⟩ := trodAll_cons r0
  obtain ⟨rfl, rfl, rfl⟩ := trodAll_nil r1
  obtain rfl : args = #[v0, v1] := by cases args; simp_all
  obtain ⟨rfl, rfl⟩ := trodVars_none hV
  obtain ⟨xz, i0, wf0⟩ := open_IR Try.underlying31 Try.underlying5 (by kernel_rfl) (hval 0 31 v0 rfl rfl) h0
  obtain ⟨xl, i1, wf1⟩ := Pg.open_pos (hval 1 23 v1 rfl rfl) h1
  clear hA0 hval0
  refine (walk W v0 xz i0 (fun n hn => bounds_u8 (wf0 n hn)) v1 xl i1 wf1).mono fun e W' ⟨he, bel⟩ => ?_
  subst he
  exact ⟨_, rfl, _, _, _, [], _, [], hW', trodAll_mk1 (shut_bool Try.underlying4 _), args_again laidOut bel (by kernel_rfl) hA1, rfl, bel.frame _, fun h => by cases h⟩

theorem over : Rows.pageReadsRow.holds Try.pinned (OpenSpec.ofChange Rows.pageReadsSpec) :=
  OpenClaim.holds_of_wide 4 Try.f4 rfl rfl rfl rfl rfl rfl rfl ⟨rfl, rfl, rfl, rfl, rfl⟩ rfl rfl rfl rfl rfl (by kernel_rfl) Try.func4 (by kernel_rfl)
    (of_decide_eq_true (by kernel_rfl)) (by unfold Func.isWrapper; first | (rw [if_pos (by decide +kernel)]; kernel_rfl) | (rw [if_neg (by decide +kernel)]; exact ⟨rfl, rfl⟩))
    (fun os started H enc _ => lifted os started H enc)

theorem proved : Rows.PageReadsSaid := over
end Go.Proofs.Ythbbnebanmpcjaa.LPageReads
