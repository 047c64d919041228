/- The law manciplelaw07.StripFronts returns true whatever it is called with, and what it was called with reads as it did. No condition. -/
import Derived.Test.YtkhjkmelajlpeaaLaw
import Derived.Test.YtkhjkmelajlpeaaStrip7
import Derived.Test.YtkhjkmelajlpeaaSrOpen
import Derived.Deep.DeepCutAuto
namespace Go.Proofs.Ytkhjkmelajlpeaa.LStripFronts
open Go.ChangeShapes Go.WideShapes Go.ChangeAt Go.RowKit Go.IntWalk Go.Proofs.Mem Law
set_option linter.unusedVariables false
open Go.Proofs.Ytkhjkmelajlpeaa.Strip Go.Proofs.Ytkhjkmelajlpeaa.Blk
theorem len_bound {v : Value} {L : List Int} {W : World} {b : Nat} (h : W.ownsRow b 5 1 v L.length (L.map (.int .u8))) : IR W W.heap.size .u8 v L := IR.of_own h
def TornB (w5 : World) (i n : Nat) (xs : List Int) (v : Value) (wx : World) : Prop := ∃ go co z, v = .slice (some ⟨go, 0, none⟩) 128 co ∧ RowAt 5 wx w5.heap.size go v z ∧ Below w5.heap.size w5 wx ∧ Bytes z ∧ z.length = 128 ∧ (z = sec7 (xs.take n) i ∨ z = List.replicate 128 0 ∧ cnt n ≤ i)
set_option maxRecDepth 100000 in
set_option maxHeartbeats 8000000 in
theorem walk (w : World) (s : Value) (xs : List Int) (hs : IR w w.heap.size .u8 s xs) (bs : Bytes xs) (k : Int) (hk : -9223372036854775808 ≤ k ∧ k ≤ 9223372036854775807) (pos : Int) (hpos : 0 ≤ pos ∧ pos ≤ 255) (torn : Int) (htorn : 0 ≤ torn ∧ torn ≤ 255) :
    Calls Try.prog 6 #[s, .int .i64 k, .int .u8 pos, .int .u8 torn] w fun e w' => e = .returned (.bool true) ∧ Below w.heap.size w w' := by
  obtain ⟨A, c, rfl, hlc, hcm⟩ := hs.form
  unfold maxLen at hcm
  have HV := Lib.hid hs
  have BB := Lib.hid bs
  clear hs bs
  by_cases hlen : 2000 < xs.length
  · have d1 : decide (2000 < (xs.length : Int)) = true := decide_eq_true (by omega)
    have d1' : decide (2000 < xs.length) = true := decide_eq_true hlen
    go_enter Try.func6, Try.ntmps6
    go_wp2_with fail
    (with_reducible refine (known_any _).mono ?_)
    rintro e w1 ⟨rfl, hb1⟩
    go_wp2
    go_ret
    exact ⟨rfl, hb1⟩
  have d1 : decide (2000 < (xs.length : Int)) = false := decide_eq_false (by omega)
  have d1' : decide (2000 < xs.length) = false := decide_eq_false hlen
  have LB := Lib.hid (lay_bytes BB.out)
  obtain ⟨i0, hi0, hz0, hz1, hz2⟩ := info_parts u8_info
  obtain ⟨AC, hAC, hACs, hmk⟩ := made_run (P := Try.prog) Try.underlying22 hi0 hz0 hz1 128 128 (by decide) (by rw [hz2]; decide) (by decide)
  rw [show ((128 : Nat) : Int) = 128 from rfl] at hmk
  have R0 := Lib.hid (fun W => row_made W AC 128 hAC (by decide))
  clear hAC hACs hi0 hz0 hz1 hz2 i0
  obtain ⟨τ, hτ, hτ2⟩ : ∃ τ : Nat, torn % 129 = (τ : Int) ∧ τ ≤ 128 := ⟨(torn % 129).toNat, by omega, by omega⟩
  go_enter Try.func6, Try.ntmps6
  go_wp2_with fail
  (with_reducible refine (known_any _).mono ?_)
  rintro e w1 ⟨rfl, hb1⟩
  have HB1 := Lib.hid hb1
  clear hb1
  go_upto_region 3 with (fail)
  go_cut [9] (fun v wx => (∃ n : Nat, v = .int .i64 n ∧ n ≤ xs.length) ∧ w1 = wx)
  case first =>
    by_cases hk0 : k ≤ 0
    · go_wp2_with fail
      all_goals
        go_meet
        first | exact ⟨⟨0, rfl, by omega⟩, rfl⟩ | exact ⟨⟨0, by rw [show k = 0 by omega, Int.zero_emod]; rfl, by omega⟩, rfl⟩
    · have hk1 : 0 ≤ k := by omega
      obtain ⟨n, hn, hn2⟩ : ∃ n : Nat, k % ((xs.length : Int) + 1) = (n : Int) ∧ n ≤ xs.length := ⟨(k % ((xs.length : Int) + 1)).toNat, by have := Int.emod_nonneg k (show (xs.length : Int) + 1 ≠ 0 by omega); omega, by have := Int.emod_lt_of_pos k (show (0 : Int) < (xs.length : Int) + 1 by omega); omega⟩
      go_wp2_with fail
      all_goals
        go_meet
        first | exact ⟨⟨n, rfl, hn2⟩, rfl⟩ | exact ⟨⟨n, by rw [hn], hn2⟩, rfl⟩ | exact ⟨⟨0, rfl, by omega⟩, rfl⟩
  case rest =>
    obtain ⟨⟨n, rfl, hnL⟩, rfl⟩ := hcut
    obtain ⟨nO, hnO⟩ : ∃ nO, cnt n = nO := ⟨_, rfl⟩
    obtain ⟨nL, hnL2⟩ : ∃ nL, cnt xs.length = nL := ⟨_, rfl⟩
    have HNO := Lib.hid hnO
    have HNL := Lib.hid hnL2
    have hTL : (xs.take n).length = n := by rw [List.length_take]; omega
    have HTL := Lib.hid hTL
    have IT := Lib.hid ((HV.out.below HB1.out).take hnL)
    have BT := Lib.hid (show Bytes (xs.take n) from fun x hx => BB.out x (List.mem_of_mem_take hx))
    have hnO16 : nO ≤ 16 := by rw [← hnO]; unfold cnt; omega
    have hnL16 : nL ≤ 16 := by rw [← hnL2]; unfold cnt; omega
    clear hnO hnL2 hTL
    go_wp2_with fail
    (with_reducible refine (lay_any _ w.heap.size _ (xs.take n) IT.out HB1.out.size (by rw [HTL.out]; omega)).mono ?_)
    rintro e w3 ⟨v3, l3, rfl, tab3, hl3, hb3⟩
    have HB3 := Lib.hid (step_ HB1.out hb3)
    have LN3 := Lib.hid (show l3.length = nO by have := congrArg List.length hl3; rw [List.length_map, lay_len, HTL.out, HNO.out] at this; exact this)
    have TAB3 := Lib.hid tab3
    have HL3 := Lib.hid hl3
    obtain ⟨A3, c3, rfl, hc3, hm3⟩ := (tab3.sr (fun p hp => lay_bytes BT.out _ (by rw [← hl3]; exact List.mem_map.2 ⟨p, hp, rfl⟩))).form
    rw [List.length_map, LN3.out] at hc3
    rw [List.length_map, LN3.out]
    rw [List.length_map, LN3.out] at TAB3
    unfold maxLen at hm3
    clear tab3 hl3 hb3
    go_wp2_with fail
    (with_reducible refine (lay_any _ w.heap.size _ xs (HV.out.below HB3.out) HB3.out.size (by omega)).mono ?_)
    rintro e w5 ⟨v5, l5, rfl, tab5, hl5, hb5⟩
    have HB5 := Lib.hid (step_ HB3.out hb5)
    have LN5 := Lib.hid (show l5.length = nL by have := congrArg List.length hl5; rw [List.length_map, lay_len, HNL.out] at this; exact this)
    have TAB35 := Lib.hid (TAB3.out.later hb5)
    have HL5 := Lib.hid hl5
    have Z35 := Lib.hid hb5.size
    by_cases hz : nL = 0
    · have HX0 := Lib.hid hz
      obtain ⟨A5, c5, rfl, hc5, hm5⟩ := (tab5.sr (fun p hp => LB.out _ (by rw [← hl5]; exact List.mem_map.2 ⟨p, hp, rfl⟩))).form
      rw [List.length_map, LN5.out, HX0.out]
      clear tab5 hl5 hb5 hz hc5 hm5
      go_wp2
      go_ret
      exact ⟨rfl, HB5.out⟩
    have hnpos : 0 < nL := by omega
    obtain ⟨i, hi, hin⟩ : ∃ i : Nat, pos % (nL : Int) = (i : Int) ∧ i < nL := ⟨(pos % (nL : Int)).toNat, by have := Int.emod_nonneg pos (show (nL : Int) ≠ 0 by omega); omega, by have := Int.emod_lt_of_pos pos (show (0 : Int) < (nL : Int) by omega); omega⟩
    have hlt5 : i < l5.length := by rw [LN5.out]; exact hin
    obtain ⟨g5, c5, rfl, hcell5, hfr5, hc5, hm5⟩ := tab5.cell i hlt5
    have hri := tab5.rows _ (List.getElem_mem hlt5)
    have hxi : l5[i].2.2 = sec7 xs i := by
      have h1 : (l5.map (·.2.2))[i]? = some (sec7 xs i) := by rw [hl5]; unfold lay7; rw [List.getElem?_map, List.getElem?_range (by rw [HNL.out]; exact hin)]; rfl
      rw [List.getElem?_map, List.getElem?_eq_getElem hlt5] at h1
      injection h1
    obtain ⟨p, hp⟩ : ∃ p, l5[i] = p := ⟨_, rfl⟩
    have hmem : p ∈ l5 := by rw [← hp]; exact List.getElem_mem hlt5
    rw [hp] at hri hxi hcell5
    obtain ⟨gi, ui, zi⟩ := p
    simp only at hri hxi hcell5
    subst hxi
    obtain ⟨ci, rfl⟩ := hri.1.form
    have hci : 128 ≤ ci ∧ ci ≤ maxLen := by obtain ⟨_, _, e, _, _, h, _, h', _⟩ := hri.1.heap; injection e with _ _ e3; rw [sec_len] at h; omega
    rw [sec_len] at hri hcell5
    rw [LN5.out] at hc5
    unfold maxLen at hm5 hci
    have ROWI := Lib.hid hri
    have TAB5 := Lib.hid tab5
    have HC5 := Lib.hid hcell5
    have HF5 := Lib.hid hfr5
    rw [LN5.out] at TAB5
    rw [LN5.out]
    have G5 := Lib.hid (show w3.heap.size ≤ g5 ∧ g5 < w5.heap.size from tab5.outer.lt g5 rfl)
    have HIN := Lib.hid hin
    clear tab5 hl5 hb5 hri hmem hp hlt5 hz
    go_upto_if 48 with (fail)
    rw [hi]
    go_cut [13] (fun v wx => Hid (TornB w5 i n xs v wx))
    case first =>
      by_cases hio : i < nO
      · have q1 : decide ((i : Int) < (nO : Int)) = true := decide_eq_true (by omega)
        have q1' : decide (i < nO) = true := decide_eq_true hio
        have hlt3 : i < l3.length := by rw [LN3.out]; exact hio
        obtain ⟨g3, c3', e3, hcell3, _, _, _⟩ := TAB35.out.cell i hlt3
        have hr3 := (TAB35.out.rows _ (List.getElem_mem hlt3)).1
        have hx3 : l3[i].2.2 = sec7 (xs.take n) i := by
          have h1 : (l3.map (·.2.2))[i]? = some (sec7 (xs.take n) i) := by rw [HL3.out]; unfold lay7; rw [List.getElem?_map, List.getElem?_range (by rw [HTL.out, HNO.out]; exact hio)]; rfl
          rw [List.getElem?_map, List.getElem?_eq_getElem hlt3] at h1
          injection h1
        generalize l3[i] = p3 at hr3 hx3 hcell3
        obtain ⟨gj, uj, zj⟩ := p3
        simp only at hr3 hx3 hcell3
        subst hx3
        obtain ⟨cj, rfl⟩ := hr3.form
        have hgj := (row_lt hr3).2
        rw [sec_len] at hr3 hcell3
        have IJ := Lib.hid ((hr3.ir.more (show gj + 1 ≤ w5.heap.size from hgj)).alloc (Nat.le_refl _) (.cells AC 5))
        have hcell3' : (w5.alloc (.cells AC 5)).cell? ⟨g3, i, none⟩ = some (.slice (some ⟨gj, 0, none⟩) 128 cj) := ((new_ (Below.refl w5.heap.size w5) (.cells AC 5)).cell (p := ⟨g3, i, none⟩) (lt_of_cell hcell3)).trans hcell3
        injection e3 with e3 e4 e5
        subst e3
        clear hr3 hgj hcell3 hlt3 e4 e5
        go_wp2_with (go_at_call 9; refine (lent_any _ _ _ _ IJ.out (by rw [sec_len]; decide)).mono ?_; rintro e w6 ⟨u6, rfl, ow6, hb6⟩; obtain ⟨go, rowo, hgo1, hgo2⟩ := RowAt.of_own ow6 (by rw [sec_len]; decide); obtain ⟨co, rfl⟩ := rowo.form; rw [sec_len] at rowo; rw [sec_len]; have ROWO := Lib.hid rowo; have HB6 := Lib.hid hb6; have GO := Lib.hid hgo1; clear ow6 rowo hgo1 hgo2 hb6)
        go_meet
        exact Lib.hid ⟨go, co, _, rfl, ROWO.out.lower (by simp), (new_ (Below.refl _ _) _).trans (HB6.out.mono (by simp)), sec_bytes BT.out i, sec_len _ _, .inl rfl⟩
      · have q1 : decide ((i : Int) < (nO : Int)) = false := decide_eq_false (by omega)
        have q1' : decide (i < nO) = false := decide_eq_false hio
        go_wp2_with fail
        go_meet
        refine Lib.hid ⟨w5.heap.size, 128, _, rfl, R0.out w5, new_ (Below.refl _ _) _, bytes_rep 128, by simp, .inr ⟨rfl, by have := HNO.out; omega⟩⟩
    case rest =>
      obtain ⟨go, co, z, rfl, row6, hb6, bz, lz, zz⟩ := hcut.out
      have hgo := (row_lt row6).1
      have hgo2 := (row_lt row6).2
      have GO := Lib.hid (And.intro hgo hgo2)
      have lc := (hb6.cell (p := ⟨g5, i, none⟩) G5.out.2).trans HC5.out
      have hgi := (row_lt ROWI.out.1).2
      have RI6 := Lib.hid (ROWI.out.1.below hb6 ROWI.out.2)
      have LC := Lib.hid lc
      have ROW6 := Lib.hid row6
      have HB6 := Lib.hid hb6
      have BZ := Lib.hid bz
      have LZ := Lib.hid lz
      obtain ⟨m, hmL, hmn, hmr⟩ := torn_is xs n i τ hnL (by rw [HNL.out]; exact HIN.out) hτ2 z zz
      have HMR := Lib.hid hmr
      have SL := Lib.hid (sec_len xs i)
      have SB := Lib.hid (sec_bytes BB.out i)
      have BM := Lib.hid (show Bytes (xs.take m) from fun x hx => BB.out x (List.mem_of_mem_take hx))
      have hml : (xs.take m).length = m := by rw [List.length_take]; omega
      have HML := Lib.hid hml
      have hi16 : i ≤ 16 := by have := HIN.out; omega
      clear hcut row6 hb6 bz lz zz hgo hgo2 hgi hmr hml hcell5 hfr5
      go_wp2
      go_loopw [14] (fun x wr => ∃ j : Nat, x = .int .i64 j ∧ j ≤ τ ∧ Hid (RowAt 5 wr w5.heap.size go (.slice (some ⟨go, 0, none⟩) 128 co) (over z (sec7 xs i) j)) ∧ Hid (Fr (fun x => x = go) wc wr)) (fun x _ => τ - (intOf x).toNat)
      case atStart => exact ⟨0, rfl, by omega, by rw [over_zero]; exact ROW6, Lib.hid (Fr.refl _ _)⟩
      case round =>
        obtain ⟨j, rfl, hj, HR, HF⟩ := hrel
        have mc := (HF.out.cell (p := ⟨g5, i, none⟩) (lt_of_cell LC.out) (by have := G5.out; have := GO.out; show ¬ g5 = go; omega)).trans LC.out
        by_cases hlt : j < τ
        · have q1 : decide ((j : Int) < (τ : Int)) = true := decide_eq_true (by omega)
          have q1' : decide (j < τ) = true := decide_eq_true hlt
          have hj128 : j < 128 := by omega
          have kc := row_cell (row_fr RI6.out HF.out (by have := ROWI.out.2; have := GO.out; show ¬ gi = go; omega)) j (by rw [SL.out]; exact hj128)
          have oc := row_cell HR.out j (by rw [over_len LZ.out SL.out (by omega)]; exact hj128)
          have ofr := row_frozen HR.out j
          have hp := HR.out.put j ((sec7 xs i).getD j 0)
          rw [over_step LZ.out SL.out hj128] at hp
          have STEP := Lib.hid hp
          generalize (sec7 xs i).getD j 0 = y at *
          generalize (over z (sec7 xs i) j).getD j 0 = y2 at *
          clear hp
          go_wp2
          go_roundw
          case rel => exact ⟨j + 1, by go_num, by omega, STEP, Lib.hid (HF.out.setCell (.inl rfl) _)⟩
          case measure => simp [intOf]; omega
        · obtain rfl : j = τ := by omega
          have q1 : decide ((j : Int) < (j : Int)) = false := decide_eq_false (by omega)
          have q1' : decide (j < j) = false := decide_eq_false (by omega)
          have D5 : Below w5.heap.size w5 wr := HB6.out.trans (HF.out.to_below (fun k hk => by have := GO.out; omega) HB6.out.size)
          have T5 := TAB5.out.below D5
          have lfr := own_frozen (by have := T5.outer; rwa [LN5.out] at this) i
          have T6 := Tab.swap T5 (by decide) LN5.out i (HR.out.lower (show w3.heap.size ≤ w5.heap.size from Z35.out)) GO.out.1
          have hls : (l5.set i (go, .slice (some ⟨go, 0, none⟩) 128 co, over z (sec7 xs i) j)).map (·.2.2) = (lay7 xs).set i (over z (sec7 xs i) j) := by rw [List.map_set, HL5.out]
          obtain ⟨sr6, hm6⟩ := sr_of_tab T6 hls (fun ys hy => by
            rcases List.mem_or_eq_of_mem_set hy with h | rfl
            · exact LB.out ys h
            · exact over_bytes BZ.out SB.out j)
          have SR6 := Lib.hid sr6
          have HM6 := Lib.hid (show readS (((l5.set i (go, .slice (some ⟨go, 0, none⟩) 128 co, over z (sec7 xs i) j)).map (·.2)).map (·.2)) = xs.take m by rw [hm6]; exact HMR.out)
          have LL6 := Lib.hid (show ((l5.set i (go, .slice (some ⟨go, 0, none⟩) 128 co, over z (sec7 xs i) j)).map (·.2)).length ≤ 1000 by rw [List.length_map, List.length_set, LN5.out]; omega)
          have D6 := Lib.hid ((HB5.out.trans (D5.mono HB5.out.size)).setCell (p := ⟨g5, i, none⟩) (by have := G5.out.1; have := HB3.out.size; show w.heap.size ≤ g5; omega) (.slice (some ⟨go, 0, none⟩) 128 co))
          clear D5 T5 T6 hls sr6 hm6
          have hmi : (m : Int) ≤ (xs.length : Int) := by omega
          have key : (127 * (i : Int) < (n : Int) ∧ 127 * (i : Int) ≤ (m : Int)) ∨ (¬ 127 * (i : Int) < (n : Int) ∧ (n : Int) ≤ (m : Int)) := by
            by_cases h : 127 * i < n
            · exact .inl (by omega)
            · exact .inr (by omega)
          clear hmn
          rcases key with ⟨a1, a2⟩ | ⟨a1, a2⟩
          all_goals
            go_wp2_with fail
            (with_reducible refine (read_any _ _ _ _ SR6.out (by simp [World.setCell]) LL6.out).mono ?_)
            rintro e w8 ⟨v8, rfl, ow8, hb8⟩
            rw [HM6.out] at ow8
            obtain ⟨A8, c8, rfl, hc8, hm8⟩ := (IR.of_own ow8).form
            have I8 := Lib.hid (IR.of_own ow8)
            rw [HML.out] at I8 hc8
            rw [HML.out]
            unfold maxLen at hm8
            have HB8 := Lib.hid (step_ D6.out hb8)
            have IS := Lib.hid ((HV.out.below HB8.out).take hmL)
            clear ow8 hb8
            go_wp2_with fail
            (with_reducible refine (same_any _ _ (xs.take m) (xs.take m) w8 _ _ I8.out IS.out BM.out BM.out).mono ?_)
            rintro e w9 ⟨rfl, rfl⟩
            go_wp2
            go_ret
            exact ⟨rfl, HB8.out⟩


set_option maxRecDepth 100000 in
theorem lifted (os : Os) (started : os.Started) (H : Type) (enc : TypeId × Value → H) :
    ReturnsInHanded {} Try.checked os 6 .any (Rows.stripFrontsSpec.pre6 enc Try.prog Try.f6 Rows.stripFrontsRow.domain false) (Rows.stripFrontsSpec.post enc Try.prog Try.f6 false true false false) := by
  refine returnsInHanded_of_change (C := Try.checked) own started (by kernel_rfl) Try.func6
    (ChangeSpec.witness6 (enc := enc) (C := Try.checked) false ⟨#[], #[.slice none 0 0, .int .i64 0, .int .u8 0, .int .u8 0], []⟩ 8 (by kernel_rfl) (by kernel_rfl) (by kernel_rfl) (by kernel_rfl)) ?_
  intro W base args ds gs before hval0 hW hcnd _
  have hval : ∀ (j : Nat) t v, Try.f6.params[j]? = some t → args[j]? = some v → Value.okWide Try.prog W .any base t v := hval0
  have hW' := hW
  obtain ⟨p, q, hA0, hV, rfl, hfz, hnd⟩ := hW
  have hA1 : DataW.TrodAll enc Try.prog W 0 (fun _ => true) true Try.f6.params.toList args.toList ds p := hA0
  have hA := hA1
  rw [Try.params6] at hA hval
  obtain ⟨v0, vs0, d0, ds0, p0, q0, hargs, rfl, rfl, h0, r0⟩ := trodAll_cons hA
  obtain ⟨v1, vs1, d1, ds1, p1, q1, rfl, rfl, rfl, h1, r1⟩ := trodAll_cons r0
  obtain ⟨v2, vs2, d2, ds2, p2, q2, rfl, rfl, rfl, h2, r2⟩ := trodAll_cons r1
  obtain ⟨v3, vs3, d3, ds3, p3, q3, rfl, rfl, rfl, h3, r3⟩ := trodAll_cons r2
  obtain ⟨rfl, rfl, rfl⟩ := trodAll_nil r3
  obtain rfl : args = #[v0, v1, v2, v3] := by cases args; simp_all
  obtain ⟨rfl, rfl⟩ := trodVars_none hV
  obtain ⟨xs, i0, wf0⟩ := open_IR Try.underlying22 Try.underlying5 (by kernel_rfl) (hval 0 22 v0 rfl rfl) h0
  obtain ⟨k, rfl, rfl, rfl, wf1⟩ := open_int Try.underlying3 (hval 1 3 v1 rfl rfl) h1
  obtain ⟨pos, rfl, rfl, rfl, wf2⟩ := open_int Try.underlying5 (hval 2 5 v2 rfl rfl) h2
  obtain ⟨torn, rfl, rfl, rfl, wf3⟩ := open_int Try.underlying5 (hval 3 5 v3 rfl rfl) h3
  clear hA0 hval0
  refine (walk W v0 xs i0 (fun n hn => bounds_u8 (wf0 n hn)) k (bounds_i64 wf1) pos (bounds_u8 wf2) torn (bounds_u8 wf3)).mono fun e W' ⟨he, bel⟩ => ?_
  subst he
  exact ⟨_, rfl, _, _, _, [], _, [], hW', trodAll_mk1 (shut_bool Try.underlying4 _), args_again laidOut bel (by kernel_rfl) hA1, rfl, bel.frame _, fun h => by cases h⟩

theorem over : Rows.stripFrontsRow.holds Try.pinned (OpenSpec.ofChange Rows.stripFrontsSpec) :=
  OpenClaim.holds_of_wide 6 Try.f6 rfl rfl rfl rfl rfl rfl rfl ⟨rfl, rfl, rfl, rfl, rfl⟩ rfl rfl rfl rfl rfl (by kernel_rfl) Try.func6 (by kernel_rfl)
    (of_decide_eq_true (by kernel_rfl)) (by unfold Func.isWrapper; first | (rw [if_pos (by decide +kernel)]; kernel_rfl) | (rw [if_neg (by decide +kernel)]; exact ⟨rfl, rfl⟩))
    (fun os started H enc _ => lifted os started H enc)

theorem proved : Rows.StripFrontsSaid := over
end Go.Proofs.Ytkhjkmelajlpeaa.LStripFronts
