/- The law manciplelaw10.SealTorn returns true whatever it is called with, and what it was called with reads as it did. No condition. -/
import Derived.Test.YtacjbgkcghcnnaaLaw
import Derived.Test.YtacjbgkcghcnnaaSealF
namespace Go.Proofs.Ytacjbgkcghcnnaa.LSealTorn
open Go.ChangeShapes Go.WideShapes Go.ChangeAt Go.RowKit Go.IntWalk Go.Proofs.Mem Law
set_option linter.unusedVariables false
open Go.Proofs.Ytacjbgkcghcnnaa.Seal _root_.Go.Proofs.Ytacjbgkcghcnnaa.NumBytes
set_option maxRecDepth 100000 in
set_option maxHeartbeats 8000000 in
theorem walk (w : World) (a : Value) (xa : List Int) (ha : IR w w.heap.size .u8 a xa) (ba : Bytes xa) (b : Value) (xb : List Int) (hb : IR w w.heap.size .u8 b xb) (bb : Bytes xb) (s : Int) (hs : 0 ≤ s ∧ s ≤ 18446744073709551615) (t : Int) (ht : 0 ≤ t ∧ t ≤ 18446744073709551615) (kp : Int) (hkp : 0 ≤ kp ∧ kp ≤ 255) (pl : Int) (hpl : 0 ≤ pl ∧ pl ≤ 255) (tn : Int) (htn : 0 ≤ tn ∧ tn ≤ 255) :
    Calls Try.prog 6 #[a, b, .int .u64 s, .int .u64 t, .int .u8 kp, .int .u8 pl, .int .u8 tn] w fun e w' => e = .returned (.bool true) ∧ Below w.heap.size w w' := by
  obtain ⟨A1, c1, rfl, hlc1, hcm1⟩ := ha.form
  obtain ⟨A2, c2, rfl, hlc2, hcm2⟩ := hb.form
  unfold maxLen at hcm1 hcm2
  have HA := Lib.hid ha
  have HB := Lib.hid hb
  have BA := Lib.hid ba
  have BB := Lib.hid bb
  clear ha hb ba bb
  by_cases hl1 : 448 < xa.length
  · have d1 : decide (448 < (xa.length : Int)) = true := decide_eq_true (by omega)
    have d1' : decide (448 < xa.length) = true := decide_eq_true hl1
    go_enter Try.func6, Try.ntmps6
    go_wp2_with fail
    (with_reducible refine (known_any _).mono ?_)
    rintro e w1 ⟨rfl, hb1⟩
    go_wp2
    go_ret
    exact ⟨rfl, hb1⟩
  have d1 : decide (448 < (xa.length : Int)) = false := decide_eq_false (by omega)
  have d1' : decide (448 < xa.length) = false := decide_eq_false hl1
  by_cases hl2 : 448 < xb.length
  · have d2 : decide (448 < (xb.length : Int)) = true := decide_eq_true (by omega)
    have d2' : decide (448 < xb.length) = true := decide_eq_true hl2
    go_enter Try.func6, Try.ntmps6
    go_wp2_with fail
    (with_reducible refine (known_any _).mono ?_)
    rintro e w1 ⟨rfl, hb1⟩
    go_wp2
    go_ret
    exact ⟨rfl, hb1⟩
  have d2 : decide (448 < (xb.length : Int)) = false := decide_eq_false (by omega)
  have d2' : decide (448 < xb.length) = false := decide_eq_false hl2
  by_cases hst : s = t
  · have d3 : (s == t) = true := by simpa using hst
    have HST := Lib.hid hst
    clear hst
    go_enter Try.func6, Try.ntmps6
    go_wp2_with fail
    (with_reducible refine (known_any _).mono ?_)
    rintro e w1 ⟨rfl, hb1⟩
    go_wp2
    go_ret
    exact ⟨rfl, hb1⟩
  have d3 : (s == t) = false := by simpa using hst
  have HST := Lib.hid hst
  clear hst
  obtain ⟨j0, hj0, hj4⟩ : ∃ j0 : Nat, pl % 4 = (j0 : Int) ∧ j0 < 4 := ⟨(pl % 4).toNat, by omega, by omega⟩
  obtain ⟨τ, hτ, hτ2⟩ : ∃ τ : Nat, tn % 129 = (τ : Int) ∧ τ ≤ 128 := ⟨(tn % 129).toNat, by omega, by omega⟩
  go_enter Try.func6, Try.ntmps6
  go_wp2_with fail
  (with_reducible refine (known_any _).mono ?_)
  rintro e w1 ⟨rfl, hb1⟩
  have HB1 := Lib.hid hb1
  clear hb1
  go_wp2_with fail
  (with_reducible refine (page_any _ _ _ _ (HA.out.below HB1.out) BA.out HB1.out.size).mono ?_)
  rintro e w2 ⟨gx, xs, rfl, rowx, hxl, hxb, hb2⟩
  have HB2 := Lib.hid (step_ HB1.out hb2)
  have hgx : gx < w2.heap.size := by obtain ⟨_, _, _, _, h, _⟩ := rowx.heap; exact (Array.getElem?_eq_some_iff.1 h).1
  have IX := Lib.hid (rowx.ir.more (show gx + 1 ≤ w2.heap.size from hgx))
  have XL := Lib.hid hxl
  have XB := Lib.hid hxb
  clear rowx hxl hxb hb2 hgx
  go_wp2_with fail
  (with_reducible refine (page_any _ _ _ _ (HB.out.below HB2.out) BB.out HB2.out.size).mono ?_)
  rintro e w3 ⟨gy, ys, rfl, rowy, hyl, hyb, hb3⟩
  have HB3 := Lib.hid (step_ HB2.out hb3)
  have hgy : gy < w3.heap.size := by obtain ⟨_, _, _, _, h, _⟩ := rowy.heap; exact (Array.getElem?_eq_some_iff.1 h).1
  have IY := Lib.hid (rowy.ir.more (show gy + 1 ≤ w3.heap.size from hgy))
  have IX3 := Lib.hid ((IX.out.below hb3).more hb3.size)
  have YL := Lib.hid hyl
  have YB := Lib.hid hyb
  clear rowy hyl hyb hb3 hgy
  go_wp2_with fail
  (with_reducible refine (seal_any _ w3.heap.size _ _ s IX3.out (Nat.le_refl _) hs).mono ?_)
  rintro e w4 ⟨vl, l, rfl, tabl, hl, hb4⟩
  rw [if_pos XL.out] at hl
  obtain ⟨gl, cl, rfl, fl⟩ := four_of tabl XL.out XB.out hl
  have HB4 := Lib.hid (step_ HB3.out hb4)
  have FL := Lib.hid fl
  have IY4 := Lib.hid ((IY.out.below hb4).more hb4.size)
  have IX4 := Lib.hid ((IX3.out.below hb4).more hb4.size)
  have Z34 := Lib.hid hb4.size
  have B34 := Lib.hid hb4
  clear tabl hl hb4 fl
  go_wp2_with fail
  (with_reducible refine (seal_any _ w4.heap.size _ _ t IY4.out (Nat.le_refl _) ht).mono ?_)
  rintro e w5 ⟨vm, m, rfl, tabm, hm, hb5⟩
  rw [if_pos YL.out] at hm
  obtain ⟨gm, cm, rfl, fm⟩ := four_of tabm YL.out YB.out hm
  have HB5 := Lib.hid (step_ HB4.out hb5)
  have FM := Lib.hid fm
  have OL := Lib.hid (FL.out.tab.later hb5).outer
  have FL5 := Lib.hid (show Four w5 w3.heap.size w4.heap.size gl cl l (sealS xs s) from ⟨FL.out.tab.later hb5, FL.out.len, FL.out.eq, FL.out.all⟩)
  have IY5 := Lib.hid ((IY4.out.below hb5).more hb5.size)
  have IX5 := Lib.hid ((IX4.out.below hb5).more hb5.size)
  have G := Lib.hid (show gl < w4.heap.size ∧ w4.heap.size ≤ gm ∧ w4.heap.size ≤ w5.heap.size ∧ w3.heap.size ≤ gl by
    obtain ⟨_, h1, _⟩ := own_heap (by have := fm.tab.outer; rwa [fm.len] at this)
    obtain ⟨_, h2, h3, _⟩ := own_heap (by have := FL.out.tab.outer; rwa [FL.out.len] at this)
    exact ⟨h3.lt, h1, hb5.size, h2⟩)
  have D5 := Lib.hid (show Below w3.heap.size w3 w5 from (Lib.hid hb5).out.mono Z34.out |> fun h => B34.out.trans h)
  have WS := Lib.hid (show w.heap.size ≤ w3.heap.size from HB3.out.size)
  clear tabm hm hb5 fm
  go_wp2
  go_loopw [19] (fun i wr => ∃ (k : Nat) (us : List Value), i = .int .i64 k ∧ k ≤ 4 ∧ Hid (wr.ownsRow w3.heap.size 22 1 (.slice (some ⟨gl, 0, none⟩) 4 cl) 4 us) ∧ Hid (∀ j, j < 4 → us[j]? = (l.map (·.2.1))[j]? ∨ us[j]? = (m.map (·.2.1))[j]?) ∧ Hid (Fr (fun x => x = gl) w5 wr)) (fun i _ => 4 - (intOf i).toNat)
  case atStart => exact ⟨0, l.map (·.2.1), rfl, by omega, Lib.hid (by have := OL.out; rwa [FL.out.len] at this), Lib.hid (fun j _ => .inl rfl), Lib.hid (Fr.refl _ _)⟩
  case round =>
    obtain ⟨k, us, rfl, hk, HO, HU, HF⟩ := hrel
    by_cases hlt : k < 4
    · obtain ⟨gk, ck, zk, hmk, _, _, _, _, _, hck, hckm⟩ := FM.out.row k hlt
      have mcell := own_cell (by have := FM.out.tab.outer; rwa [FM.out.len] at this) hmk
      have mcell2 : wr.cell? ⟨gm, k, none⟩ = some (.slice (some ⟨gk, 0, none⟩) 128 ck) := (HF.out.cell (p := ⟨gm, k, none⟩) (Law.lt_of_cell mcell) (by have := G.out; show ¬ gm = gl; omega)).trans mcell
      have hul : us.length = 4 := by have := HO.out.1; simpa using this
      obtain ⟨lu, hlu⟩ : ∃ x, us[k]? = some x := ⟨_, List.getElem?_eq_getElem (show k < us.length by omega)⟩
      have lcell := own_cell HO.out hlu
      have lfr := own_frozen HO.out k
      have SET := Lib.hid (own_set HO.out k (.slice (some ⟨gk, 0, none⟩) 128 ck))
      have HMK := Lib.hid hmk
      have HUL := Lib.hid hul
      clear mcell hmk hul hck hckm hlu
      have hk4 : k = 0 ∨ k = 1 ∨ k = 2 ∨ k = 3 := by omega
      clear hlt hk
      rcases hk4 with rfl | rfl | rfl | rfl
      · go_wp2
        all_goals
          go_roundw
          case rel =>
            first
              | exact ⟨0 + 1, us, by go_num, by decide, HO, HU, HF⟩
              | exact ⟨0 + 1, us.set 0 (.slice (some ⟨gk, 0, none⟩) 128 ck), by go_num, by decide, SET, Lib.hid (fun j hj => by
                  rw [List.getElem?_set]
                  by_cases e : 0 = j
                  · subst e; rw [if_pos rfl, if_pos (by have := HUL.out; omega)]; exact .inr HMK.out.symm
                  · rw [if_neg e]; exact HU.out j hj), Lib.hid (HF.out.setCell (.inl rfl) _)⟩
          case measure => simp [intOf]
      · go_wp2
        all_goals
          go_roundw
          case rel =>
            first
              | exact ⟨1 + 1, us, by go_num, by decide, HO, HU, HF⟩
              | exact ⟨1 + 1, us.set 1 (.slice (some ⟨gk, 0, none⟩) 128 ck), by go_num, by decide, SET, Lib.hid (fun j hj => by
                  rw [List.getElem?_set]
                  by_cases e : 1 = j
                  · subst e; rw [if_pos rfl, if_pos (by have := HUL.out; omega)]; exact .inr HMK.out.symm
                  · rw [if_neg e]; exact HU.out j hj), Lib.hid (HF.out.setCell (.inl rfl) _)⟩
          case measure => simp [intOf]
      · go_wp2
        all_goals
          go_roundw
          case rel =>
            first
              | exact ⟨2 + 1, us, by go_num, by decide, HO, HU, HF⟩
              | exact ⟨2 + 1, us.set 2 (.slice (some ⟨gk, 0, none⟩) 128 ck), by go_num, by decide, SET, Lib.hid (fun j hj => by
                  rw [List.getElem?_set]
                  by_cases e : 2 = j
                  · subst e; rw [if_pos rfl, if_pos (by have := HUL.out; omega)]; exact .inr HMK.out.symm
                  · rw [if_neg e]; exact HU.out j hj), Lib.hid (HF.out.setCell (.inl rfl) _)⟩
          case measure => simp [intOf]
      · go_wp2
        all_goals
          go_roundw
          case rel =>
            first
              | exact ⟨3 + 1, us, by go_num, by decide, HO, HU, HF⟩
              | exact ⟨3 + 1, us.set 3 (.slice (some ⟨gk, 0, none⟩) 128 ck), by go_num, by decide, SET, Lib.hid (fun j hj => by
                  rw [List.getElem?_set]
                  by_cases e : 3 = j
                  · subst e; rw [if_pos rfl, if_pos (by have := HUL.out; omega)]; exact .inr HMK.out.symm
                  · rw [if_neg e]; exact HU.out j hj), Lib.hid (HF.out.setCell (.inl rfl) _)⟩
          case measure => simp [intOf]
    · obtain rfl : k = 4 := by omega
      obtain ⟨wo, rfl⟩ : ∃ wo : World, wo = wr := ⟨_, rfl⟩
      have PK := Lib.hid (fun i hi => pick_of hi FL5.out FM.out (by have := OL.out; rwa [FL.out.len] at this) HF.out (HU.out i hi))
      obtain ⟨u, z, bz, gz, cz, hu, rfl, rowz, hz, hzb, hzz, hcz, hczm⟩ := PK.out j0 hj4
      have lcell := own_cell HO.out hu
      have IZ := Lib.hid rowz.ir
      have HZ := Lib.hid (And.intro hz (And.intro hzb hzz))
      obtain ⟨gk, ck, zk, hmk, hLk, rowk, h128, hbk, _, hck, hckm⟩ := FM.out.row j0 hj4
      have mcell := own_cell (by have := FM.out.tab.outer; rwa [FM.out.len] at this) hmk
      have gmlt := Law.lt_of_cell mcell
      have mcell2 : wo.cell? ⟨gm, j0, none⟩ = some (.slice (some ⟨gk, 0, none⟩) 128 ck) := (HF.out.cell (p := ⟨gm, j0, none⟩) gmlt (by have := G.out; show ¬ gm = gl; omega)).trans mcell
      have ROWK := Lib.hid (row_fr rowk HF.out (row_apart (by have := OL.out; rwa [FL.out.len] at this) rowk))
      have HK := Lib.hid (And.intro h128 (And.intro hbk (show zk = sec ys t (112 * j0) by rw [sealS_at ys t j0 hj4] at hLk; injection hLk with h; exact h.symm)))
      have GM := Lib.hid (show gm < wo.heap.size by have := HF.out.size; exact Nat.lt_of_lt_of_le gmlt this)
      have GL := Lib.hid (show gl < wo.heap.size by have := HF.out.size; have := G.out; omega)
      have D6 := Lib.hid (D5.out.trans (HF.out.to_below (B := w3.heap.size) (by have := G.out; rintro x rfl; omega) D5.out.size))
      have MC := Lib.hid mcell2
      clear rowz hz hzb hzz hu hmk hLk rowk h128 hbk mcell gmlt mcell2 hczm hckm
      go_wp2_with fail
      (with_reducible refine (lent_any _ z wo _ IZ.out (by have := HZ.out.1; omega)).mono ?_)
      rintro e w6 ⟨uo, rfl, ow6, hb6⟩
      obtain ⟨go, rowo, hgo1, hgo2⟩ := RowAt.of_own ow6 (by have := HZ.out.1; omega)
      obtain ⟨co, rfl⟩ := rowo.form
      have hz := HZ.out.1
      have hco : 128 ≤ co ∧ co ≤ maxLen := by obtain ⟨_, _, e, _, _, hc, _, hm, _⟩ := rowo.heap; injection e with _ _ e3; omega
      rw [hz] at rowo
      rw [hz]
      have ROWO := Lib.hid rowo
      have GO := Lib.hid (And.intro hgo1 hgo2)
      have mc6 : w6.cell? ⟨gm, j0, none⟩ = some (.slice (some ⟨gk, 0, none⟩) 128 ck) := (hb6.cell (p := ⟨gm, j0, none⟩) GM.out).trans MC.out
      have HB6 := Lib.hid hb6
      have MC6 := Lib.hid mc6
      have ROWK6 := Lib.hid (ROWK.out.sc (Sc.of_below hb6))
      have O6 := Lib.hid (own_below HO.out hb6)
      clear ow6 hgo1 hgo2 rowo hz hb6
      go_wp2
      go_loopw [22] (fun i W => ∃ j : Nat, i = .int .i64 j ∧ j ≤ τ ∧ Hid (RowAt 5 W wo.heap.size go (.slice (some ⟨go, 0, none⟩) 128 co) (over z zk j)) ∧ Hid (Fr (fun x => x = go) w6 W)) (fun i _ => τ - (intOf i).toNat)
      case atStart => exact ⟨0, rfl, by omega, by rw [over_zero]; exact ROWO, Lib.hid (Fr.refl _ _)⟩
      case round =>
        obtain ⟨j, rfl, hj, HR, HF2⟩ := hrel
        have hgl := (show gl ≠ go by have := GL.out; have := GO.out.1; omega)
        by_cases hlt : j < τ
        · have q1 : decide ((j : Int) < (τ : Int)) = true := decide_eq_true (by omega)
          have q1' : decide (j < τ) = true := decide_eq_true hlt
          have hj128 : j < 128 := by omega
          have kc := row_cell (row_fr ROWK6.out HF2.out (by have := (row_lt ROWK.out).2; have := GO.out.1; show ¬ gk = go; omega)) j (by have := HK.out.1; omega)
          have oc := row_cell HR.out j (by rw [over_len HZ.out.1 HK.out.1 (by omega)]; exact hj128)
          have ofr := row_frozen HR.out j
          have mcW : wr.cell? ⟨gm, j0, none⟩ = some (.slice (some ⟨gk, 0, none⟩) 128 ck) := (HF2.out.cell (p := ⟨gm, j0, none⟩) (Law.lt_of_cell MC6.out) (by have := GM.out; have := GO.out.1; show ¬ gm = go; omega)).trans MC6.out
          have hp := HR.out.put j (zk.getD j 0)
          rw [over_step HZ.out.1 HK.out.1 hj128] at hp
          have STEP := Lib.hid hp
          generalize zk.getD j 0 = y at *
          clear hp
          go_wp2
          go_roundw
          case rel => exact ⟨j + 1, by go_num, by omega, STEP, Lib.hid (HF2.out.setCell (.inl rfl) _)⟩
          case measure => simp [intOf]; omega
        · have hje : j = τ := by omega
          have q1 : decide ((j : Int) < (τ : Int)) = false := decide_eq_false (by omega)
          have q1' : decide (j < τ) = false := decide_eq_false hlt
          have lW := own_fr O6.out HF2.out (fun g hg => by injection hg with hg; simp only at hg; rw [← hg]; exact hgl)
          have hul : us.length = 4 := by have := HO.out.1; simpa using this
          obtain ⟨lu, hlu⟩ : ∃ x, us[j0]? = some x := ⟨_, List.getElem?_eq_getElem (show j0 < us.length by omega)⟩
          have lc := own_cell lW hlu
          have lfr := own_frozen lW j0
          have O7 := own_set lW j0 (.slice (some ⟨go, 0, none⟩) 128 co)
          have D7 := Lib.hid (((D6.out.trans (HB6.out.mono (show w3.heap.size ≤ wo.heap.size from D6.out.size))).trans (HF2.out.to_below (B := w3.heap.size) (by have := GO.out.1; have := D6.out.size; rintro x rfl; omega) (by have := HB6.out.size; have := D6.out.size; omega))).setCell (p := ⟨gl, j0, none⟩) (by have := G.out; show w3.heap.size ≤ gl; omega) (.slice (some ⟨go, 0, none⟩) 128 co))
          obtain ⟨vs, sr, hv4, hvp⟩ := sr_four (P := fun i x => ∃ z k, (z = sec xs s (112 * i) ∨ z = sec ys t (112 * i)) ∧ k ≤ 128 ∧ x = over z (sec ys t (112 * i)) k) O7 (fun i hi => by
            by_cases e : j0 = i
            · subst e
              refine ⟨_, over z zk j, by rw [List.getElem?_set, if_pos rfl, if_pos (by omega)], ?_, over_bytes HZ.out.2.1 HK.out.2.1 j, z, j, HZ.out.2.2, by omega, by rw [HK.out.2.2]⟩
              have r := HR.out.far (grownBy_set wr ⟨gl, j0, none⟩ (.slice (some ⟨go, 0, none⟩) 128 co)) (fun e => by injection e with e; exact hgl e)
              exact r.ir.more (by have := (row_lt r).2; omega)
            · obtain ⟨u, z', b', g', c', hu', rfl, row', h128', hby', hzz', _, _⟩ := PK.out i hi
              have hg' : g' ≠ gl := row_apart HO.out row'
              have hg2 := (row_lt row').2
              have r := (row_fr (row'.sc (Sc.of_below HB6.out)) HF2.out (by have := GO.out.1; show ¬ g' = go; omega)).far (grownBy_set wr ⟨gl, j0, none⟩ (.slice (some ⟨go, 0, none⟩) 128 co)) (fun e => by injection e with e; exact hg' e.symm)
              refine ⟨_, z', by rw [List.getElem?_set, if_neg e]; exact hu', ?_, hby', z', 0, hzz', by omega, (over_zero _ _).symm⟩
              have := r.ir
              exact this.more (by have := (row_lt r).2; omega))
          have SR7 := Lib.hid sr
          have HV := Lib.hid (And.intro hv4 hvp)
          have J := Lib.hid hje
          clear O7 sr hv4 hvp lW hlu hul hje
          go_wp2_with fail
          (with_reducible refine (open_any _ _ _ vs SR7.out (Nat.le_refl _)).mono ?_)
          rintro e w8 h8
          rcases h8 with ⟨wh, v8, rfl, ow8, hb8⟩ | ⟨nw, rfl, hb8⟩
          · have tw := torn_whole hs ht HST.out XL.out YL.out wh (fun i hi => by
              obtain ⟨z', k', a1, a2, a3⟩ := HV.out.2 i hi
              exact ⟨z', k', .inl ⟨a1, a2, a3⟩⟩)
            obtain ⟨g8, c8, rfl⟩ := ownsRow_succ (k := 447) ow8
            have HB8 := Lib.hid (HB3.out.trans ((D7.out.mono WS.out).trans (hb8.mono (by have := D7.out.size; have := WS.out; omega))))
            have D8 := D7.out.trans (hb8.mono D7.out.size)
            have IX8 := Lib.hid (IX3.out.below D8)
            have IY8 := Lib.hid (IY.out.below D8)
            have d4 : (t == s) = false := by simpa using (fun e => HST.out (Eq.symm e))
            clear hb8 D8
            rcases tw with ⟨e1, e2⟩ | ⟨e1, e2⟩
            · rw [e1]
              rw [e2] at ow8
              have J8 := Lib.hid (IR.of_own ow8)
              clear e1 e2 ow8 wh
              go_wp2_with fail
              (with_reducible refine (same_any _ _ xs xs w8 _ _ J8.out IX8.out XB.out XB.out).mono ?_)
              rintro e w9 ⟨rfl, rfl⟩
              go_wp2
              go_ret
              exact ⟨rfl, HB8.out⟩
            · rw [e1]
              rw [e2] at ow8
              have J8 := Lib.hid (IR.of_own ow8)
              clear e1 e2 ow8 wh
              go_wp2_with fail
              (with_reducible refine (same_any _ _ ys ys w8 _ _ J8.out IY8.out YB.out YB.out).mono ?_)
              rintro e w9 ⟨rfl, rfl⟩
              go_wp2
              go_ret
              exact ⟨rfl, HB8.out⟩
          · have HB8 := Lib.hid (HB3.out.trans ((D7.out.mono WS.out).trans (hb8.mono (by have := D7.out.size; have := WS.out; omega))))
            clear hb8
            go_wp2
            go_ret
            exact ⟨rfl, HB8.out⟩


set_option maxRecDepth 100000 in
theorem lifted (os : Os) (started : os.Started) (H : Type) (enc : TypeId × Value → H) :
    ReturnsInHanded {} Try.checked os 6 .any (Rows.sealTornSpec.pre6 enc Try.prog Try.f6 Rows.sealTornRow.domain false) (Rows.sealTornSpec.post enc Try.prog Try.f6 false true false false) := by
  refine returnsInHanded_of_change (C := Try.checked) own started (by kernel_rfl) Try.func6
    (ChangeSpec.witness6 (enc := enc) (C := Try.checked) false ⟨#[], #[.slice none 0 0, .slice none 0 0, .int .u64 0, .int .u64 0, .int .u8 0, .int .u8 0, .int .u8 0], []⟩ 8 (by kernel_rfl) (by kernel_rfl) (by kernel_rfl) (by kernel_rfl)) ?_
  intro W base args ds gs before hval0 hW hcnd _
  have hval : ∀ (j : Nat) t v, Try.f6.params[j]? = some t → args[j]? = some v → Value.okWide Try.prog W .any base t v := hval0
  have hW' := hW
  obtain ⟨p, q, hA0, hV, rfl, hfz, hnd⟩ := hW
  have hA1 : DataW.TrodAll enc Try.prog W 0 (fun _ => true) true Try.f6.params.toList args.toList ds p := hA0
  have hA := hA1
  rw [Try.params6] at hA hval
  obtain ⟨v0, vs0, d0, ds0, p0, q0, hargs, rfl, rfl, h0, r0⟩ := trodAll_cons hA
  obtain ⟨v1, vs1, d1, ds1, p1, q1, rfl, rfl, rfl, h1, r1⟩ := trodAll_cons r0
  obtain ⟨v2, vs2, d2, ds2, p2, q2, rfl, rfl, rfl, h2, r2⟩ := trodAll_cons r1
  obtain ⟨v3, vs3, d3, ds3, p3, q3, rfl, rfl, rfl, h3, r3⟩ := trodAll_cons r2
  obtain ⟨v4, vs4, d4, ds4, p4, q4, rfl, rfl, rfl, h4, r4⟩ := trodAll_cons r3
  obtain ⟨v5, vs5, d5, ds5, p5, q5, rfl, rfl, rfl, h5, r5⟩ := trodAll_cons r4
  obtain ⟨v6, vs6, d6, ds6, p6, q6, rfl, rfl, rfl, h6, r6⟩ := trodAll_cons r5
  obtain ⟨rfl, rfl, rfl⟩ := trodAll_nil r6
  obtain rfl : args = #[v0, v1, v2, v3, v4, v5, v6] := by cases args; simp_all
  obtain ⟨rfl, rfl⟩ := trodVars_none hV
  obtain ⟨xa, i0, wf0⟩ := open_IR Try.underlying22 Try.underlying5 (by kernel_rfl) (hval 0 22 v0 rfl rfl) h0
  obtain ⟨xb, i1, wf1⟩ := open_IR Try.underlying22 Try.underlying5 (by kernel_rfl) (hval 1 22 v1 rfl rfl) h1
  obtain ⟨s, rfl, rfl, rfl, wf2⟩ := open_int Try.underlying23 (hval 2 23 v2 rfl rfl) h2
  obtain ⟨t, rfl, rfl, rfl, wf3⟩ := open_int Try.underlying23 (hval 3 23 v3 rfl rfl) h3
  obtain ⟨kp, rfl, rfl, rfl, wf4⟩ := open_int Try.underlying5 (hval 4 5 v4 rfl rfl) h4
  obtain ⟨pl, rfl, rfl, rfl, wf5⟩ := open_int Try.underlying5 (hval 5 5 v5 rfl rfl) h5
  obtain ⟨tn, rfl, rfl, rfl, wf6⟩ := open_int Try.underlying5 (hval 6 5 v6 rfl rfl) h6
  clear hA0 hval0
  refine (walk W v0 xa i0 (fun n hn => bounds_u8 (wf0 n hn)) v1 xb i1 (fun n hn => bounds_u8 (wf1 n hn)) s (bounds_u64 wf2) t (bounds_u64 wf3) kp (bounds_u8 wf4) pl (bounds_u8 wf5) tn (bounds_u8 wf6)).mono fun e W' ⟨he, bel⟩ => ?_
  subst he
  exact ⟨_, rfl, _, _, _, [], _, [], hW', trodAll_mk1 (shut_bool Try.underlying4 _), args_again laidOut bel (by kernel_rfl) hA1, rfl, bel.frame _, fun h => by cases h⟩

theorem over : Rows.sealTornRow.holds Try.pinned (OpenSpec.ofChange Rows.sealTornSpec) :=
  OpenClaim.holds_of_wide 6 Try.f6 rfl rfl rfl rfl rfl rfl rfl ⟨rfl, rfl, rfl, rfl, rfl⟩ rfl rfl rfl rfl rfl (by kernel_rfl) Try.func6 (by kernel_rfl)
    (of_decide_eq_true (by kernel_rfl)) (by unfold Func.isWrapper; first | (rw [if_pos (by decide +kernel)]; kernel_rfl) | (rw [if_neg (by decide +kernel)]; exact ⟨rfl, rfl⟩))
    (fun os started H enc _ => lifted os started H enc)

theorem proved : Rows.SealTornSaid := over
end Go.Proofs.Ytacjbgkcghcnnaa.LSealTorn
