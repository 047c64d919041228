/- The law manciplelaw09.PageSlots returns true whatever it is called with, and what it was called with reads as it did. No condition. -/
import Derived.Test.YthbbnebanmpcjaaLaw
import Derived.Test.YthbbnebanmpcjaaPgZa
namespace Go.Proofs.Ythbbnebanmpcjaa.LPageSlots
open Go.ChangeShapes Go.WideShapes Go.ChangeAt Go.RowKit Go.IntWalk Go.Proofs.Mem Law
set_option linter.unusedVariables false
open Go.Proofs.Ythbbnebanmpcjaa.Pg Go.Proofs.Each
set_option linter.unusedSimpArgs false
theorem set_leaves {ys xz : List Int} (W : Wf ys) (N : Int) {k : Nat} (hk : xz.length = k) :
    (setE ys N k = 0 → there (setX ys N xz) N = true ∧ datX (setX ys N xz) N = xz ∧ ∀ i : Int, i ≠ N → there (setX ys N xz) i = there ys i ∧ datX (setX ys N xz) i = datX ys i) ∧ (setE ys N k ≠ 0 → setX ys N xz = ys) := by
  subst hk
  by_cases hm : mayS N xz.length = true
  · by_cases hr : roomB ys N.toNat xz.length = true
    · have hX : setX ys N xz = setP ys N.toNat xz := by unfold setX; rw [if_pos ⟨hm, hr⟩]
      have hE : setE ys N xz.length = 0 := by unfold setE; rw [if_pos hm, if_pos hr]
      have h1 := of_decide_eq_true hm
      have h2 := of_decide_eq_true hr
      obtain ⟨_, c1, c2, c3, _⟩ := set_wf W (s := N.toNat) (ys := xz) (by omega) (by omega) h2
      rw [hX]
      have t1 : there (setP ys N.toNat xz) N = true := by unfold there; rw [c1]; exact decide_eq_true ⟨by omega, by omega⟩
      refine ⟨fun _ => ⟨t1, ?_, fun i hi => ?_⟩, fun h => absurd hE h⟩
      · unfold datX
        rw [if_pos t1, c2]
      · have ht : there (setP ys N.toNat xz) i = there ys i := by
          unfold there
          by_cases h0 : 0 ≤ i
          · rw [(c3 i.toNat (by omega)).1]
          · rw [decide_eq_false (fun h => h0 h.1), decide_eq_false (fun h => h0 h.1)]
        refine ⟨ht, ?_⟩
        unfold datX
        rw [ht]
        split
        · rename_i h
          have := of_decide_eq_true h
          rw [(c3 i.toNat (by omega)).2]
        · rfl
    · have hX : setX ys N xz = ys := by unfold setX; rw [if_neg (fun h => hr h.2)]
      have hE : setE ys N xz.length = 92 := by unfold setE; rw [if_pos hm, if_neg hr]
      exact ⟨fun h => absurd (hE.symm.trans h) (by decide), fun _ => hX⟩
  · have hX : setX ys N xz = ys := by unfold setX; rw [if_neg (fun h => hm h.1)]
    have hE : setE ys N xz.length = 91 := by unfold setE; rw [if_neg hm]
    exact ⟨fun h => absurd (hE.symm.trans h) (by decide), fun _ => hX⟩
theorem dat_b {xs : List Int} (h : Bytes xs) (N : Int) : Bytes (datX xs N) := by
  unfold datX
  split
  · exact dat_bytes h
  · exact Bytes.nil
theorem key_ {ys zs : List Int} {N i : Int} (qe : Bool) (h1 : qe = true → ∀ i : Int, i ≠ N → there zs i = there ys i ∧ datX zs i = datX ys i) (h2 : qe = false → zs = ys) (h : qe = true → i ≠ N) : there zs i = there ys i ∧ datX zs i = datX ys i := by
  cases qe
  · rw [h2 rfl]; exact ⟨rfl, rfl⟩
  · exact h1 rfl i (h rfl)
set_option maxRecDepth 100000 in
set_option maxHeartbeats 8000000 in
theorem walk (w : World) (n : Int) (hn : 0 ≤ n ∧ n ≤ 4294967295) (l : Value) (xl : List Pg.Pi) (hl : SS Pg.cPi 4 w w.heap.size l xl) (bl : ∀ o ∈ xl, Pg.PiAt w w.heap.size o) (slot : Int) (hslot : -9223372036854775808 ≤ slot ∧ slot ≤ 9223372036854775807) (z : Value) (xz : List Int) (hz : IR w w.heap.size .u8 z xz) (bz : Bytes xz) :
    Calls Try.prog 6 #[.int .u32 n, l, .int .i64 slot, z] w fun e w' => e = .returned (.bool true) ∧ Below w.heap.size w w' := by
  obtain ⟨A, c, rfl, hlc, hcm⟩ := hl.form
  obtain ⟨Az, cz, rfl, hzc, hzm⟩ := hz.form
  unfold maxLen at hcm hzm
  have HV := Lib.hid (heavy_any w A c xl hcm hlc hl bl)
  have RU := Lib.hid (fun W (hW : Below w.heap.size w W) => run_any W n hn A c xl hcm hlc ((hl.below hW).more hW.size) (fun x hx => ⟨(bl x hx).1, ((bl x hx).2.below hW).more hW.size⟩))
  have HZ := Lib.hid hz
  have BZ := Lib.hid bz
  clear hl bl hz bz
  obtain ⟨q, hq⟩ : ∃ q, q = hvy xl := ⟨_, rfl⟩
  rw [← hq] at HV
  clear hq
  obtain ⟨LZ, hLZ⟩ : ∃ L, L = xz.length := ⟨_, rfl⟩
  have HLZ := Lib.hid hLZ
  rw [← hLZ] at HZ hzc ⊢
  clear hLZ
  obtain ⟨q2, hq2⟩ : ∃ q, decide ((200 : Int) < (LZ : Int)) = q := ⟨_, rfl⟩
  have HQ2 := Lib.hid (show q2 = false → LZ ≤ 200 from fun h => by rw [h] at hq2; have := of_decide_eq_false hq2; omega)
  go_enter Try.func6, Try.ntmps6
  cases q
  case true =>
    go_wp2_with (first
      | ((with_reducible refine HV.out.mono ?_); rintro e w1 ⟨rfl, rfl⟩)
      | ((with_reducible refine (known_any _).mono ?_); rintro e w3 ⟨rfl, hb3⟩; have HB3 := Lib.hid hb3; clear hb3))
    go_ret
    exact ⟨rfl, HB3.out⟩
  cases q2
  case true =>
    go_wp2_with (first
      | ((with_reducible refine HV.out.mono ?_); rintro e w1 ⟨rfl, rfl⟩)
      | ((with_reducible refine (known_any _).mono ?_); rintro e w3 ⟨rfl, hb3⟩; have HB3 := Lib.hid hb3; clear hb3))
    go_ret
    exact ⟨rfl, HB3.out⟩
  have hz2 := HQ2.out rfl
  go_wp2_with (first
    | ((with_reducible refine HV.out.mono ?_); rintro e w1 ⟨rfl, rfl⟩)
    | ((with_reducible refine (known_any _).mono ?_); rintro e w3 ⟨rfl, hb3⟩; have HB3 := Lib.hid hb3; clear hb3)
    | fail)
  clear hq2
  (with_reducible refine (RU.out _ HB3.out).mono ?_)
  rintro e w4 ⟨rfl, p4, b4⟩
  obtain ⟨b, hb⟩ : ∃ b, b = w3.heap.size := ⟨_, rfl⟩
  rw [← hb] at p4 b4 ⊢
  obtain ⟨ys, hys⟩ : ∃ ys, ys = runP n xl := ⟨_, rfl⟩
  rw [← hys] at p4
  have P4 := Lib.hid p4
  have HYS := Lib.hid hys
  have B4 := Lib.hid (show Below w1.heap.size w1 w4 ∧ w1.heap.size ≤ b ∧ b < w4.heap.size from ⟨HB3.out.trans (b4.mono (by have := HB3.out.size; omega)), by have := HB3.out.size; omega, p4.at_.box.lt⟩)
  clear p4 b4 hb hys
  go_wp2_with fail
  (with_reducible refine (RU.out _ B4.out.1).mono ?_)
  rintro e w5 ⟨rfl, p5, b5⟩
  obtain ⟨b', hb'⟩ : ∃ b, b = w4.heap.size := ⟨_, rfl⟩
  rw [← hb', ← HYS.out] at p5
  rw [← hb']
  have P5 := Lib.hid (P4.out.later b5)
  have Q5 := Lib.hid p5
  have B5 := Lib.hid (show Below w1.heap.size w1 w5 ∧ w1.heap.size ≤ b ∧ b < b' ∧ b' < w5.heap.size from ⟨B4.out.1.trans (b5.mono B4.out.1.size), B4.out.2.1, by have := B4.out.2.2; omega, p5.at_.box.lt⟩)
  clear p5 b5 hb'
  have FA := Lib.hid (free_any w5 b ys P5.out.at_ P5.out.wf.w0.cnt)
  have SE := Lib.hid (set_some w5 b ys P5.out slot Az LZ cz xz BZ.out HLZ.out.symm (fun w' hf => by
    have hW1 := B5.out.1
    refine (HZ.out.keep (fun p hp => ?_)).more (Nat.le_trans hW1.size hf.size)
    have := B5.out.2
    rw [hf.cell (by have := hW1.size; omega) (by omega)]
    exact hW1.cell hp))
  have SL := Lib.hid (set_leaves P5.out.wf slot HLZ.out.symm)
  obtain ⟨E, hE⟩ : ∃ E, E = setE ys slot LZ := ⟨_, rfl⟩
  obtain ⟨zs, hzs⟩ : ∃ zs, zs = setX ys slot xz := ⟨_, rfl⟩
  rw [← hE, ← hzs] at SE SL
  clear hE hzs
  obtain ⟨qe, hqe⟩ : ∃ q, (E == 0) = q := ⟨_, rfl⟩
  have hqn : (E != 0) = !qe := by rw [← hqe]; rfl
  have S1 := Lib.hid (show qe = true → _ from fun h => SL.out.1 (by rw [h] at hqe; simpa using hqe))
  have S2 := Lib.hid (show qe = false → zs = ys from fun h => SL.out.2 (by rw [h] at hqe; simpa using hqe))
  obtain ⟨FY, hFY⟩ : ∃ F, F = free ys := ⟨_, rfl⟩
  rw [← hFY] at FA
  have HFY := Lib.hid hFY
  clear hFY SL
  go_wp2_with fail
  (with_reducible refine FA.out.mono ?_)
  rintro e wx ⟨rfl, rfl⟩
  go_wp2_with fail
  (with_reducible refine SE.out.mono ?_)
  rintro e w6 ⟨rfl, p6, f6⟩
  have P6 := Lib.hid p6
  have Q6 := Lib.hid (show Pw w6 b' ys from ⟨⟨Q5.out.at_.box.fr f6 (by have := B5.out.2.2; omega), Q5.out.at_.len, Q5.out.at_.byt⟩, Q5.out.wf⟩)
  have B6 := Lib.hid (show Below w1.heap.size w1 w6 from B5.out.1.trans (f6.to_below (fun k hk => by rw [hk]; exact B5.out.2.1) B5.out.1.size))
  clear p6 f6
  go_wp2
  go_loopw [13, 14, 15, 16, 17] (fun iv _ _ _ _ wr => ∃ j : Nat, j ≤ 40 ∧ iv = .int .i64 j ∧ Hid (Below w6.heap.size w6 wr)) (fun iv _ _ _ _ _ => 40 - (intOf iv).toNat)
  case atStart => exact ⟨0, by omega, rfl, Lib.hid (Below.refl _ _)⟩
  case round =>
    obtain ⟨j, hj, rfl, HW⟩ := hrel
    by_cases hlt : j < 40
    · obtain ⟨qn, hqn2⟩ : ∃ q, ((j : Int) == slot) = q := ⟨_, rfl⟩
      have HQN := Lib.hid hqn2
      by_cases hsk : qe = true ∧ qn = true
      · obtain ⟨rfl, rfl⟩ := hsk
        go_wp2
        go_roundw
        case rel => exact ⟨j + 1, by omega, by go_num, HW⟩
        case measure => simp [intOf]; omega
      · have KY := Lib.hid (key_ (i := (j : Int)) qe (fun h => (S1.out h).2.2) S2.out (fun h e => hsk ⟨h, by rw [← HQN.out, e]; simp⟩))
        have G1 := Lib.hid (get_some wr b zs (P6.out.later HW.out) (j : Int))
        rw [KY.out.1, KY.out.2] at G1
        have G2 := Lib.hid (fun W (hW : Below wr.heap.size wr W) => get_some W b' ys ((Q6.out.later HW.out).later hW) (j : Int))
        have DB := Lib.hid (dat_b Q6.out.at_.byt (j : Int))
        obtain ⟨D, hD⟩ : ∃ D, D = datX ys (j : Int) := ⟨_, rfl⟩
        obtain ⟨th, hth⟩ : ∃ D, D = there ys (j : Int) := ⟨_, rfl⟩
        rw [← hD, ← hth] at G1
        rw [← hD] at DB
        have G2' := Lib.hid (show ∀ W (hW : Below wr.heap.size wr W), Calls Try.prog 24 #[.pointer (some ⟨b', 0, none⟩), .int .i64 (j : Int)] W fun e w' => ∃ u, e = .returned (.tuple #[u, .bool th]) ∧ w'.ownsRow W.heap.size 5 1 u D.length (D.map (.int .u8)) ∧ Below W.heap.size W w' by rw [hD, hth]; exact G2.out)
        have h3 : (qe = false) ∨ (qe = true ∧ qn = false) := by
          cases qe
          · exact .inl rfl
          · cases qn
            · exact .inr ⟨rfl, rfl⟩
            · exact absurd ⟨rfl, rfl⟩ hsk
        have HJ1 := Lib.hid (show wrap64 ((j : Int) + 1) = (j : Int) + 1 from wrap64_in _ (by omega))
        have HLT := Lib.hid hlt
        clear G2 KY hsk hD hth hj
        have dne : (th != th) = false := by cases th <;> rfl
        rcases h3 with h3 | ⟨h3, h4⟩
        · subst h3
          go_wp2_with fail
          (with_reducible refine G1.out.mono ?_)
          rintro e w7 ⟨ua, rfl, ha, hb7⟩
          have HA := Lib.hid ha
          have B7 := Lib.hid hb7
          clear ha hb7
          go_wp2_with fail
          (with_reducible refine (G2'.out _ B7.out).mono ?_)
          rintro e w8 ⟨ub, rfl, hub, hb8⟩
          have SM := Lib.hid (NumBytes.same_any ua ub D D w8 _ _ (IR.of_own (own_below HA.out hb8)) (IR.of_own hub) DB.out DB.out)
          rw [decide_eq_true rfl] at SM
          have B8 := Lib.hid (HW.out.trans ((B7.out.trans (hb8.mono B7.out.size)).mono HW.out.size))
          clear hub hb8
          go_wp2_with fail
          (with_reducible refine SM.out.mono ?_)
          rintro e wx ⟨rfl, rfl⟩
          go_wp2
          go_roundw
          case rel => exact ⟨j + 1, by have := HLT.out; omega, by go_num, B8⟩
          case measure => have := HLT.out; simp [intOf]; omega
        · subst h3 h4
          go_wp2_with fail
          (with_reducible refine G1.out.mono ?_)
          rintro e w7 ⟨ua, rfl, ha, hb7⟩
          have HA := Lib.hid ha
          have B7 := Lib.hid hb7
          clear ha hb7
          go_wp2_with fail
          (with_reducible refine (G2'.out _ B7.out).mono ?_)
          rintro e w8 ⟨ub, rfl, hub, hb8⟩
          have SM := Lib.hid (NumBytes.same_any ua ub D D w8 _ _ (IR.of_own (own_below HA.out hb8)) (IR.of_own hub) DB.out DB.out)
          rw [decide_eq_true rfl] at SM
          have B8 := Lib.hid (HW.out.trans ((B7.out.trans (hb8.mono B7.out.size)).mono HW.out.size))
          clear hub hb8
          go_wp2_with fail
          (with_reducible refine SM.out.mono ?_)
          rintro e wx ⟨rfl, rfl⟩
          go_wp2
          go_roundw
          case rel => exact ⟨j + 1, by have := HLT.out; omega, by go_num, B8⟩
          case measure => have := HLT.out; simp [intOf]; omega
    · have B9 := Lib.hid (B6.out.trans (HW.out.mono B6.out.size))
      clear hj
      cases qe
      · have e2 := S2.out rfl
        have P7 := Lib.hid (P6.out.later HW.out)
        rw [e2] at P7
        have FB := Lib.hid (free_any wr b ys P7.out.at_ P7.out.wf.w0.cnt)
        rw [← HFY.out] at FB
        have BA := Lib.hid (bytes_any wr b ys P7.out.at_)
        have BB := Lib.hid (fun W (hW : Below wr.heap.size wr W) => bytes_any W b' ys ((Q6.out.later HW.out).later hW).at_)
        clear e2
        go_wp2_with fail
        (with_reducible refine FB.out.mono ?_)
        rintro e wx ⟨rfl, rfl⟩
        go_wp2_with fail
        (with_reducible refine BA.out.mono ?_)
        rintro e wa ⟨ua, rfl, ha, hba⟩
        have HBA := Lib.hid hba
        have HA := Lib.hid ha
        clear ha hba
        go_wp2_with fail
        (with_reducible refine (BB.out _ HBA.out).mono ?_)
        rintro e wb ⟨ub, rfl, hub, hbb⟩
        have SM := Lib.hid (NumBytes.same_any ua ub ys ys wb _ _ (IR.of_own (own_below HA.out hbb)) (IR.of_own hub) P7.out.at_.byt P7.out.at_.byt)
        rw [decide_eq_true rfl] at SM
        have HBB := Lib.hid (B9.out.trans ((HBA.out.trans (hbb.mono HBA.out.size)).mono B9.out.size))
        clear hub hbb
        go_wp2_with fail
        (with_reducible refine SM.out.mono ?_)
        rintro e wc ⟨rfl, rfl⟩
        go_wp2
        go_ret
        exact ⟨rfl, HBB.out⟩
      · obtain ⟨s1, s2, _⟩ := S1.out rfl
        have GG := Lib.hid (get_some wr b zs (P6.out.later HW.out) slot)
        rw [s1, s2] at GG
        clear s1 s2
        go_wp2_with fail
        (with_reducible refine GG.out.mono ?_)
        rintro e wa ⟨ua, rfl, ha, hba⟩
        have HBA := Lib.hid (B9.out.trans (hba.mono B9.out.size))
        have SM := Lib.hid (NumBytes.same_any ua (.slice Az LZ cz) xz xz wa _ _ (IR.of_own ha) (HZ.out.below HBA.out) BZ.out BZ.out)
        rw [decide_eq_true rfl] at SM
        clear ha hba
        go_wp2_with fail
        (with_reducible refine SM.out.mono ?_)
        rintro e wc ⟨rfl, rfl⟩
        go_wp2
        go_ret
        exact ⟨rfl, HBA.out⟩


set_option maxRecDepth 100000 in
theorem lifted (os : Os) (started : os.Started) (H : Type) (enc : TypeId × Value → H) :
    ReturnsInHanded {} Try.checked os 6 .any (Rows.pageSlotsSpec.pre6 enc Try.prog Try.f6 Rows.pageSlotsRow.domain false) (Rows.pageSlotsSpec.post enc Try.prog Try.f6 false true false false) := by
  refine returnsInHanded_of_change (C := Try.checked) own started (by kernel_rfl) Try.func6
    (ChangeSpec.witness6 (enc := enc) (C := Try.checked) false ⟨#[], #[.int .u32 0, .slice none 0 0, .int .i64 0, .slice none 0 0], []⟩ 8 (by kernel_rfl) (by kernel_rfl) (by kernel_rfl) (by kernel_rfl)) ?_
  intro W base args ds gs before hval0 hW hcnd _
  have hval : ∀ (j : Nat) t v, Try.f6.params[j]? = some t → args[j]? = some v → Value.okWide Try.prog W .any base t v := hval0
  have hW' := hW
  obtain ⟨p, q, hA0, hV, rfl, hfz, hnd⟩ := hW
  have hA1 : DataW.TrodAll enc Try.prog W 0 (fun _ => true) true Try.f6.params.toList args.toList ds p := hA0
  have hA := hA1
  rw [Try.params6] at hA hval
  obtain ⟨v0, vs0, d0, ds0, p0, q0, hargs, rfl, rfl, h0, r0⟩ := trodAll_cons hA
  obtain ⟨v1, vs1, d1, ds1, p1, q1, rfl, rfl, rfl, h1, r1⟩ := trodAll_cons r0
  obtain ⟨v2, vs2, d2, ds2, p2, q2, rfl, rfl, rfl, h2, r2⟩ := trodAll_cons r1
  obtain ⟨v3, vs3, d3, ds3, p3, q3, rfl, rfl, rfl, h3, r3⟩ := trodAll_cons r2
  obtain ⟨rfl, rfl, rfl⟩ := trodAll_nil r3
  obtain rfl : args = #[v0, v1, v2, v3] := by cases args; simp_all
  obtain ⟨rfl, rfl⟩ := trodVars_none hV
  obtain ⟨n, rfl, rfl, rfl, wf0⟩ := open_int Try.underlying22 (hval 0 22 v0 rfl rfl) h0
  obtain ⟨xl, i1, wf1⟩ := Pg.open_pos (hval 1 23 v1 rfl rfl) h1
  obtain ⟨slot, rfl, rfl, rfl, wf2⟩ := open_int Try.underlying3 (hval 2 3 v2 rfl rfl) h2
  obtain ⟨xz, i3, wf3⟩ := open_IR Try.underlying31 Try.underlying5 (by kernel_rfl) (hval 3 31 v3 rfl rfl) h3
  clear hA0 hval0
  refine (walk W n (bounds_u32 wf0) v1 xl i1 wf1 slot (bounds_i64 wf2) v3 xz i3 (fun n hn => bounds_u8 (wf3 n hn))).mono fun e W' ⟨he, bel⟩ => ?_
  subst he
  exact ⟨_, rfl, _, _, _, [], _, [], hW', trodAll_mk1 (shut_bool Try.underlying4 _), args_again laidOut bel (by kernel_rfl) hA1, rfl, bel.frame _, fun h => by cases h⟩

theorem over : Rows.pageSlotsRow.holds Try.pinned (OpenSpec.ofChange Rows.pageSlotsSpec) :=
  OpenClaim.holds_of_wide 6 Try.f6 rfl rfl rfl rfl rfl rfl rfl ⟨rfl, rfl, rfl, rfl, rfl⟩ rfl rfl rfl rfl rfl (by kernel_rfl) Try.func6 (by kernel_rfl)
    (of_decide_eq_true (by kernel_rfl)) (by unfold Func.isWrapper; first | (rw [if_pos (by decide +kernel)]; kernel_rfl) | (rw [if_neg (by decide +kernel)]; exact ⟨rfl, rfl⟩))
    (fun os started H enc _ => lifted os started H enc)

theorem proved : Rows.PageSlotsSaid := over
end Go.Proofs.Ythbbnebanmpcjaa.LPageSlots
