/- The law manciplelaw09.PageBack returns true whatever it is called with, and what it was called with reads as it did. No condition. -/
import Derived.Test.YthbbnebanmpcjaaLaw
import Derived.Test.YthbbnebanmpcjaaPgL
namespace Go.Proofs.Ythbbnebanmpcjaa.LPageBack
open Go.ChangeShapes Go.WideShapes Go.ChangeAt Go.RowKit Go.IntWalk Go.Proofs.Mem Law
set_option linter.unusedVariables false
open Go.Proofs.Ythbbnebanmpcjaa.Pg Go.Proofs.Each
set_option linter.unusedSimpArgs false
theorem read_wf {ys : List Int} {w w' : World} {e : Ending} (h : ReadOut ys w e w') (W : Wf ys) : ∃ b, e = .returned (.tuple #[.pointer (some ⟨b, 0, none⟩), .int .u16 0]) ∧ w.heap.size ≤ b ∧ Pw w' b ys ∧ Below w.heap.size w w' := by
  rcases h with ⟨b, zs, h1, h2, h3, h4, h5⟩ | ⟨_, _, _, h⟩
  · rcases h5 with ⟨h5, _⟩ | ⟨_, _, h5⟩
    · subst h5
      exact absurd W.w0.low (by decide +kernel)
    · subst h5; exact ⟨b, h1, h2, h3, h4⟩
  · exact absurd W h
theorem there_of {ys : List Int} {t : Nat} (h : Pg.len ys t ≠ 0) : there ys (t : Int) = true := by
  unfold there
  exact decide_eq_true ⟨by omega, h⟩
theorem dat_b {xs : List Int} (h : Bytes xs) (N : Int) : Bytes (datX xs N) := by
  unfold datX
  split
  · exact dat_bytes h
  · exact Bytes.nil
set_option maxRecDepth 100000 in
set_option maxHeartbeats 8000000 in
theorem walk (w : World) (n : Int) (hn : 0 ≤ n ∧ n ≤ 4294967295) (l : Value) (xl : List Pg.Pi) (hl : SS Pg.cPi 4 w w.heap.size l xl) (bl : ∀ o ∈ xl, Pg.PiAt w w.heap.size o) :
    Calls Try.prog 5 #[.int .u32 n, l] w fun e w' => e = .returned (.bool true) ∧ Below w.heap.size w w' := by
  obtain ⟨A, c, rfl, hlc, hcm⟩ := hl.form
  unfold maxLen at hcm
  have HV := Lib.hid (heavy_any w A c xl hcm hlc hl bl)
  have RU := Lib.hid (fun W (hW : Below w.heap.size w W) => run_any W n hn A c xl hcm hlc ((hl.below hW).more hW.size) (fun x hx => ⟨(bl x hx).1, ((bl x hx).2.below hW).more hW.size⟩))
  have KP := Lib.hid (runP_kept (n := n) (xl := xl) (fun x hx => (bl x hx).1))
  clear hl bl
  obtain ⟨q, hq⟩ : ∃ q, q = hvy xl := ⟨_, rfl⟩
  rw [← hq] at HV
  clear hq
  go_enter Try.func5, Try.ntmps5
  cases q
  case true =>
    go_wp2_with (first
      | ((with_reducible refine HV.out.mono ?_); rintro e w1 ⟨rfl, rfl⟩)
      | ((with_reducible refine (known_any _).mono ?_); rintro e w3 ⟨rfl, hb3⟩; have HB3 := Lib.hid hb3; clear hb3))
    go_ret
    exact ⟨rfl, HB3.out⟩
  go_wp2_with (first
    | ((with_reducible refine HV.out.mono ?_); rintro e w1 ⟨rfl, rfl⟩)
    | ((with_reducible refine (known_any _).mono ?_); rintro e w3 ⟨rfl, hb3⟩; have HB3 := Lib.hid hb3; clear hb3)
    | fail)
  (with_reducible refine (RU.out _ HB3.out).mono ?_)
  rintro e w4 ⟨rfl, p4, b4⟩
  obtain ⟨b, hb⟩ : ∃ b, b = w3.heap.size := ⟨_, rfl⟩
  rw [← hb] at p4 b4 ⊢
  obtain ⟨ys, hys⟩ : ∃ ys, ys = runP n xl := ⟨_, rfl⟩
  rw [← hys] at p4 KP
  have P4 := Lib.hid p4
  have B4 := Lib.hid (show Below w1.heap.size w1 w4 ∧ w1.heap.size ≤ b ∧ b < w4.heap.size from ⟨HB3.out.trans (b4.mono (by have := HB3.out.size; omega)), by have := HB3.out.size; omega, p4.at_.box.lt⟩)
  clear p4 b4 hb hys
  have BY := Lib.hid (bytes_any w4 b ys P4.out.at_)
  go_wp2_with fail
  (with_reducible refine BY.out.mono ?_)
  rintro e w5 ⟨u5, rfl, h5, b5⟩
  have P5 := Lib.hid (P4.out.later b5)
  have B5 := Lib.hid (show Below w1.heap.size w1 w5 ∧ w1.heap.size ≤ b ∧ b < w5.heap.size from ⟨B4.out.1.trans (b5.mono B4.out.1.size), B4.out.2.1, (P4.out.later b5).at_.box.lt⟩)
  have RD := Lib.hid (read_any w5 _ u5 ys (IR.of_own h5) P4.out.at_.byt)
  obtain ⟨A5, c5, e5⟩ := own_slice' h5
  subst e5
  clear h5 b5
  go_wp2_with fail
  (with_reducible refine RD.out.mono ?_)
  rintro e w6 hrd
  obtain ⟨b', rfl, hb', p6, b6⟩ := read_wf hrd P5.out.wf
  have P6 := Lib.hid (P5.out.later b6)
  have Q6 := Lib.hid p6
  have B6 := Lib.hid (show Below w1.heap.size w1 w6 from B5.out.1.trans (b6.mono B5.out.1.size))
  clear hrd hb' p6 b6 RD BY
  have L1 := Lib.hid (lsn_any w6 b' ys Q6.out.at_)
  have L2 := Lib.hid (lsn_any w6 b ys P6.out.at_)
  have N1 := Lib.hid (number_any w6 b' ys Q6.out.at_)
  have N2 := Lib.hid (number_any w6 b ys P6.out.at_)
  have S1 := Lib.hid (slots_any w6 b ys P6.out.at_ P6.out.wf.w0.cnt)
  have S2 := Lib.hid (fun W (hW : Below w6.heap.size w6 W) => slots_any W b' ys (Q6.out.later hW).at_ Q6.out.wf.w0.cnt)
  have S3 := Lib.hid (fun W (hW : Below w6.heap.size w6 W) => slots_any W b ys (P6.out.later hW).at_ P6.out.wf.w0.cnt)
  have SM0 := Lib.hid (fun t => slotsTo_mem (xs := ys) (x := t) (cnt ys))
  obtain ⟨L, hL⟩ : ∃ L, L = slotsTo ys (cnt ys) := ⟨_, rfl⟩
  have h40 : L.length ≤ 40 := by rw [hL]; exact Nat.le_trans (slotsTo_len _ _) P6.out.wf.w0.cnt
  rw [← hL] at S1 S2 S3 SM0
  clear hL
  obtain ⟨M1, hM1⟩ : ∃ M, M = gt ys 0 8 := ⟨_, rfl⟩
  obtain ⟨M2, hM2⟩ : ∃ M, M = gt ys 8 4 := ⟨_, rfl⟩
  rw [← hM1] at L1 L2
  rw [← hM2] at N1 N2
  clear hM1 hM2
  go_wp2_with fail
  (with_reducible refine L1.out.mono ?_)
  rintro e wx ⟨rfl, rfl⟩
  go_wp2_with fail
  (with_reducible refine L2.out.mono ?_)
  rintro e wx ⟨rfl, rfl⟩
  go_wp2_with fail
  (with_reducible refine N1.out.mono ?_)
  rintro e wx ⟨rfl, rfl⟩
  go_wp2_with fail
  (with_reducible refine N2.out.mono ?_)
  rintro e wx ⟨rfl, rfl⟩
  go_wp2_with fail
  (with_reducible refine S1.out.mono ?_)
  rintro e w7 ⟨u7, rfl, h7, b7⟩
  have H7 := Lib.hid h7
  have B7 := Lib.hid b7
  clear h7 b7
  go_wp2_with fail
  (with_reducible refine (S2.out _ B7.out).mono ?_)
  rintro e w8 ⟨u8, rfl, h8, b8⟩
  have SI := Lib.hid (ints_same u7 u8 L L w8 _ _ (IR.of_own (own_below H7.out b8)) (IR.of_own h8))
  rw [decide_eq_true rfl] at SI
  have B8 := Lib.hid (B7.out.trans (b8.mono B7.out.size))
  clear h8 b8
  go_wp2_with fail
  (with_reducible refine SI.out.mono ?_)
  rintro e w9 ⟨rfl, d, rfl⟩
  have B9 := Lib.hid (below_drewN B8.out d)
  go_wp2_with fail
  (with_reducible refine (S3.out _ B9.out).mono ?_)
  rintro e wa ⟨ua, rfl, ha, hba⟩
  obtain ⟨AL, cL, hIL, hLc, hLm, hLcell⟩ := row_cells ha
  subst hIL
  have HUC := Lib.hid (fun j hj => by
    obtain ⟨g, o, h1, _, h2, h3⟩ := hLcell j hj
    exact (⟨g, o, h1, h2, h3⟩ : ∃ g o, AL = some ⟨g, o, none⟩ ∧ g < wa.heap.size ∧ wa.cell? ⟨g, o + j, none⟩ = some (.int .i64 (L.getD j 0))))
  have BA := Lib.hid (B9.out.trans (hba.mono B9.out.size))
  have PA := Lib.hid (P6.out.later BA.out)
  have QA := Lib.hid (Q6.out.later BA.out)
  clear hLcell ha hba S1 S2 S3 SI L1 L2 N1 N2
  unfold maxLen at hLm
  go_wp2
  go_loopw [9, 10, 11, 12, 13] (fun iv _ _ _ _ wr => ∃ j : Nat, j ≤ L.length ∧ iv = .int .i64 j ∧ Hid (Below wa.heap.size wa wr)) (fun iv _ _ _ _ _ => L.length - (intOf iv).toNat)
  case atStart => exact ⟨0, Nat.zero_le _, rfl, Lib.hid (Below.refl _ _)⟩
  case round =>
    obtain ⟨j, hj, rfl, HW⟩ := hrel
    by_cases hlt : j < L.length
    · obtain ⟨gu, ou, rfl, hgu, hcu⟩ := HUC.out j hlt
      obtain ⟨t, ht, _, htl⟩ := (SM0.out _).1 (List.getElem_mem hlt)
      rw [List.getD_eq_getElem?_getD, List.getElem?_eq_getElem hlt, Option.getD_some, ht] at hcu
      have kc : wr.cell? ⟨gu, ou + j, none⟩ = some (.int .i64 (t : Int)) := (HW.out.cell hgu).trans hcu
      have G1 := Lib.hid (get_some wr b ys (PA.out.later HW.out) (t : Int))
      have G2 := Lib.hid (fun W (hW : Below wr.heap.size wr W) => get_some W b' ys ((QA.out.later HW.out).later hW) (t : Int))
      rw [there_of htl] at G1
      have G2' := Lib.hid (show ∀ W (hW : Below wr.heap.size wr W), Calls Try.prog 24 #[.pointer (some ⟨b', 0, none⟩), .int .i64 (t : Int)] W fun e w' => ∃ u, e = .returned (.tuple #[u, .bool true]) ∧ w'.ownsRow W.heap.size 5 1 u (datX ys (t : Int)).length ((datX ys (t : Int)).map (.int .u8)) ∧ Below W.heap.size W w' by rw [← there_of htl]; exact G2.out)
      have DB := Lib.hid (dat_b QA.out.at_.byt (t : Int))
      obtain ⟨D, hD⟩ : ∃ D, D = datX ys (t : Int) := ⟨_, rfl⟩
      rw [← hD] at G1 G2' DB
      have HCU := Lib.hid hcu
      have HGU := Lib.hid hgu
      have HLT := Lib.hid hlt
      have hji : (j : Int) < (L.length : Int) := by omega
      clear G2 hD ht htl hcu hgu
      go_wp2_with fail
      (with_reducible refine G1.out.mono ?_)
      rintro e w7 ⟨ug, rfl, hg, hb7⟩
      have HA := Lib.hid hg
      have B7' := Lib.hid hb7
      have kc7 : w7.cell? ⟨gu, ou + j, none⟩ = some (.int .i64 (t : Int)) := (hb7.cell (Nat.lt_of_lt_of_le HGU.out HW.out.size)).trans kc
      clear hg hb7 kc
      go_wp2_with fail
      (with_reducible refine (G2'.out _ B7'.out).mono ?_)
      rintro e w8 ⟨ub, rfl, hub, hb8⟩
      have SM := Lib.hid (NumBytes.same_any ug ub D D w8 _ _ (IR.of_own (own_below HA.out hb8)) (IR.of_own hub) DB.out DB.out)
      rw [decide_eq_true rfl] at SM
      have B8' := Lib.hid (HW.out.trans ((B7'.out.trans (hb8.mono B7'.out.size)).mono HW.out.size))
      clear hub hb8 kc7
      go_wp2_with fail
      (with_reducible refine SM.out.mono ?_)
      rintro e wx ⟨rfl, rfl⟩
      go_wp2
      go_roundw
      case rel => exact ⟨j + 1, by have := HLT.out; omega, by go_num, B8'⟩
      case measure => have := HLT.out; simp [intOf]; omega
    · have BY := Lib.hid (bytes_any wr b ys (PA.out.later HW.out).at_)
      have BZ := Lib.hid (B6.out.trans ((BA.out.trans (HW.out.mono BA.out.size)).mono B6.out.size))
      clear hj
      go_wp2_with fail
      (with_reducible refine BY.out.mono ?_)
      rintro e wb ⟨ub, rfl, hub, hbb⟩
      obtain ⟨AB, cB, eB⟩ := own_slice' hub
      subst eB
      have BZ' := Lib.hid (BZ.out.trans (hbb.mono BZ.out.size))
      clear hub hbb
      go_wp2
      go_ret
      exact ⟨rfl, BZ'.out⟩


set_option maxRecDepth 100000 in
theorem lifted (os : Os) (started : os.Started) (H : Type) (enc : TypeId × Value → H) :
    ReturnsInHanded {} Try.checked os 5 .any (Rows.pageBackSpec.pre6 enc Try.prog Try.f5 Rows.pageBackRow.domain false) (Rows.pageBackSpec.post enc Try.prog Try.f5 false true false false) := by
  refine returnsInHanded_of_change (C := Try.checked) own started (by kernel_rfl) Try.func5
    (ChangeSpec.witness6 (enc := enc) (C := Try.checked) false ⟨#[], #[.int .u32 0, .slice none 0 0], []⟩ 8 (by kernel_rfl) (by kernel_rfl) (by kernel_rfl) (by kernel_rfl)) ?_
  intro W base args ds gs before hval0 hW hcnd _
  have hval : ∀ (j : Nat) t v, Try.f5.params[j]? = some t → args[j]? = some v → Value.okWide Try.prog W .any base t v := hval0
  have hW' := hW
  obtain ⟨p, q, hA0, hV, rfl, hfz, hnd⟩ := hW
  have hA1 : DataW.TrodAll enc Try.prog W 0 (fun _ => true) true Try.f5.params.toList args.toList ds p := hA0
  have hA := hA1
  rw [Try.params5] at hA hval
  obtain ⟨v0, vs0, d0, ds0, p0, q0, hargs, rfl, rfl, h0, r0⟩ := trodAll_cons hA
  obtain ⟨v1, vs1, d1, ds1, p1, q1, rfl, rfl, rfl, h1, r1⟩ := trodAll_cons r0
  obtain ⟨rfl, rfl, rfl⟩ := trodAll_nil r1
  obtain rfl : args = #[v0, v1] := by cases args; simp_all
  obtain ⟨rfl, rfl⟩ := trodVars_none hV
  obtain ⟨n, rfl, rfl, rfl, wf0⟩ := open_int Try.underlying22 (hval 0 22 v0 rfl rfl) h0
  obtain ⟨xl, i1, wf1⟩ := Pg.open_pos (hval 1 23 v1 rfl rfl) h1
  clear hA0 hval0
  refine (walk W n (bounds_u32 wf0) v1 xl i1 wf1).mono fun e W' ⟨he, bel⟩ => ?_
  subst he
  exact ⟨_, rfl, _, _, _, [], _, [], hW', trodAll_mk1 (shut_bool Try.underlying4 _), args_again laidOut bel (by kernel_rfl) hA1, rfl, bel.frame _, fun h => by cases h⟩

theorem over : Rows.pageBackRow.holds Try.pinned (OpenSpec.ofChange Rows.pageBackSpec) :=
  OpenClaim.holds_of_wide 5 Try.f5 rfl rfl rfl rfl rfl rfl rfl ⟨rfl, rfl, rfl, rfl, rfl⟩ rfl rfl rfl rfl rfl (by kernel_rfl) Try.func5 (by kernel_rfl)
    (of_decide_eq_true (by kernel_rfl)) (by unfold Func.isWrapper; first | (rw [if_pos (by decide +kernel)]; kernel_rfl) | (rw [if_neg (by decide +kernel)]; exact ⟨rfl, rfl⟩))
    (fun os started H enc _ => lifted os started H enc)

theorem proved : Rows.PageBackSaid := over
end Go.Proofs.Ythbbnebanmpcjaa.LPageBack
