/- The law manciplelaw09.PageEmpty returns true whatever it is called with, and what it was called with reads as it did. No condition. -/
import Derived.Test.YthbbnebanmpcjaaLaw
import Derived.Test.YthbbnebanmpcjaaPgZa
namespace Go.Proofs.Ythbbnebanmpcjaa.LPageEmpty
open Go.ChangeShapes Go.WideShapes Go.ChangeAt Go.RowKit Go.IntWalk Go.Proofs.Mem Law
set_option linter.unusedVariables false
open Go.Proofs.Ythbbnebanmpcjaa.Pg Go.Proofs.Each
set_option linter.unusedSimpArgs false
set_option maxRecDepth 100000 in
set_option maxHeartbeats 8000000 in
theorem walk (w : World) (n : Int) (hn : 0 ≤ n ∧ n ≤ 4294967295) (l : Value) (xl : List Pg.Pi) (hl : SS Pg.cPi 4 w w.heap.size l xl) (bl : ∀ o ∈ xl, Pg.PiAt w w.heap.size o) :
    Calls Try.prog 8 #[.int .u32 n, l] w fun e w' => e = .returned (.bool true) ∧ Below w.heap.size w w' := by
  obtain ⟨A, c, rfl, hlc, hcm⟩ := hl.form
  unfold maxLen at hcm
  have HV := Lib.hid (heavy_any w A c xl hcm hlc hl bl)
  have RU := Lib.hid (fun W (hW : Below w.heap.size w W) => run_any W n hn A c xl hcm hlc ((hl.below hW).more hW.size) (fun x hx => ⟨(bl x hx).1, ((bl x hx).2.below hW).more hW.size⟩))
  have KP := Lib.hid (runP_kept (n := n) (xl := xl) (fun x hx => (bl x hx).1))
  have NW := Lib.hid (fun W => new_any W n hn)
  clear hl bl
  obtain ⟨q, hq⟩ : ∃ q, q = hvy xl := ⟨_, rfl⟩
  rw [← hq] at HV
  clear hq
  go_enter Try.func8, Try.ntmps8
  cases q
  case true =>
    go_wp2_with (first
      | ((with_reducible refine HV.out.mono ?_); rintro e w1 ⟨rfl, rfl⟩)
      | ((with_reducible refine (known_any _).mono ?_); rintro e w3 ⟨rfl, hb3⟩; have HB3 := Lib.hid hb3; clear hb3))
    go_ret
    exact ⟨rfl, HB3.out⟩
  go_wp2_with (first
    | ((with_reducible refine HV.out.mono ?_); rintro e w1 ⟨rfl, rfl⟩)
    | ((with_reducible refine (known_any _).mono ?_); rintro e w3 ⟨rfl, hb3⟩; have HB3 := Lib.hid hb3; clear hb3)
    | fail)
  (with_reducible refine (RU.out _ HB3.out).mono ?_)
  rintro e w4 ⟨rfl, p4, b4⟩
  obtain ⟨b, hb⟩ : ∃ b, b = w3.heap.size := ⟨_, rfl⟩
  rw [← hb] at p4 b4 ⊢
  obtain ⟨ys, hys⟩ : ∃ ys, ys = runP n xl := ⟨_, rfl⟩
  rw [← hys] at p4 KP
  have P4 := Lib.hid p4
  have B4 := Lib.hid (show Below w1.heap.size w1 w4 ∧ w1.heap.size ≤ b ∧ b < w4.heap.size from ⟨HB3.out.trans (b4.mono (by have := HB3.out.size; omega)), by have := HB3.out.size; omega, p4.at_.box.lt⟩)
  clear p4 b4 hb hys
  go_wp2_with fail
  (with_reducible refine (NW.out _).mono ?_)
  rintro e w5 ⟨rfl, p5, b5⟩
  obtain ⟨b', hb'⟩ : ∃ b, b = w4.heap.size := ⟨_, rfl⟩
  rw [← hb'] at p5 ⊢
  have P5 := Lib.hid (P4.out.later b5)
  have Q5 := Lib.hid p5
  have B5 := Lib.hid (show Below w1.heap.size w1 w5 ∧ w1.heap.size ≤ b ∧ b < b' ∧ b' < w5.heap.size from ⟨B4.out.1.trans (b5.mono B4.out.1.size), B4.out.2.1, by have := B4.out.2.2; omega, p5.box.lt⟩)
  have SL := Lib.hid (slots_any w5 b ys P5.out.at_ P5.out.wf.w0.cnt)
  have EL := Lib.hid (emptyL P5.out.wf P5.out.at_.byt)
  have CN := Lib.hid (clr_new KP.out)
  have MB := Lib.hid (gt_bound P5.out.at_.byt 0 8 (by decide) (by rw [P5.out.at_.len]; decide))
  clear p5 b5 hb'
  obtain ⟨L, hL⟩ : ∃ L, L = slotsTo ys (cnt ys) := ⟨_, rfl⟩
  rw [← hL] at SL EL CN
  clear hL
  obtain ⟨M, hM⟩ : ∃ M, M = gt ys 0 8 := ⟨_, rfl⟩
  rw [← hM] at CN MB
  clear hM
  have NS := Lib.hid (new_stamped n M MB.out)
  go_wp2_with fail
  (with_reducible refine SL.out.mono ?_)
  rintro e w6 ⟨u, rfl, hu, hb6⟩
  obtain ⟨AL, cL, hIL, hLc, hLm, hLcell⟩ := row_cells hu
  subst hIL
  have HUC := Lib.hid hLcell
  have P6 := Lib.hid (P5.out.later hb6)
  have Q6 := Lib.hid (Q5.out.later hb6)
  have B6 := Lib.hid (show Below w1.heap.size w1 w6 from B5.out.1.trans (hb6.mono B5.out.1.size))
  have h40 := EL.out.len
  clear hLcell hu hb6
  unfold maxLen at hLm
  go_wp2
  go_loopw [8, 9, 10] (fun iv _ _ wr => ∃ j : Nat, j ≤ L.length ∧ iv = .int .i64 j ∧ Hid (Pw wr b (clrTo ys (L.take j))) ∧ Hid (Fr (fun x => x = b) w6 wr)) (fun iv _ _ _ => L.length - (intOf iv).toNat)
  case atStart => exact ⟨0, Nat.zero_le _, rfl, Lib.hid P6.out, Lib.hid (Fr.refl _ _)⟩
  case round =>
    obtain ⟨j, hj, rfl, HP, HW⟩ := hrel
    by_cases hlt : j < L.length
    · obtain ⟨t, ht, ht40, t1, t2, t3⟩ := EL.out.el j hlt
      obtain ⟨gu, ou, rfl, hbu, hgu, hcu⟩ := HUC.out j hlt
      rw [List.getD_eq_getElem?_getD, List.getElem?_eq_getElem hlt, Option.getD_some, ht] at hcu
      have hne : ¬ gu = b := by have := B5.out.2.2; omega
      have kc : wr.cell? ⟨gu, ou + j, none⟩ = some (.int .i64 (t : Int)) := (HW.out.cell hgu hne).trans hcu
      have C1 := Lib.hid (clear_some wr b _ HP.out (t : Int))
      rw [t1, ← t3] at C1
      have HT2 := Lib.hid t2
      have HCU := Lib.hid hcu
      have HNE := Lib.hid (And.intro hgu hne)
      clear ht t1 t2 t3 hcu hne hbu hgu
      go_wp2_with fail
      (with_reducible refine C1.out.mono ?_)
      rintro e w7 ⟨rfl, p7, f7⟩
      have F7 := Lib.hid (HW.out.trans f7)
      have kc7 : w7.cell? ⟨gu, ou + j, none⟩ = some (.int .i64 (t : Int)) := (F7.out.cell HNE.out.1 HNE.out.2).trans HCU.out
      have C2 := Lib.hid (clear_some w7 b _ p7 (t : Int))
      rw [HT2.out, clearX_not HT2.out] at C2
      clear p7 f7
      go_wp2_with fail
      (with_reducible refine C2.out.mono ?_)
      rintro e w8 ⟨rfl, p8, f8⟩
      have P8 := Lib.hid p8
      have F8 := Lib.hid (F7.out.trans f8)
      clear p8 f8
      go_wp2
      go_roundw
      case rel => exact ⟨j + 1, by omega, by go_num, P8, F8⟩
      case measure => simp [intOf]; omega
    · have hje : L.take j = L := List.take_of_length_le (by omega)
      rw [hje, CN.out] at HP
      have LS := Lib.hid (lsn_any wr b _ HP.out.at_)
      rw [NS.out.1] at LS
      have Q7 := Lib.hid (show PgAt wr b' (newP n) from ⟨Q6.out.box.fr HW.out (by have := B5.out.2.2; omega), Q6.out.len, Q6.out.byt⟩)
      have ST := Lib.hid (stamp_any wr b' _ Q7.out M (by have := MB.out; omega))
      obtain ⟨Z, hZ⟩ : ∃ Z, Z = setN (newP n) 0 8 M := ⟨_, rfl⟩
      rw [← hZ] at HP ST NS
      clear hje hZ
      go_wp2_with fail
      (with_reducible refine LS.out.mono ?_)
      rintro e wx ⟨rfl, rfl⟩
      go_wp2_with fail
      (with_reducible refine ST.out.mono ?_)
      rintro e w9 ⟨rfl, p9, f9⟩
      have P9 := Lib.hid (show PgAt w9 b Z from ⟨HP.out.at_.box.fr f9 (by have := B5.out.2.2; omega), HP.out.at_.len, HP.out.at_.byt⟩)
      have Q9 := Lib.hid p9
      have FA := Lib.hid (free_any w9 b Z P9.out (by rw [NS.out.2.2]; decide))
      rw [NS.out.2.1] at FA
      have B9 := Lib.hid (show Below w1.heap.size w1 w9 from (B6.out.trans (HW.out.to_below (fun k hk => by rw [hk]; exact B5.out.2.1) B6.out.size)).trans (f9.to_below (fun k hk => by rw [hk]; have := B5.out.2; omega) (by have := B6.out.size; have := HW.out.size; omega)))
      clear p9 f9
      go_wp2_with fail
      (with_reducible refine FA.out.mono ?_)
      rintro e wx ⟨rfl, rfl⟩
      have BA := Lib.hid (bytes_any w9 b Z P9.out)
      have BB := Lib.hid (fun W (hW : Below w9.heap.size w9 W) => bytes_any W b' Z (Q9.out.later hW))
      go_wp2_with fail
      (with_reducible refine BA.out.mono ?_)
      rintro e wa ⟨ua, rfl, ha, hba⟩
      have HBA := Lib.hid hba
      have HA := Lib.hid ha
      clear ha hba
      go_wp2_with fail
      (with_reducible refine (BB.out _ HBA.out).mono ?_)
      rintro e wb ⟨ub, rfl, hub, hbb⟩
      have SM := Lib.hid (NumBytes.same_any ua ub Z Z wb _ _ (IR.of_own (own_below HA.out hbb)) (IR.of_own hub) P9.out.byt P9.out.byt)
      rw [decide_eq_true rfl] at SM
      have HBB := Lib.hid (B9.out.trans ((HBA.out.trans (hbb.mono HBA.out.size)).mono B9.out.size))
      clear hub hbb
      go_wp2_with fail
      (with_reducible refine SM.out.mono ?_)
      rintro e wc ⟨rfl, rfl⟩
      go_wp2
      go_ret
      exact ⟨rfl, HBB.out⟩


set_option maxRecDepth 100000 in
theorem lifted (os : Os) (started : os.Started) (H : Type) (enc : TypeId × Value → H) :
    ReturnsInHanded {} Try.checked os 8 .any (Rows.pageEmptySpec.pre6 enc Try.prog Try.f8 Rows.pageEmptyRow.domain false) (Rows.pageEmptySpec.post enc Try.prog Try.f8 false true false false) := by
  refine returnsInHanded_of_change (C := Try.checked) own started (by kernel_rfl) Try.func8
    (ChangeSpec.witness6 (enc := enc) (C := Try.checked) false ⟨#[], #[.int .u32 0, .slice none 0 0], []⟩ 8 (by kernel_rfl) (by kernel_rfl) (by kernel_rfl) (by kernel_rfl)) ?_
  intro W base args ds gs before hval0 hW hcnd _
  have hval : ∀ (j : Nat) t v, Try.f8.params[j]? = some t → args[j]? = some v → Value.okWide Try.prog W .any base t v := hval0
  have hW' := hW
  obtain ⟨p, q, hA0, hV, rfl, hfz, hnd⟩ := hW
  have hA1 : DataW.TrodAll enc Try.prog W 0 (fun _ => true) true Try.f8.params.toList args.toList ds p := hA0
  have hA := hA1
  rw [Try.params8] at hA hval
  obtain ⟨v0, vs0, d0, ds0, p0, q0, hargs, rfl, rfl, h0, r0⟩ := trodAll_cons hA
  obtain ⟨v1, vs1, d1, ds1, p1, q1, rfl, rfl, rfl, h1, r1⟩ := trodAll_cons r0
  obtain ⟨rfl, rfl, rfl⟩ := trodAll_nil r1
  obtain rfl : args = #[v0, v1] := by cases args; simp_all
  obtain ⟨rfl, rfl⟩ := trodVars_none hV
  obtain ⟨n, rfl, rfl, rfl, wf0⟩ := open_int Try.underlying22 (hval 0 22 v0 rfl rfl) h0
  obtain ⟨xl, i1, wf1⟩ := Pg.open_pos (hval 1 23 v1 rfl rfl) h1
  clear hA0 hval0
  refine (walk W n (bounds_u32 wf0) v1 xl i1 wf1).mono fun e W' ⟨he, bel⟩ => ?_
  subst he
  exact ⟨_, rfl, _, _, _, [], _, [], hW', trodAll_mk1 (shut_bool Try.underlying4 _), args_again laidOut bel (by kernel_rfl) hA1, rfl, bel.frame _, fun h => by cases h⟩

theorem over : Rows.pageEmptyRow.holds Try.pinned (OpenSpec.ofChange Rows.pageEmptySpec) :=
  OpenClaim.holds_of_wide 8 Try.f8 rfl rfl rfl rfl rfl rfl rfl ⟨rfl, rfl, rfl, rfl, rfl⟩ rfl rfl rfl rfl rfl (by kernel_rfl) Try.func8 (by kernel_rfl)
    (of_decide_eq_true (by kernel_rfl)) (by unfold Func.isWrapper; first | (rw [if_pos (by decide +kernel)]; kernel_rfl) | (rw [if_neg (by decide +kernel)]; exact ⟨rfl, rfl⟩))
    (fun os started H enc _ => lifted os started H enc)

theorem proved : Rows.PageEmptySaid := over
end Go.Proofs.Ythbbnebanmpcjaa.LPageEmpty
