/- The law manciplelaw09.PageFits returns true whatever it is called with, and what it was called with reads as it did. No condition. -/
import Derived.Test.YthbbnebanmpcjaaLaw
import Derived.Test.YthbbnebanmpcjaaPgZ
namespace Go.Proofs.Ythbbnebanmpcjaa.LPageFits
open Go.ChangeShapes Go.WideShapes Go.ChangeAt Go.RowKit Go.IntWalk Go.Proofs.Mem Law
set_option linter.unusedVariables false
open Go.Proofs.Ythbbnebanmpcjaa.Pg Go.Proofs.Each
set_option linter.unusedSimpArgs false
theorem fU_le {xs : List Int} {k : Nat} (l : List Int) (h : ∀ s ∈ l, len xs s.toNat ≤ 64) : fU xs k l ≤ 64 * l.length := by
  induction l with
  | nil => simp [fU]
  | cons s l ih =>
    have h1 := ih (fun t ht => h t (List.mem_cons_of_mem _ ht))
    have h2 := h s List.mem_cons_self
    have e : fU xs k (s :: l) = (if s = (k : Int) then 0 else len xs s.toNat) + fU xs k l := by unfold fU; simp
    rw [e, List.length_cons]
    split <;> omega
theorem fC_le {k : Nat} {m : Int} (hk : (k : Int) + 1 ≤ m) (l : List Int) (h : ∀ s ∈ l, s + 1 ≤ m) : (k : Int) + 1 ≤ fC k l ∧ fC k l ≤ m := by
  unfold fC
  have : ∀ (l : List Int) (c : Int), (∀ s ∈ l, s + 1 ≤ m) → c ≤ m → c ≤ l.foldl (fun c s => max c (s + 1)) c ∧ l.foldl (fun c s => max c (s + 1)) c ≤ m := by
    intro l
    induction l with
    | nil => intro c _ hc; exact ⟨Int.le_refl _, hc⟩
    | cons s l ih =>
      intro c h hc
      have h1 := h s List.mem_cons_self
      have h2 := ih (max c (s + 1)) (fun t ht => h t (List.mem_cons_of_mem _ ht)) (by omega)
      simp only [List.foldl_cons]
      omega
  exact this l _ h hk
theorem k_mod (k : Int) (h : 0 ≤ k ∧ k ≤ 255) : ∃ kk : Nat, kk < 40 ∧ k.tmod 40 = (kk : Int) ∧ IntKind.i64.wrap (kk : Int) = (kk : Int) ∧ wrap64 ((kk : Int) + 1) = (kk : Int) + 1 := by
  refine ⟨(k % 40).toNat, by omega, ?_, IntWalk.i64_in _ (by omega), wrap64_in _ (by omega)⟩
  rw [Int.tmod_eq_emod_of_nonneg h.1]; omega
theorem datX_len {xs : List Int} (W : Wf xs) {t : Nat} (h0 : len xs t ≠ 0) : (datX xs (t : Int)).length = len xs t := by
  have hs : t < cnt xs := by
    rcases Nat.lt_or_ge t (cnt xs) with h | h
    · exact h
    · exact absurd (len_far h) h0
  have e : there xs (t : Int) = true := by unfold there; exact decide_eq_true ⟨by omega, h0⟩
  unfold datX
  rw [e, if_pos rfl]
  exact dat_len W.w0.len (W.w0.fits t hs)
/-- the slots that have something, as a list -/
structure SlotsL (ys L : List Int) : Prop where
  eq : L = slotsTo ys (cnt ys)
  len : L.length ≤ 40
  el : ∀ s ∈ L, ∃ t : Nat, s = t ∧ t < 40 ∧ Pg.len ys t ≠ 0 ∧ Pg.len ys t ≤ 64
theorem slotsL {ys : List Int} (W : Wf ys) : SlotsL ys (slotsTo ys (cnt ys)) := by
  have hC := W.w0.cnt
  refine ⟨rfl, Nat.le_trans (slotsTo_len _ _) hC, fun s hs => ?_⟩
  obtain ⟨t, h1, h2, h3⟩ := (slotsTo_mem _).1 hs
  exact ⟨t, h1, by omega, h3, (W.w0.ins t h2 h3).2.2⟩
theorem SlotsL.bds {ys L : List Int} (S : SlotsL ys L) (k j : Nat) (hk : k < 40) : fU ys k (L.take j) ≤ 2560 ∧ (k : Int) + 1 ≤ fC k (L.take j) ∧ fC k (L.take j) ≤ 40 := by
  have h1 := fU_le (xs := ys) (k := k) (L.take j) (fun s hs => by
    obtain ⟨t, rfl, _, _, h⟩ := S.el s (List.mem_of_mem_take hs)
    exact h)
  have h2 : (L.take j).length ≤ 40 := by rw [List.length_take]; have := S.len; omega
  have h3 := fC_le (k := k) (m := 40) (by omega) (L.take j) (fun s hs => by
    obtain ⟨t, rfl, h, _, _⟩ := S.el s (List.mem_of_mem_take hs)
    omega)
  exact ⟨by omega, h3⟩
set_option maxRecDepth 100000 in
set_option maxHeartbeats 8000000 in
theorem walk (w : World) (n : Int) (hn : 0 ≤ n ∧ n ≤ 4294967295) (l : Value) (xl : List Pg.Pi) (hl : SS Pg.cPi 4 w w.heap.size l xl) (bl : ∀ o ∈ xl, Pg.PiAt w w.heap.size o) (k : Int) (hk : 0 ≤ k ∧ k ≤ 255) (z : Value) (xz : List Int) (hz : IR w w.heap.size .u8 z xz) (bz : Bytes xz) :
    Calls Try.prog 7 #[.int .u32 n, l, .int .u8 k, z] w fun e w' => e = .returned (.bool true) ∧ Below w.heap.size w w' := by
  obtain ⟨A, c, rfl, hlc, hcm⟩ := hl.form
  obtain ⟨Az, cz, rfl, hzc, hzm⟩ := hz.form
  unfold maxLen at hcm hzm
  have HV := Lib.hid (heavy_any w A c xl hcm hlc hl bl)
  have RU := Lib.hid (fun W (hW : Below w.heap.size w W) => run_any W n hn A c xl hcm hlc ((hl.below hW).more hW.size) (fun x hx => ⟨(bl x hx).1, ((bl x hx).2.below hW).more hW.size⟩))
  have KP := Lib.hid (runP_kept (n := n) (xl := xl) (fun x hx => (bl x hx).1))
  have HZ := Lib.hid hz
  have BZ := Lib.hid bz
  clear hl bl hz bz
  obtain ⟨q, hq⟩ : ∃ q, q = hvy xl := ⟨_, rfl⟩
  rw [← hq] at HV
  clear hq
  obtain ⟨kk, hkk, m1, m2, m3⟩ := k_mod k hk
  obtain ⟨LZ, hLZ⟩ : ∃ L, L = xz.length := ⟨_, rfl⟩
  have HLZ := Lib.hid hLZ
  rw [← hLZ] at HZ hzc ⊢
  clear hLZ
  obtain ⟨q1, hq1⟩ : ∃ q, decide ((LZ : Int) < 1) = q := ⟨_, rfl⟩
  obtain ⟨q2, hq2⟩ : ∃ q, decide ((64 : Int) < (LZ : Int)) = q := ⟨_, rfl⟩
  have HQ1 := Lib.hid (show q1 = false → 1 ≤ LZ from fun h => by rw [h] at hq1; have := of_decide_eq_false hq1; omega)
  have HQ2 := Lib.hid (show q2 = false → LZ ≤ 64 from fun h => by rw [h] at hq2; have := of_decide_eq_false hq2; omega)
  go_enter Try.func7, Try.ntmps7
  cases q
  case true =>
    go_wp2_with (first
      | ((with_reducible refine HV.out.mono ?_); rintro e w1 ⟨rfl, rfl⟩)
      | ((with_reducible refine (known_any _).mono ?_); rintro e w3 ⟨rfl, hb3⟩; have HB3 := Lib.hid hb3; clear hb3))
    go_ret
    exact ⟨rfl, HB3.out⟩
  cases q1
  case true =>
    go_wp2_with (first
      | ((with_reducible refine HV.out.mono ?_); rintro e w1 ⟨rfl, rfl⟩)
      | ((with_reducible refine (known_any _).mono ?_); rintro e w3 ⟨rfl, hb3⟩; have HB3 := Lib.hid hb3; clear hb3))
    go_ret
    exact ⟨rfl, HB3.out⟩
  cases q2
  case true =>
    go_wp2_with (first
      | ((with_reducible refine HV.out.mono ?_); rintro e w1 ⟨rfl, rfl⟩)
      | ((with_reducible refine (known_any _).mono ?_); rintro e w3 ⟨rfl, hb3⟩; have HB3 := Lib.hid hb3; clear hb3))
    go_ret
    exact ⟨rfl, HB3.out⟩
  have hz1 := HQ1.out rfl
  have hz2 := HQ2.out rfl
  go_wp2_with (first
    | ((with_reducible refine HV.out.mono ?_); rintro e w1 ⟨rfl, rfl⟩)
    | ((with_reducible refine (known_any _).mono ?_); rintro e w3 ⟨rfl, hb3⟩; have HB3 := Lib.hid hb3; clear hb3)
    | fail)
  (with_reducible refine (RU.out _ HB3.out).mono ?_)
  rintro e w4 ⟨rfl, p4, b4⟩
  obtain ⟨b, hb⟩ : ∃ b, b = w3.heap.size := ⟨_, rfl⟩
  rw [← hb] at p4 b4 ⊢
  obtain ⟨ys, hys⟩ : ∃ ys, ys = runP n xl := ⟨_, rfl⟩
  rw [← hys] at p4 KP
  have P4 := Lib.hid p4
  have B4 := Lib.hid (show Below w1.heap.size w1 w4 ∧ w1.heap.size ≤ b from ⟨HB3.out.trans (b4.mono (by have := HB3.out.size; omega)), by have := HB3.out.size; omega⟩)
  have SL := Lib.hid (slots_any w4 b ys p4.at_ p4.wf.w0.cnt)
  clear p4 b4 hb hys
  have SLL := Lib.hid (slotsL P4.out.wf)
  obtain ⟨L, hL⟩ : ∃ L, L = slotsTo ys (cnt ys) := ⟨_, rfl⟩
  rw [← hL] at SL SLL
  clear hL
  have m0 : (0 : Int) = ((fU ys kk (L.take 0) : Nat) : Int) := rfl
  go_wp2_with fail
  (with_reducible refine SL.out.mono ?_)
  rintro e w5 ⟨u, rfl, hu, hb5⟩
  obtain ⟨AL, cL, hIL, hLc, hLm, hLn, hLcell⟩ := IR.of_own hu
  subst hIL
  have HUC := Lib.hid hLcell
  have P5 := Lib.hid (P4.out.later hb5)
  have B5 := Lib.hid (show Below w1.heap.size w1 w5 from B4.out.1.trans (hb5.mono B4.out.1.size))
  clear hLcell hu hb5
  have h40 := SLL.out.len
  go_wp2
  go_loopw [12, 13, 14, 15, 16] (fun cv uv iv _ _ wr => ∃ j : Nat, j ≤ L.length ∧ iv = .int .i64 j ∧ cv = .int .i64 (fC kk (L.take j)) ∧ uv = .int .i64 ((fU ys kk (L.take j) : Nat) : Int) ∧ Hid (Below w5.heap.size w5 wr)) (fun _ _ iv _ _ _ => L.length - (intOf iv).toNat)
  case atStart => exact ⟨0, Nat.zero_le _, rfl, by first | rfl | exact congrArg (Value.int .i64) m3, rfl, Lib.hid (Below.refl _ _)⟩
  case round =>
    obtain ⟨j, hj, rfl, rfl, rfl, HW⟩ := hrel
    clear m1 m2 m3 m0
    by_cases hlt : j < L.length
    · obtain ⟨t, ht, ht40, ht0, ht64⟩ := SLL.out.el L[j] (List.getElem_mem hlt)
      obtain ⟨gu, ou, rfl, hgu, hcu⟩ := HUC.out j hlt
      rw [List.getD_eq_getElem?_getD, List.getElem?_eq_getElem hlt, Option.getD_some, ht] at hcu
      have hgw : gu < wr.heap.size := by have := HW.out.size; omega
      have kc : wr.cell? ⟨gu, ou + j, none⟩ = some (.int .i64 (t : Int)) := (HW.out.cell hgu).trans hcu
      have hdl := datX_len P4.out.wf ht0
      have GA := Lib.hid (get_some wr b ys (P5.out.later HW.out) (t : Int))
      rw [hdl] at GA
      have hT : L.take (j + 1) = L.take j ++ [(t : Int)] := by rw [List.take_succ_eq_append_getElem hlt, ht]
      have bd := SLL.out.bds kk j hkk
      have HTU := Lib.hid (show fU ys kk (L.take (j + 1)) = fU ys kk (L.take j) + (if t = kk then 0 else len ys t) by
        rw [hT, fU_snoc, show ((t : Int)).toNat = t from rfl]
        by_cases e : t = kk
        · rw [if_pos (by omega), if_pos e]
        · rw [if_neg (by omega), if_neg e])
      have HTC := Lib.hid (show fC kk (L.take (j + 1)) = max (fC kk (L.take j)) ((t : Int) + 1) by rw [hT, fC_snoc])
      clear hcu hdl hT ht
      obtain ⟨CC, hCC⟩ : ∃ C, C = fC kk (L.take j) := ⟨_, rfl⟩
      obtain ⟨UU, hUU⟩ : ∃ U, U = fU ys kk (L.take j) := ⟨_, rfl⟩
      obtain ⟨TT, hTT⟩ : ∃ T, T = len ys t := ⟨_, rfl⟩
      rw [← hCC, ← hUU] at bd ⊢
      rw [← hCC] at HTC
      rw [← hUU, ← hTT] at HTU
      rw [← hTT] at GA ht64
      clear hCC hUU hTT ht0
      have HUW := Lib.hid (show wrap64 ((UU : Int) + (TT : Int)) = (UU : Int) + (TT : Int) ∧ wrap64 ((t : Int) + 1) = (t : Int) + 1 from ⟨wrap64_in _ (by omega), wrap64_in _ (by omega)⟩)
      have HU1 := Lib.hid bd
      clear bd
      obtain ⟨qk, hqk⟩ : ∃ q, ((t : Int) != (kk : Int)) = q := ⟨_, rfl⟩
      have HQK := Lib.hid (show qk = true ↔ t ≠ kk from by rw [← hqk, bne_iff_ne]; omega)
      go_wp2_with fail
      (with_reducible refine GA.out.mono ?_)
      rintro e w6 ⟨uu, rfl, hu6, hb6⟩
      obtain ⟨A6, c6, e6⟩ := own_slice' hu6
      subst e6
      have kc6 : w6.cell? ⟨gu, ou + j, none⟩ = some (.int .i64 (t : Int)) := (hb6.cell hgw).trans kc
      have B6 := Lib.hid (show Below w5.heap.size w5 w6 from HW.out.trans (hb6.mono HW.out.size))
      clear hu6 hb6
      have HTM := Lib.hid (show fC kk (L.take (j + 1)) = if CC < (t : Int) + 1 then (t : Int) + 1 else CC by rw [HTC.out]; split <;> omega)
      have HLT := Lib.hid hlt
      have HJ1 := Lib.hid (show wrap64 ((j : Int) + 1) = (j : Int) + 1 from wrap64_in _ (by omega))
      clear kc GA h40 ht40 ht64 hgu hgw HTC hj hkk hlt hz1 hz2
      cases qk
      · have HTU' := Lib.hid (show fU ys kk (L.take (j + 1)) = UU by rw [HTU.out, if_pos (by rcases Nat.decEq t kk with h | h; (exact absurd (HQK.out.2 h) (by decide)); (exact h))]; rfl)
        obtain ⟨u1, u2⟩ := HUW.out
        clear HTU HQK HUW u1
        have hlt := HLT.out
        go_wp2
        clear u2
        rw [HJ1.out]
        go_roundw
        case rel => exact ⟨j + 1, by have := HLT.out; omega, by go_num, by rw [HTM.out], by rw [HTU'.out], B6⟩
        case measure => have := HLT.out; simp [intOf]; omega
      · have HTU' := Lib.hid (show ((fU ys kk (L.take (j + 1)) : Nat) : Int) = (UU : Int) + (TT : Int) by rw [HTU.out, if_neg (HQK.out.1 rfl)]; omega)
        obtain ⟨u1, u2⟩ := HUW.out
        clear HTU HQK
        have hlt := HLT.out
        go_wp2
        clear u1 u2
        rw [HJ1.out, HUW.out.1]
        go_roundw
        case rel => exact ⟨j + 1, by have := HLT.out; omega, by go_num, by rw [HTM.out], by rw [HTU'.out], B6⟩
        case measure => have := HLT.out; simp [intOf]; omega
    · have hje : L.take j = L := List.take_of_length_le (by omega)
      have bd := SLL.out.bds kk j hkk
      have FR := fits_room P4.out.wf kk LZ
      rw [← SLL.out.eq] at FR
      rw [hje] at bd ⊢
      obtain ⟨CC, hCC⟩ : ∃ C, C = fC kk L := ⟨_, rfl⟩
      obtain ⟨UU, hUU⟩ : ∃ U, U = fU ys kk L := ⟨_, rfl⟩
      rw [← hCC, ← hUU] at bd FR ⊢
      obtain ⟨r, hr⟩ : ∃ r, r = roomB ys kk LZ := ⟨_, rfl⟩
      have hSE : setE ys (kk : Int) LZ = if r = true then 0 else 92 := by
        unfold setE
        rw [show mayS (kk : Int) LZ = true from decide_eq_true (by omega), if_pos rfl, show ((kk : Int)).toNat = kk from rfl, ← hr]
      rw [← hr] at FR
      have SE := Lib.hid (set_some wr b ys (P5.out.later HW.out) (kk : Int) Az LZ cz xz BZ.out HLZ.out.symm (fun w' hf => by
        have hW1 : Below w1.heap.size w1 wr := B5.out.trans (HW.out.mono B5.out.size)
        refine (HZ.out.keep (fun p hp => ?_)).more (Nat.le_trans hW1.size hf.size)
        have := B4.out.2
        rw [hf.cell (by have := hW1.size; omega) (by omega)]
        exact hW1.cell hp))
      rw [hSE] at SE
      have FR' := FR.symm
      have B9 := Lib.hid (show ∀ w', Fr (fun x => x = b) wr w' → Below w1.heap.size w1 w' from fun w' hf => (B5.out.trans (HW.out.mono B5.out.size)).trans (hf.to_below (fun k hk => by rw [hk]; exact B4.out.2) (by have := (B5.out.trans (HW.out.mono B5.out.size)).size; exact this)))
      obtain ⟨v1, v2, v3, v4⟩ : wrap64 (4 * CC) = 4 * CC ∧ wrap64 (16 + 4 * CC) = 16 + 4 * CC ∧ wrap64 (16 + 4 * CC + (UU : Int)) = 16 + 4 * CC + (UU : Int) ∧ wrap64 (16 + 4 * CC + (UU : Int) + (LZ : Int)) = 16 + 4 * CC + (UU : Int) + (LZ : Int) := ⟨wrap64_in _ (by omega), wrap64_in _ (by omega), wrap64_in _ (by omega), wrap64_in _ (by omega)⟩
      clear hSE hr FR hCC hUU hje bd
      cases r
      · go_wp2_with fail
        (with_reducible refine SE.out.mono ?_)
        rintro e w7 ⟨rfl, _, f7⟩
        have F7 := Lib.hid (B9.out w7 f7)
        clear f7
        go_wp2
        go_ret
        exact ⟨rfl, F7.out⟩
      · go_wp2_with fail
        (with_reducible refine SE.out.mono ?_)
        rintro e w7 ⟨rfl, _, f7⟩
        have F7 := Lib.hid (B9.out w7 f7)
        clear f7
        go_wp2
        go_ret
        exact ⟨rfl, F7.out⟩


set_option maxRecDepth 100000 in
theorem lifted (os : Os) (started : os.Started) (H : Type) (enc : TypeId × Value → H) :
    ReturnsInHanded {} Try.checked os 7 .any (Rows.pageFitsSpec.pre6 enc Try.prog Try.f7 Rows.pageFitsRow.domain false) (Rows.pageFitsSpec.post enc Try.prog Try.f7 false true false false) := by
  refine returnsInHanded_of_change (C := Try.checked) own started (by kernel_rfl) Try.func7
    (ChangeSpec.witness6 (enc := enc) (C := Try.checked) false ⟨#[], #[.int .u32 0, .slice none 0 0, .int .u8 0, .slice none 0 0], []⟩ 8 (by kernel_rfl) (by kernel_rfl) (by kernel_rfl) (by kernel_rfl)) ?_
  intro W base args ds gs before hval0 hW hcnd _
  have hval : ∀ (j : Nat) t v, Try.f7.params[j]? = some t → args[j]? = some v → Value.okWide Try.prog W .any base t v := hval0
  have hW' := hW
  obtain ⟨p, q, hA0, hV, rfl, hfz, hnd⟩ := hW
  have hA1 : DataW.TrodAll enc Try.prog W 0 (fun _ => true) true Try.f7.params.toList args.toList ds p := hA0
  have hA := hA1
  rw [Try.params7] at hA hval
  obtain ⟨v0, vs0, d0, ds0, p0, q0, hargs, rfl, rfl, h0, r0⟩ := trodAll_cons hA
  obtain ⟨v1, vs1, d1, ds1, p1, q1, rfl, rfl, rfl, h1, r1⟩ := trodAll_cons r0
  obtain ⟨v2, vs2, d2, ds2, p2, q2, rfl, rfl, rfl, h2, r2⟩ := trodAll_cons r1
  obtain ⟨v3, vs3, d3, ds3, p3, q3, rfl, rfl, rfl, h3, r3⟩ := trodAll_cons r2
  obtain ⟨rfl, rfl, rfl⟩ := trodAll_nil r3
  obtain rfl : args = #[v0, v1, v2, v3] := by cases args; simp_all
  obtain ⟨rfl, rfl⟩ := trodVars_none hV
  obtain ⟨n, rfl, rfl, rfl, wf0⟩ := open_int Try.underlying22 (hval 0 22 v0 rfl rfl) h0
  obtain ⟨xl, i1, wf1⟩ := Pg.open_pos (hval 1 23 v1 rfl rfl) h1
  obtain ⟨k, rfl, rfl, rfl, wf2⟩ := open_int Try.underlying5 (hval 2 5 v2 rfl rfl) h2
  obtain ⟨xz, i3, wf3⟩ := open_IR Try.underlying31 Try.underlying5 (by kernel_rfl) (hval 3 31 v3 rfl rfl) h3
  clear hA0 hval0
  refine (walk W n (bounds_u32 wf0) v1 xl i1 wf1 k (bounds_u8 wf2) v3 xz i3 (fun n hn => bounds_u8 (wf3 n hn))).mono fun e W' ⟨he, bel⟩ => ?_
  subst he
  exact ⟨_, rfl, _, _, _, [], _, [], hW', trodAll_mk1 (shut_bool Try.underlying4 _), args_again laidOut bel (by kernel_rfl) hA1, rfl, bel.frame _, fun h => by cases h⟩

theorem over : Rows.pageFitsRow.holds Try.pinned (OpenSpec.ofChange Rows.pageFitsSpec) :=
  OpenClaim.holds_of_wide 7 Try.f7 rfl rfl rfl rfl rfl rfl rfl ⟨rfl, rfl, rfl, rfl, rfl⟩ rfl rfl rfl rfl rfl (by kernel_rfl) Try.func7 (by kernel_rfl)
    (of_decide_eq_true (by kernel_rfl)) (by unfold Func.isWrapper; first | (rw [if_pos (by decide +kernel)]; kernel_rfl) | (rw [if_neg (by decide +kernel)]; exact ⟨rfl, rfl⟩))
    (fun os started H enc _ => lifted os started H enc)

theorem proved : Rows.PageFitsSaid := over
end Go.Proofs.Ythbbnebanmpcjaa.LPageFits
