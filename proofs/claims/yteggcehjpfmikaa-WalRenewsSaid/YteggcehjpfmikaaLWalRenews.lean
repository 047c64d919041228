/- The law manciplelaw08.WalRenews returns true whatever it is called with, and what it was called with reads as it did. No condition. -/
import Derived.Test.YteggcehjpfmikaaLaw
import Derived.Test.YteggcehjpfmikaaWsI
import Derived.Deep.DeepCutAuto
namespace Go.Proofs.Yteggcehjpfmikaa.LWalRenews
open Go.ChangeShapes Go.WideShapes Go.ChangeAt Go.RowKit Go.IntWalk Go.Proofs.Mem Law
set_option linter.unusedVariables false
open Go.Proofs.Yteggcehjpfmikaa.Disk Go.Proofs.Yteggcehjpfmikaa.Wal Go.Proofs.Yteggcehjpfmikaa.Rec Go.Proofs.Each Strip
set_option linter.unusedSimpArgs false
theorem hvy_small {size : Int} {l : List Oq} (h : hvy size l = false) : size ≤ 120 ∧ l.length ≤ 40 := by
  unfold hvy at h
  simp only [Bool.or_eq_false_iff, decide_eq_false_iff_not] at h
  omega
theorem ok_rn {D : Dv} {L : Lv} {rs : List Rc} {es : List Ent} {j : Nat} (ok : RunOk D L rs es j) (hj : j < 60) : LvOk (rnD D L) (rnL L) := by
  obtain ⟨rs', ok'⟩ := ok.step hj (o := ⟨7, rb, .slice none 0 0, .slice none 0 0, .slice none 0 0, .slice none 0 0, 0, 0, .slice none 0 0, []⟩) (L' := rnL L) (D' := rnD D L) (es' := []) rb_ok ⟨by show (0 : Int) ≤ 0; decide, by show (0 : Int) ≤ _; decide⟩ (.inr (.inr (.inl ⟨by show (7 : Int) % 11 = 7; decide, rfl, rfl, rfl⟩)))
  exact ok'.lv (by omega)
set_option maxRecDepth 100000 in
set_option maxHeartbeats 16000000 in
theorem walk (w : World) (size : Int) (hsize : -9223372036854775808 ≤ size ∧ size ≤ 9223372036854775807) (l : Value) (xl : List Wal.Oq) (hl : SS Wal.cOq 16 w w.heap.size l xl) (bl : ∀ o ∈ xl, Wal.OqAt w w.heap.size o) (f : Value) (xf : List Disk.Ft) (hf : SS Disk.cFt 4 w w.heap.size f xf) (bf : ∀ o ∈ xf, Disk.Ft.Ok o) :
    Calls Try.prog 6 #[.int .i64 size, l, f] w fun e w' => e = .returned (.bool true) ∧ Below w.heap.size w w' := by
  obtain ⟨A, c, rfl, hlc, hcm⟩ := hl.form
  obtain ⟨Af, cf, rfl, hfc, hfm⟩ := hf.form
  have hforms : ∀ o ∈ xl, OqF o := fun o ho => (bl o ho).forms
  have CH := Lib.hid (fun W (hb : Below w.heap.size w W) => heavy_any W w.heap.size hb.size size A c xl hlc hcm (hl.below hb) hforms)
  have CK := Lib.hid (fun W => known_any W)
  obtain ⟨q1, hq1⟩ : ∃ q, hvy size xl = q := ⟨_, rfl⟩
  rw [hq1] at CH
  have HQ1 := Lib.hid hq1
  have HL := Lib.hid hl
  have HBL := Lib.hid bl
  have HF := Lib.hid hf
  have HBF := Lib.hid bf
  have HLC := Lib.hid (And.intro hlc hcm)
  have HW := Lib.hid (Below.refl w.heap.size w)
  obtain ⟨nf, hnf⟩ : ∃ nf, xf.length = nf := ⟨_, rfl⟩
  have HNF := Lib.hid hnf
  rw [hnf]
  clear hl bl hforms hq1 hlc hcm hsize hf bf hfc hfm hnf
  cases q1 with
  | true =>
    go_enter Try.func6, Try.ntmps6
    go_wp2_with fail
    (with_reducible refine (CH.out _ HW.out).mono ?_)
    rintro e w2 ⟨rfl, hb2⟩
    have HB2 := Lib.hid (HW.out.trans (hb2.mono HW.out.size))
    clear hb2
    go_wp2_with fail
    (with_reducible refine (CK.out _).mono ?_)
    rintro e w3 ⟨rfl, hb3⟩
    have HB3 := Lib.hid (HB2.out.trans (hb3.mono HB2.out.size))
    clear hb3
    go_wp2
    go_ret
    exact ⟨rfl, HB3.out⟩
  | false =>
    have hsm := hvy_small HQ1.out
    have HSM := Lib.hid hsm
    clear hsm
    by_cases h60 : 60 < nf
    · have d1 : decide ((60 : Int) < (nf : Int)) = true := decide_eq_true (by omega)
      have d2 : decide (60 < nf) = true := decide_eq_true h60
      clear h60
      go_enter Try.func6, Try.ntmps6
      go_wp2_with fail
      (with_reducible refine (CH.out _ HW.out).mono ?_)
      rintro e w2 ⟨rfl, hb2⟩
      have HB2 := Lib.hid (HW.out.trans (hb2.mono HW.out.size))
      clear hb2
      go_wp2_with fail
      (with_reducible refine (CK.out _).mono ?_)
      rintro e w3 ⟨rfl, hb3⟩
      have HB3 := Lib.hid (HB2.out.trans (hb3.mono HB2.out.size))
      clear hb3
      go_wp2
      go_ret
      exact ⟨rfl, HB3.out⟩
    · have d1 : decide ((60 : Int) < (nf : Int)) = false := decide_eq_false (by omega)
      have d2 : decide (60 < nf) = false := decide_eq_false h60
      have H60 := Lib.hid (show nf ≤ 60 by omega)
      clear h60
      go_enter Try.func6, Try.ntmps6
      go_wp2_with fail
      (with_reducible refine (CH.out _ HW.out).mono ?_)
      rintro e w2 ⟨rfl, hb2⟩
      have HB2 := Lib.hid (HW.out.trans (hb2.mono HW.out.size))
      clear hb2
      go_wp2_with fail
      (with_reducible refine (CK.out _).mono ?_)
      rintro e w4 ⟨rfl, hb4⟩
      have HB4 := Lib.hid (HB2.out.trans (hb4.mono HB2.out.size))
      have CR := Lib.hid (run_any w4 size HSM.out.1 A c xl HLC.out.1 HLC.out.2 (((HL.out.below HB4.out).more HB4.out.size)) (fun o ho => ((HBL.out o ho).below HB4.out).more HB4.out.size) HSM.out.2 (-1) (by decide))
      clear hb4
      go_wp2_with fail
      (with_reducible refine CR.out.mono ?_)
      rintro e w5 ⟨T, pb, t, g, fv, D, L, b0, l0, A0, c0, e0, A5, c5, es, rfl, hpl, hb5, hrun⟩
      have HB5 := Lib.hid (HB4.out.trans (hb5.mono HB4.out.size))
      obtain ⟨hn1, hn2⟩ := sizeN_in size HSM.out.1
      obtain ⟨hgd, rs, hok⟩ := run_free hn1 hn2 (fun o ho => (HBL.out o ho).p) HSM.out.2 hrun
      obtain ⟨n, hn⟩ : ∃ n, sizeN size = n := ⟨_, rfl⟩
      rw [hn] at hgd hn1 hn2
      have lv := hok.lv (by have := HSM.out; omega)
      obtain ⟨hfree, cc, hcl, hgc⟩ := hgd
      have hsz : Wal.sz D = szN n := sz_ct hcl.toCt
      have lvn := ok_rn hok (by have := HSM.out; omega)
      have hlen := hok.len
      obtain ⟨cn, hcn, hgn⟩ := good_rn hcl hgc lv.la (by rw [← hsz]; exact hlen) (by have := hok.st.2; have := HSM.out; omega) (by have := hok.ba.2; have := lv.nn; have := HSM.out; omega)
      have HPL := Lib.hid hpl
      have HOK := Lib.hid hok
      have HLV := Lib.hid lv
      have HLVN := Lib.hid lvn
      have HCN := Lib.hid hcn
      have HGN := Lib.hid (show GoodC n cn (rnL L).h (rnL L).se (strm []) from hgn)
      have HSZ := Lib.hid hsz
      have HSN := Lib.hid (show szN n ≤ 700 by unfold szN; omega)
      obtain ⟨rm, hrm⟩ : ∃ rm, Wal.sz D * 127 - L.ys.length = rm := ⟨_, rfl⟩
      obtain ⟨bs, hbs⟩ : ∃ bs, L.h.ba = bs := ⟨_, rfl⟩
      obtain ⟨en, hen⟩ : ∃ en, bs + (L.ys.length : Int) = en := ⟨_, rfl⟩
      obtain ⟨nn, hnn⟩ : ∃ nn, L.ys.length = nn := ⟨_, rfl⟩
      obtain ⟨tt, htt⟩ : ∃ tt, Wal.sz D * 127 = tt := ⟨_, rfl⟩
      have RM5 := Lib.hid (fun W (hb : Below w5.heap.size w5 W) => by have := room_lg (hpl.lg.later hb) lv; rw [hrm] at this; exact this)
      have EN5 := Lib.hid (fun W (hb : Below w5.heap.size w5 W) => by have := end_lg (hpl.lg.later hb) lv; rw [hbs, hen] at this; exact this)
      have BS5 := Lib.hid (fun W (hb : Below w5.heap.size w5 W) => by have := base_lg (hpl.lg.later hb); rw [hbs] at this; exact this)
      have s1 : w5.cell? ⟨pb, 1, none⟩ = some (.pointer (some ⟨t, 0, none⟩)) := hpl.bx.cell 1
      have SK := Lib.hid (fun W (hb : Below w5.heap.size w5 W) => ((hpl.bx.later hb).cell 1 : W.cell? ⟨pb, 1, none⟩ = some (.pointer (some ⟨t, 0, none⟩))))
      have e1 : en - bs = (nn : Int) := by omega
      have e2 : (rm : Int) + (nn : Int) = (tt : Int) := by omega
      have e3 : IntKind.u64.wrap (nn : Int) = (nn : Int) := by rw [IntKind.wrap_u64]; have := lv.nn; omega
      have e4 : IntKind.u64.wrap (tt : Int) = (tt : Int) := by rw [IntKind.wrap_u64]; have := lv.sz; omega
      have HEN := Lib.hid (show (rnL L).h.ba = en by show L.h.ba + (L.ys.length : Int) = en; rw [hbs]; exact hen)
      have HTT := Lib.hid (show szN n * 127 = tt by rw [← hsz]; exact htt)
      clear hpl hb5 hrun hok lv hrm hen hn1 hn2 hn hfree hcl hgc hsz lvn hlen hcn hgn hbs hnn htt
      go_wp2_with fail
      (with_reducible refine (EN5.out _ (Below.refl _ _)).mono ?_)
      rintro e w6' ⟨rfl, rfl⟩
      go_upto_region 7 with fail
      have HD5 := Lib.hid (show Below w5.heap.size w5 w5.drew from (Below.refl _ _).drew)
      have K0 := Lib.hid (SK.out _ HD5.out)
      go_cut [9] (fun v wx => v = .int .u64 tt ∧ Below w5.heap.size w5 wx)
      case first =>
        go_region_held3 (fun W => W.cell? ⟨pb, 1, none⟩ = some (.pointer (some ⟨t, 0, none⟩)))
          (first | exact K0.out | exact K1.out)
          (first
          | (go_at_call 19; (first | (with_reducible refine (BS5.out _ HD5.out).mono ?_) | (with_reducible refine (BS5.out _ HD6.out).mono ?_)); rintro er w6 ⟨rfl, rfl⟩)
          | (go_at_call 22; (with_reducible refine (RM5.out _ HD5.out).mono ?_); rintro er w6 ⟨rfl, hb6⟩; have HD6 := Lib.hid (HD5.out.trans (hb6.mono HD5.out.size)); have K1 := Lib.hid (SK.out _ HD6.out); clear hb6))
        all_goals (go_wp2; go_meet; exact ⟨rfl, HD6.out⟩)
      case rest =>
        obtain ⟨rfl, hb6⟩ := hcut
        rename_i hK
        refine hK _ _ ?_
        clear hK K0 RM5 EN5 BS5 SK
        obtain ⟨w6, hw6⟩ : ∃ w6, w6 = wc := ⟨_, rfl⟩
        rw [← hw6] at hb6 ⊢
        clear hw6
        have H6 := Lib.hid hb6
        have k1 := (HPL.out.bx.later hb6).cell 1
        have k0 := (HPL.out.bx.later hb6).cell 0
        have k1' : w6.cell? ⟨pb, 1, none⟩ = some (.pointer (some ⟨t, 0, none⟩)) := k1
        have CN := Lib.hid (renew_any (HPL.out.lg.later hb6) HLV.out HOK.out.h0 _ HOK.out.few (by have := HSM.out; omega))
        clear hb6 k1 k0 s1
        go_wp2_with fail
        (with_reducible refine CN.out.mono ?_)
        rintro e w7 ⟨rfl, LG7, F7⟩
        have hb7 := HB5.out.trans (H6.out.mono HB5.out.size)
        have hT := HPL.out.tB
        have HB7 := Lib.hid (hb7.trans (F7.to_below (fun k hk => by have := (hT k hk).1; have := HB4.out.size; omega) hb7.size))
        have HX7 := Lib.hid ((HPL.out.bx.later H6.out).fr F7 HPL.out.pT)
        have k7 : w7.cell? ⟨pb, 0, none⟩ = some (.pointer (some ⟨g, 0, none⟩)) := HX7.out.cell 0
        have CC := Lib.hid (lg_crash LG7 (.slice Af nf cf) xf (by have := ((HF.out.below HB7.out).more HB7.out.size); rw [HNF.out] at this; exact this) HBF.out (by rw [HNF.out]; have := H60.out; omega) (HCN.out.few.more (by decide)))
        have HT7 := Lib.hid (show ∀ x, growS w6 w7 T x → w.heap.size ≤ x ∧ x ≠ pb from fun x hx => by
          rcases hx with hx | hx
          · exact ⟨by have := (hT x hx).1; have := HB4.out.size; omega, fun h => HPL.out.pT (h ▸ hx)⟩
          · have h1 := (HPL.out.bx.later H6.out).lt
            have := hb7.size
            exact ⟨by omega, by omega⟩)
        clear LG7 F7 hb7 hT k1'
        go_wp2_with fail
        (with_reducible refine CC.out.mono ?_)
        rintro e w8 ⟨rfl, LG8, F8⟩
        have HB8 := Lib.hid (HB7.out.trans (F8.to_below (fun k hk => (HT7.out k hk).1) HB7.out.size))
        have HX8 := Lib.hid (HX7.out.fr F8 (fun h => (HT7.out _ h).2 rfl))
        have HT8 := Lib.hid (show ∀ x, growS w7 w8 (growS w6 w7 T) x → w.heap.size ≤ x ∧ x ≠ pb from fun x hx => by
          rcases hx with hx | hx
          · exact HT7.out x hx
          · have h1 := HX7.out.lt
            have := HB7.out.size
            exact ⟨by omega, by omega⟩)
        obtain ⟨S8, A8, c8, At8, ct8, h1, d8, h3, h4, h5, h6, h7, h8, h9⟩ := LG8
        have HCL8 := Lib.hid (crash_cl HCN.out xf).1
        have CO := Lib.hid (open_good d8 HCL8.out HGN.out (fun r hr => by cases hr) HSN.out)
        have k8 : w8.cell? ⟨pb, 0, none⟩ = some (.pointer (some ⟨g, 0, none⟩)) := HX8.out.cell 0
        have HXO := Lib.hid h1
        have HS8 := Lib.hid h5
        have HTS := Lib.hid h8
        clear h1 d8 h3 h4 h5 h6 h7 h8 h9 F8 k7
        go_wp2_with fail
        (with_reducible refine CO.out.mono ?_)
        rintro e w9 ⟨t2, D9, rfl, LG9, K9, F9, ht9⟩
        have HB9 := Lib.hid (HB8.out.trans (F9.to_below (fun k hk => (HT8.out k (HTS.out k hk)).1) HB8.out.size))
        have k9 : w9.cell? ⟨pb, 1, none⟩ = some (.pointer (some ⟨t, 0, none⟩)) := (HX8.out.fr F9 (fun h => (HT8.out _ (HTS.out _ h)).2 rfl)).cell 1
        have XO := HXO.out.fr F9 HS8.out
        have lv9 : LvOk D9 (rnL L) := LvOk.dev HLVN.out (by rw [K9.len, HCN.out.len])
        have LG9' : LgAt w9 (growS w8 w9 S8) t2 g fv D9 (rnL L) := LG9
        have hl0 : (rnL L).ys.length = 0 := rfl
        have z0 : (rnL L).h.ba + (((rnL L).ys.length : Nat) : Int) = en := by rw [hl0, HEN.out]; omega
        have z1 : Wal.sz D9 * 127 - (rnL L).ys.length = tt := by rw [hl0, sz_ct K9.toCt, HTT.out]; rfl
        have CE9 := end_lg LG9' lv9
        rw [z0] at CE9
        have CB9 := base_lg LG9'
        rw [HEN.out] at CB9
        have CO9 := end_any w9 XO (by have := lv9.ba; have := lv9.nn; omega) (by have := lv9.nn; omega)
        rw [z0] at CO9
        have CN9 := entries_none LG9' lv9 rfl 0
        have CR9 := Lib.hid (fun W (hb : Below w9.heap.size w9 W) => by have := room_lg (LG9'.later hb) lv9; rw [z1] at this; exact this)
        obtain ⟨S9, A9, c9, At9, ct9, x9, _, _, _, _, _, _, _, _⟩ := id LG9'
        have CC9 := Lib.hid (fun W (hb : Below w9.heap.size w9 W) => by have := check_any W (x9.later hb); rw [show (rnL L).h.ch = 0 from rfl] at this; exact this)
        have HE9 := Lib.hid CE9
        have HBS9 := Lib.hid CB9
        have HO9 := Lib.hid CO9
        have HN9 := Lib.hid CN9
        have HW9 := Lib.hid (show Below w9.heap.size w9 w9 from Below.refl _ _)
        clear LG9 LG9' lv9 XO hl0 z0 z1 CE9 CB9 CO9 CN9 x9 K9 F9 ht9 k8
        go_wp2_with fail
        (with_reducible refine HBS9.out.mono ?_)
        rintro e wx ⟨rfl, rfl⟩
        go_wp2_with fail
        (with_reducible refine HE9.out.mono ?_)
        rintro e wx ⟨rfl, rfl⟩
        go_wp2_with fail
        (with_reducible refine HO9.out.mono ?_)
        rintro e wx ⟨rfl, rfl⟩
        go_wp2_with fail
        (with_reducible refine HN9.out.mono ?_)
        rintro e wa ⟨rfl, hba⟩
        have HWA := Lib.hid hba
        clear hba
        go_wp2_with fail
        (with_reducible refine (CC9.out _ HWA.out).mono ?_)
        rintro e wx ⟨rfl, rfl⟩
        go_wp2_with fail
        (with_reducible refine (CR9.out _ HWA.out).mono ?_)
        rintro e wb ⟨rfl, hbb⟩
        have HWB := Lib.hid (HWA.out.trans (hbb.mono HWA.out.size))
        clear hbb
        go_wp2
        go_ret
        exact ⟨rfl, HB9.out.trans (HWB.out.mono HB9.out.size)⟩


set_option maxRecDepth 100000 in
theorem lifted (os : Os) (started : os.Started) (H : Type) (enc : TypeId × Value → H) :
    ReturnsInHanded {} Try.checked os 6 .any (Rows.walRenewsSpec.pre6 enc Try.prog Try.f6 Rows.walRenewsRow.domain false) (Rows.walRenewsSpec.post enc Try.prog Try.f6 false true false false) := by
  refine returnsInHanded_of_change (C := Try.checked) own started (by kernel_rfl) Try.func6
    (ChangeSpec.witness6 (enc := enc) (C := Try.checked) false ⟨#[], #[.int .i64 0, .slice none 0 0, .slice none 0 0], []⟩ 8 (by kernel_rfl) (by kernel_rfl) (by kernel_rfl) (by kernel_rfl)) ?_
  intro W base args ds gs before hval0 hW hcnd _
  have hval : ∀ (j : Nat) t v, Try.f6.params[j]? = some t → args[j]? = some v → Value.okWide Try.prog W .any base t v := hval0
  have hW' := hW
  obtain ⟨p, q, hA0, hV, rfl, hfz, hnd⟩ := hW
  have hA1 : DataW.TrodAll enc Try.prog W 0 (fun _ => true) true Try.f6.params.toList args.toList ds p := hA0
  have hA := hA1
  rw [Try.params6] at hA hval
  obtain ⟨v0, vs0, d0, ds0, p0, q0, hargs, rfl, rfl, h0, r0⟩ := trodAll_cons hA
  obtain ⟨v1, vs1, d1, ds1, p1, q1, rfl, rfl, rfl, h1, r1⟩ := trodAll_cons r0
  obtain ⟨v2, vs2, d2, ds2, p2, q2, rfl, rfl, rfl, h2, r2⟩ := trodAll_cons r1
  obtain ⟨rfl, rfl, rfl⟩ := trodAll_nil r2
  obtain rfl : args = #[v0, v1, v2] := by cases args; simp_all
  obtain ⟨rfl, rfl⟩ := trodVars_none hV
  obtain ⟨size, rfl, rfl, rfl, wf0⟩ := open_int Try.underlying3 (hval 0 3 v0 rfl rfl) h0
  obtain ⟨xl, i1, wf1⟩ := Wal.open_oqs (hval 1 22 v1 rfl rfl) h1
  obtain ⟨xf, i2, wf2⟩ := Wal.open_fts (hval 2 23 v2 rfl rfl) h2
  clear hA0 hval0
  refine (walk W size (bounds_i64 wf0) v1 xl i1 wf1 v2 xf i2 wf2).mono fun e W' ⟨he, bel⟩ => ?_
  subst he
  exact ⟨_, rfl, _, _, _, [], _, [], hW', trodAll_mk1 (shut_bool Try.underlying4 _), args_again laidOut bel (by kernel_rfl) hA1, rfl, bel.frame _, fun h => by cases h⟩

theorem over : Rows.walRenewsRow.holds Try.pinned (OpenSpec.ofChange Rows.walRenewsSpec) :=
  OpenClaim.holds_of_wide 6 Try.f6 rfl rfl rfl rfl rfl rfl rfl ⟨rfl, rfl, rfl, rfl, rfl⟩ rfl rfl rfl rfl rfl (by kernel_rfl) Try.func6 (by kernel_rfl)
    (of_decide_eq_true (by kernel_rfl)) (by unfold Func.isWrapper; first | (rw [if_pos (by decide +kernel)]; kernel_rfl) | (rw [if_neg (by decide +kernel)]; exact ⟨rfl, rfl⟩))
    (fun os started H enc _ => lifted os started H enc)

theorem proved : Rows.WalRenewsSaid := over
end Go.Proofs.Yteggcehjpfmikaa.LWalRenews
