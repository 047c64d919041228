/- The law manciplelaw08.WalMarks returns true whatever it is called with, and what it was called with reads as it did. No condition. -/
import Derived.Test.YteggcehjpfmikaaLaw
import Derived.Test.YteggcehjpfmikaaWtK
import Derived.Deep.DeepCutAuto
namespace Go.Proofs.Yteggcehjpfmikaa.LWalMarks
open Go.ChangeShapes Go.WideShapes Go.ChangeAt Go.RowKit Go.IntWalk Go.Proofs.Mem Law
set_option linter.unusedVariables false
open Go.Proofs.Yteggcehjpfmikaa.Disk Go.Proofs.Yteggcehjpfmikaa.Wal Go.Proofs.Yteggcehjpfmikaa.Rec Go.Proofs.Each Strip
set_option linter.unusedSimpArgs false
theorem hvy_small {size : Int} {l : List Oq} (h : hvy size l = false) : size ≤ 120 ∧ l.length ≤ 40 := by
  unfold hvy at h
  simp only [Bool.or_eq_false_iff, decide_eq_false_iff_not] at h
  omega
theorem ok_mk {D : Dv} {L : Lv} {rs : List Rc} {es : List Ent} {j : Nat} (ok : RunOk D L rs es j) (hj : j < 60) (at_ : Int) (ha : 0 ≤ at_ ∧ at_ ≤ 18446744073709551615) : LvOk (mkD D L at_) (mkL L at_) := by
  obtain ⟨rs', ok'⟩ := ok.step hj (o := ⟨6, rb, .slice none 0 0, .slice none 0 0, .slice none 0 0, .slice none 0 0, 0, at_, .slice none 0 0, []⟩) (L' := mkL L at_) (D' := mkD D L at_) (es' := es) rb_ok ha (.inr (.inl ⟨by show (6 : Int) % 11 = 6; decide, rfl, rfl, rfl⟩))
  exact ok'.lv (by omega)
set_option maxRecDepth 100000 in
set_option maxHeartbeats 16000000 in
theorem walk (w : World) (size : Int) (hsize : -9223372036854775808 ≤ size ∧ size ≤ 9223372036854775807) (l : Value) (xl : List Wal.Oq) (hl : SS Wal.cOq 16 w w.heap.size l xl) (bl : ∀ o ∈ xl, Wal.OqAt w w.heap.size o) (at_ : Int) (hat_ : 0 ≤ at_ ∧ at_ ≤ 18446744073709551615) (f : Value) (xf : List Disk.Ft) (hf : SS Disk.cFt 4 w w.heap.size f xf) (bf : ∀ o ∈ xf, Disk.Ft.Ok o) :
    Calls Try.prog 7 #[.int .i64 size, l, .int .u64 at_, f] w fun e w' => e = .returned (.bool true) ∧ Below w.heap.size w w' := by
  obtain ⟨A, c, rfl, hlc, hcm⟩ := hl.form
  obtain ⟨Af, cf, rfl, hfc, hfm⟩ := hf.form
  have hforms : ∀ o ∈ xl, OqF o := fun o ho => (bl o ho).forms
  have CH := Lib.hid (fun W (hb : Below w.heap.size w W) => heavy_any W w.heap.size hb.size size A c xl hlc hcm (hl.below hb) hforms)
  have CK := Lib.hid (fun W => known_any W)
  obtain ⟨q1, hq1⟩ : ∃ q, hvy size xl = q := ⟨_, rfl⟩
  rw [hq1] at CH
  have HQ1 := Lib.hid hq1
  have HL := Lib.hid hl
  have HBL := Lib.hid bl
  have HF := Lib.hid hf
  have HBF := Lib.hid bf
  have HLC := Lib.hid (And.intro hlc hcm)
  have HW := Lib.hid (Below.refl w.heap.size w)
  obtain ⟨nf, hnf⟩ : ∃ nf, xf.length = nf := ⟨_, rfl⟩
  have HNF := Lib.hid hnf
  rw [hnf]
  clear hl bl hforms hq1 hlc hcm hsize hf bf hfc hfm hnf
  cases q1 with
  | true =>
    go_enter Try.func7, Try.ntmps7
    go_wp2_with fail
    (with_reducible refine (CH.out _ HW.out).mono ?_)
    rintro e w2 ⟨rfl, hb2⟩
    have HB2 := Lib.hid (HW.out.trans (hb2.mono HW.out.size))
    clear hb2
    go_wp2_with fail
    (with_reducible refine (CK.out _).mono ?_)
    rintro e w3 ⟨rfl, hb3⟩
    have HB3 := Lib.hid (HB2.out.trans (hb3.mono HB2.out.size))
    clear hb3
    go_wp2
    go_ret
    exact ⟨rfl, HB3.out⟩
  | false =>
    have hsm := hvy_small HQ1.out
    have HSM := Lib.hid hsm
    clear hsm
    by_cases h60 : 60 < nf
    · have d1 : decide ((60 : Int) < (nf : Int)) = true := decide_eq_true (by omega)
      have d2 : decide (60 < nf) = true := decide_eq_true h60
      clear h60
      go_enter Try.func7, Try.ntmps7
      go_wp2_with fail
      (with_reducible refine (CH.out _ HW.out).mono ?_)
      rintro e w2 ⟨rfl, hb2⟩
      have HB2 := Lib.hid (HW.out.trans (hb2.mono HW.out.size))
      clear hb2
      go_wp2_with fail
      (with_reducible refine (CK.out _).mono ?_)
      rintro e w3 ⟨rfl, hb3⟩
      have HB3 := Lib.hid (HB2.out.trans (hb3.mono HB2.out.size))
      clear hb3
      go_wp2
      go_ret
      exact ⟨rfl, HB3.out⟩
    · have d1 : decide ((60 : Int) < (nf : Int)) = false := decide_eq_false (by omega)
      have d2 : decide (60 < nf) = false := decide_eq_false h60
      have H60 := Lib.hid (show nf ≤ 60 by omega)
      clear h60
      go_enter Try.func7, Try.ntmps7
      go_wp2_with fail
      (with_reducible refine (CH.out _ HW.out).mono ?_)
      rintro e w2 ⟨rfl, hb2⟩
      have HB2 := Lib.hid (HW.out.trans (hb2.mono HW.out.size))
      clear hb2
      go_wp2_with fail
      (with_reducible refine (CK.out _).mono ?_)
      rintro e w4 ⟨rfl, hb4⟩
      have HB4 := Lib.hid (HB2.out.trans (hb4.mono HB2.out.size))
      have CR := Lib.hid (run_any w4 size HSM.out.1 A c xl HLC.out.1 HLC.out.2 (((HL.out.below HB4.out).more HB4.out.size)) (fun o ho => ((HBL.out o ho).below HB4.out).more HB4.out.size) HSM.out.2 (-1) (by decide))
      clear hb4
      go_wp2_with fail
      (with_reducible refine CR.out.mono ?_)
      rintro e w5 ⟨T, pb, t, g, fv, D, L, b0, l0, A0, c0, e0, A5, c5, es, rfl, hpl, hb5, hrun⟩
      have HB5 := Lib.hid (HB4.out.trans (hb5.mono HB4.out.size))
      obtain ⟨hn1, hn2⟩ := sizeN_in size HSM.out.1
      obtain ⟨hgd, rs, hok⟩ := run_free hn1 hn2 (fun o ho => (HBL.out o ho).p) HSM.out.2 hrun
      obtain ⟨n, hn⟩ : ∃ n, sizeN size = n := ⟨_, rfl⟩
      rw [hn] at hgd hn1 hn2
      have lv := hok.lv (by have := HSM.out; omega)
      obtain ⟨hfree, cc, hcl, hgc⟩ := hgd
      have hsz : Wal.sz D = szN n := sz_ct hcl.toCt
      have lvn := ok_mk hok (by have := HSM.out; omega) at_ hat_
      have hlen := hok.len
      obtain ⟨cn, hcn, hgn⟩ := good_mk hcl hgc lv.la (by rw [← hsz]; exact hlen) at_ hat_ (by have := hok.st.2; have := HSM.out; omega)
      have hys := hok.ys
      have hss := hok.ss
      have HPL := Lib.hid hpl
      have HOK := Lib.hid hok
      have HCN := Lib.hid hcn
      have hgn' : GoodC n cn (mkL L at_).h (mkL L at_).se (strm rs) := by
        have : (mkL L at_).ys.take (mkL L at_).la = strm rs := by
          show L.ys.take L.ys.length = strm rs
          rw [List.take_length, hys]
        rw [this] at hgn
        exact hgn
      have HGN := Lib.hid hgn'
      have HSN := Lib.hid (show szN n ≤ 700 by unfold szN; omega)
      have hK : mkL L at_ = ⟨(mkL L at_).h, (mkL L at_).se, strm rs, begs rs, (strm rs).length⟩ := by
        show (⟨_, _, L.ys, L.ss, L.ys.length⟩ : Lv) = _
        rw [hys, hss]
        rfl
      have HK := Lib.hid hK
      have HLVN := Lib.hid lvn
      have hes : es.length ≤ 4000 := by
        have h1 := congrArg List.length hok.ent.1
        rw [List.length_map] at h1
        have h2 := strm_many hok.good
        have h3 := lv.nn
        rw [hok.ys] at h3
        omega
      have HES := Lib.hid hes
      have CN := Lib.hid (mark_any hpl.lg lv hok.h0 _ hok.few (by have := HSM.out; omega) at_ hat_)
      have s1 : w5.cell? ⟨pb, 1, none⟩ = some (.pointer (some ⟨t, 0, none⟩)) := hpl.bx.cell 1
      clear hpl hb5 hrun hok lv hn1 hn2 hn hfree hcl hgc hsz lvn hlen hcn hgn hgn' hK hes hys hss hat_
      go_wp2_with fail
      (with_reducible refine CN.out.mono ?_)
      rintro e w7 ⟨rfl, LG7, F7⟩
      have hT := HPL.out.tB
      have HB45 := Lib.hid (show w4.heap.size ≤ w5.heap.size from by have := HPL.out.bx.lt; have := HPL.out.pB; omega)
      have hb57 : Below w4.heap.size w5 w7 := F7.to_below (fun k hk => (hT k hk).1) HB45.out
      have HB7 := Lib.hid (HB5.out.trans (hb57.mono HB4.out.size))
      have HX7 := Lib.hid (HPL.out.bx.fr F7 HPL.out.pT)
      have HA7 := Lib.hid (HPL.out.a1.move (T' := growS w5 w7 T) (F7.mono (fun _ _ h => .inl h)) hb57 (fun x hx => by
        rcases hx with h | h
        · exact .inl h
        · exact .inr h.1))
      have k7 : w7.cell? ⟨pb, 0, none⟩ = some (.pointer (some ⟨g, 0, none⟩)) := HX7.out.cell 0
      have CC := Lib.hid (lg_crash LG7 (.slice Af nf cf) xf (by have := ((HF.out.below HB7.out).more HB7.out.size); rw [HNF.out] at this; exact this) HBF.out (by rw [HNF.out]; have := H60.out; omega) (HCN.out.few.more (by decide)))
      have HT7 := Lib.hid (show ∀ x, growS w5 w7 T x → w4.heap.size ≤ x ∧ x ≠ pb from fun x hx => by
        rcases hx with hx | hx
        · exact ⟨(hT x hx).1, fun h => HPL.out.pT (h ▸ hx)⟩
        · have h1 := HPL.out.bx.lt
          have := HB45.out
          exact ⟨by omega, by omega⟩)
      have HB47 := Lib.hid (show w4.heap.size ≤ w7.heap.size from Nat.le_trans HB45.out F7.size)
      clear LG7 F7 hT s1 hb57
      go_wp2_with fail
      (with_reducible refine CC.out.mono ?_)
      rintro e w8 ⟨rfl, LG8, F8⟩
      have hb78 : Below w4.heap.size w7 w8 := F8.to_below (fun k hk => (HT7.out k hk).1) HB47.out
      have HB8 := Lib.hid (HB7.out.trans (hb78.mono HB4.out.size))
      have HX8 := Lib.hid (HX7.out.fr F8 (fun h => (HT7.out _ h).2 rfl))
      have HA8 := Lib.hid (HA7.out.move (T' := growS w7 w8 (growS w5 w7 T)) (F8.mono (fun _ _ h => .inl h)) hb78 (fun x hx => by
        rcases hx with h | h
        · exact .inl h
        · exact .inr h.1))
      have HT8 := Lib.hid (show ∀ x, growS w7 w8 (growS w5 w7 T) x → w4.heap.size ≤ x ∧ x ≠ pb from fun x hx => by
        rcases hx with hx | hx
        · exact HT7.out x hx
        · have h1 := HX7.out.lt
          have := HB47.out
          exact ⟨by omega, by omega⟩)
      have HB48 := Lib.hid (show w4.heap.size ≤ w8.heap.size from Nat.le_trans HB47.out F8.size)
      obtain ⟨S8, A8, c8, At8, ct8, h1, d8, h3, h4, h5, h6, h7, h8, h9⟩ := LG8
      have HCL8 := Lib.hid (crash_cl HCN.out xf).1
      have CO := Lib.hid (open_good d8 HCL8.out HGN.out HOK.out.good HSN.out)
      have k8 : w8.cell? ⟨pb, 0, none⟩ = some (.pointer (some ⟨g, 0, none⟩)) := HX8.out.cell 0
      have HTS := Lib.hid h8
      clear h1 d8 h3 h4 h5 h6 h7 h8 h9 F8 k7 hb78
      go_wp2_with fail
      (with_reducible refine CO.out.mono ?_)
      rintro e w9 ⟨t2, D9, rfl, LG9, K9, F9, ht9⟩
      have hb89 : Below w4.heap.size w8 w9 := F9.to_below (fun k hk => (HT8.out k (HTS.out k hk)).1) HB48.out
      have HB9 := Lib.hid (HB8.out.trans (hb89.mono HB4.out.size))
      have HX9 := Lib.hid (HX8.out.fr F9 (fun h => (HT8.out _ (HTS.out _ h)).2 rfl))
      have HA9 := Lib.hid (HA8.out.move (T' := S8) (F9.mono (fun _ _ h => .inl (HTS.out _ h))) hb89 (fun x hx => .inl (HTS.out x hx)))
      have HB49 := Lib.hid (show w4.heap.size ≤ w9.heap.size from Nat.le_trans HB48.out F9.size)
      have lv9 : LvOk D9 (mkL L at_) := LvOk.dev HLVN.out (by rw [K9.len, HCN.out.len])
      rw [← HK.out] at LG9
      have hys9 : (mkL L at_).ys = strm rs := HOK.out.ys
      have hss9 : (mkL L at_).ss = begs rs := HOK.out.ss
      have CE9 := Lib.hid (fun W (hb : Below w9.heap.size w9 W) => entries_all (LG9.later hb) lv9 rs hys9 hss9 HOK.out.good)
      obtain ⟨S9, A9, c9, At9, ct9, x9, _, _, _, _, _, _, _, _⟩ := id LG9
      have CC9 := Lib.hid (fun W (hb : Below w9.heap.size w9 W) => by have := check_any W (x9.later hb); rw [show (mkL L at_).h.ch = at_ from rfl] at this; exact this)
      have SK := Lib.hid (show ∀ W, Below w9.heap.size w9 W → W.cell? ⟨pb, 7, none⟩ = some (.slice A5 es.length c5) from fun W hb => (HX9.out.later hb).cell 7)
      have CS9 := Lib.hid (fun W (hb : Below w9.heap.size w9 W) (A : Option Addr) (c : Nat) (el : List Ent) (heo : EsOk (mkL L at_).h.ba rs el) (w0 : Nat) (hrow : W.ownsRow w0 58 13 (.slice A el.length c) el.length (el.flatMap cEnt)) (hin : ∀ x ∈ el, EntO W w0 (.slice A el.length c) x) => same_entries W A A5 c c5 el es (SS.of_own cEnt_len hrow) (SS.of_own cEnt_len (own_below HA9.out.own hb)) (fun x hx => (hin x hx).o.in_) (fun x hx => by have h := (HA9.out.inn x hx).below (hb.mono HB49.out); have hl := Nat.le_trans HB49.out hb.size; exact ⟨h.a.more hl, h.b.more hl, h.t.more hl, h.d.more hl⟩) (fun x hx => by
        have : x.r ∈ rs := by rw [← heo.1]; exact List.mem_map_of_mem hx
        exact (HOK.out.good _ this).1) (by rw [heo.1, HOK.out.ent.1]) (by rw [heo.2, HOK.out.ent.2]; rfl) (by
        have h1 := congrArg List.length heo.1
        have h2 := congrArg List.length HOK.out.ent.1
        rw [List.length_map] at h1 h2
        have := HES.out
        omega))
      have HD9 := Lib.hid (show Below w9.heap.size w9 w9.drew from (Below.refl _ _).drew)
      have K0 := Lib.hid (SK.out _ HD9.out)
      clear LG9 lv9 x9 hys9 hss9 K9 F9 ht9 k8 hb89
      go_upto_region 9 with fail
      go_region_held3 (fun W => W.cell? ⟨pb, 7, none⟩ = some (.slice A5 es.length c5))
        (first | exact K0.out | exact K1.out | exact K2.out)
        (first
        | (go_at_call 25; (with_reducible refine (CC9.out _ HD9.out).mono ?_); rintro er wx ⟨rfl, rfl⟩)
        | (go_at_call 16; (with_reducible refine (CE9.out _ HD9.out).mono ?_); rintro er w10 ⟨A10, c10, el, rfl, heo, hrow, hin, hb10⟩; have HB10 := Lib.hid (HD9.out.trans (hb10.mono HD9.out.size)); have K1 := Lib.hid (SK.out _ HB10.out); have CSE := Lib.hid (CS9.out _ HB10.out A10 c10 el heo _ hrow hin); clear heo hrow hin hb10)
        | (go_at_call 18; (with_reducible refine CSE.out.mono ?_); rintro er w11 ⟨rfl, hb11⟩; have HB11 := Lib.hid (HB10.out.trans (hb11.mono HB10.out.size)); have K2 := Lib.hid (SK.out _ HB11.out); clear hb11))
      all_goals go_wp2
      all_goals go_ret
      all_goals exact ⟨rfl, HB9.out.trans (HB11.out.mono HB9.out.size)⟩


set_option maxRecDepth 100000 in
theorem lifted (os : Os) (started : os.Started) (H : Type) (enc : TypeId × Value → H) :
    ReturnsInHanded {} Try.checked os 7 .any (Rows.walMarksSpec.pre6 enc Try.prog Try.f7 Rows.walMarksRow.domain false) (Rows.walMarksSpec.post enc Try.prog Try.f7 false true false false) := by
  refine returnsInHanded_of_change (C := Try.checked) own started (by kernel_rfl) Try.func7
    (ChangeSpec.witness6 (enc := enc) (C := Try.checked) false ⟨#[], #[.int .i64 0, .slice none 0 0, .int .u64 0, .slice none 0 0], []⟩ 8 (by kernel_rfl) (by kernel_rfl) (by kernel_rfl) (by kernel_rfl)) ?_
  intro W base args ds gs before hval0 hW hcnd _
  have hval : ∀ (j : Nat) t v, Try.f7.params[j]? = some t → args[j]? = some v → Value.okWide Try.prog W .any base t v := hval0
  have hW' := hW
  obtain ⟨p, q, hA0, hV, rfl, hfz, hnd⟩ := hW
  have hA1 : DataW.TrodAll enc Try.prog W 0 (fun _ => true) true Try.f7.params.toList args.toList ds p := hA0
  have hA := hA1
  rw [Try.params7] at hA hval
  obtain ⟨v0, vs0, d0, ds0, p0, q0, hargs, rfl, rfl, h0, r0⟩ := trodAll_cons hA
  obtain ⟨v1, vs1, d1, ds1, p1, q1, rfl, rfl, rfl, h1, r1⟩ := trodAll_cons r0
  obtain ⟨v2, vs2, d2, ds2, p2, q2, rfl, rfl, rfl, h2, r2⟩ := trodAll_cons r1
  obtain ⟨v3, vs3, d3, ds3, p3, q3, rfl, rfl, rfl, h3, r3⟩ := trodAll_cons r2
  obtain ⟨rfl, rfl, rfl⟩ := trodAll_nil r3
  obtain rfl : args = #[v0, v1, v2, v3] := by cases args; simp_all
  obtain ⟨rfl, rfl⟩ := trodVars_none hV
  obtain ⟨size, rfl, rfl, rfl, wf0⟩ := open_int Try.underlying3 (hval 0 3 v0 rfl rfl) h0
  obtain ⟨xl, i1, wf1⟩ := Wal.open_oqs (hval 1 22 v1 rfl rfl) h1
  obtain ⟨at_, rfl, rfl, rfl, wf2⟩ := open_int Try.underlying30 (hval 2 30 v2 rfl rfl) h2
  obtain ⟨xf, i3, wf3⟩ := Wal.open_fts (hval 3 23 v3 rfl rfl) h3
  clear hA0 hval0
  refine (walk W size (bounds_i64 wf0) v1 xl i1 wf1 at_ (bounds_u64 wf2) v3 xf i3 wf3).mono fun e W' ⟨he, bel⟩ => ?_
  subst he
  exact ⟨_, rfl, _, _, _, [], _, [], hW', trodAll_mk1 (shut_bool Try.underlying4 _), args_again laidOut bel (by kernel_rfl) hA1, rfl, bel.frame _, fun h => by cases h⟩

theorem over : Rows.walMarksRow.holds Try.pinned (OpenSpec.ofChange Rows.walMarksSpec) :=
  OpenClaim.holds_of_wide 7 Try.f7 rfl rfl rfl rfl rfl rfl rfl ⟨rfl, rfl, rfl, rfl, rfl⟩ rfl rfl rfl rfl rfl (by kernel_rfl) Try.func7 (by kernel_rfl)
    (of_decide_eq_true (by kernel_rfl)) (by unfold Func.isWrapper; first | (rw [if_pos (by decide +kernel)]; kernel_rfl) | (rw [if_neg (by decide +kernel)]; exact ⟨rfl, rfl⟩))
    (fun os started H enc _ => lifted os started H enc)

theorem proved : Rows.WalMarksSaid := over
end Go.Proofs.Yteggcehjpfmikaa.LWalMarks
