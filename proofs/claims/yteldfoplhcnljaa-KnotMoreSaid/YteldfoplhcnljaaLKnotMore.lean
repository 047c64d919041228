/- The law manciplelaw14.KnotMore returns true whatever it is called with, and what it was called with reads as it did. No condition. -/
import Derived.Test.YteldfoplhcnljaaLaw
import Derived.Test.YteldfoplhcnljaaKn9
namespace Go.Proofs.Yteldfoplhcnljaa.LKnotMore
open Go.ChangeShapes Go.WideShapes Go.ChangeAt Go.RowKit Go.IntWalk Go.Proofs.Mem Law
set_option linter.unusedVariables false
open Go.Proofs.Yteldfoplhcnljaa.Knot Go.Proofs.Yteldfoplhcnljaa.Srt Go.Proofs.Ring
set_option maxRecDepth 100000 in
set_option maxHeartbeats 16000000 in
theorem walk (w : World) (l : Value) (xl : List Knot.Ed) (hl : SS Knot.cEd 2 w w.heap.size l xl) (bl : ∀ o ∈ xl, Knot.Ed.Ok o) (more : Value) (xmore : List Knot.Ed) (hmore : SS Knot.cEd 2 w w.heap.size more xmore) (bmore : ∀ o ∈ xmore, Knot.Ed.Ok o) (fr : Int) (hfr : 0 ≤ fr ∧ fr ≤ 4294967295) :
    Calls Try.prog 7 #[l, more, .int .u32 fr] w fun e w' => e = .returned (.bool true) ∧ Below w.heap.size w w' := by
  obtain ⟨A, c, rfl, hlc, hcm⟩ := hl.form
  obtain ⟨A', c', rfl, hlc', hcm'⟩ := hmore.form
  have HL := Lib.hid hl
  have BL := Lib.hid bl
  have HM := Lib.hid hmore
  have BM := Lib.hid bmore
  have KN := Lib.hid (fun W => known_any W)
  have HFR := Lib.hid hfr
  obtain ⟨N, hN⟩ : ∃ N, N = xl.length := ⟨_, rfl⟩
  obtain ⟨M, hM⟩ : ∃ M, M = xmore.length := ⟨_, rfl⟩
  rw [← hN] at HL ⊢
  rw [← hM] at HM ⊢
  have HNM := Lib.hid (⟨hN, hM⟩ : N = xl.length ∧ M = xmore.length)
  have hcm2 : N ≤ maxLen := by omega
  have hcm3 : M ≤ maxLen := by omega
  unfold maxLen at hcm2 hcm3
  clear hl bl hmore bmore hlc hlc' hcm hcm' hN hM
  by_cases hlen : 30 < N
  · have d1 : decide (30 < (N : Int)) = true := decide_eq_true (by omega)
    have d1' : decide (30 < N) = true := decide_eq_true hlen
    go_enter Try.func7, Try.ntmps7
    go_wp2_with fail
    (with_reducible refine (KN.out _).mono ?_)
    rintro e w1 ⟨rfl, hb1⟩
    go_wp2
    go_ret
    exact ⟨rfl, hb1⟩
  by_cases hlen2 : 10 < M
  · have d1 : decide (30 < (N : Int)) = false := decide_eq_false (by omega)
    have d1' : decide (30 < N) = false := decide_eq_false hlen
    have d2 : decide (10 < (M : Int)) = true := decide_eq_true (by omega)
    have d2' : decide (10 < M) = true := decide_eq_true hlen2
    go_enter Try.func7, Try.ntmps7
    go_wp2_with fail
    (with_reducible refine (KN.out _).mono ?_)
    rintro e w1 ⟨rfl, hb1⟩
    go_wp2
    go_ret
    exact ⟨rfl, hb1⟩
  · have d1 : decide (30 < (N : Int)) = false := decide_eq_false (by omega)
    have d1' : decide (30 < N) = false := decide_eq_false hlen
    have d2 : decide (10 < (M : Int)) = false := decide_eq_false (by omega)
    have d2' : decide (10 < M) = false := decide_eq_false hlen2
    obtain ⟨j0, hj0, hj1, hj2, hj3⟩ := info_parts ed_info
    have HLE := Lib.hid (show N ≤ 30 ∧ M ≤ 10 by omega)
    obtain ⟨R, hR⟩ : ∃ R, R = cyc xl fr := ⟨_, rfl⟩
    have CY2 := Lib.hid (fun (W : World) (u : Value) (ys : List Ed) (hu : SS cEd 2 W W.heap.size u ys) (hok : ∀ e ∈ ys, e.Ok) (hn : ys.length ≤ 100) => cycle_any W u ys fr hu hok (by omega) HFR.out)
    have CY := Lib.hid (fun (W : World) (hb : Below w.heap.size w W) => CY2.out W _ xl ((HL.out.below hb).more hb.size) BL.out (by have := HLE.out; have := HNM.out; omega))
    rw [← hR] at CY
    have HRL := Lib.hid (show R.length ≤ 41 by rw [hR]; have := cyc_len xl fr; have := HLE.out; have := HNM.out; omega)
    have HR2 := Lib.hid (show cyc (xl ++ xl) fr = R ∧ cyc xl.reverse fr = R ∧ (R ≠ [] → cyc (xl ++ xl ++ xmore) fr ≠ []) by rw [hR]; exact ⟨cyc_twice _ _, cyc_turned _ _, cyc_more _⟩)
    have bN : (N : Int) ≤ 30 := by omega
    clear hR hlen hlen2
    go_enter Try.func7, Try.ntmps7
    go_wp2_with fail
    (with_reducible refine (KN.out _).mono ?_)
    rintro e w1 ⟨rfl, hb1⟩
    have HB1 := Lib.hid hb1
    clear hb1
    go_wp2_with fail
    (with_reducible refine (CY.out _ HB1.out).mono ?_)
    rintro e w2 ⟨⟨u, rfl, hu⟩, hb2⟩
    obtain ⟨A2, c2, rfl, hc2, _⟩ := hu.form
    have HU := Lib.hid hu
    have HB2 := Lib.hid (HB1.out.trans (hb2.mono HB1.out.size))
    clear hu hb2 d1 d1' d2 d2' CY KN
    obtain ⟨n, hn⟩ : ∃ n, n = R.length := ⟨_, rfl⟩
    rw [← hn] at HU ⊢
    have HN := Lib.hid hn
    have bn : (n : Int) ≤ 41 := by have := HRL.out; omega
    clear hn
    have HL2 := Lib.hid ((HL.out.below HB2.out).more HB2.out.size)
    have hsz2 : N + N ≤ maxLen := by have := HLE.out; unfold maxLen; omega
    go_wp2_with (first
      | (at_builtin; refine wpList_push_eds _ rfl _ _ _ rfl w2.heap.size 35 j0 _ 8 Try.underlying22 hj0 hj1 hj2 hj3 rfl (.slice none 0 0) [] rfl ⟨rfl, .inl ⟨rfl, rfl⟩⟩ _ w2.heap.size xl rfl HL2.out (by have := HLE.out; have := HNM.out; simp only [List.length_nil, maxLen]; omega) (by have := HLE.out; have := HNM.out; simp only [List.length_nil]; omega) (Nat.le_refl _) ?_; intro v5 w5 hown5 ht5; rw [List.nil_append] at hown5
         have HB5 := Lib.hid ht5.all
         have HO5 := Lib.hid hown5
         have HL5 := Lib.hid ((HL2.out.below HB5.out).more HB5.out.size)
         clear hown5 ht5)
      | (at_builtin; refine wpList_push_eds _ rfl _ _ _ rfl w2.heap.size 35 j0 _ 8 Try.underlying22 hj0 hj1 hj2 hj3 rfl v5 xl rfl HO5.out _ w5.heap.size xl rfl HL5.out (by have := HLE.out; have := HNM.out; unfold maxLen; omega) (by have := HLE.out; have := HNM.out; omega) HB5.out.size ?_; intro v6 w6 hown6 ht6
         have HB6 := Lib.hid (HB5.out.trans (ht6.below (fun x hx => (HO5.out.lt x hx).1) HB5.out.size))
         have HO6 := Lib.hid hown6
         clear hown6 ht6 HL5 HO5 HB5 HL2))
    go_wp2
    go_loopw [9, 10] (fun st si wr => ∃ (j : Nat) (x : Int) (g : Option Addr) (ln cp : Nat), st = .slice g ln cp ∧ j ≤ N ∧ x + 1 = (j : Int) ∧ si = .int .i64 x ∧ Hid (wr.ownsRow w6.heap.size 35 2 st (xl.drop j).reverse.length ((xl.drop j).reverse.flatMap cEd)) ∧ Hid (Below w6.heap.size w6 wr)) (fun _ si _ => (intOf si + 1).toNat)
    case atStart => exact ⟨N, (N : Int) - 1, none, 0, 0, rfl, Nat.le_refl _, by omega, rfl, Lib.hid (by rw [List.drop_of_length_le (by have := HNM.out; omega)]; exact ⟨rfl, .inl ⟨rfl, rfl⟩⟩), Lib.hid (Below.refl _ _)⟩
    case round =>
      obtain ⟨j, x, gr, lr, cr, rfl, hj, hx, rfl, HO, HW⟩ := hrel
      obtain ⟨sr, hsr⟩ : ∃ sr, sr = Value.slice gr lr cr := ⟨_, rfl⟩
      rw [← hsr] at HO
      obtain ⟨w7, rfl⟩ : ∃ w7, w7 = wr := ⟨wr, rfl⟩
      by_cases h0 : 0 < j
      · obtain ⟨i, rfl⟩ : ∃ i, j = i + 1 := ⟨j - 1, by omega⟩
        obtain rfl : x = (i : Int) := by omega
        have d1 : decide ((0 : Int) ≤ (i : Int)) = true := by simp
        have bi : (i : Int) ≤ 30 := by omega
        have hiN : i < N := by omega
        obtain ⟨e, he⟩ : ∃ e, xl[i]? = some e := ⟨_, List.getElem?_eq_getElem (by have := HNM.out; omega)⟩
        obtain ⟨ge, oe, hA, hge, hcell⟩ := HL.out.at_ he
        subst hA
        have hc4 : ∀ p : Addr, p.block < w.heap.size → w7.cell? p = w.cell? p := fun p hp => ((HB2.out.trans ((HB6.out.trans (HW.out.mono HB6.out.size)).mono HB2.out.size)).cell hp)
        have q1 : w7.cell? ⟨ge, oe + i * 2, none⟩ = some (.int .u32 e.a) := by rw [hc4 _ hge]; simpa using hcell 0 _ rfl
        have q2 : w7.cell? ⟨ge, oe + i * 2 + 1, none⟩ = some (.int .u32 e.b) := by rw [hc4 _ hge]; simpa using hcell 1 _ rfl
        have ht : (xl.drop i).reverse = (xl.drop (i + 1)).reverse ++ [e] := by
          have h1 : i < xl.length := by have := HNM.out; omega
          have h2 : xl[i] = e := by rw [List.getElem?_eq_getElem h1] at he; injection he
          rw [List.drop_eq_getElem_cons h1, h2, List.reverse_cons]
        have HT := Lib.hid ht
        have HD := Lib.hid (show (xl.drop (i + 1)).reverse.length ≤ 30 by rw [List.length_reverse, List.length_drop]; have := HNM.out; have := HLE.out; omega)
        have HIN := Lib.hid hiN
        obtain ⟨ea, eb⟩ := e
        clear he hcell hc4 ht hj hx h0
        go_wp2_with (at_builtin; refine wpList_push_ss (F := cEd) (sz := 2) _ rfl _ _ _ rfl w6.heap.size 35 j0 _ 8 Try.underlying22 hj0 hj1 hj2 hj3 rfl (by decide) cEd_len cEd_one _ (xl.drop (i + 1)).reverse hsr.symm (own_below HO.out (new_ (Below.refl _ _) (.cells #[.int .u32 ea, .int .u32 eb] 35))) w7.heap.size ⟨ea, eb⟩ 35 rfl (Box.new w7 _ _) (by have := HD.out; unfold maxLen; omega) (by have := HD.out; omega) (by have := HW.out.size; simp; omega) ?_; intro v9 w9 hown ht9)
        have tt := (RowTo.of_below (new_ (Below.refl w7.heap.size w7) (.cells #[.int .u32 ea, .int .u32 eb] 35)) sr).trans ht9
        have HW9 := Lib.hid (HW.out.trans (tt.below (fun x hx => (HO.out.lt x hx).1) HW.out.size))
        obtain ⟨g9, c9, rfl, _⟩ := hown.form (by simp)
        have HO9 := Lib.hid hown
        clear hown ht9 tt
        go_wp2
        go_roundw
        case rel => exact ⟨i, (i : Int) - 1, some ⟨g9, 0, none⟩, _, c9, rfl, by have := HIN.out; omega, by omega, rfl, by rw [HT.out]; exact HO9, HW9⟩
        case measure => simp [intOf]
      · obtain rfl : j = 0 := by omega
        obtain rfl : x = -1 := by omega
        rw [List.drop_zero] at HO
        subst hsr
        have H6L := Lib.hid (show (xl ++ xl).length ≤ 60 ∧ xl.reverse.length ≤ 30 by rw [List.length_append, List.length_reverse]; have := HNM.out; have := HLE.out; omega)
        have HO7 := Lib.hid (own_below HO6.out HW.out)
        have C2 := Lib.hid (CY2.out w7 v6 (xl ++ xl) (SS.of_own cEd_len HO7.out) (fun e he => BL.out e (by simpa using he)) (by have := H6L.out; omega))
        rw [HR2.out.1] at C2
        clear hj hx h0
        go_wp2_with fail
        (with_reducible refine (C2.out).mono ?_)
        rintro e w8 ⟨⟨v8, rfl, hv8⟩, hb8⟩
        have HB8 := Lib.hid (HW.out.trans (hb8.mono HW.out.size))
        have HUx := Lib.hid (fun (W : World) (hb : Below w6.heap.size w6 W) => (HU.out.below (HB6.out.trans (hb.mono HB6.out.size))).more (Nat.le_trans HB6.out.size hb.size))
        have CW := Lib.hid (words_any w8 w8.heap.size v8 _ R R hv8 (HUx.out _ HB8.out) (by have := HRL.out; omega) (by have := HRL.out; omega))
        rw [decide_eq_true rfl] at CW
        have HO8 := Lib.hid (own_below HO.out hb8)
        have HP8 := Lib.hid (own_below HO7.out hb8)
        clear hv8 hb8
        go_wp2_with fail
        (with_reducible refine (CW.out).mono ?_)
        rintro e w9 ⟨rfl, hb9⟩
        have HB9 := Lib.hid (HB8.out.trans (hb9.mono HB8.out.size))
        have HO9 := Lib.hid (own_below HO8.out hb9)
        have HP9 := Lib.hid (own_below HP8.out hb9)
        have C3 := Lib.hid (CY2.out w9 _ xl.reverse (SS.of_own cEd_len HO9.out) (fun e he => BL.out e (by simpa using he)) (by have := H6L.out; omega))
        rw [HR2.out.2.1] at C3
        clear hb9
        go_wp2_with fail
        (with_reducible refine (C3.out).mono ?_)
        rintro e wa ⟨⟨va, rfl, hva⟩, hba⟩
        have HBa := Lib.hid (HB9.out.trans (hba.mono HB9.out.size))
        have CX := Lib.hid (words_any wa wa.heap.size va _ R R hva (HUx.out _ HBa.out) (by have := HRL.out; omega) (by have := HRL.out; omega))
        rw [decide_eq_true rfl] at CX
        have HPa := Lib.hid (own_below HP9.out hba)
        clear hva hba
        go_wp2_with fail
        (with_reducible refine (CX.out).mono ?_)
        rintro e wb ⟨rfl, hbb⟩
        have HBb := Lib.hid (HBa.out.trans (hbb.mono HBa.out.size))
        have HPb := Lib.hid (own_below HPa.out hbb)
        have HMb := Lib.hid ((HM.out.below (HB2.out.trans ((HB6.out.trans (HBb.out.mono HB6.out.size)).mono HB2.out.size))).more (Nat.le_trans HB2.out.size (Nat.le_trans HB6.out.size HBb.out.size)))
        clear hbb
        by_cases h0 : n = 0
        · subst h0
          go_wp2_with (at_builtin; refine wpList_push_eds _ rfl _ _ _ rfl w2.heap.size 35 j0 _ 8 Try.underlying22 hj0 hj1 hj2 hj3 rfl v6 (xl ++ xl) rfl HPb.out _ wb.heap.size xmore rfl HMb.out (by have := HLE.out; have := HNM.out; have := H6L.out; unfold maxLen; omega) (by have := HLE.out; have := HNM.out; have := H6L.out; omega) (Nat.le_trans HB6.out.size HBb.out.size) ?_; intro vc wc hownc htc)
          have HBc := Lib.hid ((HB6.out.trans (HBb.out.mono HB6.out.size)).trans (htc.below (fun x hx => (HPb.out.lt x hx).1) (Nat.le_trans HB6.out.size HBb.out.size)))
          have C4 := Lib.hid (CY2.out wc vc (xl ++ xl ++ xmore) (SS.of_own cEd_len hownc) (fun e he => by
            rcases List.mem_append.1 he with h | h
            · exact BL.out e (by simpa using h)
            · exact BM.out e h) (by have := HLE.out; have := HNM.out; have := H6L.out; rw [List.length_append]; omega))
          clear hownc htc
          go_wp2
          go_ret
          exact ⟨rfl, HB2.out.trans (HBc.out.mono HB2.out.size)⟩
        · have d0 : decide ((n : Int) = 0) = false := by simp; omega
          have d0' : ((n : Int) == 0) = false := by simp; omega
          have hne := HR2.out.2.2 (by intro e; have := HN.out; rw [e] at this; exact h0 this)
          have h00 : ¬ n = 0 := h0
          clear h0
          go_wp2_with (at_builtin; refine wpList_push_eds _ rfl _ _ _ rfl w2.heap.size 35 j0 _ 8 Try.underlying22 hj0 hj1 hj2 hj3 rfl v6 (xl ++ xl) rfl HPb.out _ wb.heap.size xmore rfl HMb.out (by have := HLE.out; have := HNM.out; have := H6L.out; unfold maxLen; omega) (by have := HLE.out; have := HNM.out; have := H6L.out; omega) (Nat.le_trans HB6.out.size HBb.out.size) ?_; intro vc wc hownc htc)
          have HBc := Lib.hid ((HB6.out.trans (HBb.out.mono HB6.out.size)).trans (htc.below (fun x hx => (HPb.out.lt x hx).1) (Nat.le_trans HB6.out.size HBb.out.size)))
          have C4 := Lib.hid (CY2.out wc vc (xl ++ xl ++ xmore) (SS.of_own cEd_len hownc) (fun e he => by
            rcases List.mem_append.1 he with h | h
            · exact BL.out e (by simpa using h)
            · exact BM.out e h) (by have := HLE.out; have := HNM.out; have := H6L.out; rw [List.length_append]; omega))
          clear hownc htc
          go_wp2_with fail
          (with_reducible refine (C4.out).mono ?_)
          rintro e wd ⟨⟨vd, rfl, hvd⟩, hbd⟩
          obtain ⟨Ad, cd, rfl, _, _⟩ := hvd.form
          obtain ⟨L, hL⟩ : ∃ L, L = (cyc (xl ++ xl ++ xmore) fr).length := ⟨_, rfl⟩
          rw [← hL]
          have d5 : decide ((0 : Int) < (L : Int)) = true := by
            have : 0 < L := by rw [hL]; cases h : cyc (xl ++ xl ++ xmore) fr with
              | nil => exact absurd h hne
              | cons a b => simp
            simp; omega
          have d5' : decide (0 < L) = true := by simpa using d5
          clear hvd hL hne
          go_wp2
          go_ret
          exact ⟨rfl, HB2.out.trans ((HBc.out.trans (hbd.mono HBc.out.size)).mono HB2.out.size)⟩


set_option maxRecDepth 100000 in
theorem lifted (os : Os) (started : os.Started) (H : Type) (enc : TypeId × Value → H) :
    ReturnsInHanded {} Try.checked os 7 .any (Rows.knotMoreSpec.pre6 enc Try.prog Try.f7 Rows.knotMoreRow.domain false) (Rows.knotMoreSpec.post enc Try.prog Try.f7 false true false false) := by
  refine returnsInHanded_of_change (C := Try.checked) own started (by kernel_rfl) Try.func7
    (ChangeSpec.witness6 (enc := enc) (C := Try.checked) false ⟨#[], #[.slice none 0 0, .slice none 0 0, .int .u32 0], []⟩ 8 (by kernel_rfl) (by kernel_rfl) (by kernel_rfl) (by kernel_rfl)) ?_
  intro W base args ds gs before hval0 hW hcnd _
  have hval : ∀ (j : Nat) t v, Try.f7.params[j]? = some t → args[j]? = some v → Value.okWide Try.prog W .any base t v := hval0
  have hW' := hW
  obtain ⟨p, q, hA0, hV, rfl, hfz, hnd⟩ := hW
  have hA1 : DataW.TrodAll enc Try.prog W 0 (fun _ => true) true Try.f7.params.toList args.toList ds p := hA0
  have hA := hA1
  rw [Try.params7] at hA hval
  obtain ⟨v0, vs0, d0, ds0, p0, q0, hargs, rfl, rfl, h0, r0⟩ := trodAll_cons hA
  obtain ⟨v1, vs1, d1, ds1, p1, q1, rfl, rfl, rfl, h1, r1⟩ := trodAll_cons r0
  obtain ⟨v2, vs2, d2, ds2, p2, q2, rfl, rfl, rfl, h2, r2⟩ := trodAll_cons r1
  obtain ⟨rfl, rfl, rfl⟩ := trodAll_nil r2
  obtain rfl : args = #[v0, v1, v2] := by cases args; simp_all
  obtain ⟨rfl, rfl⟩ := trodVars_none hV
  obtain ⟨xl, i0, wf0⟩ := Knot.open_eds (hval 0 22 v0 rfl rfl) h0
  obtain ⟨xmore, i1, wf1⟩ := Knot.open_eds (hval 1 22 v1 rfl rfl) h1
  obtain ⟨fr, rfl, rfl, rfl, wf2⟩ := open_int Try.underlying23 (hval 2 23 v2 rfl rfl) h2
  clear hA0 hval0
  refine (walk W v0 xl i0 wf0 v1 xmore i1 wf1 fr (bounds_u32 wf2)).mono fun e W' ⟨he, bel⟩ => ?_
  subst he
  exact ⟨_, rfl, _, _, _, [], _, [], hW', trodAll_mk1 (shut_bool Try.underlying4 _), args_again laidOut bel (by kernel_rfl) hA1, rfl, bel.frame _, fun h => by cases h⟩

theorem over : Rows.knotMoreRow.holds Try.pinned (OpenSpec.ofChange Rows.knotMoreSpec) :=
  OpenClaim.holds_of_wide 7 Try.f7 rfl rfl rfl rfl rfl rfl rfl ⟨rfl, rfl, rfl, rfl, rfl⟩ rfl rfl rfl rfl rfl (by kernel_rfl) Try.func7 (by kernel_rfl)
    (of_decide_eq_true (by kernel_rfl)) (by unfold Func.isWrapper; first | (rw [if_pos (by decide +kernel)]; kernel_rfl) | (rw [if_neg (by decide +kernel)]; exact ⟨rfl, rfl⟩))
    (fun os started H enc _ => lifted os started H enc)

theorem proved : Rows.KnotMoreSaid := over
end Go.Proofs.Yteldfoplhcnljaa.LKnotMore
