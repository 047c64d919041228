/- The law manciplelaw14.KnotVictims returns true whatever it is called with, and what it was called with reads as it did. No condition. -/
import Derived.Test.YteldfoplhcnljaaLaw
import Derived.Test.YteldfoplhcnljaaKn8
import Derived.Deep.AppendLies
namespace Go.Proofs.Yteldfoplhcnljaa.LKnotVictims
open Go.ChangeShapes Go.WideShapes Go.ChangeAt Go.RowKit Go.IntWalk Go.Proofs.Mem Law
set_option linter.unusedVariables false
open Go.Proofs.Yteldfoplhcnljaa.Knot Go.Proofs.Yteldfoplhcnljaa.Srt Go.Proofs.Ring
set_option maxRecDepth 100000 in
set_option maxHeartbeats 16000000 in
theorem walk (w : World) (l : Value) (xl : List Knot.Ed) (hl : SS Knot.cEd 2 w w.heap.size l xl) (bl : ∀ o ∈ xl, Knot.Ed.Ok o) (fr : Int) (hfr : 0 ≤ fr ∧ fr ≤ 4294967295) :
    Calls Try.prog 6 #[l, .int .u32 fr] w fun e w' => e = .returned (.bool true) ∧ Below w.heap.size w w' := by
  obtain ⟨A, c, rfl, hlc, hcm⟩ := hl.form
  have HL := Lib.hid hl
  have BL := Lib.hid bl
  have KN := Lib.hid (fun W => known_any W)
  by_cases hlen : 40 < xl.length
  · have d1 : decide (40 < (xl.length : Int)) = true := decide_eq_true (by omega)
    have d1' : decide (40 < xl.length) = true := decide_eq_true hlen
    clear hl bl
    go_enter Try.func6, Try.ntmps6
    go_wp2_with fail
    (with_reducible refine (KN.out _).mono ?_)
    rintro e w1 ⟨rfl, hb1⟩
    go_wp2
    go_ret
    exact ⟨rfl, hb1⟩
  · have d1 : decide (40 < (xl.length : Int)) = false := decide_eq_false (by omega)
    have d1' : decide (40 < xl.length) = false := decide_eq_false hlen
    have HFR := Lib.hid hfr
    obtain ⟨j0, hj0, hj1, hj2, hj3⟩ := info_parts ed_info
    obtain ⟨N, hN⟩ : ∃ N, N = xl.length := ⟨_, rfl⟩
    have HLE := Lib.hid (show xl.length ≤ 40 ∧ N = xl.length by omega)
    obtain ⟨R, hR⟩ : ∃ R, R = cyc xl fr := ⟨_, rfl⟩
    have CY := Lib.hid (fun (W : World) (hb : Below w.heap.size w W) => cycle_any W _ xl fr ((HL.out.below hb).more hb.size) BL.out (by have := HLE.out; omega) HFR.out)
    rw [← hR] at CY
    have CY2 := Lib.hid (fun (W : World) (u : Value) (ys : List Ed) (hu : SS cEd 2 W W.heap.size u ys) (hok : ∀ e ∈ ys, e.Ok) (hn : ys.length ≤ 40) => cycle_any W u ys fr hu hok (by omega) HFR.out)
    have HTI := Lib.hid (show decide (top R ∈ R) = decide (0 < R.length) by rw [hR]; exact top_in BL.out HFR.out)
    have HWN := Lib.hid (show R ≠ [] → cyc (wout xl (top R)) fr ≠ R by rw [hR]; exact wout_ne BL.out HFR.out)
    have HPR := Lib.hid (show ∀ x ∈ R, 0 ≤ x by rw [hR]; exact fun x hx => (cyc_u32 BL.out HFR.out x hx).1)
    have HRL := Lib.hid (show R.length ≤ 41 by rw [hR]; have := cyc_len xl fr; have := HLE.out; omega)
    rw [← hN] at d1 d1' CY ⊢
    have bN : (N : Int) ≤ 40 := by omega
    clear hl bl hlc hcm hlen hR hN
    go_enter Try.func6, Try.ntmps6
    go_wp2_with fail
    (with_reducible refine (KN.out _).mono ?_)
    rintro e w1 ⟨rfl, hb1⟩
    have HB1 := Lib.hid hb1
    clear hb1
    go_wp2_with fail
    (with_reducible refine (CY.out _ HB1.out).mono ?_)
    rintro e w2 ⟨⟨u, rfl, hu⟩, hb2⟩
    have CV := Lib.hid (victim_any w2 _ _ R hu (by have := HRL.out; omega) HPR.out)
    obtain ⟨A2, c2, rfl, hc2, _⟩ := hu.form
    have HU := Lib.hid hu
    have HB2 := Lib.hid (HB1.out.trans (hb2.mono HB1.out.size))
    clear hu hb2 d1 d1' CY KN
    obtain ⟨n, hn⟩ : ∃ n, n = R.length := ⟨_, rfl⟩
    rw [← hn] at CV HTI ⊢
    have HN := Lib.hid hn
    have bn : (n : Int) ≤ 41 := by have := HRL.out; omega
    obtain ⟨V, hV⟩ : ∃ V, V = top R := ⟨_, rfl⟩
    have HV := Lib.hid hV
    rw [← hV] at CV HTI HWN
    obtain ⟨q, hq⟩ : ∃ q, decide (0 < n) = q := ⟨_, rfl⟩
    have hq2 : decide ((0 : Int) < (n : Int)) = q := by rw [← hq]; simp
    have HQ := Lib.hid hq
    rw [hq] at CV HTI
    clear hn hV
    go_wp2_with fail
    (with_reducible refine (CV.out).mono ?_)
    rintro e w3 ⟨rfl, rfl⟩
    go_wp2
    go_loopw [8, 9] (fun sn si wr => ∃ i : Nat, i ≤ n ∧ sn = .bool (decide (V ∈ R.take i)) ∧ si = .int .i64 i ∧ ∃ d, wr = w2.drewN d) (fun _ si _ => n - (intOf si).toNat)
    case atStart => exact ⟨0, Nat.zero_le _, by simp, rfl, 0, rfl⟩
    case round =>
      obtain ⟨i, hi, rfl, rfl, d, hd⟩ := hrel
      obtain ⟨w4, rfl⟩ : ∃ w4, w4 = wr := ⟨wr, rfl⟩
      have bi : (i : Int) ≤ 41 := by omega
      by_cases hin : i < n
      · have d3 : decide ((i : Int) < (n : Int)) = true := by simp; omega
        have d3' : decide (i < n) = true := by simp; omega
        obtain ⟨i', hi'⟩ : ∃ i', i' = i + 1 := ⟨_, rfl⟩
        have si : (i : Int) + 1 = (i' : Int) := by omega
        have hU := HU.out
        rw [← HN.out] at hU
        obtain ⟨g', o', eq, _, q3⟩ := hU.index i hin
        subst eq
        obtain ⟨y, hy⟩ : ∃ y, R.getD i 0 = y := ⟨_, rfl⟩
        rw [hy] at q3
        have e6 : w4.cell? ⟨g', o' + i, none⟩ = some (.int .u32 y) := by rw [hd]; exact q3
        have e6' := fun d' => (show (w4.drewN d').cell? ⟨g', o' + i, none⟩ = some (.int .u32 y) from e6)
        have hle : y ≤ V := by rw [HV.out]; exact top_ge (by rw [← hy]; exact getD_mem (by have := HN.out; omega))
        have d4 : decide (V < y) = false := decide_eq_false (by omega)
        have d4' : decide (y > V) = false := d4
        obtain ⟨p, hp⟩ : ∃ p, decide (V ∈ R.take i) = p := ⟨_, rfl⟩
        rw [hp]
        obtain ⟨z, hz⟩ : ∃ z, decide (y = V) = z := ⟨_, rfl⟩
        have hz2 : (y == V) = z := by rw [← hz]; cases h : (y == V) <;> simp_all
        have HP := Lib.hid (show decide (V ∈ R.take i') = (p || z) by
          rw [← hp, ← hz, hi', List.take_add_one]
          have h1 : R[i]? = some y := by
            have h2 : i < R.length := by have := HN.out; omega
            rw [List.getElem?_eq_getElem h2, ← hy]
            simp [List.getD_eq_getElem?_getD, h2]
          rw [h1]
          simp [eq_comm])
        have HI := Lib.hid (⟨hi', hin⟩ : i' = i + 1 ∧ i < n)
        have HD := Lib.hid hd
        clear hU q3 hp hi' hi hy hd hle
        cases p <;> cases z <;> (go_wp2; go_roundw; (case rel => exact ⟨i', by have := HI.out; omega, by rw [HP.out]; rfl, rfl, d, HD.out⟩); (case measure => simp [intOf]; have := HI.out; omega))
      · have d3 : decide ((i : Int) < (n : Int)) = false := by simp; omega
        have d3' : decide (i < n) = false := by simp; omega
        obtain rfl : i = n := by omega
        have hts : R.take i = R := List.take_of_length_le (by have := HN.out; omega)
        rw [hts, HTI.out]
        have HW4 := Lib.hid (show Below w2.heap.size w2 w4 by rw [hd]; exact below_drewN (Below.refl _ _) d)
        clear hd hts hi hin
        go_wp2
        go_loopw [10, 11] (fun sr si wr => ∃ (k : Nat) (g : Option Addr) (ln cp : Nat), sr = .slice g ln cp ∧ k ≤ N ∧ si = .int .i64 k ∧ Hid (wr.ownsRow w2.heap.size 35 2 sr (wout (xl.take k) V).length ((wout (xl.take k) V).flatMap cEd)) ∧ Hid (Below w2.heap.size w2 wr)) (fun _ si _ => N - (intOf si).toNat)
        case atStart => exact ⟨0, none, 0, 0, rfl, Nat.zero_le _, rfl, Lib.hid ⟨rfl, .inl ⟨rfl, rfl⟩⟩, HW4⟩
        case round =>
          obtain ⟨k, gr, lr, cr, rfl, hk, rfl, HO, HW⟩ := hrel
          obtain ⟨sr, hsr⟩ : ∃ sr, sr = Value.slice gr lr cr := ⟨_, rfl⟩
          rw [← hsr] at HO
          obtain ⟨w5, rfl⟩ : ∃ w5, w5 = wr := ⟨wr, rfl⟩
          have bk : (k : Int) ≤ 40 := by omega
          by_cases hkN : k < N
          · have d2 : decide ((k : Int) < (N : Int)) = true := by simp; omega
            have d2' : decide (k < N) = true := by simp; omega
            obtain ⟨k', hk'⟩ : ∃ k', k' = k + 1 := ⟨_, rfl⟩
            have sk : (k : Int) + 1 = (k' : Int) := by omega
            obtain ⟨e, he⟩ : ∃ e, xl[k]? = some e := ⟨_, List.getElem?_eq_getElem (by have := HLE.out; omega)⟩
            obtain ⟨ge, oe, hA, hge, hcell⟩ := HL.out.at_ he
            subst hA
            have hc4 : ∀ p : Addr, p.block < w.heap.size → w5.cell? p = w.cell? p := fun p hp => ((HB2.out.trans (HW.out.mono HB2.out.size)).cell hp)
            have q1 : w5.cell? ⟨ge, oe + k * 2, none⟩ = some (.int .u32 e.a) := by rw [hc4 _ hge]; simpa using hcell 0 _ rfl
            have q2 : w5.cell? ⟨ge, oe + k * 2 + 1, none⟩ = some (.int .u32 e.b) := by rw [hc4 _ hge]; simpa using hcell 1 _ rfl
            have e1 := fun d => (show (w5.drewN d).cell? ⟨ge, oe + k * 2, none⟩ = _ from q1)
            have e2 := fun d => (show (w5.drewN d).cell? ⟨ge, oe + k * 2 + 1, none⟩ = _ from q2)
            have HKK := Lib.hid (⟨hk', hkN⟩ : k' = k + 1 ∧ k < N)
            have ht := wout_take he V
            rw [← hk'] at ht
            obtain ⟨ea, eb⟩ := e
            obtain ⟨za, hza⟩ : ∃ z, decide (ea = V) = z := ⟨_, rfl⟩
            have hza2 : (ea == V) = za := by rw [← hza]; cases h : (ea == V) <;> simp_all
            obtain ⟨zb, hzb⟩ : ∃ z, decide (eb = V) = z := ⟨_, rfl⟩
            have hzb2 : (eb == V) = zb := by rw [← hzb]; cases h : (eb == V) <;> simp_all
            have hza3 : (ea != V) = !za := by rw [← hza2]; rfl
            have hzb3 : (eb != V) = !zb := by rw [← hzb2]; rfl
            have HA := Lib.hid (⟨hza, hzb⟩ : decide (ea = V) = za ∧ decide (eb = V) = zb)
            have HT := Lib.hid ht
            clear he hcell hc4 hk' hk ht
            cases za with
            | true =>
              have hT := HT.out
              rw [if_neg (fun h => h.1 (of_decide_eq_true HA.out.1))] at hT
              have HO5 := Lib.hid (show w5.ownsRow w2.heap.size 35 2 sr (wout (xl.take k') V).length ((wout (xl.take k') V).flatMap cEd) by rw [hT]; exact HO.out)
              clear hT
              rw [Bool.not_true] at hza3
              go_wp2
              go_roundw
              case rel => exact ⟨k', gr, lr, cr, rfl, by have := HKK.out; omega, rfl, by rw [← hsr]; exact HO5, HW⟩
              case measure => simp [intOf]; have := HKK.out; omega
            | false =>
              rw [Bool.not_false] at hza3
              cases zb with
              | true =>
                have hT := HT.out
                rw [if_neg (fun h => h.2 (of_decide_eq_true HA.out.2))] at hT
                have HO5 := Lib.hid (show w5.ownsRow w2.heap.size 35 2 sr (wout (xl.take k') V).length ((wout (xl.take k') V).flatMap cEd) by rw [hT]; exact HO.out)
                clear hT
                rw [Bool.not_true] at hzb3
                go_wp2
                go_roundw
                case rel => exact ⟨k', gr, lr, cr, rfl, by have := HKK.out; omega, rfl, by rw [← hsr]; exact HO5, HW⟩
                case measure => simp [intOf]; have := HKK.out; omega
              | false =>
                have hT := HT.out
                rw [if_pos ⟨of_decide_eq_false HA.out.1, of_decide_eq_false HA.out.2⟩] at hT
                have HT2 := Lib.hid hT
                have HM := Lib.hid (show (wout (xl.take k) V).length ≤ 40 by have h1 := wout_len (xl.take k) V; have h2 := HKK.out; rw [List.length_take] at h1; omega)
                clear hT
                rw [Bool.not_false] at hzb3
                go_wp2_with (at_builtin; refine wpList_push_ss (F := cEd) (sz := 2) _ rfl _ _ _ rfl w2.heap.size 35 j0 _ 8 Try.underlying22 hj0 hj1 hj2 hj3 rfl (by decide) cEd_len cEd_one _ (wout (xl.take k) V) hsr.symm (own_below HO.out (new_ (Below.refl _ _) (.cells #[.int .u32 ea, .int .u32 eb] 35))) w5.heap.size ⟨ea, eb⟩ 35 rfl (Box.new w5 _ _) (by have := HM.out; unfold maxLen; omega) (by have := HM.out; omega) (by have := HW.out.size; simp; omega) ?_; intro v9 w9 hown ht9)
                have tt := (RowTo.of_below (new_ (Below.refl w5.heap.size w5) (.cells #[.int .u32 ea, .int .u32 eb] 35)) sr).trans ht9
                have HW9 := Lib.hid (HW.out.trans (tt.below (fun x hx => (HO.out.lt x hx).1) HW.out.size))
                obtain ⟨g9, c9, rfl, _⟩ := hown.form (by simp)
                have HO9 := Lib.hid hown
                clear hown ht9 tt
                go_wp2
                go_roundw
                case rel => exact ⟨k', some ⟨g9, 0, none⟩, _, c9, rfl, by have := HKK.out; omega, rfl, by rw [HT2.out]; exact HO9, HW9⟩
                case measure => simp [intOf]; have := HKK.out; omega
          · have d2 : decide ((k : Int) < (N : Int)) = false := by simp; omega
            have d2' : decide (k < N) = false := by simp; omega
            obtain rfl : k = N := by omega
            have hts : xl.take k = xl := List.take_of_length_le (by have := HLE.out; omega)
            rw [hts] at HO
            subst hsr
            have C2 := Lib.hid (CY2.out w5 _ (wout xl V) (SS.of_own cEd_len HO.out) (wout_ok BL.out V) (by have := wout_len xl V; have := HLE.out; omega))
            clear hts hkN hk
            go_wp2_with fail
            (with_reducible refine (C2.out).mono ?_)
            rintro e w6 ⟨⟨v6, rfl, hv6⟩, hb6⟩
            have HB6 := Lib.hid (HW.out.trans (hb6.mono HW.out.size))
            have CW := Lib.hid (words_any w6 w6.heap.size v6 _ (cyc (wout xl V) fr) R hv6 (by have h := HU.out; exact (h.below HB6.out).more HB6.out.size) (by have := cyc_len (wout xl V) fr; have := wout_len xl V; have := HLE.out; omega) (by have := HRL.out; omega))
            rw [← HN.out] at CW
            clear hv6 hb6
            by_cases h0 : i = 0
            · have eq : q = false := by rw [← HQ.out]; simp [h0]
              subst eq
              go_wp2
              go_ret
              exact ⟨rfl, HB2.out.trans (HB6.out.mono HB2.out.size)⟩
            · have eq : q = true := by rw [← HQ.out]; simp; omega
              subst eq
              rw [decide_eq_false (HWN.out (by intro e; have := HN.out; rw [e] at this; exact h0 this))] at CW
              go_wp2_with fail
              (with_reducible refine (CW.out).mono ?_)
              rintro e w7 ⟨rfl, hb7⟩
              go_wp2
              go_ret
              exact ⟨rfl, HB2.out.trans ((HB6.out.trans (hb7.mono HB6.out.size)).mono HB2.out.size)⟩


set_option maxRecDepth 100000 in
theorem lifted (os : Os) (started : os.Started) (H : Type) (enc : TypeId × Value → H) :
    ReturnsInHanded {} Try.checked os 6 .any (Rows.knotVictimsSpec.pre6 enc Try.prog Try.f6 Rows.knotVictimsRow.domain false) (Rows.knotVictimsSpec.post enc Try.prog Try.f6 false true false false) := by
  refine returnsInHanded_of_change (C := Try.checked) own started (by kernel_rfl) Try.func6
    (ChangeSpec.witness6 (enc := enc) (C := Try.checked) false ⟨#[], #[.slice none 0 0, .int .u32 0], []⟩ 8 (by kernel_rfl) (by kernel_rfl) (by kernel_rfl) (by kernel_rfl)) ?_
  intro W base args ds gs before hval0 hW hcnd _
  have hval : ∀ (j : Nat) t v, Try.f6.params[j]? = some t → args[j]? = some v → Value.okWide Try.prog W .any base t v := hval0
  have hW' := hW
  obtain ⟨p, q, hA0, hV, rfl, hfz, hnd⟩ := hW
  have hA1 : DataW.TrodAll enc Try.prog W 0 (fun _ => true) true Try.f6.params.toList args.toList ds p := hA0
  have hA := hA1
  rw [Try.params6] at hA hval
  obtain ⟨v0, vs0, d0, ds0, p0, q0, hargs, rfl, rfl, h0, r0⟩ := trodAll_cons hA
  obtain ⟨v1, vs1, d1, ds1, p1, q1, rfl, rfl, rfl, h1, r1⟩ := trodAll_cons r0
  obtain ⟨rfl, rfl, rfl⟩ := trodAll_nil r1
  obtain rfl : args = #[v0, v1] := by cases args; simp_all
  obtain ⟨rfl, rfl⟩ := trodVars_none hV
  obtain ⟨xl, i0, wf0⟩ := Knot.open_eds (hval 0 22 v0 rfl rfl) h0
  obtain ⟨fr, rfl, rfl, rfl, wf1⟩ := open_int Try.underlying23 (hval 1 23 v1 rfl rfl) h1
  clear hA0 hval0
  refine (walk W v0 xl i0 wf0 fr (bounds_u32 wf1)).mono fun e W' ⟨he, bel⟩ => ?_
  subst he
  exact ⟨_, rfl, _, _, _, [], _, [], hW', trodAll_mk1 (shut_bool Try.underlying4 _), args_again laidOut bel (by kernel_rfl) hA1, rfl, bel.frame _, fun h => by cases h⟩

theorem over : Rows.knotVictimsRow.holds Try.pinned (OpenSpec.ofChange Rows.knotVictimsSpec) :=
  OpenClaim.holds_of_wide 6 Try.f6 rfl rfl rfl rfl rfl rfl rfl ⟨rfl, rfl, rfl, rfl, rfl⟩ rfl rfl rfl rfl rfl (by kernel_rfl) Try.func6 (by kernel_rfl)
    (of_decide_eq_true (by kernel_rfl)) (by unfold Func.isWrapper; first | (rw [if_pos (by decide +kernel)]; kernel_rfl) | (rw [if_neg (by decide +kernel)]; exact ⟨rfl, rfl⟩))
    (fun os started H enc _ => lifted os started H enc)

theorem proved : Rows.KnotVictimsSaid := over
end Go.Proofs.Yteldfoplhcnljaa.LKnotVictims
