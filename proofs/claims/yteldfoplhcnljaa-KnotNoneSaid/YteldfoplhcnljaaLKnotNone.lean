/- The law manciplelaw14.KnotNone returns true whatever it is called with, and what it was called with reads as it did. No condition. -/
import Derived.Test.YteldfoplhcnljaaLaw
import Derived.Test.YteldfoplhcnljaaKn7
namespace Go.Proofs.Yteldfoplhcnljaa.LKnotNone
open Go.ChangeShapes Go.WideShapes Go.ChangeAt Go.RowKit Go.IntWalk Go.Proofs.Mem Law
set_option linter.unusedVariables false
open Go.Proofs.Yteldfoplhcnljaa.Knot Go.Proofs.Yteldfoplhcnljaa.Srt Go.Proofs.Ring
set_option maxRecDepth 100000 in
set_option maxHeartbeats 16000000 in
theorem walk (w : World) (l : Value) (xl : List Knot.Ed) (hl : SS Knot.cEd 2 w w.heap.size l xl) (bl : ∀ o ∈ xl, Knot.Ed.Ok o) (fr : Int) (hfr : 0 ≤ fr ∧ fr ≤ 4294967295) :
    Calls Try.prog 5 #[l, .int .u32 fr] w fun e w' => e = .returned (.bool true) ∧ Below w.heap.size w w' := by
  obtain ⟨A, c, rfl, hlc, hcm⟩ := hl.form
  have HL := Lib.hid hl
  have BL := Lib.hid bl
  have KN := Lib.hid (fun W => known_any W)
  by_cases hlen : 40 < xl.length
  · have d1 : decide (40 < (xl.length : Int)) = true := decide_eq_true (by omega)
    have d1' : decide (40 < xl.length) = true := decide_eq_true hlen
    clear hl bl
    go_enter Try.func5, Try.ntmps5
    go_wp2_with fail
    (with_reducible refine (KN.out _).mono ?_)
    rintro e w1 ⟨rfl, hb1⟩
    go_wp2
    go_ret
    exact ⟨rfl, hb1⟩
  · have d1 : decide (40 < (xl.length : Int)) = false := decide_eq_false (by omega)
    have d1' : decide (40 < xl.length) = false := decide_eq_false hlen
    have HFR := Lib.hid hfr
    obtain ⟨j0, hj0, hj1, hj2, hj3⟩ := info_parts u32_info
    obtain ⟨N, hN⟩ : ∃ N, N = xl.length := ⟨_, rfl⟩
    have HLE := Lib.hid (show xl.length ≤ 40 ∧ N = xl.length by omega)
    obtain ⟨R, hR⟩ : ∃ R, R = cyc xl fr := ⟨_, rfl⟩
    have HR := Lib.hid hR
    have CY := Lib.hid (fun (W : World) (hb : Below w.heap.size w W) => cycle_any W _ xl fr ((HL.out.below hb).more hb.size) BL.out (by have := HLE.out; omega) HFR.out)
    rw [← hR] at CY
    have HRL := Lib.hid (show R.length ≤ 41 by rw [hR]; have := cyc_len xl fr; have := HLE.out; omega)
    rw [← hN] at d1 d1' CY ⊢
    have bN : (N : Int) ≤ 40 := by omega
    clear hl bl hlc hcm hlen hR hN
    go_enter Try.func5, Try.ntmps5
    go_wp2_with fail
    (with_reducible refine (KN.out _).mono ?_)
    rintro e w1 ⟨rfl, hb1⟩
    have HB1 := Lib.hid hb1
    clear hb1
    go_wp2_with fail
    (with_reducible refine (CY.out _ HB1.out).mono ?_)
    rintro e w2 ⟨⟨u, rfl, hu⟩, hb2⟩
    obtain ⟨A2, c2, rfl, hc2, _⟩ := hu.form
    have HB2 := Lib.hid (HB1.out.trans (hb2.mono HB1.out.size))
    clear hu hb2 d1 d1' CY KN
    obtain ⟨n, hn⟩ : ∃ n, n = R.length := ⟨_, rfl⟩
    rw [← hn]
    have HN := Lib.hid hn
    have bn : (n : Int) ≤ 41 := by have := HRL.out; omega
    clear hn
    have hrow : (w2.alloc (.cells #[.int .u32 fr] 23)).ownsRow w2.heap.size 23 1 (.slice (some ⟨w2.heap.size, 0, none⟩) 1 1) 1 (([fr] : List Int).map (.int .u32)) := ⟨rfl, .inr ⟨w2.heap.size, 1, _, rfl, Nat.le_refl _, heap_alloc_new w2 _, Nat.le_refl _, by decide, rfl, rfl⟩⟩
    have HRW := Lib.hid hrow
    have HBA := Lib.hid (new_ (Below.refl w2.heap.size w2) (.cells #[.int .u32 fr] 23))
    clear hrow
    go_wp2
    go_loopw [6, 7, 8] (fun sv sb si wr => ∃ (i g cp SL : Nat) (S : List Int) (bk : Bool), SL = S.length ∧ i ≤ SL ∧ SL ≤ 41 ∧ 0 < SL ∧ sv = .slice (some ⟨g, 0, none⟩) SL cp ∧ sb = .bool bk ∧ si = .int .i64 i ∧ Hid (Bf xl fr i 0 S bk) ∧ Hid (wr.ownsRow w2.heap.size 23 1 (.slice (some ⟨g, 0, none⟩) SL cp) SL (S.map (.int .u32))) ∧ Hid (Below w2.heap.size w2 wr)) (fun _ _ si _ => 50 - (intOf si).toNat)
    case atStart => exact ⟨0, w2.heap.size, 1, 1, [fr], false, rfl, Nat.zero_le _, by omega, by omega, rfl, rfl, rfl, Lib.hid (Bf.start _ _), HRW, HBA⟩
    case round =>
      obtain ⟨i, g, cp, SL, S, bk, hSL, hi, hS41, hS0, rfl, rfl, rfl, HBf, HO, HW⟩ := hrel
      obtain ⟨w3, rfl⟩ : ∃ w3, w3 = wr := ⟨wr, rfl⟩
      clear HRW HBA
      have bi : (i : Int) ≤ 41 := by omega
      have bSL : (SL : Int) ≤ 41 := by omega
      have HSL := Lib.hid (⟨hSL, hi, hS41, hS0⟩ : SL = S.length ∧ i ≤ SL ∧ SL ≤ 41 ∧ 0 < SL)
      clear hSL hi hS41 hS0
      by_cases hin : i < SL
      · have d1 : decide ((i : Int) < (SL : Int)) = true := by simp; omega
        have d1' : decide (i < SL) = true := by simp; omega
        obtain ⟨i', hi'⟩ : ∃ i', i' = i + 1 := ⟨_, rfl⟩
        have si : (i : Int) + 1 = (i' : Int) := by omega
        have HII := Lib.hid (⟨hi', hin, HSL.out.2.2.1⟩ : i' = i + 1 ∧ i < SL ∧ SL ≤ 41)
        clear hi'
        go_wp2
        go_loopw [6, 7, 9] (fun sv sb sk wr => ∃ (k g cp SL : Nat) (S : List Int) (bk : Bool), SL = S.length ∧ i < SL ∧ SL ≤ 41 ∧ k ≤ N ∧ sv = .slice (some ⟨g, 0, none⟩) SL cp ∧ sb = .bool bk ∧ sk = .int .i64 k ∧ Hid (Bf xl fr i k S bk) ∧ Hid (wr.ownsRow w2.heap.size 23 1 (.slice (some ⟨g, 0, none⟩) SL cp) SL (S.map (.int .u32))) ∧ Hid (Below w2.heap.size w2 wr)) (fun _ _ sk _ => N - (intOf sk).toNat)
        case atStart => exact ⟨0, g, cp, SL, S, bk, HSL.out.1, hin, HSL.out.2.2.1, Nat.zero_le _, rfl, rfl, rfl, HBf, HO, HW⟩
        case round =>
          obtain ⟨k, g, cp, SL, S, bk, hSL, hin, hS41, hk, rfl, rfl, rfl, HBf, HO, HW⟩ := hrel
          obtain ⟨w4, rfl⟩ : ∃ w4, w4 = wr := ⟨wr, rfl⟩
          have bSL : (SL : Int) ≤ 41 := by omega
          have HS4 := Lib.hid (⟨hSL, hin, hS41⟩ : SL = S.length ∧ i < SL ∧ SL ≤ 41)
          clear hS41
          by_cases hkN : k < N
          · have d2 : decide ((k : Int) < (N : Int)) = true := by simp; omega
            have d2' : decide (k < N) = true := by simp; omega
            have bk' : (k : Int) ≤ 40 := by omega
            obtain ⟨k', hk'⟩ : ∃ k', k' = k + 1 := ⟨_, rfl⟩
            have sk : (k : Int) + 1 = (k' : Int) := by omega
            obtain ⟨e, he⟩ : ∃ e, xl[k]? = some e := ⟨_, List.getElem?_eq_getElem (by have := HLE.out; omega)⟩
            obtain ⟨ge, oe, hA, hge, hcell⟩ := HL.out.at_ he
            subst hA
            have hc4 : ∀ p : Addr, p.block < w.heap.size → w4.cell? p = w.cell? p := fun p hp => ((HB2.out.trans (HW.out.mono HB2.out.size)).cell hp)
            have q1 : w4.cell? ⟨ge, oe + k * 2, none⟩ = some (.int .u32 e.a) := by rw [hc4 _ hge]; simpa using hcell 0 _ rfl
            have q2 : w4.cell? ⟨ge, oe + k * 2 + 1, none⟩ = some (.int .u32 e.b) := by rw [hc4 _ hge]; simpa using hcell 1 _ rfl
            have e1 := fun d => (show (w4.drewN d).cell? ⟨ge, oe + k * 2, none⟩ = _ from q1)
            have e2 := fun d => (show (w4.drewN d).cell? ⟨ge, oe + k * 2 + 1, none⟩ = _ from q2)
            have hIR : IR w4 w4.heap.size .u32 (.slice (some ⟨g, 0, none⟩) SL cp) S := IR.of_own HO.out
            obtain ⟨g', o', eq, _, q3⟩ := hIR.index i hin
            injection eq with eq
            injection eq with eq1 eq2
            subst eq1 eq2
            rw [Nat.zero_add] at q3
            obtain ⟨x, hx⟩ : ∃ x, S.getD i 0 = x := ⟨_, rfl⟩
            rw [hx] at q3
            have e3 := fun d => (show (w4.drewN d).cell? ⟨g, i, none⟩ = _ from q3)
            have HX := Lib.hid hx
            have HE := Lib.hid he
            have HKK := Lib.hid (⟨hk', hkN⟩ : k' = k + 1 ∧ k < N)
            obtain ⟨ea, eb⟩ := e
            clear he hx hcell hc4 q1 q2 q3 hIR hk' hk hkN hSL
            by_cases hax : ea = x
            · subst hax
              have hkN2 : k < N := HKK.out.2
              have dx : decide (ea = ea) = true := by simp
              have dx2 : (ea == ea) = true := by simp
              have dbf : ∀ b : Bool, (b || decide (eb = fr)) = (b || decide (eb = fr)) := fun b => rfl
              obtain ⟨q, hq⟩ : ∃ q, decide (eb = fr) = q := ⟨_, rfl⟩
              have hq2 : (eb == fr) = q := by rw [← hq]; cases h : (eb == fr) <;> simp_all
              obtain ⟨bk2, hbk2⟩ : ∃ b, b = (bk || q) := ⟨_, rfl⟩
              have HBK := Lib.hid (show bk2 = (bk || decide (eb = fr)) by rw [hbk2, hq])
              go_upto_region 12 with fail
              go_quiet (fail)
              have hW5 := below_drewN HW.out nq
              have HO5 := Lib.hid (show (w4.drewN nq).ownsRow w2.heap.size 23 1 (.slice (some ⟨g, 0, none⟩) SL cp) SL (S.map (.int .u32)) from HO.out)
              have HW5 := Lib.hid hW5
              have e4 : (w4.drewN nq).cell? ⟨ge, oe + k * 2 + 1, none⟩ = some (.int .u32 eb) := e2 nq
              clear hW5 e1 e2 e3 HO HW
              generalize w4.drewN nq = w5 at *
              go_upto_region 13 with fail
              go_cut [7] from 47 to 56 (fun v wx => v = .bool bk2 ∧ w5 = wx)
              case first =>
                cases bk <;> cases q <;> (simp at hbk2; subst hbk2; go_wp2; go_meet; exact ⟨rfl, rfl⟩)
              case rest =>
                obtain ⟨rfl, rfl⟩ := hcut
                clear hbk2 hq hq2
                go_wp2
                go_loopw [10, 11] (fun sn sj wr => ∃ j : Nat, j ≤ SL ∧ sn = .bool (decide (eb ∈ S.take j)) ∧ sj = .int .i64 j ∧ ∃ d, wr = w5.drewN d) (fun _ sj _ => SL - (intOf sj).toNat)
                case atStart => exact ⟨0, Nat.zero_le _, by simp, rfl, 0, rfl⟩
                case round =>
                  obtain ⟨j, hj, rfl, rfl, d, hd⟩ := hrel
                  obtain ⟨w6, rfl⟩ : ∃ w6, w6 = wr := ⟨wr, rfl⟩
                  have bj : (j : Int) ≤ 41 := by omega
                  have e5 : ∀ d', (w6.drewN d').cell? ⟨ge, oe + k * 2 + 1, none⟩ = some (.int .u32 eb) := fun d' => by rw [hd]; exact e4
                  by_cases hjS : j < SL
                  · have d3 : decide ((j : Int) < (SL : Int)) = true := by simp; omega
                    have d3' : decide (j < SL) = true := by simp; omega
                    obtain ⟨j', hj'⟩ : ∃ j', j' = j + 1 := ⟨_, rfl⟩
                    have sj : (j : Int) + 1 = (j' : Int) := by omega
                    have hIR : IR w5 w5.heap.size .u32 (.slice (some ⟨g, 0, none⟩) SL cp) S := IR.of_own HO5.out
                    obtain ⟨g', o', eq, _, q3⟩ := hIR.index j hjS
                    injection eq with eq
                    injection eq with eq1 eq2
                    subst eq1 eq2
                    rw [Nat.zero_add] at q3
                    obtain ⟨y, hy⟩ : ∃ y, S.getD j 0 = y := ⟨_, rfl⟩
                    rw [hy] at q3
                    have e6 := fun d' => (show (w6.drewN d').cell? ⟨g, j, none⟩ = some (.int .u32 y) by rw [hd]; exact q3)
                    obtain ⟨p, hp⟩ : ∃ p, decide (eb ∈ S.take j) = p := ⟨_, rfl⟩
                    rw [hp]
                    obtain ⟨z, hz⟩ : ∃ z, decide (y = eb) = z := ⟨_, rfl⟩
                    have hz2 : (y == eb) = z := by rw [← hz]; cases h : (y == eb) <;> simp_all
                    have HP := Lib.hid (show decide (eb ∈ S.take j') = (p || z) by
                      rw [← hp, ← hz, hj', List.take_add_one]
                      have h1 : S[j]? = some y := by
                        have h2 : j < S.length := by have := HS4.out; omega
                        rw [List.getElem?_eq_getElem h2, ← hy]
                        simp [List.getD_eq_getElem?_getD, h2]
                      rw [h1]
                      simp [eq_comm])
                    have HJ := Lib.hid (⟨hj', hjS⟩ : j' = j + 1 ∧ j < SL)
                    have HD := Lib.hid hd
                    clear hIR q3 hp hj' hj hy hd
                    cases p <;> cases z <;> (go_upto_region 18 with fail; go_quiet (fail); go_wp2; go_roundw; (case rel => exact ⟨j', by have := HJ.out; omega, by rw [HP.out]; rfl, rfl, d + nq, by rw [HD.out, World.drewN_drewN]⟩); (case measure => simp [intOf]; have := HJ.out; omega))
                  · have d3 : decide ((j : Int) < (SL : Int)) = false := by simp; omega
                    have d3' : decide (j < SL) = false := by simp; omega
                    obtain rfl : j = SL := by omega
                    have hts : S.take j = S := List.take_of_length_le (by have := HS4.out; omega)
                    rw [hts]
                    have HW6 := Lib.hid (show Below w2.heap.size w2 w6 by rw [hd]; exact below_drewN HW5.out d)
                    have HO6 := Lib.hid (show w6.ownsRow w2.heap.size 23 1 (.slice (some ⟨g, 0, none⟩) j cp) j (S.map (.int .u32)) by rw [hd]; exact HO5.out)
                    have e7 := e5 0
                    have e7' : w6.cell? ⟨ge, oe + k * 2 + 1, none⟩ = some (.int .u32 eb) := e7
                    have hkN2 : k < N := HKK.out.2
                    clear hd hts e5 e7 e4 HO5 HW5 hj
                    by_cases hm : eb ∈ S
                    · rw [decide_eq_true hm]
                      have HB7 := Lib.hid (HBf.out.in_ HE.out HX.out.symm hm)
                      rw [← HBK.out, ← HKK.out.1] at HB7
                      clear hm
                      go_wp2
                      go_roundw
                      case rel => exact ⟨k', g, cp, j, S, bk2, HS4.out.1, HS4.out.2.1, HS4.out.2.2, by have := HKK.out; omega, rfl, rfl, rfl, HB7, HO6, HW6⟩
                      case measure => simp [intOf]; have := HKK.out; omega
                    · rw [decide_eq_false hm]
                      have HB7 := Lib.hid (HBf.out.new (by have := HS4.out; omega) HE.out HX.out.symm hm)
                      rw [← HBK.out, ← HKK.out.1] at HB7
                      clear hm
                      go_wp2_with (first
                        | (at_builtin; refine wpList_append_own_at _ rfl _ _ 24 rfl w2.heap.size 23 j0 (.int .u32 0) 1 4 Try.underlying24 hj0 hj1 hj2 hj3 rfl (by decide) _ _ _ rfl (HO6.out.alloc _) ⟨w6.heap.size, 0, none⟩ 1 1 [.int .u32 eb] rfl rfl (cell_one_new _ _ _) (ints_oneCell .u32 [eb]) (by have := HS4.out; simp only [maxLen]; omega) (by have := HS4.out; omega) (by have := HW6.out.size; simp; omega) ?_; intro v7 w7 hown7 hgr7 hnil7 hloc7
                           obtain ⟨g7, cp7, e7, hcp7⟩ := own_form hown7 (by omega)
                           subst e7
                           have HB8 := Lib.hid (below_row (new_ HW6.out (.cells #[.int .u32 eb] 23)) (HO6.out.alloc _) hgr7 (Nat.le_refl _) (by have := HW6.out.size; simp; omega))
                           have HO7 := Lib.hid hown7
                           clear hown7 hgr7 hnil7 hloc7 hcp7))
                      go_roundw
                      case rel => exact ⟨k', g7, cp7, j + 1, S ++ [eb], bk2, by have := HS4.out; simp; omega, by have := HS4.out; omega, by
                        have h1 := HB7.out.len
                        have h2 := HS4.out
                        have h3 := HLE.out
                        simp at h1
                        omega, by have := HKK.out; omega, rfl, rfl, rfl, HB7, Lib.hid (by rw [List.map_append]; exact HO7.out), HB8⟩
                      case measure => simp [intOf]; have := HKK.out; omega
            · have dx : decide (ea = x) = false := by simp; exact hax
              have dx2 : (ea == x) = false := by simp; exact hax
              have HB7 := Lib.hid (HBf.out.skip HE.out (by rw [HX.out]; exact hax))
              rw [← HKK.out.1] at HB7
              have hkN2 : k < N := HKK.out.2
              clear hax
              go_upto_region 12 with fail
              go_quiet (fail)
              go_wp2
              go_roundw
              case rel => exact ⟨k', g, cp, SL, S, bk, HS4.out.1, HS4.out.2.1, HS4.out.2.2, by have := HKK.out; omega, rfl, rfl, rfl, HB7, Lib.hid HO.out, Lib.hid (below_drewN HW.out nq)⟩
              case measure => simp [intOf]; have := HKK.out; omega
          · have d2 : decide ((k : Int) < (N : Int)) = false := by simp; omega
            have d2' : decide (k < N) = false := by simp; omega
            obtain rfl : k = N := by omega
            have HB7 := Lib.hid (show Bf xl fr (i + 1) 0 S bk by
              have h := HBf.out
              rw [HLE.out.2] at h
              exact h.next (by have := HS4.out; omega))
            rw [← HII.out.1] at HB7
            clear hkN hk
            go_wp2
            go_roundw
            case rel => exact ⟨i', g, cp, SL, S, bk, HS4.out.1, by have := HII.out; have := HS4.out; omega, HS4.out.2.2, by have := HS4.out; omega, rfl, rfl, rfl, HB7, HO, HW⟩
            case measure => simp [intOf]; have := HII.out; omega
      · have d1 : decide ((i : Int) < (SL : Int)) = false := by simp; omega
        have d1' : decide (i < SL) = false := by simp; omega
        have hbk := HBf.out.end_ (by have := HSL.out; omega)
        rw [← HR.out, ← HN.out] at hbk
        have HBB := Lib.hid hbk
        obtain ⟨q, hq⟩ : ∃ q, decide (0 < n) = q := ⟨_, rfl⟩
        have hq2 : decide ((0 : Int) < (n : Int)) = q := by rw [← hq]; simp
        rw [hq] at hbk
        subst hbk
        clear hin
        go_wp2
        go_ret
        exact ⟨by simp, HB2.out.trans (HW.out.mono HB2.out.size)⟩


set_option maxRecDepth 100000 in
theorem lifted (os : Os) (started : os.Started) (H : Type) (enc : TypeId × Value → H) :
    ReturnsInHanded {} Try.checked os 5 .any (Rows.knotNoneSpec.pre6 enc Try.prog Try.f5 Rows.knotNoneRow.domain false) (Rows.knotNoneSpec.post enc Try.prog Try.f5 false true false false) := by
  refine returnsInHanded_of_change (C := Try.checked) own started (by kernel_rfl) Try.func5
    (ChangeSpec.witness6 (enc := enc) (C := Try.checked) false ⟨#[], #[.slice none 0 0, .int .u32 0], []⟩ 8 (by kernel_rfl) (by kernel_rfl) (by kernel_rfl) (by kernel_rfl)) ?_
  intro W base args ds gs before hval0 hW hcnd _
  have hval : ∀ (j : Nat) t v, Try.f5.params[j]? = some t → args[j]? = some v → Value.okWide Try.prog W .any base t v := hval0
  have hW' := hW
  obtain ⟨p, q, hA0, hV, rfl, hfz, hnd⟩ := hW
  have hA1 : DataW.TrodAll enc Try.prog W 0 (fun _ => true) true Try.f5.params.toList args.toList ds p := hA0
  have hA := hA1
  rw [Try.params5] at hA hval
  obtain ⟨v0, vs0, d0, ds0, p0, q0, hargs, rfl, rfl, h0, r0⟩ := trodAll_cons hA
  obtain ⟨v1, vs1, d1, ds1, p1, q1, rfl, rfl, rfl, h1, r1⟩ := trodAll_cons r0
  obtain ⟨rfl, rfl, rfl⟩ := trodAll_nil r1
  obtain rfl : args = #[v0, v1] := by cases args; simp_all
  obtain ⟨rfl, rfl⟩ := trodVars_none hV
  obtain ⟨xl, i0, wf0⟩ := Knot.open_eds (hval 0 22 v0 rfl rfl) h0
  obtain ⟨fr, rfl, rfl, rfl, wf1⟩ := open_int Try.underlying23 (hval 1 23 v1 rfl rfl) h1
  clear hA0 hval0
  refine (walk W v0 xl i0 wf0 fr (bounds_u32 wf1)).mono fun e W' ⟨he, bel⟩ => ?_
  subst he
  exact ⟨_, rfl, _, _, _, [], _, [], hW', trodAll_mk1 (shut_bool Try.underlying4 _), args_again laidOut bel (by kernel_rfl) hA1, rfl, bel.frame _, fun h => by cases h⟩

theorem over : Rows.knotNoneRow.holds Try.pinned (OpenSpec.ofChange Rows.knotNoneSpec) :=
  OpenClaim.holds_of_wide 5 Try.f5 rfl rfl rfl rfl rfl rfl rfl ⟨rfl, rfl, rfl, rfl, rfl⟩ rfl rfl rfl rfl rfl (by kernel_rfl) Try.func5 (by kernel_rfl)
    (of_decide_eq_true (by kernel_rfl)) (by unfold Func.isWrapper; first | (rw [if_pos (by decide +kernel)]; kernel_rfl) | (rw [if_neg (by decide +kernel)]; exact ⟨rfl, rfl⟩))
    (fun os started H enc _ => lifted os started H enc)

theorem proved : Rows.KnotNoneSaid := over
end Go.Proofs.Yteldfoplhcnljaa.LKnotNone
