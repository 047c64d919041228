/- The law manciplelaw11.ClockFair returns true whatever it is called with, and what it was called with reads as it did. No condition. -/
import Derived.Test.YtimnhanjlldhoaaLaw
import Derived.Test.YtimnhanjlldhoaaClkM
import Derived.Deep.RegionWith
import Derived.Deep.QuietTactic
import Derived.BigQuiet
import Derived.Outline
namespace Go.Proofs.Ytimnhanjlldhoaa.LClockFair
open Go.ChangeShapes Go.WideShapes Go.ChangeAt Go.RowKit Go.IntWalk Go.Proofs.Mem Law
set_option linter.unusedVariables false
open Go.Proofs.Ytimnhanjlldhoaa.Clk _root_.Go.Proofs.Clk
set_option maxRecDepth 100000 in
set_option maxHeartbeats 8000000 in
theorem walk (w : World) (n : Int) (hn : 0 ≤ n ∧ n ≤ 255) (l : Value) (xl : List Clk.Cl) (hl : SS Clk.cCl 2 w w.heap.size l xl) (bl : ∀ o ∈ xl, Clk.Cl.Ok o) :
    Calls Try.prog 5 #[.int .u8 n, l] w fun e w' => e = .returned (.bool true) ∧ Below w.heap.size w w' := by
  obtain ⟨A, c, rfl, hlc, hcm⟩ := hl.form
  have HL := Lib.hid hl
  have BL := Lib.hid bl
  unfold maxLen at hcm
  have KN := Lib.hid (fun W => known_any W)
  by_cases hlen : 200 < xl.length
  · have d1 : decide (200 < (xl.length : Int)) = true := decide_eq_true (by omega)
    have d1' : decide (200 < xl.length) = true := decide_eq_true hlen
    clear hl bl
    go_enter Try.func5, Try.ntmps5
    go_wp2_with fail
    (with_reducible refine (KN.out _).mono ?_)
    rintro e w1 ⟨rfl, hb1⟩
    go_wp2
    go_ret
    exact ⟨rfl, hb1⟩
  · have d1 : decide (200 < (xl.length : Int)) = false := decide_eq_false (by omega)
    have d1' : decide (200 < xl.length) = false := decide_eq_false hlen
    obtain ⟨N, hr, hmn⟩ : ∃ N : Nat, 1 + n % 64 = (N : Int) ∧ 1 ≤ N ∧ N ≤ 64 := ⟨(1 + n % 64).toNat, by omega, by omega⟩
    have RN := Lib.hid (fun (W : World) (a : Int) (ha : a = (N : Int) - 1) (hW : SS cCl 2 W W.heap.size (.slice A xl.length c) xl) => run_at W a N ha hmn A c xl hcm hlc hW bl (by omega))
    clear hl bl
    have HR := Lib.hid hr
    go_enter Try.func5, Try.ntmps5
    go_wp2_with fail
    (with_reducible refine (KN.out _).mono ?_)
    rintro e w1 ⟨rfl, hb1⟩
    go_wp2_with fail
    (with_reducible refine (RN.out _ _ (by have := HR.out; omega) ((HL.out.below hb1).more hb1.size)).mono ?_)
    rintro e w2 ⟨g, gf, l, h, rfl, c2, hN, hh, ho, hg, hb2⟩
    have C2 := Lib.hid c2
    have HG := Lib.hid (show w.heap.size ≤ g ∧ w.heap.size ≤ gf from by have := hb1.size; omega)
    have HB2 := Lib.hid (step_ hb1 hb2)
    have HO := Lib.hid (show l.length = N ∧ Oks xl.length l ∧ ∀ x, x < 0 → l.getD x z3 = F1 from ⟨hN, ho, fun x hx => by omega⟩)
    have HH := Lib.hid hh
    clear c2 hg hb1 hb2 ho hh hN
    go_wp2
    go_loopw [7] (fun i W => ∃ (j : Nat) (l : List Fm), i = .int .i64 j ∧ j ≤ N ∧ Hid (CK W g gf l h) ∧ Hid (l.length = N ∧ Oks xl.length l ∧ ∀ x, x < j → l.getD x z3 = F1) ∧ Hid (Below w.heap.size w W)) (fun i _ => N - (intOf i).toNat)
    case atStart => exact ⟨0, l, rfl, by omega, C2, HO, HB2⟩
    case round =>
      clear C2 HO HB2
      obtain ⟨j, l, rfl, hj, HC, HO, HB⟩ := hrel
      by_cases hlt : j < N
      · have hd : decide ((j : Int) < (N : Int)) = true := decide_eq_true (by omega)
        have hd' : decide (j < N) = true := decide_eq_true (by omega)
        go_wp2
        obtain ⟨wo, rfl⟩ : ∃ wo : World, wo = wr := ⟨_, rfl⟩
        go_loopw [8] (fun i W => ∃ (k : Nat) (l : List Fm), i = .int .i64 k ∧ k ≤ xl.length ∧ Hid (CK W g gf l h) ∧ Hid (l.length = N ∧ Oks xl.length l ∧ (∀ x, x < j → l.getD x z3 = F1) ∧ (l.getD j z3).p + k ≤ xl.length) ∧ Hid (Below w.heap.size w W)) (fun i _ => xl.length + 1 - (intOf i).toNat)
        case atStart => exact ⟨0, l, rfl, by omega, HC, Lib.hid ⟨HO.out.1, HO.out.2.1, HO.out.2.2, by have := (HO.out.2.1.at_ (by omega) j).hi; simpa using this⟩, HB⟩
        case round =>
          clear HC HO HB
          obtain ⟨k, l, rfl, hk, HC, HO, HB⟩ := hrel
          have hl64 : l.length ≤ 64 := by have := HO.out.1; omega
          have hd3 : decide ((k : Int) ≤ (xl.length : Int)) = true := decide_eq_true (by omega)
          have hd3' : decide (k ≤ xl.length) = true := decide_eq_true (by omega)
          have PI := Lib.hid (pins_in wr g gf h l HC.out hl64 j (by have := HO.out.1; omega))
          have hz0 := (HO.out.2.1.at_ (by omega) j).lo
          have HZ := Lib.hid (show (l.getD j z3).p + k ≤ xl.length from HO.out.2.2.2)
          have HT := Lib.hid (fun hp => take_touch (l := l) (j := j) (by have := HO.out.1; omega) hp)
          have HU := Lib.hid (fun hp => unpin_at (l := l) (j := j) (by have := HO.out.1; omega) hp)
          obtain ⟨z, hz⟩ : ∃ z, z = (l.getD j z3).p := ⟨_, rfl⟩
          rw [← hz] at PI hz0 HZ HT HU
          have HZE := Lib.hid hz
          clear hz
          by_cases hp : 0 < z
          · have hd4 : decide (0 < z) = true := decide_eq_true hp
            go_wp2_with fail
            (with_reducible refine (PI.out).mono ?_)
            rintro e W1 ⟨rfl, rfl⟩
            go_wp2_with fail
            (with_reducible refine (unpin_any _ g gf h l xl.length HC.out hl64 HO.out.2.1 (by omega) j).mono ?_)
            rintro e W1 ⟨rfl, c3, f3⟩
            rw [HU.out hp] at c3
            have C3 := Lib.hid c3
            have HB3 := Lib.hid (HB.out.trans (f3.to_below (B := w.heap.size) (by have := HG.out; rintro k (rfl | rfl) <;> omega) HB.out.size))
            have HO3 := Lib.hid (show (l.set j { l.getD j z3 with p := z - 1 }).length = N ∧ Oks xl.length (l.set j { l.getD j z3 with p := z - 1 }) ∧ (∀ x, x < j → (l.set j { l.getD j z3 with p := z - 1 }).getD x z3 = F1) ∧ ((l.set j { l.getD j z3 with p := z - 1 }).getD j z3).p + ((k + 1 : Nat) : Int) ≤ xl.length from by
              obtain ⟨o1, o2, o3, o4⟩ := HO.out
              have hjl : j < l.length := by omega
              have hok := o2.at_ (by omega) j
              have hze := HZE.out
              refine ⟨by rw [List.length_set]; exact o1, o2.set ⟨by show 0 ≤ z - 1; omega, by show z - 1 ≤ (xl.length : Int); omega, fun x => ?_⟩ j, fun x hx => ?_, ?_⟩
              · have := (hok.free x).2; omega
              · rw [getD_set_eq _ _ _ hjl, if_neg (by omega)]; exact o3 x hx
              · rw [getD_set_eq _ _ _ hjl, if_pos rfl]; show z - 1 + ((k + 1 : Nat) : Int) ≤ (xl.length : Int); omega)
            have HPP := Lib.hid hp
            clear c3 f3 hp
            go_wp2
            go_roundw
            case rel => exact ⟨k + 1, _, by go_num, by have := HZ.out; have := HPP.out; omega, C3, HO3, HB3⟩
            case measure => simp [intOf]; omega
          · have hd4 : decide (0 < z) = false := decide_eq_false hp
            have HP0 := Lib.hid (show z = 0 by omega)
            clear hp
            go_wp2_with fail
            (with_reducible refine (PI.out).mono ?_)
            rintro e W1 ⟨rfl, rfl⟩
            go_wp2_with fail
            (with_reducible refine (take_any _ g gf h l HC.out hl64 j).mono ?_)
            rintro e W1 ⟨rfl, c3, f3⟩
            have C3 := Lib.hid c3
            have HB3 := Lib.hid (HB.out.trans (f3.to_below (B := w.heap.size) (by have := HG.out; rintro k (rfl | rfl) <;> omega) HB.out.size))
            clear c3 f3
            go_wp2_with fail
            (with_reducible refine (touch_any _ g gf h _ xl.length C3.out (by rw [takeM_len]; exact hl64) (takeM_ok HO.out.2.1 (by omega)) (by omega) j).mono ?_)
            rintro e W2 ⟨rfl, c4, f4⟩
            rw [HT.out HP0.out] at c4
            have C4 := Lib.hid c4
            have HB4 := Lib.hid (HB3.out.trans (f4.to_below (B := w.heap.size) (by have := HG.out; rintro k (rfl | rfl) <;> omega) HB3.out.size))
            have HO4 := Lib.hid (show (l.set j F1).length = N ∧ Oks xl.length (l.set j F1) ∧ ∀ x, x < j + 1 → (l.set j F1).getD x z3 = F1 from by
              obtain ⟨o1, o2, o3, o4⟩ := HO.out
              have hjl : j < l.length := by omega
              refine ⟨by rw [List.length_set]; exact o1, o2.set ⟨Int.le_refl _, by show (0 : Int) ≤ (xl.length : Int); omega, fun x => by cases x⟩ j, fun x hx => ?_⟩
              rw [getD_set_eq _ _ _ hjl]
              by_cases e : x = j
              · rw [if_pos e]
              · rw [if_neg e]; exact o3 x (by omega))
            clear c4 f4
            go_wp2
            go_roundw
            case rel => exact ⟨j + 1, _, by go_num, by omega, C4, HO4, HB4⟩
            case measure => simp [intOf]; omega
      · have hd : decide ((j : Int) < (N : Int)) = false := decide_eq_false (by omega)
        have hd' : decide (j < N) = false := decide_eq_false (by omega)
        have hl := all_same HO.out.1 (fun x hx => HO.out.2.2 x (by omega))
        subst hl
        have HGP := Lib.hid (show g < wr.heap.size ∧ gf < wr.heap.size ∧ w.heap.size ≤ wr.heap.size from ⟨HC.out.top.lt, HC.out.fs.lt, HB.out.size⟩)
        go_wp2
        obtain ⟨p, hp⟩ : ∃ p, wr.heap.size = p := ⟨_, rfl⟩
        rw [hp]
        have HP := Lib.hid hp
        clear hp
        go_loopw [10, 11] (fun f i W => ∃ (k : Nat) (l : List Fm) (x : Nat) (T : List Bool), f = .bool true ∧ i = .int .i64 k ∧ k ≤ N ∧ Hid (CK W g gf l x) ∧ Hid (St N h k l x) ∧ Hid (AR .bool W p T) ∧ Hid (∀ y, y < N → T.getD y false = decide (dst N h y < k)) ∧ Hid (Below w.heap.size w W)) (fun _ i _ => N - (intOf i).toNat)
        case atStart => exact ⟨0, _, h, List.replicate 64 false, rfl, rfl, by omega, Lib.hid (HC.out.alloc _), Lib.hid (.inl ⟨rfl, rfl, rfl⟩), Lib.hid ⟨by simp, _, by rw [← HP.out]; exact Box.new _ _ _⟩, Lib.hid (fun y hy => by rw [rep_false]; exact (decide_eq_false (by omega)).symm), Lib.hid (HB.out.alloc HGP.out.2.2 _)⟩
        case round =>
          clear HC HO HB
          obtain ⟨k, l, x, T, rfl, rfl, hk, HC, HS, HA, HT, HB⟩ := hrel
          by_cases hlt2 : k < N
          · have hd2 : decide ((k : Int) < (N : Int)) = true := decide_eq_true (by omega)
            have hd2' : decide (k < N) = true := decide_eq_true (by omega)
            obtain ⟨e1, e2, l2, hpk, ht⟩ := st_pick HS.out HH.out hlt2
            have hyN : (h + k) % N < N := Nat.mod_lt _ (by omega)
            have hdst := dst_at HH.out hlt2
            have ey : T.getD ((h + k) % N) false = false := by rw [HT.out _ hyN, hdst]; exact decide_eq_false (by omega)
            have hts := turn_step HH.out hlt2 ht
            have hf0 : l2.getD ((h + k) % N) z3 = F0 := by rw [ht.2 _ hyN, hdst, if_neg (by omega)]
            obtain ⟨lt1, lt2⟩ := leave_take (by rw [ht.1]; exact hyN) hf0
            have hT2 : ∀ y, y < N → (T.set ((h + k) % N) true).getD y false = decide (dst N h y < k + 1) := fun y hy => by
              rw [getD_set_bool _ _ _ (by have := HA.out.1; omega)]
              by_cases e : y = (h + k) % N
              · rw [if_pos e, e, hdst]; exact (decide_eq_true (by omega)).symm
              · rw [if_neg e, HT.out y hy]
                have : dst N h y ≠ k := fun e3 => e (dst_inj HH.out hlt2 hy e3)
                by_cases a : dst N h y < k
                · rw [decide_eq_true a, decide_eq_true (by omega)]
                · rw [decide_eq_false a, decide_eq_false (by omega)]
            have OK2 := turn_ok ht
            have L2 : l2.length ≤ 64 := by have := ht.1; omega
            have L3 : (l2.set ((h + k) % N) z3).length ≤ 64 := by rw [List.length_set]; exact L2
            have LV := fun (W : World) (c : CK W g gf l2 ((h + (k + 1)) % N)) => leave_any W g gf _ l2 0 c L2 OK2 (by omega) (((h + k) % N : Nat) : Int)
            have TK := fun (W : World) (c : CK W g gf (l2.set ((h + k) % N) z3) ((h + (k + 1)) % N)) => take_any W g gf _ _ c L3 (((h + k) % N : Nat) : Int)
            rw [lt1] at LV
            rw [lt2] at TK
            unfold Did at LV TK
            dsimp only at LV TK
            obtain ⟨y, hye⟩ : ∃ y, (h + k) % N = y := ⟨_, rfl⟩
            obtain ⟨x2, hxe⟩ : ∃ y, (h + (k + 1)) % N = y := ⟨_, rfl⟩
            rw [hye, hxe] at hpk
            rw [hye] at hyN ey hts hT2
            rw [hye, hxe] at LV TK
            have LVH := Lib.hid LV
            have TKH := Lib.hid TK
            have P := Lib.hid hpk
            have HTS := Lib.hid hts
            have HT2 := Lib.hid hT2
            have HXE := Lib.hid hxe
            have z0 := HA.out.cell false (show y < 64 by omega)
            rw [ey] at z0
            have YL := Lib.hid (show x < l.length ∧ l.length ≤ 64 by omega)
            clear LV TK hpk hts hT2 hye hxe ey hdst hf0 lt1 lt2 ht OK2 L2 L3 e1 e2
            have f1 : decide ((y : Int) < 0) = false := decide_eq_false (by omega)
            have f2 : decide ((N : Int) ≤ (y : Int)) = false := decide_eq_false (by omega)
            have f2' : decide (N ≤ y) = false := decide_eq_false (by omega)
            have f3 : decide ((y : Int) < 64) = true := decide_eq_true (by omega)
            have f3' : decide (y < 64) = true := decide_eq_true (by omega)
            go_wp2_with fail
            (with_reducible refine (pick_any _ g gf x l HC.out YL.out.2 YL.out.1 _ P.out).mono ?_)
            rintro e W1 ⟨rfl, c3, fr3⟩
            have C3 := Lib.hid c3
            have A3 := Lib.hid (HA.out.fr fr3 (by have := HGP.out; have := HP.out; rintro (rfl | rfl) <;> omega))
            have HB3 := Lib.hid (HB.out.trans (fr3.to_below (B := w.heap.size) (by have := HG.out; rintro k (rfl | rfl) <;> omega) HB.out.size))
            have z1 : W1.cell? ⟨p, y, none⟩ = some (.bool false) := (fr3.cell (p := ⟨p, y, none⟩) HA.out.lt (by have := HGP.out; have := HP.out; rintro (h | h) <;> (dsimp only at h; omega))).trans z0
            have z2 := A3.out.frozen y
            clear c3 fr3
            dsimp only at C3
            have C4 := Lib.hid (C3.out.far (a := ⟨p, y, none⟩) (by have := HGP.out; have := HP.out; show g ≠ p; omega) (by have := HGP.out; have := HP.out; show gf ≠ p; omega) (.bool true))
            have A4 := Lib.hid (A3.out.set y true)
            have HB4 := Lib.hid (HB3.out.setCell (p := ⟨p, y, none⟩) (by have := HGP.out; have := HP.out; show w.heap.size ≤ p; omega) (.bool true))
            go_wp2_with fail
            (with_reducible refine (LVH.out _ C4.out).mono ?_)
            rintro e W2 ⟨rfl, c5, fr5⟩
            have C5 := Lib.hid c5
            have A5 := Lib.hid (A4.out.fr fr5 (by have := HGP.out; have := HP.out; rintro (rfl | rfl) <;> omega))
            have HB5 := Lib.hid (HB4.out.trans (fr5.to_below (B := w.heap.size) (by have := HG.out; rintro k (rfl | rfl) <;> omega) HB4.out.size))
            clear c5 fr5
            go_wp2_with fail
            (with_reducible refine (TKH.out _ C5.out).mono ?_)
            rintro e W3 ⟨rfl, c6, fr6⟩
            have C6 := Lib.hid c6
            have A6 := Lib.hid (A5.out.fr fr6 (by have := HGP.out; have := HP.out; rintro (rfl | rfl) <;> omega))
            have HB6 := Lib.hid (HB5.out.trans (fr6.to_below (B := w.heap.size) (by have := HG.out; rintro k (rfl | rfl) <;> omega) HB5.out.size))
            clear c6 fr6
            go_wp2
            go_roundw
            case rel => exact ⟨k + 1, _, x2, _, rfl, by go_num, by omega, C6, Lib.hid (.inr ⟨by omega, HTS.out, HXE.out.symm⟩), A6, HT2, HB6⟩
            case measure => simp [intOf]; omega
          · have hd2 : decide ((k : Int) < (N : Int)) = false := decide_eq_false (by omega)
            have hd2' : decide (k < N) = false := decide_eq_false (by omega)
            go_wp2
            go_ret
            exact ⟨rfl, HB.out⟩


set_option maxRecDepth 100000 in
theorem lifted (os : Os) (started : os.Started) (H : Type) (enc : TypeId × Value → H) :
    ReturnsInHanded {} Try.checked os 5 .any (Rows.clockFairSpec.pre6 enc Try.prog Try.f5 Rows.clockFairRow.domain false) (Rows.clockFairSpec.post enc Try.prog Try.f5 false true false false) := by
  refine returnsInHanded_of_change (C := Try.checked) own started (by kernel_rfl) Try.func5
    (ChangeSpec.witness6 (enc := enc) (C := Try.checked) false ⟨#[], #[.int .u8 0, .slice none 0 0], []⟩ 8 (by kernel_rfl) (by kernel_rfl) (by kernel_rfl) (by kernel_rfl)) ?_
  intro W base args ds gs before hval0 hW hcnd _
  have hval : ∀ (j : Nat) t v, Try.f5.params[j]? = some t → args[j]? = some v → Value.okWide Try.prog W .any base t v := hval0
  have hW' := hW
  obtain ⟨p, q, hA0, hV, rfl, hfz, hnd⟩ := hW
  have hA1 : DataW.TrodAll enc Try.prog W 0 (fun _ => true) true Try.f5.params.toList args.toList ds p := hA0
  have hA := hA1
  rw [Try.params5] at hA hval
  obtain ⟨v0, vs0, d0, ds0, p0, q0, hargs, rfl, rfl, h0, r0⟩ := trodAll_cons hA
  obtain ⟨v1, vs1, d1, ds1, p1, q1, rfl, rfl, rfl, h1, r1⟩ := trodAll_cons r0
  obtain ⟨rfl, rfl, rfl⟩ := trodAll_nil r1
  obtain rfl : args = #[v0, v1] := by cases args; simp_all
  obtain ⟨rfl, rfl⟩ := trodVars_none hV
  obtain ⟨n, rfl, rfl, rfl, wf0⟩ := open_int Try.underlying5 (hval 0 5 v0 rfl rfl) h0
  obtain ⟨xl, i1, wf1⟩ := Clk.open_ops (hval 1 22 v1 rfl rfl) h1
  clear hA0 hval0
  refine (walk W n (bounds_u8 wf0) v1 xl i1 wf1).mono fun e W' ⟨he, bel⟩ => ?_
  subst he
  exact ⟨_, rfl, _, _, _, [], _, [], hW', trodAll_mk1 (shut_bool Try.underlying4 _), args_again laidOut bel (by kernel_rfl) hA1, rfl, bel.frame _, fun h => by cases h⟩

theorem over : Rows.clockFairRow.holds Try.pinned (OpenSpec.ofChange Rows.clockFairSpec) :=
  OpenClaim.holds_of_wide 5 Try.f5 rfl rfl rfl rfl rfl rfl rfl ⟨rfl, rfl, rfl, rfl, rfl⟩ rfl rfl rfl rfl rfl (by kernel_rfl) Try.func5 (by kernel_rfl)
    (of_decide_eq_true (by kernel_rfl)) (by unfold Func.isWrapper; first | (rw [if_pos (by decide +kernel)]; kernel_rfl) | (rw [if_neg (by decide +kernel)]; exact ⟨rfl, rfl⟩))
    (fun os started H enc _ => lifted os started H enc)

theorem proved : Rows.ClockFairSaid := over
end Go.Proofs.Ytimnhanjlldhoaa.LClockFair
