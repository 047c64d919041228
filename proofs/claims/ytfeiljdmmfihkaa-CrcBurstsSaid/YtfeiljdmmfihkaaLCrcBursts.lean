/- The law manciplelaw02.CrcBursts returns true whatever it is called with, and what it was called with reads as it did. No condition. -/
import Derived.Test.YtfeiljdmmfihkaaLaw
import Derived.Test.YtfeiljdmmfihkaaCrc
import Derived.Test.YtfeiljdmmfihkaaCrcMath2
namespace Go.Proofs.Ytfeiljdmmfihkaa.LCrcBursts
open Go.ChangeShapes Go.WideShapes Go.ChangeAt Go.RowKit Go.IntWalk Go.Proofs.Mem Law
set_option linter.unusedVariables false
open Crc Go.Proofs.CrcMath
theorem u8_info : (Try.prog.info? 5).map (fun i => (i.zero, i.size, i.bytes)) = some (some (.int .u8 0), 1, 1) := by kernel_rfl
theorem bit_turn (x : Int) (h : 0 ≤ x ∧ x ≤ 255) (j : Nat) (hj : j < 8) :
    BitVec.ofInt 32 (bits .xor .u8 x (2 ^ j)) ^^^ BitVec.ofInt 32 x = BitVec.twoPow 32 j ∧ 0 ≤ bits .xor .u8 x (2 ^ j) ∧ bits .xor .u8 x (2 ^ j) ≤ 255 := by
  obtain ⟨n, rfl⟩ := Int.eq_ofNat_of_zero_le h.1
  have hp : 2 ^ j < 256 := Nat.pow_lt_pow_right (a := 2) (m := j) (n := 8) (by omega) hj
  have e := u8_xor_nat n (2 ^ j) (by omega) hp
  rw [show (((2 ^ j : Nat) : Nat) : Int) = 2 ^ j by simp] at e
  rw [e]
  refine ⟨?_, by omega, ?_⟩
  · have hx : ∀ m : Nat, BitVec.ofInt 32 (m : Int) = BitVec.ofNat 32 m := fun m => by simp
    rw [hx, hx, BitVec.ofNat_xor]
    rw [show BitVec.ofNat 32 n ^^^ BitVec.ofNat 32 (2 ^ j) ^^^ BitVec.ofNat 32 n = (BitVec.ofNat 32 n ^^^ BitVec.ofNat 32 n) ^^^ BitVec.ofNat 32 (2 ^ j) by ac_rfl, BitVec.xor_self, BitVec.zero_xor]
    apply BitVec.eq_of_toNat_eq
    rw [BitVec.toNat_ofNat, BitVec.toNat_twoPow]
  · have : n ^^^ 2 ^ j < 2 ^ 8 := Nat.xor_lt_two_pow (by omega) (by omega)
    omega
theorem int_ne (a b : Int) : ((a != b) == !decide (a = b)) = true := by by_cases h : a = b <;> simp [h, bne]
theorem ret_bool {b : Bool} (h : b = true) : Ending.returned (.bool b) = .returned (.bool true) := by rw [h]
theorem sum_at (v : Value) (xs : List Int) (w : World) (g : Nat) (hg : w.heap.size = g) (hv : IR w g .u8 v xs) (hx : Bytes xs) :
    Calls Try.prog 8 #[.slice (some ⟨g, 0, none⟩) 1 1] (w.alloc (.cells #[v] 22)) fun e w' => e = .returned (.int .u32 (tn (sumF 0#32 xs))) ∧ w.alloc (.cells #[v] 22) = w' := by
  subst hg; exact sum_one v xs w hv hx
end Go.Proofs.Ytfeiljdmmfihkaa.LCrcBursts
namespace Go.Proofs.Mem
theorem Bytes.set {xs : List Int} (h : Bytes xs) {i : Nat} {y : Int} (hy : 0 ≤ y ∧ y ≤ 255) : Bytes (xs.set i y) := fun x hx => by
  rcases List.mem_or_eq_of_mem_set hx with h1 | h1
  · exact h x h1
  · rw [h1]; exact hy
end Go.Proofs.Mem
namespace Go.Proofs.Ytfeiljdmmfihkaa.LCrcBursts
open Go.ChangeShapes Go.WideShapes Go.ChangeAt Go.RowKit Go.IntWalk Go.Proofs.Mem Law
open Crc Go.Proofs.CrcMath
set_option linter.unusedVariables false
theorem own_form {W : World} {base : Nat} {e : TypeId} {size : Nat} {v : Value} {k : Nat} {xs : List Value} (h : W.ownsRow base e size v k xs) (hk : 0 < k) : ∃ g cap, v = .slice (some ⟨g, 0, none⟩) k cap ∧ base ≤ g := by
  rcases h.2 with ⟨_, h0⟩ | ⟨g, cap, _, e1, hg, _⟩
  · omega
  · exact ⟨g, cap, e1, hg⟩
set_option maxHeartbeats 4000000 in
theorem walk (w : World) (b : Value) (xb : List Int) (hb : IR w w.heap.size .u8 b xb) (bb : Bytes xb) (m : Int) (hm : -9223372036854775808 ≤ m ∧ m ≤ 9223372036854775807) (run : Int) (hrun : 0 ≤ run ∧ run ≤ 4294967295) :
    Calls Try.prog 5 #[b, .int .i64 m, .int .u32 run] w fun e w' => e = .returned (.bool true) ∧ Below w.heap.size w w' := by
  obtain ⟨A, c, rfl, hlc, hcm⟩ := hb.form
  unfold maxLen at hcm
  by_cases hn : xb.length ≤ 2000
  · have hd1 : decide (2000 < (xb.length : Int)) = false := by simp; omega
    by_cases h0 : xb.length = 0
    · have hd2 : ((xb.length : Int) == 0) = true := by rw [beq_iff_eq]; omega
      go_enter Try.func5, Try.ntmps5
      go_wp2_with fail
      (with_reducible refine (known_any _).mono ?_)
      rintro e w1 ⟨rfl, hb1⟩
      go_wp2
      go_ret
      exact ⟨rfl, hb1⟩
    · have hd2 : ((xb.length : Int) == 0) = false := by rw [beq_eq_false_iff_ne]; omega
      obtain ⟨i0, hi0, hz0, hz1, hz2⟩ := info_parts u8_info
      have hm8 : wrap64 (8 * (xb.length : Int)) = 8 * (xb.length : Int) := wrap64_in _ (by omega)
      have hz8 : (8 * (xb.length : Int) == 0) = false := by rw [beq_eq_false_iff_ne]; omega
      by_cases hk0 : m < 0
      · go_enter Try.func5, Try.ntmps5
        go_wp2_with fail
        (with_reducible refine (known_any _).mono ?_)
        rintro e w1 ⟨rfl, hb1⟩
        have hB1 := (hb.below hb1).more hb1.size
        go_wp2_with (at_builtin; refine wpList_append_all _ rfl _ _ _ rfl w1.heap.size 5 i0 .u8 1 Try.underlying22 hi0 hz0 hz1 hz2 (.slice none 0 0) 0 [] rfl (World.ownsRow_nil _ _ _ _) w1.heap.size _ xb rfl hB1 (by simp only [maxLen]; omega) (by omega) (Nat.le_refl _) ?_; intro v2 w2 hown2 hb2)
        rw [Nat.zero_add, List.nil_append] at hown2
        obtain ⟨g, cap, rfl, hg⟩ := own_form hown2 (by omega)
        go_loopw [9, 10] (fun ch i wr => ∃ (j : Nat) (o : List Int) (q : Bool), j ≤ 32 ∧ ch = .bool q ∧ i = .int .i64 j ∧ Bytes o ∧ Run xb o 0 j q ∧ wr.ownsRow w1.heap.size 5 1 (.slice (some ⟨g, 0, none⟩) xb.length cap) xb.length (o.map (.int .u8)) ∧ Below w1.heap.size w1 wr)
          (fun _ i _ => 32 - (intOf i).toNat)
        case atStart => exact ⟨0, xb, false, by omega, rfl, rfl, bb, Run.start _ _, hown2, hb2⟩
        case round =>
          obtain ⟨j, o, q, hj, rfl, rfl, bo, hrun2, hown, hbel⟩ := hrel
          have hz0j : Run xb o 0 j q := hrun2
          by_cases hlt : j < 32
          · have hlt2 : decide ((j : Int) < 32) = true := decide_eq_true (by omega)
            by_cases hkl : j < 8 * xb.length
            · have hkl2 : decide ((j : Int) < 8 * (xb.length : Int)) = true := by simp; omega
              have hol := hrun2.1
              by_cases hbit : (run / 2 ^ j).tmod 2 = 1
              · have hbt : ((run / 2 ^ j).tmod 2 == 1) = true := by simpa using hbit
                have hcell : wr.cell? ⟨g, j / 8, none⟩ = some (.int .u8 (o.getD (j / 8) 0)) := by
                  rw [hown.cellAt (j / 8) (by omega)]
                  rw [List.getElem?_map, List.getElem?_eq_getElem (by omega)]; simp [List.getD, List.getElem?_eq_getElem (show j / 8 < o.length by omega)]
                have hfz := hown.frozenAt (j / 8)
                obtain ⟨ht1, ht2, ht3⟩ := bit_turn (o.getD (j / 8) 0) (bo.at_ _) (j % 8) (by omega)
                have hst := hown.stored (j / 8) (.int .u8 (bits .xor .u8 (o.getD (j / 8) 0) (2 ^ (j % 8))))
                rw [← List.map_set] at hst
                have HS := Lib.hid hst
                have HT := Lib.hid ht1
                have HR := Lib.hid hrun2
                have HB := Lib.hid bo
                have h2p : (2 : Int) ^ (j % 8) ≤ 128 := by
                  have : 2 ^ (j % 8) ≤ 2 ^ 7 := Nat.pow_le_pow_right (by omega) (by omega)
                  exact_mod_cast this
                have h2q : 0 ≤ (2 : Int) ^ (j % 8) := Int.pow_nonneg (by omega)
                clear hst hown ht1 hrun2 bo hz0j
                go_wp2
                go_roundw
                case rel => exact ⟨j + 1, _, true, by omega, rfl, by go_num, HB.out.set ⟨ht2, ht3⟩, (by have := HR.out.turn (y := bits .xor .u8 (o.getD (j / 8) 0) (2 ^ (j % 8))) hlt (by omega) (by rw [Nat.zero_add]; exact HT.out); rwa [Nat.zero_add] at this), HS.out.1, hbel.setCell hg _⟩
                case measure => simp [intOf]; omega
              · have hbt : ((run / 2 ^ j).tmod 2 == 1) = false := by simpa using hbit
                go_wp2
                go_roundw
                case rel => exact ⟨j + 1, o, q, by omega, rfl, by go_num, bo, hrun2.skip, hown, hbel⟩
                case measure => simp [intOf]; omega
            · have hkl2 : decide ((j : Int) < 8 * (xb.length : Int)) = false := by simp; omega
              have HR := Lib.hid hrun2.done
              have hB2 := (hB1.below hbel).more hbel.size
              have hO := IR.of_own hown
              have e1 := hrun2.1
              clear hrun2 hown
              go_wp2_with fail
              (with_reducible refine (sum_one _ xb wr hB2 bb).mono ?_)
              rintro e w' ⟨rfl, rfl⟩
              have hO2 := (hO.alloc (Nat.le_refl _) (.cells #[.slice A xb.length c] 22)).more (B' := wr.heap.size + 1) (by omega)
              go_wp2_with fail
              (with_reducible refine (sum_at _ o _ (wr.heap.size + 1) (by simp) hO2 bo).mono ?_)
              rintro e w' ⟨rfl, rfl⟩
              have hfin : ((tn (sumF 0#32 xb) != tn (sumF 0#32 o)) == q) = true := by rw [← HR.out]; exact int_ne _ _
              have HF := Lib.hid hfin
              clear hfin
              go_wp2
              go_ret
              exact ⟨ret_bool HF.out, ((hb1.trans (hbel.mono hb1.size)).alloc (by have := hb1.size; have := hbel.size; omega) _).alloc (by have := hb1.size; have := hbel.size; simp; omega) _⟩
          · have hj32 : j = 32 := by omega
            subst hj32
            have HR := Lib.hid hrun2.done
            have hB2 := (hB1.below hbel).more hbel.size
            have hO := IR.of_own hown
            have e1 := hrun2.1
            clear hrun2 hown
            go_wp2_with fail
            (with_reducible refine (sum_one _ xb wr hB2 bb).mono ?_)
            rintro e w' ⟨rfl, rfl⟩
            have hO2 := (hO.alloc (Nat.le_refl _) (.cells #[.slice A xb.length c] 22)).more (B' := wr.heap.size + 1) (by omega)
            go_wp2_with fail
            (with_reducible refine (sum_at _ o _ (wr.heap.size + 1) (by simp) hO2 bo).mono ?_)
            rintro e w' ⟨rfl, rfl⟩
            have hfin : ((tn (sumF 0#32 xb) != tn (sumF 0#32 o)) == q) = true := by rw [← HR.out]; exact int_ne _ _
            have HF := Lib.hid hfin
            clear hfin
            go_wp2
            go_ret
            exact ⟨ret_bool HF.out, ((hb1.trans (hbel.mono hb1.size)).alloc (by have := hb1.size; have := hbel.size; omega) _).alloc (by have := hb1.size; have := hbel.size; simp; omega) _⟩
      · obtain ⟨f, hf⟩ := Int.eq_ofNat_of_zero_le (show 0 ≤ m % (8 * (xb.length : Int)) from Int.emod_nonneg _ (by omega))
        have hf2 : m % (8 * (xb.length : Int)) < 8 * (xb.length : Int) := Int.emod_lt_of_pos _ (by omega)
        have htm : m.tmod (8 * (xb.length : Int)) = (f : Int) := by rw [Int.tmod_eq_emod_of_nonneg (by omega)]; exact hf
        rw [hf] at hf2
        clear hf
        go_enter Try.func5, Try.ntmps5
        go_wp2_with fail
        (with_reducible refine (known_any _).mono ?_)
        rintro e w1 ⟨rfl, hb1⟩
        have hB1 := (hb.below hb1).more hb1.size
        go_wp2_with (at_builtin; refine wpList_append_all _ rfl _ _ _ rfl w1.heap.size 5 i0 .u8 1 Try.underlying22 hi0 hz0 hz1 hz2 (.slice none 0 0) 0 [] rfl (World.ownsRow_nil _ _ _ _) w1.heap.size _ xb rfl hB1 (by simp only [maxLen]; omega) (by omega) (Nat.le_refl _) ?_; intro v2 w2 hown2 hb2)
        rw [Nat.zero_add, List.nil_append] at hown2
        obtain ⟨g, cap, rfl, hg⟩ := own_form hown2 (by omega)
        go_loopw [9, 10] (fun ch i wr => ∃ (j : Nat) (o : List Int) (q : Bool), j ≤ 32 ∧ ch = .bool q ∧ i = .int .i64 j ∧ Bytes o ∧ Run xb o f j q ∧ wr.ownsRow w1.heap.size 5 1 (.slice (some ⟨g, 0, none⟩) xb.length cap) xb.length (o.map (.int .u8)) ∧ Below w1.heap.size w1 wr)
          (fun _ i _ => 32 - (intOf i).toNat)
        case atStart => exact ⟨0, xb, false, by omega, rfl, rfl, bb, Run.start _ _, hown2, hb2⟩
        case round =>
          obtain ⟨j, o, q, hj, rfl, rfl, bo, hrun2, hown, hbel⟩ := hrel
          obtain ⟨k, hk⟩ : ∃ k, k = f + j := ⟨_, rfl⟩
          have hkr : (f : Int) + (j : Int) = (k : Int) := by omega
          have hkb : (k : Int) ≤ 20000 := by omega
          have HK := Lib.hid hk
          clear hk
          by_cases hlt : j < 32
          · have hlt2 : decide ((j : Int) < 32) = true := decide_eq_true (by omega)
            by_cases hkl : k < 8 * xb.length
            · have hkl2 : decide ((k : Int) < 8 * (xb.length : Int)) = true := by simp; omega
              have hol := hrun2.1
              by_cases hbit : (run / 2 ^ j).tmod 2 = 1
              · have hbt : ((run / 2 ^ j).tmod 2 == 1) = true := by simpa using hbit
                have hcell : wr.cell? ⟨g, k / 8, none⟩ = some (.int .u8 (o.getD (k / 8) 0)) := by
                  rw [hown.cellAt (k / 8) (by omega)]
                  rw [List.getElem?_map, List.getElem?_eq_getElem (by omega)]; simp [List.getD, List.getElem?_eq_getElem (show k / 8 < o.length by omega)]
                have hfz := hown.frozenAt (k / 8)
                obtain ⟨ht1, ht2, ht3⟩ := bit_turn (o.getD (k / 8) 0) (bo.at_ _) (k % 8) (by omega)
                have hst := hown.stored (k / 8) (.int .u8 (bits .xor .u8 (o.getD (k / 8) 0) (2 ^ (k % 8))))
                rw [← List.map_set] at hst
                have HS := Lib.hid hst
                have HT := Lib.hid ht1
                have HR := Lib.hid hrun2
                have HB := Lib.hid bo
                have h2p : (2 : Int) ^ (k % 8) ≤ 128 := by
                  have : 2 ^ (k % 8) ≤ 2 ^ 7 := Nat.pow_le_pow_right (by omega) (by omega)
                  exact_mod_cast this
                have h2q : 0 ≤ (2 : Int) ^ (k % 8) := Int.pow_nonneg (by omega)
                clear hst hown ht1 hrun2 bo
                go_wp2
                go_roundw
                case rel => exact ⟨j + 1, _, true, by omega, rfl, by go_num, HB.out.set ⟨ht2, ht3⟩, (by have := HR.out.turn (y := bits .xor .u8 (o.getD (k / 8) 0) (2 ^ (k % 8))) hlt (by have := HK.out; omega) (by rw [← HK.out]; exact HT.out); rwa [← HK.out] at this), HS.out.1, hbel.setCell hg _⟩
                case measure => simp [intOf]; omega
              · have hbt : ((run / 2 ^ j).tmod 2 == 1) = false := by simpa using hbit
                go_wp2
                go_roundw
                case rel => exact ⟨j + 1, o, q, by omega, rfl, by go_num, bo, hrun2.skip, hown, hbel⟩
                case measure => simp [intOf]; omega
            · have hkl2 : decide ((k : Int) < 8 * (xb.length : Int)) = false := by simp; omega
              have HR := Lib.hid hrun2.done
              have hB2 := (hB1.below hbel).more hbel.size
              have hO := IR.of_own hown
              have e1 := hrun2.1
              clear hrun2 hown
              go_wp2_with fail
              (with_reducible refine (sum_one _ xb wr hB2 bb).mono ?_)
              rintro e w' ⟨rfl, rfl⟩
              have hO2 := (hO.alloc (Nat.le_refl _) (.cells #[.slice A xb.length c] 22)).more (B' := wr.heap.size + 1) (by omega)
              go_wp2_with fail
              (with_reducible refine (sum_at _ o _ (wr.heap.size + 1) (by simp) hO2 bo).mono ?_)
              rintro e w' ⟨rfl, rfl⟩
              have hfin : ((tn (sumF 0#32 xb) != tn (sumF 0#32 o)) == q) = true := by rw [← HR.out]; exact int_ne _ _
              have HF := Lib.hid hfin
              clear hfin
              go_wp2
              go_ret
              exact ⟨ret_bool HF.out, ((hb1.trans (hbel.mono hb1.size)).alloc (by have := hb1.size; have := hbel.size; omega) _).alloc (by have := hb1.size; have := hbel.size; simp; omega) _⟩
          · have hj32 : j = 32 := by omega
            subst hj32
            have HR := Lib.hid hrun2.done
            have hB2 := (hB1.below hbel).more hbel.size
            have hO := IR.of_own hown
            have e1 := hrun2.1
            clear hrun2 hown
            go_wp2_with fail
            (with_reducible refine (sum_one _ xb wr hB2 bb).mono ?_)
            rintro e w' ⟨rfl, rfl⟩
            have hO2 := (hO.alloc (Nat.le_refl _) (.cells #[.slice A xb.length c] 22)).more (B' := wr.heap.size + 1) (by omega)
            go_wp2_with fail
            (with_reducible refine (sum_at _ o _ (wr.heap.size + 1) (by simp) hO2 bo).mono ?_)
            rintro e w' ⟨rfl, rfl⟩
            have hfin : ((tn (sumF 0#32 xb) != tn (sumF 0#32 o)) == q) = true := by rw [← HR.out]; exact int_ne _ _
            have HF := Lib.hid hfin
            clear hfin
            go_wp2
            go_ret
            exact ⟨ret_bool HF.out, ((hb1.trans (hbel.mono hb1.size)).alloc (by have := hb1.size; have := hbel.size; omega) _).alloc (by have := hb1.size; have := hbel.size; simp; omega) _⟩
  · have hd1 : decide (2000 < (xb.length : Int)) = true := by simp; omega
    go_enter Try.func5, Try.ntmps5
    go_wp2_with fail
    (with_reducible refine (known_any _).mono ?_)
    rintro e w1 ⟨rfl, hb1⟩
    go_wp2
    go_ret
    exact ⟨rfl, hb1⟩


set_option maxRecDepth 100000 in
theorem lifted (os : Os) (started : os.Started) (H : Type) (enc : TypeId × Value → H) :
    ReturnsInHanded {} Try.checked os 5 .any (Rows.crcBurstsSpec.pre6 enc Try.prog Try.f5 Rows.crcBurstsRow.domain false) (Rows.crcBurstsSpec.post enc Try.prog Try.f5 false true false false) := by
  refine returnsInHanded_of_change (C := Try.checked) own started (by kernel_rfl) Try.func5
    (ChangeSpec.witness6 (enc := enc) (C := Try.checked) false ⟨#[], #[.slice none 0 0, .int .i64 0, .int .u32 0], []⟩ 8 (by kernel_rfl) (by kernel_rfl) (by kernel_rfl) (by kernel_rfl)) ?_
  intro W base args ds gs before hval0 hW hcnd _
  have hval : ∀ (j : Nat) t v, Try.f5.params[j]? = some t → args[j]? = some v → Value.okWide Try.prog W .any base t v := hval0
  have hW' := hW
  obtain ⟨p, q, hA0, hV, rfl, hfz, hnd⟩ := hW
  have hA1 : DataW.TrodAll enc Try.prog W 0 (fun _ => true) true Try.f5.params.toList args.toList ds p := hA0
  have hA := hA1
  rw [Try.params5] at hA hval
  obtain ⟨v0, vs0, d0, ds0, p0, q0, hargs, rfl, rfl, h0, r0⟩ := trodAll_cons hA
  obtain ⟨v1, vs1, d1, ds1, p1, q1, rfl, rfl, rfl, h1, r1⟩ := trodAll_cons r0
  obtain ⟨v2, vs2, d2, ds2, p2, q2, rfl, rfl, rfl, h2, r2⟩ := trodAll_cons r1
  obtain ⟨rfl, rfl, rfl⟩ := trodAll_nil r2
  obtain rfl : args = #[v0, v1, v2] := by cases args; simp_all
  obtain ⟨rfl, rfl⟩ := trodVars_none hV
  obtain ⟨xb, i0, wf0⟩ := open_IR Try.underlying22 Try.underlying5 (by kernel_rfl) (hval 0 22 v0 rfl rfl) h0
  obtain ⟨m, rfl, rfl, rfl, wf1⟩ := open_int Try.underlying3 (hval 1 3 v1 rfl rfl) h1
  obtain ⟨run, rfl, rfl, rfl, wf2⟩ := open_int Try.underlying23 (hval 2 23 v2 rfl rfl) h2
  clear hA0 hval0
  refine (walk W v0 xb i0 (fun n hn => bounds_u8 (wf0 n hn)) m (bounds_i64 wf1) run (bounds_u32 wf2)).mono fun e W' ⟨he, bel⟩ => ?_
  subst he
  exact ⟨_, rfl, _, _, _, [], _, [], hW', trodAll_mk1 (shut_bool Try.underlying4 _), args_again laidOut bel (by kernel_rfl) hA1, rfl, bel.frame _, fun h => by cases h⟩

theorem over : Rows.crcBurstsRow.holds Try.pinned (OpenSpec.ofChange Rows.crcBurstsSpec) :=
  OpenClaim.holds_of_wide 5 Try.f5 rfl rfl rfl rfl rfl rfl rfl ⟨rfl, rfl, rfl, rfl, rfl⟩ rfl rfl rfl rfl rfl (by kernel_rfl) Try.func5 (by kernel_rfl)
    (of_decide_eq_true (by kernel_rfl)) (by unfold Func.isWrapper; first | (rw [if_pos (by decide +kernel)]; kernel_rfl) | (rw [if_neg (by decide +kernel)]; exact ⟨rfl, rfl⟩))
    (fun os started H enc _ => lifted os started H enc)

theorem proved : Rows.CrcBurstsSaid := over
end Go.Proofs.Ytfeiljdmmfihkaa.LCrcBursts
