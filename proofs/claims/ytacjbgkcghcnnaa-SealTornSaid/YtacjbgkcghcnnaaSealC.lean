import Derived.Test.YtacjbgkcghcnnaaSealC0
/- A page that some bytes begin. -/
namespace Go.Proofs.Ytacjbgkcghcnnaa.Seal
open Go.ChangeShapes Go.WideShapes Go.ChangeAt Go.RowKit Go.IntWalk Go.Shelf Go.Proofs.NumMath Go.Proofs.Mem NumBytes
set_option linter.unusedVariables false
set_option maxRecDepth 100000 in
set_option maxHeartbeats 8000000 in
theorem page_any (w : World) (B : Nat) (v : Value) (xb : List Int) (hv : IR w B .u8 v xb) (hx : Bytes xb) (hB : B ≤ w.heap.size) :
    Calls Try.prog 18 #[v] w (PageP w) := by
  obtain ⟨i0, hi0, hz0, hz1, hz2⟩ := info_parts u8_info
  obtain ⟨AC, hAC, hACs, hmk⟩ := made_run (P := Try.prog) Try.underlying22 hi0 hz0 hz1 448 448 (by decide) (by rw [hz2]; decide) (by decide)
  rw [show ((448 : Nat) : Int) = 448 from rfl] at hmk
  obtain ⟨A, c, rfl, hlc, hcm⟩ := hv.form
  unfold maxLen at hcm
  have HV := Lib.hid hv
  obtain ⟨xs0, hr0⟩ := row_made0 w AC 448 hAC (by decide)
  have HR := Lib.hid hr0
  clear hr0
  clear hv hAC hACs hi0 hz0 hz1 hz2
  go_enter Try.func18, Try.ntmps18
  go_wp2
  go_loopw [4] (fun i wr => ∃ (k : Nat) (xs : List Int), i = .int .i64 k ∧ k ≤ 448 ∧ Hid (RowAt 5 wr w.heap.size w.heap.size (.slice (some ⟨w.heap.size, 0, none⟩) 448 448) xs ∧ xs.length = 448 ∧ Bytes xs) ∧ Hid (Below w.heap.size w wr)) (fun i _ => 448 - (intOf i).toNat)
  case atStart => exact ⟨0, xs0, rfl, by omega, HR, Lib.hid (new_ (Below.refl _ _) _)⟩
  case round =>
    obtain ⟨k, xs, rfl, hk, HX, HB⟩ := hrel
    by_cases hlt : k < 448
    · have q1 : decide ((k : Int) < 448) = true := decide_eq_true (by omega)
      have q1' : decide (k < 448) = true := decide_eq_true hlt
      by_cases hp : 0 < xb.length
      · have q2 : decide (0 < (xb.length : Int)) = true := decide_eq_true (by omega)
        have q2' : decide (0 < xb.length) = true := decide_eq_true hp
        have hm : k % xb.length < xb.length := Nat.mod_lt _ hp
        obtain ⟨b, off, rfl, hb, hc⟩ := (HV.out.below (HB.out.mono hB)).index (k % xb.length) hm
        have hy := hx.at_ (k % xb.length)
        generalize xb.getD (k % xb.length) 0 = y at *
        have e1 : (k : Int).tmod (xb.length : Int) = ((k % xb.length : Nat) : Int) := by rw [Int.tmod_eq_emod_of_nonneg (by omega)]; simp
        have e2 : (k : Int).tdiv (xb.length : Int) = ((k / xb.length : Nat) : Int) := by rw [Int.tdiv_eq_ediv_of_nonneg (by omega)]; simp
        have z1 := row_cell HX.out.1 k (by have := HX.out.2.1; omega)
        have z2 := row_frozen HX.out.1 k
        go_wp2
        go_region
        obtain ⟨z, hz⟩ : ∃ z, (y + wrap64 ((k : Int) / (xb.length : Int))) % 256 = z := ⟨_, rfl⟩
        rw [hz]
        have hzb : 0 ≤ z ∧ z ≤ 255 := by rw [← hz]; exact ⟨Int.emod_nonneg _ (by decide), Int.le_of_lt_add_one (Int.emod_lt_of_pos _ (by decide))⟩
        clear hz e1 e2
        have HX2 := Lib.hid (show RowAt 5 (wr.setCell ⟨w.heap.size, k, none⟩ (.int .u8 z)).drew w.heap.size w.heap.size (.slice (some ⟨w.heap.size, 0, none⟩) 448 448) (xs.set k z) ∧ (xs.set k z).length = 448 ∧ Bytes (xs.set k z) from
          ⟨(HX.out.1.put k z).sc (Sc.of_below (Below.drew (Below.refl _ _))), by rw [List.length_set]; exact HX.out.2.1, Bytes.set HX.out.2.2 k z hzb⟩)
        have HB2 := Lib.hid (Below.drew (HB.out.setCell (p := ⟨w.heap.size, k, none⟩) (Nat.le_refl _) (.int .u8 z)))
        clear z1 z2 hc
        go_wp2
        go_roundw
        case rel => exact ⟨k + 1, xs.set k z, by go_num, by omega, HX2, HB2⟩
        case measure => simp [intOf]; omega
      · have q2 : decide (0 < (xb.length : Int)) = false := decide_eq_false (by omega)
        have q2' : decide (0 < xb.length) = false := decide_eq_false hp
        go_wp2
        go_roundw
        case rel => exact ⟨k + 1, xs, by go_num, by omega, HX, HB⟩
        case measure => simp [intOf]; omega
    · obtain rfl : k = 448 := by omega
      go_wp2
      go_ret
      exact ⟨w.heap.size, xs, rfl, HX.out.1, HX.out.2.1, HX.out.2.2, HB.out⟩
end Go.Proofs.Ytacjbgkcghcnnaa.Seal
