import Derived.Test.YtplombkpefacgaaDkE
import Derived.Test.YtplombkpefacgaaBlocks
/- Full. -/
namespace Go.Proofs.Ytplombkpefacgaa.Disk
open Go.ChangeShapes Go.WideShapes Go.ChangeAt Go.RowKit Go.IntWalk Go.Proofs.Mem Go.Proofs.Each Law
set_option linter.unusedVariables false
set_option linter.unusedSimpArgs false
/-- the front of a list, and noughts behind it, 128 in all -/
def fullS (xs : List Int) : List Int := (List.range 128).map fun i => xs.getD i 0
def fullTo (xs : List Int) (j : Nat) : List Int := (List.range 128).map fun i => if i < j then xs.getD i 0 else 0
theorem fullS_len (xs : List Int) : (fullS xs).length = 128 := by simp [fullS]
theorem fullS_bytes {xs : List Int} (h : Bytes xs) : Bytes (fullS xs) := fun x hx => by
  simp only [fullS, List.mem_map] at hx
  obtain ⟨i, _, rfl⟩ := hx
  exact h.at_ i
theorem fullTo_zero (xs : List Int) : fullTo xs 0 = List.replicate 128 0 := by
  unfold fullTo; apply List.ext_getElem?; intro i; by_cases h : i < 128
  · rw [List.getElem?_map, List.getElem?_range h, List.getElem?_replicate, if_pos h]; rfl
  · rw [List.getElem?_eq_none (by simp; omega), List.getElem?_eq_none (by simp; omega)]
theorem fullTo_len (xs : List Int) (j : Nat) : (fullTo xs j).length = 128 := by simp [fullTo]
theorem fullTo_set (xs : List Int) (j : Nat) (hj : j < 128) : (fullTo xs j).set j (xs.getD j 0) = fullTo xs (j + 1) := by
  apply List.ext_getElem?
  intro i
  by_cases h : i = j
  · subst h
    rw [List.getElem?_set_self (by rw [fullTo_len]; exact hj)]
    simp [fullTo, hj]
  · rw [List.getElem?_set_ne (Ne.symm h)]
    by_cases h2 : i < 128
    · simp only [fullTo, List.getElem?_map, List.getElem?_range h2, Option.map_some]
      by_cases h3 : i < j
      · rw [if_pos h3, if_pos (by omega)]
      · rw [if_neg h3, if_neg (by omega)]
    · simp [fullTo, h2]
theorem fullTo_end (xs : List Int) (j : Nat) (h : j = 128 ∨ (j ≤ 128 ∧ xs.length ≤ j)) : fullTo xs j = fullS xs := by
  unfold fullTo fullS
  apply List.map_congr_left
  intro i hi
  rw [List.mem_range] at hi
  by_cases h3 : i < j
  · rw [if_pos h3]
  · rw [if_neg h3, List.getD_eq_getElem?_getD, List.getElem?_eq_none (by omega)]; rfl
set_option maxHeartbeats 1600000 in
theorem full_any (v : Value) (xs : List Int) (w : World) (B : Nat) (hB : B ≤ w.heap.size) (hv : IR w B .u8 v xs) (hx : Bytes xs) :
    Calls Try.prog 26 #[v] w fun e w' => ∃ u, e = .returned u ∧ w'.ownsRow w.heap.size 5 1 u 128 ((fullS xs).map (.int .u8)) ∧ Below w.heap.size w w' := by
  obtain ⟨i0, hi0, hz0, hz1, hz2⟩ := info_parts u8_info
  obtain ⟨A, c, rfl, hlc, hcm⟩ := hv.form
  unfold maxLen at hcm
  obtain ⟨L, hL⟩ : ∃ L, L = xs.length := ⟨_, rfl⟩
  rw [← hL] at hv hlc ⊢
  have HL := Lib.hid hL
  have HV := Lib.hid hv
  have HX := Lib.hid hx
  clear hL hv hx
  go_enter Try.func26, Try.ntmps26
  go_wp2_with (refine wpList_make_full _ rfl _ _ _ rfl w.heap.size 5 i0 _ 1 Try.underlying30 hi0 hz0 hz1 .i64 .i64 128 128 128 rfl rfl rfl rfl (by rw [hz2]; omega) (by simp only [maxLen]; omega) (Nat.le_refl _) ?_; intro w1 hown1 hg1)
  go_loopw [4] (fun x wr => ∃ j : Nat, j ≤ 128 ∧ x = .int .i64 j ∧ wr.ownsRow w.heap.size 5 1 (.slice (some ⟨w.heap.size, 0, none⟩) 128 128) 128 ((fullTo xs j).map (.int .u8)) ∧ Below w.heap.size w wr) (fun x _ => 128 - (intOf x).toNat)
  case atStart => exact ⟨0, by omega, rfl, by rw [fullTo_zero]; rw [madeZero] at hown1; exact hown1, grown_below hg1⟩
  case round =>
    obtain ⟨j, hj, rfl, hown, hbel⟩ := hrel
    by_cases h1 : j < 128
    · have d1 : decide ((j : Int) < 128) = true := by simp; omega
      by_cases h2 : j < L
      · have d2 : decide ((j : Int) < (L : Int)) = true := by simp; omega
        obtain ⟨b, off, rfl, hb, hcell⟩ := IR.index ((HV.out.below (hbel.mono hB)).more (Nat.le_trans hB hbel.size)) j h2
        obtain ⟨y, hy⟩ : ∃ y, y = xs.getD j 0 := ⟨_, rfl⟩
        rw [← hy] at hcell
        have hc : ∃ u, wr.cell? ⟨w.heap.size, j, none⟩ = some u := ⟨.int .u8 ((fullTo xs j).getD j 0), by
          rw [hown.cellAt j (by omega), List.getElem?_map, List.getElem?_eq_getElem (by rw [fullTo_len]; exact h1), List.getD_eq_getElem?_getD, List.getElem?_eq_getElem (by rw [fullTo_len]; exact h1)]; rfl⟩
        obtain ⟨u, hc⟩ := hc
        have hf := hown.frozenAt j
        have hst := (hown.stored j (.int .u8 y)).1
        rw [← List.map_set, hy, fullTo_set xs j h1] at hst
        rw [← hy] at hst
        have HS := Lib.hid hst
        clear hst hown hy
        go_wp2
        go_roundw
        case rel => exact ⟨j + 1, by omega, by go_num, HS.out, hbel.setCell (Nat.le_refl _) _⟩
        case measure => simp [intOf]; omega
      · have d2 : decide ((j : Int) < (L : Int)) = false := by simp; omega
        have HO := Lib.hid hown
        clear hown
        go_wp2
        go_ret
        exact ⟨_, rfl, by have := HO.out; rw [fullTo_end xs j (.inr ⟨by omega, by have := HL.out; omega⟩)] at this; exact this, hbel⟩
    · have d1 : decide ((j : Int) < 128) = false := by simp; omega
      have HO := Lib.hid hown
      clear hown
      go_wp2
      go_ret
      exact ⟨_, rfl, by have := HO.out; rw [fullTo_end xs j (.inl (by omega))] at this; exact this, hbel⟩
end Go.Proofs.Ytplombkpefacgaa.Disk
