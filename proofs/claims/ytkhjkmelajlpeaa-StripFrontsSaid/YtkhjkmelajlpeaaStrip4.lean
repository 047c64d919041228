import Derived.Test.YtkhjkmelajlpeaaStrip3
/- The document's Sector and Lay. -/
namespace Go.Proofs.Ytkhjkmelajlpeaa.Strip
open Go.ChangeShapes Go.WideShapes Go.ChangeAt Go.RowKit Go.IntWalk Go.Shelf Go.Proofs.Mem Blk
set_option linter.unusedVariables false
/-- a sector that is being filled -/
def fill (xs : List Int) (k j : Nat) : List Int := (part7 xs k).take j ++ List.replicate (128 - j) 0
theorem fill_len {xs : List Int} {k j : Nat} (h : j ≤ size_ xs.length k) : (fill xs k j).length = 128 := by
  have := size_le xs.length k
  simp only [fill, List.length_append, List.length_take, part_len, List.length_replicate]; omega
theorem fill_zero (xs : List Int) (k : Nat) : fill xs k 0 = List.replicate 128 0 := by simp [fill]
theorem fill_step {xs : List Int} {k j : Nat} (h : j < size_ xs.length k) : (fill xs k j).set j (xs.getD (127 * k + j) 0) = fill xs k (j + 1) := by
  have h7 := size_le xs.length k
  have hp := part_len xs k
  have hg : (part7 xs k)[j]? = some (xs.getD (127 * k + j) 0) := by
    unfold part7
    rw [List.getElem?_take, if_pos (by omega), List.getElem?_drop, List.getD_eq_getElem?_getD, List.getElem?_eq_getElem (by unfold size_ at h; omega)]; rfl
  unfold fill
  rw [List.set_append_right _ _ (by rw [List.length_take, hp]; omega), List.length_take, hp, Nat.min_eq_left (by omega), Nat.sub_self, List.take_add_one, hg, List.append_assoc]
  congr 1
  rw [show 128 - j = (128 - (j + 1)) + 1 by omega, List.replicate_succ]; rfl
theorem fill_done (xs : List Int) (k : Nat) : (fill xs k (size_ xs.length k)).set 127 (size_ xs.length k : Int) = sec7 xs k := by
  rw [← sec_made]
  unfold fill
  rw [List.take_of_length_le (by rw [part_len]; exact Nat.le_refl _), part_len, List.drop_replicate]
def SecP (w : World) (zs : List Int) (e : Ending) (w' : World) : Prop := e = .returned (.slice (some ⟨w.heap.size, 0, none⟩) 128 128) ∧ RowAt 5 w' w.heap.size w.heap.size (.slice (some ⟨w.heap.size, 0, none⟩) 128 128) zs ∧ Below w.heap.size w w'
set_option maxRecDepth 100000 in
set_option maxHeartbeats 8000000 in
theorem sector_any (w : World) (B : Nat) (v : Value) (xs : List Int) (k : Nat) (hv : IR w B .u8 v xs) (hB : B ≤ w.heap.size) (hl : xs.length ≤ 100000) (hk : 127 * k ≤ 100000) :
    Calls Try.prog 20 #[v, .int .i64 k] w (SecP w (sec7 xs k)) := by
  obtain ⟨i0, hi0, hz0, hz1, hz2⟩ := info_parts u8_info
  obtain ⟨AC, hAC, hACs, hmk⟩ := made_run (P := Try.prog) Try.underlying22 hi0 hz0 hz1 128 128 (by decide) (by rw [hz2]; decide) (by decide)
  rw [show ((128 : Nat) : Int) = 128 from rfl] at hmk
  obtain ⟨A, c, rfl, hlc, hcm⟩ := hv.form
  unfold maxLen at hcm
  have HV := Lib.hid hv
  have R0 := Lib.hid (row_made w AC 128 hAC (by decide))
  have HSZ := Lib.hid (show size_ xs.length k = min 127 (xs.length - 127 * k) from rfl)
  clear hv hAC hACs hi0 hz0 hz1 hz2
  go_enter Try.func20, Try.ntmps20
  go_wp2
  go_loopw [6, 7] (fun u i wr => ∃ j m : Nat, u = .int .i64 j ∧ i = .int .i64 m ∧ m ≤ 200000 ∧ j ≤ 127 ∧ Hid (m = 127 * k + j) ∧ Hid (j ≤ size_ xs.length k) ∧ Hid (RowAt 5 wr w.heap.size w.heap.size (.slice (some ⟨w.heap.size, 0, none⟩) 128 128) (fill xs k j)) ∧ Hid (Below w.heap.size w wr)) (fun u _ _ => 127 - (intOf u).toNat)
  case atStart => exact ⟨0, 127 * k, rfl, by simp, by omega, by omega, Lib.hid rfl, Lib.hid (by omega), by rw [fill_zero]; exact R0, Lib.hid (new_ (Below.refl _ _) _)⟩
  case round =>
    obtain ⟨j, m, rfl, rfl, hm2, hj127, HM, HJ, HR, HBL⟩ := hrel
    by_cases h1 : m < xs.length
    · have q1 : decide ((m : Int) < (xs.length : Int)) = true := decide_eq_true (by omega)
      have q1' : decide (m < xs.length) = true := decide_eq_true h1
      by_cases h2 : j < 127
      · have q2 : decide ((j : Int) < 127) = true := decide_eq_true (by omega)
        have q2' : decide (j < 127) = true := decide_eq_true h2
        have hjs : j < size_ xs.length k := by have := HSZ.out; have := HM.out; omega
        obtain ⟨b, off, rfl, hb, hc⟩ := (HV.out.below (HBL.out.mono hB)).index m h1
        have y3 := row_cell HR.out j (by rw [fill_len HJ.out]; omega)
        have f3 := row_frozen HR.out j
        have STEP := HR.out.put j (xs.getD m 0)
        rw [show xs.getD m 0 = xs.getD (127 * k + j) 0 by rw [HM.out], fill_step hjs, ← HM.out] at STEP
        have ST := Lib.hid STEP
        have HJ2 := Lib.hid (show j + 1 ≤ size_ xs.length k from hjs)
        clear STEP hjs
        generalize (fill xs k j).getD j 0 = y0 at *
        generalize xs.getD m 0 = y at *
        go_wp2
        go_roundw
        case rel => exact ⟨j + 1, m + 1, by go_num, by go_num, by omega, by omega, Lib.hid (by have := HM.out; omega), HJ2, ST, Lib.hid (HBL.out.setCell (p := ⟨w.heap.size, j, none⟩) (Nat.le_refl _) _)⟩
        case measure => simp [intOf]; omega
      · have q2 : decide ((j : Int) < 127) = false := decide_eq_false (by omega)
        have q2' : decide (j < 127) = false := decide_eq_false h2
        have hjs : j = size_ xs.length k := by have := HSZ.out; have := HM.out; have := HJ.out; omega
        have y3 := row_cell HR.out 127 (by rw [fill_len HJ.out]; omega)
        have f3 := row_frozen HR.out 127
        have STEP := HR.out.put 127 (j : Int)
        rw [hjs, fill_done, ← hjs] at STEP
        have ST := Lib.hid STEP
        clear STEP hjs
        generalize (fill xs k j).getD 127 0 = y0 at *
        go_wp2
        go_ret
        exact ⟨rfl, ST.out, HBL.out.setCell (p := ⟨w.heap.size, 127, none⟩) (Nat.le_refl _) _⟩
    · have q1 : decide ((m : Int) < (xs.length : Int)) = false := decide_eq_false (by omega)
      have q1' : decide (m < xs.length) = false := decide_eq_false h1
      have hjs : j = size_ xs.length k := by have := HSZ.out; have := HM.out; have := HJ.out; omega
      have y3 := row_cell HR.out 127 (by rw [fill_len HJ.out]; omega)
      have f3 := row_frozen HR.out 127
      have STEP := HR.out.put 127 (j : Int)
      rw [hjs, fill_done, ← hjs] at STEP
      have ST := Lib.hid STEP
      clear STEP hjs
      generalize (fill xs k j).getD 127 0 = y0 at *
      go_wp2
      go_ret
      exact ⟨rfl, ST.out, HBL.out.setCell (p := ⟨w.heap.size, 127, none⟩) (Nat.le_refl _) _⟩
set_option maxRecDepth 100000 in
set_option maxHeartbeats 8000000 in
theorem ref_lay_any (w : World) (B : Nat) (v : Value) (xs : List Int) (hv : IR w B .u8 v xs) (hB : B ≤ w.heap.size) (hl : xs.length ≤ 90000) :
    Calls Try.prog 12 #[v] w (LayP w (lay7 xs)) := by
  obtain ⟨j0, hj0, hy0, hy1, hy2⟩ := info_parts row_info
  obtain ⟨A, c, rfl, hlc, hcm⟩ := hv.form
  unfold maxLen at hcm
  have HV := Lib.hid hv
  have hcn : cnt xs.length ≤ 750 := by unfold cnt; omega
  have CN := Lib.hid (fun W => count_ref_len xs.length (by omega) W)
  clear hv
  go_enter Try.func12, Try.ntmps12
  go_wp2
  go_loopw [3, 4] (fun o i wr => ∃ (k : Nat) (ls : List Rw), i = .int .i64 k ∧ k ≤ cnt xs.length ∧ Hid (Tab 5 22 wr w.heap.size wr.heap.size o ls) ∧ Hid (ls.map (·.2.2) = (List.range k).map (sec7 xs)) ∧ Hid (Below w.heap.size w wr)) (fun _ i _ => cnt xs.length - (intOf i).toNat)
  case atStart => exact ⟨0, [], rfl, by omega, Lib.hid (Tab.nil _ _ _), Lib.hid rfl, Lib.hid (Below.refl _ _)⟩
  case round =>
    obtain ⟨k, ls, rfl, hk, HT, HLS, HBL⟩ := hrel
    by_cases hlt : k < cnt xs.length
    · have q1 : decide ((k : Int) < (cnt xs.length : Int)) = true := decide_eq_true (by omega)
      have q1' : decide (k < cnt xs.length) = true := decide_eq_true hlt
      have hll : ls.length = k := by have := congrArg List.length HLS.out; simpa using this
      have HLL := Lib.hid hll
      have SP := Lib.hid (fun W (hW : Below w.heap.size w W) => sector_any W B _ xs k (HV.out.below (hW.mono hB)) (by have := hW.size; omega) (by omega) (by omega))
      clear hll
      go_wp2_with (first
        | (go_at_call 14; refine (CN.out _).mono ?_; rintro e w1 ⟨rfl, rfl⟩)
        | (go_at_call 20; refine (SP.out _ HBL.out).mono ?_; rintro e w2 ⟨rfl, row2, hb2⟩; have ROW2 := Lib.hid row2; have HB2 := Lib.hid hb2; clear row2 hb2)
        | (at_builtin; refine wpList_tab_push _ rfl _ _ _ rfl w.heap.size wr.heap.size 5 22 (by decide) j0 Try.underlying26 hj0 hy0 hy1 hy2 u3 ls rfl ((HT.out.below HB2.out).later (new_ (Below.refl _ _) _)) w2.heap.size (.slice (some ⟨wr.heap.size, 0, none⟩) 128 128) rfl (cell_new _ _ _ _) wr.heap.size (sec7 xs k) (ROW2.out.sc (Sc.of_below (new_ (Below.refl _ _) _))) (by have := ROW2.out.own.lt wr.heap.size rfl; simp; omega) HBL.out.size (by have := HB2.out.size; simp; omega) (by have := HLL.out; omega) ?_
           intro v3 w3 tab3 hg3
           have TAB3 := Lib.hid tab3
           have HB3 := Lib.hid (tab_below (((HBL.out.trans (HB2.out.mono HBL.out.size))).alloc (by have := HBL.out.size; have := HB2.out.size; omega) _) ((HT.out.below HB2.out).later (new_ (Below.refl _ _) _)) hg3 (Nat.le_refl _) (by have := HBL.out.size; have := HB2.out.size; simp; omega))
           clear tab3 hg3))
      go_roundw
      case rel => exact ⟨k + 1, _, by go_num, by omega, TAB3, Lib.hid (by rw [List.map_append, HLS.out, List.range_succ, List.map_append]; rfl), HB3⟩
      case measure => simp [intOf]; omega
    · obtain rfl : k = cnt xs.length := by omega
      go_wp2_with (go_at_call 14; refine (CN.out _).mono ?_; rintro e w1 ⟨rfl, rfl⟩)
      go_ret
      exact ⟨_, ls, rfl, HT.out, HLS.out, HBL.out⟩
end Go.Proofs.Ytkhjkmelajlpeaa.Strip
