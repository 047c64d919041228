import Derived.Test.YtbbphfhkedldmaaRecB
/- The document's change turned. -/
namespace Go.Proofs.Ytbbphfhkedldmaa.Rec
open Go.ChangeShapes Go.WideShapes Go.ChangeAt Go.RowKit Go.IntWalk Go.Proofs.NumMath Go.Proofs.Mem Go.Proofs.CrcMath NumBytes CrcA
set_option linter.unusedVariables false
set_option linter.unusedSimpArgs false
set_option maxRecDepth 100000 in
set_option maxHeartbeats 8000000 in
theorem turned_ref (pg sl : Int) (had has : Bool) (a b : Value) (xs ys : List Int) (w : World) (B : Nat) (hB : B ≤ w.heap.size) (ha : IR w B .u8 a xs) (hb : IR w B .u8 b ys) (hx : xs.length ≤ 100000) (hy : ys.length ≤ 100000) :
    Calls Try.prog 20 #[.agg (cgC pg sl had has a b)] w fun e w' => ∃ u v, e = .returned (.agg (cgC pg sl has had u v)) ∧ IR w' w'.heap.size .u8 u ys ∧ IR w' w'.heap.size .u8 v xs ∧ Below w.heap.size w w' := by
  obtain ⟨i0, hi0, hz0, hz1, hz2⟩ := info_parts u8_info
  obtain ⟨A1, c1, rfl, hl1, hm1⟩ := ha.form
  obtain ⟨A2, c2, rfl, hl2, hm2⟩ := hb.form
  obtain ⟨L1, hL1⟩ : ∃ L, L = xs.length := ⟨_, rfl⟩
  obtain ⟨L2, hL2⟩ : ∃ L, L = ys.length := ⟨_, rfl⟩
  rw [← hL1] at ha hl1 ⊢
  rw [← hL2] at hb hl2 ⊢
  have HL1 := Lib.hid hL1
  have HL2 := Lib.hid hL2
  have R0 := Lib.hid ((Box.new w (cgC pg sl had has (.slice A1 L1 c1) (.slice A2 L2 c2)) 27).alloc (.cells (cgC 0 0 false false (.slice none 0 0) (.slice none 0 0)) 27))
  have Z0 := Lib.hid (Box.new (w.alloc (.cells (cgC pg sl had has (.slice A1 L1 c1) (.slice A2 L2 c2)) 27)) (cgC 0 0 false false (.slice none 0 0) (.slice none 0 0)) 27)
  have HA := Lib.hid ((ha.alloc hB (.cells (cgC pg sl had has (.slice A1 L1 c1) (.slice A2 L2 c2)) 27)).alloc (by simp; omega) (.cells (cgC 0 0 false false (.slice none 0 0) (.slice none 0 0)) 27))
  have HB := Lib.hid ((hb.alloc hB (.cells (cgC pg sl had has (.slice A1 L1 c1) (.slice A2 L2 c2)) 27)).alloc (by simp; omega) (.cells (cgC 0 0 false false (.slice none 0 0) (.slice none 0 0)) 27))
  have HW := Lib.hid (new_ (new_ (Below.refl w.heap.size w) (.cells (cgC pg sl had has (.slice A1 L1 c1) (.slice A2 L2 c2)) 27)) (.cells (cgC 0 0 false false (.slice none 0 0) (.slice none 0 0)) 27))
  clear ha hb hL1 hL2
  go_enter Try.func20, Try.ntmps20
  go_wp2_with (first
    | (at_builtin; refine wpList_append_tx _ rfl _ _ _ _ rfl (w.heap.size + 1 + 1) 5 5 i0 .u8 1 Try.underlying25 Try.underlying25 hi0 hz0 hz1 hz2 (.slice none 0 0) 0 [] rfl (World.ownsRow_nil _ _ _ _) B (.slice A2 L2 c2) ys rfl HB.out (by unfold maxLen; omega) (by omega) (by simp) ?_; intro v3 w3 hown3 hg3 ho3
       rw [Nat.zero_add, List.nil_append] at hown3
       have hb3 := grown_below hg3
       have O3 := Lib.hid hown3
       have I3 := Lib.hid (IR.of_own hown3)
       obtain ⟨A3, c3, rfl, hl3, hm3⟩ := I3.out.form
       have R3 := Lib.hid (R0.out.later hb3)
       have Z3 := Lib.hid (Z0.out.later hb3)
       have HA3 := Lib.hid (HA.out.below (hb3.mono (by simp; omega)))
       have HW3 := Lib.hid (step_ HW.out hb3)
       have q3 : w3.cell? ⟨w.heap.size, 4, none⟩ = some (.slice A1 L1 c1) := R3.out.cell 4
       have HS3 := Lib.hid hb3.size
       clear hown3 hg3 ho3 hb3)
    | (at_builtin; refine wpList_append_tx _ rfl _ _ _ _ rfl (w.heap.size + 1 + 1) 5 5 i0 .u8 1 Try.underlying25 Try.underlying25 hi0 hz0 hz1 hz2 (.slice none 0 0) 0 [] rfl (World.ownsRow_nil _ _ _ _) B (.slice A1 L1 c1) xs rfl HA3.out (by unfold maxLen; omega) (by omega) (by have := HS3.out; simpa using this) ?_; intro v4 w4 hown4 hg4 ho4
       rw [Nat.zero_add, List.nil_append] at hown4
       have hb4 := grown_below hg4
       have O4 := Lib.hid hown4
       have I4 := Lib.hid (IR.of_own hown4)
       obtain ⟨A4, c4, rfl, hl4, hm4⟩ := I4.out.form
       have O34 := Lib.hid (own_below O3.out hb4)
       have R4 := R3.out.later hb4
       have z4 : Box w4 (w.heap.size + 1) (cgC 0 0 false false (.slice none 0 0) (.slice none 0 0)) 27 := by have := Z3.out.later hb4; rwa [World.size_alloc] at this
       have Z4 := Lib.hid z4
       have z4_0 : w4.cell? ⟨w.heap.size + 1, 0, none⟩ = some (.int .u32 0) := z4.cell 0
       have y4_0 := z4.frozen 0
       have z4_1 : w4.cell? ⟨w.heap.size + 1, 1, none⟩ = some (.int .u16 0) := z4.cell 1
       have y4_1 := z4.frozen 1
       have z4_2 : w4.cell? ⟨w.heap.size + 1, 2, none⟩ = some (.bool false) := z4.cell 2
       have y4_2 := z4.frozen 2
       have z4_3 : w4.cell? ⟨w.heap.size + 1, 3, none⟩ = some (.bool false) := z4.cell 3
       have y4_3 := z4.frozen 3
       have z4_4 : w4.cell? ⟨w.heap.size + 1, 4, none⟩ = some (.slice none 0 0) := z4.cell 4
       have y4_4 := z4.frozen 4
       have z4_5 : w4.cell? ⟨w.heap.size + 1, 5, none⟩ = some (.slice none 0 0) := z4.cell 5
       have y4_5 := z4.frozen 5
       have HW4 := Lib.hid (step_ HW3.out hb4)
       have q40 : w4.cell? ⟨w.heap.size, 0, none⟩ = some (.int .u32 pg) := R4.cell 0
       have q41 : w4.cell? ⟨w.heap.size, 1, none⟩ = some (.int .u16 sl) := R4.cell 1
       have q42 : w4.cell? ⟨w.heap.size, 2, none⟩ = some (.bool had) := R4.cell 2
       have q43 : w4.cell? ⟨w.heap.size, 3, none⟩ = some (.bool has) := R4.cell 3
       clear hown4 hg4 ho4 hb4 R4 z4))
  have hb9 := Box.set_ (Box.set_ (Box.set_ (Box.set_ (Box.set_ (Box.set_ (Z4.out) 0 (.int .u32 pg)) 1 (.int .u16 sl)) 2 (.bool has)) 3 (.bool had)) 4 (.slice A3 ys.length c3)) 5 (.slice A4 xs.length c4)
  have hl9 := Below.setCell (Below.setCell (Below.setCell (Below.setCell (Below.setCell (Below.setCell (HW4.out) (p := ⟨w.heap.size + 1, 0, none⟩) (Nat.le_succ _) (.int .u32 pg)) (p := ⟨w.heap.size + 1, 1, none⟩) (Nat.le_succ _) (.int .u16 sl)) (p := ⟨w.heap.size + 1, 2, none⟩) (Nat.le_succ _) (.bool has)) (p := ⟨w.heap.size + 1, 3, none⟩) (Nat.le_succ _) (.bool had)) (p := ⟨w.heap.size + 1, 4, none⟩) (Nat.le_succ _) (.slice A3 ys.length c3)) (p := ⟨w.heap.size + 1, 5, none⟩) (Nat.le_succ _) (.slice A4 xs.length c4)
  have ho3 := own_set_far (own_set_far (own_set_far (own_set_far (own_set_far (own_set_far (O34.out) (p := ⟨w.heap.size + 1, 0, none⟩) (Nat.lt_succ_self _) (.int .u32 pg)) (p := ⟨w.heap.size + 1, 1, none⟩) (Nat.lt_succ_self _) (.int .u16 sl)) (p := ⟨w.heap.size + 1, 2, none⟩) (Nat.lt_succ_self _) (.bool has)) (p := ⟨w.heap.size + 1, 3, none⟩) (Nat.lt_succ_self _) (.bool had)) (p := ⟨w.heap.size + 1, 4, none⟩) (Nat.lt_succ_self _) (.slice A3 ys.length c3)) (p := ⟨w.heap.size + 1, 5, none⟩) (Nat.lt_succ_self _) (.slice A4 xs.length c4)
  have ho4 := own_set_far (own_set_far (own_set_far (own_set_far (own_set_far (own_set_far (O4.out) (p := ⟨w.heap.size + 1, 0, none⟩) (Nat.lt_succ_self _) (.int .u32 pg)) (p := ⟨w.heap.size + 1, 1, none⟩) (Nat.lt_succ_self _) (.int .u16 sl)) (p := ⟨w.heap.size + 1, 2, none⟩) (Nat.lt_succ_self _) (.bool has)) (p := ⟨w.heap.size + 1, 3, none⟩) (Nat.lt_succ_self _) (.bool had)) (p := ⟨w.heap.size + 1, 4, none⟩) (Nat.lt_succ_self _) (.slice A3 ys.length c3)) (p := ⟨w.heap.size + 1, 5, none⟩) (Nat.lt_succ_self _) (.slice A4 xs.length c4)
  simp only [cgC, List.setIfInBounds_toArray, List.set_cons_zero, List.set_cons_succ] at hb9
  generalize hW : (World.setCell _ (⟨w.heap.size + 1, 5, none⟩ : Addr) _) = W9 at hb9 hl9 ho3 ho4 ⊢
  clear hW
  have b9_0 : W9.cell? ⟨w.heap.size + 1, 0, none⟩ = some (.int .u32 pg) := hb9.cell 0
  have b9_1 : W9.cell? ⟨w.heap.size + 1, 1, none⟩ = some (.int .u16 sl) := hb9.cell 1
  have b9_2 : W9.cell? ⟨w.heap.size + 1, 2, none⟩ = some (.bool has) := hb9.cell 2
  have b9_3 : W9.cell? ⟨w.heap.size + 1, 3, none⟩ = some (.bool had) := hb9.cell 3
  have b9_4 : W9.cell? ⟨w.heap.size + 1, 4, none⟩ = some (.slice A3 ys.length c3) := hb9.cell 4
  have b9_5 : W9.cell? ⟨w.heap.size + 1, 5, none⟩ = some (.slice A4 xs.length c4) := hb9.cell 5
  refine bodyPost_ret (v := .agg (cgC pg sl has had (.slice A3 ys.length c3) (.slice A4 xs.length c4))) (by simp [results, Try.results20, go_sem, cgC, b9_0, b9_1, b9_2, b9_3, b9_4, b9_5]) rfl ?_
  exact ⟨_, _, rfl, IR.of_own ho3, IR.of_own ho4, hl9⟩
end Go.Proofs.Ytbbphfhkedldmaa.Rec
