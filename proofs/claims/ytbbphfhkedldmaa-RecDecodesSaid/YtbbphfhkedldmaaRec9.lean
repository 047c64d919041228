import Derived.Test.YtbbphfhkedldmaaRec8
/- Decode: too few bytes; a bare record. -/
namespace Go.Proofs.Ytbbphfhkedldmaa.Rec
open Go.ChangeShapes Go.WideShapes Go.ChangeAt Go.RowKit Go.IntWalk Go.Proofs.NumMath Go.Proofs.Mem Go.Proofs.CrcMath NumBytes CrcA
set_option linter.unusedVariables false
set_option linter.unusedSimpArgs false
set_option maxHeartbeats 2000000 in
theorem decode_few (A : Option Addr) (l c : Nat) (hl : l < 27) (w : World) : Calls Try.prog 16 #[.slice A l c] w fun e w' => e = .returned (.tuple #[.agg (bareC 0 0 0 0), .int .i64 0, .int .u16 60]) ∧ Below w.heap.size w w' := by
  have d1 : decide ((l : Int) < 27) = true := by simp; omega
  go_enter Try.func16, Try.ntmps16
  go_wp2
  refine bodyPost_ret (v := .tuple #[.agg (bareC 0 0 0 0), .int .i64 0, .int .u16 60]) (by simp [results, Try.results16, go_sem]; try rfl) rfl ?_
  exact ⟨rfl, new_ (Below.refl _ _) _⟩
set_option maxRecDepth 100000 in
set_option maxHeartbeats 8000000 in
theorem decode_all (k t p n : Int) (hk : k = 1 ∨ (4 ≤ k ∧ k ≤ 7)) (ht : 0 ≤ t ∧ t ≤ 4294967295) (hp : 0 ≤ p ∧ p ≤ 18446744073709551615) (hn : 0 ≤ n ∧ n ≤ 18446744073709551615) (w : World) (B : Nat) (hB : B ≤ w.heap.size) (A : Option Addr) (c : Nat) (hv : IR w B .u8 (.slice A 27 c) (bareB k t p n)) :
    Calls Try.prog 16 #[.slice A 27 c] w fun e w' => e = .returned (.tuple #[.agg (bareC k t p n), .int .i64 27, .int .u16 0]) ∧ Below w.heap.size w w' := by
  have hc : 27 ≤ c ∧ c ≤ 9223372036854775807 := by
    obtain ⟨A', c', e, h1, h2⟩ := hv.form
    injection e with e1 e2 e3
    rw [bareB_len] at h1
    subst e3
    exact ⟨h1, by unfold maxLen at h2; omega⟩
  obtain ⟨hc1, hc2⟩ := hc
  have hz : IR (w.alloc (.cells (bareC 0 0 0 0) 31)) B .u8 (.slice A 27 c) (bareB k t p n) := hv.alloc hB _
  have GT : ∀ W, IR W B .u8 (.slice A 2 c) (putS 27 2) → Calls Try.prog 34 #[.slice A 2 c] W fun e w' => e = .returned (.int .u64 27) ∧ W = w' := fun W h => by
    have := get_any _ _ W B h (putS_bytes 27 2)
    rwa [get_put 27 2 (by decide), show (27 : Int) % 2 ^ (8 * 2) = 27 by decide] at this
  have h2 : IR (w.alloc (.cells (bareC 0 0 0 0) 31)) B .u8 (.slice A 2 c) (putS 27 2) := by
    have := hz.take (m := 2) (by decide)
    rwa [show (bareB k t p n).take 2 = putS 27 2 by rw [bareB, List.append_assoc, List.take_left' (putS_len 27 2)]] at this
  have G2 := Lib.hid (GT _ h2)
  have DB := Lib.hid (decode_bare k t p n hk ht hp hn (w.alloc (.cells (bareC 0 0 0 0) 31)) B (by simp; omega) _ hz)
  have R0 := Lib.hid (Box.new w (bareC 0 0 0 0) 31)
  clear hz GT h2 hv hk ht hp hn
  go_enter Try.func16, Try.ntmps16
  go_wp2_with (first
    | (go_at_call 34; (with_reducible refine G2.out.mono ?_); rintro e w0 ⟨rfl, rfl⟩)
    | (go_at_call 35; (with_reducible refine DB.out.mono ?_); rintro e w1 ⟨rfl, hb1⟩
       have R1 := Lib.hid ((R0.out.later hb1).alloc (.cells (bareC k t p n) 31))
       have F1 := Lib.hid ((((Fr.refl (fun x => w.heap.size ≤ x) w).alloc (.cells (bareC 0 0 0 0) 31)).trans (.of_below hb1)).alloc (.cells (bareC k t p n) 31))
       have hne : w.heap.size ≠ w1.heap.size := by have := hb1.size; rw [World.size_alloc] at this; omega
       have a_0 : (w1.alloc (.cells (bareC k t p n) 31)).cell? ⟨w.heap.size, 0, none⟩ = some (.int .u8 0) := R1.out.cell 0
       have f_0 := R1.out.frozen 0
       have a_1 : (w1.alloc (.cells (bareC k t p n) 31)).cell? ⟨w.heap.size, 1, none⟩ = some (.int .u32 0) := R1.out.cell 1
       have f_1 := R1.out.frozen 1
       have a_2 : (w1.alloc (.cells (bareC k t p n) 31)).cell? ⟨w.heap.size, 2, none⟩ = some (.int .u64 0) := R1.out.cell 2
       have f_2 := R1.out.frozen 2
       have a_3 : (w1.alloc (.cells (bareC k t p n) 31)).cell? ⟨w.heap.size, 3, none⟩ = some (.int .u64 0) := R1.out.cell 3
       have f_3 := R1.out.frozen 3
       have a_4 : (w1.alloc (.cells (bareC k t p n) 31)).cell? ⟨w.heap.size, 4, none⟩ = some (.int .u32 0) := R1.out.cell 4
       have f_4 := R1.out.frozen 4
       have a_5 : (w1.alloc (.cells (bareC k t p n) 31)).cell? ⟨w.heap.size, 5, none⟩ = some (.int .u16 0) := R1.out.cell 5
       have f_5 := R1.out.frozen 5
       have a_6 : (w1.alloc (.cells (bareC k t p n) 31)).cell? ⟨w.heap.size, 6, none⟩ = some (.bool false) := R1.out.cell 6
       have f_6 := R1.out.frozen 6
       have a_7 : (w1.alloc (.cells (bareC k t p n) 31)).cell? ⟨w.heap.size, 7, none⟩ = some (.bool false) := R1.out.cell 7
       have f_7 := R1.out.frozen 7
       have a_8 : (w1.alloc (.cells (bareC k t p n) 31)).cell? ⟨w.heap.size, 8, none⟩ = some (.slice none 0 0) := R1.out.cell 8
       have f_8 := R1.out.frozen 8
       have a_9 : (w1.alloc (.cells (bareC k t p n) 31)).cell? ⟨w.heap.size, 9, none⟩ = some (.slice none 0 0) := R1.out.cell 9
       have f_9 := R1.out.frozen 9
       have a_10 : (w1.alloc (.cells (bareC k t p n) 31)).cell? ⟨w.heap.size, 10, none⟩ = some (.slice none 0 0) := R1.out.cell 10
       have f_10 := R1.out.frozen 10
       have a_11 : (w1.alloc (.cells (bareC k t p n) 31)).cell? ⟨w.heap.size, 11, none⟩ = some (.slice none 0 0) := R1.out.cell 11
       have f_11 := R1.out.frozen 11
       clear hb1))
  have hb := Box.set_ (Box.set_ (Box.set_ (Box.set_ (Box.set_ (Box.set_ (Box.set_ (Box.set_ (Box.set_ (Box.set_ (Box.set_ (Box.set_ (R1.out) 0 (.int .u8 k)) 1 (.int .u32 t)) 2 (.int .u64 p)) 3 (.int .u64 n)) 4 (.int .u32 0)) 5 (.int .u16 0)) 6 (.bool false)) 7 (.bool false)) 8 (.slice none 0 0)) 9 (.slice none 0 0)) 10 (.slice none 0 0)) 11 (.slice none 0 0)
  have hf9 := Fr.setCell (Fr.setCell (Fr.setCell (Fr.setCell (Fr.setCell (Fr.setCell (Fr.setCell (Fr.setCell (Fr.setCell (Fr.setCell (Fr.setCell (Fr.setCell (F1.out) (p := ⟨w.heap.size, 0, none⟩) (.inl (Nat.le_refl _)) (.int .u8 k)) (p := ⟨w.heap.size, 1, none⟩) (.inl (Nat.le_refl _)) (.int .u32 t)) (p := ⟨w.heap.size, 2, none⟩) (.inl (Nat.le_refl _)) (.int .u64 p)) (p := ⟨w.heap.size, 3, none⟩) (.inl (Nat.le_refl _)) (.int .u64 n)) (p := ⟨w.heap.size, 4, none⟩) (.inl (Nat.le_refl _)) (.int .u32 0)) (p := ⟨w.heap.size, 5, none⟩) (.inl (Nat.le_refl _)) (.int .u16 0)) (p := ⟨w.heap.size, 6, none⟩) (.inl (Nat.le_refl _)) (.bool false)) (p := ⟨w.heap.size, 7, none⟩) (.inl (Nat.le_refl _)) (.bool false)) (p := ⟨w.heap.size, 8, none⟩) (.inl (Nat.le_refl _)) (.slice none 0 0)) (p := ⟨w.heap.size, 9, none⟩) (.inl (Nat.le_refl _)) (.slice none 0 0)) (p := ⟨w.heap.size, 10, none⟩) (.inl (Nat.le_refl _)) (.slice none 0 0)) (p := ⟨w.heap.size, 11, none⟩) (.inl (Nat.le_refl _)) (.slice none 0 0)
  simp only [bareC, List.setIfInBounds_toArray, List.set_cons_zero, List.set_cons_succ] at hb hf9
  generalize hW : (World.setCell _ (⟨w.heap.size, 11, none⟩ : Addr) _) = W9 at hb hf9 ⊢
  clear hW
  have b9_0 : W9.cell? ⟨w.heap.size, 0, none⟩ = some (.int .u8 k) := hb.cell 0
  have b9_1 : W9.cell? ⟨w.heap.size, 1, none⟩ = some (.int .u32 t) := hb.cell 1
  have b9_2 : W9.cell? ⟨w.heap.size, 2, none⟩ = some (.int .u64 p) := hb.cell 2
  have b9_3 : W9.cell? ⟨w.heap.size, 3, none⟩ = some (.int .u64 n) := hb.cell 3
  have b9_4 : W9.cell? ⟨w.heap.size, 4, none⟩ = some (.int .u32 0) := hb.cell 4
  have b9_5 : W9.cell? ⟨w.heap.size, 5, none⟩ = some (.int .u16 0) := hb.cell 5
  have b9_6 : W9.cell? ⟨w.heap.size, 6, none⟩ = some (.bool false) := hb.cell 6
  have b9_7 : W9.cell? ⟨w.heap.size, 7, none⟩ = some (.bool false) := hb.cell 7
  have b9_8 : W9.cell? ⟨w.heap.size, 8, none⟩ = some (.slice none 0 0) := hb.cell 8
  have b9_9 : W9.cell? ⟨w.heap.size, 9, none⟩ = some (.slice none 0 0) := hb.cell 9
  have b9_10 : W9.cell? ⟨w.heap.size, 10, none⟩ = some (.slice none 0 0) := hb.cell 10
  have b9_11 : W9.cell? ⟨w.heap.size, 11, none⟩ = some (.slice none 0 0) := hb.cell 11
  refine bodyPost_ret (v := .tuple #[.agg (bareC k t p n), .int .i64 27, .int .u16 0]) (by simp [results, Try.results16, go_sem, bareC, b9_0, b9_1, b9_2, b9_3, b9_4, b9_5, b9_6, b9_7, b9_8, b9_9, b9_10, b9_11]) rfl ?_
  exact ⟨rfl, hf9.to_below (fun x hx => hx) (Nat.le_refl _)⟩
end Go.Proofs.Ytbbphfhkedldmaa.Rec
