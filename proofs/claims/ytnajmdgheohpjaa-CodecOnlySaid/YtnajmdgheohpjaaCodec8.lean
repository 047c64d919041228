import Derived.Test.YtnajmdgheohpjaaCodec7
/- A request out of bytes. -/
namespace Go.Proofs.Ytnajmdgheohpjaa.Codec
open Go.ChangeShapes Go.WideShapes Go.ChangeAt Go.RowKit Go.IntWalk Go.Proofs.NumMath Go.Proofs.Mem NumBytes
set_option linter.unusedVariables false
set_option maxRecDepth 100000 in
set_option maxHeartbeats 16000000 in
theorem asked_any (v : Value) (xs : List Int) (hx : Bytes xs) (w : World) (hv : IR w w.heap.size .u8 v xs) (hl : xs.length ≤ 1000) :
    Calls Try.prog 9 #[v] w fun e w' => e = .returned (.tuple #[.agg (cellsQ (askedQ xs)), .int .u16 (askedE xs)]) ∧ Below w.heap.size w w' := by
  obtain ⟨A, c, rfl, hlc, hcm⟩ := hv.form
  unfold maxLen at hcm
  by_cases h : xs.length = 38
  · obtain ⟨m, hm⟩ : ∃ m, mayB (ofB xs) = m := ⟨_, rfl⟩
    have e1 : askedQ xs = if m = true then ofB xs else zeroQ := by unfold askedQ; rw [hm]; simp [h]
    have e2 : askedE xs = if m = true then 0 else 230 := by unfold askedE; rw [hm]; simp [h]
    have hM := fun W => mayBe_any (ofB xs) (ofB_ok xs hx) W
    rw [hm] at hM
    unfold cellsQ ofB at hM
    dsimp only at hM
    rw [e1, e2]
    have HM := Lib.hid hM
    clear e1 e2 hm hM
    have hne : ((xs.length : Int) != 38) = false := by simp; omega
    have HL := Lib.hid h
    clear h
    have hV := Lib.hid hv
    go_enter Try.func9, Try.ntmps9
    go_wp2_with fail
    (with_reducible refine (one_any w w.heap.size (w.heap.size + 1) _ (xs) hV.out hx _ ?a1 (by simp) ?a2 ?a3 (by have := HL.out; omega)).mono ?_)
    case a1 => intro p hp; exact ((((Below.refl w.heap.size w).alloc (Nat.le_refl _) _).alloc (by simp) _).alloc (by simp; omega) _).cell hp
    case a2 => simp [go_sem]
    case a3 => simp [go_sem]
    rintro e w' ⟨v0, rfl, hv0, rfl⟩
    have V0 := Lib.hid hv0
    clear hv0 hV
    go_wp2_with fail
    (with_reducible refine (four_any w w.heap.size (w.heap.size + 1) _ (xs.drop 1) V0.out (bytes_drop hx 1) _ ?a1 (by simp) ?a2 ?a3 (by simp only [List.length_drop]; have := HL.out; omega)).mono ?_)
    case a1 => intro p hp; exact ((((Below.refl w.heap.size w).alloc (Nat.le_refl _) _).alloc (by simp) _).alloc (by simp; omega) _).cell hp
    case a2 => simp [go_sem]
    case a3 => simp [go_sem]
    rintro e w' ⟨v1, rfl, hv1, rfl⟩
    rw [at_drop]
    rw [List.drop_drop] at hv1
    have V1 := Lib.hid hv1
    clear hv1 V0
    go_wp2_with fail
    (with_reducible refine (one_any w w.heap.size (w.heap.size + 1) _ (xs.drop 5) V1.out (bytes_drop hx 5) _ ?a1 (by simp) ?a2 ?a3 (by simp only [List.length_drop]; have := HL.out; omega)).mono ?_)
    case a1 => intro p hp; exact ((((Below.refl w.heap.size w).alloc (Nat.le_refl _) _).alloc (by simp) _).alloc (by simp; omega) _).cell hp
    case a2 => simp [go_sem]
    case a3 => simp [go_sem]
    rintro e w' ⟨v2, rfl, hv2, rfl⟩
    rw [at_drop]
    rw [List.drop_drop] at hv2
    have V2 := Lib.hid hv2
    clear hv2 V1
    go_wp2_with fail
    (with_reducible refine (four_any w w.heap.size (w.heap.size + 1) _ (xs.drop 6) V2.out (bytes_drop hx 6) _ ?a1 (by simp) ?a2 ?a3 (by simp only [List.length_drop]; have := HL.out; omega)).mono ?_)
    case a1 => intro p hp; exact ((((Below.refl w.heap.size w).alloc (Nat.le_refl _) _).alloc (by simp) _).alloc (by simp; omega) _).cell hp
    case a2 => simp [go_sem]
    case a3 => simp [go_sem]
    rintro e w' ⟨v3, rfl, hv3, rfl⟩
    rw [at_drop]
    rw [List.drop_drop] at hv3
    have V3 := Lib.hid hv3
    clear hv3 V2
    go_wp2_with fail
    (with_reducible refine (four_any w w.heap.size (w.heap.size + 1) _ (xs.drop 10) V3.out (bytes_drop hx 10) _ ?a1 (by simp) ?a2 ?a3 (by simp only [List.length_drop]; have := HL.out; omega)).mono ?_)
    case a1 => intro p hp; exact ((((Below.refl w.heap.size w).alloc (Nat.le_refl _) _).alloc (by simp) _).alloc (by simp; omega) _).cell hp
    case a2 => simp [go_sem]
    case a3 => simp [go_sem]
    rintro e w' ⟨v4, rfl, hv4, rfl⟩
    rw [at_drop]
    rw [List.drop_drop] at hv4
    have V4 := Lib.hid hv4
    clear hv4 V3
    go_wp2_with fail
    (with_reducible refine (four_any w w.heap.size (w.heap.size + 1) _ (xs.drop 14) V4.out (bytes_drop hx 14) _ ?a1 (by simp) ?a2 ?a3 (by simp only [List.length_drop]; have := HL.out; omega)).mono ?_)
    case a1 => intro p hp; exact ((((Below.refl w.heap.size w).alloc (Nat.le_refl _) _).alloc (by simp) _).alloc (by simp; omega) _).cell hp
    case a2 => simp [go_sem]
    case a3 => simp [go_sem]
    rintro e w' ⟨v5, rfl, hv5, rfl⟩
    rw [at_drop]
    rw [List.drop_drop] at hv5
    have V5 := Lib.hid hv5
    clear hv5 V4
    go_wp2_with fail
    (with_reducible refine (four_any w w.heap.size (w.heap.size + 1) _ (xs.drop 18) V5.out (bytes_drop hx 18) _ ?a1 (by simp) ?a2 ?a3 (by simp only [List.length_drop]; have := HL.out; omega)).mono ?_)
    case a1 => intro p hp; exact ((((Below.refl w.heap.size w).alloc (Nat.le_refl _) _).alloc (by simp) _).alloc (by simp; omega) _).cell hp
    case a2 => simp [go_sem]
    case a3 => simp [go_sem]
    rintro e w' ⟨v6, rfl, hv6, rfl⟩
    rw [at_drop]
    rw [List.drop_drop] at hv6
    have V6 := Lib.hid hv6
    clear hv6 V5
    go_wp2_with fail
    (with_reducible refine (eight_any w w.heap.size (w.heap.size + 1) _ (xs.drop 22) V6.out (bytes_drop hx 22) _ ?a1 (by simp) ?a2 ?a3 (by simp only [List.length_drop]; have := HL.out; omega)).mono ?_)
    case a1 => intro p hp; exact ((((Below.refl w.heap.size w).alloc (Nat.le_refl _) _).alloc (by simp) _).alloc (by simp; omega) _).cell hp
    case a2 => simp [go_sem]
    case a3 => simp [go_sem]
    rintro e w' ⟨v7, rfl, hv7, rfl⟩
    rw [at_drop]
    rw [List.drop_drop] at hv7
    have V7 := Lib.hid hv7
    clear hv7 V6
    go_wp2_with fail
    (with_reducible refine (eight_any w w.heap.size (w.heap.size + 1) _ (xs.drop 30) V7.out (bytes_drop hx 30) _ ?a1 (by simp) ?a2 ?a3 (by simp only [List.length_drop]; have := HL.out; omega)).mono ?_)
    case a1 => intro p hp; exact ((((Below.refl w.heap.size w).alloc (Nat.le_refl _) _).alloc (by simp) _).alloc (by simp; omega) _).cell hp
    case a2 => simp [go_sem]
    case a3 => simp [go_sem]
    rintro e w' ⟨v8, rfl, hv8, rfl⟩
    rw [at_drop]
    rw [List.drop_drop] at hv8
    have V8 := Lib.hid hv8
    clear hv8 V7
    clear V8
    go_wp2_with fail
    (with_reducible refine (HM.out _).mono ?_)
    rintro e w5 ⟨rfl, hb5⟩
    have bR := (((Box.new w #[.int .u8 0, .int .u32 0, .int .u8 0, .int .u32 0, .int .u32 0, .int .u32 0, .int .u32 0, .int .u64 0, .int .u64 0] 27).alloc (.cells #[v8] 50)).alloc (.cells #[.int .u8 (at_ xs 0 1), .int .u32 (at_ xs 1 4), .int .u8 (at_ xs 5 1), .int .u32 (at_ xs 6 4), .int .u32 (at_ xs 10 4), .int .u32 (at_ xs 14 4), .int .u32 (at_ xs 18 4), .int .u64 (at_ xs 22 8), .int .u64 (at_ xs 30 8)] 27)).later hb5
    have br : Box w5 (w.heap.size + 1 + 1) #[.int .u8 (at_ xs 0 1), .int .u32 (at_ xs 1 4), .int .u8 (at_ xs 5 1), .int .u32 (at_ xs 6 4), .int .u32 (at_ xs 10 4), .int .u32 (at_ xs 14 4), .int .u32 (at_ xs 18 4), .int .u64 (at_ xs 22 8), .int .u64 (at_ xs 30 8)] 27 := by
      have := (Box.new ((w.alloc (.cells #[.int .u8 0, .int .u32 0, .int .u8 0, .int .u32 0, .int .u32 0, .int .u32 0, .int .u32 0, .int .u64 0, .int .u64 0] 27)).alloc (.cells #[v8] 50)) #[.int .u8 (at_ xs 0 1), .int .u32 (at_ xs 1 4), .int .u8 (at_ xs 5 1), .int .u32 (at_ xs 6 4), .int .u32 (at_ xs 10 4), .int .u32 (at_ xs 14 4), .int .u32 (at_ xs 18 4), .int .u64 (at_ xs 22 8), .int .u64 (at_ xs 30 8)] 27).later hb5
      simpa using this
    have r0 : w5.cell? ⟨w.heap.size + 1 + 1, 0, none⟩ = some (.int .u8 (at_ xs 0 1)) := br.cell 0
    have r1 : w5.cell? ⟨w.heap.size + 1 + 1, 1, none⟩ = some (.int .u32 (at_ xs 1 4)) := br.cell 1
    have r2 : w5.cell? ⟨w.heap.size + 1 + 1, 2, none⟩ = some (.int .u8 (at_ xs 5 1)) := br.cell 2
    have r3 : w5.cell? ⟨w.heap.size + 1 + 1, 3, none⟩ = some (.int .u32 (at_ xs 6 4)) := br.cell 3
    have r4 : w5.cell? ⟨w.heap.size + 1 + 1, 4, none⟩ = some (.int .u32 (at_ xs 10 4)) := br.cell 4
    have r5 : w5.cell? ⟨w.heap.size + 1 + 1, 5, none⟩ = some (.int .u32 (at_ xs 14 4)) := br.cell 5
    have r6 : w5.cell? ⟨w.heap.size + 1 + 1, 6, none⟩ = some (.int .u32 (at_ xs 18 4)) := br.cell 6
    have r7 : w5.cell? ⟨w.heap.size + 1 + 1, 7, none⟩ = some (.int .u64 (at_ xs 22 8)) := br.cell 7
    have r8 : w5.cell? ⟨w.heap.size + 1 + 1, 8, none⟩ = some (.int .u64 (at_ xs 30 8)) := br.cell 8
    have o0 : w5.cell? ⟨w.heap.size, 0, none⟩ = some (.int .u8 0) := bR.cell 0
    have f0 := bR.frozen 0
    have o1 : w5.cell? ⟨w.heap.size, 1, none⟩ = some (.int .u32 0) := bR.cell 1
    have f1 := bR.frozen 1
    have o2 : w5.cell? ⟨w.heap.size, 2, none⟩ = some (.int .u8 0) := bR.cell 2
    have f2 := bR.frozen 2
    have o3 : w5.cell? ⟨w.heap.size, 3, none⟩ = some (.int .u32 0) := bR.cell 3
    have f3 := bR.frozen 3
    have o4 : w5.cell? ⟨w.heap.size, 4, none⟩ = some (.int .u32 0) := bR.cell 4
    have f4 := bR.frozen 4
    have o5 : w5.cell? ⟨w.heap.size, 5, none⟩ = some (.int .u32 0) := bR.cell 5
    have f5 := bR.frozen 5
    have o6 : w5.cell? ⟨w.heap.size, 6, none⟩ = some (.int .u32 0) := bR.cell 6
    have f6 := bR.frozen 6
    have o7 : w5.cell? ⟨w.heap.size, 7, none⟩ = some (.int .u64 0) := bR.cell 7
    have f7 := bR.frozen 7
    have o8 : w5.cell? ⟨w.heap.size, 8, none⟩ = some (.int .u64 0) := bR.cell 8
    have f8 := bR.frozen 8
    have hbw : Below w.heap.size w w5 := step_ ((((Below.refl w.heap.size w).alloc (Nat.le_refl _) _).alloc (by simp) _).alloc (by simp; omega) _) hb5
    have HBR := Lib.hid bR
    clear bR br hb5
    cases m
    · go_wp2
      have bf : Box (((((((((w5.setCell ⟨w.heap.size, 0, none⟩ (.int .u8 0)).setCell ⟨w.heap.size, 1, none⟩ (.int .u32 0)).setCell ⟨w.heap.size, 2, none⟩ (.int .u8 0)).setCell ⟨w.heap.size, 3, none⟩ (.int .u32 0)).setCell ⟨w.heap.size, 4, none⟩ (.int .u32 0)).setCell ⟨w.heap.size, 5, none⟩ (.int .u32 0)).setCell ⟨w.heap.size, 6, none⟩ (.int .u32 0)).setCell ⟨w.heap.size, 7, none⟩ (.int .u64 0)).setCell ⟨w.heap.size, 8, none⟩ (.int .u64 0)) w.heap.size #[.int .u8 0, .int .u32 0, .int .u8 0, .int .u32 0, .int .u32 0, .int .u32 0, .int .u32 0, .int .u64 0, .int .u64 0] 27 := by
        have bf := (Box.set_ (Box.set_ (Box.set_ (Box.set_ (Box.set_ (Box.set_ (Box.set_ (Box.set_ (Box.set_ HBR.out 0 (.int .u8 0)) 1 (.int .u32 0)) 2 (.int .u8 0)) 3 (.int .u32 0)) 4 (.int .u32 0)) 5 (.int .u32 0)) 6 (.int .u32 0)) 7 (.int .u64 0)) 8 (.int .u64 0))
        simpa only [List.setIfInBounds_toArray, List.set_cons_succ, List.set_cons_zero] using bf
      have hbf : Below w.heap.size w (((((((((w5.setCell ⟨w.heap.size, 0, none⟩ (.int .u8 0)).setCell ⟨w.heap.size, 1, none⟩ (.int .u32 0)).setCell ⟨w.heap.size, 2, none⟩ (.int .u8 0)).setCell ⟨w.heap.size, 3, none⟩ (.int .u32 0)).setCell ⟨w.heap.size, 4, none⟩ (.int .u32 0)).setCell ⟨w.heap.size, 5, none⟩ (.int .u32 0)).setCell ⟨w.heap.size, 6, none⟩ (.int .u32 0)).setCell ⟨w.heap.size, 7, none⟩ (.int .u64 0)).setCell ⟨w.heap.size, 8, none⟩ (.int .u64 0)) := (Below.setCell (Below.setCell (Below.setCell (Below.setCell (Below.setCell (Below.setCell (Below.setCell (Below.setCell (Below.setCell hbw (Nat.le_refl _) _) (Nat.le_refl _) _) (Nat.le_refl _) _) (Nat.le_refl _) _) (Nat.le_refl _) _) (Nat.le_refl _) _) (Nat.le_refl _) _) (Nat.le_refl _) _) (Nat.le_refl _) _)
      generalize (((((((((w5.setCell ⟨w.heap.size, 0, none⟩ (.int .u8 0)).setCell ⟨w.heap.size, 1, none⟩ (.int .u32 0)).setCell ⟨w.heap.size, 2, none⟩ (.int .u8 0)).setCell ⟨w.heap.size, 3, none⟩ (.int .u32 0)).setCell ⟨w.heap.size, 4, none⟩ (.int .u32 0)).setCell ⟨w.heap.size, 5, none⟩ (.int .u32 0)).setCell ⟨w.heap.size, 6, none⟩ (.int .u32 0)).setCell ⟨w.heap.size, 7, none⟩ (.int .u64 0)).setCell ⟨w.heap.size, 8, none⟩ (.int .u64 0)) = wf at bf hbf ⊢
      have t0 : wf.cell? ⟨w.heap.size, 0, none⟩ = some (.int .u8 0) := bf.cell 0
      have t1 : wf.cell? ⟨w.heap.size, 1, none⟩ = some (.int .u32 0) := bf.cell 1
      have t2 : wf.cell? ⟨w.heap.size, 2, none⟩ = some (.int .u8 0) := bf.cell 2
      have t3 : wf.cell? ⟨w.heap.size, 3, none⟩ = some (.int .u32 0) := bf.cell 3
      have t4 : wf.cell? ⟨w.heap.size, 4, none⟩ = some (.int .u32 0) := bf.cell 4
      have t5 : wf.cell? ⟨w.heap.size, 5, none⟩ = some (.int .u32 0) := bf.cell 5
      have t6 : wf.cell? ⟨w.heap.size, 6, none⟩ = some (.int .u32 0) := bf.cell 6
      have t7 : wf.cell? ⟨w.heap.size, 7, none⟩ = some (.int .u64 0) := bf.cell 7
      have t8 : wf.cell? ⟨w.heap.size, 8, none⟩ = some (.int .u64 0) := bf.cell 8
      clear bf
      refine bodyPost_ret (v := .tuple #[.agg (cellsQ zeroQ), .int .u16 230]) (by simp [results, Try.results9, go_sem, cellsQ, zeroQ, t0, t1, t2, t3, t4, t5, t6, t7, t8]; try rfl) rfl ?_
      exact ⟨rfl, hbf⟩
    · go_wp2
      have bf : Box (((((((((w5.setCell ⟨w.heap.size, 0, none⟩ (.int .u8 (at_ xs 0 1))).setCell ⟨w.heap.size, 1, none⟩ (.int .u32 (at_ xs 1 4))).setCell ⟨w.heap.size, 2, none⟩ (.int .u8 (at_ xs 5 1))).setCell ⟨w.heap.size, 3, none⟩ (.int .u32 (at_ xs 6 4))).setCell ⟨w.heap.size, 4, none⟩ (.int .u32 (at_ xs 10 4))).setCell ⟨w.heap.size, 5, none⟩ (.int .u32 (at_ xs 14 4))).setCell ⟨w.heap.size, 6, none⟩ (.int .u32 (at_ xs 18 4))).setCell ⟨w.heap.size, 7, none⟩ (.int .u64 (at_ xs 22 8))).setCell ⟨w.heap.size, 8, none⟩ (.int .u64 (at_ xs 30 8))) w.heap.size #[.int .u8 (at_ xs 0 1), .int .u32 (at_ xs 1 4), .int .u8 (at_ xs 5 1), .int .u32 (at_ xs 6 4), .int .u32 (at_ xs 10 4), .int .u32 (at_ xs 14 4), .int .u32 (at_ xs 18 4), .int .u64 (at_ xs 22 8), .int .u64 (at_ xs 30 8)] 27 := by
        have bf := (Box.set_ (Box.set_ (Box.set_ (Box.set_ (Box.set_ (Box.set_ (Box.set_ (Box.set_ (Box.set_ HBR.out 0 (.int .u8 (at_ xs 0 1))) 1 (.int .u32 (at_ xs 1 4))) 2 (.int .u8 (at_ xs 5 1))) 3 (.int .u32 (at_ xs 6 4))) 4 (.int .u32 (at_ xs 10 4))) 5 (.int .u32 (at_ xs 14 4))) 6 (.int .u32 (at_ xs 18 4))) 7 (.int .u64 (at_ xs 22 8))) 8 (.int .u64 (at_ xs 30 8)))
        simpa only [List.setIfInBounds_toArray, List.set_cons_succ, List.set_cons_zero] using bf
      have hbf : Below w.heap.size w (((((((((w5.setCell ⟨w.heap.size, 0, none⟩ (.int .u8 (at_ xs 0 1))).setCell ⟨w.heap.size, 1, none⟩ (.int .u32 (at_ xs 1 4))).setCell ⟨w.heap.size, 2, none⟩ (.int .u8 (at_ xs 5 1))).setCell ⟨w.heap.size, 3, none⟩ (.int .u32 (at_ xs 6 4))).setCell ⟨w.heap.size, 4, none⟩ (.int .u32 (at_ xs 10 4))).setCell ⟨w.heap.size, 5, none⟩ (.int .u32 (at_ xs 14 4))).setCell ⟨w.heap.size, 6, none⟩ (.int .u32 (at_ xs 18 4))).setCell ⟨w.heap.size, 7, none⟩ (.int .u64 (at_ xs 22 8))).setCell ⟨w.heap.size, 8, none⟩ (.int .u64 (at_ xs 30 8))) := (Below.setCell (Below.setCell (Below.setCell (Below.setCell (Below.setCell (Below.setCell (Below.setCell (Below.setCell (Below.setCell hbw (Nat.le_refl _) _) (Nat.le_refl _) _) (Nat.le_refl _) _) (Nat.le_refl _) _) (Nat.le_refl _) _) (Nat.le_refl _) _) (Nat.le_refl _) _) (Nat.le_refl _) _) (Nat.le_refl _) _)
      generalize (((((((((w5.setCell ⟨w.heap.size, 0, none⟩ (.int .u8 (at_ xs 0 1))).setCell ⟨w.heap.size, 1, none⟩ (.int .u32 (at_ xs 1 4))).setCell ⟨w.heap.size, 2, none⟩ (.int .u8 (at_ xs 5 1))).setCell ⟨w.heap.size, 3, none⟩ (.int .u32 (at_ xs 6 4))).setCell ⟨w.heap.size, 4, none⟩ (.int .u32 (at_ xs 10 4))).setCell ⟨w.heap.size, 5, none⟩ (.int .u32 (at_ xs 14 4))).setCell ⟨w.heap.size, 6, none⟩ (.int .u32 (at_ xs 18 4))).setCell ⟨w.heap.size, 7, none⟩ (.int .u64 (at_ xs 22 8))).setCell ⟨w.heap.size, 8, none⟩ (.int .u64 (at_ xs 30 8))) = wf at bf hbf ⊢
      have t0 : wf.cell? ⟨w.heap.size, 0, none⟩ = some (.int .u8 (at_ xs 0 1)) := bf.cell 0
      have t1 : wf.cell? ⟨w.heap.size, 1, none⟩ = some (.int .u32 (at_ xs 1 4)) := bf.cell 1
      have t2 : wf.cell? ⟨w.heap.size, 2, none⟩ = some (.int .u8 (at_ xs 5 1)) := bf.cell 2
      have t3 : wf.cell? ⟨w.heap.size, 3, none⟩ = some (.int .u32 (at_ xs 6 4)) := bf.cell 3
      have t4 : wf.cell? ⟨w.heap.size, 4, none⟩ = some (.int .u32 (at_ xs 10 4)) := bf.cell 4
      have t5 : wf.cell? ⟨w.heap.size, 5, none⟩ = some (.int .u32 (at_ xs 14 4)) := bf.cell 5
      have t6 : wf.cell? ⟨w.heap.size, 6, none⟩ = some (.int .u32 (at_ xs 18 4)) := bf.cell 6
      have t7 : wf.cell? ⟨w.heap.size, 7, none⟩ = some (.int .u64 (at_ xs 22 8)) := bf.cell 7
      have t8 : wf.cell? ⟨w.heap.size, 8, none⟩ = some (.int .u64 (at_ xs 30 8)) := bf.cell 8
      clear bf
      refine bodyPost_ret (v := .tuple #[.agg (cellsQ (ofB xs)), .int .u16 0]) (by simp [results, Try.results9, go_sem, cellsQ, ofB, t0, t1, t2, t3, t4, t5, t6, t7, t8]; try rfl) rfl ?_
      exact ⟨rfl, hbf⟩
  · have e1 : askedQ xs = zeroQ := by unfold askedQ; rw [if_neg (fun hh => h hh.1)]
    have e2 : askedE xs = 230 := by unfold askedE; rw [if_neg (fun hh => h hh.1)]
    rw [e1, e2]
    have hne : ((xs.length : Int) != 38) = true := by simp; omega
    clear e1 e2 h
    go_enter Try.func9, Try.ntmps9
    go_wp2
    refine bodyPost_ret (v := .tuple #[.agg (cellsQ zeroQ), .int .u16 230]) (by simp [results, Try.results9, go_sem, cellsQ, zeroQ]; try rfl) rfl ?_
    exact ⟨rfl, new_ (Below.refl _ _) _⟩
end Go.Proofs.Ytnajmdgheohpjaa.Codec