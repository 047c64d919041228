import Derived.Test.YtnajmdgheohpjaaCodec1
import Derived.Test.YtnajmdgheohpjaaBox
/- The document's bytes of requests and replies. -/
namespace Go.Proofs.Ytnajmdgheohpjaa.Codec
open Go.ChangeShapes Go.WideShapes Go.ChangeAt Go.RowKit Go.IntWalk Go.Proofs.NumMath Go.Proofs.Mem NumBytes
set_option linter.unusedVariables false
theorem putS_one (n : Int) (h0 : 0 ≤ n) (h1 : n ≤ 255) : putS n 1 = [n] := by simp [putS, List.range_succ]; omega
set_option maxRecDepth 100000 in
set_option maxHeartbeats 8000000 in
theorem ask_ref (r : Rq) (h : r.Ok) (w : World) : Calls Try.prog 13 #[.agg (cellsQ r)] w fun e w' => ∃ u, e = .returned u ∧ IR w' w'.heap.size .u8 u (askB r) ∧ Below w.heap.size w w' := by
  obtain ⟨⟨l0, u0⟩, ⟨l1, u1⟩, ⟨l2, u2⟩, ⟨l3, u3⟩, ⟨l4, u4⟩, ⟨l5, u5⟩, ⟨l6, u6⟩, ⟨l7, u7⟩, ⟨l8, u8⟩⟩ := h
  obtain ⟨kd, n, k, who, whom, what, id, am, pr⟩ := r
  dsimp only at *
  unfold cellsQ askB
  dsimp only
  obtain ⟨i0, hi0, hz0, hz1, hz2⟩ := info_parts u8_info
  have bx0 := Box.new w #[.int .u8 kd, .int .u32 n, .int .u8 k, .int .u32 who, .int .u32 whom, .int .u32 what, .int .u32 id, .int .u64 am, .int .u64 pr] 27
  go_enter Try.func13, Try.ntmps13
  have hb0 : Below w.heap.size w (w.alloc (.cells #[.int .u8 kd, .int .u32 n, .int .u8 k, .int .u32 who, .int .u32 whom, .int .u32 what, .int .u32 id, .int .u64 am, .int .u64 pr] 27)) := new_ (Below.refl w.heap.size w) _
  have hq0 : (((w.alloc (.cells #[.int .u8 kd, .int .u32 n, .int .u8 k, .int .u32 who, .int .u32 whom, .int .u32 what, .int .u32 id, .int .u64 am, .int .u64 pr] 27))).alloc (.cells #[.int .u8 kd] 5)).ownsRow (w.heap.size + 1) 5 1 (.slice (some ⟨w.heap.size + 1, 0, none⟩) 1 1) 1 ([kd].map (.int .u8)) := ⟨rfl, .inr ⟨w.heap.size + 1, 1, #[.int .u8 kd], rfl, Nat.le_refl _, by rw [← show ((w.alloc (.cells #[.int .u8 kd, .int .u32 n, .int .u8 k, .int .u32 who, .int .u32 whom, .int .u32 what, .int .u32 id, .int .u64 am, .int .u64 pr] 27))).heap.size = w.heap.size + 1 by simp]; exact heap_alloc_new _ _, Nat.le_refl _, by unfold maxLen; omega, rfl, rfl⟩⟩
  have hb0z := new_ hb0 (.cells #[.int .u8 kd] 5)
  have B0 := Lib.hid (bx0.alloc (.cells #[.int .u8 kd] 5))
  have x1 : (((w.alloc (.cells #[.int .u8 kd, .int .u32 n, .int .u8 k, .int .u32 who, .int .u32 whom, .int .u32 what, .int .u32 id, .int .u64 am, .int .u64 pr] 27))).alloc (.cells #[.int .u8 kd] 5)).cell? ⟨w.heap.size, 1, none⟩ = some (.int .u32 n) := B0.out.cell 1
  go_wp2_with fail
  (with_reducible refine (put_ref n 4 l1 (by omega) (by omega) (by omega) _).mono ?_)
  rintro e wp1 ⟨vp1, rfl, hp1, hbp1⟩
  rw [show (4 : Int).toNat = 4 from rfl] at hp1
  have bxp1 := B0.out.later hbp1
  have hbw1 := step_ hb0z hbp1
  have ho1 := own_below hq0 hbp1
  have hr1 := IR.of_own hp1
  have zz1 := Box.lt bxp1
  go_wp2_with (first
    | (at_builtin; refine wpList_append_all _ rfl _ _ _ rfl (w.heap.size + 1) 5 i0 .u8 1 Try.underlying28 hi0 hz0 hz1 hz2 _ (1) ([kd]) rfl ho1 wp1.heap.size _ (putS n 4) rfl hr1 (by rw [putS_len]; simp only [maxLen]; omega) (by rw [putS_len]; omega) zz1 ?_; intro va1 wa1 ha1 hba1; rw [putS_len] at ha1; have B1 := Lib.hid (Box.below bxp1 hba1 (Nat.lt_succ_self _)); have hbz1 := Below.trans hbw1 (hba1.mono (Nat.le_succ _)); have x2 : wa1.cell? ⟨w.heap.size, 2, none⟩ = some (.int .u8 k) := B1.out.cell 2)
    | (at_builtin; refine wpList_push _ rfl _ _ _ rfl (w.heap.size + 1) 5 i0 .u8 1 Try.underlying28 hi0 hz0 hz1 hz2 _ (1 + 4) ([kd] ++ putS n 4) rfl (World.ownsRow.alloc ha1 _) wa1.heap.size k rfl (cell_new _ _ _ 0) (by simp only [maxLen]; omega) (by omega) (by have := Box.lt B1.out; simp; omega) ?_; intro va2 wa2 ha2 hba2; have B2 := Lib.hid (Box.below (B1.out.alloc _) hba2 (Nat.lt_succ_self _)); have hbz2 := Below.trans (new_ hbz1 _) (hba2.mono (Nat.le_succ _)); have x3 : wa2.cell? ⟨w.heap.size, 3, none⟩ = some (.int .u32 who) := B2.out.cell 3))
  go_wp2_with fail
  (with_reducible refine (put_ref who 4 l3 (by omega) (by omega) (by omega) _).mono ?_)
  rintro e wp3 ⟨vp3, rfl, hp3, hbp3⟩
  rw [show (4 : Int).toNat = 4 from rfl] at hp3
  have bxp3 := B2.out.later hbp3
  have hbw3 := step_ hbz2 hbp3
  have ho3 := own_below ha2 hbp3
  have hr3 := IR.of_own hp3
  have zz3 := Box.lt bxp3
  go_wp2_with (first
    | (at_builtin; refine wpList_append_all _ rfl _ _ _ rfl (w.heap.size + 1) 5 i0 .u8 1 Try.underlying28 hi0 hz0 hz1 hz2 _ (1 + 4 + 1) ([kd] ++ putS n 4 ++ [k]) rfl ho3 wp3.heap.size _ (putS who 4) rfl hr3 (by rw [putS_len]; simp only [maxLen]; omega) (by rw [putS_len]; omega) zz3 ?_; intro va3 wa3 ha3 hba3; rw [putS_len] at ha3; have B3 := Lib.hid (Box.below bxp3 hba3 (Nat.lt_succ_self _)); have hbz3 := Below.trans hbw3 (hba3.mono (Nat.le_succ _)); have x4 : wa3.cell? ⟨w.heap.size, 4, none⟩ = some (.int .u32 whom) := B3.out.cell 4))
  go_wp2_with fail
  (with_reducible refine (put_ref whom 4 l4 (by omega) (by omega) (by omega) _).mono ?_)
  rintro e wp4 ⟨vp4, rfl, hp4, hbp4⟩
  rw [show (4 : Int).toNat = 4 from rfl] at hp4
  have bxp4 := B3.out.later hbp4
  have hbw4 := step_ hbz3 hbp4
  have ho4 := own_below ha3 hbp4
  have hr4 := IR.of_own hp4
  have zz4 := Box.lt bxp4
  go_wp2_with (first
    | (at_builtin; refine wpList_append_all _ rfl _ _ _ rfl (w.heap.size + 1) 5 i0 .u8 1 Try.underlying28 hi0 hz0 hz1 hz2 _ (1 + 4 + 1 + 4) ([kd] ++ putS n 4 ++ [k] ++ putS who 4) rfl ho4 wp4.heap.size _ (putS whom 4) rfl hr4 (by rw [putS_len]; simp only [maxLen]; omega) (by rw [putS_len]; omega) zz4 ?_; intro va4 wa4 ha4 hba4; rw [putS_len] at ha4; have B4 := Lib.hid (Box.below bxp4 hba4 (Nat.lt_succ_self _)); have hbz4 := Below.trans hbw4 (hba4.mono (Nat.le_succ _)); have x5 : wa4.cell? ⟨w.heap.size, 5, none⟩ = some (.int .u32 what) := B4.out.cell 5))
  go_wp2_with fail
  (with_reducible refine (put_ref what 4 l5 (by omega) (by omega) (by omega) _).mono ?_)
  rintro e wp5 ⟨vp5, rfl, hp5, hbp5⟩
  rw [show (4 : Int).toNat = 4 from rfl] at hp5
  have bxp5 := B4.out.later hbp5
  have hbw5 := step_ hbz4 hbp5
  have ho5 := own_below ha4 hbp5
  have hr5 := IR.of_own hp5
  have zz5 := Box.lt bxp5
  go_wp2_with (first
    | (at_builtin; refine wpList_append_all _ rfl _ _ _ rfl (w.heap.size + 1) 5 i0 .u8 1 Try.underlying28 hi0 hz0 hz1 hz2 _ (1 + 4 + 1 + 4 + 4) ([kd] ++ putS n 4 ++ [k] ++ putS who 4 ++ putS whom 4) rfl ho5 wp5.heap.size _ (putS what 4) rfl hr5 (by rw [putS_len]; simp only [maxLen]; omega) (by rw [putS_len]; omega) zz5 ?_; intro va5 wa5 ha5 hba5; rw [putS_len] at ha5; have B5 := Lib.hid (Box.below bxp5 hba5 (Nat.lt_succ_self _)); have hbz5 := Below.trans hbw5 (hba5.mono (Nat.le_succ _)); have x6 : wa5.cell? ⟨w.heap.size, 6, none⟩ = some (.int .u32 id) := B5.out.cell 6))
  go_wp2_with fail
  (with_reducible refine (put_ref id 4 l6 (by omega) (by omega) (by omega) _).mono ?_)
  rintro e wp6 ⟨vp6, rfl, hp6, hbp6⟩
  rw [show (4 : Int).toNat = 4 from rfl] at hp6
  have bxp6 := B5.out.later hbp6
  have hbw6 := step_ hbz5 hbp6
  have ho6 := own_below ha5 hbp6
  have hr6 := IR.of_own hp6
  have zz6 := Box.lt bxp6
  go_wp2_with (first
    | (at_builtin; refine wpList_append_all _ rfl _ _ _ rfl (w.heap.size + 1) 5 i0 .u8 1 Try.underlying28 hi0 hz0 hz1 hz2 _ (1 + 4 + 1 + 4 + 4 + 4) ([kd] ++ putS n 4 ++ [k] ++ putS who 4 ++ putS whom 4 ++ putS what 4) rfl ho6 wp6.heap.size _ (putS id 4) rfl hr6 (by rw [putS_len]; simp only [maxLen]; omega) (by rw [putS_len]; omega) zz6 ?_; intro va6 wa6 ha6 hba6; rw [putS_len] at ha6; have B6 := Lib.hid (Box.below bxp6 hba6 (Nat.lt_succ_self _)); have hbz6 := Below.trans hbw6 (hba6.mono (Nat.le_succ _)); have x7 : wa6.cell? ⟨w.heap.size, 7, none⟩ = some (.int .u64 am) := B6.out.cell 7))
  go_wp2_with fail
  (with_reducible refine (put_ref am 8 l7 (by omega) (by omega) (by omega) _).mono ?_)
  rintro e wp7 ⟨vp7, rfl, hp7, hbp7⟩
  rw [show (8 : Int).toNat = 8 from rfl] at hp7
  have bxp7 := B6.out.later hbp7
  have hbw7 := step_ hbz6 hbp7
  have ho7 := own_below ha6 hbp7
  have hr7 := IR.of_own hp7
  have zz7 := Box.lt bxp7
  go_wp2_with (first
    | (at_builtin; refine wpList_append_all _ rfl _ _ _ rfl (w.heap.size + 1) 5 i0 .u8 1 Try.underlying28 hi0 hz0 hz1 hz2 _ (1 + 4 + 1 + 4 + 4 + 4 + 4) ([kd] ++ putS n 4 ++ [k] ++ putS who 4 ++ putS whom 4 ++ putS what 4 ++ putS id 4) rfl ho7 wp7.heap.size _ (putS am 8) rfl hr7 (by rw [putS_len]; simp only [maxLen]; omega) (by rw [putS_len]; omega) zz7 ?_; intro va7 wa7 ha7 hba7; rw [putS_len] at ha7; have B7 := Lib.hid (Box.below bxp7 hba7 (Nat.lt_succ_self _)); have hbz7 := Below.trans hbw7 (hba7.mono (Nat.le_succ _)); have x8 : wa7.cell? ⟨w.heap.size, 8, none⟩ = some (.int .u64 pr) := B7.out.cell 8))
  go_wp2_with fail
  (with_reducible refine (put_ref pr 8 l8 (by omega) (by omega) (by omega) _).mono ?_)
  rintro e wp8 ⟨vp8, rfl, hp8, hbp8⟩
  rw [show (8 : Int).toNat = 8 from rfl] at hp8
  have bxp8 := B7.out.later hbp8
  have hbw8 := step_ hbz7 hbp8
  have ho8 := own_below ha7 hbp8
  have hr8 := IR.of_own hp8
  have zz8 := Box.lt bxp8
  go_wp2_with (first
    | (at_builtin; refine wpList_append_all _ rfl _ _ _ rfl (w.heap.size + 1) 5 i0 .u8 1 Try.underlying28 hi0 hz0 hz1 hz2 _ (1 + 4 + 1 + 4 + 4 + 4 + 4 + 8) ([kd] ++ putS n 4 ++ [k] ++ putS who 4 ++ putS whom 4 ++ putS what 4 ++ putS id 4 ++ putS am 8) rfl ho8 wp8.heap.size _ (putS pr 8) rfl hr8 (by rw [putS_len]; simp only [maxLen]; omega) (by rw [putS_len]; omega) zz8 ?_; intro va8 wa8 ha8 hba8; rw [putS_len] at ha8; have B8 := Lib.hid (Box.below bxp8 hba8 (Nat.lt_succ_self _)); have hbz8 := Below.trans hbw8 (hba8.mono (Nat.le_succ _))))
  go_ret
  refine ⟨va8, rfl, ?_, hbz8⟩
  have hfin := IR.of_own ha8
  rw [putS_one kd l0 u0, putS_one k l2 u2]
  simpa only [List.append_assoc] using hfin
end Go.Proofs.Ytnajmdgheohpjaa.Codec
