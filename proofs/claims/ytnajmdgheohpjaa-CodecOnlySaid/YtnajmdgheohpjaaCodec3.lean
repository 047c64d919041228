import Derived.Test.YtnajmdgheohpjaaCodec1
import Derived.Test.YtnajmdgheohpjaaBox
/- The document's bytes of requests and replies. -/
namespace Go.Proofs.Ytnajmdgheohpjaa.Codec
open Go.ChangeShapes Go.WideShapes Go.ChangeAt Go.RowKit Go.IntWalk Go.Proofs.NumMath Go.Proofs.Mem NumBytes
set_option linter.unusedVariables false
set_option maxRecDepth 100000 in
set_option maxHeartbeats 8000000 in
theorem tell_ref (r : Rp) (h : r.Ok) (w : World) : Calls Try.prog 17 #[.agg (cellsP r)] w fun e w' => ∃ u, e = .returned u ∧ IR w' w'.heap.size .u8 u (tellB r) ∧ Below w.heap.size w w' := by
  obtain ⟨⟨l0, u0⟩, ⟨l1, u1⟩, ⟨l2, u2⟩, ⟨l3, u3⟩⟩ := h
  obtain ⟨e, a, b, c⟩ := r
  dsimp only at *
  unfold cellsP tellB
  dsimp only
  obtain ⟨i0, hi0, hz0, hz1, hz2⟩ := info_parts u8_info
  have bx0 := Box.new w #[.int .u16 e, .int .u64 a, .int .u64 b, .int .u64 c] 41
  go_enter Try.func17, Try.ntmps17
  have hb0 : Below w.heap.size w (w.alloc (.cells #[.int .u16 e, .int .u64 a, .int .u64 b, .int .u64 c] 41)) := new_ (Below.refl w.heap.size w) _
  go_wp2_with fail
  (with_reducible refine (put_ref e 2 l0 (by omega) (by omega) (by omega) _).mono ?_)
  rintro e wp0 ⟨vp0, rfl, hp0, hbp0⟩
  rw [show (2 : Int).toNat = 2 from rfl] at hp0
  have bxp0 := bx0.later hbp0
  have hbw0 := step_ hb0 hbp0
  have hq0 := own_lower hp0 (base' := w.heap.size + 1) (by simp)
  have B0 := Lib.hid bxp0
  clear bxp0 hp0
  have x1 : wp0.cell? ⟨w.heap.size, 1, none⟩ = some (.int .u64 a) := B0.out.cell 1
  go_wp2_with fail
  (with_reducible refine (put_ref a 8 l1 (by omega) (by omega) (by omega) _).mono ?_)
  rintro e wp1 ⟨vp1, rfl, hp1, hbp1⟩
  rw [show (8 : Int).toNat = 8 from rfl] at hp1
  have bxp1 := B0.out.later hbp1
  have hbw1 := step_ hbw0 hbp1
  have ho1 := own_below hq0 hbp1
  have hr1 := IR.of_own hp1
  have zz1 := Box.lt bxp1
  go_wp2_with (first
    | (at_builtin; refine wpList_append_all _ rfl _ _ _ rfl (w.heap.size + 1) 5 i0 .u8 1 Try.underlying28 hi0 hz0 hz1 hz2 _ (2) (putS e 2) rfl ho1 wp1.heap.size _ (putS a 8) rfl hr1 (by rw [putS_len]; simp only [maxLen]; omega) (by rw [putS_len]; omega) zz1 ?_; intro va1 wa1 ha1 hba1; rw [putS_len] at ha1; have B1 := Lib.hid (Box.below bxp1 hba1 (Nat.lt_succ_self _)); have hbz1 := Below.trans hbw1 (hba1.mono (Nat.le_succ _)); have x2 : wa1.cell? ⟨w.heap.size, 2, none⟩ = some (.int .u64 b) := B1.out.cell 2))
  go_wp2_with fail
  (with_reducible refine (put_ref b 8 l2 (by omega) (by omega) (by omega) _).mono ?_)
  rintro e wp2 ⟨vp2, rfl, hp2, hbp2⟩
  rw [show (8 : Int).toNat = 8 from rfl] at hp2
  have bxp2 := B1.out.later hbp2
  have hbw2 := step_ hbz1 hbp2
  have ho2 := own_below ha1 hbp2
  have hr2 := IR.of_own hp2
  have zz2 := Box.lt bxp2
  go_wp2_with (first
    | (at_builtin; refine wpList_append_all _ rfl _ _ _ rfl (w.heap.size + 1) 5 i0 .u8 1 Try.underlying28 hi0 hz0 hz1 hz2 _ (2 + 8) (putS e 2 ++ putS a 8) rfl ho2 wp2.heap.size _ (putS b 8) rfl hr2 (by rw [putS_len]; simp only [maxLen]; omega) (by rw [putS_len]; omega) zz2 ?_; intro va2 wa2 ha2 hba2; rw [putS_len] at ha2; have B2 := Lib.hid (Box.below bxp2 hba2 (Nat.lt_succ_self _)); have hbz2 := Below.trans hbw2 (hba2.mono (Nat.le_succ _)); have x3 : wa2.cell? ⟨w.heap.size, 3, none⟩ = some (.int .u64 c) := B2.out.cell 3))
  go_wp2_with fail
  (with_reducible refine (put_ref c 8 l3 (by omega) (by omega) (by omega) _).mono ?_)
  rintro e wp3 ⟨vp3, rfl, hp3, hbp3⟩
  rw [show (8 : Int).toNat = 8 from rfl] at hp3
  have bxp3 := B2.out.later hbp3
  have hbw3 := step_ hbz2 hbp3
  have ho3 := own_below ha2 hbp3
  have hr3 := IR.of_own hp3
  have zz3 := Box.lt bxp3
  go_wp2_with (first
    | (at_builtin; refine wpList_append_all _ rfl _ _ _ rfl (w.heap.size + 1) 5 i0 .u8 1 Try.underlying28 hi0 hz0 hz1 hz2 _ (2 + 8 + 8) (putS e 2 ++ putS a 8 ++ putS b 8) rfl ho3 wp3.heap.size _ (putS c 8) rfl hr3 (by rw [putS_len]; simp only [maxLen]; omega) (by rw [putS_len]; omega) zz3 ?_; intro va3 wa3 ha3 hba3; rw [putS_len] at ha3; have B3 := Lib.hid (Box.below bxp3 hba3 (Nat.lt_succ_self _)); have hbz3 := Below.trans hbw3 (hba3.mono (Nat.le_succ _))))
  go_ret
  refine ⟨va3, rfl, ?_, hbz3⟩
  have hfin := IR.of_own ha3
  simpa only [List.append_assoc] using hfin
end Go.Proofs.Ytnajmdgheohpjaa.Codec
