import Derived.Test.YtbbphfhkedldmaaRec9
/- The known answers. -/
namespace Go.Proofs.Ytbbphfhkedldmaa.Rec
open Go.ChangeShapes Go.WideShapes Go.ChangeAt Go.RowKit Go.IntWalk Go.Proofs.NumMath Go.Proofs.Mem Go.Proofs.CrcMath NumBytes CrcA
set_option linter.unusedVariables false
set_option linter.unusedSimpArgs false
set_option maxRecDepth 100000 in
set_option maxHeartbeats 8000000 in
theorem known_any (w : World) : Calls Try.prog 10 #[] w fun e w' => e = .returned (.bool true) ∧ Below w.heap.size w w' := by
  have EN := Lib.hid (encode_bare 1 1 0 0 (.inl rfl) (by decide) (by decide) (by decide) w)
  have DF := fun A c W => Lib.hid (decode_few A 26 c (by decide) W)
  have DA := fun (W : World) A c (hv : IR W W.heap.size .u8 (.slice A 27 c) (bareB 1 1 0 0)) => Lib.hid (decode_all 1 1 0 0 (.inl rfl) (by decide) (by decide) (by decide) W W.heap.size (Nat.le_refl _) A c hv)
  unfold bareC at DF DA
  go_enter Try.func10, Try.ntmps10
  go_wp2_with (first
    | (go_at_call 12; (with_reducible refine EN.out.mono ?_); rintro e w1 ⟨u, rfl, hu, hb1⟩
       have HI := Lib.hid (IR.of_own hu)
       obtain ⟨A, c, hv, hl, hm⟩ := HI.out.form
       rw [bareB_len] at hl hv
       subst hv
       have hm' : c ≤ 9223372036854775807 := by unfold maxLen at hm; omega
       have HB1 := Lib.hid hb1
       clear hu hb1)
    | (go_at_call 16; (with_reducible refine (DF _ _ _).out.mono ?_); rintro e w2 ⟨rfl, hb2⟩
       have HI2 := Lib.hid ((HI.out.below hb2).alloc hb2.size (.cells (bareC 0 0 0 0) 31))
       have HB2 := Lib.hid (new_ (step_ HB1.out hb2) (.cells (bareC 0 0 0 0) 31))
       have z2 : w1.heap.size ≤ (w2.alloc (.cells (bareC 0 0 0 0) 31)).heap.size := by have := hb2.size; simp; omega
       have D2 := DA _ _ _ (HI2.out.more z2)
       clear hb2)
    | (go_at_call 16; (with_reducible refine D2.out.mono ?_); rintro e w3 ⟨rfl, hb3⟩; have HB3 := Lib.hid (step_ HB2.out hb3); clear hb3))
  go_ret
  exact ⟨rfl, new_ HB3.out _⟩
end Go.Proofs.Ytbbphfhkedldmaa.Rec
