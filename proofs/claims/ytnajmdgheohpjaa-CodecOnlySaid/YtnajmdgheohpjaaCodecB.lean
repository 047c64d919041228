import Derived.Test.YtnajmdgheohpjaaCodec8
import Derived.Test.YtnajmdgheohpjaaCodec6
/- The chapter's example. -/
namespace Go.Proofs.Ytnajmdgheohpjaa.Codec
open Go.ChangeShapes Go.WideShapes Go.ChangeAt Go.RowKit Go.IntWalk Go.Proofs.NumMath Go.Proofs.Mem NumBytes
set_option linter.unusedVariables false
set_option maxRecDepth 100000 in
set_option maxHeartbeats 4000000 in
theorem known_any (w : World) : Calls Try.prog 7 #[] w fun e w' => e = .returned (.bool true) ∧ Below w.heap.size w w' := by
  obtain ⟨i0, hi0, hz0, hz1, hz2⟩ := info_parts u8_info
  have hK : (⟨1, 0, 0, 0, 0, 0, 0, 0, 0⟩ : Rq).Ok := by constructor <;> decide
  have HA := fun W => ask_any ⟨1, 0, 0, 0, 0, 0, 0, 0, 0⟩ hK W
  rw [show askB ⟨1, 0, 0, 0, 0, 0, 0, 0, 0⟩ = 1 :: List.replicate 37 0 by decide] at HA
  unfold cellsQ at HA
  dsimp only at HA
  have H := Lib.hid HA
  clear HA
  go_enter Try.func7, Try.ntmps7
  go_wp2_with fail
  (with_reducible refine (H.out _).mono ?_)
  rintro e w1 ⟨v, rfl, hv, hb1⟩
  obtain ⟨A, c, rfl, hlc, hcm⟩ := hv.form
  unfold maxLen at hcm
  obtain ⟨b, off, rfl, hblt, x0⟩ := hv.index 0 (by decide)
  obtain ⟨b', off', e', _, x37⟩ := hv.index 37 (by decide)
  injection e' with e'; injection e' with e1 e2; subst e1; subst e2
  rw [show (1 :: List.replicate 37 (0 : Int)).getD 0 0 = 1 by decide] at x0
  rw [show (1 :: List.replicate 37 (0 : Int)).getD 37 0 = 0 by decide] at x37
  rw [show (1 :: List.replicate 37 (0 : Int)).length = 38 by decide] at *
  have X0 := Lib.hid x0
  have X37 := Lib.hid x37
  clear hv x0 x37
  go_wp2_with (refine wpList_make_full _ rfl (.const (.int .i64 37)) (.const (.int .i64 37)) _ rfl w1.heap.size 5 i0 _ 1 Try.underlying28 hi0 hz0 hz1 .i64 .i64 37 37 37 rfl rfl rfl rfl (by rw [hz2]; omega) (by simp only [maxLen]; omega) (Nat.le_refl _) ?_; intro w2 hown2 hg2)
  have hb2 := grown_below hg2
  rw [madeZero] at hown2
  have hv2 := IR.of_own hown2
  have h5 := Lib.hid (asked_any _ _ (fun x hx => by rw [List.eq_of_mem_replicate hx]; omega) w2 hv2 (by simp))
  have e1 : askedQ (List.replicate 37 0) = zeroQ := by unfold askedQ; rw [if_neg (by simp)]
  have e2 : askedE (List.replicate 37 0) = 230 := by unfold askedE; rw [if_neg (by simp)]
  rw [e1, e2] at h5
  unfold cellsQ zeroQ at h5
  dsimp only at h5
  clear hv2 hown2 e1 e2
  (with_reducible refine (h5.out).mono ?_)
  rintro e w3 ⟨rfl, hb3⟩
  have hb13 : Below w1.heap.size w1 w3 := step_ hb2 hb3
  have y0 : (w3.alloc (.cells #[.int .u8 0, .int .u32 0, .int .u8 0, .int .u32 0, .int .u32 0, .int .u32 0, .int .u32 0, .int .u64 0, .int .u64 0] 27)).cell? ⟨b, off + 0, none⟩ = some (.int .u8 1) := (World.cell?_alloc_lt _ _ _ (Nat.lt_of_lt_of_le hblt hb13.size)).trans ((hb13.cell (p := ⟨b, off + 0, none⟩) hblt).trans X0.out)
  have y37 : (w3.alloc (.cells #[.int .u8 0, .int .u32 0, .int .u8 0, .int .u32 0, .int .u32 0, .int .u32 0, .int .u32 0, .int .u64 0, .int .u64 0] 27)).cell? ⟨b, off + 37, none⟩ = some (.int .u8 0) := (World.cell?_alloc_lt _ _ _ (Nat.lt_of_lt_of_le hblt hb13.size)).trans ((hb13.cell (p := ⟨b, off + 37, none⟩) hblt).trans X37.out)
  have y0' := y0
  rw [Nat.add_zero] at y0'
  have hbb : b < w3.heap.size := Nat.lt_of_lt_of_le hblt hb13.size
  have x0 : w3.cell? ⟨b, off, none⟩ = some (.int .u8 1) := by have := X0.out; rw [Nat.add_zero] at this; exact (hb13.cell (p := ⟨b, off, none⟩) hblt).trans this
  have x37 : w3.cell? ⟨b, off + 37, none⟩ = some (.int .u8 0) := (hb13.cell (p := ⟨b, off + 37, none⟩) hblt).trans X37.out
  go_wp2
  go_ret
  exact ⟨rfl, new_ (step_ hb1 hb13) _⟩
end Go.Proofs.Ytnajmdgheohpjaa.Codec
