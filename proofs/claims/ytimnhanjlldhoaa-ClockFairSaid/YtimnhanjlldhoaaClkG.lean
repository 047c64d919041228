import Derived.Test.YtimnhanjlldhoaaClkB
/- A call on both clocks: Pins. -/
namespace Go.Proofs.Ytimnhanjlldhoaa.Clk
open Go.ChangeShapes Go.WideShapes Go.ChangeAt Go.RowKit Go.IntWalk Go.Proofs.Mem Go.Proofs.Clk
set_option linter.unusedVariables false
set_option maxRecDepth 100000 in
set_option maxHeartbeats 8000000 in
theorem does_pins (w : World) (g gf h r ra rb rc k : Nat) (l m : List Fm) (B : Int) (t : Two w g gf l h r ra rb rc m k) (hl : l.length ≤ 64) (hm : m.length ≤ 64) (ho : Oks B l) (hp : Oks B m) (hB : 0 ≤ B ∧ B ≤ 100000) (i kd : Int) (h0 : 0 ≤ kd ∧ kd ≤ 255) (hk : kd.tmod 8 = 5) :
    Calls Try.prog 10 #[.pointer (some ⟨g, 0, none⟩), .pointer (some ⟨r, 0, none⟩), .agg #[.int .u8 kd, .int .i64 i]] w fun e w' =>
      e = .returned (.bool ((fr l i).p == (fr m i).p)) ∧ Two w' g gf l h r ra rb rc m k ∧ Fr (fun x => (x = g ∨ x = gf) ∨ (x = r ∨ x = ra ∨ x = rb ∨ x = rc)) w w' := by
  have T := Lib.hid t
  have b0 := Box.new w #[.int .u8 kd, .int .i64 i] 30
  clear t
  have HO := Lib.hid ho
  have HP := Lib.hid hp
  have HB := Lib.hid hB
  clear ho hp hB
  have T1 := Lib.hid ((T.out.later (new_ (Below.refl w.heap.size w) (.cells #[.int .u8 kd, .int .i64 i] 30))).later (Below.drew (Below.refl _ _)))
  have B1 := Lib.hid b0.drew
  have hg : w.heap.size ≠ g ∧ w.heap.size ≠ gf := ⟨by have := T.out.c.top.lt; omega, by have := T.out.c.fs.lt; omega⟩
  have HG := Lib.hid hg
  have hf0 := (Fr.refl (fun x => (x = g ∨ x = gf) ∨ (x = r ∨ x = ra ∨ x = rb ∨ x = rc)) w).alloc (.cells #[.int .u8 kd, .int .i64 i] 30)
  have F0 := Lib.hid hf0.drew
  clear hf0 hg b0
  go_enter Try.func10, Try.ntmps10
  go_wp2
  go_region_with (first
    | (refine (pins_any _ g gf h l T1.out.c hl i).mono ?_
       rintro e w1 ⟨rfl, hb1⟩
       have b1 := B1.out.later hb1
       have x1 : w1.cell? ⟨w.heap.size, 1, none⟩ = some (.int .i64 i) := b1.cell 1
       have T2 := Lib.hid (T1.out.later hb1)
       have F1 := Lib.hid (F0.out.below hb1)
       clear hb1 b1)
    | (refine (pins_ref _ r ra rb rc k m T2.out.d hm i).mono ?_
       rintro e w2 ⟨rfl, rfl⟩))
  all_goals go_wp2
  all_goals go_ret
  all_goals exact ⟨rfl, T2.out, F1.out⟩
end Go.Proofs.Ytimnhanjlldhoaa.Clk
