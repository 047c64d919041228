import Derived.Test.YtimnhanjlldhoaaClkA
import Derived.Test.YtimnhanjlldhoaaClkMath2
import Derived.Deep.RegionWith
/- A call on both clocks. -/
namespace Go.Proofs.Ytimnhanjlldhoaa.Clk
open Go.ChangeShapes Go.WideShapes Go.ChangeAt Go.RowKit Go.IntWalk Go.Proofs.Mem Go.Proofs.Clk
set_option linter.unusedVariables false
/-- two clocks that share no block -/
structure Two (w : World) (g gf : Nat) (l : List Fm) (h : Nat) (r ra rb rc : Nat) (m : List Fm) (k : Nat) : Prop where
  c : CK w g gf l h
  d : RK w r ra rb rc m k
  g1 : g ≠ r ∧ g ≠ ra ∧ g ≠ rb ∧ g ≠ rc
  g2 : gf ≠ r ∧ gf ≠ ra ∧ gf ≠ rb ∧ gf ≠ rc
theorem Two.left {w w' : World} {g gf h r ra rb rc k h' : Nat} {l m l' : List Fm} (t : Two w g gf l h r ra rb rc m k) (c' : CK w' g gf l' h') (hf : Fr (fun x => x = g ∨ x = gf) w w') : Two w' g gf l' h' r ra rb rc m k :=
  ⟨c', t.d.fr hf (by rintro (e | e); exact t.g1.1 e.symm; exact t.g2.1 e.symm) (by rintro (e | e); exact t.g1.2.1 e.symm; exact t.g2.2.1 e.symm)
    (by rintro (e | e); exact t.g1.2.2.1 e.symm; exact t.g2.2.2.1 e.symm) (by rintro (e | e); exact t.g1.2.2.2 e.symm; exact t.g2.2.2.2 e.symm), t.g1, t.g2⟩
theorem Two.right {w w' : World} {g gf h r ra rb rc k k' : Nat} {l m m' : List Fm} (t : Two w g gf l h r ra rb rc m k) (d' : RK w' r ra rb rc m' k') (hf : Fr (fun x => x = r ∨ x = ra ∨ x = rb ∨ x = rc) w w') : Two w' g gf l h r ra rb rc m' k' :=
  ⟨t.c.fr hf (by rintro (e | e | e | e); exact t.g1.1 e; exact t.g1.2.1 e; exact t.g1.2.2.1 e; exact t.g1.2.2.2 e) (by rintro (e | e | e | e); exact t.g2.1 e; exact t.g2.2.1 e; exact t.g2.2.2.1 e; exact t.g2.2.2.2 e), d', t.g1, t.g2⟩
theorem Two.later {w w' : World} {g gf h r ra rb rc k : Nat} {l m : List Fm} (t : Two w g gf l h r ra rb rc m k) (hb : Below w.heap.size w w') : Two w' g gf l h r ra rb rc m k := ⟨t.c.later hb, t.d.later hb, t.g1, t.g2⟩
set_option maxRecDepth 100000 in
set_option maxHeartbeats 8000000 in
theorem does_take (w : World) (g gf h r ra rb rc k : Nat) (l m : List Fm) (t : Two w g gf l h r ra rb rc m k) (hl : l.length ≤ 64) (hm : m.length ≤ 64) (i kd : Int) (h0 : 0 ≤ kd ∧ kd ≤ 255) (hk : kd.tmod 8 = 0) :
    Calls Try.prog 10 #[.pointer (some ⟨g, 0, none⟩), .pointer (some ⟨r, 0, none⟩), .agg #[.int .u8 kd, .int .i64 i]] w fun e w' =>
      e = .returned (.bool ((takeM l i).1 == (takeM m i).1)) ∧ Two w' g gf (takeM l i).2 h r ra rb rc (takeM m i).2 k ∧ Fr (fun x => (x = g ∨ x = gf) ∨ (x = r ∨ x = ra ∨ x = rb ∨ x = rc)) w w' := by
  have T := Lib.hid t
  have b0 := Box.new w #[.int .u8 kd, .int .i64 i] 30
  clear t
  have hk2 : (kd.tmod 8 == 0) = true := by rw [hk]; rfl
  have T1 := Lib.hid ((T.out.later (new_ (Below.refl w.heap.size w) (.cells #[.int .u8 kd, .int .i64 i] 30))).later (Below.drew (Below.refl _ _)))
  have B1 := Lib.hid b0.drew
  have hg : w.heap.size ≠ g ∧ w.heap.size ≠ gf := ⟨by have := T.out.c.top.lt; omega, by have := T.out.c.fs.lt; omega⟩
  have HG := Lib.hid hg
  have hf0 := (Fr.refl (fun x => (x = g ∨ x = gf) ∨ (x = r ∨ x = ra ∨ x = rb ∨ x = rc)) w).alloc (.cells #[.int .u8 kd, .int .i64 i] 30)
  have F0 := Lib.hid hf0.drew
  clear hf0 hg b0
  go_enter Try.func10, Try.ntmps10
  go_wp2
  go_region_with (first
    | (refine (take_any _ g gf h l T1.out.c hl i).mono ?_
       rintro e w1 ⟨rfl, c1, f1⟩
       have b1 := B1.out.fr f1 (by rintro (e | e); exact HG.out.1 e; exact HG.out.2 e)
       have x1 : w1.cell? ⟨w.heap.size, 1, none⟩ = some (.int .i64 i) := b1.cell 1
       have T2 := Lib.hid (T1.out.left c1 f1)
       have F1 := Lib.hid (F0.out.trans' f1 (fun _ _ x => .inl x))
       clear c1 f1 b1)
    | (refine (take_ref _ r ra rb rc k m T2.out.d hm i).mono ?_
       rintro e w2 ⟨rfl, d2, f2⟩
       have T3 := Lib.hid (T2.out.right d2 f2)
       have F2 := Lib.hid (F1.out.trans' f2 (fun _ _ x => .inr x))
       clear d2 f2))
  all_goals go_wp2
  all_goals go_ret
  all_goals exact ⟨rfl, T3.out, F2.out⟩
end Go.Proofs.Ytimnhanjlldhoaa.Clk
