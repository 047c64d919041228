import Derived.Test.YtplombkpefacgaaDkO
/- One write more, of a byte that was just laid. -/
namespace Go.Proofs.Ytplombkpefacgaa.Disk
open Go.ChangeShapes Go.WideShapes Go.ChangeAt Go.RowKit Go.IntWalk Go.Proofs.Mem Go.Proofs.Each Law
set_option linter.unusedVariables false
def o1 : Opn := ⟨0, 0, 0, [1], []⟩
theorem o1_ok : o1.Ok := ⟨by decide, by decide, by decide, fun x hx => by simp [o1] at hx; omega, fun x hx => by simp [o1] at hx⟩
theorem box_ir {w : World} {g : Nat} (h : Box w g #[.int .u8 1] 5) : IR w w.heap.size .u8 (.slice (some ⟨g, 0, none⟩) 1 1) [1] :=
  IR.of_own (e := 5) (n := 1) (base := 0) ⟨rfl, .inr ⟨g, 1, _, rfl, Nat.zero_le _, h, Nat.le_refl _, by decide, rfl, rfl⟩⟩
theorem o1_write (D : Dv) : plD D o1 = D.wrA 0 0 (fullS [1]) := rfl
theorem o1_b {D : Dv} (h : 0 < (D.f 0).length) : plB D o1 = true := by
  have : D.has 0 0 := ⟨by decide, by decide, by simpa using h⟩
  show decide (D.wrE 0 0 128 = 0) = true
  unfold Dv.wrE
  rw [if_pos this]; decide
theorem o1_dead {D : Dv} (hl : D.lim = false) (hd : D.dead = false) : (plD D o1).dead = false := by
  rw [o1_write]
  unfold Dv.wrA
  split
  · rw [wr_free hl]
    show cntD D.lim D.left D.dead = false
    unfold cntD cntB
    rw [hl, hd]; rfl
  · exact hd
theorem pp_one {K : Nat → Prop} {B0 a b : Nat} {w : World} {D E : Dv} (h : Pp K B0 w a b D E) (hw : D.Few 100000) (g : Nat) (hg : K g) (hb : Box w g #[.int .u8 1] 5) (h8 : 0 < (D.f 0).length) :
    Calls Try.prog 29 #[.pointer (some ⟨a, 0, none⟩), .agg #[.int .u8 0, .int .u8 0, .int .i64 0, .slice (some ⟨g, 0, none⟩) 1 1, .slice none 0 0]] w fun e w' => e = .returned (.bool true) ∧ Pp K B0 w' a b (plD D o1) E ∧ Below B0 w w' := by
  refine (pp_plays h hw o1 o1_ok (.slice (some ⟨g, 0, none⟩) 1 1) (.slice none 0 0) (fun w' _ hf => box_ir (hb.fr hf (fun hn => hn hg))) ⟨_, _, _, rfl⟩).mono ?_
  rintro e w' ⟨rfl, h1, h2, _⟩
  exact ⟨by rw [o1_b h8], h1, h2⟩
end Go.Proofs.Ytplombkpefacgaa.Disk
