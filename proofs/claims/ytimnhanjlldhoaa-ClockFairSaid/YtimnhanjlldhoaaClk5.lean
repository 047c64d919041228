import Derived.Test.YtimnhanjlldhoaaClk4
import Derived.Test.YtimnhanjlldhoaaClkSw
import Derived.BigRegion
import Derived.Deep.LoopGhost
import Derived.WalkMore
/- The hand goes round. -/
namespace Go.Proofs.Ytimnhanjlldhoaa.Clk
open Go.ChangeShapes Go.WideShapes Go.ChangeAt Go.RowKit Go.IntWalk Go.Proofs.Mem Go.Proofs.Clk
set_option linter.unusedVariables false
/-- the clock, and the way that the hand has still to go -/
def SwK (g gf n : Nat) (r : Nat × List Fm × Nat) (k : Nat) (W : World) : Prop := ∃ l h, CK W g gf l h ∧ l.length = n ∧ h < n ∧ sw k l h = some r
theorem CK.drew {w : World} {g gf h : Nat} {l : List Fm} (c : CK w g gf l h) : CK w.drew g gf l h := ⟨c.ne, c.top, c.fs⟩
theorem tmod_nat (a n : Nat) : ((a : Int) + 1).tmod (n : Int) = ((a + 1) % n : Nat) := by
  rw [show (a : Int) + 1 = ((a + 1 : Nat) : Int) by omega]; rfl
set_option maxRecDepth 100000 in
set_option maxHeartbeats 8000000 in
theorem sweep_any (w : World) (g gf h : Nat) (l : List Fm) (c : CK w g gf l h) (hl : l.length ≤ 64) (hh : h < l.length) (k : Nat) (r : Nat × List Fm × Nat) (hs : sw k l h = some r) :
    Calls Try.prog 31 #[.pointer (some ⟨g, 0, none⟩)] w fun e w' => e = .returned (.int .i64 r.1) ∧ CK w' g gf r.2.1 r.2.2 ∧ Fr (fun k => k = g ∨ k = gf) w w' := by
  obtain ⟨n, hn⟩ : ∃ n, l.length = n := ⟨_, rfl⟩
  have H0 := Lib.hid (show SwK g gf n r k w from ⟨l, h, c, hn, by omega, hs⟩)
  rw [hn] at hl
  clear c hs hh hn
  go_enter Try.func31, Try.ntmps31
  go_wp2
  go_step3
  go_wp2
  go_step3
  go_wp2
  go_loopg [3, 4] k (fun k' _ _ W => SwK g gf n r k' W ∧ Fr (fun k => k = g ∨ k = gf) w W)
  case atStart => exact ⟨H0.out, Fr.refl _ _⟩
  case round =>
    obtain ⟨⟨l', h', c', hn, hh, hk'⟩, hfr⟩ := hrel
    cases gk with
    | zero => cases hk'
    | succ m =>
      simp only [sw] at hk'
      subst hn
      have c0 : wr.cell? ⟨g, 0, none⟩ = some (.slice (some ⟨gf, 0, none⟩) l'.length l'.length) := c'.top.cell 0
      have c1 : wr.cell? ⟨g, 1, none⟩ = some (.int .i64 h') := c'.top.cell 1
      have zf := c'.top.frozen 1
      have hw : wrap64 ((h' : Int) + 1) = (h' : Int) + 1 := wrap64_in _ (by omega)
      have ht := tmod_nat h' l'.length
      have hz : ((l'.length : Int) == 0) = false := by rw [beq_eq_false_iff_ne]; omega
      obtain ⟨k0, k1, k2⟩ := c'.cells hh
      have zu := c'.fs.frozen (h' * 3 + 1)
      have d2 : decide ((h' : Int) < (l'.length : Int)) = true := decide_eq_true (by omega)
      have d2' : decide (h' < l'.length) = true := decide_eq_true (by omega)
      have hne := c'.ne
      have hne' := Ne.symm hne
      have hlt := Nat.mod_lt (h' + 1) (show 0 < l'.length by omega)
      have cc := c'.hand ((h' + 1) % l'.length)
      rw [show (((h' + 1) % l'.length : Nat) : Int) = ((h' : Int) + 1) % (l'.length : Int) from rfl] at cc
      have cu := (cc.drew).u hh false
      have C := Lib.hid cc.drew
      have CU := Lib.hid cu
      have HL := Lib.hid hlt
      clear cc cu hlt
      have HK := Lib.hid hk'
      have HF := Lib.hid hfr
      clear c' hk' hfr
      generalize l'.getD h' z3 = f at *
      obtain ⟨ft, fu, fp⟩ := f
      dsimp only at *
      by_cases hp : 0 < fp
      · have dp : decide (0 < fp) = true := decide_eq_true hp
        go_wp2
        go_region
        go_wp2
        go_roundg m
        case measure => omega
        case rel =>
          refine ⟨⟨l', _, C.out, rfl, HL.out, ?_⟩, (HF.out.setCell (.inl (.inl rfl)) _).drew⟩
          have := HK.out
          rwa [if_pos hp] at this
      · have dp : decide (0 < fp) = false := decide_eq_false hp
        cases fu
        · go_wp2
          go_region
          go_wp2
          simp only [Exit.noGoto]
          go_ret
          have := HK.out
          rw [if_neg (by omega)] at this
          simp only [if_false, Bool.false_eq_true] at this
          injection this with this
          subst this
          exact ⟨rfl, C.out, (HF.out.setCell (.inl (.inl rfl)) _).drew⟩
        · go_wp2
          go_region
          go_wp2
          go_roundg m
          case measure => omega
          case rel =>
            refine ⟨⟨_, _, CU.out, by rw [List.length_set], HL.out, ?_⟩, ((HF.out.setCell (.inl (.inl rfl)) _).drew).setCell (.inl (.inr rfl)) _⟩
            have := HK.out
            rw [if_neg (by omega)] at this
            simpa only [if_true] using this
end Go.Proofs.Ytimnhanjlldhoaa.Clk
