import Derived.Test.YteldfoplhcnljaaSo3
/- A part of a row is turned round. -/
namespace Go.Proofs.Yteldfoplhcnljaa.Srt
open Go.ChangeShapes Go.WideShapes Go.ChangeAt Go.RowKit Go.IntWalk Go.Proofs.Mem
set_option linter.unusedVariables false
set_option maxRecDepth 100000 in
set_option maxHeartbeats 4000000 in
theorem rev_any (w : World) (g n cap a b : Nat) (d : Array Int) (h : RA w g cap d) (hn : d.size = n) (h0 : n ≤ 1000000) (h1 : a < b) (h2 : b ≤ n) :
    Calls Try.prog 34 #[.slice (some ⟨g, 0, none⟩) n cap, .int .i64 a, .int .i64 b] w fun e w' => e = .returned (.tuple #[]) ∧ (∃ d', RA w' g cap d' ∧ Sort.PermIn a b d d') ∧ Fr (fun x => x = g) w w' := by
  have HR := Lib.hid h
  have HN := Lib.hid hn
  obtain ⟨b1, hb1⟩ : ∃ x, x = b - 1 := ⟨_, rfl⟩
  have s1 : (b : Int) - 1 = (b1 : Int) := by omega
  have ba : (a : Int) ≤ 1000000 := by omega
  have bb : (b : Int) ≤ 1000000 := by omega
  have HX := Lib.hid (⟨h0, h1, h2, hb1⟩ : n ≤ 1000000 ∧ a < b ∧ b ≤ n ∧ b1 = b - 1)
  clear h hn h0 h1 h2 hb1
  go_enter Try.func34, Try.ntmps34
  go_wp2
  go_loopw [6, 7] (fun s t wr => ∃ (i j : Nat) (ys : Array Int), a ≤ i ∧ i ≤ b ∧ j < b ∧ i + j = a + b1 ∧ s = .int .i64 i ∧ t = .int .i64 j ∧ Hid (RA wr g cap ys) ∧ Hid (Sort.PermIn a b d ys) ∧ Hid (Fr (fun x => x = g) w wr)) (fun s t _ => b - (intOf s).toNat)
  case atStart => exact ⟨a, b1, d, Nat.le_refl _, by have := HX.out; omega, by have := HX.out; omega, rfl, rfl, rfl, HR, Lib.hid (Sort.permIn_refl _ _ _), Lib.hid (Fr.refl _ _)⟩
  case round =>
    obtain ⟨i, j, ys, hi1, hi2, hj, hij, rfl, rfl, HO, HP, HF⟩ := hrel
    obtain ⟨w1, rfl⟩ : ∃ w1, w1 = wr := ⟨wr, rfl⟩
    have hsz : ys.size = n := by rw [HP.out.1]; exact HN.out
    by_cases hl : i < j
    · have d1 : decide ((i : Int) < (j : Int)) = true := by simp; omega
      have d1' : decide (i < j) = true := by simp; omega
      obtain ⟨i', hi'⟩ : ∃ x, x = i + 1 := ⟨_, rfl⟩
      obtain ⟨j', hj'⟩ : ∃ x, x = j - 1 := ⟨_, rfl⟩
      have s2 : (i : Int) + 1 = (i' : Int) := by omega
      have s3 : (j : Int) - 1 = (j' : Int) := by omega
      have bi : (i : Int) ≤ 1000000 := by omega
      have bj : (j : Int) ≤ 1000000 := by omega
      have in1 : i < n := by have := HX.out; omega
      have in2 : j < n := by have := HX.out; omega
      have c0 := HO.out.cell i (by omega)
      have c1 := HO.out.cell j (by omega)
      obtain ⟨x, hx⟩ : ∃ x, ys[i]! = x := ⟨_, rfl⟩
      obtain ⟨y, hy⟩ : ∃ y, ys[j]! = y := ⟨_, rfl⟩
      rw [hx] at c0
      rw [hy] at c1
      have HXX := Lib.hid hx
      have HY := Lib.hid hy
      have f0 := HO.out.frozen i
      have f1 := HO.out.frozen j
      have c2 := (HO.out.set_ i y).cell j (by rw [Array.size_setIfInBounds]; omega)
      have f2 := (HO.out.set_ i y).frozen j
      generalize (ys.setIfInBounds i y)[j]! = v2 at c2
      have HI := Lib.hid (⟨hi1, hi2, hj, hij, hl, hi', hj', hsz⟩ : a ≤ i ∧ i ≤ b ∧ j < b ∧ i + j = a + b1 ∧ i < j ∧ i' = i + 1 ∧ j' = j - 1 ∧ ys.size = n)
      clear hi1 hi2 hj hij hl hi' hj' hsz hx hy
      go_upto_region 3 with fail
      go_region
      go_wp2
      go_roundw
      case rel => exact ⟨i', j', Sort.swp ys i j, by have := HI.out; omega, by have := HI.out; omega, by have := HI.out; omega, by have := HI.out; omega, rfl, rfl, Lib.hid (by rw [← HXX.out, ← HY.out]; exact (HO.out.swp i j).drew), Lib.hid (Sort.permIn_trans _ _ _ _ _ HP.out (Sort.swp_permIn _ _ _ _ _ (by have := HI.out; omega) (by have := HI.out; omega) (by have := HI.out; omega) (by have := HI.out; omega) (by have := HI.out; have := HX.out; omega))), Lib.hid (fr_swp HF.out).drew⟩
      case measure => simp [intOf]; have := HI.out; omega
    · have d1 : decide ((i : Int) < (j : Int)) = false := by simp; omega
      have d1' : decide (i < j) = false := by simp; omega
      go_wp2
      go_end0
      exact ⟨rfl, ⟨ys, HO.out, HP.out⟩, HF.out⟩
end Go.Proofs.Yteldfoplhcnljaa.Srt
