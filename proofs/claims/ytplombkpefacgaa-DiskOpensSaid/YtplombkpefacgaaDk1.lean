import Derived.Test.YtplombkpefacgaaDv
import Derived.Test.YtplombkpefacgaaLaw
import Derived.Deep.DeepCutAuto
import Derived.WalkKit
import Derived.ProofKit
import Derived.Lib.Hide
import Derived.BigQuiet
import Derived.Handy
/- A device's small calls. -/
namespace Go.Proofs.Ytplombkpefacgaa.Disk
open Go.ChangeShapes Go.WideShapes Go.ChangeAt Go.RowKit Go.IntWalk Go.Proofs.Mem
set_option linter.unusedVariables false
set_option linter.unusedSimpArgs false
/-- a device's block -/
@[reducible] def dC (fv : Nat → Value) (lim : Bool) (left : Int) (dead : Bool) : Array Value := #[fv 0, fv 1, .bool lim, .int .i64 left, .bool dead]
theorem two {i : Nat} (h : i < 2) : i = 0 ∨ i = 1 := by omega
theorem i8_wrap (i : Nat) (h : i ≤ 255) : IntKind.i64.wrap (i : Int) = (i : Int) := IntWalk.i64_in _ (by omega)
theorem file_any (w : World) (b : Nat) (fv : Nat → Value) (lim : Bool) (left : Int) (dead : Bool) (hb : Box w b (dC fv lim left dead) 65) (i : Nat) (hi : i ≤ 255) (A : Option Addr) (n c : Nat) (hv : i < 2 → fv i = .slice A n c) (hn : ¬ i < 2 → A = none ∧ n = 0 ∧ c = 0) :
    Calls Try.prog 44 #[.pointer (some ⟨b, 0, none⟩), .int .u8 i] w fun e w' => e = .returned (.slice A n c) ∧ w = w' := by
  have wi := i8_wrap i hi
  by_cases h : i < 2
  · have hv' := hv h
    have kc : w.cell? ⟨b, i, none⟩ = some (.slice A n c) := by
      rw [hb.cell i]
      rcases two h with rfl | rfl
      · rw [← hv']; rfl
      · rw [← hv']; rfl
    have d1 : decide ((2 : Int) ≤ (i : Int)) = false := by simp; omega
    have hi2 : (i : Int) < 2 := by omega
    clear hv hn hv'
    go_enter Try.func44, Try.ntmps44
    go_wp2
    go_ret
    exact ⟨rfl, rfl⟩
  · obtain ⟨rfl, rfl, rfl⟩ := hn h
    have d1 : decide ((2 : Int) ≤ (i : Int)) = true := by simp; omega
    clear hv hn hb
    go_enter Try.func44, Try.ntmps44
    go_wp2
    go_ret
    exact ⟨rfl, rfl⟩
theorem at_yes (w : World) (b : Nat) (fv : Nat → Value) (lim : Bool) (left : Int) (dead : Bool) (hb : Box w b (dC fv lim left dead) 65) (i : Nat) (hi : i < 2) (g L c : Nat) (hv : fv i = .slice (some ⟨g, 0, none⟩) L c) (n : Nat) (hn : n < L) (hL : L ≤ 4096) (hc : L ≤ c) (N : Int) (hN : N = n) :
    Calls Try.prog 49 #[.pointer (some ⟨b, 0, none⟩), .int .u8 i, .int .i64 N] w fun e w' => e = .returned (.pointer (some ⟨g, 2 * n, none⟩)) ∧ w = w' := by
  subst hN
  have FA := Lib.hid (file_any w b fv lim left dead hb i (by omega) _ _ _ (fun _ => hv) (fun h => absurd hi h))
  have d1 : decide ((n : Int) < 0) = false := by simp
  have d2 : decide ((L : Int) ≤ (n : Int)) = false := by simp; omega
  clear hb hv
  go_enter Try.func49, Try.ntmps49
  go_wp2_with fail
  (with_reducible refine FA.out.mono ?_)
  rintro e w1 ⟨rfl, rfl⟩
  go_wp2
  go_ret
  exact ⟨by rw [Nat.mul_comm]; rfl, rfl⟩
theorem at_no (w : World) (b : Nat) (fv : Nat → Value) (lim : Bool) (left : Int) (dead : Bool) (hb : Box w b (dC fv lim left dead) 65) (i : Nat) (hi : i ≤ 255) (A : Option Addr) (L c : Nat) (hv : i < 2 → fv i = .slice A L c) (hn : ¬ i < 2 → A = none ∧ L = 0 ∧ c = 0) (n : Int) (hno : n < 0 ∨ (L : Int) ≤ n) :
    Calls Try.prog 49 #[.pointer (some ⟨b, 0, none⟩), .int .u8 i, .int .i64 n] w fun e w' => e = .returned (.pointer none) ∧ w = w' := by
  have FA := Lib.hid (file_any w b fv lim left dead hb i hi _ _ _ hv hn)
  obtain ⟨q1, hq1⟩ : ∃ q, q = decide (n < 0) := ⟨_, rfl⟩
  obtain ⟨q2, hq2⟩ : ∃ q, q = decide ((L : Int) ≤ n) := ⟨_, rfl⟩
  have d1 : decide (n < 0) = q1 := hq1.symm
  have d2 : decide ((L : Int) ≤ n) = q2 := hq2.symm
  have HQ := Lib.hid (show (q1 || q2) = true by rw [hq1, hq2]; simpa using hno)
  clear hb hv hn hno hq1 hq2
  go_enter Try.func49, Try.ntmps49
  go_wp2_with fail
  (with_reducible refine FA.out.mono ?_)
  rintro e w1 ⟨rfl, rfl⟩
  cases q1
  · cases q2
    · have := HQ.out; simp at this
    · go_wp2
      go_ret
      exact ⟨rfl, rfl⟩
  · go_wp2
    go_ret
    exact ⟨rfl, rfl⟩
/-- what a call that counts leaves: is it done? -/
def cntB (lim : Bool) (left : Int) : Bool := !lim || decide (0 < left)
def cntL (lim : Bool) (left : Int) : Int := if lim = true ∧ 0 < left then left - 1 else left
def cntD (lim : Bool) (left : Int) (dead : Bool) : Bool := dead || !cntB lim left
theorem counts_any (w : World) (b : Nat) (fv : Nat → Value) (lim : Bool) (left : Int) (dead : Bool) (hb : Box w b (dC fv lim left dead) 65) (h0 : 0 ≤ left ∧ left ≤ 9223372036854775807) :
    Calls Try.prog 47 #[.pointer (some ⟨b, 0, none⟩)] w fun e w' => e = .returned (.bool (cntB lim left)) ∧ Box w' b (dC fv lim (cntL lim left) (cntD lim left dead)) 65 ∧ Fr (fun x => x = b) w w' := by
  have k2 : w.cell? ⟨b, 2, none⟩ = some (.bool lim) := hb.cell 2
  have k3 : w.cell? ⟨b, 3, none⟩ = some (.int .i64 left) := hb.cell 3
  have k4 : w.cell? ⟨b, 4, none⟩ = some (.bool dead) := hb.cell 4
  have f3 := hb.frozen 3
  have f4 := hb.frozen 4
  have HB := Lib.hid hb
  clear hb
  cases lim
  · go_enter Try.func47, Try.ntmps47
    go_wp2
    go_ret
    exact ⟨by simp [cntB], by simpa [cntL, cntD, cntB] using HB.out, Fr.refl _ _⟩
  · by_cases hl : 0 < left
    · have d1 : decide (0 < left) = true := by simpa using hl
      have wl : wrap64 (left - 1) = left - 1 := wrap64_in _ (by omega)
      go_enter Try.func47, Try.ntmps47
      go_wp2
      go_ret
      have hb := HB.out.set_ 3 (.int .i64 (left - 1))
      have hf := Fr.setCell (Fr.refl (fun x => x = b) w) (p := ⟨b, 3, none⟩) (.inl rfl) (.int .i64 (left - 1))
      simp only [List.setIfInBounds_toArray, List.set_cons_zero, List.set_cons_succ] at hb
      exact ⟨by simp [cntB, hl], by simpa [cntL, cntD, cntB, hl] using hb, hf⟩
    · have d1 : decide (0 < left) = false := by simpa using hl
      go_enter Try.func47, Try.ntmps47
      go_wp2
      go_ret
      have hb := HB.out.set_ 4 (.bool true)
      have hf := Fr.setCell (Fr.refl (fun x => x = b) w) (p := ⟨b, 4, none⟩) (.inl rfl) (.bool true)
      simp only [List.setIfInBounds_toArray, List.set_cons_zero, List.set_cons_succ] at hb
      have e0 : cntB true left = false := by simp [cntB]; omega
      have e1 : cntL true left = left := by simp [cntL]; omega
      have e2 : cntD true left dead = true := by simp [cntD, e0]
      rw [e0, e1, e2]
      exact ⟨rfl, hb, hf⟩
theorem size_any (w : World) (b : Nat) (fv : Nat → Value) (lim : Bool) (left : Int) (dead : Bool) (hb : Box w b (dC fv lim left dead) 65) (i : Nat) (hi : i ≤ 255) (A : Option Addr) (n c : Nat) (hv : i < 2 → fv i = .slice A n c) (hn : ¬ i < 2 → A = none ∧ n = 0 ∧ c = 0) :
    Calls Try.prog 22 #[.pointer (some ⟨b, 0, none⟩), .int .u8 i] w fun e w' => e = .returned (.int .i64 n) ∧ w = w' := by
  have FA := Lib.hid (file_any w b fv lim left dead hb i hi _ _ _ hv hn)
  clear hb hv hn
  go_enter Try.func22, Try.ntmps22
  go_wp2_with fail
  (with_reducible refine FA.out.mono ?_)
  rintro e w1 ⟨rfl, rfl⟩
  go_wp2
  go_ret
  exact ⟨rfl, rfl⟩
theorem halted_any (w : World) (b : Nat) (fv : Nat → Value) (lim : Bool) (left : Int) (dead : Bool) (hb : Box w b (dC fv lim left dead) 65) :
    Calls Try.prog 30 #[.pointer (some ⟨b, 0, none⟩)] w fun e w' => e = .returned (.bool dead) ∧ w = w' := by
  have k4 : w.cell? ⟨b, 4, none⟩ = some (.bool dead) := hb.cell 4
  clear hb
  go_enter Try.func30, Try.ntmps30
  go_wp2
  go_ret
  exact ⟨rfl, rfl⟩
theorem halt_any (w : World) (b : Nat) (fv : Nat → Value) (lim : Bool) (left : Int) (dead : Bool) (hb : Box w b (dC fv lim left dead) 65) (n : Int) :
    Calls Try.prog 28 #[.pointer (some ⟨b, 0, none⟩), .int .i64 n] w fun e w' => e = .returned (.tuple #[]) ∧ Box w' b (dC fv true (max n 0) dead) 65 ∧ Fr (fun x => x = b) w w' := by
  have k2 : w.cell? ⟨b, 2, none⟩ = some (.bool lim) := hb.cell 2
  have k3 : w.cell? ⟨b, 3, none⟩ = some (.int .i64 left) := hb.cell 3
  have f2 := hb.frozen 2
  have f3 := hb.frozen 3
  have HB := Lib.hid hb
  clear hb
  have hd : ∀ z : Int, Box ((w.setCell ⟨b, 2, none⟩ (.bool true)).setCell ⟨b, 3, none⟩ (.int .i64 z)) b (dC fv true z dead) 65 ∧ Fr (fun x => x = b) w ((w.setCell ⟨b, 2, none⟩ (.bool true)).setCell ⟨b, 3, none⟩ (.int .i64 z)) := fun z => by
    have hb := (HB.out.set_ 2 (.bool true)).set_ 3 (.int .i64 z)
    simp only [List.setIfInBounds_toArray, List.set_cons_zero, List.set_cons_succ] at hb
    exact ⟨hb, Fr.setCell (Fr.setCell (Fr.refl (fun x => x = b) w) (p := ⟨b, 2, none⟩) (.inl rfl) _) (p := ⟨b, 3, none⟩) (.inl rfl) _⟩
  have HD := Lib.hid hd
  clear hd
  by_cases hn : n < 0
  · have hm : max n 0 = 0 := by omega
    rw [hm]
    go_enter Try.func28, Try.ntmps28
    go_wp2
    go_end0
    exact ⟨rfl, HD.out _⟩
  · have hm : max n 0 = n := by omega
    have hn0 : 0 ≤ n := by omega
    rw [hm]
    go_enter Try.func28, Try.ntmps28
    go_wp2
    go_end0
    exact ⟨rfl, HD.out _⟩
/-- the sector at pointer ⟨g, o⟩ waits for v -/
theorem keep_any (w : World) (g o : Nat) (C : Array Value) (T : TypeId) (u v : Value) (vs : List Value) (hb : Box w g C T) (hu : C[o]? = some u) (hv : C[o + 1]? = some v) (hw : w.ownsRow 0 30 1 v vs.length vs) (n : Nat) (hn : n ≤ vs.length) (hl : vs.length ≤ 100000) (hs : ∀ x ∈ vs, ∃ A c, x = .slice A 128 c) :
    Calls Try.prog 48 #[.pointer (some ⟨g, o, none⟩), .int .i64 n] w fun e w' => e = .returned (.tuple #[]) ∧ Box w' g (C.setIfInBounds o (if n = 0 then u else vs.getD (n - 1) u)) T ∧ Fr (fun x => x = g) w w' := by
  have k0 : w.cell? ⟨g, o, none⟩ = some u := by rw [hb.cell o]; exact hu
  have k1 : w.cell? ⟨g, o + 1, none⟩ = some v := by rw [hb.cell (o + 1)]; exact hv
  have f0 := hb.frozen o
  have HB := Lib.hid hb
  by_cases h : n = 0
  · subst h
    have hC : C.setIfInBounds o u = C := by
      apply Array.ext
      · simp
      · intro i h1 h2
        rw [Array.getElem_setIfInBounds]
        split
        · rename_i e; subst e
          rw [Array.getElem?_eq_getElem h2] at hu
          exact (Option.some.inj hu).symm
        · rfl
    rw [if_pos rfl, hC]
    clear hb hw hs hC
    go_enter Try.func48, Try.ntmps48
    go_wp2
    go_end0
    exact ⟨rfl, HB.out, Fr.refl _ _⟩
  · have hlt : n - 1 < vs.length := by omega
    obtain ⟨gv, cv, rfl, hgv⟩ : ∃ gv cv, v = .slice (some ⟨gv, 0, none⟩) vs.length cv ∧ vs.length ≤ cv := by
      rcases hw.2 with ⟨_, h0⟩ | ⟨gv, cap, _, e1, _, _, h3, _⟩
      · omega
      · exact ⟨gv, cap, e1, h3⟩
    obtain ⟨Ax, cx, ex⟩ := hs vs[n - 1] (List.getElem_mem hlt)
    have kx : w.cell? ⟨gv, n - 1, none⟩ = some (.slice Ax 128 cx) := by
      rw [hw.cellAt (n - 1) (by omega), List.getElem?_eq_getElem hlt, ex]
    obtain ⟨m, hm⟩ : ∃ m, m = n - 1 := ⟨_, rfl⟩
    rw [← hm] at kx
    have d1 : decide (0 < (n : Int)) = true := by simp; omega
    have d1n : decide (0 < n) = true := by simp; omega
    have wn : wrap64 ((n : Int) - 1) = (m : Int) := by rw [wrap64_in _ (by omega)]; omega
    have wn' : IntKind.i64.wrap ((n : Int) - 1) = (m : Int) := by rw [IntWalk.i64_in _ (by omega)]; omega
    have hm1 : m < vs.length := by omega
    have HE := Lib.hid (show vs.getD (n - 1) u = .slice Ax 128 cx by rw [List.getD_eq_getElem?_getD, List.getElem?_eq_getElem hlt, ex]; rfl)
    have HN := Lib.hid h
    rw [if_neg h, HE.out]
    have hfin : Box (w.setCell ⟨g, o, none⟩ (.slice Ax 128 cx)) g (C.setIfInBounds o (.slice Ax 128 cx)) T ∧ Fr (fun x => x = g) w (w.setCell ⟨g, o, none⟩ (.slice Ax 128 cx)) := ⟨HB.out.set_ o _, Fr.setCell (Fr.refl (fun x => x = g) w) (p := ⟨g, o, none⟩) (.inl rfl) _⟩
    have HF := Lib.hid hfin
    clear hb hw hs hfin h hm ex hn hlt
    go_enter Try.func48, Try.ntmps48
    go_wp2
    go_end0
    exact ⟨rfl, HF.out.1, HF.out.2⟩
end Go.Proofs.Ytplombkpefacgaa.Disk
