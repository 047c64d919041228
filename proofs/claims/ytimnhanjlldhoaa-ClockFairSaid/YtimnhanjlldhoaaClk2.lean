import Derived.Test.YtimnhanjlldhoaaClk1
/- What each call on a clock does. -/
namespace Go.Proofs.Ytimnhanjlldhoaa.Clk
open Go.ChangeShapes Go.WideShapes Go.ChangeAt Go.RowKit Go.IntWalk Go.Proofs.Mem Go.Proofs.Clk
set_option linter.unusedVariables false
def Did (w : World) (g gf h : Nat) (r : Bool × List Fm) (e : Ending) (w' : World) : Prop := e = .returned (.bool r.1) ∧ CK w' g gf r.2 h ∧ Fr (fun k => k = g ∨ k = gf) w w'
section
variable (w : World) (g gf h : Nat) (l : List Fm) (B : Int) (c : CK w g gf l h) (hl : l.length ≤ 64) (ho : Oks B l) (hB : 0 ≤ B ∧ B ≤ 100000) (i : Int)
include c hl
set_option maxHeartbeats 4000000 in
theorem pins_any : Calls Try.prog 11 #[.pointer (some ⟨g, 0, none⟩), .int .i64 i] w (fun e w' => e = .returned (.int .i64 (fr l i).p) ∧ Below w.heap.size w w') := by
  by_cases hi : 0 ≤ i ∧ i < l.length
  · obtain ⟨j, rfl⟩ := Int.eq_ofNat_of_zero_le hi.1
    have hj : j < l.length := by omega
    obtain ⟨k0, k1, k2⟩ := c.cells hj
    have z0 := c.fs.frozen (j * 3)
    have z1 := c.fs.frozen (j * 3 + 1)
    have z2 := c.fs.frozen (j * 3 + 2)
    have C := Lib.hid c
    have HJ := Lib.hid hj
    have AT := Lib.hid (at_in w g gf h l c hl j hj)
    rw [fr_in hj]
    generalize l.getD j z3 = f at *
    obtain ⟨ft, fu, fp⟩ := f
    dsimp only at *
    clear c
    go_enter Try.func11, Try.ntmps11
    go_wp2_with fail
    (with_reducible refine (AT.out).mono ?_)
    rintro e w' ⟨rfl, rfl⟩
    go_wp2
    go_ret
    exact ⟨rfl, Below.refl _ _⟩
  · have AT := Lib.hid (at_out w g gf h l c hl i hi)
    have C := Lib.hid c
    rw [fr_out hi]
    clear c
    go_enter Try.func11, Try.ntmps11
    go_wp2_with fail
    (with_reducible refine (AT.out).mono ?_)
    rintro e w' ⟨rfl, rfl⟩
    go_wp2
    go_ret
    exact ⟨rfl, (Below.refl _ _).alloc (Nat.le_refl _) _⟩
set_option maxHeartbeats 4000000 in
include ho hB in
theorem touch_any : Calls Try.prog 17 #[.pointer (some ⟨g, 0, none⟩), .int .i64 i] w (Did w g gf h (touchM l i) ) := by
  by_cases hi : 0 ≤ i ∧ i < l.length
  · obtain ⟨j, rfl⟩ := Int.eq_ofNat_of_zero_le hi.1
    have hj : j < l.length := by omega
    obtain ⟨k0, k1, k2⟩ := c.cells hj
    have z0 := c.fs.frozen (j * 3)
    have z1 := c.fs.frozen (j * 3 + 1)
    have z2 := c.fs.frozen (j * 3 + 2)
    have C := Lib.hid c
    have HJ := Lib.hid hj
    have AT := Lib.hid (at_in w g gf h l c hl j hj)
    obtain ⟨q0, q1, q2⟩ := ho.at_ hB.1 j
    have ef := fr_in hj
    unfold touchM
    rw [ef]
    have en : ((j : Int)).toNat = j := by simp
    rw [en]
    have HT := Lib.hid (fun w' x (c' : CK w' g gf l h) => c'.t hj x)
    have HU := Lib.hid (fun w' x (c' : CK w' g gf l h) => c'.u hj x)
    have HP := Lib.hid (fun w' x (c' : CK w' g gf l h) => c'.p hj x)
    have HA := Lib.hid (c.all hj)
    generalize l.getD j z3 = f at *
    obtain ⟨ft, fu, fp⟩ := f
    dsimp only at *
    have Q2 := Lib.hid q2
    clear c ef en q2
    cases ft
    · go_enter Try.func17, Try.ntmps17
      go_wp2_with fail
      (with_reducible refine (AT.out).mono ?_)
      rintro e w' ⟨rfl, rfl⟩
      go_wp2
      go_ret
      exact ⟨rfl, C.out, Fr.refl _ _⟩
    · go_enter Try.func17, Try.ntmps17
      go_wp2_with fail
      (with_reducible refine (AT.out).mono ?_)
      rintro e w' ⟨rfl, rfl⟩
      go_wp2
      go_ret
      exact ⟨rfl, HU.out _ true C.out, (Fr.refl _ _).setCell (.inl (.inr rfl)) _⟩
  · have AT := Lib.hid (at_out w g gf h l c hl i hi)
    have C := Lib.hid c
    unfold touchM
    rw [fr_out hi]
    clear c
    go_enter Try.func17, Try.ntmps17
    go_wp2_with fail
    (with_reducible refine (AT.out).mono ?_)
    rintro e w' ⟨rfl, rfl⟩
    go_wp2
    go_ret
    exact ⟨rfl, C.out.alloc _, (Fr.refl _ _).alloc _⟩
set_option maxHeartbeats 4000000 in
include ho hB in
theorem pin_any : Calls Try.prog 22 #[.pointer (some ⟨g, 0, none⟩), .int .i64 i] w (Did w g gf h (pinM l i) ) := by
  by_cases hi : 0 ≤ i ∧ i < l.length
  · obtain ⟨j, rfl⟩ := Int.eq_ofNat_of_zero_le hi.1
    have hj : j < l.length := by omega
    obtain ⟨k0, k1, k2⟩ := c.cells hj
    have z0 := c.fs.frozen (j * 3)
    have z1 := c.fs.frozen (j * 3 + 1)
    have z2 := c.fs.frozen (j * 3 + 2)
    have C := Lib.hid c
    have HJ := Lib.hid hj
    have AT := Lib.hid (at_in w g gf h l c hl j hj)
    obtain ⟨q0, q1, q2⟩ := ho.at_ hB.1 j
    have ef := fr_in hj
    unfold pinM
    rw [ef]
    have en : ((j : Int)).toNat = j := by simp
    rw [en]
    have HT := Lib.hid (fun w' x (c' : CK w' g gf l h) => c'.t hj x)
    have HU := Lib.hid (fun w' x (c' : CK w' g gf l h) => c'.u hj x)
    have HP := Lib.hid (fun w' x (c' : CK w' g gf l h) => c'.p hj x)
    have HA := Lib.hid (c.all hj)
    generalize l.getD j z3 = f at *
    obtain ⟨ft, fu, fp⟩ := f
    dsimp only at *
    have Q2 := Lib.hid q2
    clear c ef en q2
    have hw : wrap64 (fp + 1) = fp + 1 := wrap64_in _ (by omega)
    cases ft
    · go_enter Try.func22, Try.ntmps22
      go_wp2_with fail
      (with_reducible refine (AT.out).mono ?_)
      rintro e w' ⟨rfl, rfl⟩
      go_wp2
      go_ret
      exact ⟨rfl, C.out, Fr.refl _ _⟩
    · go_enter Try.func22, Try.ntmps22
      go_wp2_with fail
      (with_reducible refine (AT.out).mono ?_)
      rintro e w' ⟨rfl, rfl⟩
      go_wp2
      go_ret
      exact ⟨rfl, HP.out _ (fp + 1) C.out, (Fr.refl _ _).setCell (.inl (.inr rfl)) _⟩
  · have AT := Lib.hid (at_out w g gf h l c hl i hi)
    have C := Lib.hid c
    unfold pinM
    rw [fr_out hi]
    clear c
    go_enter Try.func22, Try.ntmps22
    go_wp2_with fail
    (with_reducible refine (AT.out).mono ?_)
    rintro e w' ⟨rfl, rfl⟩
    go_wp2
    go_ret
    exact ⟨rfl, C.out.alloc _, (Fr.refl _ _).alloc _⟩
set_option maxHeartbeats 4000000 in
include ho hB in
theorem unpin_any : Calls Try.prog 15 #[.pointer (some ⟨g, 0, none⟩), .int .i64 i] w (Did w g gf h (unpinM l i) ) := by
  by_cases hi : 0 ≤ i ∧ i < l.length
  · obtain ⟨j, rfl⟩ := Int.eq_ofNat_of_zero_le hi.1
    have hj : j < l.length := by omega
    obtain ⟨k0, k1, k2⟩ := c.cells hj
    have z0 := c.fs.frozen (j * 3)
    have z1 := c.fs.frozen (j * 3 + 1)
    have z2 := c.fs.frozen (j * 3 + 2)
    have C := Lib.hid c
    have HJ := Lib.hid hj
    have AT := Lib.hid (at_in w g gf h l c hl j hj)
    obtain ⟨q0, q1, q2⟩ := ho.at_ hB.1 j
    have ef := fr_in hj
    unfold unpinM
    rw [ef]
    have en : ((j : Int)).toNat = j := by simp
    rw [en]
    have HT := Lib.hid (fun w' x (c' : CK w' g gf l h) => c'.t hj x)
    have HU := Lib.hid (fun w' x (c' : CK w' g gf l h) => c'.u hj x)
    have HP := Lib.hid (fun w' x (c' : CK w' g gf l h) => c'.p hj x)
    have HA := Lib.hid (c.all hj)
    generalize l.getD j z3 = f at *
    obtain ⟨ft, fu, fp⟩ := f
    dsimp only at *
    have Q2 := Lib.hid q2
    clear c ef en q2
    have hw : wrap64 (fp - 1) = fp - 1 := wrap64_in _ (by omega)
    by_cases h0 : fp = 0
    · subst h0
      go_enter Try.func15, Try.ntmps15
      go_wp2_with fail
      (with_reducible refine (AT.out).mono ?_)
      rintro e w' ⟨rfl, rfl⟩
      go_wp2
      go_ret
      exact ⟨rfl, C.out, Fr.refl _ _⟩
    · have d0 : (fp == 0) = false := by simpa using h0
      rw [if_neg h0]
      clear h0
      go_enter Try.func15, Try.ntmps15
      go_wp2_with fail
      (with_reducible refine (AT.out).mono ?_)
      rintro e w' ⟨rfl, rfl⟩
      go_wp2
      go_ret
      exact ⟨rfl, HP.out _ (fp - 1) C.out, (Fr.refl _ _).setCell (.inl (.inr rfl)) _⟩
  · have AT := Lib.hid (at_out w g gf h l c hl i hi)
    have C := Lib.hid c
    unfold unpinM
    rw [fr_out hi]
    clear c
    go_enter Try.func15, Try.ntmps15
    go_wp2_with fail
    (with_reducible refine (AT.out).mono ?_)
    rintro e w' ⟨rfl, rfl⟩
    go_wp2
    go_ret
    exact ⟨rfl, C.out.alloc _, (Fr.refl _ _).alloc _⟩
set_option maxHeartbeats 4000000 in
include ho hB in
theorem leave_any : Calls Try.prog 18 #[.pointer (some ⟨g, 0, none⟩), .int .i64 i] w (Did w g gf h (leaveM l i) ) := by
  by_cases hi : 0 ≤ i ∧ i < l.length
  · obtain ⟨j, rfl⟩ := Int.eq_ofNat_of_zero_le hi.1
    have hj : j < l.length := by omega
    obtain ⟨k0, k1, k2⟩ := c.cells hj
    have z0 := c.fs.frozen (j * 3)
    have z1 := c.fs.frozen (j * 3 + 1)
    have z2 := c.fs.frozen (j * 3 + 2)
    have C := Lib.hid c
    have HJ := Lib.hid hj
    have AT := Lib.hid (at_in w g gf h l c hl j hj)
    obtain ⟨q0, q1, q2⟩ := ho.at_ hB.1 j
    have ef := fr_in hj
    unfold leaveM
    rw [ef]
    have en : ((j : Int)).toNat = j := by simp
    rw [en]
    have HT := Lib.hid (fun w' x (c' : CK w' g gf l h) => c'.t hj x)
    have HU := Lib.hid (fun w' x (c' : CK w' g gf l h) => c'.u hj x)
    have HP := Lib.hid (fun w' x (c' : CK w' g gf l h) => c'.p hj x)
    have HA := Lib.hid (c.all hj)
    generalize l.getD j z3 = f at *
    obtain ⟨ft, fu, fp⟩ := f
    dsimp only at *
    have Q2 := Lib.hid q2
    clear c ef en q2
    cases ft
    · go_enter Try.func18, Try.ntmps18
      go_wp2_with fail
      (with_reducible refine (AT.out).mono ?_)
      rintro e w' ⟨rfl, rfl⟩
      go_wp2
      go_ret
      exact ⟨rfl, C.out, Fr.refl _ _⟩
    · by_cases h0 : fp = 0
      · subst h0
        go_enter Try.func18, Try.ntmps18
        go_wp2_with fail
        (with_reducible refine (AT.out).mono ?_)
        rintro e w' ⟨rfl, rfl⟩
        go_wp2
        go_ret
        exact ⟨rfl, HA.out z3, (((Fr.refl _ _).setCell (.inl (.inr rfl)) _).setCell (.inl (.inr rfl)) _).setCell (.inl (.inr rfl)) _⟩
      · have d0 : decide (0 < fp) = true := decide_eq_true (by omega)
        rw [show (true && decide (fp = 0)) = false by simp [h0]]
        clear h0
        go_enter Try.func18, Try.ntmps18
        go_wp2_with fail
        (with_reducible refine (AT.out).mono ?_)
        rintro e w' ⟨rfl, rfl⟩
        go_wp2
        go_ret
        exact ⟨rfl, C.out, Fr.refl _ _⟩
  · have AT := Lib.hid (at_out w g gf h l c hl i hi)
    have C := Lib.hid c
    unfold leaveM
    rw [fr_out hi]
    clear c
    go_enter Try.func18, Try.ntmps18
    go_wp2_with fail
    (with_reducible refine (AT.out).mono ?_)
    rintro e w' ⟨rfl, rfl⟩
    go_wp2
    go_ret
    exact ⟨rfl, C.out.alloc _, (Fr.refl _ _).alloc _⟩
end
end Go.Proofs.Ytimnhanjlldhoaa.Clk
