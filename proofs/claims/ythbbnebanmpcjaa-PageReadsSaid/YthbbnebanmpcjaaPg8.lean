import Derived.Test.YthbbnebanmpcjaaPg7
/- A page: Clear, Set. -/
namespace Go.Proofs.Ythbbnebanmpcjaa.Pg
open Go.ChangeShapes Go.WideShapes Go.ChangeAt Go.RowKit Go.IntWalk Go.Proofs.Mem
set_option linter.unusedVariables false
set_option linter.unusedSimpArgs false
/-- how many slots there are, up to the last one of the first n that has something -/
def trim (ys : List Int) : Nat → Nat
  | 0 => 0
  | n + 1 => if len ys n = 0 then trim ys n else n + 1
theorem trim_le (ys : List Int) (n : Nat) : trim ys n ≤ n := by
  induction n with
  | zero => exact Nat.le_refl _
  | succ n ih => unfold trim; split; (omega); (exact Nat.le_refl _)
def clearP (xs : List Int) (s : Nat) : List Int := setN (emptyP xs s) 12 2 ((trim (emptyP xs s) (cnt (emptyP xs s)) : Nat) : Int)
theorem clear_no (w : World) (b : Nat) (N : Int) (hL : Calls Try.prog 44 #[.pointer (some ⟨b, 0, none⟩), .int .i64 N] w fun e w' => e = .returned (.int .i64 0) ∧ w = w') :
    Calls Try.prog 28 #[.pointer (some ⟨b, 0, none⟩), .int .i64 N] w fun e w' => e = .returned (.bool false) ∧ w = w' := by
  have HL := Lib.hid hL
  clear hL
  go_enter Try.func28, Try.ntmps28
  go_wp2_with fail
  (with_reducible refine HL.out.mono ?_)
  rintro e w1 ⟨rfl, rfl⟩
  go_wp2
  go_ret
  exact ⟨rfl, rfl⟩
set_option maxRecDepth 100000 in
set_option maxHeartbeats 4000000 in
theorem clear_yes (w : World) (b : Nat) (xs : List Int) (h : PgAt w b xs) (s : Nat) (hs : s < 107) (h0 : len xs s ≠ 0) (hw : off xs s + len xs s ≤ 448) (hc : cnt (emptyP xs s) ≤ 40) (N : Int) (hN : N = s) :
    Calls Try.prog 28 #[.pointer (some ⟨b, 0, none⟩), .int .i64 N] w fun e w' => e = .returned (.bool true) ∧ PgAt w' b (clearP xs s) ∧ Fr (fun x => x = b) w w' := by
  subst hN
  have LA := Lib.hid (length_any w b xs h s hs (s : Int) rfl)
  have EA := Lib.hid (empty_any w b xs h s hs h0 hw (s : Int) rfl)
  have HC := Lib.hid (show clearP xs s = setN (emptyP xs s) 12 2 ((trim (emptyP xs s) (cnt (emptyP xs s)) : Nat) : Int) from rfl)
  rw [HC.out]
  obtain ⟨ys, hys⟩ : ∃ ys, ys = emptyP xs s := ⟨_, rfl⟩
  rw [← hys] at EA hc ⊢
  obtain ⟨L, hL⟩ : ∃ L, L = len xs s := ⟨_, rfl⟩
  rw [← hL] at LA h0
  have b0 : ((L : Int) == 0) = false := by rw [beq_eq_false_iff_ne]; omega
  obtain ⟨C, hC⟩ : ∃ C, C = cnt ys := ⟨_, rfl⟩
  have HCC := Lib.hid hC
  rw [← hC] at hc ⊢
  obtain ⟨T, hT⟩ : ∃ T, T = trim ys C := ⟨_, rfl⟩
  have HT := Lib.hid hT
  have hTC : T ≤ C := by rw [hT]; exact trim_le _ _
  rw [← hT]
  have HTC := Lib.hid hTC
  clear h hys hL hC hT
  go_enter Try.func28, Try.ntmps28
  go_wp2_with fail
  (with_reducible refine LA.out.mono ?_)
  rintro e wx ⟨rfl, rfl⟩
  go_wp2_with fail
  (with_reducible refine EA.out.mono ?_)
  rintro e w1 ⟨rfl, p1, f1⟩
  have P1 := Lib.hid p1
  have F1 := Lib.hid f1
  have CA := Lib.hid (count_any w1 b ys p1)
  rw [← HCC.out] at CA
  have LB := Lib.hid (fun n (hn : n < 107) => length_any w1 b ys p1 n hn (n : Int) rfl)
  have PU := Lib.hid (put_at w1 b ys p1 12 2 (T : Int) 12 2 rfl rfl (by omega) (by decide) (by decide) (by decide))
  clear p1 f1
  go_wp2_with fail
  (with_reducible refine CA.out.mono ?_)
  rintro e wx ⟨rfl, rfl⟩
  go_wp2
  go_loopw [5] (fun x wr => ∃ n : Nat, n ≤ C ∧ x = .int .i64 n ∧ Hid (trim ys n = T) ∧ w1 = wr) (fun x _ => (intOf x).toNat)
  case atStart => exact ⟨C, Nat.le_refl _, rfl, Lib.hid HT.out.symm, rfl⟩
  case round =>
    obtain ⟨n, hn, rfl, HN, rfl⟩ := hrel
    cases n with
    | zero =>
      have hT0 : T = 0 := by rw [← HN.out]; rfl
      have wu : IntKind.u64.wrap (0 : Int) = 0 := by decide
      have PU2 := PU
      rw [hT0, show (((0 : Nat) : Int)) = 0 from rfl] at PU2
      have HT0 := Lib.hid hT0
      clear hT0
      go_wp2_with fail
      (with_reducible refine PU2.out.mono ?_)
      rintro e w2 ⟨rfl, p2, f2⟩
      have P2 := Lib.hid p2
      have F2 := Lib.hid (F1.out.trans f2)
      clear p2 f2
      go_wp2
      go_ret
      exact ⟨rfl, by rw [HT0.out]; exact P2.out, F2.out⟩
    | succ k =>
      have hk : k < 107 := by omega
      have LK := Lib.hid (LB.out k hk)
      have d0 : decide ((0 : Int) < ((k + 1 : Nat) : Int)) = true := decide_eq_true (by omega)
      have wk : wrap64 (((k + 1 : Nat) : Int) - 1) = (k : Int) := by rw [wrap64_in _ (by omega)] <;> omega
      have HTR := Lib.hid (show trim ys (k + 1) = if len ys k = 0 then trim ys k else k + 1 from rfl)
      obtain ⟨LL, hLL⟩ : ∃ LL, LL = len ys k := ⟨_, rfl⟩
      rw [← hLL] at LK HTR
      obtain ⟨K1, hK1⟩ : ∃ K1 : Int, K1 = ((k + 1 : Nat) : Int) := ⟨_, rfl⟩
      rw [← hK1] at d0 wk ⊢
      have HK1 := Lib.hid hK1
      have d0' : (0 : Int) < K1 := by omega
      have HKC := Lib.hid (show k ≤ C by omega)
      clear hLL hk
      by_cases hl : LL = 0
      · subst hl
        have HN2 := Lib.hid (show trim ys k = T by rw [← HN.out, HTR.out, if_pos rfl])
        clear hK1
        go_wp2_with fail
        (with_reducible refine LK.out.mono ?_)
        rintro e wx ⟨rfl, rfl⟩
        go_wp2
        go_roundw
        case rel => exact ⟨k, HKC.out, by rw [wk], HN2, trivial⟩
        case measure => have := HK1.out; simp [intOf]; omega
      · have bl : ((LL : Int) == 0) = false := by rw [beq_eq_false_iff_ne]; omega
        have hTk : T = k + 1 := by rw [← HN.out, HTR.out, if_neg hl]
        have wu : IntKind.u64.wrap K1 = K1 := by rw [IntKind.wrap_u64]; omega
        have PU2 := PU
        rw [show ((T : Nat) : Int) = K1 by rw [hTk]; exact hK1.symm] at PU2
        have HTK := Lib.hid (show K1 = ((T : Nat) : Int) by rw [hTk]; exact hK1)
        clear hTk hK1
        go_wp2_with (first
          | ((with_reducible refine LK.out.mono ?_); rintro e wx ⟨rfl, rfl⟩)
          | fail)
        (with_reducible refine PU2.out.mono ?_)
        rintro e w2 ⟨rfl, p2, f2⟩
        have P2 := Lib.hid p2
        have F2 := Lib.hid (F1.out.trans f2)
        clear p2 f2
        go_wp2
        go_ret
        exact ⟨rfl, by rw [← HTK.out]; exact P2.out, F2.out⟩
end Go.Proofs.Ythbbnebanmpcjaa.Pg
