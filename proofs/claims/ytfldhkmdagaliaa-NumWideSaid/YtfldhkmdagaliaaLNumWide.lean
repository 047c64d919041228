/- The law manciplelaw01.NumWide returns true whatever it is called with, and what it was called with reads as it did. No condition. -/
import Derived.Test.YtfldhkmdagaliaaLaw
import Derived.Test.YtfldhkmdagaliaaNumKnown
import Derived.Test.YtfldhkmdagaliaaMem2
import Derived.Deep.QuietTactic
import Derived.BigQuiet
namespace Go.Proofs.Ytfldhkmdagaliaa.LNumWide
open Go.ChangeShapes Go.WideShapes Go.ChangeAt Go.RowKit Go.IntWalk Go.Proofs.Mem Law
set_option linter.unusedVariables false
open NumBytes NumInts Go.Proofs.NumMath
theorem put_take (n : Int) (j k : Nat) (h : j ≤ k) : (putS n k).take j = putS n j := by
  unfold putS
  rw [← List.map_take, List.take_range, Nat.min_eq_left h]
theorem signed_low8 (n : Int) : signedS (n % 4294967296) 8 = signedS n 8 := by
  rw [← signed_8, ← signed_8]
  have : ∀ m : Int, IntKind.i8.wrap m = (m + 128) % 256 - 128 := fun m => by simp [IntKind.wrap, IntKind.bits, IntKind.signed]; split <;> omega
  rw [this, this]; omega
theorem signed_again32 (n : Int) : signedS (IntKind.u64.wrap (signedS n 32)) 32 = signedS n 32 := by
  rw [← signed_32, ← signed_32, wrap_u64]
  unfold wrap32; omega
theorem foldS_bd (v : Int) (h0 : -9223372036854775808 ≤ v) (h1 : v ≤ 9223372036854775807) : 0 ≤ foldS v ∧ foldS v ≤ 18446744073709551615 := by
  unfold foldS; split <;> omega
theorem fold_odd (v : Int) (h0 : -9223372036854775808 ≤ v) (h1 : v ≤ 9223372036854775807) : foldS v % 2 = rightS (IntKind.u64.wrap v) 63 := by
  unfold foldS rightS
  rw [wrap_u64, show min (63 : Int).toNat 64 = 63 from rfl, show (2 : Int) ^ 63 = 9223372036854775808 from by decide]
  split <;> omega
set_option maxHeartbeats 4000000 in
theorem walk (w : World) (n : Int) (hn : 0 ≤ n ∧ n ≤ 18446744073709551615) (a : Int) (ha : 0 ≤ a ∧ a ≤ 255) (b : Int) (hb : 0 ≤ b ∧ b ≤ 255) (v : Int) (hv : -9223372036854775808 ≤ v ∧ v ≤ 9223372036854775807) :
    Calls Try.prog 10 #[.int .u64 n, .int .u8 a, .int .u8 b, .int .i64 v] w fun e w' => e = .returned (.bool true) ∧ Below w.heap.size w w' := by
  obtain ⟨J, hJ, hJ1, hJ8⟩ : ∃ J : Nat, 1 + a % 8 = (J : Int) ∧ 1 ≤ J ∧ J ≤ 8 := ⟨(1 + a % 8).toNat, by omega, by omega, by omega⟩
  obtain ⟨K, hK, hK1, hK8⟩ : ∃ K : Nat, 1 + b % 8 = (K : Int) ∧ 1 ≤ K ∧ K ≤ 8 := ⟨(1 + b % 8).toNat, by omega, by omega, by omega⟩
  rcases Nat.lt_trichotomy J K with hab | hab | hab
  · have hlt := hab
    go_enter Try.func10, Try.ntmps10
    go_wp2_with fail
    (with_reducible refine (put_any n (J : Nat) hn.1 hn.2 (by omega) (by omega) _).mono ?_)
    rintro e w1 ⟨p, rfl, hown1, hb1⟩
    have hp := IR.of_own hown1
    rw [Int.toNat_natCast] at hp
    obtain ⟨Ap, cp, hpe, _, _⟩ := hp.form
    rw [putS_len] at hpe
    subst hpe
    go_wp2_with fail
    (with_reducible refine (put_any n (K : Nat) hn.1 hn.2 (by omega) (by omega) _).mono ?_)
    rintro e w2 ⟨q, rfl, hown2, hb2⟩
    have hq := IR.of_own hown2
    rw [Int.toNat_natCast] at hq
    obtain ⟨Aq, cq, hqe, hq1, hq2⟩ := hq.form
    rw [putS_len] at hqe hq1
    subst hqe
    unfold maxLen at hq2
    have hp2 := hp.below hb2
    clear hp hown1 hown2
    go_wp2_with fail
    (with_reducible refine (narrow_any n hn.1 hn.2 _).mono ?_)
    rintro e w3 ⟨rfl, hb3⟩
    have hp3 := (hp2.below (hb3.mono hb2.size)).alloc (by exact Nat.le_trans hb2.size hb3.size) (.cells (narrowV n) 33)
    have hq3 := (hq.below hb3).alloc hb3.size (.cells (narrowV n) 33)
    simp only [narrowV] at hp3 hq3 ⊢
    clear hp2 hq
    have hl : J ≤ K := by omega
    have ht := hq3.take (m := J) (by omega)
    rw [put_take n _ _ hl] at ht
    go_wp2_with fail
    (with_reducible refine (same_any _ _ _ _ _ _ _ hp3 ht (putS_bytes _ _) (putS_bytes _ _)).mono ?_)
    rintro e w' ⟨rfl, rfl⟩
    rw [decide_eq_true rfl]
    go_wp2_with fail
    have hbel : Below w.heap.size w (w3.alloc (Obj.cells #[.int .i64 (n % 256), .int .i64 (n % 65536), .int .i64 (n % 4294967296), .int .i64 (signedS n 8), .int .i64 (signedS n 16), .int .i64 (signedS n 32)] 33)) :=
      ((hb1.trans (hb2.mono hb1.size)).trans (hb3.mono (Nat.le_trans hb1.size hb2.size))).alloc (Nat.le_trans (Nat.le_trans hb1.size hb2.size) hb3.size) _
    have k0 : (w3.alloc (Obj.cells #[.int .i64 (n % 256), .int .i64 (n % 65536), .int .i64 (n % 4294967296), .int .i64 (signedS n 8), .int .i64 (signedS n 16), .int .i64 (signedS n 32)] 33)).cell? ⟨w3.heap.size, 0, none⟩ = some (.int .i64 (n % 256)) := cell_new _ _ _ _
    have k1 : (w3.alloc (Obj.cells #[.int .i64 (n % 256), .int .i64 (n % 65536), .int .i64 (n % 4294967296), .int .i64 (signedS n 8), .int .i64 (signedS n 16), .int .i64 (signedS n 32)] 33)).cell? ⟨w3.heap.size, 1, none⟩ = some (.int .i64 (n % 65536)) := cell_new _ _ _ _
    have k2 : (w3.alloc (Obj.cells #[.int .i64 (n % 256), .int .i64 (n % 65536), .int .i64 (n % 4294967296), .int .i64 (signedS n 8), .int .i64 (signedS n 16), .int .i64 (signedS n 32)] 33)).cell? ⟨w3.heap.size, 2, none⟩ = some (.int .i64 (n % 4294967296)) := cell_new _ _ _ _
    have k3 : (w3.alloc (Obj.cells #[.int .i64 (n % 256), .int .i64 (n % 65536), .int .i64 (n % 4294967296), .int .i64 (signedS n 8), .int .i64 (signedS n 16), .int .i64 (signedS n 32)] 33)).cell? ⟨w3.heap.size, 3, none⟩ = some (.int .i64 (signedS n 8)) := cell_new _ _ _ _
    have k4 : (w3.alloc (Obj.cells #[.int .i64 (n % 256), .int .i64 (n % 65536), .int .i64 (n % 4294967296), .int .i64 (signedS n 8), .int .i64 (signedS n 16), .int .i64 (signedS n 32)] 33)).cell? ⟨w3.heap.size, 4, none⟩ = some (.int .i64 (signedS n 16)) := cell_new _ _ _ _
    have k5 : (w3.alloc (Obj.cells #[.int .i64 (n % 256), .int .i64 (n % 65536), .int .i64 (n % 4294967296), .int .i64 (signedS n 8), .int .i64 (signedS n 16), .int .i64 (signedS n 32)] 33)).cell? ⟨w3.heap.size, 5, none⟩ = some (.int .i64 (signedS n 32)) := cell_new _ _ _ _
    generalize w3.alloc (Obj.cells #[.int .i64 (n % 256), .int .i64 (n % 65536), .int .i64 (n % 4294967296), .int .i64 (signedS n 8), .int .i64 (signedS n 16), .int .i64 (signedS n 32)] 33) = w4 at *
    have e1 : (n % 65536).tmod 256 = n % 256 := by rw [Int.tmod_eq_emod_of_nonneg (by omega)]; omega
    have e2 : (n % 4294967296).tmod 65536 = n % 65536 := by rw [Int.tmod_eq_emod_of_nonneg (by omega)]; omega
    have e3 : IntKind.u64.wrap (n % 4294967296) = n % 4294967296 := u64_in _ (by omega)
    have c8 : ∀ W, Calls Try.prog 18 #[.int .u64 (n % 4294967296), .int .i64 8] W fun e w' => e = .returned (.int .i64 (signedS n 8)) ∧ W = w' := fun W => by
      have := signed_any (n % 4294967296) 8 (by omega) (by omega) (by omega) (by omega) W
      rwa [signed_low8] at this
    have c16 : ∀ W, Calls Try.prog 18 #[.int .u64 n, .int .i64 16] W fun e w' => e = .returned (.int .i64 (signedS n 16)) ∧ W = w' := fun W => signed_any n 16 hn.1 hn.2 (by omega) (by omega) W
    have c32 : ∀ W, Calls Try.prog 18 #[.int .u64 (IntKind.u64.wrap (signedS n 32)), .int .i64 32] W fun e w' => e = .returned (.int .i64 (signedS n 32)) ∧ W = w' := fun W => by
      have := signed_any (IntKind.u64.wrap (signedS n 32)) 32 (by rw [wrap_u64]; omega) (by rw [wrap_u64]; omega) (by omega) (by omega) W
      rwa [signed_again32] at this
    have C8 := Lib.hid c8
    have C16 := Lib.hid c16
    have C32 := Lib.hid c32
    clear c8 c16 c32 hp3 hq3 ht hb1 hb2 hb3
    go_quiet ((go_at_call 18; first | (with_reducible exact quiet_l (C8.out _)) | (with_reducible exact quiet_l (C16.out _)) | (with_reducible exact quiet_l (C32.out _))))
    have hfb := foldS_bd v hv.1 hv.2
    have hlast : foldS v % 2 = rightS (IntKind.u64.wrap v) 63 := fold_odd v hv.1 hv.2
    have hwv : 0 ≤ IntKind.u64.wrap v ∧ IntKind.u64.wrap v ≤ 18446744073709551615 := by rw [wrap_u64]; omega
    have HL := Lib.hid hlast
    clear hlast
    by_cases hs1 : -1000 < v
    · by_cases hs2 : v < 1000
      · have hf2 : foldS v < 2000 := by unfold foldS; split <;> omega
        go_wp2_with fail
        (with_reducible refine (known_any _).mono ?_)
        rintro e w5 ⟨rfl, hb5⟩
        go_wp2_with fail
        (with_reducible refine (fold_any v hv.1 hv.2 _).mono ?_)
        rintro e w' ⟨rfl, rfl⟩
        go_wp2_with fail
        (with_reducible refine (fold_any v hv.1 hv.2 _).mono ?_)
        rintro e w' ⟨rfl, rfl⟩
        go_wp2_with fail
        (with_reducible refine (right_any _ 63 hwv.1 hwv.2 (by omega) (by omega) _).mono ?_)
        rintro e w' ⟨rfl, rfl⟩
        rw [← HL.out]
        go_wp2
        go_ret
        exact ⟨rfl, (below_drewN hbel _).trans (hb5.mono (below_drewN hbel _).size)⟩
      · have hwe : IntKind.u64.wrap v = v := u64_in _ (by omega)
        rw [hwe] at hwv HL
        go_wp2_with fail
        (with_reducible refine (known_any _).mono ?_)
        rintro e w5 ⟨rfl, hb5⟩
        go_wp2_with fail
        (with_reducible refine (fold_any v hv.1 hv.2 _).mono ?_)
        rintro e w' ⟨rfl, rfl⟩
        go_wp2_with fail
        (with_reducible refine (right_any _ 63 hwv.1 hwv.2 (by omega) (by omega) _).mono ?_)
        rintro e w' ⟨rfl, rfl⟩
        rw [← HL.out]
        go_wp2
        go_ret
        exact ⟨rfl, (below_drewN hbel _).trans (hb5.mono (below_drewN hbel _).size)⟩
    · go_wp2_with fail
      (with_reducible refine (known_any _).mono ?_)
      rintro e w5 ⟨rfl, hb5⟩
      go_wp2_with fail
      (with_reducible refine (fold_any v hv.1 hv.2 _).mono ?_)
      rintro e w' ⟨rfl, rfl⟩
      go_wp2_with fail
      (with_reducible refine (right_any _ 63 hwv.1 hwv.2 (by omega) (by omega) _).mono ?_)
      rintro e w' ⟨rfl, rfl⟩
      rw [← HL.out]
      go_wp2
      go_ret
      exact ⟨rfl, (below_drewN hbel _).trans (hb5.mono (below_drewN hbel _).size)⟩
  · have hlt : J ≤ K := by omega
    subst hab
    go_enter Try.func10, Try.ntmps10
    go_wp2_with fail
    (with_reducible refine (put_any n (J : Nat) hn.1 hn.2 (by omega) (by omega) _).mono ?_)
    rintro e w1 ⟨p, rfl, hown1, hb1⟩
    have hp := IR.of_own hown1
    rw [Int.toNat_natCast] at hp
    obtain ⟨Ap, cp, hpe, _, _⟩ := hp.form
    rw [putS_len] at hpe
    subst hpe
    go_wp2_with fail
    (with_reducible refine (put_any n (J : Nat) hn.1 hn.2 (by omega) (by omega) _).mono ?_)
    rintro e w2 ⟨q, rfl, hown2, hb2⟩
    have hq := IR.of_own hown2
    rw [Int.toNat_natCast] at hq
    obtain ⟨Aq, cq, hqe, hq1, hq2⟩ := hq.form
    rw [putS_len] at hqe hq1
    subst hqe
    unfold maxLen at hq2
    have hp2 := hp.below hb2
    clear hp hown1 hown2
    go_wp2_with fail
    (with_reducible refine (narrow_any n hn.1 hn.2 _).mono ?_)
    rintro e w3 ⟨rfl, hb3⟩
    have hp3 := (hp2.below (hb3.mono hb2.size)).alloc (by exact Nat.le_trans hb2.size hb3.size) (.cells (narrowV n) 33)
    have hq3 := (hq.below hb3).alloc hb3.size (.cells (narrowV n) 33)
    simp only [narrowV] at hp3 hq3 ⊢
    clear hp2 hq
    have hl : J ≤ J := by omega
    have ht := hq3.take (m := J) (by omega)
    rw [put_take n _ _ hl] at ht
    go_wp2_with fail
    (with_reducible refine (same_any _ _ _ _ _ _ _ hp3 ht (putS_bytes _ _) (putS_bytes _ _)).mono ?_)
    rintro e w' ⟨rfl, rfl⟩
    rw [decide_eq_true rfl]
    go_wp2_with fail
    have hbel : Below w.heap.size w (w3.alloc (Obj.cells #[.int .i64 (n % 256), .int .i64 (n % 65536), .int .i64 (n % 4294967296), .int .i64 (signedS n 8), .int .i64 (signedS n 16), .int .i64 (signedS n 32)] 33)) :=
      ((hb1.trans (hb2.mono hb1.size)).trans (hb3.mono (Nat.le_trans hb1.size hb2.size))).alloc (Nat.le_trans (Nat.le_trans hb1.size hb2.size) hb3.size) _
    have k0 : (w3.alloc (Obj.cells #[.int .i64 (n % 256), .int .i64 (n % 65536), .int .i64 (n % 4294967296), .int .i64 (signedS n 8), .int .i64 (signedS n 16), .int .i64 (signedS n 32)] 33)).cell? ⟨w3.heap.size, 0, none⟩ = some (.int .i64 (n % 256)) := cell_new _ _ _ _
    have k1 : (w3.alloc (Obj.cells #[.int .i64 (n % 256), .int .i64 (n % 65536), .int .i64 (n % 4294967296), .int .i64 (signedS n 8), .int .i64 (signedS n 16), .int .i64 (signedS n 32)] 33)).cell? ⟨w3.heap.size, 1, none⟩ = some (.int .i64 (n % 65536)) := cell_new _ _ _ _
    have k2 : (w3.alloc (Obj.cells #[.int .i64 (n % 256), .int .i64 (n % 65536), .int .i64 (n % 4294967296), .int .i64 (signedS n 8), .int .i64 (signedS n 16), .int .i64 (signedS n 32)] 33)).cell? ⟨w3.heap.size, 2, none⟩ = some (.int .i64 (n % 4294967296)) := cell_new _ _ _ _
    have k3 : (w3.alloc (Obj.cells #[.int .i64 (n % 256), .int .i64 (n % 65536), .int .i64 (n % 4294967296), .int .i64 (signedS n 8), .int .i64 (signedS n 16), .int .i64 (signedS n 32)] 33)).cell? ⟨w3.heap.size, 3, none⟩ = some (.int .i64 (signedS n 8)) := cell_new _ _ _ _
    have k4 : (w3.alloc (Obj.cells #[.int .i64 (n % 256), .int .i64 (n % 65536), .int .i64 (n % 4294967296), .int .i64 (signedS n 8), .int .i64 (signedS n 16), .int .i64 (signedS n 32)] 33)).cell? ⟨w3.heap.size, 4, none⟩ = some (.int .i64 (signedS n 16)) := cell_new _ _ _ _
    have k5 : (w3.alloc (Obj.cells #[.int .i64 (n % 256), .int .i64 (n % 65536), .int .i64 (n % 4294967296), .int .i64 (signedS n 8), .int .i64 (signedS n 16), .int .i64 (signedS n 32)] 33)).cell? ⟨w3.heap.size, 5, none⟩ = some (.int .i64 (signedS n 32)) := cell_new _ _ _ _
    generalize w3.alloc (Obj.cells #[.int .i64 (n % 256), .int .i64 (n % 65536), .int .i64 (n % 4294967296), .int .i64 (signedS n 8), .int .i64 (signedS n 16), .int .i64 (signedS n 32)] 33) = w4 at *
    have e1 : (n % 65536).tmod 256 = n % 256 := by rw [Int.tmod_eq_emod_of_nonneg (by omega)]; omega
    have e2 : (n % 4294967296).tmod 65536 = n % 65536 := by rw [Int.tmod_eq_emod_of_nonneg (by omega)]; omega
    have e3 : IntKind.u64.wrap (n % 4294967296) = n % 4294967296 := u64_in _ (by omega)
    have c8 : ∀ W, Calls Try.prog 18 #[.int .u64 (n % 4294967296), .int .i64 8] W fun e w' => e = .returned (.int .i64 (signedS n 8)) ∧ W = w' := fun W => by
      have := signed_any (n % 4294967296) 8 (by omega) (by omega) (by omega) (by omega) W
      rwa [signed_low8] at this
    have c16 : ∀ W, Calls Try.prog 18 #[.int .u64 n, .int .i64 16] W fun e w' => e = .returned (.int .i64 (signedS n 16)) ∧ W = w' := fun W => signed_any n 16 hn.1 hn.2 (by omega) (by omega) W
    have c32 : ∀ W, Calls Try.prog 18 #[.int .u64 (IntKind.u64.wrap (signedS n 32)), .int .i64 32] W fun e w' => e = .returned (.int .i64 (signedS n 32)) ∧ W = w' := fun W => by
      have := signed_any (IntKind.u64.wrap (signedS n 32)) 32 (by rw [wrap_u64]; omega) (by rw [wrap_u64]; omega) (by omega) (by omega) W
      rwa [signed_again32] at this
    have C8 := Lib.hid c8
    have C16 := Lib.hid c16
    have C32 := Lib.hid c32
    clear c8 c16 c32 hp3 hq3 ht hb1 hb2 hb3
    go_quiet ((go_at_call 18; first | (with_reducible exact quiet_l (C8.out _)) | (with_reducible exact quiet_l (C16.out _)) | (with_reducible exact quiet_l (C32.out _))))
    have hfb := foldS_bd v hv.1 hv.2
    have hlast : foldS v % 2 = rightS (IntKind.u64.wrap v) 63 := fold_odd v hv.1 hv.2
    have hwv : 0 ≤ IntKind.u64.wrap v ∧ IntKind.u64.wrap v ≤ 18446744073709551615 := by rw [wrap_u64]; omega
    have HL := Lib.hid hlast
    clear hlast
    by_cases hs1 : -1000 < v
    · by_cases hs2 : v < 1000
      · have hf2 : foldS v < 2000 := by unfold foldS; split <;> omega
        go_wp2_with fail
        (with_reducible refine (known_any _).mono ?_)
        rintro e w5 ⟨rfl, hb5⟩
        go_wp2_with fail
        (with_reducible refine (fold_any v hv.1 hv.2 _).mono ?_)
        rintro e w' ⟨rfl, rfl⟩
        go_wp2_with fail
        (with_reducible refine (fold_any v hv.1 hv.2 _).mono ?_)
        rintro e w' ⟨rfl, rfl⟩
        go_wp2_with fail
        (with_reducible refine (right_any _ 63 hwv.1 hwv.2 (by omega) (by omega) _).mono ?_)
        rintro e w' ⟨rfl, rfl⟩
        rw [← HL.out]
        go_wp2
        go_ret
        exact ⟨rfl, (below_drewN hbel _).trans (hb5.mono (below_drewN hbel _).size)⟩
      · have hwe : IntKind.u64.wrap v = v := u64_in _ (by omega)
        rw [hwe] at hwv HL
        go_wp2_with fail
        (with_reducible refine (known_any _).mono ?_)
        rintro e w5 ⟨rfl, hb5⟩
        go_wp2_with fail
        (with_reducible refine (fold_any v hv.1 hv.2 _).mono ?_)
        rintro e w' ⟨rfl, rfl⟩
        go_wp2_with fail
        (with_reducible refine (right_any _ 63 hwv.1 hwv.2 (by omega) (by omega) _).mono ?_)
        rintro e w' ⟨rfl, rfl⟩
        rw [← HL.out]
        go_wp2
        go_ret
        exact ⟨rfl, (below_drewN hbel _).trans (hb5.mono (below_drewN hbel _).size)⟩
    · go_wp2_with fail
      (with_reducible refine (known_any _).mono ?_)
      rintro e w5 ⟨rfl, hb5⟩
      go_wp2_with fail
      (with_reducible refine (fold_any v hv.1 hv.2 _).mono ?_)
      rintro e w' ⟨rfl, rfl⟩
      go_wp2_with fail
      (with_reducible refine (right_any _ 63 hwv.1 hwv.2 (by omega) (by omega) _).mono ?_)
      rintro e w' ⟨rfl, rfl⟩
      rw [← HL.out]
      go_wp2
      go_ret
      exact ⟨rfl, (below_drewN hbel _).trans (hb5.mono (below_drewN hbel _).size)⟩
  · have hlt : K ≤ J := by omega
    go_enter Try.func10, Try.ntmps10
    go_wp2_with fail
    (with_reducible refine (put_any n (K : Nat) hn.1 hn.2 (by omega) (by omega) _).mono ?_)
    rintro e w1 ⟨p, rfl, hown1, hb1⟩
    have hp := IR.of_own hown1
    rw [Int.toNat_natCast] at hp
    obtain ⟨Ap, cp, hpe, _, _⟩ := hp.form
    rw [putS_len] at hpe
    subst hpe
    go_wp2_with fail
    (with_reducible refine (put_any n (J : Nat) hn.1 hn.2 (by omega) (by omega) _).mono ?_)
    rintro e w2 ⟨q, rfl, hown2, hb2⟩
    have hq := IR.of_own hown2
    rw [Int.toNat_natCast] at hq
    obtain ⟨Aq, cq, hqe, hq1, hq2⟩ := hq.form
    rw [putS_len] at hqe hq1
    subst hqe
    unfold maxLen at hq2
    have hp2 := hp.below hb2
    clear hp hown1 hown2
    go_wp2_with fail
    (with_reducible refine (narrow_any n hn.1 hn.2 _).mono ?_)
    rintro e w3 ⟨rfl, hb3⟩
    have hp3 := (hp2.below (hb3.mono hb2.size)).alloc (by exact Nat.le_trans hb2.size hb3.size) (.cells (narrowV n) 33)
    have hq3 := (hq.below hb3).alloc hb3.size (.cells (narrowV n) 33)
    simp only [narrowV] at hp3 hq3 ⊢
    clear hp2 hq
    have hl : K ≤ J := by omega
    have ht := hq3.take (m := K) (by omega)
    rw [put_take n _ _ hl] at ht
    go_wp2_with fail
    (with_reducible refine (same_any _ _ _ _ _ _ _ hp3 ht (putS_bytes _ _) (putS_bytes _ _)).mono ?_)
    rintro e w' ⟨rfl, rfl⟩
    rw [decide_eq_true rfl]
    go_wp2_with fail
    have hbel : Below w.heap.size w (w3.alloc (Obj.cells #[.int .i64 (n % 256), .int .i64 (n % 65536), .int .i64 (n % 4294967296), .int .i64 (signedS n 8), .int .i64 (signedS n 16), .int .i64 (signedS n 32)] 33)) :=
      ((hb1.trans (hb2.mono hb1.size)).trans (hb3.mono (Nat.le_trans hb1.size hb2.size))).alloc (Nat.le_trans (Nat.le_trans hb1.size hb2.size) hb3.size) _
    have k0 : (w3.alloc (Obj.cells #[.int .i64 (n % 256), .int .i64 (n % 65536), .int .i64 (n % 4294967296), .int .i64 (signedS n 8), .int .i64 (signedS n 16), .int .i64 (signedS n 32)] 33)).cell? ⟨w3.heap.size, 0, none⟩ = some (.int .i64 (n % 256)) := cell_new _ _ _ _
    have k1 : (w3.alloc (Obj.cells #[.int .i64 (n % 256), .int .i64 (n % 65536), .int .i64 (n % 4294967296), .int .i64 (signedS n 8), .int .i64 (signedS n 16), .int .i64 (signedS n 32)] 33)).cell? ⟨w3.heap.size, 1, none⟩ = some (.int .i64 (n % 65536)) := cell_new _ _ _ _
    have k2 : (w3.alloc (Obj.cells #[.int .i64 (n % 256), .int .i64 (n % 65536), .int .i64 (n % 4294967296), .int .i64 (signedS n 8), .int .i64 (signedS n 16), .int .i64 (signedS n 32)] 33)).cell? ⟨w3.heap.size, 2, none⟩ = some (.int .i64 (n % 4294967296)) := cell_new _ _ _ _
    have k3 : (w3.alloc (Obj.cells #[.int .i64 (n % 256), .int .i64 (n % 65536), .int .i64 (n % 4294967296), .int .i64 (signedS n 8), .int .i64 (signedS n 16), .int .i64 (signedS n 32)] 33)).cell? ⟨w3.heap.size, 3, none⟩ = some (.int .i64 (signedS n 8)) := cell_new _ _ _ _
    have k4 : (w3.alloc (Obj.cells #[.int .i64 (n % 256), .int .i64 (n % 65536), .int .i64 (n % 4294967296), .int .i64 (signedS n 8), .int .i64 (signedS n 16), .int .i64 (signedS n 32)] 33)).cell? ⟨w3.heap.size, 4, none⟩ = some (.int .i64 (signedS n 16)) := cell_new _ _ _ _
    have k5 : (w3.alloc (Obj.cells #[.int .i64 (n % 256), .int .i64 (n % 65536), .int .i64 (n % 4294967296), .int .i64 (signedS n 8), .int .i64 (signedS n 16), .int .i64 (signedS n 32)] 33)).cell? ⟨w3.heap.size, 5, none⟩ = some (.int .i64 (signedS n 32)) := cell_new _ _ _ _
    generalize w3.alloc (Obj.cells #[.int .i64 (n % 256), .int .i64 (n % 65536), .int .i64 (n % 4294967296), .int .i64 (signedS n 8), .int .i64 (signedS n 16), .int .i64 (signedS n 32)] 33) = w4 at *
    have e1 : (n % 65536).tmod 256 = n % 256 := by rw [Int.tmod_eq_emod_of_nonneg (by omega)]; omega
    have e2 : (n % 4294967296).tmod 65536 = n % 65536 := by rw [Int.tmod_eq_emod_of_nonneg (by omega)]; omega
    have e3 : IntKind.u64.wrap (n % 4294967296) = n % 4294967296 := u64_in _ (by omega)
    have c8 : ∀ W, Calls Try.prog 18 #[.int .u64 (n % 4294967296), .int .i64 8] W fun e w' => e = .returned (.int .i64 (signedS n 8)) ∧ W = w' := fun W => by
      have := signed_any (n % 4294967296) 8 (by omega) (by omega) (by omega) (by omega) W
      rwa [signed_low8] at this
    have c16 : ∀ W, Calls Try.prog 18 #[.int .u64 n, .int .i64 16] W fun e w' => e = .returned (.int .i64 (signedS n 16)) ∧ W = w' := fun W => signed_any n 16 hn.1 hn.2 (by omega) (by omega) W
    have c32 : ∀ W, Calls Try.prog 18 #[.int .u64 (IntKind.u64.wrap (signedS n 32)), .int .i64 32] W fun e w' => e = .returned (.int .i64 (signedS n 32)) ∧ W = w' := fun W => by
      have := signed_any (IntKind.u64.wrap (signedS n 32)) 32 (by rw [wrap_u64]; omega) (by rw [wrap_u64]; omega) (by omega) (by omega) W
      rwa [signed_again32] at this
    have C8 := Lib.hid c8
    have C16 := Lib.hid c16
    have C32 := Lib.hid c32
    clear c8 c16 c32 hp3 hq3 ht hb1 hb2 hb3
    go_quiet ((go_at_call 18; first | (with_reducible exact quiet_l (C8.out _)) | (with_reducible exact quiet_l (C16.out _)) | (with_reducible exact quiet_l (C32.out _))))
    have hfb := foldS_bd v hv.1 hv.2
    have hlast : foldS v % 2 = rightS (IntKind.u64.wrap v) 63 := fold_odd v hv.1 hv.2
    have hwv : 0 ≤ IntKind.u64.wrap v ∧ IntKind.u64.wrap v ≤ 18446744073709551615 := by rw [wrap_u64]; omega
    have HL := Lib.hid hlast
    clear hlast
    by_cases hs1 : -1000 < v
    · by_cases hs2 : v < 1000
      · have hf2 : foldS v < 2000 := by unfold foldS; split <;> omega
        go_wp2_with fail
        (with_reducible refine (known_any _).mono ?_)
        rintro e w5 ⟨rfl, hb5⟩
        go_wp2_with fail
        (with_reducible refine (fold_any v hv.1 hv.2 _).mono ?_)
        rintro e w' ⟨rfl, rfl⟩
        go_wp2_with fail
        (with_reducible refine (fold_any v hv.1 hv.2 _).mono ?_)
        rintro e w' ⟨rfl, rfl⟩
        go_wp2_with fail
        (with_reducible refine (right_any _ 63 hwv.1 hwv.2 (by omega) (by omega) _).mono ?_)
        rintro e w' ⟨rfl, rfl⟩
        rw [← HL.out]
        go_wp2
        go_ret
        exact ⟨rfl, (below_drewN hbel _).trans (hb5.mono (below_drewN hbel _).size)⟩
      · have hwe : IntKind.u64.wrap v = v := u64_in _ (by omega)
        rw [hwe] at hwv HL
        go_wp2_with fail
        (with_reducible refine (known_any _).mono ?_)
        rintro e w5 ⟨rfl, hb5⟩
        go_wp2_with fail
        (with_reducible refine (fold_any v hv.1 hv.2 _).mono ?_)
        rintro e w' ⟨rfl, rfl⟩
        go_wp2_with fail
        (with_reducible refine (right_any _ 63 hwv.1 hwv.2 (by omega) (by omega) _).mono ?_)
        rintro e w' ⟨rfl, rfl⟩
        rw [← HL.out]
        go_wp2
        go_ret
        exact ⟨rfl, (below_drewN hbel _).trans (hb5.mono (below_drewN hbel _).size)⟩
    · go_wp2_with fail
      (with_reducible refine (known_any _).mono ?_)
      rintro e w5 ⟨rfl, hb5⟩
      go_wp2_with fail
      (with_reducible refine (fold_any v hv.1 hv.2 _).mono ?_)
      rintro e w' ⟨rfl, rfl⟩
      go_wp2_with fail
      (with_reducible refine (right_any _ 63 hwv.1 hwv.2 (by omega) (by omega) _).mono ?_)
      rintro e w' ⟨rfl, rfl⟩
      rw [← HL.out]
      go_wp2
      go_ret
      exact ⟨rfl, (below_drewN hbel _).trans (hb5.mono (below_drewN hbel _).size)⟩


set_option maxRecDepth 100000 in
theorem lifted (os : Os) (started : os.Started) (H : Type) (enc : TypeId × Value → H) :
    ReturnsInHanded {} Try.checked os 10 .any (Rows.numWideSpec.pre6 enc Try.prog Try.f10 Rows.numWideRow.domain false) (Rows.numWideSpec.post enc Try.prog Try.f10 false true false false) := by
  refine returnsInHanded_of_change (C := Try.checked) own started (by kernel_rfl) Try.func10
    (ChangeSpec.witness6 (enc := enc) (C := Try.checked) false ⟨#[], #[.int .u64 0, .int .u8 0, .int .u8 0, .int .i64 0], []⟩ 8 (by kernel_rfl) (by kernel_rfl) (by kernel_rfl) (by kernel_rfl)) ?_
  intro W base args ds gs before hval0 hW hcnd _
  have hval : ∀ (j : Nat) t v, Try.f10.params[j]? = some t → args[j]? = some v → Value.okWide Try.prog W .any base t v := hval0
  have hW' := hW
  obtain ⟨p, q, hA0, hV, rfl, hfz, hnd⟩ := hW
  have hA1 : DataW.TrodAll enc Try.prog W 0 (fun _ => true) true Try.f10.params.toList args.toList ds p := hA0
  have hA := hA1
  rw [Try.params10] at hA hval
  obtain ⟨v0, vs0, d0, ds0, p0, q0, hargs, rfl, rfl, h0, r0⟩ := trodAll_cons hA
  obtain ⟨v1, vs1, d1, ds1, p1, q1, rfl, rfl, rfl, h1, r1⟩ := trodAll_cons r0
  obtain ⟨v2, vs2, d2, ds2, p2, q2, rfl, rfl, rfl, h2, r2⟩ := trodAll_cons r1
  obtain ⟨v3, vs3, d3, ds3, p3, q3, rfl, rfl, rfl, h3, r3⟩ := trodAll_cons r2
  obtain ⟨rfl, rfl, rfl⟩ := trodAll_nil r3
  obtain rfl : args = #[v0, v1, v2, v3] := by cases args; simp_all
  obtain ⟨rfl, rfl⟩ := trodVars_none hV
  obtain ⟨n, rfl, rfl, rfl, wf0⟩ := open_int Try.underlying22 (hval 0 22 v0 rfl rfl) h0
  obtain ⟨a, rfl, rfl, rfl, wf1⟩ := open_int Try.underlying5 (hval 1 5 v1 rfl rfl) h1
  obtain ⟨b, rfl, rfl, rfl, wf2⟩ := open_int Try.underlying5 (hval 2 5 v2 rfl rfl) h2
  obtain ⟨v, rfl, rfl, rfl, wf3⟩ := open_int Try.underlying2 (hval 3 2 v3 rfl rfl) h3
  clear hA0 hval0
  refine (walk W n (bounds_u64 wf0) a (bounds_u8 wf1) b (bounds_u8 wf2) v (bounds_i64 wf3)).mono fun e W' ⟨he, bel⟩ => ?_
  subst he
  exact ⟨_, rfl, _, _, _, [], _, [], hW', trodAll_mk1 (shut_bool Try.underlying4 _), args_again laidOut bel (by kernel_rfl) hA1, rfl, bel.frame _, fun h => by cases h⟩

theorem over : Rows.numWideRow.holds Try.pinned (OpenSpec.ofChange Rows.numWideSpec) :=
  OpenClaim.holds_of_wide 10 Try.f10 rfl rfl rfl rfl rfl rfl rfl ⟨rfl, rfl, rfl, rfl, rfl⟩ rfl rfl rfl rfl rfl (by kernel_rfl) Try.func10 (by kernel_rfl)
    (of_decide_eq_true (by kernel_rfl)) (by unfold Func.isWrapper; first | (rw [if_pos (by decide +kernel)]; kernel_rfl) | (rw [if_neg (by decide +kernel)]; exact ⟨rfl, rfl⟩))
    (fun os started H enc _ => lifted os started H enc)

theorem proved : Rows.NumWideSaid := over
end Go.Proofs.Ytfldhkmdagaliaa.LNumWide
