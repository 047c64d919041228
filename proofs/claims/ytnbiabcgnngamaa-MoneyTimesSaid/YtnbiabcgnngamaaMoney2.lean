import Derived.Test.YtnbiabcgnngamaaMoney
import Derived.Deep.QuietTactic
import Derived.BigQuiet
/- Contracts of package money: products, shares, sums of lists. -/
namespace Go.Proofs.Ytnbiabcgnngamaa.Money
open Go.ChangeShapes Go.WideShapes Go.ChangeAt Go.RowKit Go.IntWalk Go.Proofs.Mem
set_option linter.unusedVariables false

def timesS (a n : Int) : Int × Int := if 4611686018427387904 < a ∨ 4611686018427387904 < a * n then (0, 30) else (a * n, 0)
theorem mul_low (x y : Int) (hx : 0 ≤ x) (hy : 0 ≤ y) (h : x * y ≤ 4611686018427387904) : x * y / 18446744073709551616 = 0 ∧ x * y % 18446744073709551616 = x * y := by
  have : 0 ≤ x * y := Int.mul_nonneg hx hy
  omega
theorem mul_bd (x y : Int) (hx : 0 ≤ x ∧ x ≤ 18446744073709551615) (hy : 0 ≤ y ∧ y ≤ 18446744073709551615) :
    (0 ≤ x * y / 18446744073709551616 ∧ x * y / 18446744073709551616 ≤ 18446744073709551615) ∧ 0 ≤ x * y % 18446744073709551616 ∧ x * y % 18446744073709551616 ≤ 18446744073709551615 := by
  have h0 : 0 ≤ x * y := Int.mul_nonneg hx.1 hy.1
  have h1 : x * y ≤ 18446744073709551615 * 18446744073709551615 := Int.mul_le_mul hx.2 hy.2 hy.1 (by omega)
  omega
set_option maxHeartbeats 1600000 in
theorem times_any (a n : Int) (ha : 0 ≤ a ∧ a ≤ 18446744073709551615) (hn : 0 ≤ n ∧ n ≤ 18446744073709551615) (w : World) :
    Calls Try.prog 15 #[.int .u64 a, .int .u64 n] w fun e w' => e = .returned (.tuple #[.int .u64 (timesS a n).1, .int .u16 (timesS a n).2]) ∧ Below w.heap.size w w' := by
  obtain ⟨⟨hh0, hh1⟩, hl0, hl1⟩ := mul_bd a n ha hn
  have hp0 : 0 ≤ a * n := Int.mul_nonneg ha.1 hn.1
  obtain ⟨H, hH⟩ : ∃ H, a * n / 18446744073709551616 = H := ⟨_, rfl⟩
  obtain ⟨L, hL⟩ : ∃ L, a * n % 18446744073709551616 = L := ⟨_, rfl⟩
  have hm := mul64_any a n ha hn w
  rw [hH] at hm hh0 hh1
  rw [hL] at hm hl0 hl1
  have HM := Lib.hid hm
  have hsum : a * n = H * 18446744073709551616 + L := by omega
  have HS := Lib.hid hsum
  clear hm hsum hH hL
  have hv : IR (w.alloc (.cells #[.int .u64 a, .int .u64 L] 22)) (w.heap.size + 1) .u64 (.slice (some ⟨w.heap.size, 0, none⟩) 2 2) [a, L] := IR.lit w .u64 [a, L] 22 (by simp)
  by_cases hg : great [a, L] = true
  · have hs : timesS a n = (0, 30) := by
      rw [great_two] at hg
      simp at hg
      unfold timesS
      rw [if_pos]
      have := HS.out
      omega
    have HT := Lib.hid hs
    clear hs
    go_enter Try.func15, Try.ntmps15
    go_wp2_with fail
    (with_reducible refine HM.out.mono ?_)
    rintro e w' ⟨rfl, rfl⟩
    go_wp2_with fail
    (with_reducible refine (tooGreat_any _ [a, L] _ _ hv (range_two ha ⟨hl0, hl1⟩)).mono ?_)
    rintro e w' ⟨rfl, rfl⟩
    rw [hg]
    clear hg hv
    go_wp2
    go_ret2
    exact ⟨ret_pair (by rw [HT.out]) (by rw [HT.out]), (Below.refl _ _).alloc (Nat.le_refl _) _⟩
  · have hg' : great [a, L] = false := by simpa using hg
    have hq := hg'
    rw [great_two] at hq
    simp at hq
    obtain ⟨hq1, hq2⟩ := hq
    clear hg
    by_cases hz : H = 0
    · have hs : timesS a n = (L, 0) := by
        unfold timesS
        have := HS.out
        rw [hz] at this
        rw [if_neg (by omega)]
        simp; omega
      have HT := Lib.hid hs
      subst hz
      clear hs
      go_enter Try.func15, Try.ntmps15
      go_wp2_with fail
      (with_reducible refine HM.out.mono ?_)
      rintro e w' ⟨rfl, rfl⟩
      go_wp2_with fail
      (with_reducible refine (tooGreat_any _ [a, L] _ _ hv (range_two ha ⟨hl0, hl1⟩)).mono ?_)
      rintro e w' ⟨rfl, rfl⟩
      rw [hg']
      clear hg' hv
      go_wp2
      go_ret2
      exact ⟨ret_pair (by rw [HT.out]) (by rw [HT.out]), (Below.refl _ _).alloc (Nat.le_refl _) _⟩
    · have hs : timesS a n = (0, 30) := by
        unfold timesS
        have := HS.out
        rw [if_pos (by omega)]
      have HT := Lib.hid hs
      have hne : (H != 0) = true := by simpa using hz
      clear hs
      go_enter Try.func15, Try.ntmps15
      go_wp2_with fail
      (with_reducible refine HM.out.mono ?_)
      rintro e w' ⟨rfl, rfl⟩
      go_wp2_with fail
      (with_reducible refine (tooGreat_any _ [a, L] _ _ hv (range_two ha ⟨hl0, hl1⟩)).mono ?_)
      rintro e w' ⟨rfl, rfl⟩
      rw [hg']
      clear hg' hv
      go_wp2
      go_ret2
      exact ⟨ret_pair (by rw [HT.out]) (by rw [HT.out]), (Below.refl _ _).alloc (Nat.le_refl _) _⟩
theorem lt_div (a n M : Int) (ha : 0 < a) : M / a < n ↔ M < a * n := by
  rw [Int.ediv_lt_iff_lt_mul ha, Int.mul_comm]
theorem times_ref (a n : Int) (ha : 0 ≤ a ∧ a ≤ 18446744073709551615) (hn : 0 ≤ n ∧ n ≤ 18446744073709551615) (w : World) :
    Calls Try.prog 16 #[.int .u64 a, .int .u64 n] w fun e w' => e = .returned (.tuple #[.int .u64 (timesS a n).1, .int .i64 (timesS a n).2]) ∧ w = w' := by
  have hp0 : 0 ≤ a * n := Int.mul_nonneg ha.1 hn.1
  by_cases h1 : 4611686018427387904 < a
  · have hs : timesS a n = (0, 30) := by unfold timesS; rw [if_pos (by omega)]
    have HT := Lib.hid hs
    clear hs hp0
    go_enter Try.func16, Try.ntmps16
    go_wp2
    go_ret2
    exact ⟨ret_pair (by rw [HT.out]) (by rw [HT.out]), rfl⟩
  · by_cases h2 : 0 < a
    · have hd := lt_div a n 4611686018427387904 h2
      by_cases h3 : 4611686018427387904 / a < n
      · have hs : timesS a n = (0, 30) := by unfold timesS; rw [if_pos (.inr (hd.1 h3))]
        have HT := Lib.hid hs
        clear hs hd hp0
        go_enter Try.func16, Try.ntmps16
        go_wp2
        go_ret2
        exact ⟨ret_pair (by rw [HT.out]) (by rw [HT.out]), rfl⟩
      · have hle : ¬ 4611686018427387904 < a * n := fun h => h3 (hd.2 h)
        have hs : timesS a n = (a * n, 0) := by unfold timesS; rw [if_neg (by omega)]
        have HT := Lib.hid hs
        have hw : IntKind.u64.wrap (a * n) = a * n := u64_in _ (by omega)
        clear hs hd
        go_enter Try.func16, Try.ntmps16
        go_wp2
        go_ret2
        exact ⟨ret_pair (by rw [HT.out]) (by rw [HT.out]), rfl⟩
    · have hz : a = 0 := by omega
      subst hz
      have hs : timesS 0 n = (0, 0) := by unfold timesS; rw [Int.zero_mul, if_neg (by omega)]
      have HT := Lib.hid hs
      clear hs hp0
      go_enter Try.func16, Try.ntmps16
      go_wp2
      go_ret2
      exact ⟨ret_pair (by rw [HT.out]) (by rw [HT.out]), rfl⟩

set_option maxHeartbeats 1600000 in
theorem div64_low (x y : Int) (hx : 0 ≤ x ∧ x ≤ 18446744073709551615) (hy : 0 < y ∧ y ≤ 18446744073709551615) (w : World) :
    Calls Try.prog 23 #[.int .u64 0, .int .u64 x, .int .u64 y] w fun e w' => e = .returned (.tuple #[.int .u64 (x / y), .int .u64 (x % y)]) ∧ ∃ d, w' = w.drewN d := by
  have hy0 : (y == 0) = false := by simp; omega
  have hd : decide (y ≤ 0) = false := by simp; omega
  have s1 : IntKind.u64.wrap (x.tdiv y) = x / y := u64_quo x y ⟨hx.1, hx.2, by omega⟩
  have s2 : IntKind.u64.wrap (x.tmod y) = x % y := by
    rw [Int.tmod_eq_emod_of_nonneg hx.1]
    have := Int.emod_lt_of_pos x hy.1
    have := Int.emod_nonneg x (Int.ne_of_gt hy.1)
    exact u64_in _ (by omega)
  have s3 : x.tmod y = x % y := Int.tmod_eq_emod_of_nonneg hx.1
  go_enter Try.func23, Try.ntmps23
  go_wp2
  go_quiet (fail)
  go_wp2
  go_ret2
  exact ⟨rfl, _, rfl⟩

/-- a share, as long as the product fits 64 bits -/
def partS (n a b : Int) : Int × Int := if b = 0 then (0, 1) else if 4611686018427387904 < n * a / b then (0, 30) else (n * a / b, 0)
theorem part_zero (n a : Int) (w : World) : Calls Try.prog 17 #[.int .u64 n, .int .u64 a, .int .u64 0] w fun e w' => e = .returned (.tuple #[.int .u64 0, .int .u16 1]) ∧ w = w' := by
  go_enter Try.func17, Try.ntmps17
  go_wp2
  go_ret2
  exact ⟨rfl, rfl⟩
theorem great_one (a : Int) : great [a] = decide (4611686018427387904 < a) := by simp [great]
theorem range_one {a : Int} (ha : 0 ≤ a ∧ a ≤ 18446744073709551615) : ∀ x ∈ [a], 0 ≤ x ∧ x ≤ 18446744073709551615 := by
  intro x hx; simp at hx; rw [hx]; exact ha
set_option maxHeartbeats 1600000 in
theorem part_low (n a b : Int) (hn : 0 ≤ n ∧ n ≤ 18446744073709551615) (ha : 0 ≤ a ∧ a ≤ 18446744073709551615) (hb : 0 < b ∧ b ≤ 18446744073709551615) (h : n * a ≤ 4611686018427387904) (w : World) :
    Calls Try.prog 17 #[.int .u64 n, .int .u64 a, .int .u64 b] w fun e w' => e = .returned (.tuple #[.int .u64 (n * a / b), .int .u16 0]) ∧ Below w.heap.size w w' := by
  obtain ⟨h1, h2⟩ := mul_low n a hn.1 ha.1 h
  have h0 : 0 ≤ n * a := Int.mul_nonneg hn.1 ha.1
  have hm := fun W => mul64_any n a hn ha W
  rw [h1, h2] at hm
  have HM := Lib.hid hm
  clear hm h1 h2
  generalize hp : n * a = p at *
  have hq0 : 0 ≤ p / b := Int.ediv_nonneg h0 (Int.le_of_lt hb.1)
  have hq1 : p / b ≤ p := Int.ediv_le_self b h0
  have hb0 : (b == 0) = false := by simp; omega
  clear hp
  generalize hqe : p / b = q at *
  have HQ := Lib.hid hqe
  clear hqe
  have hgr : great [q] = false := by rw [great_one]; simp; omega
  have hdv := fun W => div64_low p b ⟨h0, by omega⟩ hb W
  rw [HQ.out] at hdv
  have HD := Lib.hid hdv
  clear hdv
  go_enter Try.func17, Try.ntmps17
  go_wp2_with fail
  (with_reducible refine (HM.out _).mono ?_)
  rintro e w' ⟨rfl, rfl⟩
  go_wp2_with fail
  (with_reducible refine (HD.out _).mono ?_)
  rintro e w' ⟨rfl, d, rfl⟩
  have hv : IR ((w.drewN d).alloc (.cells #[.int .u64 q] 22)) (w.heap.size + 1) .u64 (.slice (some ⟨w.heap.size, 0, none⟩) 1 1) [q] := IR.lit (w.drewN d) .u64 [q] 22 (by simp)
  go_wp2_with fail
  (with_reducible refine (tooGreat_any _ [q] _ _ hv (range_one ⟨hq0, by omega⟩)).mono ?_)
  rintro e w' ⟨rfl, rfl⟩
  rw [hgr]
  clear hgr hv
  go_wp2
  go_ret2
  exact ⟨rfl, (below_drewN (Below.refl _ _) d).alloc (Nat.le_refl _) _⟩

/-- sums of lists -/
def allF : List Int → Int → Int × Int
  | [], s => (s, 0)
  | x :: r, s => if (addS s x).2 = 0 then allF r (addS s x).1 else (0, (addS s x).2)
def allS (l : List Int) : Int × Int := allF l 0
theorem addS_ok (a b : Int) (ha : 0 ≤ a) (hb : 0 ≤ b) : ((addS a b).2 = 0 ∧ 0 ≤ (addS a b).1 ∧ (addS a b).1 ≤ 4611686018427387904) ∨ ((addS a b).2 = 30 ∧ (addS a b).1 = 0) := by
  unfold addS; split
  · exact .inr ⟨rfl, rfl⟩
  · left; simp; omega
theorem drop_at (l : List Int) (j : Nat) (h : j < l.length) : l.drop j = l.getD j 0 :: l.drop (j + 1) := by
  rw [List.drop_eq_getElem_cons h]; simp [List.getD, List.getElem?_eq_getElem h]
set_option maxHeartbeats 1600000 in
theorem all_any (v : Value) (xs : List Int) (w : World) (hv : IR w w.heap.size .u64 v xs) (hx : ∀ x ∈ xs, 0 ≤ x ∧ x ≤ 18446744073709551615) :
    Calls Try.prog 19 #[v] w fun e w' => e = .returned (.tuple #[.int .u64 (allS xs).1, .int .u16 (allS xs).2]) ∧ Below w.heap.size w w' := by
  obtain ⟨A, c, rfl, hlc, hcm⟩ := hv.form
  unfold maxLen at hcm
  go_enter Try.func19, Try.ntmps19
  go_wp2
  go_loopw [4, 11] (fun m i wr => ∃ (j : Nat) (q : Int), j ≤ xs.length ∧ i = .int .i64 j ∧ m = .int .u64 q ∧ 0 ≤ q ∧ q ≤ 4611686018427387904 ∧ allF (xs.drop j) q = allS xs ∧ Below w.heap.size w wr) (fun _ i _ => xs.length - (intOf i).toNat)
  case atStart => exact ⟨0, 0, by omega, rfl, rfl, by omega, by omega, rfl, Below.refl _ _⟩
  case round =>
    obtain ⟨j, q, hj, rfl, rfl, hq0, hq1, hs, hbel⟩ := hrel
    have HS := Lib.hid hs
    clear hs
    by_cases hl : j < xs.length
    · have hvr := hv.below hbel
      obtain ⟨b, off, rfl, hb, hcell⟩ := IR.index hvr j hl
      have hu := hx (xs.getD j 0) (by simp [List.getD, List.getElem?_eq_getElem hl])
      have hd := HS.out
      rw [drop_at xs j hl] at hd
      generalize xs.getD j 0 = u at *
      simp only [allF] at hd
      have HD := Lib.hid hd
      clear hd
      have hdl : decide ((j : Int) < (xs.length : Int)) = true := by simp; omega
      have hok := addS_ok q u hq0 hu.1
      have had := fun W => add_any q u ⟨hq0, by omega⟩ hu W
      generalize addS q u = r at *
      obtain ⟨s, err⟩ := r
      simp only at hok had
      have HA := Lib.hid had
      clear had
      rcases hok with ⟨rfl, hs0, hs1⟩ | ⟨rfl, rfl⟩
      · go_wp2_with fail
        (with_reducible refine (HA.out _).mono ?_)
        rintro e w2 ⟨rfl, hb2⟩
        go_wp2
        go_roundw
        case rel => exact ⟨j + 1, s, by omega, by go_num, rfl, hs0, hs1, by have := HD.out; simpa using this, hbel.trans (hb2.mono hbel.size)⟩
        case measure => simp [intOf]; omega
      · go_wp2_with fail
        (with_reducible refine (HA.out _).mono ?_)
        rintro e w2 ⟨rfl, hb2⟩
        go_wp2
        go_ret2
        have h := HD.out
        rw [if_neg (by decide)] at h
        exact ⟨ret_pair (by rw [← h]) (by rw [← h]), hbel.trans (hb2.mono hbel.size)⟩
    · have hdl : decide ((j : Int) < (xs.length : Int)) = false := by simp; omega
      go_wp2
      go_ret2
      have h := HS.out
      rw [List.drop_eq_nil_of_le (by omega)] at h
      exact ⟨ret_pair (by rw [← h]; rfl) (by rw [← h]; rfl), hbel⟩
set_option maxHeartbeats 1600000 in
theorem all_ref (v : Value) (xs : List Int) (w : World) (hv : IR w w.heap.size .u64 v xs) (hx : ∀ x ∈ xs, 0 ≤ x ∧ x ≤ 18446744073709551615) :
    Calls Try.prog 20 #[v] w fun e w' => e = .returned (.tuple #[.int .u64 (allS xs).1, .int .i64 (allS xs).2]) ∧ w = w' := by
  obtain ⟨A, c, rfl, hlc, hcm⟩ := hv.form
  unfold maxLen at hcm
  go_enter Try.func20, Try.ntmps20
  go_wp2
  go_loopw [4, 5] (fun m i wr => ∃ (j : Nat) (q : Int), j ≤ xs.length ∧ i = .int .i64 j ∧ m = .int .u64 q ∧ 0 ≤ q ∧ q ≤ 4611686018427387904 ∧ allF (xs.drop j) q = allS xs ∧ wr = w) (fun _ i _ => xs.length - (intOf i).toNat)
  case atStart => exact ⟨0, 0, by omega, rfl, rfl, by omega, by omega, rfl, by trivial⟩
  case round =>
    obtain ⟨j, q, hj, rfl, rfl, hq0, hq1, hs, rfl⟩ := hrel
    have HS := Lib.hid hs
    clear hs
    by_cases hl : j < xs.length
    · have hvr := hv
      obtain ⟨b, off, rfl, hb, hcell⟩ := IR.index hvr j hl
      have hu := hx (xs.getD j 0) (by simp [List.getD, List.getElem?_eq_getElem hl])
      have hd := HS.out
      rw [drop_at xs j hl] at hd
      generalize xs.getD j 0 = u at *
      simp only [allF] at hd
      have HD := Lib.hid hd
      clear hd
      have hdl : decide ((j : Int) < (xs.length : Int)) = true := by simp; omega
      have hok := addS_ok q u hq0 hu.1
      have had := fun W => add_ref q u ⟨hq0, by omega⟩ hu W
      generalize addS q u = r at *
      obtain ⟨s, err⟩ := r
      simp only at hok had
      have HA := Lib.hid had
      clear had
      rcases hok with ⟨rfl, hs0, hs1⟩ | ⟨rfl, rfl⟩
      · go_wp2_with fail
        (with_reducible refine (HA.out _).mono ?_)
        rintro e w2 ⟨rfl, rfl⟩
        go_wp2
        go_roundw
        case rel => exact ⟨j + 1, s, by omega, by go_num, rfl, hs0, hs1, by have := HD.out; simpa using this, by trivial⟩
        case measure => simp [intOf]; omega
      · go_wp2_with fail
        (with_reducible refine (HA.out _).mono ?_)
        rintro e w2 ⟨rfl, rfl⟩
        go_wp2
        go_ret2
        have h := HD.out
        rw [if_neg (by decide)] at h
        exact ⟨ret_pair (by rw [← h]) (by rw [← h]), rfl⟩
    · have hdl : decide ((j : Int) < (xs.length : Int)) = false := by simp; omega
      go_wp2
      go_ret2
      have h := HS.out
      rw [List.drop_eq_nil_of_le (by omega)] at h
      exact ⟨ret_pair (by rw [← h]; rfl) (by rw [← h]; rfl), rfl⟩

theorem addS_i64 (a b : Int) (ha : 0 ≤ a) (hb : 0 ≤ b) : wrap64 (addS a b).2 = (addS a b).2 := by
  rcases addS_ok a b ha hb with ⟨h, _⟩ | ⟨h, _⟩ <;> rw [h] <;> exact wrap64_in _ (by omega)
theorem subS_i64 (a b : Int) : wrap64 (subS a b).2 = (subS a b).2 := by
  unfold subS; split
  · exact wrap64_in _ (by simp)
  · split <;> exact wrap64_in _ (by simp)
theorem timesS_i64 (a b : Int) : wrap64 (timesS a b).2 = (timesS a b).2 := by
  unfold timesS; split <;> exact wrap64_in _ (by simp)
def sumL : List Int → Int
  | [] => 0
  | x :: r => x + sumL r
theorem sumL_nonneg (l : List Int) (h : ∀ x ∈ l, 0 ≤ x) : 0 ≤ sumL l := by
  induction l with
  | nil => simp [sumL]
  | cons x r ih =>
    have := h x (List.mem_cons_self ..)
    have := ih fun y hy => h y (List.mem_cons_of_mem _ hy)
    simp only [sumL]; omega
theorem sumL_app (l r : List Int) : sumL (l ++ r) = sumL l + sumL r := by
  induction l with
  | nil => simp [sumL]
  | cons x l ih => simp only [List.cons_append, sumL, ih]; omega
theorem allF_sum (l : List Int) : ∀ s : Int, 0 ≤ s → s ≤ 4611686018427387904 → (∀ x ∈ l, 0 ≤ x) → allF l s = if s + sumL l ≤ 4611686018427387904 then (s + sumL l, 0) else (0, 30) := by
  induction l with
  | nil =>
    intro s h0 h1 _
    have e : sumL [] = 0 := rfl
    rw [e, Int.add_zero, if_pos h1]; rfl
  | cons x r ih =>
    intro s h0 h1 h
    have hx := h x (List.mem_cons_self ..)
    have hr := fun y hy => h y (List.mem_cons_of_mem _ hy)
    have hs := sumL_nonneg r hr
    have e : sumL (x :: r) = x + sumL r := rfl
    have e2 : allF (x :: r) s = if (addS s x).2 = 0 then allF r (addS s x).1 else (0, (addS s x).2) := rfl
    rw [e, e2]
    by_cases hg : 4611686018427387904 < s ∨ 4611686018427387904 < x ∨ 4611686018427387904 < s + x
    · have e3 : addS s x = (0, 30) := by unfold addS; rw [if_pos hg]
      rw [e3, if_neg (by decide), if_neg (by omega)]
    · have e3 : addS s x = (s + x, 0) := by unfold addS; rw [if_neg hg]
      rw [e3, if_pos rfl, ih (s + x) (by omega) (by omega) hr, show s + (x + sumL r) = s + x + sumL r by omega]
theorem allS_sum (l : List Int) (h : ∀ x ∈ l, 0 ≤ x) : allS l = if sumL l ≤ 4611686018427387904 then (sumL l, 0) else (0, 30) := by
  unfold allS
  rw [allF_sum l 0 (by omega) (by omega) h, Int.zero_add]
theorem allS_i64 (l : List Int) (h : ∀ x ∈ l, 0 ≤ x) : wrap64 (allS l).2 = (allS l).2 := by
  rw [allS_sum l h]; split <;> exact wrap64_in _ (by simp)
set_option maxHeartbeats 1600000 in
theorem known_any (w : World) : Calls Try.prog 14 #[] w fun e w' => e = .returned (.bool true) ∧ Below w.heap.size w w' := by
  go_enter Try.func14, Try.ntmps14
  go_wp2_with fail
  (with_reducible refine (add_any 4611686018427387904 0 (by omega) (by omega) _).mono ?_)
  rintro e w1 ⟨rfl, hb1⟩
  rw [show addS 4611686018427387904 0 = (4611686018427387904, 0) from by decide]
  go_wp2_with fail
  (with_reducible refine (add_any 4611686018427387904 1 (by omega) (by omega) _).mono ?_)
  rintro e w2 ⟨rfl, hb2⟩
  rw [show addS 4611686018427387904 1 = (0, 30) from by decide]
  go_wp2_with fail
  (with_reducible refine (part_low 7 3 2 (by omega) (by omega) (by omega) (by omega) _).mono ?_)
  rintro e w3 ⟨rfl, hb3⟩
  rw [show (7 : Int) * 3 / 2 = 10 from by decide]
  go_wp2_with fail
  (with_reducible refine (part_zero 1 1 _).mono ?_)
  rintro e w4 ⟨rfl, rfl⟩
  go_wp2
  go_ret
  have s1 := hb1.size
  have s2 := Nat.le_trans s1 hb2.size
  exact ⟨rfl, (hb1.trans (hb2.mono s1)).trans (hb3.mono s2)⟩
end Go.Proofs.Ytnbiabcgnngamaa.Money
