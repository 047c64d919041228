import Derived.Test.YthbbnebanmpcjaaRows
import Derived.Test.YthbbnebanmpcjaaMem
import Derived.Test.YthbbnebanmpcjaaNumMath
import Derived.WalkKit
import Derived.ProofKit
import Derived.Lib.Hide
import Derived.Deep.QuietTactic
import Derived.BigQuiet
/- Contracts of the functions over bytes: package num, the document's answer, the helpers. -/
namespace Go.Proofs.Ythbbnebanmpcjaa.NumBytes
open Go.ChangeShapes Go.WideShapes Go.ChangeAt Go.RowKit Go.IntWalk Go.Proofs.NumMath Go.Proofs.Mem
set_option linter.unusedVariables false

theorem ret_int {k : IntKind} {a b : Int} (h : a = b) : Ending.returned (.int k a) = .returned (.int k b) := by rw [h]

set_option maxHeartbeats 400000 in
theorem power_any (n : Int) (h0 : 0 ≤ n) (h1 : n ≤ 18446744073709551615) (w : World) :
    Calls Try.prog 60 #[.int .u64 n] w fun e w' => e = .returned (.int .u64 (pw n.toNat)) ∧ w = w' := by
  go_enter Try.func60, Try.ntmps60
  go_wp2
  go_loop [3, 4] (fun p i => ∃ k : Nat, k ≤ 64 ∧ (k : Int) ≤ n ∧ i = .int .u64 k ∧ p = .int .u64 (pw k)) (fun _ i => 64 - (intOf i).toNat)
  case atStart => exact ⟨0, by omega, by omega, rfl, rfl⟩
  case round =>
    obtain ⟨k, hk, hkn, rfl, rfl⟩ := hrel
    go_wp2
    · have hp : 0 < pw k := by assumption
      have hlt : (k : Int) < n := by assumption
      have hk2 : k < 64 := by
        by_cases h : k < 64
        · exact h
        · have := pw_zero k (by omega); omega
      go_round
      case rel => exact ⟨k + 1, by omega, by omega, by go_num, by rw [wrap_u64, pw_succ]⟩
      case measure => simp [intOf]; omega
    · have hp : pw k ≤ 0 := by assumption
      have hlt : (k : Int) < n := by assumption
      have : 64 ≤ k := by
        by_cases h : k < 64
        · have := pw_pos k h; omega
        · omega
      go_ret
      exact ⟨ret_int (by rw [pw_zero k this, pw_zero n.toNat (by omega)]), rfl⟩
    · have hlt : n ≤ (k : Int) := by assumption
      go_ret
      exact ⟨ret_int (by rw [show n.toNat = k by omega]), rfl⟩

def leftS (n b : Int) : Int := n * pw b.toNat % 18446744073709551616

theorem same_any (a b : Value) (xs ys : List Int) (w : World) (B B' : Nat) (ha : IR w B .u8 a xs) (hb : IR w B' .u8 b ys) (hx : Bytes xs) (hy : Bytes ys) :
    Calls Try.prog 25 #[a, b] w fun e w' => e = .returned (.bool (decide (xs = ys))) ∧ w = w' := by
  have h1 := ha.text (P := Try.prog) (dst := 9) Try.underlying31 Try.underlying5 Try.underlying9
  have h2 := hb.text (P := Try.prog) (dst := 9) Try.underlying31 Try.underlying5 Try.underlying9
  go_enter Try.func25, Try.ntmps25
  go_wp2
  go_ret
  exact ⟨by rw [← str_eq hx hy]; rfl, rfl⟩

theorem u8_info : (Try.prog.info? 5).map (fun i => (i.zero, i.size, i.bytes)) = some (some (.int .u8 0), 1, 1) := by kernel_rfl

/-- the bytes of n, the lowest first -/
def putS (n : Int) (k : Nat) : List Int := (List.range k).map fun i => n / 2 ^ (8 * i) % 256
theorem putS_succ (n : Int) (k : Nat) : putS n (k + 1) = putS n k ++ [n / 2 ^ (8 * k) % 256] := by
  simp [putS, List.range_succ]
theorem putS_len (n : Int) (k : Nat) : (putS n k).length = k := by simp [putS]
theorem putS_bytes (n : Int) (k : Nat) : Bytes (putS n k) := by
  intro x hx
  simp only [putS, List.mem_map] at hx
  obtain ⟨i, _, rfl⟩ := hx
  omega

/-- what was made holds the front of the bytes, and noughts -/
def putTo (n : Int) (k j : Nat) : List Int := putS n j ++ List.replicate (k - j) 0
theorem putTo_len (n : Int) (k j : Nat) (h : j ≤ k) : (putTo n k j).length = k := by simp [putTo, putS_len]; omega
theorem putTo_set (n : Int) (k j : Nat) (h : j < k) : (putTo n k j).set j (n / 2 ^ (8 * j) % 256) = putTo n k (j + 1) := by
  unfold putTo
  rw [putS_succ, List.set_append_right _ _ (by rw [putS_len]; omega), putS_len, Nat.sub_self, show k - j = (k - (j + 1)) + 1 by omega, List.replicate_succ, List.set_cons_zero, List.append_assoc]
  rfl

set_option maxHeartbeats 800000 in
theorem put_any (n k : Int) (h0 : 0 ≤ n) (h1 : n ≤ 18446744073709551615) (h2 : 1 ≤ k) (h3 : k ≤ 8) (w : World) :
    Calls Try.prog 52 #[.int .u64 n, .int .i64 k] w fun e w' => ∃ v, e = .returned v ∧ w'.ownsRow w.heap.size 5 1 v k.toNat ((putS n k.toNat).map (.int .u8)) ∧ Below w.heap.size w w' := by
  obtain ⟨K, rfl⟩ := Int.eq_ofNat_of_zero_le (show 0 ≤ k by omega)
  rw [Int.toNat_natCast]
  obtain ⟨i0, hi0, hz0, hz1, hz2⟩ := info_parts u8_info
  have hd1 : decide ((K : Int) < 1) = false := by simp; omega
  have hd2 : decide (8 < (K : Int)) = false := by simp; omega
  go_enter Try.func52, Try.ntmps52
  go_wp2_with (first
    | (refine wpList_make_full _ rfl (.tmp 13) (.tmp 13) _ rfl w.heap.size 5 i0 _ 1 Try.underlying31 hi0 hz0 hz1 .i64 .i64 K K K rfl rfl rfl rfl (by rw [hz2]; omega) (by simp only [maxLen]; omega) (Nat.le_refl _) ?_
       intro w1 hown1 hg1))
  go_loopw [17] (fun c wr => ∃ j : Nat, j ≤ K ∧ c = .int .i64 j ∧ wr.ownsRow w.heap.size 5 1 (.slice (some ⟨w.heap.size, 0, none⟩) K K) K ((putTo n K j).map (.int .u8)) ∧ Below w.heap.size w wr)
    (fun c _ => K - (intOf c).toNat)
  case atStart => exact ⟨0, by omega, rfl, by rw [madeZero] at hown1; exact hown1, grown_below hg1⟩
  case round =>
    obtain ⟨j, hj, rfl, hown, hbel⟩ := hrel
    by_cases hlt : j < K
    · have hcell : ∃ u, wr.cell? ⟨w.heap.size, j, none⟩ = some u := by
        rw [hown.cellAt j (by omega)]
        have : j < ((putTo n K j).map (Value.int .u8)).length := by rw [List.length_map, putTo_len n K j hj]; exact hlt
        exact ⟨_, List.getElem?_eq_getElem this⟩
      obtain ⟨u, hcell⟩ := hcell
      have hfz := hown.frozenAt j
      have hst := hown.stored j (.int .u8 (n / 2 ^ (8 * j) % 256))
      rw [← List.map_set, putTo_set n K j hlt] at hst
      have HS := Lib.hid hst
      clear hst hown
      go_wp2
      go_roundw
      case rel => exact ⟨j + 1, by omega, by go_num, HS.out.1, hbel.setCell (Nat.le_refl _) _⟩
      case measure => simp [intOf]; omega
    · have : j = K := by omega
      subst this
      go_wp2
      go_ret
      exact ⟨_, rfl, by simpa [putTo] using hown, hbel⟩

theorem div_256 (n : Int) (j : Nat) : n / 2 ^ (8 * j) / 256 = n / 2 ^ (8 * (j + 1)) := by
  rw [Int.ediv_ediv_of_nonneg (Int.le_of_lt (p2 _)), show (256 : Int) = 2 ^ 8 from by decide, ← p2_add]; congr 2
set_option maxHeartbeats 800000 in
theorem put_ref (n k : Int) (h0 : 0 ≤ n) (h1 : n ≤ 18446744073709551615) (h2 : 1 ≤ k) (h3 : k ≤ 8) (w : World) :
    Calls Try.prog 57 #[.int .u64 n, .int .i64 k] w fun e w' => ∃ v, e = .returned v ∧ w'.ownsRow w.heap.size 5 1 v k.toNat ((putS n k.toNat).map (.int .u8)) ∧ Below w.heap.size w w' := by
  obtain ⟨K, rfl⟩ := Int.eq_ofNat_of_zero_le (show 0 ≤ k by omega)
  rw [Int.toNat_natCast]
  obtain ⟨i0, hi0, hz0, hz1, hz2⟩ := info_parts u8_info
  have hd1 : decide ((K : Int) < 1) = false := by simp; omega
  have hd2 : decide (8 < (K : Int)) = false := by simp; omega
  go_enter Try.func57, Try.ntmps57
  go_wp2
  go_loopw [0, 5, 6] (fun m o c wr => ∃ (j : Nat) (q : Int), j ≤ K ∧ c = .int .i64 j ∧ m = .int .u64 q ∧ 0 ≤ q ∧ q ≤ 18446744073709551615 ∧ q = n / 2 ^ (8 * j) ∧ wr.ownsRow w.heap.size 5 1 o j ((putS n j).map (.int .u8)) ∧ Below w.heap.size w wr)
    (fun _ _ c _ => K - (intOf c).toNat)
  case atStart => exact ⟨0, n, by omega, rfl, rfl, h0, h1, by simp, World.ownsRow_nil _ _ _ _, Below.refl _ _⟩
  case round =>
    obtain ⟨j, q, hj, rfl, rfl, hq0, hq1, hq, hown, hbel⟩ := hrel
    have HQ := Lib.hid hq
    clear hq
    by_cases hlt : j < K
    · go_wp2_with (at_builtin; refine wpList_push _ rfl _ _ _ rfl w.heap.size 5 i0 .u8 1 Try.underlying31 hi0 hz0 hz1 hz2 _ j (putS n j) rfl (hown.alloc _) wr.heap.size (q % 256) rfl (cell_new _ _ _ 0) (by simp only [maxLen]; omega) (by omega) (by have := hbel.size; simp; omega) ?_; intro v1 w1 hown1 hb1)
      go_roundw
      case rel => exact ⟨j + 1, q / 256, by omega, by go_num, rfl, by omega, by omega, by rw [HQ.out, div_256], by rw [HQ.out, ← putS_succ] at hown1; exact hown1, (hbel.alloc hbel.size _).trans hb1⟩
      case measure => simp [intOf]; omega
    · have : j = K := by omega
      subst this
      go_wp2
      go_ret
      exact ⟨_, rfl, hown, hbel⟩

/-- no width: nothing -/
theorem put_none (n k : Int) (h : k < 1 ∨ 8 < k) (w : World) :
    Calls Try.prog 52 #[.int .u64 n, .int .i64 k] w fun e w' => e = .returned (.slice none 0 0) ∧ w = w' := by
  rcases h with h | h
  · have hd1 : decide (k < 1) = true := by simp; omega
    go_enter Try.func52, Try.ntmps52
    go_wp2
    go_ret
    exact ⟨rfl, rfl⟩
  · have hd1 : decide (k < 1) = false := by simp; omega
    have hd2 : decide (8 < k) = true := by simp; omega
    go_enter Try.func52, Try.ntmps52
    go_wp2
    go_ret
    exact ⟨rfl, rfl⟩
theorem put_none_ref (n k : Int) (h : k < 1 ∨ 8 < k) (w : World) :
    Calls Try.prog 57 #[.int .u64 n, .int .i64 k] w fun e w' => e = .returned (.slice none 0 0) ∧ w = w' := by
  rcases h with h | h
  · have hd1 : decide (k < 1) = true := by simp; omega
    go_enter Try.func57, Try.ntmps57
    go_wp2
    go_ret
    exact ⟨rfl, rfl⟩
  · have hd1 : decide (k < 1) = false := by simp; omega
    have hd2 : decide (8 < k) = true := by simp; omega
    go_enter Try.func57, Try.ntmps57
    go_wp2
    go_ret
    exact ⟨rfl, rfl⟩

/-- the number of the first so many bytes -/
def getTo (xs : List Int) : Nat → Int
  | 0 => 0
  | j + 1 => getTo xs j + xs.getD j 0 * 2 ^ (8 * j)
def getS (xs : List Int) : Int := getTo xs (min xs.length 8)
theorem getTo_lt (xs : List Int) (hx : Bytes xs) (j : Nat) : 0 ≤ getTo xs j ∧ getTo xs j < 2 ^ (8 * j) := by
  induction j with
  | zero => simp [getTo]
  | succ j ih =>
    have hb := hx.at_ j
    have hp := p2 (8 * j)
    have e : (2 : Int) ^ (8 * (j + 1)) = 256 * 2 ^ (8 * j) := by rw [show 8 * (j + 1) = 8 + 8 * j by omega, p2_add]; rfl
    have m0 : 0 ≤ xs.getD j 0 * 2 ^ (8 * j) := Int.mul_nonneg hb.1 (by omega)
    have m1 : xs.getD j 0 * 2 ^ (8 * j) ≤ 255 * 2 ^ (8 * j) := Int.mul_le_mul_of_nonneg_right hb.2 (by omega)
    rw [e]; show 0 ≤ getTo xs j + _ ∧ getTo xs j + _ < _
    omega
theorem or_join_u64' (x y : Int) (i : Nat) (hx0 : 0 ≤ x) (hx1 : x ≤ 18446744073709551615) (hy0 : 0 ≤ y) (hy : y < 2 ^ i) (hy1 : y ≤ 18446744073709551615) (hx : x % 2 ^ i = 0) : bits .or .u64 y x = y + x := by
  have e := or_join_u64 x y i hx0 hx1 hy0 hy hy1 hx
  obtain ⟨a, rfl⟩ := Int.eq_ofNat_of_zero_le hx0
  obtain ⟨b, rfl⟩ := Int.eq_ofNat_of_zero_le hy0
  rw [u64_or_nat a b (by omega) (by omega)] at e
  rw [u64_or_nat b a (by omega) (by omega), Nat.or_comm, e, Int.add_comm]
theorem p2_8 (j : Nat) (h : j < 8) : (2 : Int) ^ (8 * j) ≤ 72057594037927936 := by
  have := p2_le (show 8 * j ≤ 56 by omega)
  rwa [show (2 : Int) ^ 56 = 72057594037927936 from by decide] at this
theorem get_bits (xs : List Int) (hx : Bytes xs) (j : Nat) (hj : j < 8) : bits .or .u64 (getTo xs j) (IntKind.u64.wrap (xs.getD j 0 * 2 ^ (8 * j))) = getTo xs (j + 1) := by
  have hb := hx.at_ j
  have hp := p2 (8 * j)
  have hp8 := p2_8 j hj
  have hl := getTo_lt xs hx j
  have m0 : 0 ≤ xs.getD j 0 * 2 ^ (8 * j) := Int.mul_nonneg hb.1 (by omega)
  have m1 : xs.getD j 0 * 2 ^ (8 * j) ≤ 255 * 2 ^ (8 * j) := Int.mul_le_mul_of_nonneg_right hb.2 (by omega)
  rw [wrap_u64, Int.emod_eq_of_lt m0 (by omega), or_join_u64' _ _ (8 * j) m0 (by omega) hl.1 hl.2 (by omega) (Int.mul_emod_left _ _)]
  rfl
theorem getTo_u64 (xs : List Int) (hx : Bytes xs) (j : Nat) (hj : j ≤ 8) : getTo xs j ≤ 18446744073709551615 := by
  have := getTo_lt xs hx j
  have h2 := p2_le (show 8 * j ≤ 64 by omega)
  rw [show (2 : Int) ^ 64 = 18446744073709551616 from by decide] at h2
  omega
set_option maxHeartbeats 800000 in
theorem get_any (v : Value) (xs : List Int) (w : World) (B : Nat) (hv : IR w B .u8 v xs) (hx : Bytes xs) :
    Calls Try.prog 61 #[v] w fun e w' => e = .returned (.int .u64 (getS xs)) ∧ w = w' := by
  obtain ⟨A, c, rfl, hlc, hcm⟩ := hv.form
  unfold maxLen at hcm
  go_enter Try.func61, Try.ntmps61
  go_wp2
  go_loop [3, 4] (fun m i => ∃ (j : Nat) (q : Int), j ≤ 8 ∧ j ≤ xs.length ∧ i = .int .i64 j ∧ m = .int .u64 q ∧ 0 ≤ q ∧ q ≤ 18446744073709551615 ∧ q = getTo xs j) (fun _ i => 8 - (intOf i).toNat)
  case atStart => exact ⟨0, 0, by omega, by omega, rfl, rfl, by omega, by omega, rfl⟩
  case round =>
    obtain ⟨j, q, hj, hjl, rfl, rfl, hq0, hq1, hq⟩ := hrel
    have HQ := Lib.hid hq
    clear hq
    by_cases hlt : j < xs.length ∧ j < 8
    · obtain ⟨hl1, hl2⟩ := hlt
      obtain ⟨b, off, rfl, hb, hcell⟩ := IR.index hv j hl1
      obtain ⟨hu0, hu1⟩ := hx.at_ j
      generalize hu : xs.getD j 0 = u at *
      have HU := Lib.hid hu
      clear hu
      have hd1 : decide ((j : Int) < (xs.length : Int)) = true := by simp; omega
      have hd2 : decide ((j : Int) < 8) = true := by simp; omega
      have hg := get_bits xs hx j hl2
      rw [HU.out, ← HQ.out] at hg
      have HG := Lib.hid hg
      clear hg
      go_wp2
      go_round
      case rel => exact ⟨j + 1, _, by omega, by omega, by go_num, rfl, by rw [HG.out]; exact (getTo_lt xs hx (j + 1)).1, by rw [HG.out]; exact getTo_u64 xs hx (j + 1) (by omega), HG.out⟩
      case measure => simp [intOf]; omega
    · by_cases hl1 : j < xs.length
      · have hl2 : ¬ j < 8 := fun h => hlt ⟨hl1, h⟩
        have hd1 : decide ((j : Int) < (xs.length : Int)) = true := by simp; omega
        have hd2 : decide ((j : Int) < 8) = false := by simp; omega
        go_wp2
        go_ret
        exact ⟨ret_int (by rw [HQ.out]; unfold getS; rw [Nat.min_eq_right (by omega), show j = 8 by omega]), rfl⟩
      · have hd1 : decide ((j : Int) < (xs.length : Int)) = false := by simp; omega
        go_wp2
        go_ret
        exact ⟨ret_int (by rw [HQ.out]; unfold getS; rw [Nat.min_eq_left (by omega), show j = xs.length by omega]), rfl⟩

theorem get_sum (xs : List Int) (hx : Bytes xs) (j : Nat) (hj : j < 8) : (getTo xs j + xs.getD j 0 * pw (8 * j) % 18446744073709551616) % 18446744073709551616 = getTo xs (j + 1) := by
  have hl := getTo_lt xs hx (j + 1)
  have hu := getTo_u64 xs hx (j + 1) (by omega)
  have hb := hx.at_ j
  have hp := p2 (8 * j)
  have hp8 := p2_8 j hj
  have m0 : 0 ≤ xs.getD j 0 * 2 ^ (8 * j) := Int.mul_nonneg hb.1 (by omega)
  have m1 : xs.getD j 0 * 2 ^ (8 * j) ≤ 255 * 2 ^ (8 * j) := Int.mul_le_mul_of_nonneg_right hb.2 (by omega)
  rw [pw_of _ (by omega), Int.emod_eq_of_lt m0 (by omega)]
  have e : getTo xs (j + 1) = getTo xs j + xs.getD j 0 * 2 ^ (8 * j) := rfl
  rw [← e, Int.emod_eq_of_lt hl.1 (by omega)]
set_option maxHeartbeats 800000 in
theorem get_ref (v : Value) (xs : List Int) (w : World) (B : Nat) (hv : IR w B .u8 v xs) (hx : Bytes xs) :
    Calls Try.prog 41 #[v] w fun e w' => e = .returned (.int .u64 (getS xs)) ∧ ∃ d, w' = w.drewN d := by
  obtain ⟨A, c, rfl, hlc, hcm⟩ := hv.form
  unfold maxLen at hcm
  go_enter Try.func41, Try.ntmps41
  go_wp2
  go_loopw [3, 4] (fun m i wr => ∃ (j d : Nat) (q : Int), j ≤ 8 ∧ j ≤ xs.length ∧ i = .int .i64 j ∧ m = .int .u64 q ∧ 0 ≤ q ∧ q ≤ 18446744073709551615 ∧ q = getTo xs j ∧ wr = w.drewN d) (fun _ i _ => 8 - (intOf i).toNat)
  case atStart => exact ⟨0, 0, 0, by omega, by omega, rfl, rfl, by omega, by omega, rfl, rfl⟩
  case round =>
    obtain ⟨j, d, q, hj, hjl, rfl, rfl, hq0, hq1, hq, rfl⟩ := hrel
    have HQ := Lib.hid hq
    clear hq
    by_cases hlt : j < xs.length ∧ j < 8
    · obtain ⟨hl1, hl2⟩ := hlt
      obtain ⟨b, off, rfl, hb, hcell⟩ := IR.index hv j hl1
      obtain ⟨hu0, hu1⟩ := hx.at_ j
      have hg := get_sum xs hx j hl2
      generalize hu : xs.getD j 0 = u at *
      have HU := Lib.hid hu
      clear hu
      have hd1 : decide ((j : Int) < (xs.length : Int)) = true := by simp; omega
      have hd2 : decide ((j : Int) < 8) = true := by simp; omega
      rw [← HQ.out] at hg
      have HG := Lib.hid hg
      clear hg
      have hp := pw_lt (8 * j)
      go_wp2
      have s1 : IntKind.i64.wrap (8 * (j : Int)) = 8 * j := i64_in _ (by omega)
      have s2 : IntKind.u64.wrap (8 * (j : Int)) = 8 * j := u64_in _ (by omega)
      go_quiet ((go_at_call 60; exact quiet_add (power_any _ (by omega) (by omega) _)))
      clear s1 s2
      go_wp2
      have HW : IntKind.u64.wrap (q + IntKind.u64.wrap (u * pw (8 * j))) = getTo xs (j + 1) := by rw [wrap_u64, wrap_u64]; exact HG.out
      go_roundw
      case rel => exact ⟨j + 1, _, _, by omega, by omega, by go_num, rfl, by rw [HW]; exact (getTo_lt xs hx (j + 1)).1, by rw [HW]; exact getTo_u64 xs hx (j + 1) (by omega), HW, rfl⟩
      case measure => simp [intOf]; omega
    · by_cases hl1 : j < xs.length
      · have hl2 : ¬ j < 8 := fun h => hlt ⟨hl1, h⟩
        have hd1 : decide ((j : Int) < (xs.length : Int)) = true := by simp; omega
        have hd2 : decide ((j : Int) < 8) = false := by simp; omega
        go_wp2
        go_ret
        exact ⟨ret_int (by rw [HQ.out]; unfold getS; rw [Nat.min_eq_right (by omega), show j = 8 by omega]), d, rfl⟩
      · have hd1 : decide ((j : Int) < (xs.length : Int)) = false := by simp; omega
        go_wp2
        go_ret
        exact ⟨ret_int (by rw [HQ.out]; unfold getS; rw [Nat.min_eq_left (by omega), show j = xs.length by omega]), d, rfl⟩

theorem lent_any (v : Value) (xs : List Int) (w : World) (B : Nat) (hv : IR w B .u8 v xs) (hl : xs.length ≤ 100000) :
    Calls Try.prog 15 #[v] w fun e w' => ∃ u, e = .returned u ∧ w'.ownsRow w.heap.size 5 1 u xs.length (xs.map (.int .u8)) ∧ Below w.heap.size w w' := by
  obtain ⟨i0, hi0, hz0, hz1, hz2⟩ := info_parts u8_info
  go_enter Try.func15, Try.ntmps15
  go_wp2_with (at_builtin; refine wpList_append_all _ rfl _ _ _ rfl w.heap.size 5 i0 .u8 1 Try.underlying31 hi0 hz0 hz1 hz2 _ 0 [] rfl (World.ownsRow_nil _ _ _ _) B _ xs rfl hv (by simp only [maxLen]; omega) (by omega) (Nat.le_refl _) ?_; intro v1 w1 hown1 hb1)
  go_ret
  exact ⟨_, rfl, by simpa using hown1, hb1⟩

end Go.Proofs.Ythbbnebanmpcjaa.NumBytes
