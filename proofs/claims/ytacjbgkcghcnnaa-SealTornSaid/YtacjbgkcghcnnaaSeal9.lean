import Derived.Test.YtacjbgkcghcnnaaSeal8
import Derived.Test.YtacjbgkcghcnnaaTab2
/- What is sealed is opened: numbers. -/
namespace Go.Proofs.Ytacjbgkcghcnnaa.Seal
open Go.ChangeShapes Go.WideShapes Go.ChangeAt Go.RowKit Go.IntWalk Go.Shelf Go.Proofs.NumMath Go.Proofs.Mem NumBytes
set_option linter.unusedVariables false
theorem mod_mul (n a b : Int) (ha : 0 < a) : n % (a * b) = n % a + n / a % b * a := by
  rw [Int.emod_def, Int.emod_def n a, Int.emod_def (n / a) b, Int.ediv_ediv_of_nonneg (Int.le_of_lt ha), Int.sub_mul, Int.mul_comm (n / a) a, Int.mul_assoc a b, Int.mul_comm (b * _) a]
  omega
theorem getTo_put (n : Int) (k : Nat) : ∀ j, j ≤ k → getTo (putS n k) j = n % 2 ^ (8 * j) := by
  intro j
  induction j with
  | zero => intro _; simp [getTo, Int.emod_one]
  | succ j ih =>
    intro hj
    have hg : (putS n k).getD j 0 = n / 2 ^ (8 * j) % 256 := by simp [putS, List.getD, show j < k by omega]
    show getTo (putS n k) j + (putS n k).getD j 0 * 2 ^ (8 * j) = _
    rw [ih (by omega), hg]
    have e : (2 : Int) ^ (8 * (j + 1)) = 2 ^ (8 * j) * 256 := by rw [show 8 * (j + 1) = 8 * j + 8 by omega, p2_add]; rfl
    rw [e, mod_mul _ _ _ (p2 _)]
theorem get_put (n : Int) (k : Nat) (hk : k ≤ 8) : getS (putS n k) = n % 2 ^ (8 * k) := by
  unfold getS
  rw [putS_len, Nat.min_eq_left hk, getTo_put n k k (Nat.le_refl _)]
theorem get_put8 (n : Int) (h : 0 ≤ n ∧ n ≤ 18446744073709551615) : getS (putS n 8) = n := by
  rw [get_put n 8 (by decide)]
  show n % 18446744073709551616 = n
  omega
theorem stampsOf_map (vs : Sects) : stampsOf vs = (vs.map (·.2)).flatMap stampOf := by simp [stampsOf, List.flatMap_map]
theorem bodyOf_map (vs : Sects) : bodyOf vs = (vs.map (·.2)).flatMap (fun xs => (xs.drop 8).take 112) := by simp [bodyOf, List.flatMap_map]
theorem sect_map (vs : Sects) (k : Nat) : sect vs k = (vs.map (·.2)).getD k [] := by
  unfold sect
  simp only [List.getD_eq_getElem?_getD, List.getElem?_map]
  cases vs[k]? <;> rfl
theorem stampOf_sec {xb : List Int} {n : Int} (h : 0 ≤ n ∧ n ≤ 18446744073709551615) {a : Nat} (ha : a + 112 ≤ xb.length) : stampOf (sec xb n a) = [n, n] := by
  have hl : ((xb.drop a).take 112).length = 112 := by simp; omega
  unfold stampOf
  rw [if_pos (sec_len ha)]
  have e1 : (sec xb n a).take 8 = putS n 8 := by
    unfold sec; rw [List.append_assoc, List.take_append_of_le_length (by rw [putS_len]; decide), List.take_of_length_le (by rw [putS_len]; decide)]
  have e2 : (sec xb n a).drop 120 = putS n 8 := by
    unfold sec
    rw [List.drop_append, List.drop_of_length_le (by rw [List.length_append, putS_len, hl]; decide), List.nil_append, List.length_append, putS_len, hl]; rfl
  rw [e1, e2, get_put8 n h]
theorem mid_sec {xb : List Int} {n : Int} {a : Nat} (ha : a + 112 ≤ xb.length) : ((sec xb n a).drop 8).take 112 = (xb.drop a).take 112 := by
  have hl : ((xb.drop a).take 112).length = 112 := by simp; omega
  unfold sec
  rw [List.append_assoc, List.drop_append, List.drop_of_length_le (by rw [putS_len]; decide), List.nil_append, putS_len, show 8 - 8 = 0 from rfl, List.drop_zero, List.take_append_of_le_length (by rw [hl]; decide), List.take_of_length_le (by rw [hl]; decide)]
theorem sealS_eq (xb : List Int) (n : Int) : sealS xb n = [sec xb n 0, sec xb n 112, sec xb n 224, sec xb n 336] := rfl
theorem sealed {xb : List Int} {n : Int} (h : 0 ≤ n ∧ n ≤ 18446744073709551615) (hl : xb.length = 448) {vs : Sects} (hv : vs.map (·.2) = sealS xb n) :
    Whole vs ∧ head0 vs = n ∧ bodyOf vs = xb ∧ stampsOf vs = List.replicate 8 n := by
  have e0 := stampOf_sec (xb := xb) h (a := 0) (by omega)
  have e1 := stampOf_sec (xb := xb) h (a := 112) (by omega)
  have e2 := stampOf_sec (xb := xb) h (a := 224) (by omega)
  have e3 := stampOf_sec (xb := xb) h (a := 336) (by omega)
  have es : stampsOf vs = List.replicate 8 n := by rw [stampsOf_map, hv, sealS_eq]; simp [e0, e1, e2, e3, List.replicate]
  have hlen : vs.length = 4 := by have := congrArg List.length hv; simpa [sealS_eq] using this
  have hsec : ∀ k, k < 4 → (sect vs k).length = 128 := fun k hk => by
    rw [sect_map, hv, sealS_eq]
    match k, hk with
    | 0, _ => exact sec_len (by omega)
    | 1, _ => exact sec_len (by omega)
    | 2, _ => exact sec_len (by omega)
    | 3, _ => exact sec_len (by omega)
  have hh : head0 vs = n := by
    unfold head0
    rw [sect_map, hv, sealS_eq]
    show getS ((sec xb n 0).take 8) = n
    unfold stampOf at e0
    rw [if_pos (sec_len (by omega))] at e0
    injection e0
  refine ⟨⟨hlen, fun k hk => hsec k (by omega), fun y hy => ?_⟩, hh, ?_, es⟩
  · rw [es] at hy; rw [hh]; exact List.eq_of_mem_replicate hy
  · rw [bodyOf_map, hv, sealS_eq]
    simp only [List.flatMap_cons, List.flatMap_nil, List.append_nil]
    rw [mid_sec (by omega), mid_sec (by omega), mid_sec (by omega), mid_sec (by omega)]
    apply List.ext_getElem?
    intro i
    simp only [List.getElem?_append, List.length_take, List.length_drop, hl, List.getElem?_take, List.getElem?_drop]
    by_cases h0 : i < 112
    · simp [h0]
    · by_cases h1 : i < 224
      · simp [h0, show i - 112 < 112 by omega, show 112 + (i - 112) = i by omega]
      · by_cases h2 : i < 336
        · simp [h0, show ¬ i - 112 < 112 by omega, show i - 112 - 112 < 112 by omega, show 224 + (i - 112 - 112) = i by omega]
        · by_cases h3 : i < 448
          · simp [h0, show ¬ i - 112 < 112 by omega, show ¬ i - 112 - 112 < 112 by omega, show i - 112 - 112 - 112 < 112 by omega, show 336 + (i - 112 - 112 - 112) = i by omega]
          · rw [List.getElem?_eq_none (l := xb) (by omega)]
            simp [h0, show ¬ i - 112 < 112 by omega, show ¬ i - 112 - 112 < 112 by omega, show ¬ i - 112 - 112 - 112 < 112 by omega]
            omega
theorem most_rep {n : Int} (h : 0 ≤ n) : most (List.replicate 8 n) = n := by
  simp only [most, List.replicate, List.foldl_cons, List.foldl_nil]
  unfold mx
  simp [h]
end Go.Proofs.Ytacjbgkcghcnnaa.Seal
