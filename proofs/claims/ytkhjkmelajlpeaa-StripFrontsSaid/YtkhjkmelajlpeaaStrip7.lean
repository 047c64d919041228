import Derived.Test.YtkhjkmelajlpeaaStrip6
import Derived.Test.YtkhjkmelajlpeaaTab3
/- A torn sector. -/
namespace Go.Proofs.Ytkhjkmelajlpeaa.Strip
open Go.ChangeShapes Go.WideShapes Go.ChangeAt Go.RowKit Go.IntWalk Go.Shelf Go.Proofs.Mem Blk
set_option linter.unusedVariables false
/-- a front of b over a -/
def over (a b : List Int) (k : Nat) : List Int := b.take k ++ a.drop k
theorem over_len {a b : List Int} (ha : a.length = 128) (hb : b.length = 128) {k : Nat} (hk : k ≤ 128) : (over a b k).length = 128 := by
  unfold over; rw [List.length_append, List.length_take, List.length_drop, ha, hb]; omega
theorem over_zero (a b : List Int) : over a b 0 = a := by simp [over]
theorem over_step {a b : List Int} (ha : a.length = 128) (hb : b.length = 128) {j : Nat} (hj : j < 128) : (over a b j).set j (b.getD j 0) = over a b (j + 1) := by
  unfold over
  have hl : (b.take j).length = j := by rw [List.length_take, hb]; omega
  rw [List.set_append_right _ _ (by omega), hl, Nat.sub_self, List.take_add_one, List.append_assoc]
  congr 1
  rw [List.drop_eq_getElem_cons (by omega : j < a.length), List.set_cons_zero, List.getD_eq_getElem?_getD, List.getElem?_eq_getElem (by omega : j < b.length)]
  rfl
theorem over_bytes {a b : List Int} (ha : Bytes a) (hb : Bytes b) (k : Nat) : Bytes (over a b k) :=
  Bytes.app (fun x h => hb x (List.mem_of_mem_take h)) (fun x h => ha x (List.mem_of_mem_drop h))
theorem over_take {a b : List Int} {k u : Nat} (h : a.take u = b.take u) (hk : k ≤ b.length) : (over a b k).take u = b.take u := by
  unfold over
  by_cases e : u ≤ k
  · rw [List.take_append_of_le_length (by rw [List.length_take]; omega), List.take_take, Nat.min_eq_left e]
  · rw [List.take_append, List.length_take, Nat.min_eq_left hk, List.take_of_length_le (by rw [List.length_take]; omega)]
    have h1 : (a.drop k).take (u - k) = (b.drop k).take (u - k) := by rw [← List.drop_take, ← List.drop_take, h]
    rw [h1, ← List.drop_take]
    have h2 : b.take k = (b.take u).take k := by rw [List.take_take, Nat.min_eq_left (by omega)]
    rw [h2, List.take_append_drop]
/-- what is read where one sector holds just a front of its own part -/
theorem read_torn (xs : List Int) (i : Nat) (hi : i < cnt xs.length) (b : List Int) (u : Nat) (hb : b.length = 128) (hu : b.getD 127 0 = (u : Int)) (hus : u ≤ size_ xs.length i) (ht : b.take u = (part7 xs i).take u) :
    readS ((lay7 xs).set i b) = xs.take (if u < 127 then 127 * i + u else xs.length) := by
  have h7 := size_le xs.length i
  have hz : size_ xs.length i = min 127 (xs.length - 127 * i) := rfl
  have hc : cnt xs.length = (xs.length + 126) / 127 := rfl
  have e : (lay7 xs).set i b = (List.range i).map (sec7 xs) ++ b :: (lay7 xs).drop (i + 1) := by
    rw [List.set_eq_take_append_cons_drop, if_pos (by rw [lay_len]; exact hi)]
    congr 1
    unfold lay7; rw [← List.map_take, List.take_range, Nat.min_eq_left (by omega)]
  have full : ∀ (tail : List (List Int)) (k : Nat), k ≤ i → readS (((List.range i).map (sec7 xs)).drop k ++ tail) = (xs.take (127 * i)).drop (127 * k) ++ readS tail := by
    intro tail k hk
    induction hm : i - k generalizing k with
    | zero =>
      obtain rfl : k = i := by omega
      rw [List.drop_of_length_le (by simp), List.nil_append, List.drop_of_length_le (by rw [List.length_take]; omega), List.nil_append]
    | succ m ih =>
      have hki : k < i := by omega
      have e : ((List.range i).map (sec7 xs)).drop k = sec7 xs k :: ((List.range i).map (sec7 xs)).drop (k + 1) := drop_at (by simp [hki])
      have h127 : size_ xs.length k = 127 := by unfold size_; omega
      have hs := sec_last xs k
      rw [e, List.cons_append, read_more _ (sec_len xs k) (by rw [hs, h127]; rfl), hs, Int.toNat_natCast, sec_take, ih (k + 1) (by omega) (by omega), ← List.append_assoc]
      congr 1
      have hp : part7 xs k = ((xs.take (127 * i)).take (127 * (k + 1))).drop (127 * k) := by
        unfold part7; rw [List.take_take, Nat.min_eq_left (by omega), Nat.mul_add, Nat.mul_one, List.drop_take, Nat.add_sub_cancel_left]
      rw [hp, drop_split _ _ _ (by omega)]
  have hf := full (b :: (lay7 xs).drop (i + 1)) 0 (Nat.zero_le _)
  rw [List.drop_zero, Nat.mul_zero, List.drop_zero] at hf
  rw [e, hf]
  have hpt : (part7 xs i).take u = (xs.drop (127 * i)).take u := by unfold part7; rw [List.take_take, Nat.min_eq_left (by omega)]
  by_cases h : u < 127
  · rw [if_pos h, read_last _ hb (by rw [hu]; omega), hu, Int.toNat_natCast, ht, hpt, List.take_add]
  · obtain rfl : u = 127 := by omega
    rw [if_neg h, read_more _ hb (by rw [hu]; rfl), hu, Int.toNat_natCast, ht, hpt, List.take_of_length_le (Nat.le_refl xs.length)]
    have h2 := read_front xs [] (cnt xs.length) (Nat.le_refl _) (by simp [readS]) (i + 1) (by omega)
    rw [List.append_nil] at h2
    have h3 : readS ((lay7 xs).drop (i + 1)) = xs.drop (127 * (i + 1)) := by
      unfold lay7; rw [h2, List.take_of_length_le (by omega)]
    rw [h3, ← List.append_assoc, ← List.take_add, show 127 * i + 127 = 127 * (i + 1) by omega, List.take_append_drop]
/-- a sector of the longer stream over one of the shorter, or over noughts -/
theorem torn_is (xs : List Int) (n i τ : Nat) (hn : n ≤ xs.length) (hi : i < cnt xs.length) (hτ : τ ≤ 128) (z : List Int) (hz : z = sec7 (xs.take n) i ∨ z = List.replicate 128 0 ∧ cnt n ≤ i) :
    ∃ m, m ≤ xs.length ∧ min n (127 * i) ≤ m ∧ readS ((lay7 xs).set i (over z (sec7 xs i) τ)) = xs.take m := by
  have hzl : z.length = 128 := by
    rcases hz with rfl | ⟨rfl, _⟩
    · exact sec_len _ _
    · simp
  have hxl := sec_len xs i
  have hL : (xs.take n).length = n := by rw [List.length_take]; omega
  have hcn : cnt n = (n + 126) / 127 := rfl
  have hcx : cnt xs.length = (xs.length + 126) / 127 := rfl
  have key : ∃ u : Nat, (over z (sec7 xs i) τ).getD 127 0 = (u : Int) ∧ u ≤ size_ xs.length i ∧ (over z (sec7 xs i) τ).take u = (part7 xs i).take u ∧ min n (127 * i) ≤ 127 * i + u := by
    by_cases h128 : τ = 128
    · subst h128
      have e : over z (sec7 xs i) 128 = sec7 xs i := by unfold over; rw [List.take_of_length_le (by omega), List.drop_of_length_le (by omega), List.append_nil]
      rw [e, sec_last]
      exact ⟨_, rfl, Nat.le_refl _, by rw [sec_take, List.take_of_length_le (by rw [part_len]; exact Nat.le_refl _)], by omega⟩
    · have hlast : (over z (sec7 xs i) τ).getD 127 0 = z.getD 127 0 := by
        unfold over
        rw [List.getD_eq_getElem?_getD, List.getElem?_append_right (by rw [List.length_take]; omega), List.length_take, hxl, List.getElem?_drop, List.getD_eq_getElem?_getD]
        rw [show τ + (127 - min τ 128) = 127 by omega]
      rw [hlast]
      rcases hz with rfl | ⟨rfl, hc⟩
      · rw [sec_last]
        have hsz : size_ (xs.take n).length i ≤ size_ xs.length i := by rw [hL]; unfold size_; omega
        refine ⟨_, rfl, hsz, ?_, by omega⟩
        have e1 : (sec7 (xs.take n) i).take (size_ (xs.take n).length i) = (sec7 xs i).take (size_ (xs.take n).length i) := by
          rw [sec_take]
          have e2 : (sec7 xs i).take (size_ (xs.take n).length i) = (part7 xs i).take (size_ (xs.take n).length i) := by
            rw [← sec_take xs i, List.take_take, Nat.min_eq_left hsz]
          rw [e2, hL]
          unfold part7
          rw [List.drop_take, List.take_take, List.take_take]
          congr 1
          unfold size_; omega
        rw [over_take e1 (by omega), ← sec_take xs i, List.take_take, Nat.min_eq_left hsz]
      · refine ⟨0, by simp, by omega, by simp, by omega⟩
  obtain ⟨u, h1, h2, h3, h4⟩ := key
  have hzz : size_ xs.length i = min 127 (xs.length - 127 * i) := rfl
  refine ⟨_, ?_, ?_, read_torn xs i hi _ u (over_len hzl hxl hτ) h1 h2 h3⟩
  · split <;> omega
  · split <;> omega
end Go.Proofs.Ytkhjkmelajlpeaa.Strip
