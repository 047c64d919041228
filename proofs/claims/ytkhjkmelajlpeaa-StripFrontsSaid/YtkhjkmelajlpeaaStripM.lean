import Derived.Test.YtkhjkmelajlpeaaStrip2
import Derived.Test.YtkhjkmelajlpeaaRf4
/- Sectors of a stream, as lists. -/
namespace Go.Proofs.Ytkhjkmelajlpeaa.Strip
open Go.ChangeShapes Go.WideShapes Go.ChangeAt Go.RowKit Go.IntWalk Go.Shelf Go.Proofs.Mem
set_option linter.unusedVariables false
def part7 (xs : List Int) (k : Nat) : List Int := (xs.drop (127 * k)).take 127
theorem part_len (xs : List Int) (k : Nat) : (part7 xs k).length = size_ xs.length k := by unfold part7 size_; rw [List.length_take, List.length_drop]
def sec7 (xs : List Int) (k : Nat) : List Int := part7 xs k ++ List.replicate (127 - size_ xs.length k) 0 ++ [(size_ xs.length k : Int)]
def lay7 (xs : List Int) : List (List Int) := (List.range (cnt xs.length)).map (sec7 xs)
theorem size_le (L k : Nat) : size_ L k ≤ 127 := Nat.min_le_left _ _
theorem sec_len (xs : List Int) (k : Nat) : (sec7 xs k).length = 128 := by
  have := size_le xs.length k
  simp only [sec7, List.length_append, part_len, List.length_replicate, List.length_cons, List.length_nil]; omega
theorem part_bytes {xs : List Int} (hx : Bytes xs) (k : Nat) : Bytes (part7 xs k) := fun x h => hx x (List.mem_of_mem_drop (List.mem_of_mem_take h))
theorem bytes_rep (n : Nat) : Bytes (List.replicate n 0) := fun x hx => by rw [List.eq_of_mem_replicate hx]; decide
theorem sec_bytes {xs : List Int} (hx : Bytes xs) (k : Nat) : Bytes (sec7 xs k) := by
  have := size_le xs.length k
  exact ((part_bytes hx k).app (bytes_rep _)).app (Bytes.one (by omega))
theorem lay_bytes {xs : List Int} (hx : Bytes xs) : ∀ ys ∈ lay7 xs, Bytes ys := fun ys h => by
  obtain ⟨k, _, rfl⟩ := List.mem_map.1 h
  exact sec_bytes hx k
theorem lay_len (xs : List Int) : (lay7 xs).length = cnt xs.length := by simp [lay7]
/-- noughts, a front written, the last byte set -/
theorem sec_made (xs : List Int) (k : Nat) : (part7 xs k ++ (List.replicate 128 (0 : Int)).drop (part7 xs k).length).set 127 (size_ xs.length k : Int) = sec7 xs k := by
  have h := size_le xs.length k
  rw [part_len, List.drop_replicate, List.set_append_right _ _ (by rw [part_len]; omega), part_len]
  unfold sec7
  rw [List.append_assoc]
  congr 1
  apply List.ext_getElem?
  intro i
  rw [List.getElem?_set]
  by_cases e : 127 - size_ xs.length k = i
  · subst e
    rw [if_pos rfl, if_pos (by rw [List.length_replicate]; omega), List.getElem?_append_right (by rw [List.length_replicate]; omega)]
    simp
  · rw [if_neg e]
    by_cases hi : i < 127 - size_ xs.length k
    · rw [List.getElem?_append_left (by rw [List.length_replicate]; exact hi), List.getElem?_replicate, List.getElem?_replicate, if_pos hi, if_pos (by omega)]
    · rw [List.getElem?_append_right (by rw [List.length_replicate]; omega), List.getElem?_eq_none (by rw [List.length_replicate]; omega), List.getElem?_eq_none (by rw [List.length_replicate]; simp; omega)]
theorem upto_map (L : Nat) : ∀ k, 127 * k ≤ L + 126 → (upto L k).map (·.1) = List.range k
  | 0, _ => rfl
  | k + 1, h => by rw [upto_succ (by omega), List.map_append, upto_map L k (by omega), List.range_succ]; rfl
theorem upto_lay (xs : List Int) : (upto xs.length (cnt xs.length)).map (fun k => sec7 xs k.1) = lay7 xs := by
  unfold lay7
  rw [← upto_map xs.length (cnt xs.length) (by unfold cnt; omega), List.map_map]; rfl
/-- what counts of sectors -/
def readS : List (List Int) → List Int
  | [] => []
  | b :: t => if b.length = 128 ∧ b.getD 127 0 ≤ 127 then b.take (b.getD 127 0).toNat ++ (if b.getD 127 0 < 127 then [] else readS t) else []
theorem read_bad {b : List Int} (t : List (List Int)) (h : ¬ (b.length = 128 ∧ b.getD 127 0 ≤ 127)) : readS (b :: t) = [] := by simp only [readS]; rw [if_neg h]
theorem read_last {b : List Int} (t : List (List Int)) (h : b.length = 128) (h2 : b.getD 127 0 < 127) : readS (b :: t) = b.take (b.getD 127 0).toNat := by simp only [readS]; rw [if_pos ⟨h, by omega⟩, if_pos h2, List.append_nil]
theorem read_more {b : List Int} (t : List (List Int)) (h : b.length = 128) (h2 : b.getD 127 0 = 127) : readS (b :: t) = b.take (b.getD 127 0).toNat ++ readS t := by simp only [readS]; rw [if_pos ⟨h, by omega⟩, if_neg (by omega)]
theorem drop_at {α : Type} {l : List α} {k : Nat} {x : α} (h : l[k]? = some x) : l.drop k = x :: l.drop (k + 1) := by
  obtain ⟨hk, rfl⟩ := List.getElem?_eq_some_iff.1 h
  exact (List.drop_eq_getElem_cons hk)
theorem sec_last (xs : List Int) (k : Nat) : (sec7 xs k).getD 127 0 = size_ xs.length k := by
  have := size_le xs.length k
  unfold sec7
  rw [List.getD_eq_getElem?_getD, List.getElem?_append_right (by rw [List.length_append, part_len, List.length_replicate]; omega), List.length_append, part_len, List.length_replicate]
  rw [show 127 - (size_ xs.length k + (127 - size_ xs.length k)) = 0 by omega]; rfl
theorem sec_take (xs : List Int) (k : Nat) : (sec7 xs k).take (size_ xs.length k) = part7 xs k := by
  unfold sec7
  rw [List.append_assoc, List.take_left' (part_len xs k)]
theorem part_cat (xs : List Int) (k : Nat) : xs.take (127 * k) ++ part7 xs k = xs.take (127 * (k + 1)) := by
  unfold part7
  rw [Nat.mul_add, Nat.mul_one, List.take_add]
theorem drop_split {α : Type} (l : List α) (a b : Nat) (h : a ≤ b) : (l.take b).drop a ++ l.drop b = l.drop a := by
  rw [List.drop_take, show l.drop b = (l.drop a).drop (b - a) by rw [List.drop_drop]; congr 1; omega, List.take_append_drop]
/-- the first n sectors of a stream, and whatever behind it that does not count -/
theorem read_front (xs : List Int) (tail : List (List Int)) (n : Nat) (hn : n ≤ cnt xs.length) (ht : readS tail = []) :
    ∀ k, k ≤ n → readS (((List.range n).map (sec7 xs)).drop k ++ tail) = (xs.take (127 * n)).drop (127 * k) := by
  intro k hk
  induction hm : n - k generalizing k with
  | zero =>
    obtain rfl : k = n := by omega
    rw [List.drop_of_length_le (by simp), List.nil_append, ht, List.drop_of_length_le (by rw [List.length_take]; omega)]
  | succ m ih =>
    have hkn : k < n := by omega
    have e : ((List.range n).map (sec7 xs)).drop k = sec7 xs k :: ((List.range n).map (sec7 xs)).drop (k + 1) := drop_at (by simp [hkn])
    rw [e, List.cons_append]
    have hs := sec_last xs k
    have hz : size_ xs.length k = min 127 (xs.length - 127 * k) := rfl
    have hc : cnt xs.length = (xs.length + 126) / 127 := rfl
    have hp : part7 xs k = (xs.take (127 * (k + 1))).drop (127 * k) := by unfold part7; rw [Nat.mul_add, Nat.mul_one, List.drop_take, Nat.add_sub_cancel_left]
    by_cases h127 : size_ xs.length k = 127
    · rw [read_more _ (sec_len xs k) (by rw [hs, h127]; rfl), hs, Int.toNat_natCast, sec_take, ih (k + 1) (by omega) (by omega)]
      rw [hp]
      have : xs.take (127 * (k + 1)) = (xs.take (127 * n)).take (127 * (k + 1)) := by rw [List.take_take, Nat.min_eq_left (by omega)]
      rw [this, drop_split _ _ _ (by omega)]
    · rw [read_last _ (sec_len xs k) (by rw [hs]; omega), hs, Int.toNat_natCast, sec_take, hp, List.take_of_length_le (by omega), List.take_of_length_le (by omega)]
theorem read_lay (xs : List Int) (tail : List (List Int)) (ht : readS tail = []) : readS (lay7 xs ++ tail) = xs := by
  have := read_front xs tail (cnt xs.length) (Nat.le_refl _) ht 0 (Nat.zero_le _)
  rw [List.drop_zero, Nat.mul_zero, List.drop_zero, List.take_of_length_le (by unfold cnt; omega)] at this
  exact this
theorem read_cut (xs : List Int) (n : Nat) (hn : n ≤ cnt xs.length) : readS ((lay7 xs).take n) = xs.take (127 * n) := by
  have := read_front xs [] n hn rfl 0 (Nat.zero_le _)
  rw [List.drop_zero, Nat.mul_zero, List.drop_zero, List.append_nil] at this
  rw [← this]
  unfold lay7
  rw [← List.map_take, List.take_range, Nat.min_eq_left hn]
theorem read_bytes : ∀ (l : List (List Int)), (∀ b ∈ l, Bytes b) → Bytes (readS l)
  | [], _ => Bytes.nil
  | b :: t, h => by
    simp only [readS]
    split
    · refine Bytes.app (fun x hx => h b (List.mem_cons_self ..) x (List.mem_of_mem_take hx)) ?_
      split
      · exact Bytes.nil
      · exact read_bytes t (fun c hc => h c (List.mem_cons_of_mem _ hc))
    · exact Bytes.nil
end Go.Proofs.Ytkhjkmelajlpeaa.Strip
