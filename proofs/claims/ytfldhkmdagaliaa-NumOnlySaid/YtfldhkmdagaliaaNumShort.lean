import Derived.Test.YtfldhkmdagaliaaMem
import Derived.Test.YtfldhkmdagaliaaNumMath
/- Long numbers: seven bits in each byte; plain lists. -/
namespace Go.Proofs.NumShort
open Go.Proofs.NumMath Go.Proofs.Mem
set_option linter.unusedVariables false

def longF : Nat → Int → List Int
  | 0, n => [n]
  | f + 1, n => if 128 ≤ n then (n % 128 + 128) :: longF f (n / 128) else [n]
def longS (n : Int) : List Int := longF 9 n
theorem longF_bytes (f : Nat) : ∀ n : Int, 0 ≤ n → n < 128 ^ (f + 1) → Bytes (longF f n) ∧ 1 ≤ (longF f n).length ∧ (longF f n).length ≤ f + 1 := by
  induction f with
  | zero => intro n h0 h1; simp only [longF]; exact ⟨Bytes.one (by simp at h1; omega), by simp, by simp⟩
  | succ f ih =>
    intro n h0 h1
    simp only [longF]
    split
    · have := ih (n / 128) (by omega) (by rw [Int.pow_succ] at h1; omega)
      refine ⟨?_, by simp, by simp; omega⟩
      intro x hx
      rcases List.mem_cons.1 hx with rfl | hx
      · omega
      · exact this.1 x hx
    · exact ⟨Bytes.one (by omega), by simp, by simp⟩
theorem p128 : (128 : Int) ^ (9 + 1) = 1180591620717411303424 := by decide
theorem longS_ok (n : Int) (h0 : 0 ≤ n) (h1 : n ≤ 18446744073709551615) : Bytes (longS n) ∧ 1 ≤ (longS n).length ∧ (longS n).length ≤ 10 :=
  longF_bytes 9 n h0 (by rw [p128]; omega)

def valL : List Int → Int
  | [] => 0
  | c :: r => c % 128 + 128 * valL r
theorem valL_snoc (l : List Int) (c : Int) : valL (l ++ [c]) = valL l + c % 128 * 2 ^ (7 * l.length) := by
  induction l with
  | nil => simp [valL]
  | cons a l ih =>
    simp only [List.cons_append, valL, ih, List.length_cons]
    rw [show 7 * (l.length + 1) = 7 + 7 * l.length by omega, p2_add, Int.mul_add, show (2 : Int) ^ 7 = 128 from by decide]
    rw [Int.mul_left_comm (c % 128) 128]; omega
theorem valL_lt (l : List Int) : 0 ≤ valL l ∧ valL l < 2 ^ (7 * l.length) := by
  induction l with
  | nil => simp [valL]
  | cons a l ih =>
    simp only [valL, List.length_cons]
    rw [show 7 * (l.length + 1) = 7 + 7 * l.length by omega, p2_add, show (2 : Int) ^ 7 = 128 from by decide]
    omega
/-- as Long writes it -/
def Canon : List Int → Prop
  | [] => False
  | [c] => 0 ≤ c ∧ c < 128
  | [a, c] => 128 ≤ a ∧ a ≤ 255 ∧ 0 < c ∧ c < 128
  | a :: r => 128 ≤ a ∧ a ≤ 255 ∧ Canon r
theorem Canon.cons {a b : Int} {r : List Int} (ha : 128 ≤ a ∧ a ≤ 255) (h : Canon (b :: r)) (hr : r ≠ [] ∨ 0 < b) : Canon (a :: b :: r) := by
  match r, h, hr with
  | [], h, hr => exact ⟨ha.1, ha.2, by simpa using hr, h.2⟩
  | c :: r, h, hr => exact ⟨ha.1, ha.2, h⟩
theorem Canon.tail {a b : Int} {r : List Int} (h : Canon (a :: b :: r)) : 128 ≤ a ∧ a ≤ 255 ∧ Canon (b :: r) ∧ (r ≠ [] ∨ 0 < b) := by
  match r, h with
  | [], h => exact ⟨h.1, h.2.1, ⟨by have := h.2.2; omega, h.2.2.2⟩, .inr h.2.2.1⟩
  | c :: r, h => exact ⟨h.1, h.2.1, h.2.2, .inl (by simp)⟩
theorem Canon.pos {l : List Int} (h : Canon l) : l.length = 1 ∨ 128 ≤ 128 * valL (l.drop 1) := by
  match l, h with
  | [c], _ => exact .inl rfl
  | a :: b :: r, h =>
    right
    have ht := h.tail
    clear h
    induction r generalizing a b with
    | nil =>
      simp only [List.drop_succ_cons, List.drop_zero, valL]
      have h1 : 0 < b := by simpa using ht.2.2.2
      have h2 := ht.2.2.1.2
      omega
    | cons c r ih =>
      have := ih b c ht.2.2.1.tail
      simp only [List.drop_succ_cons, List.drop_zero, valL] at this ⊢
      omega
theorem longF_of (l : List Int) (h : Canon l) : ∀ f : Nat, l.length ≤ f + 1 → longF f (valL l) = l := by
  induction l with
  | nil => exact absurd h (by simp [Canon])
  | cons a r ih =>
    intro f hf
    cases r with
    | nil =>
      have h1 : 0 ≤ a ∧ a < 128 := h
      have e : valL [a] = a := by simp only [valL]; omega
      rw [e]
      cases f with
      | zero => rfl
      | succ f => simp only [longF]; rw [if_neg (by omega)]
    | cons b r =>
      have ht := h.tail
      have hp := h.pos
      simp only [List.drop_succ_cons, List.drop_zero, List.length_cons] at hp hf
      cases f with
      | zero => omega
      | succ f =>
        have := ih ht.2.2.1 f (by simp; omega)
        have e : valL (a :: b :: r) = a % 128 + 128 * valL (b :: r) := rfl
        rw [e]
        generalize valL (b :: r) = V at *
        simp only [longF]
        rw [if_pos (by omega), show (a % 128 + 128 * V) / 128 = V by omega, this, show (a % 128 + 128 * V) % 128 + 128 = a by omega]
theorem longF_canon (f : Nat) : ∀ n : Int, 0 ≤ n → n < 128 ^ (f + 1) → Canon (longF f n) ∧ valL (longF f n) = n ∧ (0 < n → ∃ b r, longF f n = b :: r ∧ (r ≠ [] ∨ 0 < b)) := by
  induction f with
  | zero => intro n h0 h1; simp at h1; exact ⟨⟨h0, h1⟩, by simp only [longF, valL]; omega, fun h => ⟨n, [], rfl, .inr h⟩⟩
  | succ f ih =>
    intro n h0 h1
    simp only [longF]
    split
    · rename_i hn
      obtain ⟨h2, h3, h4⟩ := ih (n / 128) (by omega) (by rw [Int.pow_succ] at h1; omega)
      obtain ⟨b, r, e, hr⟩ := h4 (by omega)
      refine ⟨?_, by simp only [valL]; rw [h3]; omega, fun _ => ⟨_, _, rfl, .inl (by rw [e]; simp)⟩⟩
      rw [e] at h2 ⊢
      exact Canon.cons (by omega) h2 hr
    · exact ⟨⟨h0, by omega⟩, by simp only [valL]; omega, fun h => ⟨n, [], rfl, .inr h⟩⟩
theorem longS_canon (n : Int) (h0 : 0 ≤ n) (h1 : n ≤ 18446744073709551615) : Canon (longS n) ∧ valL (longS n) = n := by
  have := longF_canon 9 n h0 (by rw [p128]; omega)
  exact ⟨this.1, this.2.1⟩
theorem longS_of (l : List Int) (h : Canon l) (hl : l.length ≤ 10) : longS (valL l) = l := longF_of l h 9 (by omega)

/-- reading: the rest of the bytes, how many were read, what they come to -/
def shortR : List Int → Nat → Int → Int × Nat
  | [], _, _ => (0, 0)
  | c :: r, i, n => if i = 9 ∧ 1 < c then (0, 0) else if 128 ≤ c then shortR r (i + 1) (n + c % 128 * 2 ^ (7 * i)) else if c = 0 ∧ 0 < i then (0, 0) else (n + c % 128 * 2 ^ (7 * i), i + 1)
def shortS (xs : List Int) : Int × Nat := shortR xs 0 0

/-- many: each has more behind it -/
def Many (l : List Int) : Prop := ∀ x ∈ l, 128 ≤ x ∧ x ≤ 255
theorem Many.snoc {l : List Int} {c : Int} (h : Many l) (hc : 128 ≤ c ∧ c ≤ 255) : Many (l ++ [c]) := fun x hx => by
  rcases List.mem_append.1 hx with h1 | h1
  · exact h x h1
  · rw [List.mem_singleton.1 h1]; exact hc
theorem canon_snoc {l : List Int} {c : Int} (h : Many l) (hc : 0 ≤ c ∧ c < 128) : Canon (l ++ [c]) ↔ ¬ (c = 0 ∧ 0 < l.length) := by
  induction l with
  | nil => simp [Canon]; omega
  | cons a l ih =>
    have ha := h a (List.mem_cons_self ..)
    have hl : Many l := fun x hx => h x (List.mem_cons_of_mem _ hx)
    have := ih hl
    cases l with
    | nil => simp [Canon]; omega
    | cons b l =>
      simp only [List.cons_append] at this ⊢
      constructor
      · intro hh
        have := this.1 hh.tail.2.2.1
        simp only [List.length_cons] at this ⊢; omega
      · intro hh
        refine Canon.cons ha (this.2 (by simp only [List.length_cons] at hh ⊢; omega)) (.inl (by simp))
theorem p2_63 : (2 : Int) ^ 63 = 9223372036854775808 := by decide
theorem p2_64 : (2 : Int) ^ 64 = 18446744073709551616 := by decide
theorem val_bd (l : List Int) (c : Int) (hl : l.length ≤ 9) (hc : 0 ≤ c) (h : ¬ (l.length = 9 ∧ 1 < c)) : valL (l ++ [c]) < 18446744073709551616 := by
  rw [valL_snoc]
  have hv := valL_lt l
  by_cases h9 : l.length = 9
  · have hc1 : c ≤ 1 := by omega
    rw [h9] at hv ⊢
    rw [show 7 * 9 = 63 from rfl, p2_63] at *
    have : c % 128 ≤ 1 := by omega
    omega
  · have h1 : (2 : Int) ^ (7 * l.length) ≤ 2 ^ 56 := p2_le (by omega)
    rw [show (2 : Int) ^ 56 = 72057594037927936 from by decide] at h1
    have h2 := p2 (7 * l.length)
    have m1 : c % 128 * 2 ^ (7 * l.length) ≤ 127 * 2 ^ (7 * l.length) := Int.mul_le_mul_of_nonneg_right (by omega) (by omega)
    omega
/-- the document's way: what Long writes of it, held against the bytes -/
theorem ref_test (l : List Int) (c : Int) (hm : Many l) (hl : l.length ≤ 9) (hc : 0 ≤ c ∧ c < 128) (n : Int) (hn : n = valL (l ++ [c]) % 18446744073709551616) :
    longS n = l ++ [c] ↔ ¬ (l.length = 9 ∧ 1 < c) ∧ ¬ (c = 0 ∧ 0 < l.length) := by
  have h0 := (valL_lt (l ++ [c])).1
  constructor
  · intro h
    have hc' := longS_canon n (by omega) (by omega)
    rw [h] at hc'
    refine ⟨fun ⟨h9, h1⟩ => ?_, (canon_snoc hm hc).1 hc'.1⟩
    have hv := valL_lt l
    have e := hc'.2
    rw [valL_snoc, h9, show 7 * 9 = 63 from rfl, p2_63] at e
    omega
  · intro ⟨h1, h2⟩
    have hb := val_bd l c hl hc.1 h1
    rw [hn, Int.emod_eq_of_lt h0 hb]
    exact longS_of _ ((canon_snoc hm hc).2 h2) (by simp; omega)
theorem shortR_many (l : List Int) : ∀ (r : List Int) (i : Nat) (q : Int), Many l → i + l.length ≤ 9 → shortR (l ++ r) i q = shortR r (i + l.length) (q + 2 ^ (7 * i) * valL l) := by
  induction l with
  | nil => intro r i q _ _; simp [valL]
  | cons a l ih =>
    intro r i q hm hl
    have ha := hm a (List.mem_cons_self ..)
    simp only [List.length_cons] at hl
    simp only [List.cons_append, shortR]
    rw [if_neg (by omega), if_pos ha.1, ih r (i + 1) _ (fun x hx => hm x (List.mem_cons_of_mem _ hx)) (by omega)]
    simp only [valL, List.length_cons]
    congr 1
    · omega
    · rw [show 7 * (i + 1) = 7 * i + 7 by omega, p2_add, show (2 : Int) ^ 7 = 128 from by decide, Int.mul_add, Int.mul_assoc, Int.mul_comm (a % 128)]; omega
theorem shortR_any (l : List Int) : ∀ (i : Nat) (q : Int), Many l → (shortR l i q).2 = 0 ∧ (shortR l i q).1 = 0 := by
  induction l with
  | nil => intro i q _; exact ⟨rfl, rfl⟩
  | cons a l ih =>
    intro i q hm
    have ha := hm a (List.mem_cons_self ..)
    simp only [shortR]
    by_cases h : i = 9 ∧ 1 < a
    · rw [if_pos h]; exact ⟨rfl, rfl⟩
    · rw [if_neg h, if_pos ha.1]; exact ih _ _ (fun x hx => hm x (List.mem_cons_of_mem _ hx))
theorem canon_form {l : List Int} (h : Canon l) : ∃ m c, l = m ++ [c] ∧ Many m ∧ 0 ≤ c ∧ c < 128 ∧ ¬ (c = 0 ∧ 0 < m.length) := by
  induction l with
  | nil => exact absurd h (by simp [Canon])
  | cons a r ih =>
    cases r with
    | nil => exact ⟨[], a, rfl, (fun x hx => by cases hx), h.1, h.2, by simp⟩
    | cons b r =>
      have ht := h.tail
      obtain ⟨m, c, e, hm, h0, h1, h2⟩ := ih ht.2.2.1
      refine ⟨a :: m, c, by rw [e]; rfl, fun x hx => ?_, h0, h1, fun ⟨hc, _⟩ => ?_⟩
      · rcases List.mem_cons.1 hx with rfl | hx
        · exact ⟨ht.1, ht.2.1⟩
        · exact hm x hx
      · rcases Nat.eq_zero_or_pos m.length with hz | hz
        · have : m = [] := List.eq_nil_of_length_eq_zero hz
          subst this
          simp at e
          obtain ⟨rfl, rfl⟩ := e
          rcases ht.2.2.2 with h3 | h3
          · exact h3 rfl
          · omega
        · exact h2 ⟨hc, hz⟩
/-- what Long has written is read, whatever stands behind -/
theorem short_long (n : Int) (h0 : 0 ≤ n) (h1 : n ≤ 18446744073709551615) (more : List Int) : shortS (longS n ++ more) = (n, (longS n).length) := by
  have hc := longS_canon n h0 h1
  have hl := longS_ok n h0 h1
  obtain ⟨m, c, e, hm, c0, c1, c2⟩ := canon_form hc.1
  have hv := hc.2
  rw [e] at hl hv ⊢
  have hml : m.length ≤ 9 := by have := hl.2.2; simp at this; omega
  unfold shortS
  rw [List.append_assoc, shortR_many m _ 0 0 hm (by omega)]
  simp only [List.singleton_append, shortR, Nat.zero_add, Nat.mul_zero, Int.pow_zero, Int.one_mul, Int.zero_add]
  have hv2 := valL_lt m
  rw [valL_snoc] at hv
  have h9 : ¬ (m.length = 9 ∧ 1 < c) := fun ⟨h9, h1c⟩ => by
    rw [h9, show 7 * 9 = 63 from rfl, p2_63] at hv
    omega
  rw [if_neg h9, if_neg (by omega), if_neg c2, hv]
  simp
/-- what is read as a long number is written so -/
theorem short_only (xs : List Int) (hx : Bytes xs) : shortS xs = (0, 0) ∨ ∃ k : Nat, 1 ≤ k ∧ k ≤ 10 ∧ k ≤ xs.length ∧ (shortS xs).2 = k ∧ 0 ≤ (shortS xs).1 ∧ (shortS xs).1 < 18446744073709551616 ∧ longS (shortS xs).1 = xs.take k := by
  have key : ∀ (m r : List Int), Many m → m.length ≤ 9 → Bytes r → (shortR r m.length (valL m) = (0, 0) ∨ ∃ k : Nat, 1 ≤ k ∧ k ≤ 10 ∧ k ≤ (m ++ r).length ∧ (shortR r m.length (valL m)).2 = k ∧ 0 ≤ (shortR r m.length (valL m)).1 ∧ (shortR r m.length (valL m)).1 < 18446744073709551616 ∧ longS (shortR r m.length (valL m)).1 = (m ++ r).take k) := by
    intro m r
    induction r generalizing m with
    | nil => intro _ _ _; exact .inl rfl
    | cons c r ih =>
      intro hm hml hr
      have hc := hr c (List.mem_cons_self ..)
      simp only [shortR]
      by_cases h9 : m.length = 9 ∧ 1 < c
      · rw [if_pos h9]; exact .inl rfl
      · rw [if_neg h9]
        by_cases h128 : 128 ≤ c
        · rw [if_pos h128]
          have := ih (m ++ [c]) (hm.snoc ⟨h128, hc.2⟩) (by simp; omega) (fun x hx => hr x (List.mem_cons_of_mem _ hx))
          rw [valL_snoc] at this
          simpa using this
        · rw [if_neg h128]
          by_cases hz : c = 0 ∧ 0 < m.length
          · rw [if_pos hz]; exact .inl rfl
          · rw [if_neg hz]
            right
            have hb := val_bd m c hml hc.1 h9
            have h0 := (valL_lt (m ++ [c])).1
            rw [valL_snoc] at hb h0
            refine ⟨m.length + 1, by omega, by omega, by simp, rfl, h0, hb, ?_⟩
            show longS (valL m + c % 128 * 2 ^ (7 * m.length)) = _
            rw [← valL_snoc, longS_of _ ((canon_snoc hm ⟨hc.1, by omega⟩).2 hz) (by simp; omega)]
            rw [show m ++ c :: r = (m ++ [c]) ++ r by simp, List.take_append_of_le_length (by simp), List.take_of_length_le (by simp)]
  have := key [] xs (fun x h => by cases h) (by simp) hx
  simpa [valL, shortS] using this
theorem longS_dropLast (n : Int) (h0 : 0 ≤ n) (h1 : n ≤ 18446744073709551615) : Many ((longS n).dropLast) := by
  obtain ⟨m, c, e, hm, _⟩ := canon_form (longS_canon n h0 h1).1
  rw [e]; simpa using hm
end Go.Proofs.NumShort
