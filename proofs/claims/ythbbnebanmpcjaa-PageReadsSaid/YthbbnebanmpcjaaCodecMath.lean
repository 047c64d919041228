import Derived.Test.YthbbnebanmpcjaaPutGet
/- Requests and replies as bytes: lists alone. -/
namespace Go.Proofs.Ythbbnebanmpcjaa.Codec
open Go.ChangeShapes Go.WideShapes Go.ChangeAt Go.RowKit Go.IntWalk Go.Proofs.NumMath Go.Proofs.Mem NumBytes
set_option linter.unusedVariables false
theorem mod_mul (n a b : Int) (ha : 0 < a) : n % (a * b) = n % a + n / a % b * a := by
  rw [Int.emod_def, Int.emod_def n a, Int.emod_def (n / a) b, Int.ediv_ediv_of_nonneg (Int.le_of_lt ha), Int.sub_mul, Int.mul_comm (n / a) a, Int.mul_assoc a b, Int.mul_comm (b * _) a]
  omega
theorem getTo_put (n : Int) (k : Nat) : ∀ j, j ≤ k → getTo (putS n k) j = n % 2 ^ (8 * j) := by
  intro j
  induction j with
  | zero => intro _; simp [getTo, Int.emod_one]
  | succ j ih =>
    intro hj
    have hg : (putS n k).getD j 0 = n / 2 ^ (8 * j) % 256 := by simp [putS, List.getD, show j < k by omega]
    show getTo (putS n k) j + (putS n k).getD j 0 * 2 ^ (8 * j) = _
    rw [ih (by omega), hg]
    have e : (2 : Int) ^ (8 * (j + 1)) = 2 ^ (8 * j) * 256 := by rw [show 8 * (j + 1) = 8 * j + 8 by omega, p2_add]; rfl
    rw [e, mod_mul _ _ _ (p2 _)]
theorem get_put (n : Int) (k : Nat) (hk : k ≤ 8) : getS (putS n k) = n % 2 ^ (8 * k) := by
  unfold getS
  rw [putS_len, Nat.min_eq_left hk, getTo_put n k k (Nat.le_refl _)]
theorem getTo_digit (xs : List Int) (hx : Bytes xs) (j : Nat) : ∀ m, j < m → getTo xs m / 2 ^ (8 * j) % 256 = xs.getD j 0 := by
  intro m
  induction m with
  | zero => intro h; omega
  | succ m ih =>
    intro h
    have hb := hx.at_ m
    show (getTo xs m + xs.getD m 0 * 2 ^ (8 * m)) / 2 ^ (8 * j) % 256 = _
    by_cases hm : j = m
    · subst hm
      have hl := getTo_lt xs hx j
      rw [Int.add_mul_ediv_right _ _ (by have := p2 (8 * j); omega), Int.ediv_eq_zero_of_lt hl.1 hl.2]
      omega
    · have e : (2 : Int) ^ (8 * m) = 2 ^ (8 * (m - j - 1)) * 256 * 2 ^ (8 * j) := by
        rw [show (256 : Int) = 2 ^ 8 from by decide, ← p2_add, ← p2_add]; congr 1; omega
      rw [e, ← Int.mul_assoc, Int.add_mul_ediv_right _ _ (by have := p2 (8 * j); omega), ← Int.mul_assoc, Int.add_mul_emod_self_right]
      exact ih (by omega)
theorem put_get (xs : List Int) (hx : Bytes xs) (hl : xs.length ≤ 8) : putS (getS xs) xs.length = xs := by
  apply List.ext_getElem
  · rw [putS_len]
  · intro i h1 h2
    have := getTo_digit xs hx i xs.length h2
    have eg : getS xs = getTo xs xs.length := by unfold getS; rw [Nat.min_eq_left hl]
    simp only [putS, List.getElem_map, List.getElem_range, eg, this]
    simp [List.getD, List.getElem?_eq_getElem h2]
theorem get_bd (xs : List Int) (hx : Bytes xs) : 0 ≤ getS xs ∧ getS xs < 2 ^ (8 * xs.length) := by
  unfold getS
  have h1 := getTo_lt xs hx (min xs.length 8)
  refine ⟨h1.1, Int.lt_of_lt_of_le h1.2 (p2_le (by omega))⟩
/-- the number of k bytes from a place on -/
def at_ (xs : List Int) (a k : Nat) : Int := getS ((xs.drop a).take k)
theorem at_bd (xs : List Int) (hx : Bytes xs) (a k : Nat) : 0 ≤ at_ xs a k ∧ at_ xs a k < 2 ^ (8 * k) := by
  have h := get_bd ((xs.drop a).take k) (fun x hm => hx x (List.mem_of_mem_drop (List.mem_of_mem_take hm)))
  refine ⟨h.1, Int.lt_of_lt_of_le h.2 (p2_le (by rw [List.length_take]; omega))⟩
theorem b1 (xs : List Int) (hx : Bytes xs) (a : Nat) : 0 ≤ at_ xs a 1 ∧ at_ xs a 1 ≤ 255 := by
  have := at_bd xs hx a 1; rw [show (2 : Int) ^ (8 * 1) = 256 from by decide] at this; omega
theorem b2 (xs : List Int) (hx : Bytes xs) (a : Nat) : 0 ≤ at_ xs a 2 ∧ at_ xs a 2 ≤ 65535 := by
  have := at_bd xs hx a 2; rw [show (2 : Int) ^ (8 * 2) = 65536 from by decide] at this; omega
theorem b4 (xs : List Int) (hx : Bytes xs) (a : Nat) : 0 ≤ at_ xs a 4 ∧ at_ xs a 4 ≤ 4294967295 := by
  have := at_bd xs hx a 4; rw [show (2 : Int) ^ (8 * 4) = 4294967296 from by decide] at this; omega
theorem b8 (xs : List Int) (hx : Bytes xs) (a : Nat) : 0 ≤ at_ xs a 8 ∧ at_ xs a 8 ≤ 18446744073709551615 := by
  have := at_bd xs hx a 8; rw [show (2 : Int) ^ (8 * 8) = 18446744073709551616 from by decide] at this; omega
structure Rq where
  kind : Int
  n : Int
  k : Int
  who : Int
  whom : Int
  what : Int
  id : Int
  am : Int
  price : Int
structure Rq.Ok (r : Rq) : Prop where
  kind : 0 ≤ r.kind ∧ r.kind ≤ 255
  n : 0 ≤ r.n ∧ r.n ≤ 4294967295
  k : 0 ≤ r.k ∧ r.k ≤ 255
  who : 0 ≤ r.who ∧ r.who ≤ 4294967295
  whom : 0 ≤ r.whom ∧ r.whom ≤ 4294967295
  what : 0 ≤ r.what ∧ r.what ≤ 4294967295
  id : 0 ≤ r.id ∧ r.id ≤ 4294967295
  am : 0 ≤ r.am ∧ r.am ≤ 18446744073709551615
  price : 0 ≤ r.price ∧ r.price ≤ 18446744073709551615
def cellsQ (r : Rq) : Array Value := #[.int .u8 r.kind, .int .u32 r.n, .int .u8 r.k, .int .u32 r.who, .int .u32 r.whom, .int .u32 r.what, .int .u32 r.id, .int .u64 r.am, .int .u64 r.price]
def askB (r : Rq) : List Int := putS r.kind 1 ++ (putS r.n 4 ++ (putS r.k 1 ++ (putS r.who 4 ++ (putS r.whom 4 ++ (putS r.what 4 ++ (putS r.id 4 ++ (putS r.am 8 ++ putS r.price 8)))))))
def zeroQ : Rq := ⟨0, 0, 0, 0, 0, 0, 0, 0, 0⟩
def ofB (xs : List Int) : Rq := ⟨at_ xs 0 1, at_ xs 1 4, at_ xs 5 1, at_ xs 6 4, at_ xs 10 4, at_ xs 14 4, at_ xs 18 4, at_ xs 22 8, at_ xs 30 8⟩
theorem ofB_ok (xs : List Int) (hx : Bytes xs) : (ofB xs).Ok := ⟨b1 _ hx _, b4 _ hx _, b1 _ hx _, b4 _ hx _, b4 _ hx _, b4 _ hx _, b4 _ hx _, b8 _ hx _, b8 _ hx _⟩
theorem zeroQ_ok : zeroQ.Ok := by constructor <;> (unfold zeroQ; decide)
theorem askB_len (r : Rq) : (askB r).length = 38 := by simp [askB, putS_len]
theorem askB_bytes (r : Rq) : Bytes (askB r) := by
  unfold askB
  repeat' (first | exact putS_bytes _ _ | refine Bytes.app ?_ ?_)
theorem at_zero (n : Int) (k : Nat) (hk : k ≤ 8) (h0 : 0 ≤ n) (h1 : n < 2 ^ (8 * k)) (ys : List Int) : at_ (putS n k ++ ys) 0 k = n := by
  unfold at_
  rw [List.drop_zero, List.take_append_of_le_length (by rw [putS_len]; omega), List.take_of_length_le (by rw [putS_len]; omega), get_put n k hk, Int.emod_eq_of_lt h0 h1]
theorem at_past (n : Int) (k : Nat) (ys : List Int) (a j : Nat) (h : k ≤ a) : at_ (putS n k ++ ys) a j = at_ ys (a - k) j := by
  unfold at_
  rw [List.drop_append, List.drop_eq_nil_of_le (by rw [putS_len]; exact h), List.nil_append, putS_len]
theorem at_all (n : Int) (k : Nat) (hk : k ≤ 8) (h0 : 0 ≤ n) (h1 : n < 2 ^ (8 * k)) : at_ (putS n k) 0 k = n := by
  have := at_zero n k hk h0 h1 []
  rwa [List.append_nil] at this
theorem of_ask (r : Rq) (h : r.Ok) : ofB (askB r) = r := by
  obtain ⟨h1, h2, h3, h4, h5, h6, h7, h8, h9⟩ := h
  have e1 : (2 : Int) ^ (8 * 1) = 256 := by decide
  have e4 : (2 : Int) ^ (8 * 4) = 4294967296 := by decide
  have e8 : (2 : Int) ^ (8 * 8) = 18446744073709551616 := by decide
  cases r
  dsimp only at *
  unfold ofB askB
  dsimp only
  simp (config := { decide := true }) only [at_past]
  simp only [Nat.reduceSub, Nat.sub_self]
  rw [at_zero _ 1 (by decide) h1.1 (by omega), at_zero _ 4 (by decide) h2.1 (by omega), at_zero _ 1 (by decide) h3.1 (by omega), at_zero _ 4 (by decide) h4.1 (by omega),
    at_zero _ 4 (by decide) h5.1 (by omega), at_zero _ 4 (by decide) h6.1 (by omega), at_zero _ 4 (by decide) h7.1 (by omega), at_zero _ 8 (by decide) h8.1 (by omega), at_all _ 8 (by decide) h9.1 (by omega)]
theorem put_at (xs : List Int) (hx : Bytes xs) (a k : Nat) (hk : k ≤ 8) (h : a + k ≤ xs.length) : putS (at_ xs a k) k = (xs.drop a).take k := by
  have hl : ((xs.drop a).take k).length = k := by rw [List.length_take, List.length_drop]; omega
  have := put_get ((xs.drop a).take k) (fun x hm => hx x (List.mem_of_mem_drop (List.mem_of_mem_take hm))) (by omega)
  rw [hl] at this
  exact this
theorem join (xs : List Int) (a k : Nat) : (xs.drop a).take k ++ xs.drop (a + k) = xs.drop a := by
  rw [← List.drop_drop]; exact List.take_append_drop k (xs.drop a)
theorem ask_of (xs : List Int) (hx : Bytes xs) (hl : xs.length = 38) : askB (ofB xs) = xs := by
  unfold askB ofB
  dsimp only
  rw [put_at xs hx 0 1 (by decide) (by omega), put_at xs hx 1 4 (by decide) (by omega), put_at xs hx 5 1 (by decide) (by omega), put_at xs hx 6 4 (by decide) (by omega), put_at xs hx 10 4 (by decide) (by omega),
    put_at xs hx 14 4 (by decide) (by omega), put_at xs hx 18 4 (by decide) (by omega), put_at xs hx 22 8 (by decide) (by omega), put_at xs hx 30 8 (by decide) (by omega)]
  rw [show (xs.drop 30).take 8 = xs.drop 30 from List.take_of_length_le (by rw [List.length_drop]; omega)]
  rw [join xs 22 8, join xs 18 4, join xs 14 4, join xs 10 4, join xs 6 4, join xs 5 1, join xs 1 4, join xs 0 1, List.drop_zero]
/-- may there be such a request? -/
def mayB (r : Rq) : Bool := decide (1 ≤ r.kind ∧ r.kind ≤ 6) && (decide (r.kind = 4) || decide (r.n = 0)) && (decide (r.kind = 2) || decide (r.k = 0 ∧ r.who = 0 ∧ r.whom = 0 ∧ r.what = 0 ∧ r.id = 0 ∧ r.am = 0 ∧ r.price = 0))
def askedQ (xs : List Int) : Rq := if xs.length = 38 ∧ mayB (ofB xs) = true then ofB xs else zeroQ
def askedE (xs : List Int) : Int := if xs.length = 38 ∧ mayB (ofB xs) = true then 0 else 230
structure Rp where
  err : Int
  a : Int
  b : Int
  c : Int
structure Rp.Ok (r : Rp) : Prop where
  err : 0 ≤ r.err ∧ r.err ≤ 65535
  a : 0 ≤ r.a ∧ r.a ≤ 18446744073709551615
  b : 0 ≤ r.b ∧ r.b ≤ 18446744073709551615
  c : 0 ≤ r.c ∧ r.c ≤ 18446744073709551615
def cellsP (r : Rp) : Array Value := #[.int .u16 r.err, .int .u64 r.a, .int .u64 r.b, .int .u64 r.c]
def tellB (r : Rp) : List Int := putS r.err 2 ++ (putS r.a 8 ++ (putS r.b 8 ++ putS r.c 8))
def zeroP : Rp := ⟨0, 0, 0, 0⟩
def ofP (xs : List Int) : Rp := ⟨at_ xs 0 2, at_ xs 2 8, at_ xs 10 8, at_ xs 18 8⟩
theorem ofP_ok (xs : List Int) (hx : Bytes xs) : (ofP xs).Ok := ⟨b2 _ hx _, b8 _ hx _, b8 _ hx _, b8 _ hx _⟩
theorem tellB_len (r : Rp) : (tellB r).length = 26 := by simp [tellB, putS_len]
theorem tellB_bytes (r : Rp) : Bytes (tellB r) := by
  unfold tellB
  repeat' (first | exact putS_bytes _ _ | refine Bytes.app ?_ ?_)
theorem of_tell (r : Rp) (h : r.Ok) : ofP (tellB r) = r := by
  obtain ⟨h1, h2, h3, h4⟩ := h
  have e2 : (2 : Int) ^ (8 * 2) = 65536 := by decide
  have e8 : (2 : Int) ^ (8 * 8) = 18446744073709551616 := by decide
  cases r
  dsimp only at *
  unfold ofP tellB
  dsimp only
  simp (config := { decide := true }) only [at_past]
  simp only [Nat.reduceSub, Nat.sub_self]
  rw [at_zero _ 2 (by decide) h1.1 (by omega), at_zero _ 8 (by decide) h2.1 (by omega), at_zero _ 8 (by decide) h3.1 (by omega), at_all _ 8 (by decide) h4.1 (by omega)]
def toldP (xs : List Int) : Rp := if xs.length = 26 then ofP xs else zeroP
def toldE (xs : List Int) : Int := if xs.length = 26 then 0 else 230
end Go.Proofs.Ythbbnebanmpcjaa.Codec
