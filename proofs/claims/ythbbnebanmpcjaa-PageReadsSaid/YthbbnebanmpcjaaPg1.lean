import Derived.Test.YthbbnebanmpcjaaPutGet
import Derived.Test.YthbbnebanmpcjaaBox
import Derived.Deep.DeepCutAuto
import Derived.BigQuiet
import Derived.Deep.QuietTactic
import Derived.Handy
/- A page's block; its numbers. -/
namespace Go.Proofs.Ythbbnebanmpcjaa.Pg
open Go.ChangeShapes Go.WideShapes Go.ChangeAt Go.RowKit Go.IntWalk Go.Proofs.Mem
set_option linter.unusedVariables false
set_option linter.unusedSimpArgs false
def pgC (xs : List Int) : Array Value := (xs.map (.int .u8)).toArray
/-- block b is a page that holds the bytes xs -/
structure PgAt (w : World) (b : Nat) (xs : List Int) : Prop where
  box : Box w b (pgC xs) 64
  len : xs.length = 448
  byt : Bytes xs
section
variable {w w' : World} {b : Nat} {xs : List Int}
theorem PgAt.later (h : PgAt w b xs) (hb : Below w.heap.size w w') : PgAt w' b xs := ⟨h.box.later hb, h.len, h.byt⟩
theorem PgAt.cell (h : PgAt w b xs) (i : Nat) (hi : i < 448) : w.cell? ⟨b, i, none⟩ = some (.int .u8 (xs.getD i 0)) := by
  rw [h.box.cell]
  unfold pgC
  have : i < xs.length := by rw [h.len]; exact hi
  simp [List.getD, List.getElem?_eq_getElem this]
theorem PgAt.ir (h : PgAt w b xs) (a n : Nat) (hn : a + n ≤ 448) : IR w w.heap.size .u8 (.slice (some ⟨b, a, none⟩) n (448 - a)) ((xs.drop a).take n) := by
  have hl : ((xs.drop a).take n).length = n := by rw [List.length_take, List.length_drop, h.len]; omega
  refine ⟨_, _, by rw [hl], by rw [hl]; omega, by unfold maxLen; omega, (fun e => by cases e), fun i hi => ⟨b, a, rfl, h.box.lt, ?_⟩⟩
  rw [hl] at hi
  rw [h.cell (a + i) (by omega)]
  rw [List.getD_eq_getElem?_getD, List.getD_eq_getElem?_getD, List.getElem?_take, if_pos hi, List.getElem?_drop]
theorem bytes_seg (h : Bytes xs) (a n : Nat) : Bytes ((xs.drop a).take n) := fun x hx => h x (List.mem_of_mem_drop (List.mem_of_mem_take hx))
end
/-- the number of n bytes at a -/
def gt (xs : List Int) (a n : Nat) : Int := NumBytes.getS ((xs.drop a).take n)
theorem gt_bound {xs : List Int} (h : Bytes xs) (a n : Nat) (hn : n ≤ 8) (hl : a + n ≤ xs.length) : 0 ≤ gt xs a n ∧ gt xs a n < 2 ^ (8 * n) := by
  have hb := bytes_seg h a n
  have hlen : ((xs.drop a).take n).length = n := by rw [List.length_take, List.length_drop]; omega
  unfold gt NumBytes.getS
  rw [hlen, Nat.min_eq_left hn]
  exact NumBytes.getTo_lt _ hb n
theorem get_at (w : World) (b : Nat) (xs : List Int) (h : PgAt w b xs) (A N : Int) (a n : Nat) (hA : A = a) (hN : N = n) (hn : a + n ≤ 448) (hn0 : 0 < n) :
    Calls Try.prog 42 #[.pointer (some ⟨b, 0, none⟩), .int .i64 A, .int .i64 N] w fun e w' => e = .returned (.int .u64 (gt xs a n)) ∧ w = w' := by
  subst hA hN
  have GA := Lib.hid (NumBytes.get_any _ _ w w.heap.size (h.ir a n hn) (bytes_seg h.byt a n))
  have wa : wrap64 ((a : Int) + n) = (a : Int) + n := wrap64_in _ (by omega)
  have h1 : (0 : Int) ≤ a := by omega
  have h2 : (a : Int) ≤ (a : Int) + n := by omega
  have h3 : (a : Int) + n ≤ 448 := by omega
  have e1 : ((a : Int) + n) - a = n := by omega
  have h4 : ¬ 448 - a = 0 := by omega
  have h5 : a < 448 := by omega
  have h6 : ¬ 448 ≤ a := by omega
  clear h hn hn0
  go_enter Try.func42, Try.ntmps42
  go_wp2_with fail
  (with_reducible refine GA.out.mono ?_)
  rintro e w1 ⟨rfl, rfl⟩
  go_wp2
  go_ret
  exact ⟨rfl, rfl⟩
/-- a page's numbers -/
def cnt (xs : List Int) : Nat := (gt xs 12 2).toNat
def low (xs : List Int) : Nat := (gt xs 14 2).toNat
def off (xs : List Int) (s : Nat) : Nat := (gt xs (16 + 4 * s) 2).toNat
def lenR (xs : List Int) (s : Nat) : Nat := (gt xs (18 + 4 * s) 2).toNat
theorem two_b {xs : List Int} (h : Bytes xs) (a : Nat) (hl : a + 2 ≤ xs.length) : 0 ≤ gt xs a 2 ∧ gt xs a 2 < 65536 := by
  have := gt_bound h a 2 (by decide) hl
  simpa using this
theorem count_any (w : World) (b : Nat) (xs : List Int) (h : PgAt w b xs) :
    Calls Try.prog 43 #[.pointer (some ⟨b, 0, none⟩)] w fun e w' => e = .returned (.int .i64 (cnt xs)) ∧ w = w' := by
  have GA := Lib.hid (get_at w b xs h 12 2 12 2 rfl rfl (by decide) (by decide))
  have hb := two_b h.byt 12 (by rw [h.len]; decide)
  have e : (cnt xs : Int) = gt xs 12 2 := by unfold cnt; omega
  rw [e]
  obtain ⟨G, hG⟩ : ∃ G, G = gt xs 12 2 := ⟨_, rfl⟩
  rw [← hG] at GA hb ⊢
  have wg : IntKind.i64.wrap G = G := IntWalk.i64_in _ (by omega)
  clear h e hG
  go_enter Try.func43, Try.ntmps43
  go_wp2_with fail
  (with_reducible refine GA.out.mono ?_)
  rintro e w1 ⟨rfl, rfl⟩
  go_wp2
  go_ret
  exact ⟨rfl, rfl⟩
theorem low_any (w : World) (b : Nat) (xs : List Int) (h : PgAt w b xs) :
    Calls Try.prog 49 #[.pointer (some ⟨b, 0, none⟩)] w fun e w' => e = .returned (.int .i64 (low xs)) ∧ w = w' := by
  have GA := Lib.hid (get_at w b xs h 14 2 14 2 rfl rfl (by decide) (by decide))
  have hb := two_b h.byt 14 (by rw [h.len]; decide)
  have e : (low xs : Int) = gt xs 14 2 := by unfold low; omega
  rw [e]
  obtain ⟨G, hG⟩ : ∃ G, G = gt xs 14 2 := ⟨_, rfl⟩
  rw [← hG] at GA hb ⊢
  have wg : IntKind.i64.wrap G = G := IntWalk.i64_in _ (by omega)
  clear h e hG
  go_enter Try.func49, Try.ntmps49
  go_wp2_with fail
  (with_reducible refine GA.out.mono ?_)
  rintro e w1 ⟨rfl, rfl⟩
  go_wp2
  go_ret
  exact ⟨rfl, rfl⟩
theorem lsn_any (w : World) (b : Nat) (xs : List Int) (h : PgAt w b xs) :
    Calls Try.prog 20 #[.pointer (some ⟨b, 0, none⟩)] w fun e w' => e = .returned (.int .u64 (gt xs 0 8)) ∧ w = w' := by
  have GA := Lib.hid (get_at w b xs h 0 8 0 8 rfl rfl (by decide) (by decide))
  clear h
  go_enter Try.func20, Try.ntmps20
  go_wp2_with fail
  (with_reducible refine GA.out.mono ?_)
  rintro e w1 ⟨rfl, rfl⟩
  go_wp2
  go_ret
  exact ⟨rfl, rfl⟩
theorem number_any (w : World) (b : Nat) (xs : List Int) (h : PgAt w b xs) :
    Calls Try.prog 21 #[.pointer (some ⟨b, 0, none⟩)] w fun e w' => e = .returned (.int .u32 (gt xs 8 4)) ∧ w = w' := by
  have GA := Lib.hid (get_at w b xs h 8 4 8 4 rfl rfl (by decide) (by decide))
  have hb := gt_bound h.byt 8 4 (by decide) (by rw [h.len]; decide)
  obtain ⟨G, hG⟩ : ∃ G, G = gt xs 8 4 := ⟨_, rfl⟩
  rw [← hG] at GA hb ⊢
  have wg : IntKind.u32.wrap G = G := by rw [IntKind.wrap_u32]; simp at hb; omega
  clear h hG
  go_enter Try.func21, Try.ntmps21
  go_wp2_with fail
  (with_reducible refine GA.out.mono ?_)
  rintro e w1 ⟨rfl, rfl⟩
  go_wp2
  go_ret
  exact ⟨rfl, rfl⟩
theorem listEnd_any (w : World) (n : Nat) (hn : n ≤ 100000) (N : Int) (hN : N = n) :
    Calls Try.prog 46 #[.int .i64 N] w fun e w' => e = .returned (.int .i64 ((16 + 4 * n : Nat) : Int)) ∧ w = w' := by
  subst hN
  have w1 : wrap64 (4 * (n : Int)) = 4 * (n : Int) := wrap64_in _ (by omega)
  have w2 : wrap64 (16 + 4 * (n : Int)) = 16 + 4 * (n : Int) := wrap64_in _ (by omega)
  go_enter Try.func46, Try.ntmps46
  go_wp2
  go_ret
  exact ⟨by simp, rfl⟩
/-- what length tells -/
def len (xs : List Int) (s : Nat) : Nat := if s < cnt xs then lenR xs s else 0
theorem offset_any (w : World) (b : Nat) (xs : List Int) (h : PgAt w b xs) (s : Nat) (hs : s < 108) (N : Int) (hN : N = s) :
    Calls Try.prog 59 #[.pointer (some ⟨b, 0, none⟩), .int .i64 N] w fun e w' => e = .returned (.int .i64 (off xs s)) ∧ w = w' := by
  subst hN
  have LE := Lib.hid (listEnd_any w s (by omega) (s : Int) rfl)
  have GA := Lib.hid (get_at w b xs h ((16 + 4 * s : Nat) : Int) 2 (16 + 4 * s) 2 rfl rfl (by omega) (by decide))
  have hb := two_b h.byt (16 + 4 * s) (by rw [h.len]; omega)
  have e : (off xs s : Int) = gt xs (16 + 4 * s) 2 := by unfold off; omega
  rw [e]
  obtain ⟨G, hG⟩ : ∃ G, G = gt xs (16 + 4 * s) 2 := ⟨_, rfl⟩
  rw [← hG] at GA hb ⊢
  have wg : IntKind.i64.wrap G = G := IntWalk.i64_in _ (by omega)
  obtain ⟨E, hE⟩ : ∃ E : Int, E = ((16 + 4 * s : Nat) : Int) := ⟨_, rfl⟩
  rw [← hE] at GA LE
  clear h e hG hE
  go_enter Try.func59, Try.ntmps59
  go_wp2_with fail
  (with_reducible refine LE.out.mono ?_)
  rintro e w1 ⟨rfl, rfl⟩
  go_wp2_with fail
  (with_reducible refine GA.out.mono ?_)
  rintro e w1 ⟨rfl, rfl⟩
  go_wp2
  go_ret
  exact ⟨rfl, rfl⟩
theorem length_any (w : World) (b : Nat) (xs : List Int) (h : PgAt w b xs) (s : Nat) (hs : s < 107) (N : Int) (hN : N = s) :
    Calls Try.prog 44 #[.pointer (some ⟨b, 0, none⟩), .int .i64 N] w fun e w' => e = .returned (.int .i64 (len xs s)) ∧ w = w' := by
  have CA := Lib.hid (count_any w b xs h)
  subst hN
  have LE := Lib.hid (listEnd_any w s (by omega) (s : Int) rfl)
  have d0 : decide ((s : Int) < 0) = false := by simp
  have GA := Lib.hid (get_at w b xs h (((16 + 4 * s : Nat) : Int) + 2) 2 (18 + 4 * s) 2 (by omega) rfl (by omega) (by decide))
  have hb := two_b h.byt (18 + 4 * s) (by rw [h.len]; omega)
  have e : (lenR xs s : Int) = gt xs (18 + 4 * s) 2 := by unfold lenR; omega
  have we : wrap64 (((16 + 4 * s : Nat) : Int) + 2) = ((16 + 4 * s : Nat) : Int) + 2 := wrap64_in _ (by omega)
  obtain ⟨C, hC⟩ : ∃ C, C = cnt xs := ⟨_, rfl⟩
  rw [← hC] at CA
  obtain ⟨E, hE⟩ : ∃ E : Int, E = ((16 + 4 * s : Nat) : Int) := ⟨_, rfl⟩
  rw [← hE] at GA LE we
  obtain ⟨G, hG⟩ : ∃ G, G = gt xs (18 + 4 * s) 2 := ⟨_, rfl⟩
  rw [← hG] at GA hb e
  have wg : IntKind.i64.wrap G = G := IntWalk.i64_in _ (by omega)
  by_cases hl : s < C
  · have dc : decide ((C : Int) ≤ (s : Int)) = false := by simp; omega
    have hcs : ¬ (C : Int) ≤ (s : Int) := by omega
    have el : (len xs s : Int) = G := by unfold len; rw [if_pos (by rw [← hC]; exact hl)]; exact e
    rw [el]
    clear h e hG hE hC el hl
    go_enter Try.func44, Try.ntmps44
    go_wp2_with fail
    (with_reducible refine CA.out.mono ?_)
    rintro e w1 ⟨rfl, rfl⟩
    go_wp2_with fail
    (with_reducible refine LE.out.mono ?_)
    rintro e w1 ⟨rfl, rfl⟩
    go_wp2_with fail
    (with_reducible refine GA.out.mono ?_)
    rintro e w1 ⟨rfl, rfl⟩
    go_wp2
    go_ret
    exact ⟨rfl, rfl⟩
  · have dc : decide ((C : Int) ≤ (s : Int)) = true := by simp; omega
    have hcs : (C : Int) ≤ (s : Int) := by omega
    have el : len xs s = 0 := by unfold len; rw [if_neg (by rw [← hC]; exact hl)]
    rw [el]
    clear h e hG hE hC el hl
    go_enter Try.func44, Try.ntmps44
    go_wp2_with fail
    (with_reducible refine CA.out.mono ?_)
    rintro e w1 ⟨rfl, rfl⟩
    go_wp2
    go_ret
    exact ⟨rfl, rfl⟩
theorem length_no (w : World) (b : Nat) (xs : List Int) (h : PgAt w b xs) (N : Int) (hN : N < 0 ∨ (cnt xs : Int) ≤ N) :
    Calls Try.prog 44 #[.pointer (some ⟨b, 0, none⟩), .int .i64 N] w fun e w' => e = .returned (.int .i64 0) ∧ w = w' := by
  have CA := Lib.hid (count_any w b xs h)
  by_cases h0 : N < 0
  · have d0 : decide (N < 0) = true := decide_eq_true h0
    clear h hN CA
    go_enter Try.func44, Try.ntmps44
    go_wp2
    go_ret
    exact ⟨rfl, rfl⟩
  · have d0 : decide (N < 0) = false := decide_eq_false h0
    have hc : (cnt xs : Int) ≤ N := by omega
    obtain ⟨C, hC⟩ : ∃ C, C = cnt xs := ⟨_, rfl⟩
    rw [← hC] at CA hc
    have dc : decide ((C : Int) ≤ N) = true := decide_eq_true hc
    clear h hN hC
    go_enter Try.func44, Try.ntmps44
    go_wp2_with fail
    (with_reducible refine CA.out.mono ?_)
    rintro e w1 ⟨rfl, rfl⟩
    go_wp2
    go_ret
    exact ⟨rfl, rfl⟩
end Go.Proofs.Ythbbnebanmpcjaa.Pg
