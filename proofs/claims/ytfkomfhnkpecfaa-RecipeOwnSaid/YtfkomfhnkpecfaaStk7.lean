import Derived.Test.YtfkomfhnkpecfaaStk6
/- Recipes: so many times. -/
namespace Go.Proofs.Ytfkomfhnkpecfaa.Stk
open Go.ChangeShapes Go.WideShapes Go.ChangeAt Go.RowKit Go.IntWalk Go.Proofs.Mem Go.Proofs.Stk
set_option linter.unusedVariables false
/-- what Needs tells -/
def errN (id n : Int) : Int := if isS id = false then 40 else if n < 1 ∨ 1000 < n then 1 else 0
def inN (id n : Int) : List Pr := if errN id n = 0 then times n (lineS id).1 else []
def outN (id n : Int) : List Pr := if errN id n = 0 then times n (lineS id).2 else []
set_option maxRecDepth 100000 in
set_option maxHeartbeats 4000000 in
theorem needs_bad (id n : Int) (h : isS id = true) (hr : n < 1 ∨ 1000 < n) (w : World) : Calls Try.prog 9 #[.int .u32 id, .int .u64 n] w (RdPost [] [] (.int .u16 1) w) := by
  have HO := Lib.hid (fun W => of_some id h W)
  clear h
  by_cases h1 : n < 1
  · have hd : decide (n < 1) = true := decide_eq_true h1
    clear hr
    go_enter Try.func9, Try.ntmps9
    go_wp2_with fail
    (with_reducible refine (HO.out _).mono ?_)
    rintro e w1 ⟨g1, g2, rfl, hne, hg1, hg2, k1, k2, hb1⟩
    unfold rv
    have zg : w.heap.size < w1.heap.size := by have := hb1.size; simp at this; omega
    obtain ⟨c0, c1, f0, f1, z3⟩ := two_kept (w := w) (by simpa using hb1)
    have hbw : Below w.heap.size w w1 := ((Below.refl _ _).alloc (Nat.le_refl _) _).trans (hb1.mono (by simp))
    clear hb1 k1 k2 hg1 hg2 hne
    go_wp2
    refine bodyPost_ret (v := .tuple #[.agg #[.slice none 0 0, .slice none 0 0], .int .u16 1]) (by simp [results, Try.results9, go_sem, c0, c1, zg]; try rfl) rfl ?_
    exact ⟨_, rfl, Rd.none _, ((hbw.setCell (Nat.le_refl _) _).setCell (Nat.le_refl _) _).alloc (by have := hbw.size; simpa [World.setCell] using this) _⟩
  · have hd : decide (n < 1) = false := decide_eq_false h1
    have hd2 : decide (1000 < n) = true := by simp; omega
    clear hr
    go_enter Try.func9, Try.ntmps9
    go_wp2_with fail
    (with_reducible refine (HO.out _).mono ?_)
    rintro e w1 ⟨g1, g2, rfl, hne, hg1, hg2, k1, k2, hb1⟩
    unfold rv
    have zg : w.heap.size < w1.heap.size := by have := hb1.size; simp at this; omega
    obtain ⟨c0, c1, f0, f1, z3⟩ := two_kept (w := w) (by simpa using hb1)
    have hbw : Below w.heap.size w w1 := ((Below.refl _ _).alloc (Nat.le_refl _) _).trans (hb1.mono (by simp))
    clear hb1 k1 k2 hg1 hg2 hne
    go_wp2
    refine bodyPost_ret (v := .tuple #[.agg #[.slice none 0 0, .slice none 0 0], .int .u16 1]) (by simp [results, Try.results9, go_sem, c0, c1, zg]; try rfl) rfl ?_
    exact ⟨_, rfl, Rd.none _, ((hbw.setCell (Nat.le_refl _) _).setCell (Nat.le_refl _) _).alloc (by have := hbw.size; simpa [World.setCell] using this) _⟩
set_option maxRecDepth 100000 in
set_option maxHeartbeats 4000000 in
theorem needs_none (id n : Int) (h : isS id = false) (w : World) : Calls Try.prog 9 #[.int .u32 id, .int .u64 n] w (RdPost [] [] (.int .u16 40) w) := by
  have HO := Lib.hid (fun W => of_none id h W)
  clear h
  go_enter Try.func9, Try.ntmps9
  go_wp2_with fail
  (with_reducible refine (HO.out _).mono ?_)
  rintro e w1 ⟨rfl, hb1⟩
  have zg : w.heap.size < w1.heap.size := by have := hb1.size; simp at this; omega
  obtain ⟨c0, c1, f0, f1, z3⟩ := two_kept (w := w) (by simpa using hb1)
  have hbw : Below w.heap.size w w1 := ((Below.refl _ _).alloc (Nat.le_refl _) _).trans (hb1.mono (by simp))
  clear hb1
  go_wp2
  refine bodyPost_ret (v := .tuple #[.agg #[.slice none 0 0, .slice none 0 0], .int .u16 40]) (by simp [results, Try.results9, go_sem, c0, c1, zg]; try rfl) rfl ?_
  exact ⟨_, rfl, Rd.none _, ((hbw.setCell (Nat.le_refl _) _).setCell (Nat.le_refl _) _).alloc (by have := hbw.size; simpa [World.setCell] using this) _⟩
theorem two_of {P : Nat → Prop} (h0 : P 0) (h1 : P 1) : ∀ i, i < 2 → P i := by
  intro i hi
  match i, hi with
  | 0, _ => exact h0
  | 1, _ => exact h1
set_option maxRecDepth 100000 in
set_option maxHeartbeats 4000000 in
theorem needs_some (id n : Int) (h : isS id = true) (h1 : 1 ≤ n) (h2 : n ≤ 1000) (w : World) :
    Calls Try.prog 9 #[.int .u32 id, .int .u64 n] w (RdPost (times n (lineS id).1) (times n (lineS id).2) (.int .u16 0) w) := by
  obtain ⟨s1, s2⟩ := lineS_small id
  have ho := fun W => of_some id h W
  generalize (lineS id).1 = l1 at *
  generalize (lineS id).2 = l2 at *
  have HO := Lib.hid ho
  clear h ho
  have hd : decide (n < 1) = false := by simp; omega
  have hd2 : decide (1000 < n) = false := by simp; omega
  go_enter Try.func9, Try.ntmps9
  go_wp2_with fail
  (with_reducible refine (HO.out _).mono ?_)
  rintro e w1 ⟨g1, g2, rfl, hne, hg1, hg2, k1, k2, hb1⟩
  unfold rv
  have zg : w.heap.size < w1.heap.size := by have := hb1.size; simp at this; omega
  obtain ⟨c0, c1, f0, f1, z3⟩ := two_kept (w := w) (by simpa using hb1)
  have hbw : Below w.heap.size w w1 := ((Below.refl _ _).alloc (Nat.le_refl _) _).trans (hb1.mono (by simp))
  have y1 := k1.lt
  have y2 := k2.lt
  simp at hg1 hg2
  have HN := Lib.hid hne
  have K1 := Lib.hid k1
  have K2 := Lib.hid k2
  clear hb1 hne k1 k2
  go_wp2_with fail
  (with_reducible refine (multiply_any n ⟨by omega, h2⟩ (fun i => if i = 0 then g1 else g2) (fun i => if i = 0 then l1 else l2) (w1.heap.size + 1) _ ?a1 ?a2 ?a3 ?a4 ?a5 ?a6).mono ?_)
  case a1 => intro i k hi hk hik; have := HN.out; (try dsimp only); split <;> split <;> first | exact this | exact Ne.symm this | omega
  case a2 => intro i hi; (try dsimp only); split <;> omega
  case a3 => simp
  case a4 => intro i hi; (try dsimp only); split <;> assumption
  case a5 =>
    intro i hi
    rcases (show i = 0 ∨ i = 1 by omega) with rfl | rfl <;> simp
  case a6 => intro i hi; (try dsimp only); split <;> first | exact (K1.out.alloc _).alloc _ | exact (K2.out.alloc _).alloc _
  rintro e w4 ⟨rfl, hko, hfr⟩
  have q1 := hko 0 (by omega)
  have q2 := hko 1 (by omega)
  rw [if_pos rfl, if_pos rfl] at q1
  rw [if_neg (by omega), if_neg (by omega)] at q2
  have hne0 : ∀ k, k = w.heap.size ∨ k = w1.heap.size → ¬ ∃ i, i < 2 ∧ k = (if i = 0 then g1 else g2) := by
    rintro k hk ⟨i, hi, e⟩
    split at e <;> omega
  have r0 := hfr.cell (p := ⟨w1.heap.size, 0, none⟩) (by simp; omega) (hne0 _ (.inr rfl))
  have r1 := hfr.cell (p := ⟨w1.heap.size, 1, none⟩) (by simp; omega) (hne0 _ (.inr rfl))
  have o0 := hfr.cell (p := ⟨w.heap.size, 0, none⟩) (by simp; omega) (hne0 _ (.inl rfl))
  have o1 := hfr.cell (p := ⟨w.heap.size, 1, none⟩) (by simp; omega) (hne0 _ (.inl rfl))
  have fr0 : w4.frozen? ⟨w.heap.size, 0, none⟩ = false := by
    have := hfr.block w.heap.size (by simp; omega) (hne0 _ (.inl rfl))
    rw [show w4.frozen? ⟨w.heap.size, 0, none⟩ = _ from World.frozen?_of_block this]
    simpa [go_sem, zg] using f0
  have fr1 : w4.frozen? ⟨w.heap.size, 1, none⟩ = false := by
    have := hfr.block w.heap.size (by simp; omega) (hne0 _ (.inl rfl))
    rw [show w4.frozen? ⟨w.heap.size, 1, none⟩ = _ from World.frozen?_of_block this]
    simpa [go_sem, zg] using f1
  simp [go_sem, zg, c0, c1] at r0 r1 o0 o1
  have z4 := hfr.size
  simp at z4
  have hbel : Below w.heap.size w w4 := ((hbw.alloc hbw.size _).alloc (by simp; omega) _).trans (hfr.to_below (by rintro k ⟨i, hi, e⟩; split at e <;> omega) (by simp; omega))
  clear hne0 hfr hko
  go_wp2
  refine bodyPost_ret (v := .tuple #[.agg #[.slice (some ⟨g1, 0, none⟩) l1.length l1.length, .slice (some ⟨g2, 0, none⟩) l2.length l2.length], .int .u16 0]) (by simp [results, Try.results9, go_sem, o0, o1]; try rfl) rfl ?_
  have e1 := ((q1.far (p := ⟨w.heap.size, 0, none⟩) (by simp; omega) (.slice (some ⟨g1, 0, none⟩) l1.length l1.length)).far (p := ⟨w.heap.size, 1, none⟩) (by simp; omega) (.slice (some ⟨g2, 0, none⟩) l2.length l2.length)).reads (by rw [times_len]; have := s1.1; omega)
  have e2 := ((q2.far (p := ⟨w.heap.size, 0, none⟩) (by simp; omega) (.slice (some ⟨g1, 0, none⟩) l1.length l1.length)).far (p := ⟨w.heap.size, 1, none⟩) (by simp; omega) (.slice (some ⟨g2, 0, none⟩) l2.length l2.length)).reads (by rw [times_len]; have := s2.1; omega)
  exact ⟨_, rfl, ⟨_, _, _, _, by rw [times_len, times_len], e1, e2⟩, (hbel.setCell (Nat.le_refl _) _).setCell (Nat.le_refl _) _⟩
theorem needs_any (id n : Int) (hn : 0 ≤ n ∧ n ≤ 18446744073709551615) (w : World) : Calls Try.prog 9 #[.int .u32 id, .int .u64 n] w (RdPost (inN id n) (outN id n) (.int .u16 (errN id n)) w) := by
  by_cases h : isS id = true
  · by_cases hr : n < 1 ∨ 1000 < n
    · have he : errN id n = 1 := by unfold errN; rw [h]; simp [hr]
      have := needs_bad id n h hr w
      rw [show inN id n = [] by unfold inN; rw [he]; rfl, show outN id n = [] by unfold outN; rw [he]; rfl, he]; exact this
    · have he : errN id n = 0 := by unfold errN; rw [h]; simp [hr]
      have := needs_some id n h (by omega) (by omega) w
      rw [show inN id n = times n (lineS id).1 by unfold inN; rw [he]; rfl, show outN id n = times n (lineS id).2 by unfold outN; rw [he]; rfl, he]; exact this
  · have h' : isS id = false := by simpa using h
    have he : errN id n = 40 := by unfold errN; rw [h']; rfl
    have := needs_none id n h' w
    rw [show inN id n = [] by unfold inN; rw [he]; rfl, show outN id n = [] by unfold outN; rw [he]; rfl, he]; exact this
end Go.Proofs.Ytfkomfhnkpecfaa.Stk
