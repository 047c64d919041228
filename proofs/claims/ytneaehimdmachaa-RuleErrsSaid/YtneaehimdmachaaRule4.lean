import Derived.Test.YtneaehimdmachaaRule3
import Derived.Test.YtneaehimdmachaaMoneyA
import Derived.Test.YtneaehimdmachaaSs
/- What is looked up. -/
namespace Go.Proofs.Ytneaehimdmachaa.Rule
open Go.ChangeShapes Go.WideShapes Go.ChangeAt Go.RowKit Go.IntWalk Go.Proofs.Mem
set_option linter.unusedVariables false
set_option maxRecDepth 100000 in
set_option maxHeartbeats 4000000 in
theorem look_miss (w : World) (g : Nat) (q : Ot) (A : Option Addr) (l c : Nat) (i : Nat) (p : Value) (hb : WorkAt w g q (.slice A l c) i p) (hi : l ≤ i) (hm : i ≤ 1000000) (k a b : Int) :
    Calls Try.prog 51 #[.pointer (some ⟨g, 7, none⟩), .agg #[.int .u8 k, .int .u32 a, .int .u32 b]] w fun e w' => e = .panicked (raiseK k a b) ∧ Below w.heap.size w w' := by
  have hlt := hb.lt
  obtain ⟨c0, c1, c2, c3, c4, c5, c6, c7, c8, c9⟩ := wc_of hb
  have d1 : decide ((l : Int) ≤ (i : Int)) = true := decide_eq_true (by omega)
  clear hb c0 c1 c2 c3 c4 c5 c6 c9
  go_enter Try.func51, Try.ntmps51
  go_wp2
  go_quiet (fail)
  go_wp2
  exact ⟨rfl, rfl, below_drewN (new_ (new_ (Below.refl _ _) _) _) _⟩
/-- a thing that was looked up -/
def thing (a b k x y : Int) (q : Bool) : Array Value := #[.int .u64 a, .int .u64 b, .int .u8 k, .int .u32 x, .int .u32 y, .bool q]
set_option maxRecDepth 100000 in
set_option maxHeartbeats 4000000 in
theorem look_hit (w : World) (g : Nat) (q : Ot) (b0 o0 : Nat) (l c : Nat) (i : Nat) (p : Value) (hb : WorkAt w g q (.slice (some ⟨b0, o0, none⟩) l c) i p) (hi : i < l) (hl : l ≤ c) (hm : c ≤ 9223372036854775807) (k a b : Int)
    (k' a' b' A B : Int) (is : Bool) (hbg : b0 ≠ g) (h0 : w.cell? ⟨b0, o0 + i * 6, none⟩ = some (.int .u8 k')) (h1 : w.cell? ⟨b0, o0 + i * 6 + 1, none⟩ = some (.int .u32 a')) (h2 : w.cell? ⟨b0, o0 + i * 6 + 2, none⟩ = some (.int .u32 b'))
    (h3 : w.cell? ⟨b0, o0 + i * 6 + 3, none⟩ = some (.int .u64 A)) (h4 : w.cell? ⟨b0, o0 + i * 6 + 4, none⟩ = some (.int .u64 B)) (h5 : w.cell? ⟨b0, o0 + i * 6 + 5, none⟩ = some (.bool is)) :
    Calls Try.prog 51 #[.pointer (some ⟨g, 7, none⟩), .agg #[.int .u8 k, .int .u32 a, .int .u32 b]] w fun e w' => e = .returned (.agg (thing (if is then A else 0) (if is then B else 0) k a b is)) ∧ WorkAt w' g q (.slice (some ⟨b0, o0, none⟩) l c) (i + 1 : Nat) p ∧ Fr (fun x => x = g) w w' := by
  have hlt := hb.lt
  have HB := Lib.hid hb
  obtain ⟨c0, c1, c2, c3, c4, c5, c6, c7, c8, c9⟩ := wc_of hb
  have f8 := hb.frozen 8
  have d1 : decide ((l : Int) ≤ (i : Int)) = false := decide_eq_false (by omega)
  have hbl := Law.lt_of_cell h0
  have t1 : (0 : Int) ≤ (i : Int) := by omega
  have t2 : (i : Int) < (l : Int) := by omega
  clear hb c0 c1 c2 c3 c4 c5 c6 c9
  cases is
  · go_enter Try.func51, Try.ntmps51
    go_wp2
    go_quiet (fail)
    go_wp2
    obtain ⟨W2, hW2⟩ : ∃ W2, ((w.alloc (.cells #[.int .u8 k, .int .u32 a, .int .u32 b] 24)).alloc (.cells #[.int .u64 0, .int .u64 0, .int .u8 0, .int .u32 0, .int .u32 0, .bool false] 69)).drewN nq = W2 := ⟨_, rfl⟩
    have HW := Lib.hid (show Below w.heap.size w W2 by rw [← hW2]; exact below_drewN (new_ (new_ (Below.refl _ _) _) _) _)
    have hz2 : W2.heap.size = w.heap.size + 2 := by rw [← hW2]; simp
    have kb : Box W2 w.heap.size #[.int .u8 k, .int .u32 a, .int .u32 b] 24 := by rw [← hW2]; exact ((Box.new _ _ _).alloc _).drewN _
    have tb : Box W2 (w.heap.size + 1) #[.int .u64 0, .int .u64 0, .int .u8 0, .int .u32 0, .int .u32 0, .bool false] 69 := by
      rw [← hW2]
      have := Box.new (w.alloc (.cells #[.int .u8 k, .int .u32 a, .int .u32 b] 24)) #[.int .u64 0, .int .u64 0, .int .u8 0, .int .u32 0, .int .u32 0, .bool false] 69
      rw [World.size_alloc] at this
      exact this.drewN _
    have wb : WorkAt W2 g q (.slice (some ⟨b0, o0, none⟩) l c) i p := HB.out.below HW.out hlt
    have c7' := (HW.out.cell (p := ⟨g, 7, none⟩) (by exact hlt)).trans c7
    have c8' := (HW.out.cell (p := ⟨g, 8, none⟩) (by exact hlt)).trans c8
    have h0' := (HW.out.cell (p := ⟨b0, o0 + i * 6, none⟩) (by exact hbl)).trans h0
    have h1' := (HW.out.cell (p := ⟨b0, o0 + i * 6 + 1, none⟩) (by exact hbl)).trans h1
    have h2' := (HW.out.cell (p := ⟨b0, o0 + i * 6 + 2, none⟩) (by exact hbl)).trans h2
    have h3' := (HW.out.cell (p := ⟨b0, o0 + i * 6 + 3, none⟩) (by exact hbl)).trans h3
    have h4' := (HW.out.cell (p := ⟨b0, o0 + i * 6 + 4, none⟩) (by exact hbl)).trans h4
    have h5' := (HW.out.cell (p := ⟨b0, o0 + i * 6 + 5, none⟩) (by exact hbl)).trans h5
    have f8' := wb.frozen 8
    have nc7 := (World.cell?_alloc_lt W2 (.cells #[.int .u8 0, .int .u32 0, .int .u32 0, .int .u64 0, .int .u64 0, .bool false] 49) _ (by show g < W2.heap.size; skip; omega)).trans c7'
    have nc8 := (World.cell?_alloc_lt W2 (.cells #[.int .u8 0, .int .u32 0, .int .u32 0, .int .u64 0, .int .u64 0, .bool false] 49) _ (by show g < W2.heap.size; skip; omega)).trans c8'
    have nh0 := (World.cell?_alloc_lt W2 (.cells #[.int .u8 0, .int .u32 0, .int .u32 0, .int .u64 0, .int .u64 0, .bool false] 49) _ (by show b0 < W2.heap.size; have : b0 < w.heap.size := hbl; omega)).trans h0'
    have nh1 := (World.cell?_alloc_lt W2 (.cells #[.int .u8 0, .int .u32 0, .int .u32 0, .int .u64 0, .int .u64 0, .bool false] 49) _ (by show b0 < W2.heap.size; have : b0 < w.heap.size := hbl; omega)).trans h1'
    have nh2 := (World.cell?_alloc_lt W2 (.cells #[.int .u8 0, .int .u32 0, .int .u32 0, .int .u64 0, .int .u64 0, .bool false] 49) _ (by show b0 < W2.heap.size; have : b0 < w.heap.size := hbl; omega)).trans h2'
    have nh3 := (World.cell?_alloc_lt W2 (.cells #[.int .u8 0, .int .u32 0, .int .u32 0, .int .u64 0, .int .u64 0, .bool false] 49) _ (by show b0 < W2.heap.size; have : b0 < w.heap.size := hbl; omega)).trans h3'
    have nh4 := (World.cell?_alloc_lt W2 (.cells #[.int .u8 0, .int .u32 0, .int .u32 0, .int .u64 0, .int .u64 0, .bool false] 49) _ (by show b0 < W2.heap.size; have : b0 < w.heap.size := hbl; omega)).trans h4'
    have nh5 := (World.cell?_alloc_lt W2 (.cells #[.int .u8 0, .int .u32 0, .int .u32 0, .int .u64 0, .int .u64 0, .bool false] 49) _ (by show b0 < W2.heap.size; have : b0 < w.heap.size := hbl; omega)).trans h5'
    rw [hW2]
    have WB := Lib.hid wb
    have KB := Lib.hid kb
    have TB := Lib.hid tb
    have HZ := Lib.hid hz2
    clear hW2 wb kb tb c7 c8 h0 h1 h2 h3 h4 h5 f8 hz2
    go_region
    all_goals
      obtain ⟨W3, hW3⟩ : ∃ W3, (W2.alloc (.cells #[.int .u8 k', .int .u32 a', .int .u32 b', .int .u64 A, .int .u64 B, .bool false] 49)).drew = W3 := ⟨_, rfl⟩
      have s3 : Below W2.heap.size W2 W3 := by rw [← hW3]; exact Below.drew (new_ (Below.refl _ _) _)
      have cb : Box W3 W2.heap.size #[.int .u8 k', .int .u32 a', .int .u32 b', .int .u64 A, .int .u64 B, .bool false] 49 := by rw [← hW3]; exact (Box.new _ _ _).drew
      have wb3 := WB.out.later s3
      have kb3 := KB.out.later s3
      have tb3 := TB.out.later s3
      have u8 := wb3.cell 8
      have g8 := wb3.frozen 8
      have kk0 := kb3.cell 0
      have kk1 := kb3.cell 1
      have kk2 := kb3.cell 2
      have e3 := cb.cell 3
      have e4 := cb.cell 4
      have e5 := cb.cell 5
      have q0 := tb3.cell 0
      have r0 := tb3.frozen 0
      have q1 := tb3.cell 1
      have r1 := tb3.frozen 1
      have q2 := tb3.cell 2
      have r2 := tb3.frozen 2
      have q3 := tb3.cell 3
      have r3 := tb3.frozen 3
      have q4 := tb3.cell 4
      have r4 := tb3.frozen 4
      have q5 := tb3.cell 5
      have r5 := tb3.frozen 5
      have hz3 : g < w.heap.size ∧ w.heap.size + 2 = W2.heap.size := ⟨hlt, HZ.out.symm⟩
      simp only [wk, List.getElem?_toArray, List.getElem?_cons_zero, List.getElem?_cons_succ] at u8 kk0 kk1 kk2 e3 e4 e5 q0 q1 q2 q3 q4 q5
      have WB3 := Lib.hid wb3
      have TB3 := Lib.hid tb3
      have HW3 := Lib.hid (HW.out.trans (s3.mono HW.out.size))
      have ng1 : ¬ g = w.heap.size := by omega
      have ng2 : ¬ g = w.heap.size + 1 := by omega
      have ng3 : ¬ g = W2.heap.size := by omega
      have ng4 : ¬ W2.heap.size = g := by omega
      have ng5 : ¬ w.heap.size = g := by omega
      have ng6 : ¬ w.heap.size + 1 = g := by omega
      rw [hW3]
      clear hW3 s3 cb wb3 kb3 tb3 hz3
      go_wp2
      generalize hW : (World.setCell _ (⟨w.heap.size + 1, 5, none⟩ : Addr) _) = W9
      have hf : Fr (fun x => x = g ∨ x = w.heap.size + 1) W3 W9 := by
        rw [← hW]
        exact ((((((((Fr.refl _ W3).setCell (p := ⟨g, 8, none⟩) (.inl (.inl rfl)) _).setCell (p := ⟨w.heap.size + 1, 0, none⟩) (.inl (.inr rfl)) _).setCell (p := ⟨w.heap.size + 1, 1, none⟩) (.inl (.inr rfl)) _).setCell (p := ⟨w.heap.size + 1, 2, none⟩) (.inl (.inr rfl)) _).setCell (p := ⟨w.heap.size + 1, 3, none⟩) (.inl (.inr rfl)) _).setCell (p := ⟨w.heap.size + 1, 4, none⟩) (.inl (.inr rfl)) _).setCell (p := ⟨w.heap.size + 1, 5, none⟩) (.inl (.inr rfl)) _)
      have wb9 : WorkAt W9 g q (.slice (some ⟨b0, o0, none⟩) l c) (i + 1 : Nat) p := by
        rw [← hW]
        exact (((((((WB3.out.set_ 8 _).far (p := ⟨w.heap.size + 1, 0, none⟩) (by show g ≠ w.heap.size + 1; omega) _).far (p := ⟨w.heap.size + 1, 1, none⟩) (by show g ≠ w.heap.size + 1; omega) _).far (p := ⟨w.heap.size + 1, 2, none⟩) (by show g ≠ w.heap.size + 1; omega) _).far (p := ⟨w.heap.size + 1, 3, none⟩) (by show g ≠ w.heap.size + 1; omega) _).far (p := ⟨w.heap.size + 1, 4, none⟩) (by show g ≠ w.heap.size + 1; omega) _).far (p := ⟨w.heap.size + 1, 5, none⟩) (by show g ≠ w.heap.size + 1; omega) _)
      have tb9 : Box W9 (w.heap.size + 1) #[.int .u64 0, .int .u64 0, .int .u8 k, .int .u32 a, .int .u32 b, .bool false] 69 := by
        rw [← hW]
        exact (((((((TB3.out.far (p := ⟨g, 8, none⟩) (by show w.heap.size + 1 ≠ g; omega) _).set_ 0 _).set_ 1 _).set_ 2 _).set_ 3 _).set_ 4 _).set_ 5 _)
      have v0 := tb9.cell 0
      have v1 := tb9.cell 1
      have v2 := tb9.cell 2
      have v3 := tb9.cell 3
      have v4 := tb9.cell 4
      have v5 := tb9.cell 5
      simp only [List.getElem?_toArray, List.getElem?_cons_zero, List.getElem?_cons_succ] at v0 v1 v2 v3 v4 v5
      clear hW
      refine bodyPost_ret (v := .agg #[.int .u64 0, .int .u64 0, .int .u8 k, .int .u32 a, .int .u32 b, .bool false]) (by simp [results, Try.results51, go_sem, v0, v1, v2, v3, v4, v5]; try rfl) rfl ?_
      exact ⟨rfl, wb9, ((Fr.of_below HW3.out).trans' hf (fun x hx h => by rcases h with h | h <;> first | exact h | (exfalso; omega)))⟩
  · go_enter Try.func51, Try.ntmps51
    go_wp2
    go_quiet (fail)
    go_wp2
    obtain ⟨W2, hW2⟩ : ∃ W2, ((w.alloc (.cells #[.int .u8 k, .int .u32 a, .int .u32 b] 24)).alloc (.cells #[.int .u64 0, .int .u64 0, .int .u8 0, .int .u32 0, .int .u32 0, .bool false] 69)).drewN nq = W2 := ⟨_, rfl⟩
    have HW := Lib.hid (show Below w.heap.size w W2 by rw [← hW2]; exact below_drewN (new_ (new_ (Below.refl _ _) _) _) _)
    have hz2 : W2.heap.size = w.heap.size + 2 := by rw [← hW2]; simp
    have kb : Box W2 w.heap.size #[.int .u8 k, .int .u32 a, .int .u32 b] 24 := by rw [← hW2]; exact ((Box.new _ _ _).alloc _).drewN _
    have tb : Box W2 (w.heap.size + 1) #[.int .u64 0, .int .u64 0, .int .u8 0, .int .u32 0, .int .u32 0, .bool false] 69 := by
      rw [← hW2]
      have := Box.new (w.alloc (.cells #[.int .u8 k, .int .u32 a, .int .u32 b] 24)) #[.int .u64 0, .int .u64 0, .int .u8 0, .int .u32 0, .int .u32 0, .bool false] 69
      rw [World.size_alloc] at this
      exact this.drewN _
    have wb : WorkAt W2 g q (.slice (some ⟨b0, o0, none⟩) l c) i p := HB.out.below HW.out hlt
    have c7' := (HW.out.cell (p := ⟨g, 7, none⟩) (by exact hlt)).trans c7
    have c8' := (HW.out.cell (p := ⟨g, 8, none⟩) (by exact hlt)).trans c8
    have h0' := (HW.out.cell (p := ⟨b0, o0 + i * 6, none⟩) (by exact hbl)).trans h0
    have h1' := (HW.out.cell (p := ⟨b0, o0 + i * 6 + 1, none⟩) (by exact hbl)).trans h1
    have h2' := (HW.out.cell (p := ⟨b0, o0 + i * 6 + 2, none⟩) (by exact hbl)).trans h2
    have h3' := (HW.out.cell (p := ⟨b0, o0 + i * 6 + 3, none⟩) (by exact hbl)).trans h3
    have h4' := (HW.out.cell (p := ⟨b0, o0 + i * 6 + 4, none⟩) (by exact hbl)).trans h4
    have h5' := (HW.out.cell (p := ⟨b0, o0 + i * 6 + 5, none⟩) (by exact hbl)).trans h5
    have f8' := wb.frozen 8
    have nc7 := (World.cell?_alloc_lt W2 (.cells #[.int .u8 0, .int .u32 0, .int .u32 0, .int .u64 0, .int .u64 0, .bool false] 49) _ (by show g < W2.heap.size; skip; omega)).trans c7'
    have nc8 := (World.cell?_alloc_lt W2 (.cells #[.int .u8 0, .int .u32 0, .int .u32 0, .int .u64 0, .int .u64 0, .bool false] 49) _ (by show g < W2.heap.size; skip; omega)).trans c8'
    have nh0 := (World.cell?_alloc_lt W2 (.cells #[.int .u8 0, .int .u32 0, .int .u32 0, .int .u64 0, .int .u64 0, .bool false] 49) _ (by show b0 < W2.heap.size; have : b0 < w.heap.size := hbl; omega)).trans h0'
    have nh1 := (World.cell?_alloc_lt W2 (.cells #[.int .u8 0, .int .u32 0, .int .u32 0, .int .u64 0, .int .u64 0, .bool false] 49) _ (by show b0 < W2.heap.size; have : b0 < w.heap.size := hbl; omega)).trans h1'
    have nh2 := (World.cell?_alloc_lt W2 (.cells #[.int .u8 0, .int .u32 0, .int .u32 0, .int .u64 0, .int .u64 0, .bool false] 49) _ (by show b0 < W2.heap.size; have : b0 < w.heap.size := hbl; omega)).trans h2'
    have nh3 := (World.cell?_alloc_lt W2 (.cells #[.int .u8 0, .int .u32 0, .int .u32 0, .int .u64 0, .int .u64 0, .bool false] 49) _ (by show b0 < W2.heap.size; have : b0 < w.heap.size := hbl; omega)).trans h3'
    have nh4 := (World.cell?_alloc_lt W2 (.cells #[.int .u8 0, .int .u32 0, .int .u32 0, .int .u64 0, .int .u64 0, .bool false] 49) _ (by show b0 < W2.heap.size; have : b0 < w.heap.size := hbl; omega)).trans h4'
    have nh5 := (World.cell?_alloc_lt W2 (.cells #[.int .u8 0, .int .u32 0, .int .u32 0, .int .u64 0, .int .u64 0, .bool false] 49) _ (by show b0 < W2.heap.size; have : b0 < w.heap.size := hbl; omega)).trans h5'
    rw [hW2]
    have WB := Lib.hid wb
    have KB := Lib.hid kb
    have TB := Lib.hid tb
    have HZ := Lib.hid hz2
    clear hW2 wb kb tb c7 c8 h0 h1 h2 h3 h4 h5 f8 hz2
    go_region
    all_goals
      obtain ⟨W3, hW3⟩ : ∃ W3, (W2.alloc (.cells #[.int .u8 k', .int .u32 a', .int .u32 b', .int .u64 A, .int .u64 B, .bool true] 49)).drew = W3 := ⟨_, rfl⟩
      have s3 : Below W2.heap.size W2 W3 := by rw [← hW3]; exact Below.drew (new_ (Below.refl _ _) _)
      have cb : Box W3 W2.heap.size #[.int .u8 k', .int .u32 a', .int .u32 b', .int .u64 A, .int .u64 B, .bool true] 49 := by rw [← hW3]; exact (Box.new _ _ _).drew
      have wb3 := WB.out.later s3
      have kb3 := KB.out.later s3
      have tb3 := TB.out.later s3
      have u8 := wb3.cell 8
      have g8 := wb3.frozen 8
      have kk0 := kb3.cell 0
      have kk1 := kb3.cell 1
      have kk2 := kb3.cell 2
      have e3 := cb.cell 3
      have e4 := cb.cell 4
      have e5 := cb.cell 5
      have q0 := tb3.cell 0
      have r0 := tb3.frozen 0
      have q1 := tb3.cell 1
      have r1 := tb3.frozen 1
      have q2 := tb3.cell 2
      have r2 := tb3.frozen 2
      have q3 := tb3.cell 3
      have r3 := tb3.frozen 3
      have q4 := tb3.cell 4
      have r4 := tb3.frozen 4
      have q5 := tb3.cell 5
      have r5 := tb3.frozen 5
      have hz3 : g < w.heap.size ∧ w.heap.size + 2 = W2.heap.size := ⟨hlt, HZ.out.symm⟩
      simp only [wk, List.getElem?_toArray, List.getElem?_cons_zero, List.getElem?_cons_succ] at u8 kk0 kk1 kk2 e3 e4 e5 q0 q1 q2 q3 q4 q5
      have WB3 := Lib.hid wb3
      have TB3 := Lib.hid tb3
      have HW3 := Lib.hid (HW.out.trans (s3.mono HW.out.size))
      have ng1 : ¬ g = w.heap.size := by omega
      have ng2 : ¬ g = w.heap.size + 1 := by omega
      have ng3 : ¬ g = W2.heap.size := by omega
      have ng4 : ¬ W2.heap.size = g := by omega
      have ng5 : ¬ w.heap.size = g := by omega
      have ng6 : ¬ w.heap.size + 1 = g := by omega
      rw [hW3]
      clear hW3 s3 cb wb3 kb3 tb3 hz3
      go_wp2
      generalize hW : (World.setCell _ (⟨w.heap.size + 1, 5, none⟩ : Addr) _) = W9
      have hf : Fr (fun x => x = g ∨ x = w.heap.size + 1) W3 W9 := by
        rw [← hW]
        exact ((((((((Fr.refl _ W3).setCell (p := ⟨g, 8, none⟩) (.inl (.inl rfl)) _).setCell (p := ⟨w.heap.size + 1, 0, none⟩) (.inl (.inr rfl)) _).setCell (p := ⟨w.heap.size + 1, 1, none⟩) (.inl (.inr rfl)) _).setCell (p := ⟨w.heap.size + 1, 2, none⟩) (.inl (.inr rfl)) _).setCell (p := ⟨w.heap.size + 1, 3, none⟩) (.inl (.inr rfl)) _).setCell (p := ⟨w.heap.size + 1, 4, none⟩) (.inl (.inr rfl)) _).setCell (p := ⟨w.heap.size + 1, 5, none⟩) (.inl (.inr rfl)) _)
      have wb9 : WorkAt W9 g q (.slice (some ⟨b0, o0, none⟩) l c) (i + 1 : Nat) p := by
        rw [← hW]
        exact (((((((WB3.out.set_ 8 _).far (p := ⟨w.heap.size + 1, 0, none⟩) (by show g ≠ w.heap.size + 1; omega) _).far (p := ⟨w.heap.size + 1, 1, none⟩) (by show g ≠ w.heap.size + 1; omega) _).far (p := ⟨w.heap.size + 1, 2, none⟩) (by show g ≠ w.heap.size + 1; omega) _).far (p := ⟨w.heap.size + 1, 3, none⟩) (by show g ≠ w.heap.size + 1; omega) _).far (p := ⟨w.heap.size + 1, 4, none⟩) (by show g ≠ w.heap.size + 1; omega) _).far (p := ⟨w.heap.size + 1, 5, none⟩) (by show g ≠ w.heap.size + 1; omega) _)
      have tb9 : Box W9 (w.heap.size + 1) #[.int .u64 A, .int .u64 B, .int .u8 k, .int .u32 a, .int .u32 b, .bool true] 69 := by
        rw [← hW]
        exact (((((((TB3.out.far (p := ⟨g, 8, none⟩) (by show w.heap.size + 1 ≠ g; omega) _).set_ 0 _).set_ 1 _).set_ 2 _).set_ 3 _).set_ 4 _).set_ 5 _)
      have v0 := tb9.cell 0
      have v1 := tb9.cell 1
      have v2 := tb9.cell 2
      have v3 := tb9.cell 3
      have v4 := tb9.cell 4
      have v5 := tb9.cell 5
      simp only [List.getElem?_toArray, List.getElem?_cons_zero, List.getElem?_cons_succ] at v0 v1 v2 v3 v4 v5
      clear hW
      refine bodyPost_ret (v := .agg #[.int .u64 A, .int .u64 B, .int .u8 k, .int .u32 a, .int .u32 b, .bool true]) (by simp [results, Try.results51, go_sem, v0, v1, v2, v3, v4, v5]; try rfl) rfl ?_
      exact ⟨rfl, wb9, ((Fr.of_below HW3.out).trans' hf (fun x hx h => by rcases h with h | h <;> first | exact h | (exfalso; omega)))⟩
end Go.Proofs.Ytneaehimdmachaa.Rule
