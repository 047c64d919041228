import Derived.Test.YtimnhanjlldhoaaClk2
import Derived.OwnWalk
/- A frame is taken; a clock is made. -/
namespace Go.Proofs.Ytimnhanjlldhoaa.Clk
open Go.ChangeShapes Go.WideShapes Go.ChangeAt Go.RowKit Go.IntWalk Go.Proofs.Mem Go.Proofs.Clk
set_option linter.unusedVariables false
theorem cF_app : ∀ a b : List Fm, cF (a ++ b) = cF a ++ cF b
  | [], b => rfl
  | f :: a, b => by show _ :: _ :: _ :: cF (a ++ b) = _; rw [cF_app a b]; rfl
theorem made_cF (n : Nat) : (madeCells (Value.agg #[.bool false, .bool false, .int .i64 0]).cells (n * 3)).toList = cF (List.replicate n z3) := by
  have key : ∀ n : Nat, (List.range (n * 3)).map (fun k => (#[Value.bool false, .bool false, .int .i64 0] : Array Value)[k % 3]!) = cF (List.replicate n z3) := by
    intro n
    induction n with
    | zero => rfl
    | succ n ih =>
      rw [show (n + 1) * 3 = n * 3 + 1 + 1 + 1 by omega, List.range_succ, List.range_succ, List.range_succ]
      simp only [List.map_append, ih]
      rw [List.replicate_succ', cF_app]
      simp only [List.map_cons, List.map_nil, List.append_assoc, List.cons_append, List.nil_append]
      rw [show n * 3 % 3 = 0 by omega, show (n * 3 + 1) % 3 = 1 by omega, show (n * 3 + 1 + 1) % 3 = 2 by omega]
      rfl
  rw [← key n]
  simp [madeCells, Value.cells]
theorem frame_info : (Try.prog.info? 48).map (fun i => (i.zero, i.size, i.bytes)) = some (some (.agg #[.bool false, .bool false, .int .i64 0]), 3, 16) := by kernel_rfl
theorem own_box {w : World} {base g n : Nat} {e : TypeId} {size : Nat} {xs : List Value} (h : w.ownsRow base e size (.slice (some ⟨g, 0, none⟩) n n) n xs) : Box w g xs.toArray e := by
  rcases h.2 with ⟨h0, _⟩ | ⟨g', cap, cur, e1, _, hg, _, _, hs, ht⟩
  · cases h0
  · injection e1 with e1 _ e3
    injection e1 with e1
    injection e1 with e1
    subst e1; subst e3
    unfold Box
    rw [hg]
    have : cur.toList = xs := by rw [← ht, List.take_of_length_le (by simp [hs])]
    rw [← this]
set_option maxHeartbeats 4000000 in
theorem take_any (w : World) (g gf h : Nat) (l : List Fm) (c : CK w g gf l h) (hl : l.length ≤ 64) (i : Int) :
    Calls Try.prog 16 #[.pointer (some ⟨g, 0, none⟩), .int .i64 i] w (Did w g gf h (takeM l i)) := by
  have c0 : w.cell? ⟨g, 0, none⟩ = some (.slice (some ⟨gf, 0, none⟩) l.length l.length) := c.top.cell 0
  have C := Lib.hid c
  by_cases hi : 0 ≤ i ∧ i < l.length
  · obtain ⟨j, rfl⟩ := Int.eq_ofNat_of_zero_le hi.1
    have hj : j < l.length := by omega
    obtain ⟨k0, k1, k2⟩ := c.cells hj
    have z0 := c.fs.frozen (j * 3)
    have z1 := c.fs.frozen (j * 3 + 1)
    have z2 := c.fs.frozen (j * 3 + 2)
    have ef := fr_in hj
    unfold takeM
    rw [ef, show inR l j = true by unfold inR; exact decide_eq_true (by omega)]
    have en : ((j : Int)).toNat = j := by simp
    rw [en]
    have HA := Lib.hid (c.all hj ⟨true, true, 0⟩)
    generalize l.getD j z3 = f at *
    obtain ⟨ft, fu, fp⟩ := f
    dsimp only at *
    have d1 : decide ((j : Int) < 0) = false := decide_eq_false (by omega)
    have d2 : decide ((l.length : Int) ≤ (j : Int)) = false := decide_eq_false (by omega)
    have d2' : decide (l.length ≤ j) = false := decide_eq_false (by omega)
    have d3 : decide ((j : Int) < (l.length : Int)) = true := decide_eq_true (by omega)
    have d3' : decide (j < l.length) = true := decide_eq_true (by omega)
    clear c ef en
    cases ft
    · go_enter Try.func16, Try.ntmps16
      go_wp2
      go_ret
      exact ⟨rfl, HA.out, (((Fr.refl _ _).setCell (.inl (.inr rfl)) _).setCell (.inl (.inr rfl)) _).setCell (.inl (.inr rfl)) _⟩
    · go_enter Try.func16, Try.ntmps16
      go_wp2
      go_ret
      exact ⟨rfl, C.out, Fr.refl _ _⟩
  · unfold takeM
    rw [show inR l i = false by unfold inR; exact decide_eq_false hi]
    clear c
    by_cases h0 : i < 0
    · have d1 : decide (i < 0) = true := decide_eq_true h0
      go_enter Try.func16, Try.ntmps16
      go_wp2
      go_ret
      exact ⟨rfl, C.out, Fr.refl _ _⟩
    · have d1 : decide (i < 0) = false := decide_eq_false h0
      have d2 : decide ((l.length : Int) ≤ i) = true := decide_eq_true (by omega)
      go_enter Try.func16, Try.ntmps16
      go_wp2
      go_ret
      exact ⟨rfl, C.out, Fr.refl _ _⟩
theorem new_not (w : World) (n : Int) (hn : ¬ (1 ≤ n ∧ n ≤ 64)) : Calls Try.prog 8 #[.int .i64 n] w fun e w' => e = .returned (.pointer none) ∧ w = w' := by
  by_cases h0 : n < 1
  · have d1 : decide (n < 1) = true := decide_eq_true h0
    go_enter Try.func8, Try.ntmps8
    go_wp2
    go_ret
    exact ⟨rfl, rfl⟩
  · have d1 : decide (n < 1) = false := decide_eq_false h0
    have d2 : decide (64 < n) = true := decide_eq_true (by omega)
    go_enter Try.func8, Try.ntmps8
    go_wp2
    go_ret
    exact ⟨rfl, rfl⟩
set_option maxHeartbeats 4000000 in
theorem new_is (w : World) (n : Nat) (hn : 1 ≤ n ∧ n ≤ 64) : Calls Try.prog 8 #[.int .i64 n] w fun e w' =>
    ∃ g gf, e = .returned (.pointer (some ⟨g, 0, none⟩)) ∧ CK w' g gf (List.replicate n z3) 0 ∧ w.heap.size ≤ g ∧ w.heap.size ≤ gf ∧ Below w.heap.size w w' := by
  obtain ⟨i0, hi0, hz0, hz1, hz2⟩ := info_parts frame_info
  have d1 : decide ((n : Int) < 1) = false := decide_eq_false (by omega)
  have d1' : decide (n < 1) = false := decide_eq_false (by omega)
  have d2 : decide (64 < (n : Int)) = false := decide_eq_false (by omega)
  have d2' : decide (64 < n) = false := decide_eq_false (by omega)
  go_enter Try.func8, Try.ntmps8
  go_wp2_with (refine wpList_make_full _ rfl (.tmp 9) (.tmp 9) _ rfl w.heap.size 48 i0 _ 3 Try.underlying40 hi0 hz0 hz1 .i64 .i64 n n n rfl rfl rfl rfl (by rw [hz2]; omega) (by simp only [maxLen]; omega) (Nat.le_refl _) ?_; intro w1 hown1 hg1)
  go_ret
  have hb := own_box hown1
  rw [made_cF] at hb
  have hb1 := grown_below hg1
  have hlt := hb.lt
  refine ⟨w1.heap.size, w.heap.size, rfl, ⟨by omega, ?_, hb.alloc _⟩, hb1.size, Nat.le_refl _, new_ hb1 _⟩
  rw [List.length_replicate]
  exact Box.new w1 _ _
end Go.Proofs.Ytimnhanjlldhoaa.Clk
