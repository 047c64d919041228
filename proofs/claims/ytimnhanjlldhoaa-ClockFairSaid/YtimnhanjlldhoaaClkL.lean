import Derived.Test.YtimnhanjlldhoaaClkK
import Derived.Test.YtimnhanjlldhoaaClkMath3
/- What a pick says of the frames. -/
namespace Go.Proofs.Ytimnhanjlldhoaa.Clk
open Go.ChangeShapes Go.WideShapes Go.ChangeAt Go.RowKit Go.IntWalk Go.Proofs.Mem Go.Proofs.Clk
set_option linter.unusedVariables false
theorem free_t (f : Fm) : isFree f = !f.t := rfl
theorem PickR.pins {l : List Fm} {h : Nat} {r : Int × Bool × List Fm × Nat} (hr : PickR l h r) (hh : h < l.length) (x : Nat) : (r.2.2.1.getD x z3).p = (l.getD x z3).p ∧ (r.2.2.1.getD x z3).t = (l.getD x z3).t := by
  rcases hr with ⟨i, hi, a, b, rfl⟩ | ⟨nf, ⟨nl, rfl⟩ | ⟨a, k, y, l', h', hs, rfl⟩⟩
  · exact ⟨rfl, rfl⟩
  · exact ⟨rfl, rfl⟩
  · exact sw_same k l h _ hh hs x
theorem PickR.none_says {l : List Fm} {h : Nat} {r : Int × Bool × List Fm × Nat} (hr : PickR l h r) (e : r.2.1 = false) : r.1 = 0 ∧ r.2.2.1 = l ∧ ∀ i, i < l.length → ((l.getD i z3).p == 0) = false := by
  rcases hr with ⟨i, hi, a, b, rfl⟩ | ⟨nf, ⟨nl, rfl⟩ | ⟨a, k, y, l', h', hs, rfl⟩⟩
  · cases e
  · exact ⟨rfl, rfl, fun i hi => by have := nl i hi; unfold isLoose at this; simpa using this⟩
  · cases e
theorem PickR.some_says {l : List Fm} {h : Nat} {r : Int × Bool × List Fm × Nat} {B : Int} (hr : PickR l h r) (hh : h < l.length) (ho : Oks B l) (hB : 0 ≤ B) (e : r.2.1 = true) : ∃ x : Nat, r.1 = x ∧ x < l.length ∧ (r.2.2.1.getD x z3).p = 0 := by
  rcases hr with ⟨i, hi, a, b, rfl⟩ | ⟨nf, ⟨nl, rfl⟩ | ⟨a, k, y, l', h', hs, rfl⟩⟩
  · refine ⟨i, rfl, hi, ((ho.at_ hB i).free ?_).2⟩
    rw [free_t] at a
    simpa using a
  · cases e
  · obtain ⟨k1, k2, k3, k4⟩ := sw_keeps (B := B) k l h _ hh hs
    have k5 := sw_loose k l h _ hh hs
    have k6 := ((k4 ho hB).at_ hB y).lo
    exact ⟨y, rfl, k1, by dsimp only at *; omega⟩
theorem stays {l : List Fm} {h : Nat} {x : Int} {l1 : List Fm} {h1 : Nat} {B : Int} (hr : PickR l h (x, true, l1, h1)) (hh : h < l.length) (ho : Oks B l) (hB : 0 ≤ B) {r : Int × Bool × List Fm × Nat} (hr2 : PickR (leaveM (touchM l1 x).2 x).2 h1 r) :
    (touchM l1 x).1 = (leaveM (touchM l1 x).2 x).1 ∧ r.2.1 = true ∧ r.1 ≤ x := by
  rcases hr with ⟨i, hi, a, b, e⟩ | ⟨nf, ⟨nl, e⟩ | ⟨a, k, y, l', h', hs, e⟩⟩
  · injection e with e1 e2
    injection e2 with e2 e3
    injection e3 with e3 e4
    subst e1 e3 e4
    have ht : (fr l1 (i : Int)).t = false := by rw [fr_in hi]; rw [free_t] at a; simpa using a
    have h1 : touchM l1 (i : Int) = (false, l1) := by unfold touchM; rw [ht]; rfl
    have h2 : leaveM l1 (i : Int) = (false, l1) := by unfold leaveM; rw [ht]; rfl
    rw [h1] at hr2 ⊢
    dsimp only at hr2 ⊢
    rw [h2] at hr2 ⊢
    dsimp only at hr2
    have := hr2.free hi a b
    subst this
    exact ⟨rfl, rfl, Int.le_refl _⟩
  · injection e with e1 e2
    injection e2 with e2 e3
    cases e2
  · injection e with e1 e2
    injection e2 with e2 e3
    injection e3 with e3 e4
    subst e1 e3 e4
    obtain ⟨k1, k2, k3, k4⟩ := sw_keeps (B := B) k l h _ hh hs
    have k5 := sw_loose k l h _ hh hs
    have k6 := ((k4 ho hB).at_ hB y).lo
    have k7 := (sw_same k l h _ hh hs y).2
    dsimp only at k1 k2 k3 k4 k5 k6 k7
    have ht : (l1.getD y z3).t = true := by rw [k7]; have := nf y k1; rw [free_t] at this; simpa using this
    have hy : y < l1.length := by omega
    have hf : fr l1 (y : Int) = l1.getD y z3 := fr_in hy
    have e1 : touchM l1 (y : Int) = (true, l1.set y { l1.getD y z3 with u := true }) := by unfold touchM; rw [hf, ht]; simp
    rw [e1] at hr2 ⊢
    dsimp only at hr2 ⊢
    have hf2 : fr (l1.set y { l1.getD y z3 with u := true }) (y : Int) = { l1.getD y z3 with u := true } := by rw [fr_in (by rw [List.length_set]; exact hy), getD_set_eq _ _ _ hy, if_pos rfl]
    have e2 : leaveM (l1.set y { l1.getD y z3 with u := true }) (y : Int) = (true, l1.set y z3) := by
      have hp0 : (l1.getD y z3).p = 0 := by omega
      unfold leaveM; rw [hf2]; dsimp only; rw [ht, hp0]; simp
    rw [e2] at hr2 ⊢
    dsimp only at hr2 ⊢
    have hfree : isFree ((l1.set y z3).getD y z3) = true := by rw [getD_set_eq _ _ _ hy, if_pos rfl]; rfl
    rcases hr2 with ⟨i, hi, a2, b2, rfl⟩ | ⟨nf2, _⟩
    · refine ⟨rfl, rfl, ?_⟩
      show (i : Int) ≤ y
      by_cases hlt : y < i
      · rw [b2 y hlt] at hfree; cases hfree
      · omega
    · rw [nf2 y (by rw [List.length_set]; exact hy)] at hfree; cases hfree
theorem run_at (w : World) (a : Int) (N : Nat) (ha : a = (N : Int) - 1) (hN : 1 ≤ N ∧ N ≤ 64) (A : Option Addr) (c : Nat) (xl : List Cl) (hcm : c ≤ 9223372036854775807) (hlc : xl.length ≤ c) (hl : SS cCl 2 w w.heap.size (.slice A xl.length c) xl) (bl : ∀ o ∈ xl, o.Ok) (hlen : xl.length ≤ 200) :
    Calls Try.prog 13 #[.int .i64 a, .slice A xl.length c] w (RunP N xl.length w) := by
  have := run_any w a A c xl hcm hlc hl bl hlen (by omega)
  have e : many a = N := by unfold many; rw [if_pos (by omega)]; omega
  rwa [e] at this
/-- an array of 64 at p -/
def AR {α : Type} (F : α → Value) (W : World) (p : Nat) (arr : List α) : Prop := arr.length = 64 ∧ ∃ t, Box W p (arr.map F).toArray t
section
variable {α : Type} {F : α → Value} {W W' : World} {p : Nat} {arr : List α}
theorem AR.cell (h : AR F W p arr) (d : α) {k : Nat} (hk : k < 64) : W.cell? ⟨p, k, none⟩ = some (F (arr.getD k d)) := by
  obtain ⟨h1, t, h2⟩ := h
  rw [h2.cell]
  simp [List.getD, List.getElem?_eq_getElem (show k < arr.length by omega)]
theorem AR.frozen (h : AR F W p arr) (k : Nat) : W.frozen? ⟨p, k, none⟩ = false := h.2.choose_spec.frozen k
theorem AR.lt (h : AR F W p arr) : p < W.heap.size := h.2.choose_spec.lt
theorem AR.set (h : AR F W p arr) (k : Nat) (x : α) : AR F (W.setCell ⟨p, k, none⟩ (F x)) p (arr.set k x) := by
  obtain ⟨h1, t, h2⟩ := h
  refine ⟨by rw [List.length_set]; exact h1, t, ?_⟩
  rw [List.map_set, ← List.setIfInBounds_toArray]
  exact h2.set_ k _
theorem AR.later (h : AR F W p arr) (hb : Below W.heap.size W W') : AR F W' p arr := ⟨h.1, h.2.choose, h.2.choose_spec.later hb⟩
theorem AR.fr {S : Nat → Prop} (h : AR F W p arr) (hf : Fr S W W') (hn : ¬ S p) : AR F W' p arr := ⟨h.1, h.2.choose, h.2.choose_spec.fr hf hn⟩
theorem AR.drew (h : AR F W p arr) : AR F W.drew p arr := h
theorem CK.far {g gf h : Nat} {l : List Fm} (c : CK W g gf l h) {a : Addr} (h1 : g ≠ a.block) (h2 : gf ≠ a.block) (u : Value) : CK (W.setCell a u) g gf l h := ⟨c.ne, c.top.far h1 u, c.fs.far h2 u⟩
theorem getD_set_int (l : List Int) (j : Nat) (f : Int) (hj : j < l.length) (x : Nat) : (l.set j f).getD x 0 = if x = j then f else l.getD x 0 := by
  simp only [List.getD_eq_getElem?_getD, List.getElem?_set]
  by_cases e : j = x
  · subst e; simp [hj]
  · rw [if_neg e, if_neg (Ne.symm e)]
theorem getD_set_bool (l : List Bool) (j : Nat) (f : Bool) (hj : j < l.length) (x : Nat) : (l.set j f).getD x false = if x = j then f else l.getD x false := by
  simp only [List.getD_eq_getElem?_getD, List.getElem?_set]
  by_cases e : j = x
  · subst e; simp [hj]
  · rw [if_neg e, if_neg (Ne.symm e)]
end
set_option maxHeartbeats 4000000 in
theorem pins_in (w : World) (g gf h : Nat) (l : List Fm) (c : CK w g gf l h) (hl : l.length ≤ 64) (j : Nat) (hj : j < l.length) :
    Calls Try.prog 11 #[.pointer (some ⟨g, 0, none⟩), .int .i64 j] w (fun e w' => e = .returned (.int .i64 (l.getD j z3).p) ∧ w' = w) := by
  obtain ⟨k0, k1, k2⟩ := c.cells hj
  have AT := Lib.hid (at_in w g gf h l c hl j hj)
  generalize l.getD j z3 = f at *
  obtain ⟨ft, fu, fp⟩ := f
  dsimp only at *
  clear c
  go_enter Try.func11, Try.ntmps11
  go_wp2_with fail
  (with_reducible refine (AT.out).mono ?_)
  rintro e w' ⟨rfl, rfl⟩
  go_wp2
  go_ret
  exact ⟨rfl, rfl⟩
end Go.Proofs.Ytimnhanjlldhoaa.Clk
