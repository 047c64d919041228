import Derived.Test.YtimnhanjlldhoaaClk3
/- The document's clock. -/
namespace Go.Proofs.Ytimnhanjlldhoaa.Clk
open Go.ChangeShapes Go.WideShapes Go.ChangeAt Go.RowKit Go.IntWalk Go.Proofs.Mem Go.Proofs.Clk
set_option linter.unusedVariables false
set_option linter.unusedSectionVars false
/-- the document's clock at g -/
structure RK (w : World) (g ga gb gc : Nat) (l : List Fm) (h : Nat) : Prop where
  na : g ≠ ga
  nb : g ≠ gb
  nc : g ≠ gc
  ab : ga ≠ gb
  ac : ga ≠ gc
  bc : gb ≠ gc
  top : Box w g #[.slice (some ⟨ga, 0, none⟩) l.length l.length, .slice (some ⟨gb, 0, none⟩) l.length l.length, .slice (some ⟨gc, 0, none⟩) l.length l.length, .int .i64 h] 46
  ts : Box w ga (l.map fun f => Value.bool f.t).toArray 4
  us : Box w gb (l.map fun f => Value.bool f.u).toArray 4
  ps : Box w gc (l.map fun f => Value.int .i64 f.p).toArray 3
theorem map_same {F : Fm → Value} {l : List Fm} {j : Nat} {f : Fm} (hj : j < l.length) (h : F f = F (l.getD j z3)) : (l.set j f).map F = l.map F := by
  apply List.ext_getElem?
  intro i
  rw [List.getElem?_map, List.getElem?_map, List.getElem?_set]
  by_cases e : j = i
  · subst e
    rw [if_pos rfl, if_pos hj]
    simp [List.getD, List.getElem?_eq_getElem hj] at h ⊢
    exact h
  · rw [if_neg e]
theorem map_at {F : Fm → Value} {l : List Fm} {j : Nat} (hj : j < l.length) : (l.map F).toArray[j]? = some (F (l.getD j z3)) := by
  simp [List.getD, List.getElem?_eq_getElem hj]
theorem getD_set {l : List Fm} {j : Nat} {f : Fm} (hj : j < l.length) : (l.set j f).getD j z3 = f := by simp [List.getD, hj]
section
variable {w w' : World} {g ga gb gc h : Nat} {l : List Fm}
theorem RK.later (c : RK w g ga gb gc l h) (hb : Below w.heap.size w w') : RK w' g ga gb gc l h := ⟨c.na, c.nb, c.nc, c.ab, c.ac, c.bc, c.top.later hb, c.ts.later hb, c.us.later hb, c.ps.later hb⟩
theorem RK.alloc (c : RK w g ga gb gc l h) (o : Obj) : RK (w.alloc o) g ga gb gc l h := ⟨c.na, c.nb, c.nc, c.ab, c.ac, c.bc, c.top.alloc o, c.ts.alloc o, c.us.alloc o, c.ps.alloc o⟩
theorem RK.fr {S : Nat → Prop} (c : RK w g ga gb gc l h) (hf : Fr S w w') (h1 : ¬ S g) (h2 : ¬ S ga) (h3 : ¬ S gb) (h4 : ¬ S gc) : RK w' g ga gb gc l h :=
  ⟨c.na, c.nb, c.nc, c.ab, c.ac, c.bc, c.top.fr hf h1, c.ts.fr hf h2, c.us.fr hf h3, c.ps.fr hf h4⟩
theorem RK.t (c : RK w g ga gb gc l h) {j : Nat} (hj : j < l.length) (x : Bool) : RK (w.setCell ⟨ga, j, none⟩ (.bool x)) g ga gb gc (l.set j { l.getD j z3 with t := x }) h := by
  refine ⟨c.na, c.nb, c.nc, c.ab, c.ac, c.bc, by rw [List.length_set]; exact c.top.far c.na _, ?_, ?_, ?_⟩
  · rw [List.map_set, ← List.setIfInBounds_toArray]; exact c.ts.set_ _ _
  · rw [map_same (F := fun f => Value.bool f.u) (f := { l.getD j z3 with t := x }) hj rfl]; exact c.us.far (Ne.symm c.ab) _
  · rw [map_same (F := fun f => Value.int .i64 f.p) (f := { l.getD j z3 with t := x }) hj rfl]; exact c.ps.far (Ne.symm c.ac) _
theorem RK.u (c : RK w g ga gb gc l h) {j : Nat} (hj : j < l.length) (x : Bool) : RK (w.setCell ⟨gb, j, none⟩ (.bool x)) g ga gb gc (l.set j { l.getD j z3 with u := x }) h := by
  refine ⟨c.na, c.nb, c.nc, c.ab, c.ac, c.bc, by rw [List.length_set]; exact c.top.far c.nb _, ?_, ?_, ?_⟩
  · rw [map_same (F := fun f => Value.bool f.t) (f := { l.getD j z3 with u := x }) hj rfl]; exact c.ts.far c.ab _
  · rw [List.map_set, ← List.setIfInBounds_toArray]; exact c.us.set_ _ _
  · rw [map_same (F := fun f => Value.int .i64 f.p) (f := { l.getD j z3 with u := x }) hj rfl]; exact c.ps.far (Ne.symm c.bc) _
theorem RK.p (c : RK w g ga gb gc l h) {j : Nat} (hj : j < l.length) (x : Int) : RK (w.setCell ⟨gc, j, none⟩ (.int .i64 x)) g ga gb gc (l.set j { l.getD j z3 with p := x }) h := by
  refine ⟨c.na, c.nb, c.nc, c.ab, c.ac, c.bc, by rw [List.length_set]; exact c.top.far c.nc _, ?_, ?_, ?_⟩
  · rw [map_same (F := fun f => Value.bool f.t) (f := { l.getD j z3 with p := x }) hj rfl]; exact c.ts.far c.ac _
  · rw [map_same (F := fun f => Value.bool f.u) (f := { l.getD j z3 with p := x }) hj rfl]; exact c.us.far c.bc _
  · rw [List.map_set, ← List.setIfInBounds_toArray]; exact c.ps.set_ _ _
theorem RK.hand (c : RK w g ga gb gc l h) (h' : Nat) : RK (w.setCell ⟨g, 3, none⟩ (.int .i64 h')) g ga gb gc l h' :=
  ⟨c.na, c.nb, c.nc, c.ab, c.ac, c.bc, c.top.set_ 3 _, c.ts.far (Ne.symm c.na) _, c.us.far (Ne.symm c.nb) _, c.ps.far (Ne.symm c.nc) _⟩
theorem RK.tu (c : RK w g ga gb gc l h) {j : Nat} (hj : j < l.length) (x y : Bool) : RK ((w.setCell ⟨ga, j, none⟩ (.bool x)).setCell ⟨gb, j, none⟩ (.bool y)) g ga gb gc (l.set j ⟨x, y, (l.getD j z3).p⟩) h := by
  have := (c.t hj x).u (by rw [List.length_set]; exact hj) y
  rwa [getD_set hj, List.set_set] at this
theorem RK.tup (c : RK w g ga gb gc l h) {j : Nat} (hj : j < l.length) (x y : Bool) (z : Int) : RK (((w.setCell ⟨ga, j, none⟩ (.bool x)).setCell ⟨gb, j, none⟩ (.bool y)).setCell ⟨gc, j, none⟩ (.int .i64 z)) g ga gb gc (l.set j ⟨x, y, z⟩) h := by
  have := (c.tu hj x y).p (by rw [List.length_set]; exact hj) z
  rwa [getD_set hj, List.set_set] at this
end
def DidR (w : World) (g ga gb gc h : Nat) (r : Bool × List Fm) (e : Ending) (w' : World) : Prop := e = .returned (.bool r.1) ∧ RK w' g ga gb gc r.2 h ∧ Fr (fun k => k = g ∨ k = ga ∨ k = gb ∨ k = gc) w w'
section
variable (w : World) (g ga gb gc h : Nat) (l : List Fm) (B : Int) (c : RK w g ga gb gc l h) (hl : l.length ≤ 64) (ho : Oks B l) (hB : 0 ≤ B ∧ B ≤ 100000) (i : Int)
include c hl
set_option maxHeartbeats 4000000 in
theorem is_ref : Calls Try.prog 32 #[.pointer (some ⟨g, 0, none⟩), .int .i64 i] w (fun e w' => e = .returned (.bool (fr l i).t) ∧ w = w') := by
  have s0 : w.cell? ⟨g, 0, none⟩ = some (.slice (some ⟨ga, 0, none⟩) l.length l.length) := c.top.cell 0
  have s1 : w.cell? ⟨g, 1, none⟩ = some (.slice (some ⟨gb, 0, none⟩) l.length l.length) := c.top.cell 1
  have s2 : w.cell? ⟨g, 2, none⟩ = some (.slice (some ⟨gc, 0, none⟩) l.length l.length) := c.top.cell 2
  have C := Lib.hid c
  by_cases hi : 0 ≤ i ∧ i < l.length
  · obtain ⟨j, rfl⟩ := Int.eq_ofNat_of_zero_le hi.1
    have hj : j < l.length := by omega
    have k0 : w.cell? ⟨ga, j, none⟩ = some (.bool (l.getD j z3).t) := (c.ts.cell j).trans (map_at hj)
    have k1 : w.cell? ⟨gb, j, none⟩ = some (.bool (l.getD j z3).u) := (c.us.cell j).trans (map_at hj)
    have k2 : w.cell? ⟨gc, j, none⟩ = some (.int .i64 (l.getD j z3).p) := (c.ps.cell j).trans (map_at hj)
    have z0 := c.ts.frozen j
    have z1 := c.us.frozen j
    have z2 := c.ps.frozen j
    have d1 : decide ((j : Int) < 0) = false := decide_eq_false (by omega)
    have d1' : decide (0 ≤ (j : Int)) = true := decide_eq_true (by omega)
    have d2 : decide ((l.length : Int) ≤ (j : Int)) = false := decide_eq_false (by omega)
    have d2' : decide (l.length ≤ j) = false := decide_eq_false (by omega)
    have d3 : decide ((j : Int) < (l.length : Int)) = true := decide_eq_true (by omega)
    have d3' : decide (j < l.length) = true := decide_eq_true (by omega)
    have N := And.intro c.na (And.intro c.nb (And.intro c.nc (And.intro c.ab (And.intro c.ac c.bc))))
    obtain ⟨na, nb, nc, ab, ac, bc⟩ := N
    have na' := Ne.symm na
    have nb' := Ne.symm nb
    have nc' := Ne.symm nc
    have ab' := Ne.symm ab
    have ac' := Ne.symm ac
    have bc' := Ne.symm bc
    rw [fr_in hj]
    generalize l.getD j z3 = f at *
    obtain ⟨ft, fu, fp⟩ := f
    dsimp only at *
    clear c hi
    go_enter Try.func32, Try.ntmps32
    go_wp2
    go_ret
    exact ⟨rfl, rfl⟩
  · rw [fr_out hi]
    clear c
    by_cases h0 : i < 0
    · have d1 : decide (i < 0) = true := decide_eq_true h0
      have d1' : decide (0 ≤ i) = false := decide_eq_false (by omega)
      clear hi
      go_enter Try.func32, Try.ntmps32
      go_wp2
      go_ret
      exact ⟨rfl, rfl⟩
    · have d1 : decide (i < 0) = false := decide_eq_false h0
      have d1' : decide (0 ≤ i) = true := decide_eq_true (by omega)
      have d2 : decide ((l.length : Int) ≤ i) = true := decide_eq_true (by omega)
      have d3 : decide (i < (l.length : Int)) = false := decide_eq_false (by omega)
      clear hi
      go_enter Try.func32, Try.ntmps32
      go_wp2
      go_ret
      exact ⟨rfl, rfl⟩
set_option maxHeartbeats 4000000 in
theorem pins_ref : Calls Try.prog 12 #[.pointer (some ⟨g, 0, none⟩), .int .i64 i] w (fun e w' => e = .returned (.int .i64 (fr l i).p) ∧ w = w') := by
  have s0 : w.cell? ⟨g, 0, none⟩ = some (.slice (some ⟨ga, 0, none⟩) l.length l.length) := c.top.cell 0
  have s1 : w.cell? ⟨g, 1, none⟩ = some (.slice (some ⟨gb, 0, none⟩) l.length l.length) := c.top.cell 1
  have s2 : w.cell? ⟨g, 2, none⟩ = some (.slice (some ⟨gc, 0, none⟩) l.length l.length) := c.top.cell 2
  have C := Lib.hid c
  by_cases hi : 0 ≤ i ∧ i < l.length
  · obtain ⟨j, rfl⟩ := Int.eq_ofNat_of_zero_le hi.1
    have hj : j < l.length := by omega
    have k0 : w.cell? ⟨ga, j, none⟩ = some (.bool (l.getD j z3).t) := (c.ts.cell j).trans (map_at hj)
    have k1 : w.cell? ⟨gb, j, none⟩ = some (.bool (l.getD j z3).u) := (c.us.cell j).trans (map_at hj)
    have k2 : w.cell? ⟨gc, j, none⟩ = some (.int .i64 (l.getD j z3).p) := (c.ps.cell j).trans (map_at hj)
    have z0 := c.ts.frozen j
    have z1 := c.us.frozen j
    have z2 := c.ps.frozen j
    have d1 : decide ((j : Int) < 0) = false := decide_eq_false (by omega)
    have d1' : decide (0 ≤ (j : Int)) = true := decide_eq_true (by omega)
    have d2 : decide ((l.length : Int) ≤ (j : Int)) = false := decide_eq_false (by omega)
    have d2' : decide (l.length ≤ j) = false := decide_eq_false (by omega)
    have d3 : decide ((j : Int) < (l.length : Int)) = true := decide_eq_true (by omega)
    have d3' : decide (j < l.length) = true := decide_eq_true (by omega)
    have N := And.intro c.na (And.intro c.nb (And.intro c.nc (And.intro c.ab (And.intro c.ac c.bc))))
    obtain ⟨na, nb, nc, ab, ac, bc⟩ := N
    have na' := Ne.symm na
    have nb' := Ne.symm nb
    have nc' := Ne.symm nc
    have ab' := Ne.symm ab
    have ac' := Ne.symm ac
    have bc' := Ne.symm bc
    rw [fr_in hj]
    generalize l.getD j z3 = f at *
    obtain ⟨ft, fu, fp⟩ := f
    dsimp only at *
    clear c hi
    go_enter Try.func12, Try.ntmps12
    go_wp2
    go_ret
    exact ⟨rfl, rfl⟩
  · rw [fr_out hi]
    clear c
    by_cases h0 : i < 0
    · have d1 : decide (i < 0) = true := decide_eq_true h0
      have d1' : decide (0 ≤ i) = false := decide_eq_false (by omega)
      clear hi
      go_enter Try.func12, Try.ntmps12
      go_wp2
      go_ret
      exact ⟨rfl, rfl⟩
    · have d1 : decide (i < 0) = false := decide_eq_false h0
      have d1' : decide (0 ≤ i) = true := decide_eq_true (by omega)
      have d2 : decide ((l.length : Int) ≤ i) = true := decide_eq_true (by omega)
      have d3 : decide (i < (l.length : Int)) = false := decide_eq_false (by omega)
      clear hi
      go_enter Try.func12, Try.ntmps12
      go_wp2
      go_ret
      exact ⟨rfl, rfl⟩
set_option maxHeartbeats 4000000 in
theorem take_ref : Calls Try.prog 19 #[.pointer (some ⟨g, 0, none⟩), .int .i64 i] w (DidR w g ga gb gc h (takeM l i)) := by
  have s0 : w.cell? ⟨g, 0, none⟩ = some (.slice (some ⟨ga, 0, none⟩) l.length l.length) := c.top.cell 0
  have s1 : w.cell? ⟨g, 1, none⟩ = some (.slice (some ⟨gb, 0, none⟩) l.length l.length) := c.top.cell 1
  have s2 : w.cell? ⟨g, 2, none⟩ = some (.slice (some ⟨gc, 0, none⟩) l.length l.length) := c.top.cell 2
  have C := Lib.hid c
  by_cases hi : 0 ≤ i ∧ i < l.length
  · obtain ⟨j, rfl⟩ := Int.eq_ofNat_of_zero_le hi.1
    have hj : j < l.length := by omega
    have k0 : w.cell? ⟨ga, j, none⟩ = some (.bool (l.getD j z3).t) := (c.ts.cell j).trans (map_at hj)
    have k1 : w.cell? ⟨gb, j, none⟩ = some (.bool (l.getD j z3).u) := (c.us.cell j).trans (map_at hj)
    have k2 : w.cell? ⟨gc, j, none⟩ = some (.int .i64 (l.getD j z3).p) := (c.ps.cell j).trans (map_at hj)
    have z0 := c.ts.frozen j
    have z1 := c.us.frozen j
    have z2 := c.ps.frozen j
    have d1 : decide ((j : Int) < 0) = false := decide_eq_false (by omega)
    have d1' : decide (0 ≤ (j : Int)) = true := decide_eq_true (by omega)
    have d2 : decide ((l.length : Int) ≤ (j : Int)) = false := decide_eq_false (by omega)
    have d2' : decide (l.length ≤ j) = false := decide_eq_false (by omega)
    have d3 : decide ((j : Int) < (l.length : Int)) = true := decide_eq_true (by omega)
    have d3' : decide (j < l.length) = true := decide_eq_true (by omega)
    have N := And.intro c.na (And.intro c.nb (And.intro c.nc (And.intro c.ab (And.intro c.ac c.bc))))
    obtain ⟨na, nb, nc, ab, ac, bc⟩ := N
    have na' := Ne.symm na
    have nb' := Ne.symm nb
    have nc' := Ne.symm nc
    have ab' := Ne.symm ab
    have ac' := Ne.symm ac
    have bc' := Ne.symm bc
    have ef := fr_in hj
    unfold takeM
    rw [ef, show inR l j = true by unfold inR; exact decide_eq_true (by omega)]
    have en : ((j : Int)).toNat = j := by simp
    rw [en]
    have HA := Lib.hid (c.tup hj true true 0)
    generalize l.getD j z3 = f at *
    obtain ⟨ft, fu, fp⟩ := f
    dsimp only at *
    clear c ef en hi
    cases ft
    · go_enter Try.func19, Try.ntmps19
      go_wp2
      go_ret
      exact ⟨rfl, HA.out, (((Fr.refl _ _).setCell (.inl (by simp)) _).setCell (.inl (by simp)) _).setCell (.inl (by simp)) _⟩
    · go_enter Try.func19, Try.ntmps19
      go_wp2
      go_ret
      exact ⟨rfl, C.out, Fr.refl _ _⟩
  · unfold takeM
    rw [show inR l i = false by unfold inR; exact decide_eq_false hi]
    clear c
    by_cases h0 : i < 0
    · have d1 : decide (i < 0) = true := decide_eq_true h0
      have d1' : decide (0 ≤ i) = false := decide_eq_false (by omega)
      clear hi
      go_enter Try.func19, Try.ntmps19
      go_wp2
      go_ret
      exact ⟨rfl, C.out, Fr.refl _ _⟩
    · have d1 : decide (i < 0) = false := decide_eq_false h0
      have d1' : decide (0 ≤ i) = true := decide_eq_true (by omega)
      have d2 : decide ((l.length : Int) ≤ i) = true := decide_eq_true (by omega)
      have d3 : decide (i < (l.length : Int)) = false := decide_eq_false (by omega)
      clear hi
      go_enter Try.func19, Try.ntmps19
      go_wp2
      go_ret
      exact ⟨rfl, C.out, Fr.refl _ _⟩
set_option maxHeartbeats 4000000 in
include ho hB in
theorem touch_ref : Calls Try.prog 21 #[.pointer (some ⟨g, 0, none⟩), .int .i64 i] w (DidR w g ga gb gc h (touchM l i)) := by
  have s0 : w.cell? ⟨g, 0, none⟩ = some (.slice (some ⟨ga, 0, none⟩) l.length l.length) := c.top.cell 0
  have s1 : w.cell? ⟨g, 1, none⟩ = some (.slice (some ⟨gb, 0, none⟩) l.length l.length) := c.top.cell 1
  have s2 : w.cell? ⟨g, 2, none⟩ = some (.slice (some ⟨gc, 0, none⟩) l.length l.length) := c.top.cell 2
  have C := Lib.hid c
  by_cases hi : 0 ≤ i ∧ i < l.length
  · obtain ⟨j, rfl⟩ := Int.eq_ofNat_of_zero_le hi.1
    have hj : j < l.length := by omega
    have k0 : w.cell? ⟨ga, j, none⟩ = some (.bool (l.getD j z3).t) := (c.ts.cell j).trans (map_at hj)
    have k1 : w.cell? ⟨gb, j, none⟩ = some (.bool (l.getD j z3).u) := (c.us.cell j).trans (map_at hj)
    have k2 : w.cell? ⟨gc, j, none⟩ = some (.int .i64 (l.getD j z3).p) := (c.ps.cell j).trans (map_at hj)
    have z0 := c.ts.frozen j
    have z1 := c.us.frozen j
    have z2 := c.ps.frozen j
    have d1 : decide ((j : Int) < 0) = false := decide_eq_false (by omega)
    have d1' : decide (0 ≤ (j : Int)) = true := decide_eq_true (by omega)
    have d2 : decide ((l.length : Int) ≤ (j : Int)) = false := decide_eq_false (by omega)
    have d2' : decide (l.length ≤ j) = false := decide_eq_false (by omega)
    have d3 : decide ((j : Int) < (l.length : Int)) = true := decide_eq_true (by omega)
    have d3' : decide (j < l.length) = true := decide_eq_true (by omega)
    have N := And.intro c.na (And.intro c.nb (And.intro c.nc (And.intro c.ab (And.intro c.ac c.bc))))
    obtain ⟨na, nb, nc, ab, ac, bc⟩ := N
    have na' := Ne.symm na
    have nb' := Ne.symm nb
    have nc' := Ne.symm nc
    have ab' := Ne.symm ab
    have ac' := Ne.symm ac
    have bc' := Ne.symm bc
    obtain ⟨q0, q1, q2⟩ := ho.at_ hB.1 j
    have IS := Lib.hid (is_ref w g ga gb gc h l c hl j)
    have ef := fr_in hj
    unfold touchM
    rw [ef] at IS ⊢
    have en : ((j : Int)).toNat = j := by simp
    rw [en]
    have HT := Lib.hid (c.tu hj false false)
    have HU := Lib.hid (c.u hj true)
    have HP := Lib.hid (fun x => c.p hj x)
    generalize l.getD j z3 = f at *
    obtain ⟨ft, fu, fp⟩ := f
    dsimp only at *
    have Q2 := Lib.hid q2
    clear c ef en q2 hi
    cases ft
    · go_enter Try.func21, Try.ntmps21
      go_wp2_with fail
      (with_reducible refine (IS.out).mono ?_)
      rintro e w' ⟨rfl, rfl⟩
      go_wp2
      go_ret
      exact ⟨rfl, C.out, Fr.refl _ _⟩
    · go_enter Try.func21, Try.ntmps21
      go_wp2_with fail
      (with_reducible refine (IS.out).mono ?_)
      rintro e w' ⟨rfl, rfl⟩
      go_wp2
      go_ret
      exact ⟨rfl, HU.out, (Fr.refl _ _).setCell (.inl (by simp)) _⟩
  · have IS := Lib.hid (is_ref w g ga gb gc h l c hl i)
    unfold touchM
    rw [fr_out hi] at IS ⊢
    clear c
    go_enter Try.func21, Try.ntmps21
    go_wp2_with fail
    (with_reducible refine (IS.out).mono ?_)
    rintro e w' ⟨rfl, rfl⟩
    go_wp2
    go_ret
    exact ⟨rfl, C.out, Fr.refl _ _⟩
set_option maxHeartbeats 4000000 in
include ho hB in
theorem pin_ref : Calls Try.prog 23 #[.pointer (some ⟨g, 0, none⟩), .int .i64 i] w (DidR w g ga gb gc h (pinM l i)) := by
  have s0 : w.cell? ⟨g, 0, none⟩ = some (.slice (some ⟨ga, 0, none⟩) l.length l.length) := c.top.cell 0
  have s1 : w.cell? ⟨g, 1, none⟩ = some (.slice (some ⟨gb, 0, none⟩) l.length l.length) := c.top.cell 1
  have s2 : w.cell? ⟨g, 2, none⟩ = some (.slice (some ⟨gc, 0, none⟩) l.length l.length) := c.top.cell 2
  have C := Lib.hid c
  by_cases hi : 0 ≤ i ∧ i < l.length
  · obtain ⟨j, rfl⟩ := Int.eq_ofNat_of_zero_le hi.1
    have hj : j < l.length := by omega
    have k0 : w.cell? ⟨ga, j, none⟩ = some (.bool (l.getD j z3).t) := (c.ts.cell j).trans (map_at hj)
    have k1 : w.cell? ⟨gb, j, none⟩ = some (.bool (l.getD j z3).u) := (c.us.cell j).trans (map_at hj)
    have k2 : w.cell? ⟨gc, j, none⟩ = some (.int .i64 (l.getD j z3).p) := (c.ps.cell j).trans (map_at hj)
    have z0 := c.ts.frozen j
    have z1 := c.us.frozen j
    have z2 := c.ps.frozen j
    have d1 : decide ((j : Int) < 0) = false := decide_eq_false (by omega)
    have d1' : decide (0 ≤ (j : Int)) = true := decide_eq_true (by omega)
    have d2 : decide ((l.length : Int) ≤ (j : Int)) = false := decide_eq_false (by omega)
    have d2' : decide (l.length ≤ j) = false := decide_eq_false (by omega)
    have d3 : decide ((j : Int) < (l.length : Int)) = true := decide_eq_true (by omega)
    have d3' : decide (j < l.length) = true := decide_eq_true (by omega)
    have N := And.intro c.na (And.intro c.nb (And.intro c.nc (And.intro c.ab (And.intro c.ac c.bc))))
    obtain ⟨na, nb, nc, ab, ac, bc⟩ := N
    have na' := Ne.symm na
    have nb' := Ne.symm nb
    have nc' := Ne.symm nc
    have ab' := Ne.symm ab
    have ac' := Ne.symm ac
    have bc' := Ne.symm bc
    obtain ⟨q0, q1, q2⟩ := ho.at_ hB.1 j
    have IS := Lib.hid (is_ref w g ga gb gc h l c hl j)
    have ef := fr_in hj
    unfold pinM
    rw [ef] at IS ⊢
    have en : ((j : Int)).toNat = j := by simp
    rw [en]
    have HT := Lib.hid (c.tu hj false false)
    have HU := Lib.hid (c.u hj true)
    have HP := Lib.hid (fun x => c.p hj x)
    generalize l.getD j z3 = f at *
    obtain ⟨ft, fu, fp⟩ := f
    dsimp only at *
    have Q2 := Lib.hid q2
    clear c ef en q2 hi
    have hw : wrap64 (fp + 1) = fp + 1 := wrap64_in _ (by omega)
    cases ft
    · go_enter Try.func23, Try.ntmps23
      go_wp2_with fail
      (with_reducible refine (IS.out).mono ?_)
      rintro e w' ⟨rfl, rfl⟩
      go_wp2
      go_ret
      exact ⟨rfl, C.out, Fr.refl _ _⟩
    · go_enter Try.func23, Try.ntmps23
      go_wp2_with fail
      (with_reducible refine (IS.out).mono ?_)
      rintro e w' ⟨rfl, rfl⟩
      go_wp2
      go_ret
      exact ⟨rfl, HP.out (fp + 1), (Fr.refl _ _).setCell (.inl (by simp)) _⟩
  · have IS := Lib.hid (is_ref w g ga gb gc h l c hl i)
    unfold pinM
    rw [fr_out hi] at IS ⊢
    clear c
    go_enter Try.func23, Try.ntmps23
    go_wp2_with fail
    (with_reducible refine (IS.out).mono ?_)
    rintro e w' ⟨rfl, rfl⟩
    go_wp2
    go_ret
    exact ⟨rfl, C.out, Fr.refl _ _⟩
set_option maxHeartbeats 4000000 in
include ho hB in
theorem unpin_ref : Calls Try.prog 24 #[.pointer (some ⟨g, 0, none⟩), .int .i64 i] w (DidR w g ga gb gc h (unpinM l i)) := by
  have s0 : w.cell? ⟨g, 0, none⟩ = some (.slice (some ⟨ga, 0, none⟩) l.length l.length) := c.top.cell 0
  have s1 : w.cell? ⟨g, 1, none⟩ = some (.slice (some ⟨gb, 0, none⟩) l.length l.length) := c.top.cell 1
  have s2 : w.cell? ⟨g, 2, none⟩ = some (.slice (some ⟨gc, 0, none⟩) l.length l.length) := c.top.cell 2
  have C := Lib.hid c
  by_cases hi : 0 ≤ i ∧ i < l.length
  · obtain ⟨j, rfl⟩ := Int.eq_ofNat_of_zero_le hi.1
    have hj : j < l.length := by omega
    have k0 : w.cell? ⟨ga, j, none⟩ = some (.bool (l.getD j z3).t) := (c.ts.cell j).trans (map_at hj)
    have k1 : w.cell? ⟨gb, j, none⟩ = some (.bool (l.getD j z3).u) := (c.us.cell j).trans (map_at hj)
    have k2 : w.cell? ⟨gc, j, none⟩ = some (.int .i64 (l.getD j z3).p) := (c.ps.cell j).trans (map_at hj)
    have z0 := c.ts.frozen j
    have z1 := c.us.frozen j
    have z2 := c.ps.frozen j
    have d1 : decide ((j : Int) < 0) = false := decide_eq_false (by omega)
    have d1' : decide (0 ≤ (j : Int)) = true := decide_eq_true (by omega)
    have d2 : decide ((l.length : Int) ≤ (j : Int)) = false := decide_eq_false (by omega)
    have d2' : decide (l.length ≤ j) = false := decide_eq_false (by omega)
    have d3 : decide ((j : Int) < (l.length : Int)) = true := decide_eq_true (by omega)
    have d3' : decide (j < l.length) = true := decide_eq_true (by omega)
    have N := And.intro c.na (And.intro c.nb (And.intro c.nc (And.intro c.ab (And.intro c.ac c.bc))))
    obtain ⟨na, nb, nc, ab, ac, bc⟩ := N
    have na' := Ne.symm na
    have nb' := Ne.symm nb
    have nc' := Ne.symm nc
    have ab' := Ne.symm ab
    have ac' := Ne.symm ac
    have bc' := Ne.symm bc
    obtain ⟨q0, q1, q2⟩ := ho.at_ hB.1 j
    have IS := Lib.hid (is_ref w g ga gb gc h l c hl j)
    have ef := fr_in hj
    unfold unpinM
    rw [ef] at IS ⊢
    have en : ((j : Int)).toNat = j := by simp
    rw [en]
    have HT := Lib.hid (c.tu hj false false)
    have HU := Lib.hid (c.u hj true)
    have HP := Lib.hid (fun x => c.p hj x)
    generalize l.getD j z3 = f at *
    obtain ⟨ft, fu, fp⟩ := f
    dsimp only at *
    have Q2 := Lib.hid q2
    clear c ef en q2 hi
    have hw : wrap64 (fp - 1) = fp - 1 := wrap64_in _ (by omega)
    cases ft
    · obtain ⟨_, e0⟩ := Q2.out rfl
      subst e0
      go_enter Try.func24, Try.ntmps24
      go_wp2_with fail
      (with_reducible refine (IS.out).mono ?_)
      rintro e w' ⟨rfl, rfl⟩
      go_wp2
      go_ret
      exact ⟨rfl, C.out, Fr.refl _ _⟩
    · by_cases h0 : fp = 0
      · subst h0
        go_enter Try.func24, Try.ntmps24
        go_wp2_with fail
        (with_reducible refine (IS.out).mono ?_)
        rintro e w' ⟨rfl, rfl⟩
        go_wp2
        go_ret
        exact ⟨rfl, C.out, Fr.refl _ _⟩
      · have d0 : (fp == 0) = false := by simpa using h0
        rw [if_neg h0]
        clear h0
        go_enter Try.func24, Try.ntmps24
        go_wp2_with fail
        (with_reducible refine (IS.out).mono ?_)
        rintro e w' ⟨rfl, rfl⟩
        go_wp2
        go_ret
        exact ⟨rfl, HP.out (fp - 1), (Fr.refl _ _).setCell (.inl (by simp)) _⟩
  · have IS := Lib.hid (is_ref w g ga gb gc h l c hl i)
    unfold unpinM
    rw [fr_out hi] at IS ⊢
    clear c
    go_enter Try.func24, Try.ntmps24
    go_wp2_with fail
    (with_reducible refine (IS.out).mono ?_)
    rintro e w' ⟨rfl, rfl⟩
    go_wp2
    go_ret
    exact ⟨rfl, C.out, Fr.refl _ _⟩
set_option maxHeartbeats 4000000 in
include ho hB in
theorem leave_ref : Calls Try.prog 20 #[.pointer (some ⟨g, 0, none⟩), .int .i64 i] w (DidR w g ga gb gc h (leaveM l i)) := by
  have s0 : w.cell? ⟨g, 0, none⟩ = some (.slice (some ⟨ga, 0, none⟩) l.length l.length) := c.top.cell 0
  have s1 : w.cell? ⟨g, 1, none⟩ = some (.slice (some ⟨gb, 0, none⟩) l.length l.length) := c.top.cell 1
  have s2 : w.cell? ⟨g, 2, none⟩ = some (.slice (some ⟨gc, 0, none⟩) l.length l.length) := c.top.cell 2
  have C := Lib.hid c
  by_cases hi : 0 ≤ i ∧ i < l.length
  · obtain ⟨j, rfl⟩ := Int.eq_ofNat_of_zero_le hi.1
    have hj : j < l.length := by omega
    have k0 : w.cell? ⟨ga, j, none⟩ = some (.bool (l.getD j z3).t) := (c.ts.cell j).trans (map_at hj)
    have k1 : w.cell? ⟨gb, j, none⟩ = some (.bool (l.getD j z3).u) := (c.us.cell j).trans (map_at hj)
    have k2 : w.cell? ⟨gc, j, none⟩ = some (.int .i64 (l.getD j z3).p) := (c.ps.cell j).trans (map_at hj)
    have z0 := c.ts.frozen j
    have z1 := c.us.frozen j
    have z2 := c.ps.frozen j
    have d1 : decide ((j : Int) < 0) = false := decide_eq_false (by omega)
    have d1' : decide (0 ≤ (j : Int)) = true := decide_eq_true (by omega)
    have d2 : decide ((l.length : Int) ≤ (j : Int)) = false := decide_eq_false (by omega)
    have d2' : decide (l.length ≤ j) = false := decide_eq_false (by omega)
    have d3 : decide ((j : Int) < (l.length : Int)) = true := decide_eq_true (by omega)
    have d3' : decide (j < l.length) = true := decide_eq_true (by omega)
    have N := And.intro c.na (And.intro c.nb (And.intro c.nc (And.intro c.ab (And.intro c.ac c.bc))))
    obtain ⟨na, nb, nc, ab, ac, bc⟩ := N
    have na' := Ne.symm na
    have nb' := Ne.symm nb
    have nc' := Ne.symm nc
    have ab' := Ne.symm ab
    have ac' := Ne.symm ac
    have bc' := Ne.symm bc
    obtain ⟨q0, q1, q2⟩ := ho.at_ hB.1 j
    have IS := Lib.hid (is_ref w g ga gb gc h l c hl j)
    have ef := fr_in hj
    unfold leaveM
    rw [ef] at IS ⊢
    have en : ((j : Int)).toNat = j := by simp
    rw [en]
    have HT := Lib.hid (c.tu hj false false)
    have HU := Lib.hid (c.u hj true)
    have HP := Lib.hid (fun x => c.p hj x)
    generalize l.getD j z3 = f at *
    obtain ⟨ft, fu, fp⟩ := f
    dsimp only at *
    have Q2 := Lib.hid q2
    clear c ef en q2 hi
    cases ft
    · go_enter Try.func20, Try.ntmps20
      go_wp2_with fail
      (with_reducible refine (IS.out).mono ?_)
      rintro e w' ⟨rfl, rfl⟩
      go_wp2
      go_ret
      exact ⟨rfl, C.out, Fr.refl _ _⟩
    · by_cases h0 : fp = 0
      · subst h0
        go_enter Try.func20, Try.ntmps20
        go_wp2_with fail
        (with_reducible refine (IS.out).mono ?_)
        rintro e w' ⟨rfl, rfl⟩
        go_wp2
        go_ret
        exact ⟨rfl, HT.out, ((Fr.refl _ _).setCell (.inl (by simp)) _).setCell (.inl (by simp)) _⟩
      · have d0 : decide (0 < fp) = true := decide_eq_true (by omega)
        rw [show (true && decide (fp = 0)) = false by simp [h0]]
        clear h0
        go_enter Try.func20, Try.ntmps20
        go_wp2_with fail
        (with_reducible refine (IS.out).mono ?_)
        rintro e w' ⟨rfl, rfl⟩
        go_wp2
        go_ret
        exact ⟨rfl, C.out, Fr.refl _ _⟩
  · have IS := Lib.hid (is_ref w g ga gb gc h l c hl i)
    unfold leaveM
    rw [fr_out hi] at IS ⊢
    clear c
    go_enter Try.func20, Try.ntmps20
    go_wp2_with fail
    (with_reducible refine (IS.out).mono ?_)
    rintro e w' ⟨rfl, rfl⟩
    go_wp2
    go_ret
    exact ⟨rfl, C.out, Fr.refl _ _⟩
end
end Go.Proofs.Ytimnhanjlldhoaa.Clk
