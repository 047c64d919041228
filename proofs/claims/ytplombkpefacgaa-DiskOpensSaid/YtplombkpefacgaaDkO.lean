import Derived.Test.YtplombkpefacgaaDkN
/- What a halt changes: pure. -/
namespace Go.Proofs.Ytplombkpefacgaa.Disk
open Go.Proofs.Mem
set_option linter.unusedVariables false
/-- does a call count, on a device with eight sectors in each file? -/
def cnts (o : Opn) : Bool :=
  if o.k % 9 = 5 then decide (o.f < 2) else if o.k % 9 < 4 then decide (o.f < 2 ∧ 0 ≤ o.s ∧ o.s < 8 ∧ (o.k % 9 < 3 ∨ o.xs.length = 128)) else false
/-- a is to halt behind left calls, b not -/
structure Hs (D E : Dv) (q : Int) : Prop where
  lim : D.lim = true
  lim' : E.lim = false
  f : D.f = E.f
  left : D.left = max q 0
  dead : D.dead = decide (q < 0)
  len : ∀ k, k < 2 → (E.f k).length = 8
theorem has8 {X : Dv} (hX : ∀ k, k < 2 → (X.f k).length = 8) {o : Opn} (ho : o.Ok) : X.has o.f.toNat o.s ↔ o.f < 2 ∧ 0 ≤ o.s ∧ o.s < 8 := by
  have := ho.2.1
  unfold Dv.has
  constructor
  · rintro ⟨h1, h2, h3⟩
    rw [hX _ h1] at h3
    omega
  · rintro ⟨h1, h2, h3⟩
    have h4 : o.f.toNat < 2 := by omega
    exact ⟨h4, h2, by rw [hX _ h4]; omega⟩
theorem pl_no {X : Dv} (hX : ∀ k, k < 2 → (X.f k).length = 8) {o : Opn} (ho : o.Ok) (hc : cnts o = false) : plD X o = X := by
  have hh := has8 hX ho
  have hf := ho.2.1
  unfold cnts at hc
  unfold plD
  by_cases h5 : o.k % 9 = 5
  · rw [if_pos h5] at hc
    rw [if_neg (by omega), if_neg (by omega), if_pos h5]
    unfold Dv.synA
    rw [if_neg (by simp at hc; omega)]
  · rw [if_neg h5] at hc
    by_cases h4 : o.k % 9 < 4
    · rw [if_pos h4] at hc
      have hc' := of_decide_eq_false hc
      by_cases h3 : o.k % 9 < 3
      · rw [if_pos h3]
        unfold Dv.wrA
        rw [if_neg]
        rintro ⟨h, _⟩
        rw [hh] at h
        exact hc' ⟨h.1, h.2.1, h.2.2, .inl h3⟩
      · rw [if_neg h3, if_pos (by omega)]
        unfold Dv.wrA
        rw [if_neg]
        rintro ⟨h, hl⟩
        rw [hh] at h
        exact hc' ⟨h.1, h.2.1, h.2.2, .inr hl⟩
    · rw [if_neg (by omega), if_neg (by omega), if_neg h5]
theorem pl_yes {o : Opn} (ho : o.Ok) (hc : cnts o = true) : ∃ G : (Nat → List Se) → Nat → List Se, (∀ F k, (G F k).length = (F k).length) ∧ ∀ X : Dv, (∀ k, k < 2 → (X.f k).length = 8) → plD X o = if cntB X.lim X.left = true then { X.cnt with f := G X.f } else X.cnt := by
  have hf := ho.2.1
  unfold cnts at hc
  have W : ∀ xs : List Int, xs.length = 128 → o.f < 2 ∧ 0 ≤ o.s ∧ o.s < 8 → ∃ G : (Nat → List Se) → Nat → List Se, (∀ F k, (G F k).length = (F k).length) ∧ ∀ X : Dv, (∀ k, k < 2 → (X.f k).length = 8) → X.wrA o.f.toNat o.s xs = if cntB X.lim X.left = true then { X.cnt with f := G X.f } else X.cnt := fun xs hl hs =>
    ⟨fun F k => if k = o.f.toNat then (F o.f.toNat).set o.s.toNat (((F o.f.toNat).getD o.s.toNat zSe).wr xs) else F k, fun F k => by
      simp only
      split
      · rename_i e; rw [List.length_set, e]
      · rfl, fun X hX => by
      unfold Dv.wrA
      rw [if_pos ⟨(has8 hX ho).2 hs, hl⟩]
      unfold Dv.wr
      split
      · rfl
      · rfl⟩
  by_cases h5 : o.k % 9 = 5
  · rw [if_pos h5] at hc
    refine ⟨fun F k => if k = o.f.toNat then ((F o.f.toNat).take (F o.f.toNat).length).map Se.syn ++ (F o.f.toNat).drop (F o.f.toNat).length else F k, fun F k => ?_, fun X hX => ?_⟩
    · simp only
      split
      · rename_i e; rw [e]; simp
      · rfl
    · unfold plD
      rw [if_neg (by omega), if_neg (by omega), if_pos h5]
      unfold Dv.synA
      rw [if_pos (by simp at hc; omega)]
      unfold Dv.syn
      split
      · rfl
      · rfl
  · rw [if_neg h5] at hc
    by_cases h4 : o.k % 9 < 4
    · rw [if_pos h4] at hc
      have hc' := of_decide_eq_true hc
      by_cases h3 : o.k % 9 < 3
      · obtain ⟨G, hG, h⟩ := W (fullS o.xs) (fullS_len _) ⟨hc'.1, hc'.2.1, hc'.2.2.1⟩
        exact ⟨G, hG, fun X hX => by unfold plD; rw [if_pos h3]; exact h X hX⟩
      · obtain ⟨G, hG, h⟩ := W o.xs (by omega) ⟨hc'.1, hc'.2.1, hc'.2.2.1⟩
        exact ⟨G, hG, fun X hX => by unfold plD; rw [if_neg h3, if_pos (by omega)]; exact h X hX⟩
    · rw [if_neg h4] at hc; cases hc
theorem Hs.lens {D E : Dv} {left : Int} (h : Hs D E left) : ∀ k, k < 2 → (D.f k).length = 8 := fun k hk => by rw [h.f]; exact h.len k hk
theorem Hs.none {D E : Dv} {left : Int} (h : Hs D E left) {o : Opn} (ho : o.Ok) (hc : cnts o = false) : plD D o = D ∧ plD E o = E := ⟨pl_no h.lens ho hc, pl_no h.len ho hc⟩
theorem Hs.both {D E : Dv} {left : Int} (h : Hs D E left) {o : Opn} (ho : o.Ok) (hc : cnts o = true) (hl : 0 < left) : Hs (plD D o) (plD E o) (left - 1) := by
  obtain ⟨G, hG, hp⟩ := pl_yes ho hc
  have e1 := hp D h.lens
  have e2 := hp E h.len
  have c1 : cntB D.lim D.left = true := by rw [h.lim, h.left]; unfold cntB; simp; omega
  have c2 : cntB E.lim E.left = true := by rw [h.lim']; unfold cntB; simp
  rw [if_pos c1] at e1
  rw [if_pos c2] at e2
  rw [e1, e2]
  refine ⟨h.lim, h.lim', ?_, ?_, ?_, fun k hk => ?_⟩
  · show G D.f = G E.f
    rw [h.f]
  · show cntL D.lim D.left = _
    unfold cntL
    rw [h.lim, h.left, if_pos ⟨rfl, by omega⟩]
    omega
  · show cntD D.lim D.left D.dead = _
    unfold cntD
    rw [c1, h.dead, Bool.not_true, Bool.or_false, decide_eq_false (by omega), decide_eq_false (by omega)]
  · show (G E.f k).length = 8
    rw [hG]; exact h.len k hk
theorem Hs.one {D E : Dv} {left : Int} (h : Hs D E left) {o : Opn} (ho : o.Ok) (hc : cnts o = true) (hl : ¬ 0 < left) : Hs (plD D o) E (left - 1) := by
  obtain ⟨G, hG, hp⟩ := pl_yes ho hc
  have e1 := hp D h.lens
  have c1 : cntB D.lim D.left = false := by rw [h.lim, h.left]; unfold cntB; simp; omega
  rw [if_neg (by rw [c1]; decide)] at e1
  rw [e1]
  refine ⟨h.lim, h.lim', h.f, ?_, ?_, h.len⟩
  · show cntL D.lim D.left = _
    unfold cntL
    rw [h.lim, h.left]
    split <;> omega
  · show cntD D.lim D.left D.dead = _
    unfold cntD
    rw [c1, Bool.not_false, Bool.or_true, decide_eq_true (by omega)]
theorem Dv.Few.of_f {D E : Dv} {m : Nat} (h : E.Few m) (e : D.f = E.f) : D.Few m := fun k hk s hs => h k hk s (by rw [← e]; exact hs)
theorem crash_eq {D E : Dv} (h : D.f = E.f) (l : List Ft) : D.crash l = E.crash l := by
  have e : ∀ X : Dv, X.crash l = ⟨fun k => (X.f k).mapIdx (fun n s => if k < 2 ∨ (k = 2 ∧ n < 0) then crS l k n s else s), false, 0, false⟩ := fun _ => rfl
  rw [e D, e E, h]
theorem crash_few (D : Dv) (l : List Ft) : (D.crash l).Few 0 := fun k hk s hs => by
  have e : (D.crash l).f k = (D.f k).mapIdx (fun n s => if k < 2 ∨ (k = 2 ∧ n < 0) then crS l k n s else s) := rfl
  rw [e, List.mem_mapIdx] at hs
  obtain ⟨i, hi, e⟩ := hs
  rw [if_pos (.inl hk)] at e
  rw [← e]
  unfold crS Se.crash
  split <;> simp
theorem crash_len (D : Dv) (l : List Ft) (k : Nat) : ((D.crash l).f k).length = (D.f k).length := by
  have e : (D.crash l).f k = (D.f k).mapIdx (fun n s => if k < 2 ∨ (k = 2 ∧ n < 0) then crS l k n s else s) := rfl
  rw [e, List.length_mapIdx]
/-- what holds between two calls -/
def RelH (B0 : Nat) (w : World) (a b : Nat) (j : Nat) (left : Int) : Prop := ∃ D E : Dv, Pp none_ B0 w a b D E ∧ Hs D E left ∧ E.Few j
theorem RelH.start {B0 : Nat} {w : World} {a b : Nat} {M : Nat → Nat} (h8 : ∀ k, k < 2 → M k = 8) (n : Int) (hn : 0 ≤ n) (h : Pp none_ B0 w a b { newTo M 2 with lim := true, left := max n 0 } (newTo M 2)) : RelH B0 w a b 0 n := by
  refine ⟨_, _, h, ⟨rfl, rfl, rfl, rfl, ?_, fun k hk => ?_⟩, fun k hk s hs => ?_⟩
  · show false = _
    rw [decide_eq_false (by omega)]
  · unfold newTo; simp only [if_pos hk, List.length_replicate]; exact h8 k hk
  · unfold newTo at hs; simp only [if_pos hk] at hs
    rw [List.eq_of_mem_replicate hs]
    decide
end Go.Proofs.Ytplombkpefacgaa.Disk
