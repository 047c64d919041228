import Derived.Test.YtfkomfhnkpecfaaMem2
/- Recipes as lists of pairs; slices of stacks that are read as such lists. -/
namespace Go.Proofs.Stk
open Go.RowKit Go.WideShapes Go.Proofs.Mem
set_option linter.unusedVariables false
abbrev Pr := Int × Int
def flat (l : List Pr) : List Value := l.flatMap fun p => [.int .u32 p.1, .int .u64 p.2]
theorem flat_nil : flat [] = [] := rfl
theorem flat_cons (p : Pr) (l : List Pr) : flat (p :: l) = .int .u32 p.1 :: .int .u64 p.2 :: flat l := rfl
theorem flat_app (l m : List Pr) : flat (l ++ m) = flat l ++ flat m := by simp [flat]
theorem flat_len : ∀ (l : List Pr), (flat l).length = l.length * 2
  | [] => rfl
  | p :: l => by rw [flat_cons]; simp [flat_len l]; omega
theorem flat_at : ∀ (l : List Pr) (j : Nat), j < l.length → (flat l)[j * 2]? = some (.int .u32 (l.getD j (0, 0)).1) ∧ (flat l)[j * 2 + 1]? = some (.int .u64 (l.getD j (0, 0)).2)
  | [], j, h => by simp at h
  | p :: l, 0, h => by simp [flat_cons]
  | p :: l, j + 1, h => by
    have := flat_at l j (by simpa using h)
    rw [flat_cons, show (j + 1) * 2 = j * 2 + 1 + 1 by omega, show j * 2 + 1 + 1 + 1 = (j * 2 + 1) + 1 + 1 by omega]
    simpa using this
theorem flat_set : ∀ (l : List Pr) (j : Nat) (x : Int), j < l.length → (flat l).set (j * 2 + 1) (.int .u64 x) = flat (l.set j ((l.getD j (0, 0)).1, x))
  | [], j, x, h => by simp at h
  | p :: l, 0, x, h => by simp [flat_cons]
  | p :: l, j + 1, x, h => by
    have := flat_set l j x (by simpa using h)
    rw [flat_cons, show (j + 1) * 2 + 1 = (j * 2 + 1) + 1 + 1 by omega]
    simp [flat_cons, this]
/-- the slice v reads as the stacks l, below block B -/
def KR (w : World) (B : Nat) (v : Value) (l : List Pr) : Prop :=
  ∃ A c, v = .slice A l.length c ∧ l.length ≤ c ∧ c ≤ maxLen ∧ ∀ i u, (flat l)[i]? = some u → ∃ b off, A = some ⟨b, off, none⟩ ∧ b < B ∧ w.cell? ⟨b, off + i, none⟩ = some u
section
variable {w w' : World} {B B' : Nat} {v : Value} {l : List Pr}
theorem KR.form (h : KR w B v l) : ∃ A c, v = .slice A l.length c ∧ l.length ≤ c ∧ c ≤ maxLen := by
  obtain ⟨A, c, h1, h2, h3, _⟩ := h
  exact ⟨A, c, h1, h2, h3⟩
theorem KR.nil (w : World) (B : Nat) : KR w B (.slice none 0 0) [] := ⟨none, 0, rfl, Nat.le_refl _, Nat.zero_le _, fun i u h => by rw [flat_nil] at h; cases h⟩
theorem KR.keep (h : KR w B v l) (hk : ∀ p : Addr, p.block < B → w'.cell? p = w.cell? p) : KR w' B v l := by
  obtain ⟨A, c, h1, h2, h3, h5⟩ := h
  refine ⟨A, c, h1, h2, h3, fun i u hi => ?_⟩
  obtain ⟨b, off, e, hb, hc⟩ := h5 i u hi
  exact ⟨b, off, e, hb, (hk _ hb).trans hc⟩
theorem KR.more (h : KR w B v l) (hB : B ≤ B') : KR w B' v l := by
  obtain ⟨A, c, h1, h2, h3, h5⟩ := h
  refine ⟨A, c, h1, h2, h3, fun i u hi => ?_⟩
  obtain ⟨b, off, e, hb, hc⟩ := h5 i u hi
  exact ⟨b, off, e, by omega, hc⟩
theorem KR.below (h : KR w B v l) (hb : Below B w w') : KR w' B v l := h.keep fun _ hp => hb.cell hp
theorem KR.index {A : Option Addr} {c n : Nat} (h : KR w B (.slice A n c) l) (j : Nat) (hj : j < n) :
    ∃ b off, A = some ⟨b, off, none⟩ ∧ b < B ∧ w.cell? ⟨b, off + j * 2, none⟩ = some (.int .u32 (l.getD j (0, 0)).1) ∧ w.cell? ⟨b, off + j * 2 + 1, none⟩ = some (.int .u64 (l.getD j (0, 0)).2) := by
  obtain ⟨A', c', e, _, _, h5⟩ := h
  injection e with e1 e2 e3
  subst e1; subst e2
  obtain ⟨f1, f2⟩ := flat_at l j hj
  obtain ⟨b, off, e, hb, hc⟩ := h5 _ _ f1
  obtain ⟨b2, off2, e2, _, hc2⟩ := h5 _ _ f2
  rw [e] at e2; injection e2 with e2; injection e2 with e3 e4; subst e3; subst e4
  exact ⟨b, off, e, hb, hc, hc2⟩
theorem KR.of_own {base : Nat} {e : TypeId} {n : Nat} (h : w.ownsRow base e 2 v n (flat l)) (hn : l.length = n) : KR w w.heap.size v l := by
  rcases h.2 with ⟨rfl, h2⟩ | ⟨g, cap, cur, rfl, hg, hh, hnc, hm, _, _⟩
  · have : l = [] := List.eq_nil_of_length_eq_zero (hn.trans h2)
    subst this
    exact KR.nil _ _
  · subst hn
    refine ⟨some ⟨g, 0, none⟩, cap, rfl, by omega, hm, fun i u hu => ?_⟩
    have hlt := (h.lt g rfl).2
    have := h.cells (g := g) rfl i _ hu
    rw [show (⟨g, 0, none⟩ : Addr).add i = ⟨g, 0 + i, none⟩ from by rw [Go.WideShapes.add_plain]] at this
    exact ⟨g, 0, rfl, hlt, this⟩
end
/-- the same, in blocks from lo on -/
def KF (w : World) (lo : Nat) (v : Value) (l : List Pr) : Prop := KR w w.heap.size v l ∧ ∀ A n c, v = .slice A n c → l ≠ [] → ∃ b off, A = some ⟨b, off, none⟩ ∧ lo ≤ b
section
variable {w w' : World} {lo : Nat} {v : Value} {l : List Pr}
theorem KF.nil (w : World) (lo : Nat) : KF w lo (.slice none 0 0) [] := ⟨KR.nil _ _, fun _ _ _ _ h => absurd rfl h⟩
theorem KF.below (h : KF w lo v l) (hb : Below w.heap.size w w') : KF w' lo v l := ⟨(h.1.below hb).more hb.size, h.2⟩
theorem KF.lower (h : KF w lo v l) {lo' : Nat} (hl : lo' ≤ lo) : KF w lo' v l := ⟨h.1, fun A n c e hn => by
  obtain ⟨b, off, e2, hb⟩ := h.2 A n c e hn
  exact ⟨b, off, e2, by omega⟩⟩
theorem KF.setCell (h : KF w lo v l) {p : Addr} (hp : p.block < lo) (u : Value) : KF (w.setCell p u) lo v l := by
  refine ⟨?_, h.2⟩
  obtain ⟨A, c, h1, h2, h3, h5⟩ := h.1
  refine ⟨A, c, h1, h2, h3, fun i x hi => ?_⟩
  obtain ⟨b, off, e, hb, hc⟩ := h5 i x hi
  refine ⟨b, off, e, by simpa [World.setCell] using hb, ?_⟩
  obtain ⟨b2, off2, e2, hlo⟩ := h.2 A _ c h1 (by rintro rfl; simp [flat_nil] at hi)
  rw [e] at e2; injection e2 with e2; injection e2 with e3 e4; subst e3
  rw [World.cell?_setCell_other _ _ _ _ (by intro e; rw [e] at hp; simp at hp; omega)]
  exact hc
theorem KF.of_own {base : Nat} {e : TypeId} {n : Nat} (h : w.ownsRow base e 2 v n (flat l)) (hn : l.length = n) : KF w base v l := by
  refine ⟨KR.of_own h hn, fun A k c e2 hl => ?_⟩
  rcases h.2 with ⟨rfl, h2⟩ | ⟨g, cap, cur, rfl, hg, _⟩
  · exact absurd (List.eq_nil_of_length_eq_zero (hn.trans h2)) hl
  · injection e2 with e2 e3 e4
    exact ⟨g, 0, e2.symm, (h.lt g rfl).1⟩
end
/-- block g is just these stacks -/
def KO (w : World) (g : Nat) (t : TypeId) (l : List Pr) : Prop := w.heap[g]? = some (.cells (flat l).toArray t (0, 0))
section
variable {w w' : World} {g : Nat} {t : TypeId} {l : List Pr}
theorem KO.lt (h : KO w g t l) : g < w.heap.size := by
  rcases Nat.lt_or_ge g w.heap.size with hlt | hge
  · exact hlt
  · unfold KO at h; rw [Array.getElem?_eq_none hge] at h; cases h
theorem KO.cell (h : KO w g t l) (i : Nat) : w.cell? ⟨g, i, none⟩ = (flat l)[i]? := by
  unfold KO at h; simp [World.cell?, h]
theorem KO.frozen (h : KO w g t l) (i : Nat) : w.frozen? ⟨g, i, none⟩ = false := by
  unfold KO at h; simp [World.frozen?, h]
theorem KO.reads (h : KO w g t l) (hl : l.length ≤ 1000) : KR w w.heap.size (.slice (some ⟨g, 0, none⟩) l.length l.length) l :=
  ⟨_, _, rfl, Nat.le_refl _, by unfold maxLen; omega, fun i u hu => ⟨g, 0, rfl, h.lt, by rw [Nat.zero_add, h.cell]; exact hu⟩⟩
theorem KO.set_ (h : KO w g t l) (j : Nat) (x : Int) (hj : j < l.length) : KO (w.setCell ⟨g, j * 2 + 1, none⟩ (.int .u64 x)) g t (l.set j ((l.getD j (0, 0)).1, x)) := by
  unfold KO at h ⊢
  rw [← flat_set l j x hj]
  simp [World.setCell, Array.getElem?_modify, h]
theorem KO.far (h : KO w g t l) {p : Addr} (hp : g ≠ p.block) (u : Value) : KO (w.setCell p u) g t l := (Below.heap_setCell w p u g hp).trans h
theorem KO.alloc (h : KO w g t l) (o : Obj) : KO (w.alloc o) g t l := (Below.heap_alloc w o g h.lt).trans h
theorem KO.below {B : Nat} (h : KO w g t l) (hb : Below B w w') (hg : g < B) : KO w' g t l := (hb.block g hg).trans h
end
def lineS (id : Int) : List Pr × List Pr :=
  if id = 1 then ([(1, 2)], [(2, 1)]) else if id = 2 then ([(2, 1), (3, 1)], [(4, 1)]) else if id = 3 then ([(4, 1)], [(2, 1), (5, 3)]) else
  if id = 4 then ([(5, 10)], [(6, 1), (5, 1)]) else if id = 5 then ([(6, 1), (4, 2), (1, 5)], [(7, 1)]) else if id = 6 then ([(7, 1)], [(6, 1), (1, 4)]) else ([], [])
def isS (id : Int) : Bool := decide (1 ≤ id ∧ id ≤ 6)
def times (n : Int) (l : List Pr) : List Pr := l.map fun p => (p.1, p.2 * n)
def cnt (item : Int) : List Pr → Int
  | [] => 0
  | p :: l => if p.1 = item then p.2 else cnt item l
theorem times_len (n : Int) (l : List Pr) : (times n l).length = l.length := by simp [times]
theorem cnt_times (item n : Int) : ∀ l, cnt item (times n l) = cnt item l * n
  | [] => by simp [times, cnt]
  | p :: l => by
    show (if p.1 = item then p.2 * n else cnt item (times n l)) = _
    rw [cnt_times item n l]
    show _ = (if p.1 = item then p.2 else cnt item l) * n
    split <;> rfl
/-- which recipe: six, or none -/
theorem six {id : Int} {Q : Prop} (h1 : id = 1 → Q) (h2 : id = 2 → Q) (h3 : id = 3 → Q) (h4 : id = 4 → Q) (h5 : id = 5 → Q) (h6 : id = 6 → Q) (h0 : isS id = false → Q) : Q := by
  by_cases a1 : id = 1
  · exact h1 a1
  by_cases a2 : id = 2
  · exact h2 a2
  by_cases a3 : id = 3
  · exact h3 a3
  by_cases a4 : id = 4
  · exact h4 a4
  by_cases a5 : id = 5
  · exact h5 a5
  by_cases a6 : id = 6
  · exact h6 a6
  exact h0 (by unfold isS; simp; omega)
theorem lineS_none {id : Int} (h : isS id = false) : lineS id = ([], []) := by
  unfold isS at h; simp at h
  unfold lineS
  rw [if_neg (by omega), if_neg (by omega), if_neg (by omega), if_neg (by omega), if_neg (by omega), if_neg (by omega)]
/-- all numbers of a list are small -/
def small (l : List Pr) : Prop := l.length ≤ 3 ∧ ∀ p ∈ l, 0 ≤ p.1 ∧ p.1 ≤ 7 ∧ 1 ≤ p.2 ∧ p.2 ≤ 10
theorem lineS_small (id : Int) : small (lineS id).1 ∧ small (lineS id).2 := by
  refine six (id := id) ?_ ?_ ?_ ?_ ?_ ?_ ?_
  all_goals intro h
  all_goals first
    | (subst h; constructor <;> (constructor <;> simp [lineS]))
    | (rw [lineS_none h]; constructor <;> (constructor <;> simp))
end Go.Proofs.Stk
