import Derived.Test.YtbbphfhkedldmaaRecE
/- What the tests of package rec say, all records; two changes that are the same; what is too much. -/
namespace Go.Proofs.Ytbbphfhkedldmaa.Rec
open Go.ChangeShapes Go.WideShapes Go.ChangeAt Go.RowKit Go.IntWalk Go.Proofs.NumMath Go.Proofs.Mem Go.Proofs.CrcMath NumBytes CrcA
set_option linter.unusedVariables false
set_option linter.unusedSimpArgs false
set_option maxRecDepth 100000 in
set_option maxHeartbeats 4000000 in
theorem may_out (r : Rc) (hk : r.k < 1 ∨ 8 < r.k) (a b ta da : Value) (w : World) : Calls Try.prog 21 #[.agg (rcV r a b ta da)] w fun e w' => e = .returned (.bool (mayS r)) ∧ Below w.heap.size w w' := by
  have hq : mayS r = false := by unfold mayS mayF; rcases hk with h | h <;> simp [h]
  rw [hq]
  rcases hk with h | h
  · have d1 : decide (r.k < 1) = true := by simpa using h
    clear hq h
    go_enter Try.func21, Try.ntmps21
    go_wp2
    go_ret
    exact ⟨rfl, new_ (Below.refl _ _) _⟩
  · have d1 : decide (r.k < 1) = false := by simp; omega
    have d2 : decide (8 < r.k) = true := by simpa using h
    clear hq h
    go_enter Try.func21, Try.ntmps21
    go_wp2
    go_ret
    exact ⟨rfl, new_ (Below.refl _ _) _⟩
theorem may_any (r : Rc) (a b ta da : Value) (w : World) (B : Nat) (hB : B ≤ w.heap.size) (h : RcIn w B r a b ta da) : Calls Try.prog 21 #[.agg (rcV r a b ta da)] w fun e w' => e = .returned (.bool (mayS r)) ∧ Below w.heap.size w w' := by
  by_cases h1 : 1 ≤ r.k ∧ r.k ≤ 8
  · exact may_in r h1.1 h1.2 a b ta da w B hB h
  · exact may_out r (by omega) a b ta da w
def sameB (c d : Cg) : Bool := decide (c.pg = d.pg) && decide (c.sl = d.sl) && (c.had == d.had) && (c.has == d.has) && decide (c.xs = d.xs) && decide (c.ys = d.ys)
set_option maxRecDepth 100000 in
set_option maxHeartbeats 4000000 in
theorem same_change (c d : Cg) (hc : c.Ok) (hd : d.Ok) (a b a' b' : Value) (w : World) (B : Nat) (hB : B ≤ w.heap.size) (ha : IR w B .u8 a c.xs) (hb : IR w B .u8 b c.ys) (ha' : IR w B .u8 a' d.xs) (hb' : IR w B .u8 b' d.ys) :
    Calls Try.prog 19 #[.agg (cgC c.pg c.sl c.had c.has a b), .agg (cgC d.pg d.sl d.had d.has a' b')] w fun e w' => e = .returned (.bool (sameB c d)) ∧ Below w.heap.size w w' := by
  have up : ∀ u zs, IR w B .u8 u zs → IR ((w.alloc (.cells (cgC c.pg c.sl c.had c.has a b) 27)).alloc (.cells (cgC d.pg d.sl d.had d.has a' b') 27)) B .u8 u zs := fun u zs h => (h.alloc hB _).alloc (by simp; omega) _
  have h1 := (up _ _ ha).text (P := Try.prog) (dst := 9) Try.underlying25 Try.underlying5 Try.underlying9
  have h2 := (up _ _ ha').text (P := Try.prog) (dst := 9) Try.underlying25 Try.underlying5 Try.underlying9
  have h3 := (up _ _ hb).text (P := Try.prog) (dst := 9) Try.underlying25 Try.underlying5 Try.underlying9
  have h4 := (up _ _ hb').text (P := Try.prog) (dst := 9) Try.underlying25 Try.underlying5 Try.underlying9
  obtain ⟨q1, hq1⟩ : ∃ q, q = decide (c.pg = d.pg) := ⟨_, rfl⟩
  obtain ⟨q2, hq2⟩ : ∃ q, q = decide (c.sl = d.sl) := ⟨_, rfl⟩
  obtain ⟨q3, hq3⟩ : ∃ q, q = (c.had == d.had) := ⟨_, rfl⟩
  obtain ⟨q4, hq4⟩ : ∃ q, q = (c.has == d.has) := ⟨_, rfl⟩
  obtain ⟨q5, hq5⟩ : ∃ q, q = decide (c.xs = d.xs) := ⟨_, rfl⟩
  obtain ⟨q6, hq6⟩ : ∃ q, q = decide (c.ys = d.ys) := ⟨_, rfl⟩
  have e1 : (c.pg == d.pg) = q1 := by rw [hq1, beq_dec]
  have e2 : (c.sl == d.sl) = q2 := by rw [hq2, beq_dec]
  have e3 : (c.had == d.had) = q3 := hq3.symm
  have e4 : (c.has == d.has) = q4 := hq4.symm
  have e5 : ((strOfNums c.xs).toList == (strOfNums d.xs).toList) = q5 := by rw [hq5]; exact str_eq hc.2.2.1 hd.2.2.1
  have e6 : ((strOfNums c.ys).toList == (strOfNums d.ys).toList) = q6 := by rw [hq6]; exact str_eq hc.2.2.2 hd.2.2.2
  have hs : sameB c d = (q1 && q2 && q3 && q4 && q5 && q6) := by rw [hq1, hq2, hq3, hq4, hq5, hq6]; rfl
  have HS := Lib.hid hs
  obtain ⟨A1, c1, rfl, _, _⟩ := ha.form
  obtain ⟨A2, c2, rfl, _, _⟩ := ha'.form
  obtain ⟨A3, c3, rfl, _, _⟩ := hb.form
  obtain ⟨A4, c4, rfl, _, _⟩ := hb'.form
  clear ha ha' hb hb' up hq1 hq2 hq3 hq4 hq5 hq6 hc hd hs
  go_enter Try.func19, Try.ntmps19
  go_wp2
  all_goals
    go_ret
    exact ⟨by rw [HS.out]; simp [*], new_ (new_ (Below.refl _ _) _) _⟩
def heavyB (r : Rc) : Bool := decide (100 < r.ts.length) || decide (100 < r.ds.length) || decide (200 < r.c.xs.length) || decide (200 < r.c.ys.length)
set_option maxRecDepth 100000 in
set_option maxHeartbeats 4000000 in
theorem heavy_any (r : Rc) (a b ta da : Value) (w : World) (B : Nat) (h : RcIn w B r a b ta da) : Calls Try.prog 9 #[.agg (rcV r a b ta da)] w fun e w' => e = .returned (.bool (heavyB r)) ∧ Below w.heap.size w w' := by
  obtain ⟨A1, c1, rfl, hl1, hm1⟩ := h.a.form
  obtain ⟨A2, c2, rfl, hl2, hm2⟩ := h.b.form
  obtain ⟨A3, c3, rfl, hl3, hm3⟩ := h.t.form
  obtain ⟨A4, c4, rfl, hl4, hm4⟩ := h.d.form
  obtain ⟨q1, hq1⟩ : ∃ q, q = decide (100 < r.ts.length) := ⟨_, rfl⟩
  obtain ⟨q2, hq2⟩ : ∃ q, q = decide (100 < r.ds.length) := ⟨_, rfl⟩
  obtain ⟨q3, hq3⟩ : ∃ q, q = decide (200 < r.c.xs.length) := ⟨_, rfl⟩
  obtain ⟨q4, hq4⟩ : ∃ q, q = decide (200 < r.c.ys.length) := ⟨_, rfl⟩
  have d1 : decide ((100 : Int) < (r.ts.length : Int)) = q1 := by rw [hq1, decide_eq_decide]; omega
  have d2 : decide ((100 : Int) < (r.ds.length : Int)) = q2 := by rw [hq2, decide_eq_decide]; omega
  have d3 : decide ((200 : Int) < (r.c.xs.length : Int)) = q3 := by rw [hq3, decide_eq_decide]; omega
  have d4 : decide ((200 : Int) < (r.c.ys.length : Int)) = q4 := by rw [hq4, decide_eq_decide]; omega
  have hs : heavyB r = (q1 || q2 || q3 || q4) := by rw [hq1, hq2, hq3, hq4]; rfl
  have HS := Lib.hid hs
  clear hq1 hq2 hq3 hq4 hs h
  unfold maxLen at hm1 hm2 hm3 hm4
  go_enter Try.func9, Try.ntmps9
  go_wp2
  all_goals
    go_ret
    exact ⟨by rw [HS.out]; simp [*], new_ (Below.refl _ _) _⟩
end Go.Proofs.Ytbbphfhkedldmaa.Rec
