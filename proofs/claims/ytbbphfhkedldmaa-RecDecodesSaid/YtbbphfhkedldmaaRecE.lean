import Derived.Test.YtbbphfhkedldmaaRecC
import Derived.Test.YtbbphfhkedldmaaSs
/- What the tests of package rec say. -/
namespace Go.Proofs.Ytbbphfhkedldmaa.Rec
open Go.ChangeShapes Go.WideShapes Go.ChangeAt Go.RowKit Go.IntWalk Go.Proofs.NumMath Go.Proofs.Mem Go.Proofs.CrcMath NumBytes CrcA
set_option linter.unusedVariables false
set_option linter.unusedSimpArgs false
/-- a transaction that has not ended -/
structure Ac where
  t : Int
  l : Int
  u : Int
  s : Int
def Ac.Ok (a : Ac) : Prop := (0 ≤ a.t ∧ a.t ≤ 4294967295) ∧ (0 ≤ a.l ∧ a.l ≤ 18446744073709551615) ∧ (0 ≤ a.u ∧ a.u ≤ 18446744073709551615) ∧ (0 ≤ a.s ∧ a.s ≤ 255)
def cAc (a : Ac) : List Value := [.int .u32 a.t, .int .u64 a.l, .int .u64 a.u, .int .u8 a.s]
/-- a page that is other than on the disk -/
structure Dt where
  p : Int
  f : Int
def Dt.Ok (a : Dt) : Prop := (0 ≤ a.p ∧ a.p ≤ 4294967295) ∧ (0 ≤ a.f ∧ a.f ≤ 18446744073709551615)
def cDt (a : Dt) : List Value := [.int .u32 a.p, .int .u64 a.f]
/-- a change -/
structure Cg where
  pg : Int
  sl : Int
  had : Bool
  has : Bool
  xs : List Int
  ys : List Int
def Cg.Ok (c : Cg) : Prop := (0 ≤ c.pg ∧ c.pg ≤ 4294967295) ∧ (0 ≤ c.sl ∧ c.sl ≤ 65535) ∧ Bytes c.xs ∧ Bytes c.ys
/-- a record -/
structure Rc where
  k : Int
  t : Int
  p : Int
  n : Int
  c : Cg
  ts : List Ac
  ds : List Dt
def Rc.Ok (r : Rc) : Prop := (0 ≤ r.k ∧ r.k ≤ 255) ∧ (0 ≤ r.t ∧ r.t ≤ 4294967295) ∧ (0 ≤ r.p ∧ r.p ≤ 18446744073709551615) ∧ (0 ≤ r.n ∧ r.n ≤ 18446744073709551615) ∧ r.c.Ok ∧ (∀ a ∈ r.ts, a.Ok) ∧ (∀ a ∈ r.ds, a.Ok)
@[reducible] def rcV (r : Rc) (a b ta da : Value) : Array Value := #[.int .u8 r.k, .int .u32 r.t, .int .u64 r.p, .int .u64 r.n, .int .u32 r.c.pg, .int .u16 r.c.sl, .bool r.c.had, .bool r.c.has, a, b, ta, da]
structure RcIn (w : World) (B : Nat) (r : Rc) (a b ta da : Value) : Prop where
  a : IR w B .u8 a r.c.xs
  b : IR w B .u8 b r.c.ys
  t : SS cAc 4 w B ta r.ts
  d : SS cDt 2 w B da r.ds
theorem SS.alloc {α : Type} {F : α → List Value} {sz B : Nat} {w : World} {v : Value} {xs : List α} (h : SS F sz w B v xs) (hB : B ≤ w.heap.size) (o : Obj) : SS F sz (w.alloc o) B v xs := h.keep fun p hp => World.cell?_alloc_lt w o p (by omega)
theorem RcIn.below {w w' : World} {B : Nat} {r : Rc} {a b ta da : Value} (h : RcIn w B r a b ta da) (hb : Below B w w') : RcIn w' B r a b ta da := ⟨h.a.below hb, h.b.below hb, h.t.below hb, h.d.below hb⟩
theorem RcIn.alloc {w : World} {B : Nat} {r : Rc} {a b ta da : Value} (h : RcIn w B r a b ta da) (hB : B ≤ w.heap.size) (o : Obj) : RcIn (w.alloc o) B r a b ta da := ⟨h.a.alloc hB o, h.b.alloc hB o, SS.alloc h.t hB o, SS.alloc h.d hB o⟩
theorem beq_zero (n : Nat) : ((n : Int) == 0) = decide (n = 0) := by rw [Bool.eq_iff_iff]; simp
theorem use_ {p q : Prop} (h : p) (k : p → q) : q := k h
/-- a change is nothing -/
def nullB (pg sl : Int) (had has : Bool) (a b : Nat) : Bool := decide (pg = 0) && decide (sl = 0) && !had && !has && decide (a = 0) && decide (b = 0)
set_option maxHeartbeats 2000000 in
theorem noughts_any (pg sl : Int) (had has : Bool) (A1 A2 : Option Addr) (l1 l2 c1 c2 : Nat) (h1 : l1 ≤ maxLen) (h2 : l2 ≤ maxLen) (q : Bool) (hq : q = nullB pg sl had has l1 l2) (w : World) : Calls Try.prog 39 #[.agg #[.int .u32 pg, .int .u16 sl, .bool had, .bool has, .slice A1 l1 c1, .slice A2 l2 c2]] w fun e w' => e = .returned (.bool q) ∧ Below w.heap.size w w' := by
  unfold maxLen at h1 h2
  have HQ := Lib.hid hq
  clear hq
  go_enter Try.func39, Try.ntmps39
  go_wp2
  all_goals
    go_ret
    exact ⟨by rw [HQ.out]; simp [nullB, beq_zero, *], new_ (Below.refl _ _) _⟩
def sideB (is : Bool) (n : Nat) : Bool := decide (n ≤ 64) && (is || decide (n = 0))
def mayF (k : Int) (qc qn : Bool) (n m : Nat) (st q1 q2 : Bool) : Bool := !decide (k < 1) && !decide (8 < k) && (decide (k = 8) || (decide (n = 0) && decide (m = 0))) && (qc || qn) && decide (n ≤ 64) && decide (m ≤ 64) && st && q1 && q2
def okA (a : Ac) : Bool := decide (1 ≤ a.s) && decide (a.s ≤ 3)
def mayS (r : Rc) : Bool := mayF r.k (decide (r.k = 2) || decide (r.k = 3)) (nullB r.c.pg r.c.sl r.c.had r.c.has r.c.xs.length r.c.ys.length) r.ts.length r.ds.length (r.ts.all okA) (sideB r.c.had r.c.xs.length) (sideB r.c.has r.c.ys.length)
theorem take_all_snoc (l : List Ac) (j : Nat) (h : j < l.length) : (l.take (j + 1)).all okA = ((l.take j).all okA && okA l[j]) := by
  rw [List.take_succ_eq_append_getElem h, List.all_append]; simp
theorem beq_dec (a b : Int) : (a == b) = decide (a = b) := by rw [Bool.eq_iff_iff]; simp
theorem bne_dec (a b : Int) : (a != b) = !decide (a = b) := by rw [Bool.eq_iff_iff]; simp
set_option maxRecDepth 100000 in
set_option maxHeartbeats 8000000 in
theorem may_in (r : Rc) (hk1 : 1 ≤ r.k) (hk8 : r.k ≤ 8) (a b ta da : Value) (w : World) (B : Nat) (hB : B ≤ w.heap.size) (h : RcIn w B r a b ta da) : Calls Try.prog 21 #[.agg (rcV r a b ta da)] w fun e w' => e = .returned (.bool (mayS r)) ∧ Below w.heap.size w w' := by
  obtain ⟨A1, c1, e1, hl1, hm1⟩ := h.a.form
  obtain ⟨A2, c2, e2, hl2, hm2⟩ := h.b.form
  obtain ⟨A3, c3, e3, hl3, hm3⟩ := h.t.form
  obtain ⟨A4, c4, e4, hl4, hm4⟩ := h.d.form
  obtain ⟨L1, hL1⟩ : ∃ L, L = r.c.xs.length := ⟨_, rfl⟩
  obtain ⟨L2, hL2⟩ : ∃ L, L = r.c.ys.length := ⟨_, rfl⟩
  obtain ⟨L4, hL4⟩ : ∃ L, L = r.ds.length := ⟨_, rfl⟩
  obtain ⟨L3, hL3⟩ : ∃ L, L = r.ts.length := ⟨_, rfl⟩
  subst e1 e2 e3 e4
  rw [← hL1] at hl1 h ⊢
  rw [← hL2] at hl2 h ⊢
  rw [← hL3] at hl3 h ⊢
  rw [← hL4] at hl4 h ⊢
  have hi1 := Nat.le_trans hl1 hm1
  have hi2 := Nat.le_trans hl2 hm2
  have hi3 := Nat.le_trans hl3 hm3
  have hi4 := Nat.le_trans hl4 hm4
  have CH := fun W => Lib.hid (changes_any r.k W)
  have NO := fun W => Lib.hid (noughts_any r.c.pg r.c.sl r.c.had r.c.has A1 A2 L1 L2 c1 c2 hi1 hi2 _ rfl W)
  have S1 := fun W (hw : IR W B .u8 (.slice A1 L1 c1) r.c.xs) => Lib.hid (side_any r.c.had _ r.c.xs W B hw)
  have S2 := fun W (hw : IR W B .u8 (.slice A2 L2 c2) r.c.ys) => Lib.hid (side_any r.c.has _ r.c.ys W B hw)
  have hq : mayS r = mayF r.k (decide (r.k = 2) || decide (r.k = 3)) (nullB r.c.pg r.c.sl r.c.had r.c.has L1 L2) L3 L4 (r.ts.all okA) (sideB r.c.had L1) (sideB r.c.has L2) := by rw [hL1, hL2, hL3, hL4]; rfl
  rw [← hL1] at S1
  rw [← hL2] at S2
  have d1 : decide (r.k < 1) = false := by simp; omega
  have d2 : decide (8 < r.k) = false := by simp; omega
  obtain ⟨b8, hb8⟩ : ∃ b, b = decide (r.k = 8) := ⟨_, rfl⟩
  have d3 : (r.k == 8) = b8 := by rw [hb8, beq_dec]
  have d4 : (r.k != 8) = !b8 := by rw [hb8, bne_dec]
  obtain ⟨n3, hn3⟩ : ∃ b, b = decide (0 < L3) := ⟨_, rfl⟩
  obtain ⟨n4, hn4⟩ : ∃ b, b = decide (0 < L4) := ⟨_, rfl⟩
  obtain ⟨m3, hm3'⟩ : ∃ b, b = decide (64 < L3) := ⟨_, rfl⟩
  obtain ⟨m4, hm4'⟩ : ∃ b, b = decide (64 < L4) := ⟨_, rfl⟩
  have d5 : decide ((0 : Int) < (L3 : Int)) = n3 := by rw [hn3]; simp
  have d6 : decide ((0 : Int) < (L4 : Int)) = n4 := by rw [hn4]; simp
  have d7 : decide ((64 : Int) < (L3 : Int)) = m3 := by rw [hm3', decide_eq_decide]; omega
  have d8 : decide ((64 : Int) < (L4 : Int)) = m4 := by rw [hm4', decide_eq_decide]; omega
  have d5' : decide (0 < L3) = n3 := hn3.symm
  have d6' : decide (0 < L4) = n4 := hn4.symm
  generalize mayS r = q at *
  generalize hqc : (decide (r.k = 2) || decide (r.k = 3)) = qc at *
  generalize hqn : nullB r.c.pg r.c.sl r.c.had r.c.has L1 L2 = qn at *
  generalize hq1 : sideB r.c.had L1 = q1 at *
  generalize hq2 : sideB r.c.has L2 = q2 at *
  obtain ⟨nn, hnn⟩ : ∃ b, b = !qn := ⟨_, rfl⟩
  have dn : (!qn) = nn := hnn.symm
  unfold mayF at hq
  rw [show qn = !nn by rw [hnn]; simp] at hq
  clear hnn
  rw [d1, d2, ← hb8, show decide (L3 = 0) = !n3 by rw [hn3, ← decide_not, decide_eq_decide]; omega, show decide (L4 = 0) = !n4 by rw [hn4, ← decide_not, decide_eq_decide]; omega, show decide (L3 ≤ 64) = !m3 by rw [hm3', ← decide_not, decide_eq_decide]; omega, show decide (L4 ≤ 64) = !m4 by rw [hm4', ← decide_not, decide_eq_decide]; omega] at hq
  clear hb8 hk1 hk8 hn3 hn4 hm3' hm4'
  simp only [show (decide (L1 ≤ 64) && (r.c.had || decide (L1 = 0))) = q1 from hq1] at S1
  simp only [show (decide (L2 ≤ 64) && (r.c.has || decide (L2 = 0))) = q2 from hq2] at S2
  unfold maxLen at hi1 hi2 hi3 hi4
  have HQ := Lib.hid hq
  have HL3 := Lib.hid hL3
  have R := Lib.hid (h.alloc hB (.cells (rcV r (.slice A1 L1 c1) (.slice A2 L2 c2) (.slice A3 L3 c3) (.slice A4 L4 c4)) 31))
  have bx := Lib.hid (Box.new w (rcV r (.slice A1 L1 c1) (.slice A2 L2 c2) (.slice A3 L3 c3) (.slice A4 L4 c4)) 31)
  have HW := Lib.hid (new_ (Below.refl w.heap.size w) (.cells (rcV r (.slice A1 L1 c1) (.slice A2 L2 c2) (.slice A3 L3 c3) (.slice A4 L4 c4)) 31))
  clear hq hqc hqn hq1 hq2 hL1 hL2 hL3 hL4 h hm1 hm2 hm3 hm4 hl1 hl2 hl3 hl4
  go_enter Try.func21, Try.ntmps21
  go_wp2_with (first
    | (go_at_call 23; (with_reducible refine (CH _).out.mono ?_); rintro e w1 ⟨rfl, rfl⟩)
    | (go_at_call 39; (with_reducible refine (NO _).out.mono ?_); rintro e w2 ⟨rfl, hb2⟩; have b2 := Lib.hid (bx.out.later hb2); have k2 := b2.out.cell; have HB2 := Lib.hid (step_ HW.out hb2); have R2 := Lib.hid (R.out.below (hb2.mono (by simp; omega))); clear hb2))
  all_goals first
    | (go_ret; exact ⟨by rw [HQ.out]; simp [*], by first | exact HB2.out | exact HW.out⟩)
    | skip
  all_goals
    first
      | (have B9 := Lib.hid b2.out; have R9 := R2; have HB9 := HB2; clear k2)
      | (have B9 := bx; have R9 := R; have HB9 := HW)
    clear d5 d6 d5' d6' d7 d8 d3 d4 d1 d2 dn
    simp only [Bool.not_eq_true] at *
    try (refine use_ (p := m3 = false) ?_ (fun e => ?_); assumption; subst e)
    try (refine use_ (p := m4 = false) ?_ (fun e => ?_); assumption; subst e)
    try (refine use_ (p := b8 = true) ?_ (fun e => ?_); assumption; subst e)
    try (refine use_ (p := b8 = false) ?_ (fun e => ?_); assumption; subst e)
    try (refine use_ (p := n3 = false) ?_ (fun e => ?_); assumption; subst e)
    try (refine use_ (p := n4 = false) ?_ (fun e => ?_); assumption; subst e)
    try (refine use_ (p := qc = true) ?_ (fun e => ?_); assumption; subst e)
    try (refine use_ (p := qc = false) ?_ (fun e => ?_); assumption; subst e)
    try (refine use_ (p := nn = false) ?_ (fun e => ?_); assumption; subst e)
    go_loopw [51] (fun c wr => ∃ j : Nat, c = .int .i64 j ∧ j ≤ L3 ∧ Hid ((r.ts.take j).all okA = true) ∧ Hid (Box wr w.heap.size (rcV r (.slice A1 L1 c1) (.slice A2 L2 c2) (.slice A3 L3 c3) (.slice A4 L4 c4)) 31) ∧ Hid (RcIn wr B r (.slice A1 L1 c1) (.slice A2 L2 c2) (.slice A3 L3 c3) (.slice A4 L4 c4)) ∧ Hid (Below w.heap.size w wr)) (fun c _ => L3 - (intOf c).toNat)
    case atStart => exact ⟨0, rfl, Nat.zero_le _, Lib.hid (by simp), B9, R9, HB9⟩
    case round =>
      obtain ⟨j, rfl, hj, HA, BX, RR, HBB⟩ := hrel
      by_cases hlt : j < L3
      · have hlt' : j < r.ts.length := by have := HL3.out; omega
        obtain ⟨g, off, rfl, hg, hcell⟩ := RR.out.t.at_ (List.getElem?_eq_getElem hlt')
        have y0 : wr.cell? ⟨g, off + j * 4, none⟩ = some (.int .u32 r.ts[j].t) := hcell 0 _ rfl
        have y1 : wr.cell? ⟨g, off + j * 4 + 1, none⟩ = some (.int .u64 r.ts[j].l) := hcell 1 _ rfl
        have y2 : wr.cell? ⟨g, off + j * 4 + 2, none⟩ = some (.int .u64 r.ts[j].u) := hcell 2 _ rfl
        have y3 : wr.cell? ⟨g, off + j * 4 + 3, none⟩ = some (.int .u8 r.ts[j].s) := hcell 3 _ rfl
        have hsn := take_all_snoc r.ts j hlt'
        obtain ⟨s1, hs1⟩ : ∃ b, b = decide (r.ts[j].s < 1) := ⟨_, rfl⟩
        obtain ⟨s2, hs2⟩ : ∃ b, b = decide (3 < r.ts[j].s) := ⟨_, rfl⟩
        have d1 : decide (r.ts[j].s < 1) = s1 := hs1.symm
        have d2 : decide (3 < r.ts[j].s) = s2 := hs2.symm
        rw [HA.out, Bool.true_and, okA, show decide (1 ≤ r.ts[j].s) = !s1 by rw [hs1, ← decide_not, decide_eq_decide]; omega, show decide (r.ts[j].s ≤ 3) = !s2 by rw [hs2, ← decide_not, decide_eq_decide]; omega] at hsn
        have HS := Lib.hid hsn
        have hfull : r.ts.all okA = ((r.ts.take (j + 1)).all okA && (r.ts.drop (j + 1)).all okA) := by rw [← List.all_append, List.take_append_drop]
        have HF := Lib.hid hfull
        generalize r.ts[j].t = v0 at *
        generalize r.ts[j].l = v1 at *
        generalize r.ts[j].u = v2 at *
        generalize r.ts[j].s = v3 at *
        clear hcell hsn hs1 hs2 hfull
        go_wp2
        all_goals first
          | (go_ret; exact ⟨by rw [HQ.out, HF.out, HS.out]; simp [*], new_ HBB.out _⟩)
          | (go_roundw
             case rel => exact ⟨j + 1, by go_num, by omega, Lib.hid (by rw [HS.out]; simp [*]), Lib.hid (BX.out.alloc _), Lib.hid (RR.out.alloc (Nat.le_trans hB HBB.out.size) _), Lib.hid (new_ HBB.out _)⟩
             case measure => simp [intOf]; omega)
      · have hje : j = L3 := by omega
        have hall : r.ts.all okA = true := by have := HA.out; rwa [List.take_of_length_le (by have := HL3.out; omega)] at this
        have HALL := Lib.hid hall
        have k9 := BX.out.cell
        clear hall HA
        go_wp2_with (first
          | (go_at_call 40; (with_reducible refine (S1 _ RR.out.a).out.mono ?_); rintro e w3 ⟨rfl, rfl⟩)
          | (go_at_call 40; (with_reducible refine (S2 _ RR.out.b).out.mono ?_); rintro e w4 ⟨rfl, rfl⟩))
        all_goals
          go_ret
          exact ⟨by rw [HQ.out, HALL.out]; simp [*], HBB.out⟩
end Go.Proofs.Ytbbphfhkedldmaa.Rec
