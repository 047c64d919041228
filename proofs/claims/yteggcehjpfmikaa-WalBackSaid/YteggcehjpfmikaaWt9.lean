import Derived.Test.YteggcehjpfmikaaBox
import Derived.Test.YteggcehjpfmikaaFr
import Derived.Test.YteggcehjpfmikaaWt1
import Derived.Test.YteggcehjpfmikaaWt7
import Derived.Test.YteggcehjpfmikaaWt8
import Derived.Laws.OwnMore
namespace Go.Proofs.Yteggcehjpfmikaa.Rec
open Go.ChangeShapes Go.WideShapes Go.ChangeAt Go.RowKit Go.IntWalk Go.Proofs.NumMath Go.Proofs.Mem Go.Proofs.CrcMath NumBytes CrcA
set_option linter.unusedVariables false
set_option linter.unusedSimpArgs false
structure Ac where
  t : Int
  l : Int
  u : Int
  s : Int
def Ac.Ok (a : Ac) : Prop := (0 ≤ a.t ∧ a.t ≤ 4294967295) ∧ (0 ≤ a.l ∧ a.l ≤ 18446744073709551615) ∧ (0 ≤ a.u ∧ a.u ≤ 18446744073709551615) ∧ (0 ≤ a.s ∧ a.s ≤ 255)
def cAc (a : Ac) : List Value := [.int .u32 a.t, .int .u64 a.l, .int .u64 a.u, .int .u8 a.s]
structure Dt where
  p : Int
  f : Int
def Dt.Ok (a : Dt) : Prop := (0 ≤ a.p ∧ a.p ≤ 4294967295) ∧ (0 ≤ a.f ∧ a.f ≤ 18446744073709551615)
def cDt (a : Dt) : List Value := [.int .u32 a.p, .int .u64 a.f]
structure Cg where
  pg : Int
  sl : Int
  had : Bool
  has : Bool
  xs : List Int
  ys : List Int
def Cg.Ok (c : Cg) : Prop := (0 ≤ c.pg ∧ c.pg ≤ 4294967295) ∧ (0 ≤ c.sl ∧ c.sl ≤ 65535) ∧ Bytes c.xs ∧ Bytes c.ys
structure Rc where
  k : Int
  t : Int
  p : Int
  n : Int
  c : Cg
  ts : List Ac
  ds : List Dt
def Rc.Ok (r : Rc) : Prop := (0 ≤ r.k ∧ r.k ≤ 255) ∧ (0 ≤ r.t ∧ r.t ≤ 4294967295) ∧ (0 ≤ r.p ∧ r.p ≤ 18446744073709551615) ∧ (0 ≤ r.n ∧ r.n ≤ 18446744073709551615) ∧ r.c.Ok ∧ (∀ a ∈ r.ts, a.Ok) ∧ (∀ a ∈ r.ds, a.Ok)
@[reducible] def rcV (r : Rc) (a b ta da : Value) : Array Value := #[.int .u8 r.k, .int .u32 r.t, .int .u64 r.p, .int .u64 r.n, .int .u32 r.c.pg, .int .u16 r.c.sl, .bool r.c.had, .bool r.c.has, a, b, ta, da]
structure RcIn (w : World) (B : Nat) (r : Rc) (a b ta da : Value) : Prop where
  a : IR w B .u8 a r.c.xs
  b : IR w B .u8 b r.c.ys
  t : SS cAc 4 w B ta r.ts
  d : SS cDt 2 w B da r.ds
theorem SS.alloc {α : Type} {F : α → List Value} {sz B : Nat} {w : World} {v : Value} {xs : List α} (h : SS F sz w B v xs) (hB : B ≤ w.heap.size) (o : Obj) : SS F sz (w.alloc o) B v xs := h.keep fun p hp => World.cell?_alloc_lt w o p (by omega)
theorem RcIn.below {w w' : World} {B : Nat} {r : Rc} {a b ta da : Value} (h : RcIn w B r a b ta da) (hb : Below B w w') : RcIn w' B r a b ta da := ⟨h.a.below hb, h.b.below hb, h.t.below hb, h.d.below hb⟩
theorem RcIn.alloc {w : World} {B : Nat} {r : Rc} {a b ta da : Value} (h : RcIn w B r a b ta da) (hB : B ≤ w.heap.size) (o : Obj) : RcIn (w.alloc o) B r a b ta da := ⟨h.a.alloc hB o, h.b.alloc hB o, SS.alloc h.t hB o, SS.alloc h.d hB o⟩
theorem beq_zero (n : Nat) : ((n : Int) == 0) = decide (n = 0) := by rw [Bool.eq_iff_iff]; simp
theorem use_ {p q : Prop} (h : p) (k : p → q) : q := k h
def nullB (pg sl : Int) (had has : Bool) (a b : Nat) : Bool := decide (pg = 0) && decide (sl = 0) && !had && !has && decide (a = 0) && decide (b = 0)
set_option maxHeartbeats 2000000 in
theorem noughts_any (pg sl : Int) (had has : Bool) (A1 A2 : Option Addr) (l1 l2 c1 c2 : Nat) (h1 : l1 ≤ maxLen) (h2 : l2 ≤ maxLen) (q : Bool) (hq : q = nullB pg sl had has l1 l2) (w : World) : Calls Try.prog 81 #[.agg #[.int .u32 pg, .int .u16 sl, .bool had, .bool has, .slice A1 l1 c1, .slice A2 l2 c2]] w fun e w' => e = .returned (.bool q) ∧ Below w.heap.size w w' := by
  unfold maxLen at h1 h2
  have HQ := Lib.hid hq
  clear hq
  go_enter Try.func81, Try.ntmps81
  go_wp2
  all_goals
    go_ret
    exact ⟨by rw [HQ.out]; simp [nullB, beq_zero, *], new_ (Below.refl _ _) _⟩
def sideB (is : Bool) (n : Nat) : Bool := decide (n ≤ 64) && (is || decide (n = 0))
def mayF (k : Int) (qc qn : Bool) (n m : Nat) (st q1 q2 : Bool) : Bool := !decide (k < 1) && !decide (8 < k) && (decide (k = 8) || (decide (n = 0) && decide (m = 0))) && (qc || qn) && decide (n ≤ 64) && decide (m ≤ 64) && st && q1 && q2
def okA (a : Ac) : Bool := decide (1 ≤ a.s) && decide (a.s ≤ 3)
def mayS (r : Rc) : Bool := mayF r.k (decide (r.k = 2) || decide (r.k = 3)) (nullB r.c.pg r.c.sl r.c.had r.c.has r.c.xs.length r.c.ys.length) r.ts.length r.ds.length (r.ts.all okA) (sideB r.c.had r.c.xs.length) (sideB r.c.has r.c.ys.length)
theorem take_all_snoc (l : List Ac) (j : Nat) (h : j < l.length) : (l.take (j + 1)).all okA = ((l.take j).all okA && okA l[j]) := by
  rw [List.take_succ_eq_append_getElem h, List.all_append]; simp
theorem beq_dec (a b : Int) : (a == b) = decide (a = b) := by rw [Bool.eq_iff_iff]; simp
theorem bne_dec (a b : Int) : (a != b) = !decide (a = b) := by rw [Bool.eq_iff_iff]; simp
set_option maxRecDepth 100000 in
set_option maxHeartbeats 8000000 in
theorem may_in (r : Rc) (hk1 : 1 ≤ r.k) (hk8 : r.k ≤ 8) (a b ta da : Value) (w : World) (B : Nat) (hB : B ≤ w.heap.size) (h : RcIn w B r a b ta da) : Calls Try.prog 65 #[.agg (rcV r a b ta da)] w fun e w' => e = .returned (.bool (mayS r)) ∧ Below w.heap.size w w' := by
  obtain ⟨A1, c1, e1, hl1, hm1⟩ := h.a.form
  obtain ⟨A2, c2, e2, hl2, hm2⟩ := h.b.form
  obtain ⟨A3, c3, e3, hl3, hm3⟩ := h.t.form
  obtain ⟨A4, c4, e4, hl4, hm4⟩ := h.d.form
  obtain ⟨L1, hL1⟩ : ∃ L, L = r.c.xs.length := ⟨_, rfl⟩
  obtain ⟨L2, hL2⟩ : ∃ L, L = r.c.ys.length := ⟨_, rfl⟩
  obtain ⟨L4, hL4⟩ : ∃ L, L = r.ds.length := ⟨_, rfl⟩
  obtain ⟨L3, hL3⟩ : ∃ L, L = r.ts.length := ⟨_, rfl⟩
  subst e1 e2 e3 e4
  rw [← hL1] at hl1 h ⊢
  rw [← hL2] at hl2 h ⊢
  rw [← hL3] at hl3 h ⊢
  rw [← hL4] at hl4 h ⊢
  have hi1 := Nat.le_trans hl1 hm1
  have hi2 := Nat.le_trans hl2 hm2
  have hi3 := Nat.le_trans hl3 hm3
  have hi4 := Nat.le_trans hl4 hm4
  have CH := fun W => Lib.hid (changes_any r.k W)
  have NO := fun W => Lib.hid (noughts_any r.c.pg r.c.sl r.c.had r.c.has A1 A2 L1 L2 c1 c2 hi1 hi2 _ rfl W)
  have S1 := fun W (hw : IR W B .u8 (.slice A1 L1 c1) r.c.xs) => Lib.hid (side_any r.c.had _ r.c.xs W B hw)
  have S2 := fun W (hw : IR W B .u8 (.slice A2 L2 c2) r.c.ys) => Lib.hid (side_any r.c.has _ r.c.ys W B hw)
  have hq : mayS r = mayF r.k (decide (r.k = 2) || decide (r.k = 3)) (nullB r.c.pg r.c.sl r.c.had r.c.has L1 L2) L3 L4 (r.ts.all okA) (sideB r.c.had L1) (sideB r.c.has L2) := by rw [hL1, hL2, hL3, hL4]; rfl
  rw [← hL1] at S1
  rw [← hL2] at S2
  have d1 : decide (r.k < 1) = false := by simp; omega
  have d2 : decide (8 < r.k) = false := by simp; omega
  obtain ⟨b8, hb8⟩ : ∃ b, b = decide (r.k = 8) := ⟨_, rfl⟩
  have d3 : (r.k == 8) = b8 := by rw [hb8, beq_dec]
  have d4 : (r.k != 8) = !b8 := by rw [hb8, bne_dec]
  obtain ⟨n3, hn3⟩ : ∃ b, b = decide (0 < L3) := ⟨_, rfl⟩
  obtain ⟨n4, hn4⟩ : ∃ b, b = decide (0 < L4) := ⟨_, rfl⟩
  obtain ⟨m3, hm3'⟩ : ∃ b, b = decide (64 < L3) := ⟨_, rfl⟩
  obtain ⟨m4, hm4'⟩ : ∃ b, b = decide (64 < L4) := ⟨_, rfl⟩
  have d5 : decide ((0 : Int) < (L3 : Int)) = n3 := by rw [hn3]; simp
  have d6 : decide ((0 : Int) < (L4 : Int)) = n4 := by rw [hn4]; simp
  have d7 : decide ((64 : Int) < (L3 : Int)) = m3 := by rw [hm3', decide_eq_decide]; omega
  have d8 : decide ((64 : Int) < (L4 : Int)) = m4 := by rw [hm4', decide_eq_decide]; omega
  have d5' : decide (0 < L3) = n3 := hn3.symm
  have d6' : decide (0 < L4) = n4 := hn4.symm
  generalize mayS r = q at *
  generalize hqc : (decide (r.k = 2) || decide (r.k = 3)) = qc at *
  generalize hqn : nullB r.c.pg r.c.sl r.c.had r.c.has L1 L2 = qn at *
  generalize hq1 : sideB r.c.had L1 = q1 at *
  generalize hq2 : sideB r.c.has L2 = q2 at *
  obtain ⟨nn, hnn⟩ : ∃ b, b = !qn := ⟨_, rfl⟩
  have dn : (!qn) = nn := hnn.symm
  unfold mayF at hq
  rw [show qn = !nn by rw [hnn]; simp] at hq
  clear hnn
  rw [d1, d2, ← hb8, show decide (L3 = 0) = !n3 by rw [hn3, ← decide_not, decide_eq_decide]; omega, show decide (L4 = 0) = !n4 by rw [hn4, ← decide_not, decide_eq_decide]; omega, show decide (L3 ≤ 64) = !m3 by rw [hm3', ← decide_not, decide_eq_decide]; omega, show decide (L4 ≤ 64) = !m4 by rw [hm4', ← decide_not, decide_eq_decide]; omega] at hq
  clear hb8 hk1 hk8 hn3 hn4 hm3' hm4'
  simp only [show (decide (L1 ≤ 64) && (r.c.had || decide (L1 = 0))) = q1 from hq1] at S1
  simp only [show (decide (L2 ≤ 64) && (r.c.has || decide (L2 = 0))) = q2 from hq2] at S2
  unfold maxLen at hi1 hi2 hi3 hi4
  have HQ := Lib.hid hq
  have HL3 := Lib.hid hL3
  have R := Lib.hid (h.alloc hB (.cells (rcV r (.slice A1 L1 c1) (.slice A2 L2 c2) (.slice A3 L3 c3) (.slice A4 L4 c4)) 54))
  have bx := Lib.hid (Box.new w (rcV r (.slice A1 L1 c1) (.slice A2 L2 c2) (.slice A3 L3 c3) (.slice A4 L4 c4)) 54)
  have HW := Lib.hid (new_ (Below.refl w.heap.size w) (.cells (rcV r (.slice A1 L1 c1) (.slice A2 L2 c2) (.slice A3 L3 c3) (.slice A4 L4 c4)) 54))
  clear hq hqc hqn hq1 hq2 hL1 hL2 hL3 hL4 h hm1 hm2 hm3 hm4 hl1 hl2 hl3 hl4
  go_enter Try.func65, Try.ntmps65
  go_wp2_with (first
    | (go_at_call 67; (with_reducible refine (CH _).out.mono ?_); rintro e w1 ⟨rfl, rfl⟩)
    | (go_at_call 81; (with_reducible refine (NO _).out.mono ?_); rintro e w2 ⟨rfl, hb2⟩; have b2 := Lib.hid (bx.out.later hb2); have k2 := b2.out.cell; have HB2 := Lib.hid (step_ HW.out hb2); have R2 := Lib.hid (R.out.below (hb2.mono (by simp; omega))); clear hb2))
  all_goals first
    | (go_ret; exact ⟨by rw [HQ.out]; simp [*], by first | exact HB2.out | exact HW.out⟩)
    | skip
  all_goals
    first
      | (have B9 := Lib.hid b2.out; have R9 := R2; have HB9 := HB2; clear k2)
      | (have B9 := bx; have R9 := R; have HB9 := HW)
    clear d5 d6 d5' d6' d7 d8 d3 d4 d1 d2 dn
    simp only [Bool.not_eq_true] at *
    try (refine use_ (p := m3 = false) ?_ (fun e => ?_); assumption; subst e)
    try (refine use_ (p := m4 = false) ?_ (fun e => ?_); assumption; subst e)
    try (refine use_ (p := b8 = true) ?_ (fun e => ?_); assumption; subst e)
    try (refine use_ (p := b8 = false) ?_ (fun e => ?_); assumption; subst e)
    try (refine use_ (p := n3 = false) ?_ (fun e => ?_); assumption; subst e)
    try (refine use_ (p := n4 = false) ?_ (fun e => ?_); assumption; subst e)
    try (refine use_ (p := qc = true) ?_ (fun e => ?_); assumption; subst e)
    try (refine use_ (p := qc = false) ?_ (fun e => ?_); assumption; subst e)
    try (refine use_ (p := nn = false) ?_ (fun e => ?_); assumption; subst e)
    go_loopw [51] (fun c wr => ∃ j : Nat, c = .int .i64 j ∧ j ≤ L3 ∧ Hid ((r.ts.take j).all okA = true) ∧ Hid (Box wr w.heap.size (rcV r (.slice A1 L1 c1) (.slice A2 L2 c2) (.slice A3 L3 c3) (.slice A4 L4 c4)) 54) ∧ Hid (RcIn wr B r (.slice A1 L1 c1) (.slice A2 L2 c2) (.slice A3 L3 c3) (.slice A4 L4 c4)) ∧ Hid (Below w.heap.size w wr)) (fun c _ => L3 - (intOf c).toNat)
    case atStart => exact ⟨0, rfl, Nat.zero_le _, Lib.hid (by simp), B9, R9, HB9⟩
    case round =>
      obtain ⟨j, rfl, hj, HA, BX, RR, HBB⟩ := hrel
      by_cases hlt : j < L3
      · have hlt' : j < r.ts.length := by have := HL3.out; omega
        obtain ⟨g, off, rfl, hg, hcell⟩ := RR.out.t.at_ (List.getElem?_eq_getElem hlt')
        have y0 : wr.cell? ⟨g, off + j * 4, none⟩ = some (.int .u32 r.ts[j].t) := hcell 0 _ rfl
        have y1 : wr.cell? ⟨g, off + j * 4 + 1, none⟩ = some (.int .u64 r.ts[j].l) := hcell 1 _ rfl
        have y2 : wr.cell? ⟨g, off + j * 4 + 2, none⟩ = some (.int .u64 r.ts[j].u) := hcell 2 _ rfl
        have y3 : wr.cell? ⟨g, off + j * 4 + 3, none⟩ = some (.int .u8 r.ts[j].s) := hcell 3 _ rfl
        have hsn := take_all_snoc r.ts j hlt'
        obtain ⟨s1, hs1⟩ : ∃ b, b = decide (r.ts[j].s < 1) := ⟨_, rfl⟩
        obtain ⟨s2, hs2⟩ : ∃ b, b = decide (3 < r.ts[j].s) := ⟨_, rfl⟩
        have d1 : decide (r.ts[j].s < 1) = s1 := hs1.symm
        have d2 : decide (3 < r.ts[j].s) = s2 := hs2.symm
        rw [HA.out, Bool.true_and, okA, show decide (1 ≤ r.ts[j].s) = !s1 by rw [hs1, ← decide_not, decide_eq_decide]; omega, show decide (r.ts[j].s ≤ 3) = !s2 by rw [hs2, ← decide_not, decide_eq_decide]; omega] at hsn
        have HS := Lib.hid hsn
        have hfull : r.ts.all okA = ((r.ts.take (j + 1)).all okA && (r.ts.drop (j + 1)).all okA) := by rw [← List.all_append, List.take_append_drop]
        have HF := Lib.hid hfull
        generalize r.ts[j].t = v0 at *
        generalize r.ts[j].l = v1 at *
        generalize r.ts[j].u = v2 at *
        generalize r.ts[j].s = v3 at *
        clear hcell hsn hs1 hs2 hfull
        go_wp2
        all_goals first
          | (go_ret; exact ⟨by rw [HQ.out, HF.out, HS.out]; simp [*], new_ HBB.out _⟩)
          | (go_roundw
             case rel => exact ⟨j + 1, by go_num, by omega, Lib.hid (by rw [HS.out]; simp [*]), Lib.hid (BX.out.alloc _), Lib.hid (RR.out.alloc (Nat.le_trans hB HBB.out.size) _), Lib.hid (new_ HBB.out _)⟩
             case measure => simp [intOf]; omega)
      · have hje : j = L3 := by omega
        have hall : r.ts.all okA = true := by have := HA.out; rwa [List.take_of_length_le (by have := HL3.out; omega)] at this
        have HALL := Lib.hid hall
        have k9 := BX.out.cell
        clear hall HA
        go_wp2_with (first
          | (go_at_call 82; (with_reducible refine (S1 _ RR.out.a).out.mono ?_); rintro e w3 ⟨rfl, rfl⟩)
          | (go_at_call 82; (with_reducible refine (S2 _ RR.out.b).out.mono ?_); rintro e w4 ⟨rfl, rfl⟩))
        all_goals
          go_ret
          exact ⟨by rw [HQ.out, HALL.out]; simp [*], HBB.out⟩
end Go.Proofs.Yteggcehjpfmikaa.Rec
namespace Go.Proofs.Yteggcehjpfmikaa.Rec
open Go.ChangeShapes Go.WideShapes Go.ChangeAt Go.RowKit Go.IntWalk Go.Proofs.NumMath Go.Proofs.Mem Go.Proofs.CrcMath NumBytes CrcA
set_option linter.unusedVariables false
set_option linter.unusedSimpArgs false
set_option maxRecDepth 100000 in
set_option maxHeartbeats 4000000 in
theorem may_out (r : Rc) (hk : r.k < 1 ∨ 8 < r.k) (a b ta da : Value) (w : World) : Calls Try.prog 65 #[.agg (rcV r a b ta da)] w fun e w' => e = .returned (.bool (mayS r)) ∧ Below w.heap.size w w' := by
  have hq : mayS r = false := by unfold mayS mayF; rcases hk with h | h <;> simp [h]
  rw [hq]
  rcases hk with h | h
  · have d1 : decide (r.k < 1) = true := by simpa using h
    clear hq h
    go_enter Try.func65, Try.ntmps65
    go_wp2
    go_ret
    exact ⟨rfl, new_ (Below.refl _ _) _⟩
  · have d1 : decide (r.k < 1) = false := by simp; omega
    have d2 : decide (8 < r.k) = true := by simpa using h
    clear hq h
    go_enter Try.func65, Try.ntmps65
    go_wp2
    go_ret
    exact ⟨rfl, new_ (Below.refl _ _) _⟩
theorem may_any (r : Rc) (a b ta da : Value) (w : World) (B : Nat) (hB : B ≤ w.heap.size) (h : RcIn w B r a b ta da) : Calls Try.prog 65 #[.agg (rcV r a b ta da)] w fun e w' => e = .returned (.bool (mayS r)) ∧ Below w.heap.size w w' := by
  by_cases h1 : 1 ≤ r.k ∧ r.k ≤ 8
  · exact may_in r h1.1 h1.2 a b ta da w B hB h
  · exact may_out r (by omega) a b ta da w
def sameB (c d : Cg) : Bool := decide (c.pg = d.pg) && decide (c.sl = d.sl) && (c.had == d.had) && (c.has == d.has) && decide (c.xs = d.xs) && decide (c.ys = d.ys)
set_option maxRecDepth 100000 in
set_option maxHeartbeats 4000000 in
theorem same_change (c d : Cg) (hc : c.Ok) (hd : d.Ok) (a b a' b' : Value) (w : World) (B : Nat) (hB : B ≤ w.heap.size) (ha : IR w B .u8 a c.xs) (hb : IR w B .u8 b c.ys) (ha' : IR w B .u8 a' d.xs) (hb' : IR w B .u8 b' d.ys) :
    Calls Try.prog 45 #[.agg (cgC c.pg c.sl c.had c.has a b), .agg (cgC d.pg d.sl d.had d.has a' b')] w fun e w' => e = .returned (.bool (sameB c d)) ∧ Below w.heap.size w w' := by
  have up : ∀ u zs, IR w B .u8 u zs → IR ((w.alloc (.cells (cgC c.pg c.sl c.had c.has a b) 50)).alloc (.cells (cgC d.pg d.sl d.had d.has a' b') 50)) B .u8 u zs := fun u zs h => (h.alloc hB _).alloc (by simp; omega) _
  have h1 := (up _ _ ha).text (P := Try.prog) (dst := 9) Try.underlying48 Try.underlying5 Try.underlying9
  have h2 := (up _ _ ha').text (P := Try.prog) (dst := 9) Try.underlying48 Try.underlying5 Try.underlying9
  have h3 := (up _ _ hb).text (P := Try.prog) (dst := 9) Try.underlying48 Try.underlying5 Try.underlying9
  have h4 := (up _ _ hb').text (P := Try.prog) (dst := 9) Try.underlying48 Try.underlying5 Try.underlying9
  obtain ⟨q1, hq1⟩ : ∃ q, q = decide (c.pg = d.pg) := ⟨_, rfl⟩
  obtain ⟨q2, hq2⟩ : ∃ q, q = decide (c.sl = d.sl) := ⟨_, rfl⟩
  obtain ⟨q3, hq3⟩ : ∃ q, q = (c.had == d.had) := ⟨_, rfl⟩
  obtain ⟨q4, hq4⟩ : ∃ q, q = (c.has == d.has) := ⟨_, rfl⟩
  obtain ⟨q5, hq5⟩ : ∃ q, q = decide (c.xs = d.xs) := ⟨_, rfl⟩
  obtain ⟨q6, hq6⟩ : ∃ q, q = decide (c.ys = d.ys) := ⟨_, rfl⟩
  have e1 : (c.pg == d.pg) = q1 := by rw [hq1, beq_dec]
  have e2 : (c.sl == d.sl) = q2 := by rw [hq2, beq_dec]
  have e3 : (c.had == d.had) = q3 := hq3.symm
  have e4 : (c.has == d.has) = q4 := hq4.symm
  have e5 : ((strOfNums c.xs).toList == (strOfNums d.xs).toList) = q5 := by rw [hq5]; exact str_eq hc.2.2.1 hd.2.2.1
  have e6 : ((strOfNums c.ys).toList == (strOfNums d.ys).toList) = q6 := by rw [hq6]; exact str_eq hc.2.2.2 hd.2.2.2
  have hs : sameB c d = (q1 && q2 && q3 && q4 && q5 && q6) := by rw [hq1, hq2, hq3, hq4, hq5, hq6]; rfl
  have HS := Lib.hid hs
  obtain ⟨A1, c1, rfl, _, _⟩ := ha.form
  obtain ⟨A2, c2, rfl, _, _⟩ := ha'.form
  obtain ⟨A3, c3, rfl, _, _⟩ := hb.form
  obtain ⟨A4, c4, rfl, _, _⟩ := hb'.form
  clear ha ha' hb hb' up hq1 hq2 hq3 hq4 hq5 hq6 hc hd hs
  go_enter Try.func45, Try.ntmps45
  go_wp2
  all_goals
    go_ret
    exact ⟨by rw [HS.out]; simp [*], new_ (new_ (Below.refl _ _) _) _⟩
def heavyB (r : Rc) : Bool := decide (100 < r.ts.length) || decide (100 < r.ds.length) || decide (200 < r.c.xs.length) || decide (200 < r.c.ys.length)
end Go.Proofs.Yteggcehjpfmikaa.Rec
namespace Go.Proofs.Yteggcehjpfmikaa.Rec
open Go.ChangeShapes Go.WideShapes Go.ChangeAt Go.RowKit Go.IntWalk Go.Proofs.NumMath Go.Proofs.Mem Go.Proofs.CrcMath NumBytes CrcA
set_option linter.unusedVariables false
set_option linter.unusedSimpArgs false
theorem number_w (w : World) (g : Nat) (v : Value) (xs : List Int) (h : Wr w g v xs) (hl : xs.length ≤ 100000) (n K : Int) (k : Nat) (hK : K = (k : Int)) (h0 : 0 ≤ n) (h1 : n ≤ 18446744073709551615) (h2 : 1 ≤ k) (h3 : k ≤ 8) :
    Calls Try.prog 66 #[.pointer (some ⟨g, 0, none⟩), .int .u64 n, .int .i64 K] w fun e w' => e = .returned (.tuple #[]) ∧ ∃ v', Wr w' g v' (xs ++ putS n k) ∧ WrTo w w' g v v' := by
  subst hK
  refine (number_to w g v xs h hl n k h0 h1 (by omega) (by omega)).mono ?_
  rintro e w' ⟨rfl, v', h', hb⟩
  rw [Int.toNat_natCast] at h'
  exact ⟨rfl, v', h', hb⟩
set_option maxRecDepth 100000 in
set_option maxHeartbeats 4000000 in
theorem text_any (w : World) (g B : Nat) (v b : Value) (xs ys : List Int) (h : Wr w g v xs) (hl : xs.length ≤ 90000) (hb : IR w B .u8 b ys) (hB : B ≤ g) (hy : ys.length ≤ 1000) :
    Calls Try.prog 83 #[.pointer (some ⟨g, 0, none⟩), b] w fun e w' => e = .returned (.tuple #[]) ∧ ∃ v', Wr w' g v' (xs ++ putS ys.length 1 ++ ys) ∧ WrTo w w' g v v' := by
  obtain ⟨i0, hi0, hz0, hz1, hz2⟩ := info_parts u8_info
  obtain ⟨A, c, rfl, hl1, hm1⟩ := hb.form
  have NU := Lib.hid (number_w w g v xs h (by omega) ys.length 1 1 rfl (by omega) (by omega) (by decide) (by decide))
  have IB := Lib.hid hb
  have H0 := Lib.hid h
  have wk := u64_wrap (x := (ys.length : Int)) (by omega) (by omega)
  clear h hb
  go_enter Try.func83, Try.ntmps83
  go_wp2_with (first
    | (go_at_call 66; (with_reducible refine NU.out.mono ?_); rintro e w1 ⟨rfl, v1, wr1, hb1⟩; have W1 := Lib.hid wr1; have HB1 := Lib.hid hb1; have I1 := Lib.hid (IB.out.below ((hb1.below H0.out).mono hB)); have c1 := wr1.box.cell; clear wr1 hb1)
    | (at_builtin; refine wpList_append_tx _ rfl _ _ _ _ rfl (g + 1) 5 5 i0 .u8 1 Try.underlying129 Try.underlying48 hi0 hz0 hz1 hz2 v1 _ _ rfl W1.out.own B _ ys rfl I1.out (by rw [List.length_append, putS_len]; simp only [maxLen]; omega) (by rw [List.length_append, putS_len]; omega) W1.out.lt ?_; intro v2 w2 hown2 hg2 ho2
       have hb2 := W1.out.box.grown hg2 (fun e => by have := (W1.out.own.lt g e).1; omega)
       have HF := Lib.hid ((Fr.refl (fun x => x = g ∨ v1.ownBlock = some x) w1).grown hg2 (fun k e => .inl (.inr e)))
       have HO := Lib.hid ho2
       have HZ := Lib.hid hg2.size
       rw [← List.length_append] at hown2
       obtain ⟨A2, c2, e2, _, _⟩ := (IR.of_own hown2).form
       obtain ⟨n2, hn2⟩ : ∃ n, n = (xs ++ putS ys.length 1 ++ ys).length := ⟨_, rfl⟩
       rw [← hn2] at e2 hown2
       subst e2
       have HN := Lib.hid hn2
       have OW := Lib.hid hown2
       have BX := Lib.hid hb2
       have k2 := hb2.cell
       have f2 := hb2.frozen
       clear hown2 hb2 hg2 ho2 c1 hn2))
  go_end0
  refine ⟨rfl, .slice A2 n2 c2, ⟨BX.out.set_ 0 _, by rw [← HN.out]; exact own_set_far OW.out (Nat.lt_succ_self g) _, ?_⟩, HB1.out.trans ⟨HF.out.setCell (p := ⟨g, 0, none⟩) (.inl (.inl rfl)) _, HO.out.imp id (fun e => ⟨_, e, Nat.le_refl _⟩)⟩⟩
  exact Nat.lt_of_lt_of_le W1.out.lt (Nat.le_trans HZ.out (by simp))
def flagS (had has : Bool) : Int := (if had then 1 else 0) + (if has then 2 else 0)
def chgS (c : Cg) : List Int := putS c.pg 4 ++ putS c.sl 2 ++ putS (flagS c.had c.has) 1 ++ putS c.xs.length 1 ++ c.xs ++ putS c.ys.length 1 ++ c.ys
set_option maxRecDepth 100000 in
set_option maxHeartbeats 8000000 in
theorem wchange_any (w : World) (g B : Nat) (v a b : Value) (xs : List Int) (c : Cg) (hc : c.Ok) (h : Wr w g v xs) (hl : xs.length ≤ 80000) (ha : IR w B .u8 a c.xs) (hb : IR w B .u8 b c.ys) (hB : B ≤ g) (hx : c.xs.length ≤ 1000) (hy : c.ys.length ≤ 1000) :
    Calls Try.prog 68 #[.pointer (some ⟨g, 0, none⟩), .agg (cgC c.pg c.sl c.had c.has a b)] w fun e w' => e = .returned (.tuple #[]) ∧ ∃ v', Wr w' g v' (xs ++ chgS c) ∧ WrTo w w' g v v' := by
  obtain ⟨⟨p0, p1⟩, ⟨s0, s1⟩, hbx, hby⟩ := hc
  obtain ⟨pg, sl, had, has, cx, cy⟩ := c
  simp only at p0 p1 s0 s1 ha hb hx hy ⊢
  obtain ⟨X, hX⟩ : ∃ n, n = cx.length := ⟨_, rfl⟩
  obtain ⟨Y, hY⟩ : ∃ n, n = cy.length := ⟨_, rfl⟩
  have wp_ := u64_wrap (x := pg) (by omega) (by omega)
  have ws_ := u64_wrap (x := sl) (by omega) (by omega)
  obtain ⟨f, hf⟩ : ∃ f, f = flagS had has := ⟨_, rfl⟩
  have hf0 : 0 ≤ f ∧ f ≤ 3 := by rw [hf]; cases had <;> cases has <;> decide
  have hs : xs ++ chgS ⟨pg, sl, had, has, cx, cy⟩ = xs ++ putS pg 4 ++ putS sl 2 ++ putS f 1 ++ putS X 1 ++ cx ++ putS Y 1 ++ cy := by rw [hf, hX, hY]; simp [chgS]
  have HS := Lib.hid hs
  have N1 := Lib.hid (fun W v (h : Wr W g v xs) => number_w W g v xs h (by omega) pg 4 4 rfl p0 (by omega) (by decide) (by decide))
  have N2 := Lib.hid (fun W v (h : Wr W g v (xs ++ putS pg 4)) => number_w W g v _ h (by simp [putS_len]; omega) sl 2 2 rfl s0 (by omega) (by decide) (by decide))
  have N3 := Lib.hid (fun W v (h : Wr W g v (xs ++ putS pg 4 ++ putS sl 2)) => number_w W g v _ h (by simp [putS_len]; omega) f 1 1 rfl hf0.1 (by omega) (by decide) (by decide))
  have T1 := Lib.hid (fun W v (h : Wr W g v (xs ++ putS pg 4 ++ putS sl 2 ++ putS f 1)) (h2 : IR W B .u8 a cx) => text_any W g B v a _ cx h (by simp [putS_len]; omega) h2 hB hx)
  have T2 := Lib.hid (fun W v (h : Wr W g v (xs ++ putS pg 4 ++ putS sl 2 ++ putS f 1 ++ putS X 1 ++ cx)) (h2 : IR W B .u8 b cy) => text_any W g B v b _ cy h (by simp [putS_len]; omega) h2 hB hy)
  obtain ⟨A1, c1, rfl, _, _⟩ := ha.form
  obtain ⟨A2, c2, rfl, _, _⟩ := hb.form
  rw [← hX] at ha T1 ⊢
  rw [← hY] at hb T2 ⊢
  obtain ⟨w0, hw0⟩ : ∃ w0, w.alloc (.cells (cgC pg sl had has (.slice A1 X c1) (.slice A2 Y c2)) 50) = w0 := ⟨_, rfl⟩
  have hb0 : Below w.heap.size w w0 := by rw [← hw0]; exact new_ (Below.refl _ _) _
  have bx0 : Box w0 w.heap.size (cgC pg sl had has (.slice A1 X c1) (.slice A2 Y c2)) 50 := by rw [← hw0]; exact Box.new _ _ _
  have W0 := Lib.hid (h.later hb0)
  have T0 := Lib.hid (show WrTo w w0 g v v from ⟨Fr.of_below hb0, .inl rfl⟩)
  have NB : Hid (∀ (v' : Value) W, WrTo w0 W g v v' → Box W w.heap.size (cgC pg sl had has (.slice A1 X c1) (.slice A2 Y c2)) 50 ∧ Below g w W) := Lib.hid (fun v' W ht => ⟨ht.box bx0 (by have := h.lt; omega) (fun e => by have := (h.own.lt _ e).2; omega), (hb0.mono (Nat.le_of_lt h.lt)).trans (ht.below (h.later hb0))⟩)
  have IA := Lib.hid ha
  have IB := Lib.hid hb
  have BG := Lib.hid hB
  rw [HS.out]
  clear h hf0 hs ha hb hb0 hB HS hX hY hx hy
  have FIN : ∀ W v' zs, WrTo w0 W g v v' → Wr W g v' zs → ∃ v', Wr W g v' zs ∧ WrTo w W g v v' := fun W v' zs ht hw => ⟨v', hw, T0.out.trans ht⟩
  have FIN := Lib.hid FIN
  cases had <;> cases has
  all_goals
    rw [flagS] at hf
    simp only [Bool.false_eq_true, if_false, if_true, Int.zero_add, Int.add_zero, Int.reduceAdd] at hf
    subst hf
    have k0 := bx0.cell
    have hw0' : w.alloc (.cells #[.int .u32 pg, .int .u16 sl, .bool _, .bool _, .slice A1 X c1, .slice A2 Y c2] 50) = w0 := hw0
    have HW0 := Lib.hid hw0'
    have b01 : bits BinOp.or IntKind.u64 0 1 = 1 := by decide +kernel
    have b02 : bits BinOp.or IntKind.u64 0 2 = 2 := by decide +kernel
    have b12 : bits BinOp.or IntKind.u64 1 2 = 3 := by decide +kernel
    clear bx0 hw0 hw0'
    go_enter Try.func68, Try.ntmps68
    go_wp2_with fail
    rw [HW0.out]
    (with_reducible refine (N1.out _ _ W0.out).mono ?_)
    rintro e w1 ⟨rfl, v1, W1, t1⟩
    have k1 := (NB.out _ _ t1).1.cell
    have T1' := Lib.hid t1
    have W1' := Lib.hid W1
    clear t1 W1 k0
    go_wp2_with fail
    (with_reducible refine (N2.out _ _ W1'.out).mono ?_)
    rintro e w2 ⟨rfl, v2, W2, t2⟩
    have T2' := Lib.hid (T1'.out.trans t2)
    have k2 := (NB.out _ _ T2'.out).1.cell
    have W2' := Lib.hid W2
    clear t2 W2 k1
    go_wp2_with fail
    (with_reducible refine (N3.out _ _ W2'.out).mono ?_)
    rintro e w3 ⟨rfl, v3, W3, t3⟩
    have T3' := Lib.hid (T2'.out.trans t3)
    have k3 := (NB.out _ _ T3'.out).1.cell
    have W3' := Lib.hid W3
    clear t3 W3 k2
    go_wp2_with fail
    (with_reducible refine (T1.out _ _ W3'.out (IA.out.below ((NB.out _ _ T3'.out).2.mono BG.out))).mono ?_)
    rintro e w4 ⟨rfl, v4, W4, t4⟩
    have T4' := Lib.hid (T3'.out.trans t4)
    have k4 := (NB.out _ _ T4'.out).1.cell
    have W4' := Lib.hid W4
    clear t4 W4 k3
    go_wp2_with fail
    (with_reducible refine (T2.out _ _ W4'.out (IB.out.below ((NB.out _ _ T4'.out).2.mono BG.out))).mono ?_)
    rintro e w5 ⟨rfl, v5, W5, t5⟩
    have F5 := Lib.hid (FIN.out _ _ _ (T4'.out.trans t5) W5)
    clear t5 W5 k4
    go_wp2
    go_end0
    exact ⟨rfl, F5.out⟩
end Go.Proofs.Yteggcehjpfmikaa.Rec
namespace Go.Proofs.Yteggcehjpfmikaa.Rec
open Go.ChangeShapes Go.WideShapes Go.ChangeAt Go.RowKit Go.IntWalk Go.Proofs.NumMath Go.Proofs.Mem Go.Proofs.CrcMath NumBytes CrcA
set_option linter.unusedVariables false
set_option linter.unusedSimpArgs false
def acS (a : Ac) : List Int := putS a.t 4 ++ putS a.l 8 ++ putS a.u 8 ++ putS a.s 1
def dtS (a : Dt) : List Int := putS a.p 4 ++ putS a.f 8
def acsS (l : List Ac) : List Int := l.flatMap acS
def dtsS (l : List Dt) : List Int := l.flatMap dtS
theorem acs_len : ∀ l : List Ac, (acsS l).length = 21 * l.length
  | [] => rfl
  | a :: l => by have := acs_len l; simp only [acsS, List.flatMap_cons, List.length_append, List.length_cons] at this ⊢; rw [this]; simp [acS, putS_len]; omega
theorem dts_len : ∀ l : List Dt, (dtsS l).length = 12 * l.length
  | [] => rfl
  | a :: l => by have := dts_len l; simp only [dtsS, List.flatMap_cons, List.length_append, List.length_cons] at this ⊢; rw [this]; simp [dtS, putS_len]; omega
theorem acs_snoc (l : List Ac) (j : Nat) (h : j < l.length) : acsS (l.take (j + 1)) = acsS (l.take j) ++ putS l[j].t 4 ++ putS l[j].l 8 ++ putS l[j].u 8 ++ putS l[j].s 1 := by
  unfold acsS; rw [List.take_succ_eq_append_getElem h, List.flatMap_append]; simp [acS]
theorem dts_snoc (l : List Dt) (j : Nat) (h : j < l.length) : dtsS (l.take (j + 1)) = dtsS (l.take j) ++ putS l[j].p 4 ++ putS l[j].f 8 := by
  unfold dtsS; rw [List.take_succ_eq_append_getElem h, List.flatMap_append]; simp [dtS]
def tabS (ts : List Ac) (ds : List Dt) : List Int := putS ts.length 1 ++ acsS ts ++ putS ds.length 1 ++ dtsS ds
set_option maxRecDepth 100000 in
set_option maxHeartbeats 8000000 in
theorem tables_any (w : World) (g B : Nat) (v a b : Value) (xs : List Int) (ts : List Ac) (ds : List Dt) (ht : ∀ x ∈ ts, x.Ok) (hd : ∀ x ∈ ds, x.Ok) (h : Wr w g v xs) (hl : xs.length ≤ 50000) (ha : SS cAc 4 w B a ts) (hb : SS cDt 2 w B b ds) (hB : B ≤ g) (hx : ts.length ≤ 1000) (hy : ds.length ≤ 1000) :
    Calls Try.prog 69 #[.pointer (some ⟨g, 0, none⟩), a, b] w fun e w' => e = .returned (.tuple #[]) ∧ ∃ v', Wr w' g v' (xs ++ tabS ts ds) ∧ WrTo w w' g v v' := by
  obtain ⟨A1, c1, rfl, hl1, hm1⟩ := ha.form
  obtain ⟨A2, c2, rfl, hl2, hm2⟩ := hb.form
  obtain ⟨L1, hL1⟩ : ∃ n, n = ts.length := ⟨_, rfl⟩
  obtain ⟨L2, hL2⟩ : ∃ n, n = ds.length := ⟨_, rfl⟩
  unfold maxLen at hm1 hm2
  have w1_ := u64_wrap (x := (L1 : Int)) (by omega) (by omega)
  have w2_ := u64_wrap (x := (L2 : Int)) (by omega) (by omega)
  have N1 := Lib.hid (fun W v (h : Wr W g v xs) => number_w W g v xs h (by omega) L1 1 1 rfl (by omega) (by omega) (by decide) (by decide))
  have N2 := Lib.hid (fun W v zs (h : Wr W g v zs) (hz : zs.length ≤ 90000) => number_w W g v zs h (by omega) L2 1 1 rfl (by omega) (by omega) (by decide) (by decide))
  have hfin : xs ++ tabS ts ds = xs ++ putS L1 1 ++ acsS ts ++ putS L2 1 ++ dtsS ds := by rw [hL1, hL2]; simp [tabS]
  rw [hfin]
  have HA := Lib.hid ha
  have HB := Lib.hid hb
  have BG := Lib.hid hB
  have H0 := Lib.hid h
  have HL1 := Lib.hid hL1
  have HL2 := Lib.hid hL2
  have HT := Lib.hid ht
  have HD := Lib.hid hd
  rw [← hL1] at hl1 hx ⊢
  rw [← hL2] at hl2 hy ⊢
  clear ha hb hB h hL1 hL2 ht hd hfin
  go_enter Try.func69, Try.ntmps69
  go_wp2_with fail
  (with_reducible refine (N1.out _ _ H0.out).mono ?_)
  rintro e w1 ⟨rfl, v1, wr1, t1⟩
  have W1 := Lib.hid wr1
  have T1 := Lib.hid t1
  clear wr1 t1
  go_wp2_with fail
  go_loopw [17] (fun i wr => ∃ (j : Nat) (v' : Value), i = .int .i64 j ∧ j ≤ L1 ∧ Hid (Wr wr g v' (xs ++ putS L1 1 ++ acsS (ts.take j))) ∧ Hid (WrTo w wr g v v')) (fun i _ => L1 - (intOf i).toNat)
  case atStart => exact ⟨0, _, rfl, Nat.zero_le _, Lib.hid (by have := W1.out; simpa [acsS] using this), T1⟩
  case round =>
    obtain ⟨j, v', rfl, hj, HW, HTo⟩ := hrel
    by_cases hlt : j < L1
    · have hlt' : j < ts.length := by have := HL1.out; omega
      have hok := HT.out ts[j] (List.getElem_mem hlt')
      have hz : (xs ++ putS L1 1 ++ acsS (ts.take j)).length ≤ 90000 := by simp [putS_len, acs_len, dts_len, List.length_take]; have := HL1.out; have := HL2.out; omega
      obtain ⟨gg, off, rfl, hgg, hcell⟩ := (HA.out.below ((HTo.out.below H0.out).mono BG.out)).at_ (List.getElem?_eq_getElem hlt')
      have y0 : wr.cell? ⟨gg, off + j * 4, none⟩ = some (.int .u32 ts[j].t) := hcell 0 _ rfl
      have y1 : wr.cell? ⟨gg, off + j * 4 + 1, none⟩ = some (.int .u64 ts[j].l) := hcell 1 _ rfl
      have y2 : wr.cell? ⟨gg, off + j * 4 + 2, none⟩ = some (.int .u64 ts[j].u) := hcell 2 _ rfl
      have y3 : wr.cell? ⟨gg, off + j * 4 + 3, none⟩ = some (.int .u8 ts[j].s) := hcell 3 _ rfl
      have SN := Lib.hid (acs_snoc ts j hlt')
      obtain ⟨⟨o0, p0⟩, ⟨o1, p1⟩, ⟨o2, p2⟩, ⟨o3, p3⟩⟩ := hok
      generalize ts[j].t = z0 at *
      generalize ts[j].l = z1 at *
      generalize ts[j].u = z2 at *
      generalize ts[j].s = z3 at *
      have e0 := u64_wrap (x := z0) (by omega) (by omega)
      have e3 := u64_wrap (x := z3) (by omega) (by omega)
      have M0 := Lib.hid (fun W u (h : Wr W g u (xs ++ putS L1 1 ++ acsS (ts.take j))) => number_w W g u _ h (by simp only [List.length_append, putS_len] at hz ⊢; omega) z0 4 4 rfl o0 (by omega) (by decide) (by decide))
      have M1 := Lib.hid (fun W u (h : Wr W g u ((xs ++ putS L1 1 ++ acsS (ts.take j)) ++ putS z0 4)) => number_w W g u _ h (by simp only [List.length_append, putS_len] at hz ⊢; omega) z1 8 8 rfl o1 (by omega) (by decide) (by decide))
      have M2 := Lib.hid (fun W u (h : Wr W g u (((xs ++ putS L1 1 ++ acsS (ts.take j)) ++ putS z0 4) ++ putS z1 8)) => number_w W g u _ h (by simp only [List.length_append, putS_len] at hz ⊢; omega) z2 8 8 rfl o2 (by omega) (by decide) (by decide))
      have M3 := Lib.hid (fun W u (h : Wr W g u ((((xs ++ putS L1 1 ++ acsS (ts.take j)) ++ putS z0 4) ++ putS z1 8) ++ putS z2 8)) => number_w W g u _ h (by simp only [List.length_append, putS_len] at hz ⊢; omega) z3 1 1 rfl o3 (by omega) (by decide) (by decide))
      obtain ⟨w0, hw0⟩ : ∃ w0, wr.alloc (.cells #[.int .u32 z0, .int .u64 z1, .int .u64 z2, .int .u8 z3] 101) = w0 := ⟨_, rfl⟩
      have hb0 : Below wr.heap.size wr w0 := by rw [← hw0]; exact new_ (Below.refl _ _) _
      have bx0 : Box w0 wr.heap.size #[.int .u32 z0, .int .u64 z1, .int .u64 z2, .int .u8 z3] 101 := by rw [← hw0]; exact Box.new _ _ _
      have U0 := Lib.hid (HW.out.later hb0)
      have T0 := Lib.hid (show WrTo wr w0 g v' v' from ⟨Fr.of_below hb0, .inl rfl⟩)
      have NB : Hid (∀ (u : Value) W, WrTo w0 W g v' u → Box W wr.heap.size #[.int .u32 z0, .int .u64 z1, .int .u64 z2, .int .u8 z3] 101) := Lib.hid (fun u W ht => ht.box bx0 (by have := HW.out.lt; omega) (fun e => by have := (HW.out.own.lt _ e).2; omega))
      have k0 := bx0.cell
      have HW0 := Lib.hid hw0
      clear hcell bx0 hb0 hw0 hz
      go_wp2_with fail
      rw [HW0.out]
      (with_reducible refine (M0.out _ _ U0.out).mono ?_)
      rintro e x1 ⟨rfl, u1_, wr1, t1⟩
      have S1 := Lib.hid (t1)
      have U1 := Lib.hid wr1
      have kk1 := (NB.out _ _ S1.out).cell
      clear wr1 t1 k0
      go_wp2_with fail
      (with_reducible refine (M1.out _ _ U1.out).mono ?_)
      rintro e x2 ⟨rfl, u2_, wr2, t2⟩
      have S2 := Lib.hid (S1.out.trans t2)
      have U2 := Lib.hid wr2
      have kk2 := (NB.out _ _ S2.out).cell
      clear wr2 t2 kk1
      go_wp2_with fail
      (with_reducible refine (M2.out _ _ U2.out).mono ?_)
      rintro e x3 ⟨rfl, u3_, wr3, t3⟩
      have S3 := Lib.hid (S2.out.trans t3)
      have U3 := Lib.hid wr3
      have kk3 := (NB.out _ _ S3.out).cell
      clear wr3 t3 kk2
      go_wp2_with fail
      (with_reducible refine (M3.out _ _ U3.out).mono ?_)
      rintro e x4 ⟨rfl, u4_, wr4, t4⟩
      have S4 := Lib.hid (S3.out.trans t4)
      have U4 := Lib.hid wr4
      have kk4 := (NB.out _ _ S4.out).cell
      clear wr4 t4 kk3
      go_wp2
      go_roundw
      case rel => exact ⟨j + 1, _, by go_num, by omega, Lib.hid (by have := U4.out; rw [SN.out]; simpa [List.append_assoc] using this), Lib.hid (HTo.out.trans (T0.out.trans S4.out))⟩
      case measure => simp [intOf]; omega
    · have hje : j = L1 := by omega
      have hw2 := HW.out
      rw [List.take_of_length_le (by have := HL1.out; omega)] at hw2
      have W2 := Lib.hid hw2
      have hz2 : (xs ++ putS L1 1 ++ acsS ts).length ≤ 90000 := by simp [putS_len, acs_len]; have := HL1.out; omega
      have HZ2 := Lib.hid hz2
      clear hw2 hz2
      go_wp2_with fail
      (with_reducible refine (N2.out _ _ _ W2.out HZ2.out).mono ?_)
      rintro e w3 ⟨rfl, v3, wr3, t3⟩
      have W3 := Lib.hid wr3
      have T3 := Lib.hid (HTo.out.trans t3)
      clear wr3 t3 HW HTo hlt hj hje
      go_wp2_with fail
      go_loopw [47] (fun i wr => ∃ (j : Nat) (v' : Value), i = .int .i64 j ∧ j ≤ L2 ∧ Hid (Wr wr g v' (xs ++ putS L1 1 ++ acsS ts ++ putS L2 1 ++ dtsS (ds.take j))) ∧ Hid (WrTo w wr g v v')) (fun i _ => L2 - (intOf i).toNat)
      case atStart => exact ⟨0, _, rfl, Nat.zero_le _, Lib.hid (by have := W3.out; simpa [dtsS] using this), T3⟩
      case round =>
        obtain ⟨j, v', rfl, hj, HW, HTo⟩ := hrel
        by_cases hlt : j < L2
        · have hlt' : j < ds.length := by have := HL2.out; omega
          have hok := HD.out ds[j] (List.getElem_mem hlt')
          have hz : (xs ++ putS L1 1 ++ acsS ts ++ putS L2 1 ++ dtsS (ds.take j)).length ≤ 90000 := by simp [putS_len, acs_len, dts_len, List.length_take]; have := HL1.out; have := HL2.out; omega
          obtain ⟨gg, off, rfl, hgg, hcell⟩ := (HB.out.below ((HTo.out.below H0.out).mono BG.out)).at_ (List.getElem?_eq_getElem hlt')
          have y0 : wr.cell? ⟨gg, off + j * 2, none⟩ = some (.int .u32 ds[j].p) := hcell 0 _ rfl
          have y1 : wr.cell? ⟨gg, off + j * 2 + 1, none⟩ = some (.int .u64 ds[j].f) := hcell 1 _ rfl
          have SN := Lib.hid (dts_snoc ds j hlt')
          obtain ⟨⟨o0, p0⟩, ⟨o1, p1⟩⟩ := hok
          generalize ds[j].p = z0 at *
          generalize ds[j].f = z1 at *
          have e0 := u64_wrap (x := z0) (by omega) (by omega)
          have M0 := Lib.hid (fun W u (h : Wr W g u (xs ++ putS L1 1 ++ acsS ts ++ putS L2 1 ++ dtsS (ds.take j))) => number_w W g u _ h (by simp only [List.length_append, putS_len] at hz ⊢; omega) z0 4 4 rfl o0 (by omega) (by decide) (by decide))
          have M1 := Lib.hid (fun W u (h : Wr W g u ((xs ++ putS L1 1 ++ acsS ts ++ putS L2 1 ++ dtsS (ds.take j)) ++ putS z0 4)) => number_w W g u _ h (by simp only [List.length_append, putS_len] at hz ⊢; omega) z1 8 8 rfl o1 (by omega) (by decide) (by decide))
          obtain ⟨w0, hw0⟩ : ∃ w0, wr.alloc (.cells #[.int .u32 z0, .int .u64 z1] 103) = w0 := ⟨_, rfl⟩
          have hb0 : Below wr.heap.size wr w0 := by rw [← hw0]; exact new_ (Below.refl _ _) _
          have bx0 : Box w0 wr.heap.size #[.int .u32 z0, .int .u64 z1] 103 := by rw [← hw0]; exact Box.new _ _ _
          have U0 := Lib.hid (HW.out.later hb0)
          have T0 := Lib.hid (show WrTo wr w0 g v' v' from ⟨Fr.of_below hb0, .inl rfl⟩)
          have NB : Hid (∀ (u : Value) W, WrTo w0 W g v' u → Box W wr.heap.size #[.int .u32 z0, .int .u64 z1] 103) := Lib.hid (fun u W ht => ht.box bx0 (by have := HW.out.lt; omega) (fun e => by have := (HW.out.own.lt _ e).2; omega))
          have k0 := bx0.cell
          have HW0 := Lib.hid hw0
          clear hcell bx0 hb0 hw0 hz
          go_wp2_with fail
          rw [HW0.out]
          (with_reducible refine (M0.out _ _ U0.out).mono ?_)
          rintro e x1 ⟨rfl, u1_, wr1, t1⟩
          have S1 := Lib.hid (t1)
          have U1 := Lib.hid wr1
          have kk1 := (NB.out _ _ S1.out).cell
          clear wr1 t1 k0
          go_wp2_with fail
          (with_reducible refine (M1.out _ _ U1.out).mono ?_)
          rintro e x2 ⟨rfl, u2_, wr2, t2⟩
          have S2 := Lib.hid (S1.out.trans t2)
          have U2 := Lib.hid wr2
          have kk2 := (NB.out _ _ S2.out).cell
          clear wr2 t2 kk1
          go_wp2
          go_roundw
          case rel => exact ⟨j + 1, _, by go_num, by omega, Lib.hid (by have := U2.out; rw [SN.out]; simpa [List.append_assoc] using this), Lib.hid (HTo.out.trans (T0.out.trans S2.out))⟩
          case measure => simp [intOf]; omega
        · have hje : j = L2 := by omega
          have hw2 := HW.out
          rw [List.take_of_length_le (by have := HL2.out; omega)] at hw2
          have W9 := Lib.hid hw2
          clear hw2
          go_wp2
          go_end0
          exact ⟨rfl, _, W9.out, HTo.out⟩
end Go.Proofs.Yteggcehjpfmikaa.Rec
namespace Go.Proofs.Each
open Go Go.RowKit Go.Proofs.Mem
set_option linter.unusedVariables false
def Cq (w : World) (g n : Nat) (t : TypeId) (W : World) : Prop := Below w.heap.size w W ∧ ∃ C, Box W g C t ∧ C.size = n
def Rq (w : World) (g : Nat) (t : TypeId) (fin : Array Value) (s i : Nat) (W W' : World) : Prop := if i = s then Box W' g fin t ∧ Below w.heap.size W W' else ∃ d, W' = W.drewN d
def Fq (g : Nat) (t : TypeId) (fin : Array Value) (s : Nat) (Es : List Value) (j : Nat) (vals : Nat → Value) (W : World) : Prop := if j = s then Box W g fin t else vals j = Es.getD j undef
theorem Rq.same {w : World} {g : Nat} {t : TypeId} {fin : Array Value} {s i : Nat} (h : i ≠ s) (W : World) : Rq w g t fin s i W W := by unfold Rq; rw [if_neg h]; exact ⟨0, rfl⟩
theorem Rq.drewN {w : World} {g : Nat} {t : TypeId} {fin : Array Value} {s i : Nat} (h : i ≠ s) (W : World) (d : Nat) : Rq w g t fin s i W (W.drewN d) := by unfold Rq; rw [if_neg h]; exact ⟨d, rfl⟩
theorem Rq.last {w : World} {g : Nat} {t : TypeId} {fin : Array Value} {s : Nat} {W W' : World} (h : Box W' g fin t) (hb : Below w.heap.size W W') : Rq w g t fin s s W W' := by unfold Rq; rw [if_pos rfl]; exact ⟨h, hb⟩
theorem Fq.val {g : Nat} {t : TypeId} {fin : Array Value} {s j : Nat} {Es : List Value} {vals : Nat → Value} {W : World} {v E : Value} (h : j ≠ s) (hE : Es.getD j undef = E) (hv : v = E) : Fq g t fin s Es j (upd vals j v) W := by
  unfold Fq; rw [if_neg h, upd_same, hE, hv]
theorem Fq.last {g : Nat} {t : TypeId} {fin : Array Value} {s : Nat} {Es : List Value} {vals : Nat → Value} {W : World} (h : Box W g fin t) : Fq g t fin s Es s vals W := by unfold Fq; rw [if_pos rfl]; exact h
theorem Fq.get {g : Nat} {t : TypeId} {fin : Array Value} {s j : Nat} {Es : List Value} {vals : Nat → Value} {W : World} {E : Value} (hf : Fq g t fin s Es j vals W) (h : j ≠ s) (hE : Es.getD j undef = E) : vals j = E := by
  unfold Fq at hf; rw [if_neg h, hE] at hf; exact hf
def Rn (w0 : World) (t : TypeId) (s i : Nat) (W W' : World) : Prop :=
  if i = s then Below w0.heap.size W W' ∧ (∀ g C, Box W g C t → ∃ C', Box W' g C' t ∧ C'.size = C.size) else Below W.heap.size W W'
def Fn_ (w0 : World) (t : TypeId) (n : Nat) (fin : Array Value) (a s : Nat) (Es : List Value) (j : Nat) (vals : Nat → Value) (W : World) : Prop :=
  if j = s then ∃ g, vals a = .pointer (some ⟨g, 0, none⟩) ∧ w0.heap.size ≤ g ∧ Box W g fin t else
  if j = a then ∃ g C, vals a = .pointer (some ⟨g, 0, none⟩) ∧ w0.heap.size ≤ g ∧ Box W g C t ∧ C.size = n else vals j = Es.getD j undef
theorem Rn.same {w0 : World} {t : TypeId} {s i : Nat} (h : i ≠ s) {W W' : World} (hb : Below W.heap.size W W') : Rn w0 t s i W W' := by unfold Rn; rw [if_neg h]; exact hb
theorem Fn_.val {w0 : World} {t : TypeId} {n a s j : Nat} {fin : Array Value} {Es : List Value} {vals : Nat → Value} {W : World} {v E : Value} (h : j ≠ s) (h' : j ≠ a) (hE : Es.getD j undef = E) (hv : v = E) : Fn_ w0 t n fin a s Es j (upd vals j v) W := by
  unfold Fn_; rw [if_neg h, if_neg h', upd_same, hE, hv]
theorem Fn_.get {w0 : World} {t : TypeId} {n a s j : Nat} {fin : Array Value} {Es : List Value} {vals : Nat → Value} {W : World} {E : Value} (hf : Fn_ w0 t n fin a s Es j vals W) (h : j ≠ s) (h' : j ≠ a) (hE : Es.getD j undef = E) : vals j = E := by
  unfold Fn_ at hf; rw [if_neg h, if_neg h', hE] at hf; exact hf
theorem Fn_.made {w0 : World} {t : TypeId} {n a s : Nat} {fin : Array Value} {Es : List Value} {vals : Nat → Value} {W : World} (has : a ≠ s) {C : Array Value} (g : Nat) (hg : w0.heap.size ≤ g) (hb : Box W g C t) (hc : C.size = n) : Fn_ w0 t n fin a s Es a (upd vals a (.pointer (some ⟨g, 0, none⟩))) W := by
  unfold Fn_; rw [if_neg has, if_pos rfl]; exact ⟨g, C, upd_same _ _ _, hg, hb, hc⟩
theorem Fn_.there {w0 : World} {t : TypeId} {n a s : Nat} {fin : Array Value} {Es : List Value} {vals : Nat → Value} {W : World} (has : a ≠ s) (hf : Fn_ w0 t n fin a s Es a vals W) : ∃ g C, vals a = .pointer (some ⟨g, 0, none⟩) ∧ w0.heap.size ≤ g ∧ Box W g C t ∧ C.size = n := by
  unfold Fn_ at hf; rw [if_neg has, if_pos rfl] at hf; exact hf
theorem laid {w0 W W' : World} {t : TypeId} {n a s g : Nat} {fin C : Array Value} {Es : List Value} {vals : Nat → Value} {v : Value} (has : a ≠ s) (hv : vals a = .pointer (some ⟨g, 0, none⟩)) (hg : w0.heap.size ≤ g) (hgW : g < W.heap.size) (hb : Box W g C t) (hn : C.size = n) (hfn : fin.size = n)
    (h' : Box W' g fin t) (hsz : W.heap.size ≤ W'.heap.size) (hos : W'.os = W.os ∧ W'.tape = W.tape ∧ W'.output = W.output) (hbl : ∀ k, k < W.heap.size → k ≠ g → W'.heap[k]? = W.heap[k]?) : Rn w0 t s s W W' ∧ Fn_ w0 t n fin a s Es s (upd vals s v) W' := by
  constructor
  · unfold Rn; rw [if_pos rfl]
    refine ⟨⟨hos.1, hos.2.1, hos.2.2, hsz, fun k hk => ?_⟩, fun g' C' hC' => ?_⟩
    · by_cases hkW : k < W.heap.size
      · exact hbl k hkW (by omega)
      · omega
    · by_cases e : g' = g
      · subst e
        unfold Box at hb hC' h'
        rw [hb] at hC'
        injection hC' with hC'
        injection hC' with hC' _ _
        subst hC'
        exact ⟨fin, h', by omega⟩
      · exact ⟨C', (hbl g' hC'.lt e).trans hC', rfl⟩
  · unfold Fn_; rw [if_pos rfl]
    exact ⟨g, by rw [upd_other _ _ _ _ has]; exact hv, hg, h'⟩
end Go.Proofs.Each
namespace Go.Proofs.Each
open Go Go.RowKit Go.Proofs.Mem
set_option linter.unusedVariables false
def Cg (w0 : World) (g n : Nat) (t : TypeId) (W : World) : Prop := Fr (fun x => x = g) w0 W ∧ ∃ C, Box W g C t ∧ C.size = n
def Rg (g : Nat) (t : TypeId) (s i : Nat) (W W' : World) : Prop :=
  Fr (fun x => x = g) W W' ∧ (i ≠ s → Below W.heap.size W W') ∧ ∀ C, Box W g C t → ∃ C', Box W' g C' t ∧ C'.size = C.size
theorem Rg.of_below {g : Nat} {t : TypeId} {s i : Nat} {W W' : World} (h : Below W.heap.size W W') : Rg g t s i W W' := ⟨.of_below h, fun _ => h, fun C hC => ⟨C, hC.later h, rfl⟩⟩
theorem Rg.last {g : Nat} {t : TypeId} {s : Nat} {W W' : World} {fin : Array Value} (h : Fr (fun x => x = g) W W') (hb : Box W' g fin t) (hn : ∀ C, Box W g C t → C.size = fin.size) : Rg g t s s W W' :=
  ⟨h, fun e => absurd rfl e, fun C hC => ⟨fin, hb, (hn C hC).symm⟩⟩
end Go.Proofs.Each
namespace Go.Proofs.Yteggcehjpfmikaa.Rec
open Go.ChangeShapes Go.WideShapes Go.ChangeAt Go.RowKit Go.IntWalk Go.Proofs.NumMath Go.Proofs.Mem Go.Proofs.CrcMath Go.Proofs.Each NumBytes CrcA
set_option linter.unusedVariables false
set_option linter.unusedSimpArgs false
def Bld (h : Nat) (pg sl : Int) (has had : Bool) (xs ys : List Int) (v : Value) (W : World) : Prop := ∃ A3 l3 c3 A4 l4 c4, v = .agg (cgC pg sl has had (.slice A3 l3 c3) (.slice A4 l4 c4)) ∧ W.ownsRow (h + 1 + 1) 5 1 (.slice A3 l3 c3) ys.length (ys.map (.int .u8)) ∧ W.ownsRow (h + 1 + 1) 5 1 (.slice A4 l4 c4) xs.length (xs.map (.int .u8))
def Sto (h : Nat) (pg sl : Int) (has had : Bool) (xs ys : List Int) (W : World) : Prop := ∃ A3 l3 c3 A4 l4 c4, Box W (h + 1) (cgC pg sl has had (.slice A3 l3 c3) (.slice A4 l4 c4)) 50 ∧ W.ownsRow (h + 1 + 1) 5 1 (.slice A3 l3 c3) ys.length (ys.map (.int .u8)) ∧ W.ownsRow (h + 1 + 1) 5 1 (.slice A4 l4 c4) xs.length (xs.map (.int .u8))
theorem own_fr {W W' : World} {base n g : Nat} {e : TypeId} {v : Value} {xs : List Value} (h : W.ownsRow base e 1 v n xs) (hf : Fr (fun x => x = g) W W') (hg : g < base) : W'.ownsRow base e 1 v n xs :=
  h.kept (row := some g) ⟨hf.os, hf.tape, hf.output, hf.size, fun k hk hne => hf.block k hk (fun e => hne (by rw [e]))⟩ (by
    cases e : v.ownBlock with
    | none => exact .inl rfl
    | some k =>
      refine .inr (fun e2 => ?_)
      injection e2 with e2
      have := (h.lt k e).1
      omega)
end Go.Proofs.Yteggcehjpfmikaa.Rec
namespace Go.Proofs.Mem
open Go.RowKit Go.WideShapes
set_option linter.unusedVariables false
section
variable {α : Type} {F : α → List Value} {sz : Nat}
theorem flat_len (hF : ∀ x, (F x).length = sz) : ∀ l : List α, (l.flatMap F).length = l.length * sz
  | [] => by simp
  | x :: l => by rw [List.flatMap_cons, List.length_append, hF, flat_len hF l, List.length_cons, Nat.succ_mul]; omega
theorem flat_at (hF : ∀ x, (F x).length = sz) : ∀ (l : List α) (i : Nat) (x : α) (j : Nat), l[i]? = some x → j < sz → (l.flatMap F)[i * sz + j]? = (F x)[j]?
  | [], i, x, j, h, _ => by simp at h
  | y :: l, 0, x, j, h, hj => by
    simp at h
    subst h
    rw [Nat.zero_mul, Nat.zero_add, List.flatMap_cons, List.getElem?_append_left (by rw [hF]; exact hj)]
  | y :: l, i + 1, x, j, h, hj => by
    have := flat_at hF l i x j (by simpa using h) hj
    rw [List.flatMap_cons, List.getElem?_append_right (by rw [hF, Nat.succ_mul]; omega), hF, ← this]
    congr 1
    rw [Nat.succ_mul]; omega
theorem SS.of_own {w : World} {base : Nat} {e : TypeId} {v : Value} {xs : List α} (hF : ∀ x, (F x).length = sz) (h : w.ownsRow base e sz v xs.length (xs.flatMap F)) : SS F sz w w.heap.size v xs := by
  have h' := h
  rcases h.2 with ⟨rfl, hn⟩ | ⟨g, cap, cur, rfl, hg, hh, hnc, hm, _, _⟩
  · have : xs = [] := List.eq_nil_of_length_eq_zero hn
    subst this
    exact SS.nil _ _
  · have hlt := (h.lt g rfl).2
    refine ⟨some ⟨g, 0, none⟩, cap, rfl, hnc, hm, fun i x hx => ⟨g, 0, rfl, hlt, fun j u hu => ?_⟩⟩
    have hi : i < xs.length := (List.getElem?_eq_some_iff.1 hx).1
    have hj : j < sz := by rw [← hF x]; exact (List.getElem?_eq_some_iff.1 hu).1
    have hlt2 : i * sz + j < xs.length * sz := by
      have h1 : (i + 1) * sz ≤ xs.length * sz := Nat.mul_le_mul_right sz hi
      rw [Nat.succ_mul] at h1
      omega
    rw [Nat.zero_add, h'.cellAt (i * sz + j) hlt2, flat_at hF xs i x j hx hj, hu]
theorem wpList_push_ss {P : Program} (w : World) {ops : Array Oper} {rest : List Oper} {o : Oper} {a : Act} {Q : Exit → Act → World → Prop} (hgd : o.guard = none) (s x : Operand) (t : TypeId)
    (ho : o.op = .call { callee := .builtin .append, args := #[s, x], argTypes := #[t, t] })
    (base : Nat) (e : TypeId) (i : TypeInfo) (z : Value) (bytes : Nat) (ht : P.underlying t = some (.slice e)) (hi : P.info? e = some i) (hz : i.zero = some z)
    (hsize : i.size = sz) (hby : i.bytes = bytes) (hzs : z.cells.size = sz) (hsz : 0 < sz) (hF : ∀ y, (F y).length = sz) (h1 : ∀ y : α, ∀ u ∈ F y, u.oneCell' = true)
    (v : Value) (xs : List α) (hs : a.eval s = v) (hown : w.ownsRow base e sz v xs.length (xs.flatMap F))
    (g : Nat) (y : α) (T : TypeId) (hx : a.eval x = .slice (some ⟨g, 0, none⟩) 1 1) (hc : Box w g (F y).toArray T) (h63 : xs.length + 1 ≤ maxLen) (hbytes : (xs.length + 1) * bytes ≤ 140737488355328) (hbase : base ≤ w.heap.size)
    (h : ∀ v' w', w'.ownsRow base e sz v' (xs ++ [y]).length ((xs ++ [y]).flatMap F) → RowTo w w' v v' → wpList P ops Q rest (a.put o.dst v') w') : wpList P ops Q (o :: rest) a w := by
  refine wpList_plain hgd fun K hK' => ?_
  obtain ⟨v', w', hrun, h2, h3, _, h5⟩ := run_append_own_at (P := P) (w := w) base t o.type e i z sz bytes ht hi hz hsize hby hzs hsz v xs.length _ hown ⟨g, 0, none⟩ 1 1 (F y) (by rw [hF]; omega) (by
    intro j u hj
    rw [Go.WideShapes.add_plain, Nat.zero_add, hc.cell j]
    simpa using hj) (h1 y) h63 hbytes hbase
  unfold Oper.wp
  simp [execOp, ho, resolve, invoke, builtin, hs, hx, hrun, Result.andThen]
  exact hK' _ _ (h v' w' (by rw [List.length_append, List.flatMap_append]; simpa using h2) (RowTo.app h3 h5))
end
end Go.Proofs.Mem
namespace Go.Proofs.Yteggcehjpfmikaa.Strip
open Go.ChangeShapes Go.WideShapes Go.ChangeAt Go.RowKit Go.IntWalk Go.Shelf Go.Proofs.Mem Blk
set_option linter.unusedVariables false
def ReadP (w : World) (L : List Int) (e : Ending) (w' : World) : Prop := ∃ v, e = .returned v ∧ w'.ownsRow w.heap.size 5 1 v L.length (L.map (.int .u8)) ∧ Below w.heap.size w w'
theorem read_len : ∀ (l : List (List Int)), (readS l).length ≤ 127 * l.length
  | [] => by simp [readS]
  | b :: t => by
    have ih := read_len t
    simp only [readS]
    split
    · rename_i h
      have : (b.take (b.getD 127 0).toNat).length ≤ 127 := by rw [List.length_take]; omega
      split
      · simp only [List.length_append, List.length_nil, List.length_cons]; omega
      · simp only [List.length_append, List.length_cons]; omega
    · simp
set_option maxRecDepth 100000 in
set_option maxHeartbeats 8000000 in
theorem read_any (w : World) (B : Nat) (v : Value) (vs : List (Value × List Int)) (hv : SR w B v vs) (hB : B ≤ w.heap.size) (hl : vs.length ≤ 1000) :
    Calls Try.prog 36 #[v] w (ReadP w (readS (vs.map (·.2)))) := by
  obtain ⟨i0, hi0, hz0, hz1, hz2⟩ := info_parts u8_info
  obtain ⟨A, c, rfl, hlc, hcm⟩ := hv.form
  unfold maxLen at hcm
  have HV := Lib.hid hv
  obtain ⟨L, hL⟩ : ∃ L, vs.map (·.2) = L := ⟨_, rfl⟩
  have HL := Lib.hid hL
  have HLL := Lib.hid (show L.length = vs.length by rw [← hL, List.length_map])
  rw [hL]
  clear hv hL
  go_enter Try.func36, Try.ntmps36
  go_wp2
  go_loopw [3, 9] (fun o i wr => ∃ (k : Nat) (out : List Int), i = .int .i64 k ∧ k ≤ vs.length ∧ Hid (wr.ownsRow w.heap.size 5 1 o out.length (out.map (.int .u8))) ∧ Hid (readS L = out ++ readS (L.drop k)) ∧ Hid (out.length ≤ 127 * k) ∧ Hid (Below w.heap.size w wr)) (fun _ i _ => vs.length - (intOf i).toNat)
  case atStart => exact ⟨0, [], rfl, by omega, Lib.hid (World.ownsRow_nil _ _ _ _), Lib.hid rfl, Lib.hid (by simp), Lib.hid (Below.refl _ _)⟩
  case round =>
    obtain ⟨k, out, rfl, hk, HO, HR, HN, HBL⟩ := hrel
    by_cases hlt : k < vs.length
    · obtain ⟨b1, o1, u1, x1, rfl, _, g1, e1, r1, y1⟩ := (HV.out.keep (w' := wr) (fun p hp => HBL.out.cell (by omega))).index k hlt
      have q1 : decide ((k : Int) < (vs.length : Int)) = true := decide_eq_true (by omega)
      have q1' : decide (k < vs.length) = true := decide_eq_true hlt
      have hlk : L[k]? = some x1 := by rw [← HL.out]; exact map_at g1
      have DR := Lib.hid (drop_at hlk)
      obtain ⟨A1, c1, rfl, hl1, hm1⟩ := r1.form
      unfold maxLen at hm1
      clear hlk g1
      by_cases h128 : x1.length = 128
      · rw [h128] at r1 e1 hl1
        have d1 : ((x1.length : Int) != 128) = false := by simp; omega
        obtain ⟨b2, o2, rfl, hb2, hc2⟩ := r1.index 127 (by omega)
        have R1 := Lib.hid r1
        have hy := y1.at_ 127
        have LAST := Lib.hid (read_last (b := x1) (L.drop (k + 1)) h128)
        have MORE := Lib.hid (read_more (b := x1) (L.drop (k + 1)) h128)
        have BAD := Lib.hid (read_bad (b := x1) (L.drop (k + 1)))
        have TL := Lib.hid (fun u => show (x1.take u).length = min u 128 by rw [List.length_take, h128])
        obtain ⟨m, hm⟩ : ∃ m : Nat, x1.getD 127 0 = (m : Int) := ⟨(x1.getD 127 0).toNat, by omega⟩
        rw [hm] at hc2 hy
        have HM := Lib.hid hm
        clear r1 h128 hm
        by_cases h1 : 127 < m
        · have q2 : decide ((127 : Int) < (m : Int)) = true := decide_eq_true (by omega)
          have q2' : decide (127 < m) = true := decide_eq_true h1
          have RE := Lib.hid (show readS L = out by rw [HR.out, DR.out, BAD.out (by rw [HM.out]; omega), List.append_nil])
          go_wp2
          go_ret
          exact ⟨_, rfl, by rw [RE.out]; exact HO.out, HBL.out⟩
        · have q2 : decide ((127 : Int) < (m : Int)) = false := decide_eq_false (by omega)
          have q2' : decide (127 < m) = false := decide_eq_false h1
          by_cases h2 : m < 127
          · have q3 : decide ((m : Int) < 127) = true := decide_eq_true (by omega)
            have q3' : decide (m < 127) = true := decide_eq_true h2
            have RE := Lib.hid (show readS L = out ++ x1.take m by rw [HR.out, DR.out, LAST.out (by rw [HM.out]; omega), HM.out, Int.toNat_natCast])
            go_wp2_with (at_builtin; refine wpList_append_all _ rfl _ _ _ rfl w.heap.size 5 i0 .u8 1 Try.underlying48 hi0 hz0 hz1 hz2 u3 out.length out rfl HO.out B (.slice (some ⟨b2, o2, none⟩) m c1) (x1.take m) rfl (R1.out.take (by omega)) (by have := HN.out; rw [TL.out m]; unfold maxLen; omega) (by have := HN.out; rw [TL.out m]; omega) HBL.out.size ?_; intro v2 w2 hown2 hb2'; rw [← List.length_append] at hown2; have OW := Lib.hid hown2; have HB2 := Lib.hid (HBL.out.trans hb2'); clear hown2 hb2')
            go_ret
            exact ⟨_, rfl, by rw [RE.out]; exact OW.out, HB2.out⟩
          · obtain rfl : m = 127 := by omega
            have q3 : decide (((127 : Nat) : Int) < 127) = false := by decide
            have RE := Lib.hid (show readS L = (out ++ x1.take 127) ++ readS (L.drop (k + 1)) by rw [HR.out, DR.out, MORE.out HM.out, HM.out, Int.toNat_natCast, List.append_assoc])
            go_wp2_with (at_builtin; refine wpList_append_all _ rfl _ _ _ rfl w.heap.size 5 i0 .u8 1 Try.underlying48 hi0 hz0 hz1 hz2 u3 out.length out rfl HO.out B (.slice (some ⟨b2, o2, none⟩) 127 c1) (x1.take 127) rfl (R1.out.take (by omega)) (by have := HN.out; rw [TL.out 127]; unfold maxLen; omega) (by have := HN.out; rw [TL.out 127]; omega) HBL.out.size ?_; intro v2 w2 hown2 hb2'; rw [← List.length_append] at hown2; have OW := Lib.hid hown2; have HB2 := Lib.hid (HBL.out.trans hb2'); clear hown2 hb2')
            go_roundw
            case rel => exact ⟨k + 1, out ++ x1.take 127, by go_num, by omega, OW, RE, Lib.hid (by have := HN.out; rw [List.length_append, TL.out]; omega), HB2⟩
            case measure => simp [intOf]; omega
      · have d1 : ((x1.length : Int) == 128) = false := by simp; omega
        have d2 : ((x1.length : Int) != 128) = true := by simp; omega
        have d3 : (x1.length == 128) = false := by simpa using h128
        have RE := Lib.hid (show readS L = out by rw [HR.out, DR.out, read_bad _ (fun h => h128 h.1), List.append_nil])
        clear h128
        go_wp2
        go_ret
        exact ⟨_, rfl, by rw [RE.out]; exact HO.out, HBL.out⟩
    · obtain rfl : k = vs.length := by omega
      have RE := Lib.hid (show readS L = out by rw [HR.out, List.drop_of_length_le (by rw [HLL.out]; exact Nat.le_refl _)]; simp [readS])
      go_wp2
      go_ret
      exact ⟨_, rfl, by rw [RE.out]; exact HO.out, HBL.out⟩
end Go.Proofs.Yteggcehjpfmikaa.Strip

