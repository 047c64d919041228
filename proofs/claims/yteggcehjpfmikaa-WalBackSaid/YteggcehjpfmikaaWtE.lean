import Derived.Test.YteggcehjpfmikaaWt1
import Derived.Test.YteggcehjpfmikaaWtA
import Derived.Test.YteggcehjpfmikaaWtD
namespace Go.Proofs.Yteggcehjpfmikaa.Rec
open Go.ChangeShapes Go.WideShapes Go.ChangeAt Go.RowKit Go.IntWalk Go.Proofs.NumMath Go.Proofs.Mem Go.Proofs.CrcMath NumBytes CrcA
set_option linter.unusedVariables false
set_option linter.unusedSimpArgs false
theorem arr12 {C : Array Value} (h : C.size = 12) : ∃ a b c d e f g i j k m n, C = #[a, b, c, d, e, f, g, i, j, k, m, n] := by
  obtain ⟨l⟩ := C
  match l, h with
  | [a, b, c, d, e, f, g, i, j, k, m, n], _ => exact ⟨a, b, c, d, e, f, g, i, j, k, m, n, rfl⟩
theorem out_size {w : World} {g : Nat} {t : TypeId} {a0 a1 a2 a3 a4 a5 a6 a7 a8 a9 a10 a11 : Value} (h : Box w g #[a0, a1, a2, a3, a4, a5, a6, a7, a8, a9, a10, a11] t) : ∃ C, Box w g C t ∧ C.size = 12 := ⟨_, h, rfl⟩
set_option maxRecDepth 100000 in
set_option maxHeartbeats 8000000 in
theorem catch_panic (r k : Nat) (hrk : r ≠ k) (C : Array Value) (w : World) (hC : C.size = 12) (hb : Box w r C 54) (b : Bool) (hk : Box w k #[.bool b] 4) :
    CallsD Try.prog 87 #[.pointer (some ⟨r, 0, none⟩), .pointer (some ⟨k, 0, none⟩)] (.panicking raise_) w fun en u' w' =>
      en = .returned (.tuple #[]) ∧ u' = .panicking [{ v := .iface 39 (.int .u16 61), recovered := true }] ∧ Box w' r (bareC 0 0 0 0) 54 ∧ Box w' k #[.bool false] 4 ∧ Fr (fun x => x = r ∨ x = k) w w' := by
  unfold raise_
  obtain ⟨a0, a1, a2, a3, a4, a5, a6, a7, a8, a9, a10, a11, rfl⟩ := arr12 hC
  refine callsD_of_wpS Try.func87 rfl fun c₀ cs hu => ?_
  simp only [Try.ntmps87, List.size_toArray, List.length_cons, List.length_nil, Nat.reduceAdd, Nat.reduceSub, Array.replicate_succ, Array.replicate_zero, List.push_toArray, List.append_toArray, List.nil_append, List.cons_append]
  apply wpS_seq
  apply wpS_region
  simp [wpOpsS, go_sem, recoverD, hu, Exit.thenS]
  have HB := Lib.hid hb
  have HK := Lib.hid hk
  have HN := Lib.hid hrk
  have k0 : w.cell? ⟨r, 0, none⟩ = some a0 := hb.cell 0
  have f0 := hb.frozen 0
  have k1 : w.cell? ⟨r, 1, none⟩ = some a1 := hb.cell 1
  have f1 := hb.frozen 1
  have k2 : w.cell? ⟨r, 2, none⟩ = some a2 := hb.cell 2
  have f2 := hb.frozen 2
  have k3 : w.cell? ⟨r, 3, none⟩ = some a3 := hb.cell 3
  have f3 := hb.frozen 3
  have k4 : w.cell? ⟨r, 4, none⟩ = some a4 := hb.cell 4
  have f4 := hb.frozen 4
  have k5 : w.cell? ⟨r, 5, none⟩ = some a5 := hb.cell 5
  have f5 := hb.frozen 5
  have k6 : w.cell? ⟨r, 6, none⟩ = some a6 := hb.cell 6
  have f6 := hb.frozen 6
  have k7 : w.cell? ⟨r, 7, none⟩ = some a7 := hb.cell 7
  have f7 := hb.frozen 7
  have k8 : w.cell? ⟨r, 8, none⟩ = some a8 := hb.cell 8
  have f8 := hb.frozen 8
  have k9 : w.cell? ⟨r, 9, none⟩ = some a9 := hb.cell 9
  have f9 := hb.frozen 9
  have k10 : w.cell? ⟨r, 10, none⟩ = some a10 := hb.cell 10
  have f10 := hb.frozen 10
  have k11 : w.cell? ⟨r, 11, none⟩ = some a11 := hb.cell 11
  have f11 := hb.frozen 11
  have kk : w.cell? ⟨k, 0, none⟩ = some (.bool b) := hk.cell 0
  have fk := hk.frozen 0
  have hkr : k ≠ r := fun e => hrk e.symm
  clear hb hk
  refine wpS_of_wp ?_
  go_wp2
  have b9 := Box.far (p := ⟨k, 0, none⟩) (((((((((((((HB.out).set_ 0 (.int .u8 0)).set_ 1 (.int .u32 0)).set_ 2 (.int .u64 0)).set_ 3 (.int .u64 0)).set_ 4 (.int .u32 0)).set_ 5 (.int .u16 0)).set_ 6 (.bool false)).set_ 7 (.bool false)).set_ 8 (.slice none 0 0)).set_ 9 (.slice none 0 0)).set_ 10 (.slice none 0 0)).set_ 11 (.slice none 0 0)) HN.out (.bool false)
  simp only [List.setIfInBounds_toArray, List.set_cons_zero, List.set_cons_succ] at b9
  have k9 := Box.set_ (Box.far (p := ⟨r, 11, none⟩) (Box.far (p := ⟨r, 10, none⟩) (Box.far (p := ⟨r, 9, none⟩) (Box.far (p := ⟨r, 8, none⟩) (Box.far (p := ⟨r, 7, none⟩) (Box.far (p := ⟨r, 6, none⟩) (Box.far (p := ⟨r, 5, none⟩) (Box.far (p := ⟨r, 4, none⟩) (Box.far (p := ⟨r, 3, none⟩) (Box.far (p := ⟨r, 2, none⟩) (Box.far (p := ⟨r, 1, none⟩) (Box.far (p := ⟨r, 0, none⟩) (HK.out) hkr (.int .u8 0)) hkr (.int .u32 0)) hkr (.int .u64 0)) hkr (.int .u64 0)) hkr (.int .u32 0)) hkr (.int .u16 0)) hkr (.bool false)) hkr (.bool false)) hkr (.slice none 0 0)) hkr (.slice none 0 0)) hkr (.slice none 0 0)) hkr (.slice none 0 0)) 0 (.bool false)
  simp only [List.setIfInBounds_toArray, List.set_cons_zero, List.set_cons_succ] at k9
  have f9 := Fr.setCell (Fr.setCell (Fr.setCell (Fr.setCell (Fr.setCell (Fr.setCell (Fr.setCell (Fr.setCell (Fr.setCell (Fr.setCell (Fr.setCell (Fr.setCell (Fr.setCell (Fr.refl (fun x => x = r ∨ x = k) w) (p := ⟨r, 0, none⟩) (.inl (.inl rfl)) (.int .u8 0)) (p := ⟨r, 1, none⟩) (.inl (.inl rfl)) (.int .u32 0)) (p := ⟨r, 2, none⟩) (.inl (.inl rfl)) (.int .u64 0)) (p := ⟨r, 3, none⟩) (.inl (.inl rfl)) (.int .u64 0)) (p := ⟨r, 4, none⟩) (.inl (.inl rfl)) (.int .u32 0)) (p := ⟨r, 5, none⟩) (.inl (.inl rfl)) (.int .u16 0)) (p := ⟨r, 6, none⟩) (.inl (.inl rfl)) (.bool false)) (p := ⟨r, 7, none⟩) (.inl (.inl rfl)) (.bool false)) (p := ⟨r, 8, none⟩) (.inl (.inl rfl)) (.slice none 0 0)) (p := ⟨r, 9, none⟩) (.inl (.inl rfl)) (.slice none 0 0)) (p := ⟨r, 10, none⟩) (.inl (.inl rfl)) (.slice none 0 0)) (p := ⟨r, 11, none⟩) (.inl (.inl rfl)) (.slice none 0 0)) (p := ⟨k, 0, none⟩) (.inl (.inr rfl)) (.bool false)
  generalize World.setCell (World.setCell (World.setCell (World.setCell (World.setCell (World.setCell (World.setCell (World.setCell (World.setCell (World.setCell (World.setCell (World.setCell (World.setCell (w) (⟨r, 0, none⟩ : Addr) (.int .u8 0)) (⟨r, 1, none⟩ : Addr) (.int .u32 0)) (⟨r, 2, none⟩ : Addr) (.int .u64 0)) (⟨r, 3, none⟩ : Addr) (.int .u64 0)) (⟨r, 4, none⟩ : Addr) (.int .u32 0)) (⟨r, 5, none⟩ : Addr) (.int .u16 0)) (⟨r, 6, none⟩ : Addr) (.bool false)) (⟨r, 7, none⟩ : Addr) (.bool false)) (⟨r, 8, none⟩ : Addr) (.slice none 0 0)) (⟨r, 9, none⟩ : Addr) (.slice none 0 0)) (⟨r, 10, none⟩ : Addr) (.slice none 0 0)) (⟨r, 11, none⟩ : Addr) (.slice none 0 0)) (⟨k, 0, none⟩ : Addr) (.bool false) = W9 at *
  simp [bodyPostS, results, Try.results87, b9, k9, f9, bareC]
end Go.Proofs.Yteggcehjpfmikaa.Rec
namespace Go.Proofs.Yteggcehjpfmikaa.Rec
open Go.ChangeShapes Go.WideShapes Go.ChangeAt Go.RowKit Go.IntWalk Go.Proofs.NumMath Go.Proofs.Mem Go.Proofs.CrcMath Go.Proofs.Each NumBytes CrcA
set_option linter.unusedVariables false
set_option linter.unusedSimpArgs false
def eqAc (a b : Ac) : Bool := decide (a.t = b.t) && decide (a.l = b.l) && decide (a.u = b.u) && decide (a.s = b.s)
theorem eqAc_iff (a b : Ac) : eqAc a b = true ↔ a = b := by
  cases a; cases b; simp [eqAc, and_assoc]
set_option maxRecDepth 100000 in
theorem neqAc (a b : Ac) (w : World) : (binOp .neq 101 (.agg (cAc a).toArray) (.agg (cAc b).toArray)).run Try.prog w = .ok (.bool (!eqAc a b)) w := by
  unfold cAc eqAc
  go_simp
  by_cases h0 : a.t = b.t <;> by_cases h1 : a.l = b.l <;> by_cases h2 : a.u = b.u <;> by_cases h3 : a.s = b.s <;> simp [h0, h1, h2, h3]
theorem grdAc (a b : Ac) (x y : Operand) (w : World) : (eqGuard .neq 101 x y (.agg (cAc a).toArray) (.agg (cAc b).toArray)).run Try.prog w = .ok () w := by
  unfold cAc
  go_simp
def eqDt (a b : Dt) : Bool := decide (a.p = b.p) && decide (a.f = b.f)
theorem eqDt_iff (a b : Dt) : eqDt a b = true ↔ a = b := by
  cases a; cases b; simp [eqDt, and_assoc]
set_option maxRecDepth 100000 in
theorem neqDt (a b : Dt) (w : World) : (binOp .neq 103 (.agg (cDt a).toArray) (.agg (cDt b).toArray)).run Try.prog w = .ok (.bool (!eqDt a b)) w := by
  unfold cDt eqDt
  go_simp
  by_cases h0 : a.p = b.p <;> by_cases h1 : a.f = b.f <;> simp [h0, h1]
theorem grdDt (a b : Dt) (x y : Operand) (w : World) : (eqGuard .neq 103 x y (.agg (cDt a).toArray) (.agg (cDt b).toArray)).run Try.prog w = .ok () w := by
  unfold cDt
  go_simp
def TellsSame (r s : Rc) (w : World) (e : Ending) (w' : World) : Prop := ∃ q : Bool, e = .returned (.bool q) ∧ (q = true ↔ r = s) ∧ Below w.heap.size w w'
theorem TellsSame.no {r s : Rc} {w w' : World} (h : r ≠ s) (hb : Below w.heap.size w w') : TellsSame r s w (.returned (.bool false)) w' := ⟨false, rfl, by simp [h], hb⟩
theorem sameB_iff (c d : Cg) : sameB c d = true ↔ c = d := by
  cases c; cases d; simp [sameB, and_assoc]
theorem take_eq {α : Type} (a b : List α) (j : Nat) (ha : j < a.length) (hb : j < b.length) (h : a.take j = b.take j) (he : a[j] = b[j]) : a.take (j + 1) = b.take (j + 1) := by
  rw [List.take_succ_eq_append_getElem ha, List.take_succ_eq_append_getElem hb, h, he]
theorem full_eq {α : Type} (a b : List α) (j : Nat) (ha : a.length ≤ j) (hb : b.length ≤ j) (h : a.take j = b.take j) : a = b := by
  rwa [List.take_of_length_le ha, List.take_of_length_le hb] at h
theorem rc_ext {r s : Rc} (h1 : r.k = s.k) (h2 : r.t = s.t) (h3 : r.p = s.p) (h4 : r.n = s.n) (h5 : r.c = s.c) (h6 : r.ts = s.ts) (h7 : r.ds = s.ds) : r = s := by
  cases r; cases s; simp_all
set_option maxRecDepth 100000 in
set_option maxHeartbeats 16000000 in
theorem same_any_rc (r s : Rc) (hr : r.Ok) (hs : s.Ok) (a b ta da a' b' ta' da' : Value) (w : World) (B : Nat) (hB : B ≤ w.heap.size) (h : RcIn w B r a b ta da) (h' : RcIn w B s a' b' ta' da') :
    Calls Try.prog 21 #[.agg (rcV r a b ta da), .agg (rcV s a' b' ta' da')] w (TellsSame r s w) := by
  obtain ⟨A1, c1, e1, hl1, hm1⟩ := h.a.form
  obtain ⟨A2, c2, e2, hl2, hm2⟩ := h.b.form
  obtain ⟨A3, c3, e3, hl3, hm3⟩ := h.t.form
  obtain ⟨A4, c4, e4, hl4, hm4⟩ := h.d.form
  obtain ⟨A5, c5, e5, hl5, hm5⟩ := h'.a.form
  obtain ⟨A6, c6, e6, hl6, hm6⟩ := h'.b.form
  obtain ⟨A7, c7, e7, hl7, hm7⟩ := h'.t.form
  obtain ⟨A8, c8, e8, hl8, hm8⟩ := h'.d.form
  subst e1 e2 e3 e4 e5 e6 e7 e8
  unfold maxLen at hm1 hm2 hm3 hm4 hm5 hm6 hm7 hm8
  obtain ⟨LT, hLT⟩ : ∃ L, L = r.ts.length := ⟨_, rfl⟩
  obtain ⟨LD, hLD⟩ : ∃ L, L = r.ds.length := ⟨_, rfl⟩
  obtain ⟨LT', hLT'⟩ : ∃ L, L = s.ts.length := ⟨_, rfl⟩
  obtain ⟨LD', hLD'⟩ : ∃ L, L = s.ds.length := ⟨_, rfl⟩
  have h0 := h
  have h0' := h'
  rw [← hLT, ← hLD] at h
  rw [← hLT', ← hLD'] at h'
  rw [← hLT] at hl3 ⊢
  rw [← hLD] at hl4 ⊢
  rw [← hLT'] at hl7 ⊢
  rw [← hLD'] at hl8 ⊢
  have BA := Lib.hid ((Box.new w (rcV r (.slice A1 r.c.xs.length c1) (.slice A2 r.c.ys.length c2) (.slice A3 LT c3) (.slice A4 LD c4)) 54).alloc (.cells (rcV s (.slice A5 s.c.xs.length c5) (.slice A6 s.c.ys.length c6) (.slice A7 LT' c7) (.slice A8 LD' c8)) 54))
  have bb := Box.new (w.alloc (.cells (rcV r (.slice A1 r.c.xs.length c1) (.slice A2 r.c.ys.length c2) (.slice A3 LT c3) (.slice A4 LD c4)) 54)) (rcV s (.slice A5 s.c.xs.length c5) (.slice A6 s.c.ys.length c6) (.slice A7 LT' c7) (.slice A8 LD' c8)) 54
  rw [World.size_alloc] at bb
  have BB := Lib.hid bb
  have RA := Lib.hid ((h.alloc hB (.cells (rcV r (.slice A1 r.c.xs.length c1) (.slice A2 r.c.ys.length c2) (.slice A3 LT c3) (.slice A4 LD c4)) 54)).alloc (by simp; omega) (.cells (rcV s (.slice A5 s.c.xs.length c5) (.slice A6 s.c.ys.length c6) (.slice A7 LT' c7) (.slice A8 LD' c8)) 54))
  have RB := Lib.hid ((h'.alloc hB (.cells (rcV r (.slice A1 r.c.xs.length c1) (.slice A2 r.c.ys.length c2) (.slice A3 LT c3) (.slice A4 LD c4)) 54)).alloc (by simp; omega) (.cells (rcV s (.slice A5 s.c.xs.length c5) (.slice A6 s.c.ys.length c6) (.slice A7 LT' c7) (.slice A8 LD' c8)) 54))
  have HW := Lib.hid (new_ (new_ (Below.refl w.heap.size w) (.cells (rcV r (.slice A1 r.c.xs.length c1) (.slice A2 r.c.ys.length c2) (.slice A3 LT c3) (.slice A4 LD c4)) 54)) (.cells (rcV s (.slice A5 s.c.xs.length c5) (.slice A6 s.c.ys.length c6) (.slice A7 LT' c7) (.slice A8 LD' c8)) 54))
  obtain ⟨q1, hq1⟩ : ∃ q, q = !decide (r.k = s.k) := ⟨_, rfl⟩
  obtain ⟨q2, hq2⟩ : ∃ q, q = !decide (r.t = s.t) := ⟨_, rfl⟩
  obtain ⟨q3, hq3⟩ : ∃ q, q = !decide (r.p = s.p) := ⟨_, rfl⟩
  obtain ⟨q4, hq4⟩ : ∃ q, q = !decide (r.n = s.n) := ⟨_, rfl⟩
  obtain ⟨q5, hq5⟩ : ∃ q, q = !decide (LT = LT') := ⟨_, rfl⟩
  obtain ⟨q6, hq6⟩ : ∃ q, q = !decide (LD = LD') := ⟨_, rfl⟩
  have e1 : (r.k != s.k) = q1 := by rw [hq1, bne_dec]
  have e2 : (r.t != s.t) = q2 := by rw [hq2, bne_dec]
  have e3 : (r.p != s.p) = q3 := by rw [hq3, bne_dec]
  have e4 : (r.n != s.n) = q4 := by rw [hq4, bne_dec]
  have e5 : ((LT : Int) != (LT' : Int)) = q5 := by rw [hq5, bne_dec]; congr 1; rw [decide_eq_decide]; omega
  have e6 : ((LD : Int) != (LD' : Int)) = q6 := by rw [hq6, bne_dec]; congr 1; rw [decide_eq_decide]; omega
  have HNE := Lib.hid (show (q1 || q2 || q3 || q4 || q5 || q6) = true → r ≠ s from fun hq e => by subst e; rw [hq1, hq2, hq3, hq4, hq5, hq6, hLT, hLT', hLD, hLD'] at hq; simp at hq)
  have HEQ := Lib.hid (show (q1 || q2 || q3 || q4 || q5 || q6) = false → r.k = s.k ∧ r.t = s.t ∧ r.p = s.p ∧ r.n = s.n ∧ LT = LT' ∧ LD = LD' from fun hq => by rw [hq1, hq2, hq3, hq4, hq5, hq6] at hq; simpa [and_assoc] using hq)
  have SC := Lib.hid (fun W (h : RcIn W B r (.slice A1 r.c.xs.length c1) (.slice A2 r.c.ys.length c2) (.slice A3 LT c3) (.slice A4 LD c4)) (h' : RcIn W B s (.slice A5 s.c.xs.length c5) (.slice A6 s.c.ys.length c6) (.slice A7 LT' c7) (.slice A8 LD' c8)) (hW : B ≤ W.heap.size) => same_change r.c s.c hr.2.2.2.2.1 hs.2.2.2.2.1 _ _ _ _ W B hW h.a h.b h'.a h'.b)
  have HL1 := Lib.hid hLT
  have HL2 := Lib.hid hLD
  have HL3 := Lib.hid hLT'
  have HL4 := Lib.hid hLD'
  have HB := Lib.hid hB
  clear hq1 hq2 hq3 hq4 hq5 hq6 hLT hLT' hLD hLD' h h' h0 h0' bb hB hl1 hl2 hl5 hl6 hr hs
  go_enter Try.func21, Try.ntmps21
  go_wp2
  all_goals first
    | (go_ret; exact TellsSame.no (HNE.out (by simp [*])) HW.out)
    | skip
  obtain ⟨z1, z2, z3, z4, z5, z6⟩ := HEQ.out (by simp [*])
  subst z5 z6
  have Z1 := Lib.hid z1
  have Z2 := Lib.hid z2
  have Z3 := Lib.hid z3
  have Z4 := Lib.hid z4
  clear z1 z2 z3 z4 e1 e2 e3 e4 e5 e6 HEQ HNE
  go_loopw [5] (fun i wr => ∃ j : Nat, i = .int .i64 j ∧ j ≤ LT ∧ Hid (r.ts.take j = s.ts.take j) ∧ Hid (Box wr w.heap.size (rcV r (.slice A1 r.c.xs.length c1) (.slice A2 r.c.ys.length c2) (.slice A3 LT c3) (.slice A4 LD c4)) 54) ∧ Hid (Box wr (w.heap.size + 1) (rcV s (.slice A5 s.c.xs.length c5) (.slice A6 s.c.ys.length c6) (.slice A7 LT c7) (.slice A8 LD c8)) 54) ∧ Hid (RcIn wr B r (.slice A1 r.c.xs.length c1) (.slice A2 r.c.ys.length c2) (.slice A3 LT c3) (.slice A4 LD c4)) ∧ Hid (RcIn wr B s (.slice A5 s.c.xs.length c5) (.slice A6 s.c.ys.length c6) (.slice A7 LT c7) (.slice A8 LD c8)) ∧ Hid (Below w.heap.size w wr)) (fun i _ => LT - (intOf i).toNat)
  case atStart => exact ⟨0, rfl, Nat.zero_le _, Lib.hid rfl, BA, BB, RA, RB, HW⟩
  case round =>
    clear BA BB RA RB HW
    obtain ⟨j, rfl, hj, HTK, BA, BB, RA, RB, HW⟩ := hrel
    have kA := BA.out.cell
    have kB := BB.out.cell
    by_cases hlt : j < LT
    · have hla : j < r.ts.length := by have := HL1.out; omega
      have hlb : j < s.ts.length := by have := HL3.out; omega
      obtain ⟨b1, o1, rfl, hb1, hc1⟩ := RA.out.t.at_ (List.getElem?_eq_getElem hla)
      obtain ⟨b2, o2, rfl, hb2, hc2⟩ := RB.out.t.at_ (List.getElem?_eq_getElem hlb)
      have hsz : B ≤ wr.heap.size := Nat.le_trans HB.out HW.out.size
      have Cx := Lib.hid (And.intro (Nat.lt_of_lt_of_le hb1 hsz) hc1)
      have Cy := Lib.hid (And.intro (Nat.lt_of_lt_of_le hb2 hsz) hc2)
      have HN := Lib.hid (fun (hne : r.ts[j] ≠ s.ts[j]) (e : r = s) => hne (by subst e; rfl))
      have HS := Lib.hid (fun (he : r.ts[j] = s.ts[j]) => take_eq _ _ j hla hlb HTK.out he)
      obtain ⟨x, hx⟩ : ∃ x, x = r.ts[j] := ⟨_, rfl⟩
      obtain ⟨y, hy⟩ : ∃ y, y = s.ts[j] := ⟨_, rfl⟩
      rw [← hx] at Cx HN HS
      rw [← hy] at Cy HN HS
      obtain ⟨q, hq⟩ : ∃ q, q = !eqAc x y := ⟨_, rfl⟩
      have HQ := Lib.hid (show (q = true → x ≠ y) ∧ (q = false → x = y) by rw [hq]; have := eqAc_iff x y; cases h : eqAc x y <;> simp_all)
      have EQ := Lib.hid (fun W => neqAc x y W)
      rw [← hq] at EQ
      have GD := Lib.hid (fun a b W => grdAc x y a b W)
      clear hc1 hc2 hb1 hb2 hsz hx hy hq hla hlb
      go_wp2
      refine wp_region_ob (by kernel_rfl) (by kernel_rfl) [(fun v _ => v = .pointer (some ⟨w.heap.size, 10, none⟩)), (fun v _ => v = .slice (some ⟨b1, o1, none⟩) LT c3), (fun v _ => v = .int .i64 j), (fun v _ => v = .pointer (some ⟨b1, o1 + j * 4, none⟩)), (fun v _ => v = .agg (cAc x).toArray), (fun v _ => v = .pointer (some ⟨w.heap.size + 1, 10, none⟩)), (fun v _ => v = .slice (some ⟨b2, o2, none⟩) LT c7), (fun v _ => v = .int .i64 j), (fun v _ => v = .pointer (some ⟨b2, o2 + j * 4, none⟩)), (fun v _ => v = .agg (cAc y).toArray), (fun v _ => v = .bool q)] ⟨stays_eq _, stays_eq _, stays_eq _, stays_eq _, stays_eq _, stays_eq _, stays_eq _, stays_eq _, stays_eq _, stays_eq _, stays_eq _, trivial⟩ (fun vals => ?_) (fun vals W hbW hall => ?_)
      · simp only [ObF, Act.put, List.setIfInBounds_toArray, List.set_cons_succ, List.set_cons_zero]
        refine ⟨?_, ?_, ?_, ?_, ?_, ?_, ?_, ?_, ?_, ?_, ?_, trivial⟩
        · intro W hbW hw
          clear hw
          refine step_plain rfl ?_
          go_simp
          (first | exact Below.refl _ _ | exact ⟨Below.refl _ _, rfl⟩ | exact ⟨_, rfl, Below.refl _ _, rfl⟩)
        · intro W hbW hw
          have f0 : vals 0 = .pointer (some ⟨w.heap.size, 10, none⟩) := hw ⟨0, .data⟩ (by simp) rfl
          clear hw
          refine step_plain rfl ?_
          have cw := (BA.out.later hbW).cell
          go_simp
          (first | exact Below.refl _ _ | exact ⟨Below.refl _ _, rfl⟩ | exact ⟨_, rfl, Below.refl _ _, rfl⟩)
        · intro W hbW hw
          clear hw
          refine step_plain rfl ?_
          go_simp
          (first | exact Below.refl _ _ | exact ⟨Below.refl _ _, rfl⟩ | exact ⟨_, rfl, Below.refl _ _, rfl⟩)
        · intro W hbW hw
          have f1 : vals 1 = .slice (some ⟨b1, o1, none⟩) LT c3 := hw ⟨1, .data⟩ (by simp) rfl
          have f2 : vals 2 = .int .i64 j := hw ⟨2, .data⟩ (by simp) rfl
          clear hw
          refine step_plain rfl ?_
          have i0 : (0 : Int) ≤ (j : Int) := by omega
          have i1 : (j : Int) < (LT : Int) := by omega
          go_simp
          (first | exact Below.refl _ _ | exact ⟨Below.refl _ _, rfl⟩ | exact ⟨_, rfl, Below.refl _ _, rfl⟩)
        · intro W hbW hw
          have f3 : vals 3 = .pointer (some ⟨b1, o1 + j * 4, none⟩) := hw ⟨3, .data⟩ (by simp) rfl
          clear hw
          refine step_plain rfl ?_
          have cc : ∀ i u, (cAc x)[i]? = some u → W.cell? ⟨b1, o1 + j * 4 + i, none⟩ = some u := fun i u hu => (hbW.cell (p := ⟨b1, o1 + j * 4 + i, none⟩) Cx.out.1).trans (Cx.out.2 i u hu)
          have g0 := cc 0 _ rfl
          have g1 := cc 1 _ rfl
          have g2 := cc 2 _ rfl
          have g3 := cc 3 _ rfl
          rw [Nat.add_zero] at g0
          clear cc
          unfold cAc
          go_simp
          (first | exact Below.refl _ _ | exact ⟨Below.refl _ _, rfl⟩ | exact ⟨_, rfl, Below.refl _ _, rfl⟩)
        · intro W hbW hw
          clear hw
          refine step_plain rfl ?_
          go_simp
          (first | exact Below.refl _ _ | exact ⟨Below.refl _ _, rfl⟩ | exact ⟨_, rfl, Below.refl _ _, rfl⟩)
        · intro W hbW hw
          have f5 : vals 5 = .pointer (some ⟨w.heap.size + 1, 10, none⟩) := hw ⟨5, .data⟩ (by simp) rfl
          clear hw
          refine step_plain rfl ?_
          have cw := (BB.out.later hbW).cell
          go_simp
          (first | exact Below.refl _ _ | exact ⟨Below.refl _ _, rfl⟩ | exact ⟨_, rfl, Below.refl _ _, rfl⟩)
        · intro W hbW hw
          clear hw
          refine step_plain rfl ?_
          go_simp
          (first | exact Below.refl _ _ | exact ⟨Below.refl _ _, rfl⟩ | exact ⟨_, rfl, Below.refl _ _, rfl⟩)
        · intro W hbW hw
          have f6 : vals 6 = .slice (some ⟨b2, o2, none⟩) LT c7 := hw ⟨6, .data⟩ (by simp) rfl
          have f7 : vals 7 = .int .i64 j := hw ⟨7, .data⟩ (by simp) rfl
          clear hw
          refine step_plain rfl ?_
          have i0 : (0 : Int) ≤ (j : Int) := by omega
          have i1 : (j : Int) < (LT : Int) := by omega
          go_simp
          (first | exact Below.refl _ _ | exact ⟨Below.refl _ _, rfl⟩ | exact ⟨_, rfl, Below.refl _ _, rfl⟩)
        · intro W hbW hw
          have f8 : vals 8 = .pointer (some ⟨b2, o2 + j * 4, none⟩) := hw ⟨8, .data⟩ (by simp) rfl
          clear hw
          refine step_plain rfl ?_
          have cc : ∀ i u, (cAc y)[i]? = some u → W.cell? ⟨b2, o2 + j * 4 + i, none⟩ = some u := fun i u hu => (hbW.cell (p := ⟨b2, o2 + j * 4 + i, none⟩) Cy.out.1).trans (Cy.out.2 i u hu)
          have g0 := cc 0 _ rfl
          have g1 := cc 1 _ rfl
          have g2 := cc 2 _ rfl
          have g3 := cc 3 _ rfl
          rw [Nat.add_zero] at g0
          clear cc
          unfold cAc
          go_simp
          (first | exact Below.refl _ _ | exact ⟨Below.refl _ _, rfl⟩ | exact ⟨_, rfl, Below.refl _ _, rfl⟩)
        · intro W hbW hw
          have f4 : vals 4 = .agg (cAc x).toArray := hw ⟨4, .data⟩ (by simp) rfl
          have f9 : vals 9 = .agg (cAc y).toArray := hw ⟨9, .data⟩ (by simp) rfl
          clear hw
          refine step_plain rfl ?_
          obtain ⟨VA, hVA⟩ : ∃ v, v = Value.agg (cAc x).toArray := ⟨_, rfl⟩
          obtain ⟨VB, hVB⟩ : ∃ v, v = Value.agg (cAc y).toArray := ⟨_, rfl⟩
          have q1 := EQ.out W
          have q2 := fun a b => GD.out a b W
          rw [← hVA, ← hVB] at q1 q2
          rw [← hVA] at f4
          rw [← hVB] at f9
          clear hVA hVB
          go_simp
          (first | exact Below.refl _ _ | exact ⟨Below.refl _ _, rfl⟩ | exact ⟨_, rfl, Below.refl _ _, rfl⟩)
      · simp only [TL, Act.put, List.setIfInBounds_toArray, List.set_cons_succ, List.set_cons_zero]
        have f0 : vals 0 = .pointer (some ⟨w.heap.size, 10, none⟩) := hall 0 (by decide)
        have f1 : vals 1 = .slice (some ⟨b1, o1, none⟩) LT c3 := hall 1 (by decide)
        have f2 : vals 2 = .int .i64 j := hall 2 (by decide)
        have f3 : vals 3 = .pointer (some ⟨b1, o1 + j * 4, none⟩) := hall 3 (by decide)
        have f4 : vals 4 = .agg (cAc x).toArray := hall 4 (by decide)
        have f5 : vals 5 = .pointer (some ⟨w.heap.size + 1, 10, none⟩) := hall 5 (by decide)
        have f6 : vals 6 = .slice (some ⟨b2, o2, none⟩) LT c7 := hall 6 (by decide)
        have f7 : vals 7 = .int .i64 j := hall 7 (by decide)
        have f8 : vals 8 = .pointer (some ⟨b2, o2 + j * 4, none⟩) := hall 8 (by decide)
        have f9 : vals 9 = .agg (cAc y).toArray := hall 9 (by decide)
        have f10 : vals 10 = .bool q := hall 10 (by decide)
        clear hall
        simp only [f0, f1, f2, f3, f4, f5, f6, f7, f8, f9, f10]
        clear f0 f1 f2 f3 f4 f5 f6 f7 f8 f9 f10
        cases q
        · have he := HQ.out.2 rfl
          have HS' := Lib.hid (HS.out he)
          clear he
          go_wp2
          go_roundw
          case rel => exact ⟨j + 1, by go_num, by omega, HS', Lib.hid (BA.out.later hbW), Lib.hid (BB.out.later hbW), Lib.hid (RA.out.below (hbW.mono (Nat.le_trans HB.out HW.out.size))), Lib.hid (RB.out.below (hbW.mono (Nat.le_trans HB.out HW.out.size))), Lib.hid (step_ HW.out hbW)⟩
          case measure => simp [intOf]; omega
        · go_wp2
          go_ret
          exact TellsSame.no (HN.out (HQ.out.1 (by trivial))) (step_ HW.out hbW)
    · have hje : j = LT := by omega
      have hall : r.ts = s.ts := full_eq _ _ j (by have := HL1.out; omega) (by have := HL3.out; omega) HTK.out
      have Ets := Lib.hid hall
      clear hall HTK
      go_wp2
      clear kA kB
      go_loopw [6] (fun i wr => ∃ j : Nat, i = .int .i64 j ∧ j ≤ LD ∧ Hid (r.ds.take j = s.ds.take j) ∧ Hid (Box wr w.heap.size (rcV r (.slice A1 r.c.xs.length c1) (.slice A2 r.c.ys.length c2) (.slice A3 LT c3) (.slice A4 LD c4)) 54) ∧ Hid (Box wr (w.heap.size + 1) (rcV s (.slice A5 s.c.xs.length c5) (.slice A6 s.c.ys.length c6) (.slice A7 LT c7) (.slice A8 LD c8)) 54) ∧ Hid (RcIn wr B r (.slice A1 r.c.xs.length c1) (.slice A2 r.c.ys.length c2) (.slice A3 LT c3) (.slice A4 LD c4)) ∧ Hid (RcIn wr B s (.slice A5 s.c.xs.length c5) (.slice A6 s.c.ys.length c6) (.slice A7 LT c7) (.slice A8 LD c8)) ∧ Hid (Below w.heap.size w wr)) (fun i _ => LD - (intOf i).toNat)
      case atStart => exact ⟨0, rfl, Nat.zero_le _, Lib.hid rfl, BA, BB, RA, RB, HW⟩
      case round =>
        clear BA BB RA RB HW
        obtain ⟨j, rfl, hj, HTK, BA, BB, RA, RB, HW⟩ := hrel
        have kA := BA.out.cell
        have kB := BB.out.cell
        by_cases hlt : j < LD
        · have hla : j < r.ds.length := by have := HL2.out; omega
          have hlb : j < s.ds.length := by have := HL4.out; omega
          obtain ⟨b1, o1, rfl, hb1, hc1⟩ := RA.out.d.at_ (List.getElem?_eq_getElem hla)
          obtain ⟨b2, o2, rfl, hb2, hc2⟩ := RB.out.d.at_ (List.getElem?_eq_getElem hlb)
          have hsz : B ≤ wr.heap.size := Nat.le_trans HB.out HW.out.size
          have Cx := Lib.hid (And.intro (Nat.lt_of_lt_of_le hb1 hsz) hc1)
          have Cy := Lib.hid (And.intro (Nat.lt_of_lt_of_le hb2 hsz) hc2)
          have HN := Lib.hid (fun (hne : r.ds[j] ≠ s.ds[j]) (e : r = s) => hne (by subst e; rfl))
          have HS := Lib.hid (fun (he : r.ds[j] = s.ds[j]) => take_eq _ _ j hla hlb HTK.out he)
          obtain ⟨x, hx⟩ : ∃ x, x = r.ds[j] := ⟨_, rfl⟩
          obtain ⟨y, hy⟩ : ∃ y, y = s.ds[j] := ⟨_, rfl⟩
          rw [← hx] at Cx HN HS
          rw [← hy] at Cy HN HS
          obtain ⟨q, hq⟩ : ∃ q, q = !eqDt x y := ⟨_, rfl⟩
          have HQ := Lib.hid (show (q = true → x ≠ y) ∧ (q = false → x = y) by rw [hq]; have := eqDt_iff x y; cases h : eqDt x y <;> simp_all)
          have EQ := Lib.hid (fun W => neqDt x y W)
          rw [← hq] at EQ
          have GD := Lib.hid (fun a b W => grdDt x y a b W)
          clear hc1 hc2 hb1 hb2 hsz hx hy hq hla hlb
          go_wp2
          refine wp_region_ob (by kernel_rfl) (by kernel_rfl) [(fun v _ => v = .pointer (some ⟨w.heap.size, 11, none⟩)), (fun v _ => v = .slice (some ⟨b1, o1, none⟩) LD c4), (fun v _ => v = .int .i64 j), (fun v _ => v = .pointer (some ⟨b1, o1 + j * 2, none⟩)), (fun v _ => v = .agg (cDt x).toArray), (fun v _ => v = .pointer (some ⟨w.heap.size + 1, 11, none⟩)), (fun v _ => v = .slice (some ⟨b2, o2, none⟩) LD c8), (fun v _ => v = .int .i64 j), (fun v _ => v = .pointer (some ⟨b2, o2 + j * 2, none⟩)), (fun v _ => v = .agg (cDt y).toArray), (fun v _ => v = .bool q)] ⟨stays_eq _, stays_eq _, stays_eq _, stays_eq _, stays_eq _, stays_eq _, stays_eq _, stays_eq _, stays_eq _, stays_eq _, stays_eq _, trivial⟩ (fun vals => ?_) (fun vals W hbW hall => ?_)
          · simp only [ObF, Act.put, List.setIfInBounds_toArray, List.set_cons_succ, List.set_cons_zero]
            refine ⟨?_, ?_, ?_, ?_, ?_, ?_, ?_, ?_, ?_, ?_, ?_, trivial⟩
            · intro W hbW hw
              clear hw
              refine step_plain rfl ?_
              go_simp
              (first | exact Below.refl _ _ | exact ⟨Below.refl _ _, rfl⟩ | exact ⟨_, rfl, Below.refl _ _, rfl⟩)
            · intro W hbW hw
              have f0 : vals 0 = .pointer (some ⟨w.heap.size, 11, none⟩) := hw ⟨0, .data⟩ (by simp) rfl
              clear hw
              refine step_plain rfl ?_
              have cw := (BA.out.later hbW).cell
              go_simp
              (first | exact Below.refl _ _ | exact ⟨Below.refl _ _, rfl⟩ | exact ⟨_, rfl, Below.refl _ _, rfl⟩)
            · intro W hbW hw
              clear hw
              refine step_plain rfl ?_
              go_simp
              (first | exact Below.refl _ _ | exact ⟨Below.refl _ _, rfl⟩ | exact ⟨_, rfl, Below.refl _ _, rfl⟩)
            · intro W hbW hw
              have f1 : vals 1 = .slice (some ⟨b1, o1, none⟩) LD c4 := hw ⟨1, .data⟩ (by simp) rfl
              have f2 : vals 2 = .int .i64 j := hw ⟨2, .data⟩ (by simp) rfl
              clear hw
              refine step_plain rfl ?_
              have i0 : (0 : Int) ≤ (j : Int) := by omega
              have i1 : (j : Int) < (LD : Int) := by omega
              go_simp
              (first | exact Below.refl _ _ | exact ⟨Below.refl _ _, rfl⟩ | exact ⟨_, rfl, Below.refl _ _, rfl⟩)
            · intro W hbW hw
              have f3 : vals 3 = .pointer (some ⟨b1, o1 + j * 2, none⟩) := hw ⟨3, .data⟩ (by simp) rfl
              clear hw
              refine step_plain rfl ?_
              have cc : ∀ i u, (cDt x)[i]? = some u → W.cell? ⟨b1, o1 + j * 2 + i, none⟩ = some u := fun i u hu => (hbW.cell (p := ⟨b1, o1 + j * 2 + i, none⟩) Cx.out.1).trans (Cx.out.2 i u hu)
              have g0 := cc 0 _ rfl
              have g1 := cc 1 _ rfl
              rw [Nat.add_zero] at g0
              clear cc
              unfold cDt
              go_simp
              (first | exact Below.refl _ _ | exact ⟨Below.refl _ _, rfl⟩ | exact ⟨_, rfl, Below.refl _ _, rfl⟩)
            · intro W hbW hw
              clear hw
              refine step_plain rfl ?_
              go_simp
              (first | exact Below.refl _ _ | exact ⟨Below.refl _ _, rfl⟩ | exact ⟨_, rfl, Below.refl _ _, rfl⟩)
            · intro W hbW hw
              have f5 : vals 5 = .pointer (some ⟨w.heap.size + 1, 11, none⟩) := hw ⟨5, .data⟩ (by simp) rfl
              clear hw
              refine step_plain rfl ?_
              have cw := (BB.out.later hbW).cell
              go_simp
              (first | exact Below.refl _ _ | exact ⟨Below.refl _ _, rfl⟩ | exact ⟨_, rfl, Below.refl _ _, rfl⟩)
            · intro W hbW hw
              clear hw
              refine step_plain rfl ?_
              go_simp
              (first | exact Below.refl _ _ | exact ⟨Below.refl _ _, rfl⟩ | exact ⟨_, rfl, Below.refl _ _, rfl⟩)
            · intro W hbW hw
              have f6 : vals 6 = .slice (some ⟨b2, o2, none⟩) LD c8 := hw ⟨6, .data⟩ (by simp) rfl
              have f7 : vals 7 = .int .i64 j := hw ⟨7, .data⟩ (by simp) rfl
              clear hw
              refine step_plain rfl ?_
              have i0 : (0 : Int) ≤ (j : Int) := by omega
              have i1 : (j : Int) < (LD : Int) := by omega
              go_simp
              (first | exact Below.refl _ _ | exact ⟨Below.refl _ _, rfl⟩ | exact ⟨_, rfl, Below.refl _ _, rfl⟩)
            · intro W hbW hw
              have f8 : vals 8 = .pointer (some ⟨b2, o2 + j * 2, none⟩) := hw ⟨8, .data⟩ (by simp) rfl
              clear hw
              refine step_plain rfl ?_
              have cc : ∀ i u, (cDt y)[i]? = some u → W.cell? ⟨b2, o2 + j * 2 + i, none⟩ = some u := fun i u hu => (hbW.cell (p := ⟨b2, o2 + j * 2 + i, none⟩) Cy.out.1).trans (Cy.out.2 i u hu)
              have g0 := cc 0 _ rfl
              have g1 := cc 1 _ rfl
              rw [Nat.add_zero] at g0
              clear cc
              unfold cDt
              go_simp
              (first | exact Below.refl _ _ | exact ⟨Below.refl _ _, rfl⟩ | exact ⟨_, rfl, Below.refl _ _, rfl⟩)
            · intro W hbW hw
              have f4 : vals 4 = .agg (cDt x).toArray := hw ⟨4, .data⟩ (by simp) rfl
              have f9 : vals 9 = .agg (cDt y).toArray := hw ⟨9, .data⟩ (by simp) rfl
              clear hw
              refine step_plain rfl ?_
              obtain ⟨VA, hVA⟩ : ∃ v, v = Value.agg (cDt x).toArray := ⟨_, rfl⟩
              obtain ⟨VB, hVB⟩ : ∃ v, v = Value.agg (cDt y).toArray := ⟨_, rfl⟩
              have q1 := EQ.out W
              have q2 := fun a b => GD.out a b W
              rw [← hVA, ← hVB] at q1 q2
              rw [← hVA] at f4
              rw [← hVB] at f9
              clear hVA hVB
              go_simp
              (first | exact Below.refl _ _ | exact ⟨Below.refl _ _, rfl⟩ | exact ⟨_, rfl, Below.refl _ _, rfl⟩)
          · simp only [TL, Act.put, List.setIfInBounds_toArray, List.set_cons_succ, List.set_cons_zero]
            have f0 : vals 0 = .pointer (some ⟨w.heap.size, 11, none⟩) := hall 0 (by decide)
            have f1 : vals 1 = .slice (some ⟨b1, o1, none⟩) LD c4 := hall 1 (by decide)
            have f2 : vals 2 = .int .i64 j := hall 2 (by decide)
            have f3 : vals 3 = .pointer (some ⟨b1, o1 + j * 2, none⟩) := hall 3 (by decide)
            have f4 : vals 4 = .agg (cDt x).toArray := hall 4 (by decide)
            have f5 : vals 5 = .pointer (some ⟨w.heap.size + 1, 11, none⟩) := hall 5 (by decide)
            have f6 : vals 6 = .slice (some ⟨b2, o2, none⟩) LD c8 := hall 6 (by decide)
            have f7 : vals 7 = .int .i64 j := hall 7 (by decide)
            have f8 : vals 8 = .pointer (some ⟨b2, o2 + j * 2, none⟩) := hall 8 (by decide)
            have f9 : vals 9 = .agg (cDt y).toArray := hall 9 (by decide)
            have f10 : vals 10 = .bool q := hall 10 (by decide)
            clear hall
            simp only [f0, f1, f2, f3, f4, f5, f6, f7, f8, f9, f10]
            clear f0 f1 f2 f3 f4 f5 f6 f7 f8 f9 f10
            cases q
            · have he := HQ.out.2 rfl
              have HS' := Lib.hid (HS.out he)
              clear he
              go_wp2
              go_roundw
              case rel => exact ⟨j + 1, by go_num, by omega, HS', Lib.hid (BA.out.later hbW), Lib.hid (BB.out.later hbW), Lib.hid (RA.out.below (hbW.mono (Nat.le_trans HB.out HW.out.size))), Lib.hid (RB.out.below (hbW.mono (Nat.le_trans HB.out HW.out.size))), Lib.hid (step_ HW.out hbW)⟩
              case measure => simp [intOf]; omega
            · go_wp2
              go_ret
              exact TellsSame.no (HN.out (HQ.out.1 (by trivial))) (step_ HW.out hbW)
        · have hje : j = LD := by omega
          have hall : r.ds = s.ds := full_eq _ _ j (by have := HL2.out; omega) (by have := HL4.out; omega) HTK.out
          have Eds := Lib.hid hall
          clear hall HTK
          go_wp2_with fail
          (with_reducible refine (SC.out _ RA.out RB.out (Nat.le_trans HB.out HW.out.size)).mono ?_)
          rintro e w9 ⟨rfl, hb9⟩
          go_wp2
          go_ret
          exact ⟨_, rfl, ⟨fun h => rc_ext Z1.out Z2.out Z3.out Z4.out ((sameB_iff _ _).1 h) Ets.out Eds.out, fun h => by subst h; exact (sameB_iff _ _).2 rfl⟩, step_ HW.out hb9⟩
end Go.Proofs.Yteggcehjpfmikaa.Rec
