import Derived.Test.YtbbphfhkedldmaaRecU
/- Decode of any bytes. -/
namespace Go.Proofs.Ytbbphfhkedldmaa.Rec
open Go.ChangeShapes Go.WideShapes Go.ChangeAt Go.RowKit Go.IntWalk Go.Proofs.NumMath Go.Proofs.Mem Go.Proofs.CrcMath NumBytes CrcA
set_option linter.unusedVariables false
set_option linter.unusedSimpArgs false
/-- a record's LENGTH -/
def lenB (xs : List Int) : Nat := (getS (xs.take 2)).toNat
/-- what Decode comes to: a record, or which error -/
def resD (xs : List Int) : Option Rc × Int :=
  if xs.length < 27 then (none, 60) else if lenB xs = 0 ∨ xs.length < lenB xs then (none, 60) else match rDec (xs.take (lenB xs)) with
    | none => (none, 61)
    | some r => (some r, 0)
def DecodePost (w : World) (xs : List Int) (e : Ending) (w' : World) : Prop :=
  match resD xs with
  | (none, er) => e = .returned (.tuple #[.agg (bareC 0 0 0 0), .int .i64 0, .int .u16 er]) ∧ Below w.heap.size w w'
  | (some r, _) => ∃ a b ta da, e = .returned (.tuple #[.agg (rcV r a b ta da), .int .i64 (lenB xs), .int .u16 0]) ∧ RcOwn w' w.heap.size r a b ta da ∧ Below w.heap.size w w'
theorem DecodePost.no {w w' : World} {xs : List Int} {er : Int} (h : resD xs = (none, er)) (hb : Below w.heap.size w w') : DecodePost w xs (.returned (.tuple #[.agg (bareC 0 0 0 0), .int .i64 0, .int .u16 er])) w' := by
  unfold DecodePost; rw [h]; exact ⟨rfl, hb⟩
set_option maxRecDepth 100000 in
set_option maxHeartbeats 16000000 in
theorem decode_all_any (w : World) (v : Value) (xs : List Int) (hv : IR w w.heap.size .u8 v xs) (hx : Bytes xs) (hxl : xs.length ≤ 100000) :
    Calls Try.prog 16 #[v] w (DecodePost w xs) := by
  obtain ⟨A, c, rfl, hlc, hcm⟩ := hv.form
  unfold maxLen at hcm
  obtain ⟨L, hL⟩ : ∃ L, L = xs.length := ⟨_, rfl⟩
  rw [← hL] at hv hlc hxl ⊢
  by_cases h27 : L < 27
  · have HN := Lib.hid (show resD xs = (none, 60) by unfold resD; rw [if_pos (by omega)])
    refine (decode_few A L c h27 w).mono ?_
    rintro e w' ⟨rfl, hb⟩
    exact DecodePost.no HN.out hb
  · have hc2 : 2 ≤ c := by omega
    have hc2' : (2 : Int) ≤ (c : Int) := by omega
    have d27 : decide ((L : Int) < 27) = false := by simp; omega
    have hz : IR (w.alloc (.cells (bareC 0 0 0 0) 31)) w.heap.size .u8 (.slice A L c) xs := hv.alloc (Nat.le_refl _) _
    have h2 : IR (w.alloc (.cells (bareC 0 0 0 0) 31)) w.heap.size .u8 (.slice A 2 c) (xs.take 2) := hz.take (by omega)
    obtain ⟨g0, hg0⟩ : ∃ g, g = getS (xs.take 2) := ⟨_, rfl⟩
    have GT := Lib.hid (get_any _ _ (w.alloc (.cells (bareC 0 0 0 0) 31)) w.heap.size h2 (bytes_take hx 2))
    rw [← hg0] at GT
    have hgb : 0 ≤ g0 ∧ g0 < 65536 := by
      rw [hg0]; unfold getS
      have e : min (xs.take 2).length 8 = 2 := by rw [List.length_take]; omega
      rw [e]; exact getTo_bd _ (bytes_take hx 2) 2
    obtain ⟨K, rfl⟩ : ∃ K : Nat, g0 = K := ⟨g0.toNat, by omega⟩
    have hK : lenB xs = K := by unfold lenB; rw [← hg0]; simp
    have wk : IntKind.i64.wrap (K : Int) = (K : Int) := IntWalk.i64_in _ (by omega)
    by_cases hbad : K = 0 ∨ L < K
    · have HN := Lib.hid (show resD xs = (none, 60) by unfold resD; rw [if_neg (by omega), if_pos (by rw [hK]; omega)])
      obtain ⟨q1, hq1⟩ : ∃ q, q = decide (K = 0) := ⟨_, rfl⟩
      obtain ⟨q2, hq2⟩ : ∃ q, q = decide (L < K) := ⟨_, rfl⟩
      have d1 : ((K : Int) == 0) = q1 := by rw [hq1, beq_zero]
      have d2 : decide ((L : Int) < (K : Int)) = q2 := by rw [hq2, decide_eq_decide]; omega
      have d2' : decide (L < K) = q2 := hq2.symm
      have HQ := Lib.hid (show (q1 || q2) = true by rw [hq1, hq2]; simpa using hbad)
      clear hg0 hgb hK hbad h27 hz h2 hv hL hxl hq1 hq2
      go_enter Try.func16, Try.ntmps16
      go_wp2_with fail
      (with_reducible refine GT.out.mono ?_)
      rintro e w1 ⟨rfl, rfl⟩
      cases q1
      · cases q2
        · have := HQ.out; simp at this
        · go_wp2
          refine bodyPost_ret (v := .tuple #[.agg (bareC 0 0 0 0), .int .i64 0, .int .u16 60]) (by simp [results, Try.results16, go_sem]; try rfl) rfl ?_
          exact DecodePost.no HN.out (new_ (Below.refl _ _) _)
      · go_wp2
        refine bodyPost_ret (v := .tuple #[.agg (bareC 0 0 0 0), .int .i64 0, .int .u16 60]) (by simp [results, Try.results16, go_sem]; try rfl) rfl ?_
        exact DecodePost.no HN.out (new_ (Below.refl _ _) _)
    · have d1 : ((K : Int) == 0) = false := by rw [beq_zero]; simp; omega
      have d2 : decide ((L : Int) < (K : Int)) = false := by simp; omega
      have d2' : decide (L < K) = false := by simp; omega
      have b1 : (0 : Int) ≤ (K : Int) := by omega
      have b2 : (K : Int) ≤ (c : Int) := by omega
      have hkL : K ≤ L := by omega
      have DB := Lib.hid (decode_any (w.alloc (.cells (bareC 0 0 0 0) 31)) w.heap.size (by simp) _ _ (hz.take hkL) (bytes_take hx K) (by rw [List.length_take]; omega))
      have BR0 := Lib.hid (Box.new w (bareC 0 0 0 0) 31)
      have HR := Lib.hid (show ∀ o, rDec (xs.take K) = o → resD xs = (match o with | none => (none, 61) | some r => (some r, 0)) from fun o ho => by unfold resD; rw [if_neg (by omega), if_neg (by rw [hK]; omega), hK, ho])
      have HK := Lib.hid hK
      clear hg0 hgb hK hbad h27 hz h2 hv hL hxl
      go_enter Try.func16, Try.ntmps16
      go_wp2_with fail
      (with_reducible refine GT.out.mono ?_)
      rintro e w1 ⟨rfl, rfl⟩
      go_wp2_with fail
      (with_reducible refine DB.out.mono ?_)
      rintro e w1 hz
      unfold DecPost at hz
      cases eD : rDec (xs.take K) with
      | none =>
        rw [eD] at hz
        obtain ⟨rfl, hb1⟩ := hz
        have HN := Lib.hid (HR.out none eD)
        have BR1 := Lib.hid (BR0.out.later hb1)
        have HW1 := Lib.hid (step_ (new_ (Below.refl w.heap.size w) _) hb1)
        have HL := Lib.hid (BR0.out.later hb1).lt
        clear hb1 eD
        have hb2 := BR1.out.alloc (.cells (bareC 0 0 0 0) 31)
        have a_0 : (w1.alloc (.cells (bareC 0 0 0 0) 31)).cell? ⟨w.heap.size, 0, none⟩ = some (.int .u8 0) := hb2.cell 0
        have f_0 := hb2.frozen 0
        have a_1 : (w1.alloc (.cells (bareC 0 0 0 0) 31)).cell? ⟨w.heap.size, 1, none⟩ = some (.int .u32 0) := hb2.cell 1
        have f_1 := hb2.frozen 1
        have a_2 : (w1.alloc (.cells (bareC 0 0 0 0) 31)).cell? ⟨w.heap.size, 2, none⟩ = some (.int .u64 0) := hb2.cell 2
        have f_2 := hb2.frozen 2
        have a_3 : (w1.alloc (.cells (bareC 0 0 0 0) 31)).cell? ⟨w.heap.size, 3, none⟩ = some (.int .u64 0) := hb2.cell 3
        have f_3 := hb2.frozen 3
        have a_4 : (w1.alloc (.cells (bareC 0 0 0 0) 31)).cell? ⟨w.heap.size, 4, none⟩ = some (.int .u32 0) := hb2.cell 4
        have f_4 := hb2.frozen 4
        have a_5 : (w1.alloc (.cells (bareC 0 0 0 0) 31)).cell? ⟨w.heap.size, 5, none⟩ = some (.int .u16 0) := hb2.cell 5
        have f_5 := hb2.frozen 5
        have a_6 : (w1.alloc (.cells (bareC 0 0 0 0) 31)).cell? ⟨w.heap.size, 6, none⟩ = some (.bool false) := hb2.cell 6
        have f_6 := hb2.frozen 6
        have a_7 : (w1.alloc (.cells (bareC 0 0 0 0) 31)).cell? ⟨w.heap.size, 7, none⟩ = some (.bool false) := hb2.cell 7
        have f_7 := hb2.frozen 7
        have a_8 : (w1.alloc (.cells (bareC 0 0 0 0) 31)).cell? ⟨w.heap.size, 8, none⟩ = some (.slice none 0 0) := hb2.cell 8
        have f_8 := hb2.frozen 8
        have a_9 : (w1.alloc (.cells (bareC 0 0 0 0) 31)).cell? ⟨w.heap.size, 9, none⟩ = some (.slice none 0 0) := hb2.cell 9
        have f_9 := hb2.frozen 9
        have a_10 : (w1.alloc (.cells (bareC 0 0 0 0) 31)).cell? ⟨w.heap.size, 10, none⟩ = some (.slice none 0 0) := hb2.cell 10
        have f_10 := hb2.frozen 10
        have a_11 : (w1.alloc (.cells (bareC 0 0 0 0) 31)).cell? ⟨w.heap.size, 11, none⟩ = some (.slice none 0 0) := hb2.cell 11
        have f_11 := hb2.frozen 11
        have HB2 := Lib.hid hb2
        clear hb2
        go_wp2
        have b9 := Box.set_ (Box.set_ (Box.set_ (Box.set_ (Box.set_ (Box.set_ (Box.set_ (Box.set_ (Box.set_ (Box.set_ (Box.set_ (Box.set_ (HB2.out) 0 (.int .u8 0)) 1 (.int .u32 0)) 2 (.int .u64 0)) 3 (.int .u64 0)) 4 (.int .u32 0)) 5 (.int .u16 0)) 6 (.bool false)) 7 (.bool false)) 8 (.slice none 0 0)) 9 (.slice none 0 0)) 10 (.slice none 0 0)) 11 (.slice none 0 0)
        simp only [bareC, rcV, List.setIfInBounds_toArray, List.set_cons_zero, List.set_cons_succ] at b9
        have l9 := Below.setCell (Below.setCell (Below.setCell (Below.setCell (Below.setCell (Below.setCell (Below.setCell (Below.setCell (Below.setCell (Below.setCell (Below.setCell (Below.setCell (new_ HW1.out (.cells (bareC 0 0 0 0) 31)) (p := ⟨w.heap.size, 0, none⟩) (Nat.le_refl _) (.int .u8 0)) (p := ⟨w.heap.size, 1, none⟩) (Nat.le_refl _) (.int .u32 0)) (p := ⟨w.heap.size, 2, none⟩) (Nat.le_refl _) (.int .u64 0)) (p := ⟨w.heap.size, 3, none⟩) (Nat.le_refl _) (.int .u64 0)) (p := ⟨w.heap.size, 4, none⟩) (Nat.le_refl _) (.int .u32 0)) (p := ⟨w.heap.size, 5, none⟩) (Nat.le_refl _) (.int .u16 0)) (p := ⟨w.heap.size, 6, none⟩) (Nat.le_refl _) (.bool false)) (p := ⟨w.heap.size, 7, none⟩) (Nat.le_refl _) (.bool false)) (p := ⟨w.heap.size, 8, none⟩) (Nat.le_refl _) (.slice none 0 0)) (p := ⟨w.heap.size, 9, none⟩) (Nat.le_refl _) (.slice none 0 0)) (p := ⟨w.heap.size, 10, none⟩) (Nat.le_refl _) (.slice none 0 0)) (p := ⟨w.heap.size, 11, none⟩) (Nat.le_refl _) (.slice none 0 0)
        clear a_0 f_0 a_1 f_1 a_2 f_2 a_3 f_3 a_4 f_4 a_5 f_5 a_6 f_6 a_7 f_7 a_8 f_8 a_9 f_9 a_10 f_10 a_11 f_11
        generalize World.setCell (World.setCell (World.setCell (World.setCell (World.setCell (World.setCell (World.setCell (World.setCell (World.setCell (World.setCell (World.setCell (World.setCell ((w1.alloc (.cells (bareC 0 0 0 0) 31))) (⟨w.heap.size, 0, none⟩ : Addr) (.int .u8 0)) (⟨w.heap.size, 1, none⟩ : Addr) (.int .u32 0)) (⟨w.heap.size, 2, none⟩ : Addr) (.int .u64 0)) (⟨w.heap.size, 3, none⟩ : Addr) (.int .u64 0)) (⟨w.heap.size, 4, none⟩ : Addr) (.int .u32 0)) (⟨w.heap.size, 5, none⟩ : Addr) (.int .u16 0)) (⟨w.heap.size, 6, none⟩ : Addr) (.bool false)) (⟨w.heap.size, 7, none⟩ : Addr) (.bool false)) (⟨w.heap.size, 8, none⟩ : Addr) (.slice none 0 0)) (⟨w.heap.size, 9, none⟩ : Addr) (.slice none 0 0)) (⟨w.heap.size, 10, none⟩ : Addr) (.slice none 0 0)) (⟨w.heap.size, 11, none⟩ : Addr) (.slice none 0 0) = W9 at *
        have q0 : W9.cell? ⟨w.heap.size, 0, none⟩ = some (.int .u8 0) := b9.cell 0
        have q1 : W9.cell? ⟨w.heap.size, 1, none⟩ = some (.int .u32 0) := b9.cell 1
        have q2 : W9.cell? ⟨w.heap.size, 2, none⟩ = some (.int .u64 0) := b9.cell 2
        have q3 : W9.cell? ⟨w.heap.size, 3, none⟩ = some (.int .u64 0) := b9.cell 3
        have q4 : W9.cell? ⟨w.heap.size, 4, none⟩ = some (.int .u32 0) := b9.cell 4
        have q5 : W9.cell? ⟨w.heap.size, 5, none⟩ = some (.int .u16 0) := b9.cell 5
        have q6 : W9.cell? ⟨w.heap.size, 6, none⟩ = some (.bool false) := b9.cell 6
        have q7 : W9.cell? ⟨w.heap.size, 7, none⟩ = some (.bool false) := b9.cell 7
        have q8 : W9.cell? ⟨w.heap.size, 8, none⟩ = some (.slice none 0 0) := b9.cell 8
        have q9 : W9.cell? ⟨w.heap.size, 9, none⟩ = some (.slice none 0 0) := b9.cell 9
        have q10 : W9.cell? ⟨w.heap.size, 10, none⟩ = some (.slice none 0 0) := b9.cell 10
        have q11 : W9.cell? ⟨w.heap.size, 11, none⟩ = some (.slice none 0 0) := b9.cell 11
        refine bodyPost_ret (v := .tuple #[.agg (bareC 0 0 0 0), .int .i64 0, .int .u16 61]) (by simp [results, Try.results16, go_sem, bareC, q0, q1, q2, q3, q4, q5, q6, q7, q8, q9, q10, q11]) rfl ?_
        exact DecodePost.no HN.out l9
      | some r =>
        rw [eD] at hz
        obtain ⟨a, b, ta, da, rfl, ri, hb1⟩ := hz
        have hV := HR.out (some r) eD
        simp only at hV
        have HV := Lib.hid hV
        obtain ⟨A1, k1, e1, _, _⟩ := ri.in_.a.form
        obtain ⟨A2, k2, e2, _, _⟩ := ri.in_.b.form
        obtain ⟨A3, k3, e3, _, _⟩ := ri.in_.t.form
        obtain ⟨A4, k4, e4, _, _⟩ := ri.in_.d.form
        subst e1 e2 e3 e4
        have BR1 := Lib.hid (BR0.out.later hb1)
        have HW1 := Lib.hid (step_ (new_ (Below.refl w.heap.size w) _) hb1)
        have HL := Lib.hid (BR0.out.later hb1).lt
        have RI := Lib.hid ri
        clear hb1 eD ri hV
        have hb2 := BR1.out.alloc (.cells (rcV r (.slice A1 r.c.xs.length k1) (.slice A2 r.c.ys.length k2) (.slice A3 r.ts.length k3) (.slice A4 r.ds.length k4)) 31)
        have a_0 : (w1.alloc (.cells (rcV r (.slice A1 r.c.xs.length k1) (.slice A2 r.c.ys.length k2) (.slice A3 r.ts.length k3) (.slice A4 r.ds.length k4)) 31)).cell? ⟨w.heap.size, 0, none⟩ = some (.int .u8 0) := hb2.cell 0
        have f_0 := hb2.frozen 0
        have a_1 : (w1.alloc (.cells (rcV r (.slice A1 r.c.xs.length k1) (.slice A2 r.c.ys.length k2) (.slice A3 r.ts.length k3) (.slice A4 r.ds.length k4)) 31)).cell? ⟨w.heap.size, 1, none⟩ = some (.int .u32 0) := hb2.cell 1
        have f_1 := hb2.frozen 1
        have a_2 : (w1.alloc (.cells (rcV r (.slice A1 r.c.xs.length k1) (.slice A2 r.c.ys.length k2) (.slice A3 r.ts.length k3) (.slice A4 r.ds.length k4)) 31)).cell? ⟨w.heap.size, 2, none⟩ = some (.int .u64 0) := hb2.cell 2
        have f_2 := hb2.frozen 2
        have a_3 : (w1.alloc (.cells (rcV r (.slice A1 r.c.xs.length k1) (.slice A2 r.c.ys.length k2) (.slice A3 r.ts.length k3) (.slice A4 r.ds.length k4)) 31)).cell? ⟨w.heap.size, 3, none⟩ = some (.int .u64 0) := hb2.cell 3
        have f_3 := hb2.frozen 3
        have a_4 : (w1.alloc (.cells (rcV r (.slice A1 r.c.xs.length k1) (.slice A2 r.c.ys.length k2) (.slice A3 r.ts.length k3) (.slice A4 r.ds.length k4)) 31)).cell? ⟨w.heap.size, 4, none⟩ = some (.int .u32 0) := hb2.cell 4
        have f_4 := hb2.frozen 4
        have a_5 : (w1.alloc (.cells (rcV r (.slice A1 r.c.xs.length k1) (.slice A2 r.c.ys.length k2) (.slice A3 r.ts.length k3) (.slice A4 r.ds.length k4)) 31)).cell? ⟨w.heap.size, 5, none⟩ = some (.int .u16 0) := hb2.cell 5
        have f_5 := hb2.frozen 5
        have a_6 : (w1.alloc (.cells (rcV r (.slice A1 r.c.xs.length k1) (.slice A2 r.c.ys.length k2) (.slice A3 r.ts.length k3) (.slice A4 r.ds.length k4)) 31)).cell? ⟨w.heap.size, 6, none⟩ = some (.bool false) := hb2.cell 6
        have f_6 := hb2.frozen 6
        have a_7 : (w1.alloc (.cells (rcV r (.slice A1 r.c.xs.length k1) (.slice A2 r.c.ys.length k2) (.slice A3 r.ts.length k3) (.slice A4 r.ds.length k4)) 31)).cell? ⟨w.heap.size, 7, none⟩ = some (.bool false) := hb2.cell 7
        have f_7 := hb2.frozen 7
        have a_8 : (w1.alloc (.cells (rcV r (.slice A1 r.c.xs.length k1) (.slice A2 r.c.ys.length k2) (.slice A3 r.ts.length k3) (.slice A4 r.ds.length k4)) 31)).cell? ⟨w.heap.size, 8, none⟩ = some (.slice none 0 0) := hb2.cell 8
        have f_8 := hb2.frozen 8
        have a_9 : (w1.alloc (.cells (rcV r (.slice A1 r.c.xs.length k1) (.slice A2 r.c.ys.length k2) (.slice A3 r.ts.length k3) (.slice A4 r.ds.length k4)) 31)).cell? ⟨w.heap.size, 9, none⟩ = some (.slice none 0 0) := hb2.cell 9
        have f_9 := hb2.frozen 9
        have a_10 : (w1.alloc (.cells (rcV r (.slice A1 r.c.xs.length k1) (.slice A2 r.c.ys.length k2) (.slice A3 r.ts.length k3) (.slice A4 r.ds.length k4)) 31)).cell? ⟨w.heap.size, 10, none⟩ = some (.slice none 0 0) := hb2.cell 10
        have f_10 := hb2.frozen 10
        have a_11 : (w1.alloc (.cells (rcV r (.slice A1 r.c.xs.length k1) (.slice A2 r.c.ys.length k2) (.slice A3 r.ts.length k3) (.slice A4 r.ds.length k4)) 31)).cell? ⟨w.heap.size, 11, none⟩ = some (.slice none 0 0) := hb2.cell 11
        have f_11 := hb2.frozen 11
        have HB2 := Lib.hid hb2
        clear hb2
        go_wp2
        have b9 := Box.set_ (Box.set_ (Box.set_ (Box.set_ (Box.set_ (Box.set_ (Box.set_ (Box.set_ (Box.set_ (Box.set_ (Box.set_ (Box.set_ (HB2.out) 0 (.int .u8 r.k)) 1 (.int .u32 r.t)) 2 (.int .u64 r.p)) 3 (.int .u64 r.n)) 4 (.int .u32 r.c.pg)) 5 (.int .u16 r.c.sl)) 6 (.bool r.c.had)) 7 (.bool r.c.has)) 8 (.slice A1 r.c.xs.length k1)) 9 (.slice A2 r.c.ys.length k2)) 10 (.slice A3 r.ts.length k3)) 11 (.slice A4 r.ds.length k4)
        simp only [bareC, rcV, List.setIfInBounds_toArray, List.set_cons_zero, List.set_cons_succ] at b9
        have l9 := Below.setCell (Below.setCell (Below.setCell (Below.setCell (Below.setCell (Below.setCell (Below.setCell (Below.setCell (Below.setCell (Below.setCell (Below.setCell (Below.setCell (new_ HW1.out (.cells (rcV r (.slice A1 r.c.xs.length k1) (.slice A2 r.c.ys.length k2) (.slice A3 r.ts.length k3) (.slice A4 r.ds.length k4)) 31)) (p := ⟨w.heap.size, 0, none⟩) (Nat.le_refl _) (.int .u8 r.k)) (p := ⟨w.heap.size, 1, none⟩) (Nat.le_refl _) (.int .u32 r.t)) (p := ⟨w.heap.size, 2, none⟩) (Nat.le_refl _) (.int .u64 r.p)) (p := ⟨w.heap.size, 3, none⟩) (Nat.le_refl _) (.int .u64 r.n)) (p := ⟨w.heap.size, 4, none⟩) (Nat.le_refl _) (.int .u32 r.c.pg)) (p := ⟨w.heap.size, 5, none⟩) (Nat.le_refl _) (.int .u16 r.c.sl)) (p := ⟨w.heap.size, 6, none⟩) (Nat.le_refl _) (.bool r.c.had)) (p := ⟨w.heap.size, 7, none⟩) (Nat.le_refl _) (.bool r.c.has)) (p := ⟨w.heap.size, 8, none⟩) (Nat.le_refl _) (.slice A1 r.c.xs.length k1)) (p := ⟨w.heap.size, 9, none⟩) (Nat.le_refl _) (.slice A2 r.c.ys.length k2)) (p := ⟨w.heap.size, 10, none⟩) (Nat.le_refl _) (.slice A3 r.ts.length k3)) (p := ⟨w.heap.size, 11, none⟩) (Nat.le_refl _) (.slice A4 r.ds.length k4)
        have r9 := RcOwn.far (RcOwn.far (RcOwn.far (RcOwn.far (RcOwn.far (RcOwn.far (RcOwn.far (RcOwn.far (RcOwn.far (RcOwn.far (RcOwn.far (RcOwn.far (RI.out.later (new_ (Below.refl _ _) (.cells (rcV r (.slice A1 r.c.xs.length k1) (.slice A2 r.c.ys.length k2) (.slice A3 r.ts.length k3) (.slice A4 r.ds.length k4)) 31))) (p := ⟨w.heap.size, 0, none⟩) (by simp) (.int .u8 r.k)) (p := ⟨w.heap.size, 1, none⟩) (by simp) (.int .u32 r.t)) (p := ⟨w.heap.size, 2, none⟩) (by simp) (.int .u64 r.p)) (p := ⟨w.heap.size, 3, none⟩) (by simp) (.int .u64 r.n)) (p := ⟨w.heap.size, 4, none⟩) (by simp) (.int .u32 r.c.pg)) (p := ⟨w.heap.size, 5, none⟩) (by simp) (.int .u16 r.c.sl)) (p := ⟨w.heap.size, 6, none⟩) (by simp) (.bool r.c.had)) (p := ⟨w.heap.size, 7, none⟩) (by simp) (.bool r.c.has)) (p := ⟨w.heap.size, 8, none⟩) (by simp) (.slice A1 r.c.xs.length k1)) (p := ⟨w.heap.size, 9, none⟩) (by simp) (.slice A2 r.c.ys.length k2)) (p := ⟨w.heap.size, 10, none⟩) (by simp) (.slice A3 r.ts.length k3)) (p := ⟨w.heap.size, 11, none⟩) (by simp) (.slice A4 r.ds.length k4)
        clear a_0 f_0 a_1 f_1 a_2 f_2 a_3 f_3 a_4 f_4 a_5 f_5 a_6 f_6 a_7 f_7 a_8 f_8 a_9 f_9 a_10 f_10 a_11 f_11
        generalize World.setCell (World.setCell (World.setCell (World.setCell (World.setCell (World.setCell (World.setCell (World.setCell (World.setCell (World.setCell (World.setCell (World.setCell ((w1.alloc (.cells (rcV r (.slice A1 r.c.xs.length k1) (.slice A2 r.c.ys.length k2) (.slice A3 r.ts.length k3) (.slice A4 r.ds.length k4)) 31))) (⟨w.heap.size, 0, none⟩ : Addr) (.int .u8 r.k)) (⟨w.heap.size, 1, none⟩ : Addr) (.int .u32 r.t)) (⟨w.heap.size, 2, none⟩ : Addr) (.int .u64 r.p)) (⟨w.heap.size, 3, none⟩ : Addr) (.int .u64 r.n)) (⟨w.heap.size, 4, none⟩ : Addr) (.int .u32 r.c.pg)) (⟨w.heap.size, 5, none⟩ : Addr) (.int .u16 r.c.sl)) (⟨w.heap.size, 6, none⟩ : Addr) (.bool r.c.had)) (⟨w.heap.size, 7, none⟩ : Addr) (.bool r.c.has)) (⟨w.heap.size, 8, none⟩ : Addr) (.slice A1 r.c.xs.length k1)) (⟨w.heap.size, 9, none⟩ : Addr) (.slice A2 r.c.ys.length k2)) (⟨w.heap.size, 10, none⟩ : Addr) (.slice A3 r.ts.length k3)) (⟨w.heap.size, 11, none⟩ : Addr) (.slice A4 r.ds.length k4) = W9 at *
        have q0 : W9.cell? ⟨w.heap.size, 0, none⟩ = some (.int .u8 r.k) := b9.cell 0
        have q1 : W9.cell? ⟨w.heap.size, 1, none⟩ = some (.int .u32 r.t) := b9.cell 1
        have q2 : W9.cell? ⟨w.heap.size, 2, none⟩ = some (.int .u64 r.p) := b9.cell 2
        have q3 : W9.cell? ⟨w.heap.size, 3, none⟩ = some (.int .u64 r.n) := b9.cell 3
        have q4 : W9.cell? ⟨w.heap.size, 4, none⟩ = some (.int .u32 r.c.pg) := b9.cell 4
        have q5 : W9.cell? ⟨w.heap.size, 5, none⟩ = some (.int .u16 r.c.sl) := b9.cell 5
        have q6 : W9.cell? ⟨w.heap.size, 6, none⟩ = some (.bool r.c.had) := b9.cell 6
        have q7 : W9.cell? ⟨w.heap.size, 7, none⟩ = some (.bool r.c.has) := b9.cell 7
        have q8 : W9.cell? ⟨w.heap.size, 8, none⟩ = some (.slice A1 r.c.xs.length k1) := b9.cell 8
        have q9 : W9.cell? ⟨w.heap.size, 9, none⟩ = some (.slice A2 r.c.ys.length k2) := b9.cell 9
        have q10 : W9.cell? ⟨w.heap.size, 10, none⟩ = some (.slice A3 r.ts.length k3) := b9.cell 10
        have q11 : W9.cell? ⟨w.heap.size, 11, none⟩ = some (.slice A4 r.ds.length k4) := b9.cell 11
        refine bodyPost_ret (v := .tuple #[.agg #[.int .u8 r.k, .int .u32 r.t, .int .u64 r.p, .int .u64 r.n, .int .u32 r.c.pg, .int .u16 r.c.sl, .bool r.c.had, .bool r.c.has, .slice A1 r.c.xs.length k1, .slice A2 r.c.ys.length k2, .slice A3 r.ts.length k3, .slice A4 r.ds.length k4], .int .i64 K, .int .u16 0]) (by simp [results, Try.results16, go_sem, q0, q1, q2, q3, q4, q5, q6, q7, q8, q9, q10, q11]) rfl ?_
        unfold DecodePost
        rw [HV.out, HK.out]
        exact ⟨_, _, _, _, rfl, r9.lower (by simp), l9⟩
end Go.Proofs.Ytbbphfhkedldmaa.Rec
