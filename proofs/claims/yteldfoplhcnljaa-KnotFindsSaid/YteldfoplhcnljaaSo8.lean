import Derived.Test.YteldfoplhcnljaaSo7
/- A number of a row is chosen. -/
namespace Go.Proofs.Yteldfoplhcnljaa.Srt
open Go.ChangeShapes Go.WideShapes Go.ChangeAt Go.RowKit Go.IntWalk Go.Proofs.Mem
set_option linter.unusedVariables false
/-- the row, and beside it a counter -/
structure Ct (W : World) (g cap sb : Nat) (d : Array Int) : Prop where
  ra : RA W g cap d
  box : ∃ s : Int, Box W sb #[.int .i64 s] 3
  ne : g ≠ sb
theorem Ct.step {W W' : World} {g cap sb : Nat} {d : Array Int} (h : Ct W g cap sb d) (hf : Fr (fun x => x = sb) W W') (hb : ∃ s : Int, Box W' sb #[.int .i64 s] 3) : Ct W' g cap sb d :=
  ⟨h.ra.fr hf (fun e => h.ne e), hb, h.ne⟩
set_option maxRecDepth 100000 in
theorem order2_any (w : World) (g n cap a b sb : Nat) (d : Array Int) (h : Ct w g cap sb d) (hn : d.size = n) (h0 : n ≤ 1000000) (h1 : a < n) (h2 : b < n) :
    Calls Try.prog 45 #[.slice (some ⟨g, 0, none⟩) n cap, .int .i64 a, .int .i64 b, .pointer (some ⟨sb, 0, none⟩)] w fun e w' => ∃ x y : Nat, e = .returned (.tuple #[.int .i64 x, .int .i64 y]) ∧ Hid (x = a ∧ y = b ∨ x = b ∧ y = a) ∧ Hid (Ct w' g cap sb d) ∧ Hid (Fr (fun x => x = sb) w w') := by
  have HC := Lib.hid h
  obtain ⟨s, hs⟩ := h.box
  have HS := Lib.hid hs
  have c0 := fun k => (h.ra.drewN k).cell a (by omega)
  have c1 := fun k => (h.ra.drewN k).cell b (by omega)
  obtain ⟨x, hx⟩ : ∃ x, d[a]! = x := ⟨_, rfl⟩
  obtain ⟨y, hy⟩ : ∃ y, d[b]! = y := ⟨_, rfl⟩
  rw [hx] at c0
  rw [hy] at c1
  obtain ⟨q, hq⟩ : ∃ q, lt y x = q := ⟨_, rfl⟩
  have CL := less_as _ _ hq
  clear h hs hn hx hy hq
  cases q with
  | true =>
    go_enter Try.func45, Try.ntmps45
    go_upto_region 1 with fail
    go_quiet (first | (go_at_call 25; exact quiet_l (CL.out _)))
    have k0 := (HS.out.drewN nq).cell 0
    have f0 := (HS.out.drewN nq).frozen 0
    simp only [List.getElem?_toArray, List.getElem?_cons_zero] at k0
    go_wp2
    go_ret2
    exact ⟨b, a, rfl, Lib.hid (.inr ⟨rfl, rfl⟩), Lib.hid (HC.out.step (Fr.setCell (S := fun x => x = sb) (p := ⟨sb, 0, none⟩) ((Fr.refl _ _).drewN nq) (.inl rfl) _) ⟨_, (HS.out.drewN nq).set_ 0 _⟩), Lib.hid (Fr.setCell (S := fun x => x = sb) (p := ⟨sb, 0, none⟩) ((Fr.refl _ _).drewN nq) (.inl rfl) _)⟩
  | false =>
    go_enter Try.func45, Try.ntmps45
    go_upto_region 1 with fail
    go_quiet (first | (go_at_call 25; exact quiet_l (CL.out _)))
    go_wp2
    go_ret2
    exact ⟨a, b, rfl, Lib.hid (.inl ⟨rfl, rfl⟩), Lib.hid (HC.out.step ((Fr.refl _ _).drewN nq) ⟨_, HS.out.drewN nq⟩), Lib.hid ((Fr.refl _ _).drewN nq)⟩
set_option maxRecDepth 100000 in
theorem median_any (w : World) (g n cap a b c sb : Nat) (d : Array Int) (h : Ct w g cap sb d) (hn : d.size = n) (h0 : n ≤ 1000000) (h1 : a < n) (h2 : b < n) (h3 : c < n) :
    Calls Try.prog 44 #[.slice (some ⟨g, 0, none⟩) n cap, .int .i64 a, .int .i64 b, .int .i64 c, .pointer (some ⟨sb, 0, none⟩)] w fun e w' => ∃ m : Nat, e = .returned (.int .i64 m) ∧ Hid (m = a ∨ m = b ∨ m = c) ∧ Hid (Ct w' g cap sb d) ∧ Hid (Fr (fun x => x = sb) w w') := by
  have HC := Lib.hid h
  have HN := Lib.hid (⟨hn, h0, h1, h2, h3⟩ : d.size = n ∧ n ≤ 1000000 ∧ a < n ∧ b < n ∧ c < n)
  have C1 := Lib.hid (order2_any w g n cap a b sb d h hn h0 h1 h2)
  clear h hn h0 h1 h2 h3
  go_enter Try.func44, Try.ntmps44
  go_wp2_with fail
  (with_reducible refine (C1.out).mono ?_)
  rintro e w1 ⟨x1, y1, rfl, HX, HC1, HF1⟩
  have C2 := Lib.hid (order2_any w1 g n cap y1 c sb d HC1.out HN.out.1 HN.out.2.1 (by have := HX.out; have := HN.out; omega) (by have := HN.out; omega))
  go_wp2_with fail
  (with_reducible refine (C2.out).mono ?_)
  rintro e w2 ⟨x2, y2, rfl, HX2, HC2, HF2⟩
  have C3 := Lib.hid (order2_any w2 g n cap x1 x2 sb d HC2.out HN.out.1 HN.out.2.1 (by have := HX.out; have := HN.out; omega) (by have := HX.out; have := HX2.out; have := HN.out; omega))
  go_wp2_with fail
  (with_reducible refine (C3.out).mono ?_)
  rintro e w3 ⟨x3, y3, rfl, HX3, HC3, HF3⟩
  go_wp2
  go_ret
  exact ⟨y3, rfl, Lib.hid (by have := HX.out; have := HX2.out; have := HX3.out; omega), HC3, Lib.hid ((HF1.out.trans HF2.out).trans HF3.out)⟩
set_option maxRecDepth 100000 in
theorem medadj_any (w : World) (g n cap a sb : Nat) (d : Array Int) (h : Ct w g cap sb d) (hn : d.size = n) (h0 : n ≤ 1000000) (h1 : 1 ≤ a) (h2 : a + 1 < n) :
    Calls Try.prog 43 #[.slice (some ⟨g, 0, none⟩) n cap, .int .i64 a, .pointer (some ⟨sb, 0, none⟩)] w fun e w' => ∃ m : Nat, e = .returned (.int .i64 m) ∧ Hid (a ≤ m + 1 ∧ m ≤ a + 1) ∧ Hid (Ct w' g cap sb d) ∧ Hid (Fr (fun x => x = sb) w w') := by
  obtain ⟨a0, ha0⟩ : ∃ x, x = a - 1 := ⟨_, rfl⟩
  obtain ⟨a2, ha2⟩ : ∃ x, x = a + 1 := ⟨_, rfl⟩
  have s0 : (a : Int) - 1 = (a0 : Int) := by omega
  have s2 : (a : Int) + 1 = (a2 : Int) := by omega
  have ba : (a : Int) ≤ 1000000 := by omega
  have C1 := Lib.hid (median_any w g n cap a0 a a2 sb d h hn h0 (by omega) (by omega) (by omega))
  have HA := Lib.hid (⟨ha0, ha2, h1⟩ : a0 = a - 1 ∧ a2 = a + 1 ∧ 1 ≤ a)
  clear h hn h0 h1 h2 ha0 ha2
  go_enter Try.func43, Try.ntmps43
  go_wp2_with fail
  (with_reducible refine (C1.out).mono ?_)
  rintro e w1 ⟨m, rfl, HX, HC1, HF1⟩
  go_wp2
  go_ret
  exact ⟨m, rfl, Lib.hid (by have := HX.out; have := HA.out; omega), HC1, HF1⟩
set_option maxRecDepth 100000 in
set_option maxHeartbeats 4000000 in
theorem pivot_any (w : World) (g n cap a b : Nat) (d : Array Int) (h : RA w g cap d) (hn : d.size = n) (h0 : n ≤ 1000000) (h1 : a + 12 < b) (h2 : b ≤ n) :
    Calls Try.prog 33 #[.slice (some ⟨g, 0, none⟩) n cap, .int .i64 a, .int .i64 b] w fun e w' => ∃ (p : Nat) (t : Int), e = .returned (.tuple #[.int .i64 p, .int .i64 t]) ∧ Hid (a ≤ p ∧ p < b) ∧ Hid (Below w.heap.size w w') := by
  have HR := Lib.hid h
  obtain ⟨l, hl⟩ : ∃ x, x = b - a := ⟨_, rfl⟩
  obtain ⟨q, hq⟩ : ∃ x, x = l / 4 := ⟨_, rfl⟩
  obtain ⟨q2, hq2⟩ : ∃ x, x = q * 2 := ⟨_, rfl⟩
  obtain ⟨q3, hq3⟩ : ∃ x, x = q * 3 := ⟨_, rfl⟩
  obtain ⟨i, hi⟩ : ∃ x, x = a + q := ⟨_, rfl⟩
  obtain ⟨j, hj⟩ : ∃ x, x = a + q2 := ⟨_, rfl⟩
  obtain ⟨k, hk⟩ : ∃ x, x = a + q3 := ⟨_, rfl⟩
  have s1 : (b : Int) - (a : Int) = (l : Int) := by omega
  have s2 : Int.tdiv (l : Int) 4 = (q : Int) := by rw [Int.tdiv_eq_ediv_of_nonneg (by omega)]; omega
  have s3 : (q : Int) * 2 = (q2 : Int) := by omega
  have s4 : (q : Int) * 3 = (q3 : Int) := by omega
  have s5 : (a : Int) + (q : Int) = (i : Int) := by omega
  have s6 : (a : Int) + (q2 : Int) = (j : Int) := by omega
  have s7 : (a : Int) + (q3 : Int) = (k : Int) := by omega
  have bl : (l : Int) ≤ 1000000 := by omega
  have ba : (a : Int) ≤ 1000000 := by omega
  have bb : (b : Int) ≤ 1000000 := by omega
  have bq : (q : Int) ≤ 1000000 := by omega
  have bq2 : (q2 : Int) ≤ 1000000 := by omega
  have bq3 : (q3 : Int) ≤ 1000000 := by omega
  have d8 : decide ((8 : Int) ≤ (l : Int)) = true := by simp; omega
  have d8' : decide (8 ≤ l) = true := by simp; omega
  have HB := Lib.hid (⟨h0, h1, h2, hl, hq, hq2, hq3, hi, hj, hk⟩ : n ≤ 1000000 ∧ a + 12 < b ∧ b ≤ n ∧ l = b - a ∧ q = l / 4 ∧ q2 = q * 2 ∧ q3 = q * 3 ∧ i = a + q ∧ j = a + q2 ∧ k = a + q3)
  have hg := h.lt
  have B1 := Lib.hid (Box.new w #[.int .i64 0] 3)
  have HC := Lib.hid (⟨h.later ((Below.refl _ _).alloc (Nat.le_refl _) _), ⟨0, Box.new w _ _⟩, by omega⟩ : Ct (w.alloc (.cells #[.int .i64 0] 3)) g cap w.heap.size d)
  have HN := Lib.hid hn
  have HW := Lib.hid ((Below.refl w.heap.size w).alloc (Nat.le_refl _) (.cells #[.int .i64 0] 3))
  have HSZ := Lib.hid (show w.heap.size < (w.alloc (.cells #[.int .i64 0] 3)).heap.size from B1.out.lt)
  generalize hsb : w.heap.size = sb at *
  obtain ⟨w0, hw0⟩ : ∃ w0, w.alloc (.cells #[.int .i64 0] 3) = w0 := ⟨_, rfl⟩
  rw [hw0] at B1 HC HW HSZ
  have HFW := Lib.hid (fun W (hf : Fr (fun x => x = sb) w0 W) => (HW.out.trans (hf.to_below (fun k e => by rw [e]; exact Nat.le_refl _) (Nat.le_of_lt HSZ.out)) : Below sb w W))
  clear h hn h0 h1 h2 hl hq hq2 hq3 hi hj hk HR hg
  by_cases h50 : 50 ≤ l
  · have d50 : decide ((50 : Int) ≤ (l : Int)) = true := by simp; omega
    have d50' : decide (50 ≤ l) = true := by simp; omega
    have C1 := Lib.hid (medadj_any w0 g n cap i sb d HC.out HN.out HB.out.1 (by have := HB.out; omega) (by have := HB.out; omega))
    have H50 := Lib.hid h50
    clear h50
    go_enter Try.func33, Try.ntmps33
    go_wp2_with fail
    (with_reducible refine C1.out.mono ?_)
    rintro e w1 ⟨i1, rfl, HX1, HC1, HF1⟩
    have C2 := Lib.hid (medadj_any w1 g n cap j sb d HC1.out HN.out HB.out.1 (by have := HB.out; have := H50.out; omega) (by have := HB.out; have := H50.out; omega))
    go_wp2_with fail
    (with_reducible refine C2.out.mono ?_)
    rintro e w2 ⟨i2, rfl, HX2, HC2, HF2⟩
    have C3 := Lib.hid (medadj_any w2 g n cap k sb d HC2.out HN.out HB.out.1 (by have := HB.out; have := H50.out; omega) (by have := HB.out; have := H50.out; omega))
    go_wp2_with fail
    (with_reducible refine C3.out.mono ?_)
    rintro e w3 ⟨i3, rfl, HX3, HC3, HF3⟩
    have C4 := Lib.hid (median_any w3 g n cap i1 i2 i3 sb d HC3.out HN.out HB.out.1 (by have := HB.out; have := H50.out; have := HX1.out; omega) (by have := HB.out; have := H50.out; have := HX2.out; omega) (by have := HB.out; have := H50.out; have := HX3.out; omega))
    go_wp2_with fail
    (with_reducible refine C4.out.mono ?_)
    rintro e w9 ⟨pv, rfl, HX4, HC9, HF4⟩
    have HP9 := Lib.hid (show a ≤ pv ∧ pv < b by have := HB.out; have := H50.out; have := HX1.out; have := HX2.out; have := HX3.out; have := HX4.out; omega)
    have HF9 := Lib.hid (((HF1.out.trans HF2.out).trans HF3.out).trans HF4.out)
    obtain ⟨s9, hb9⟩ := HC9.out.box
    have HB9 := Lib.hid hb9
    clear hb9
    have k0 := HB9.out.cell 0
    simp only [List.getElem?_toArray, List.getElem?_cons_zero] at k0
    by_cases e0 : s9 = 0
    · subst e0
      go_wp2
      go_ret2
      exact ⟨pv, _, rfl, HP9, Lib.hid (HFW.out _ HF9.out)⟩
    · have n0 : decide (s9 = 0) = false := by simp; exact e0
      have n0' : (s9 == 0) = false := by simp; exact e0
      by_cases e12 : s9 = 12
      · subst e12
        go_wp2
        go_ret2
        exact ⟨pv, _, rfl, HP9, Lib.hid (HFW.out _ HF9.out)⟩
      · have n12 : decide (s9 = 12) = false := by simp; exact e12
        have n12' : (s9 == 12) = false := by simp; exact e12
        go_wp2
        go_ret2
        exact ⟨pv, _, rfl, HP9, Lib.hid (HFW.out _ HF9.out)⟩
  · have d50 : decide ((50 : Int) ≤ (l : Int)) = false := by simp; omega
    have d50' : decide (50 ≤ l) = false := by simp; omega
    clear h50
    have C4 := Lib.hid (median_any w0 g n cap i j k sb d HC.out HN.out HB.out.1 (by have := HB.out; omega) (by have := HB.out; omega) (by have := HB.out; omega))
    go_enter Try.func33, Try.ntmps33
    go_wp2_with fail
    (with_reducible refine C4.out.mono ?_)
    rintro e w9 ⟨pv, rfl, HX4, HC9, HF9⟩
    have HP9 := Lib.hid (show a ≤ pv ∧ pv < b by have := HB.out; have := HX4.out; omega)
    obtain ⟨s9, hb9⟩ := HC9.out.box
    have HB9 := Lib.hid hb9
    clear hb9
    have k0 := HB9.out.cell 0
    simp only [List.getElem?_toArray, List.getElem?_cons_zero] at k0
    by_cases e0 : s9 = 0
    · subst e0
      go_wp2
      go_ret2
      exact ⟨pv, _, rfl, HP9, Lib.hid (HFW.out _ HF9.out)⟩
    · have n0 : decide (s9 = 0) = false := by simp; exact e0
      have n0' : (s9 == 0) = false := by simp; exact e0
      by_cases e12 : s9 = 12
      · subst e12
        go_wp2
        go_ret2
        exact ⟨pv, _, rfl, HP9, Lib.hid (HFW.out _ HF9.out)⟩
      · have n12 : decide (s9 = 12) = false := by simp; exact e12
        have n12' : (s9 == 12) = false := by simp; exact e12
        go_wp2
        go_ret2
        exact ⟨pv, _, rfl, HP9, Lib.hid (HFW.out _ HF9.out)⟩
end Go.Proofs.Yteldfoplhcnljaa.Srt
