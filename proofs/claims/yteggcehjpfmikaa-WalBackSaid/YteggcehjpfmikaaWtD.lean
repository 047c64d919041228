import Derived.Test.YteggcehjpfmikaaWt9
import Derived.Test.YteggcehjpfmikaaWtA
import Derived.Deep.DeepCutAuto
namespace Go.Proofs.Yteggcehjpfmikaa.Rec
open Go.ChangeShapes Go.WideShapes Go.ChangeAt Go.RowKit Go.IntWalk Go.Proofs.NumMath Go.Proofs.Mem Go.Proofs.CrcMath NumBytes CrcA
set_option linter.unusedVariables false
set_option linter.unusedSimpArgs false
def rChg (xs : List Int) : Option (Cg × List Int) :=
  match rNum 4 xs with
  | none => none
  | some (pg, a) =>
    match rNum 2 a with
    | none => none
    | some (sl, b) =>
      match rNum 1 b with
      | none => none
      | some (f, c) =>
        if 3 < f then none else
        match rText c with
        | none => none
        | some (x, d) =>
          match rText d with
          | none => none
          | some (y, z) => some (⟨pg, sl, decide (f % 2 = 1), decide (f / 2 % 2 = 1), x, y⟩, z)
def ChgPost (w : World) (g B : Nat) (xs : List Int) (e : Ending) (w' : World) : Prop :=
  match rChg xs with
  | none => e = .panicked raise_ ∧ Fr (fun x => x = g) w w'
  | some (c, zs) => ∃ a b, e = .returned (.agg (cgC c.pg c.sl c.had c.has a b)) ∧ w'.ownsRow w.heap.size 5 1 a c.xs.length (c.xs.map (.int .u8)) ∧ w'.ownsRow w.heap.size 5 1 b c.ys.length (c.ys.map (.int .u8)) ∧ (∃ v', Rd w' g B v' zs) ∧ Fr (fun x => x = g) w w'
theorem ChgPost.no {w w' : World} {g B : Nat} {xs : List Int} (h : rChg xs = none) (hf : Fr (fun x => x = g) w w') : ChgPost w g B xs (.panicked raise_) w' := by
  unfold ChgPost; rw [h]; exact ⟨rfl, hf⟩
theorem u16_wrap {x : Int} (h0 : 0 ≤ x) (h1 : x ≤ 65535) : IntKind.u16.wrap x = x := by rw [IntKind.wrap_u16]; omega
theorem flag_had (f : Int) (h0 : 0 ≤ f) (h3 : f ≤ 3) : (bits BinOp.and IntKind.u64 f 1 != 0) = decide (f % 2 = 1) ∧ (bits BinOp.and IntKind.u64 f 2 != 0) = decide (f / 2 % 2 = 1) := by
  have : f = 0 ∨ f = 1 ∨ f = 2 ∨ f = 3 := by omega
  rcases this with rfl | rfl | rfl | rfl <;> exact ⟨by decide +kernel, by decide +kernel⟩
theorem Rd.setc {w : World} {g B : Nat} {v : Value} {xs : List Int} (h : Rd w g B v xs) {p : Addr} (hp : g < p.block) (u : Value) : Rd (w.setCell p u) g B v xs := h.set (by omega) (by have := h.le; omega) u
set_option maxRecDepth 100000 in
set_option maxHeartbeats 16000000 in
theorem rchange_any (w : World) (g B : Nat) (v : Value) (xs : List Int) (h : Rd w g B v xs) (hx : Bytes xs) :
    Calls Try.prog 90 #[.pointer (some ⟨g, 0, none⟩)] w (ChgPost w g B xs) := by
  have hgl := h.box.lt
  have R0 := Lib.hid (h.alloc (.cells (cgC 0 0 false false (.slice none 0 0) (.slice none 0 0)) 50))
  have F0 := Lib.hid ((Fr.refl (fun x => x = g) w).alloc (.cells (cgC 0 0 false false (.slice none 0 0) (.slice none 0 0)) 50))
  have Z0 := Lib.hid (Box.new w (cgC 0 0 false false (.slice none 0 0) (.slice none 0 0)) 50)
  clear h
  cases e1 : rNum 4 xs with
  | none =>
    go_enter Try.func90, Try.ntmps90
    go_wp2_with fail
    (with_reducible refine (num_none _ _ _ _ _ R0.out 4 4 rfl (by decide) e1).mono ?_)
    rintro e w1 ⟨rfl, rfl⟩
    exact ⟨rfl, ChgPost.no (by simp [rChg, e1]) F0.out⟩
  | some p =>
    obtain ⟨pg, ya⟩ := p
    have hb1 := rNum_bytes e1 hx
    have bd1 := rNum_bd (by decide) e1 hx
    have N1 := Lib.hid (num_some _ _ _ _ _ _ _ R0.out hx 4 4 rfl e1)
    cases e2 : rNum 2 ya with
    | none =>
      have HN := Lib.hid (show rChg xs = none by simp [rChg, e1, e2])
      have N2 := Lib.hid (fun W v (h : Rd W g B v ya) => num_none W g B v ya h 2 2 rfl (by decide) e2)
      clear e1 e2
      go_enter Try.func90, Try.ntmps90
      go_wp2_with fail
      (with_reducible refine N1.out.mono ?_)
      rintro e w1 ⟨rfl, ⟨v1, r1⟩, f1⟩
      have R1 := Lib.hid r1
      have F1 := Lib.hid (F0.out.trans f1)
      have Z1 := Lib.hid (Z0.out.fr f1 (by omega))
      clear r1 f1
      go_wp2_with fail
      (with_reducible refine (N2.out _ _ R1.out).mono ?_)
      rintro e w2 ⟨rfl, rfl⟩
      exact ⟨rfl, ChgPost.no HN.out F1.out⟩
    | some p =>
      obtain ⟨sl, yb⟩ := p
      have hb2 := rNum_bytes e2 hb1
      have bd2 := rNum_bd (by decide) e2 hb1
      have N2 := Lib.hid (fun W v (h : Rd W g B v ya) => num_some W g B v ya yb sl h hb1 2 2 rfl e2)
      rw [show (2 : Int) ^ (8 * 4) = 4294967296 from rfl] at bd1
      rw [show (2 : Int) ^ (8 * 2) = 65536 from rfl] at bd2
      have wp_ := u32_wrap (x := pg) (by omega) (by omega)
      have ws_ := u16_wrap (x := sl) (by omega) (by omega)
      cases e3 : rNum 1 yb with
      | none =>
        have HN := Lib.hid (show rChg xs = none by simp [rChg, e1, e2, e3])
        have N3 := Lib.hid (fun W v (h : Rd W g B v yb) => num_none W g B v yb h 1 1 rfl (by decide) e3)
        clear e1 e2 e3
        go_enter Try.func90, Try.ntmps90
        go_wp2_with fail
        (with_reducible refine N1.out.mono ?_)
        rintro e w1 ⟨rfl, ⟨v1, r1⟩, f1⟩
        have R1 := Lib.hid r1
        have F1 := Lib.hid (F0.out.trans f1)
        have Z1 := Lib.hid (Z0.out.fr f1 (by omega))
        clear r1 f1
        go_wp2_with fail
        (with_reducible refine (N2.out _ _ R1.out).mono ?_)
        rintro e w2 ⟨rfl, ⟨v2, r2⟩, f2⟩
        have R2 := Lib.hid (r2.alloc (.cells #[.int .u32 pg, .int .u16 sl, .bool false, .bool false, .slice none 0 0, .slice none 0 0] 50))
        have F2 := Lib.hid ((F1.out.trans f2).alloc (.cells #[.int .u32 pg, .int .u16 sl, .bool false, .bool false, .slice none 0 0, .slice none 0 0] 50))
        have Z2 := Lib.hid ((Z1.out.fr f2 (by omega)).alloc (.cells #[.int .u32 pg, .int .u16 sl, .bool false, .bool false, .slice none 0 0, .slice none 0 0] 50))
        have C2 := Lib.hid (Box.new w2 #[.int .u32 pg, .int .u16 sl, .bool false, .bool false, .slice none 0 0, .slice none 0 0] 50)
        have HS2 := Lib.hid (show w.heap.size < w2.heap.size from Z1.out.fr f2 (by omega) |>.lt)
        have hg2 : g < w2.heap.size := by have := HS2.out; omega
        clear r2 f2
        go_wp2_with fail
        (with_reducible refine (N3.out _ _ R2.out).mono ?_)
        rintro e w3 ⟨rfl, rfl⟩
        exact ⟨rfl, ChgPost.no HN.out F2.out⟩
      | some p =>
        obtain ⟨f, yc⟩ := p
        have hb3 := rNum_bytes e3 hb2
        have bd3 := rNum_bd (by decide) e3 hb2
        have N3 := Lib.hid (fun W v (h : Rd W g B v yb) => num_some W g B v yb yc f h hb2 1 1 rfl e3)
        rw [show (2 : Int) ^ (8 * 1) = 256 from rfl] at bd3
        by_cases hf3 : 3 < f
        · have HN := Lib.hid (show rChg xs = none by simp [rChg, e1, e2, e3, hf3])
          have d3 : decide (3 < f) = true := by simpa using hf3
          clear e1 e2 e3
          go_enter Try.func90, Try.ntmps90
          go_wp2_with fail
          (with_reducible refine N1.out.mono ?_)
          rintro e w1 ⟨rfl, ⟨v1, r1⟩, f1⟩
          have R1 := Lib.hid r1
          have F1 := Lib.hid (F0.out.trans f1)
          have Z1 := Lib.hid (Z0.out.fr f1 (by omega))
          clear r1 f1
          go_wp2_with fail
          (with_reducible refine (N2.out _ _ R1.out).mono ?_)
          rintro e w2 ⟨rfl, ⟨v2, r2⟩, f2⟩
          have R2 := Lib.hid (r2.alloc (.cells #[.int .u32 pg, .int .u16 sl, .bool false, .bool false, .slice none 0 0, .slice none 0 0] 50))
          have F2 := Lib.hid ((F1.out.trans f2).alloc (.cells #[.int .u32 pg, .int .u16 sl, .bool false, .bool false, .slice none 0 0, .slice none 0 0] 50))
          have Z2 := Lib.hid ((Z1.out.fr f2 (by omega)).alloc (.cells #[.int .u32 pg, .int .u16 sl, .bool false, .bool false, .slice none 0 0, .slice none 0 0] 50))
          have C2 := Lib.hid (Box.new w2 #[.int .u32 pg, .int .u16 sl, .bool false, .bool false, .slice none 0 0, .slice none 0 0] 50)
          have HS2 := Lib.hid (show w.heap.size < w2.heap.size from Z1.out.fr f2 (by omega) |>.lt)
          have hg2 : g < w2.heap.size := by have := HS2.out; omega
          clear r2 f2
          go_wp2_with fail
          (with_reducible refine (N3.out _ _ R2.out).mono ?_)
          rintro e w3 ⟨rfl, ⟨v3, r3⟩, f3⟩
          have R3 := Lib.hid r3
          have F3 := Lib.hid (F2.out.trans f3)
          have Z3 := Lib.hid (Z2.out.fr f3 (by omega))
          have C3 := Lib.hid (C2.out.fr f3 (by omega))
          have kC := C3.out.cell
          have fC := C3.out.frozen
          have kR := R3.out.box.cell
          clear r3 f3
          go_wp2_with (go_at_call 89; (with_reducible refine (give_up _ _).mono ?_); rintro e w4 ⟨rfl, rfl⟩)
          exact ⟨rfl, ChgPost.no HN.out F3.out⟩
        · have d3 : decide (3 < f) = false := by simpa using hf3
          obtain ⟨had, hhad⟩ : ∃ b, b = decide (f % 2 = 1) := ⟨_, rfl⟩
          obtain ⟨has, hhas⟩ : ∃ b, b = decide (f / 2 % 2 = 1) := ⟨_, rfl⟩
          obtain ⟨g1, g2⟩ := flag_had f bd3.1 (by omega)
          rw [← hhad] at g1
          rw [← hhas] at g2
          cases e4 : rText yc with
          | none =>
            have HN := Lib.hid (show rChg xs = none by simp [rChg, e1, e2, e3, hf3, e4])
            have T1 := Lib.hid (fun W v (h : Rd W g B v yc) => rtext_none W g B v yc h hb3 e4)
            clear e1 e2 e3 e4 hhad hhas
            go_enter Try.func90, Try.ntmps90
            go_wp2_with fail
            (with_reducible refine N1.out.mono ?_)
            rintro e w1 ⟨rfl, ⟨v1, r1⟩, f1⟩
            have R1 := Lib.hid r1
            have F1 := Lib.hid (F0.out.trans f1)
            have Z1 := Lib.hid (Z0.out.fr f1 (by omega))
            clear r1 f1
            go_wp2_with fail
            (with_reducible refine (N2.out _ _ R1.out).mono ?_)
            rintro e w2 ⟨rfl, ⟨v2, r2⟩, f2⟩
            have R2 := Lib.hid (r2.alloc (.cells #[.int .u32 pg, .int .u16 sl, .bool false, .bool false, .slice none 0 0, .slice none 0 0] 50))
            have F2 := Lib.hid ((F1.out.trans f2).alloc (.cells #[.int .u32 pg, .int .u16 sl, .bool false, .bool false, .slice none 0 0, .slice none 0 0] 50))
            have Z2 := Lib.hid ((Z1.out.fr f2 (by omega)).alloc (.cells #[.int .u32 pg, .int .u16 sl, .bool false, .bool false, .slice none 0 0, .slice none 0 0] 50))
            have C2 := Lib.hid (Box.new w2 #[.int .u32 pg, .int .u16 sl, .bool false, .bool false, .slice none 0 0, .slice none 0 0] 50)
            have HS2 := Lib.hid (show w.heap.size < w2.heap.size from Z1.out.fr f2 (by omega) |>.lt)
            have hg2 : g < w2.heap.size := by have := HS2.out; omega
            clear r2 f2
            go_wp2_with fail
            (with_reducible refine (N3.out _ _ R2.out).mono ?_)
            rintro e w3 ⟨rfl, ⟨v3, r3⟩, f3⟩
            have R3 := Lib.hid r3
            have F3 := Lib.hid (F2.out.trans f3)
            have Z3 := Lib.hid (Z2.out.fr f3 (by omega))
            have C3 := Lib.hid (C2.out.fr f3 (by omega))
            have kC := C3.out.cell
            have fC := C3.out.frozen
            have kR := R3.out.box.cell
            clear r3 f3
            go_wp2_with fail
            have r4 := (R3.out.setc (p := ⟨w2.heap.size, 2, none⟩) hg2 (.bool had)).setc (p := ⟨w2.heap.size, 3, none⟩) hg2 (.bool has)
            have f4 := (F3.out.setCell (p := ⟨w2.heap.size, 2, none⟩) (.inr (Nat.le_of_lt HS2.out)) (.bool had)).setCell (p := ⟨w2.heap.size, 3, none⟩) (.inr (Nat.le_of_lt HS2.out)) (.bool has)
            have z4 := (Z3.out.far (p := ⟨w2.heap.size, 2, none⟩) (Nat.ne_of_lt HS2.out) (.bool had)).far (p := ⟨w2.heap.size, 3, none⟩) (Nat.ne_of_lt HS2.out) (.bool has)
            have c4_ := (C3.out.set_ 2 (.bool had)).set_ 3 (.bool has)
            simp only [List.setIfInBounds_toArray, List.set_cons_zero, List.set_cons_succ] at c4_
            generalize World.setCell (World.setCell w3 (⟨w2.heap.size, 2, none⟩ : Addr) (.bool had)) (⟨w2.heap.size, 3, none⟩ : Addr) (.bool has) = w4 at *
            have R4 := Lib.hid r4
            have F4 := Lib.hid f4
            have Z4 := Lib.hid z4
            have C4 := Lib.hid c4_
            clear r4 f4 z4 c4_ kC fC kR
            (with_reducible refine (T1.out _ _ R4.out).mono ?_)
            rintro e w5 ⟨rfl, f5⟩
            exact ⟨rfl, ChgPost.no HN.out (F4.out.trans f5)⟩
          | some p =>
            obtain ⟨x, yd⟩ := p
            obtain ⟨hbx, hb4, hlx⟩ := rText_bytes e4 hb3
            have T1 := Lib.hid (fun W v (h : Rd W g B v yc) => rtext_some W g B v yc x yd h hb3 e4)
            cases e5_ : rText yd with
            | none =>
              have HN := Lib.hid (show rChg xs = none by simp [rChg, e1, e2, e3, hf3, e4, e5_])
              have T2 := Lib.hid (fun W v (h : Rd W g B v yd) => rtext_none W g B v yd h hb4 e5_)
              clear e1 e2 e3 e4 e5_ hhad hhas
              go_enter Try.func90, Try.ntmps90
              go_wp2_with fail
              (with_reducible refine N1.out.mono ?_)
              rintro e w1 ⟨rfl, ⟨v1, r1⟩, f1⟩
              have R1 := Lib.hid r1
              have F1 := Lib.hid (F0.out.trans f1)
              have Z1 := Lib.hid (Z0.out.fr f1 (by omega))
              clear r1 f1
              go_wp2_with fail
              (with_reducible refine (N2.out _ _ R1.out).mono ?_)
              rintro e w2 ⟨rfl, ⟨v2, r2⟩, f2⟩
              have R2 := Lib.hid (r2.alloc (.cells #[.int .u32 pg, .int .u16 sl, .bool false, .bool false, .slice none 0 0, .slice none 0 0] 50))
              have F2 := Lib.hid ((F1.out.trans f2).alloc (.cells #[.int .u32 pg, .int .u16 sl, .bool false, .bool false, .slice none 0 0, .slice none 0 0] 50))
              have Z2 := Lib.hid ((Z1.out.fr f2 (by omega)).alloc (.cells #[.int .u32 pg, .int .u16 sl, .bool false, .bool false, .slice none 0 0, .slice none 0 0] 50))
              have C2 := Lib.hid (Box.new w2 #[.int .u32 pg, .int .u16 sl, .bool false, .bool false, .slice none 0 0, .slice none 0 0] 50)
              have HS2 := Lib.hid (show w.heap.size < w2.heap.size from Z1.out.fr f2 (by omega) |>.lt)
              have hg2 : g < w2.heap.size := by have := HS2.out; omega
              clear r2 f2
              go_wp2_with fail
              (with_reducible refine (N3.out _ _ R2.out).mono ?_)
              rintro e w3 ⟨rfl, ⟨v3, r3⟩, f3⟩
              have R3 := Lib.hid r3
              have F3 := Lib.hid (F2.out.trans f3)
              have Z3 := Lib.hid (Z2.out.fr f3 (by omega))
              have C3 := Lib.hid (C2.out.fr f3 (by omega))
              have kC := C3.out.cell
              have fC := C3.out.frozen
              have kR := R3.out.box.cell
              clear r3 f3
              go_wp2_with fail
              have r4 := (R3.out.setc (p := ⟨w2.heap.size, 2, none⟩) hg2 (.bool had)).setc (p := ⟨w2.heap.size, 3, none⟩) hg2 (.bool has)
              have f4 := (F3.out.setCell (p := ⟨w2.heap.size, 2, none⟩) (.inr (Nat.le_of_lt HS2.out)) (.bool had)).setCell (p := ⟨w2.heap.size, 3, none⟩) (.inr (Nat.le_of_lt HS2.out)) (.bool has)
              have z4 := (Z3.out.far (p := ⟨w2.heap.size, 2, none⟩) (Nat.ne_of_lt HS2.out) (.bool had)).far (p := ⟨w2.heap.size, 3, none⟩) (Nat.ne_of_lt HS2.out) (.bool has)
              have c4_ := (C3.out.set_ 2 (.bool had)).set_ 3 (.bool has)
              simp only [List.setIfInBounds_toArray, List.set_cons_zero, List.set_cons_succ] at c4_
              generalize World.setCell (World.setCell w3 (⟨w2.heap.size, 2, none⟩ : Addr) (.bool had)) (⟨w2.heap.size, 3, none⟩ : Addr) (.bool has) = w4 at *
              have R4 := Lib.hid r4
              have F4 := Lib.hid f4
              have Z4 := Lib.hid z4
              have C4 := Lib.hid c4_
              clear r4 f4 z4 c4_ kC fC kR
              (with_reducible refine (T1.out _ _ R4.out).mono ?_)
              rintro e w5 ⟨u5, rfl, o5, ⟨v5, r5⟩, f5⟩
              obtain ⟨A5, c5, e5, hl5, hm5⟩ := (IR.of_own o5).form
              obtain ⟨l5, hl5'⟩ : ∃ l, l = x.length := ⟨_, rfl⟩
              rw [← hl5'] at e5 o5
              subst e5
              have HL5 := Lib.hid hl5'
              have O5 := Lib.hid o5
              have R5 := Lib.hid (r5.setc (p := ⟨w2.heap.size, 4, none⟩) hg2 (.slice A5 l5 c5))
              have C5 := Lib.hid (C4.out.fr f5 (by omega))
              have Z5 := Lib.hid ((Z4.out.fr f5 (by omega)).far (p := ⟨w2.heap.size, 4, none⟩) (Nat.ne_of_lt HS2.out) (.slice A5 l5 c5))
              have F5 := Lib.hid ((F4.out.trans f5).setCell (p := ⟨w2.heap.size, 4, none⟩) (.inr (Nat.le_of_lt HS2.out)) (.slice A5 l5 c5))
              have c6_ := C5.out.set_ 4 (.slice A5 l5 c5)
              simp only [List.setIfInBounds_toArray, List.set_cons_zero, List.set_cons_succ] at c6_
              have C6 := Lib.hid c6_
              have G5 := Lib.hid (show w2.heap.size < w4.heap.size from C4.out.lt)
              have kC := C5.out.cell
              have fC := C5.out.frozen
              clear r5 f5 o5 c6_ hl5 hl5' hm5
              go_wp2_with fail
              clear kC fC
              (with_reducible refine (T2.out _ _ R5.out).mono ?_)
              rintro e w7 ⟨rfl, f7⟩
              exact ⟨rfl, ChgPost.no HN.out (F5.out.trans f7)⟩
            | some p =>
              obtain ⟨y, yz⟩ := p
              have T2 := Lib.hid (fun W v (h : Rd W g B v yd) => rtext_some W g B v yd y yz h hb4 e5_)
              have HV := Lib.hid (show rChg xs = some (⟨pg, sl, had, has, x, y⟩, yz) by simp [rChg, e1, e2, e3, hf3, e4, e5_, hhad, hhas])
              clear e1 e2 e3 e4 e5_ hhad hhas
              go_enter Try.func90, Try.ntmps90
              go_wp2_with fail
              (with_reducible refine N1.out.mono ?_)
              rintro e w1 ⟨rfl, ⟨v1, r1⟩, f1⟩
              have R1 := Lib.hid r1
              have F1 := Lib.hid (F0.out.trans f1)
              have Z1 := Lib.hid (Z0.out.fr f1 (by omega))
              clear r1 f1
              go_wp2_with fail
              (with_reducible refine (N2.out _ _ R1.out).mono ?_)
              rintro e w2 ⟨rfl, ⟨v2, r2⟩, f2⟩
              have R2 := Lib.hid (r2.alloc (.cells #[.int .u32 pg, .int .u16 sl, .bool false, .bool false, .slice none 0 0, .slice none 0 0] 50))
              have F2 := Lib.hid ((F1.out.trans f2).alloc (.cells #[.int .u32 pg, .int .u16 sl, .bool false, .bool false, .slice none 0 0, .slice none 0 0] 50))
              have Z2 := Lib.hid ((Z1.out.fr f2 (by omega)).alloc (.cells #[.int .u32 pg, .int .u16 sl, .bool false, .bool false, .slice none 0 0, .slice none 0 0] 50))
              have C2 := Lib.hid (Box.new w2 #[.int .u32 pg, .int .u16 sl, .bool false, .bool false, .slice none 0 0, .slice none 0 0] 50)
              have HS2 := Lib.hid (show w.heap.size < w2.heap.size from Z1.out.fr f2 (by omega) |>.lt)
              have hg2 : g < w2.heap.size := by have := HS2.out; omega
              clear r2 f2
              go_wp2_with fail
              (with_reducible refine (N3.out _ _ R2.out).mono ?_)
              rintro e w3 ⟨rfl, ⟨v3, r3⟩, f3⟩
              have R3 := Lib.hid r3
              have F3 := Lib.hid (F2.out.trans f3)
              have Z3 := Lib.hid (Z2.out.fr f3 (by omega))
              have C3 := Lib.hid (C2.out.fr f3 (by omega))
              have kC := C3.out.cell
              have fC := C3.out.frozen
              have kR := R3.out.box.cell
              clear r3 f3
              go_wp2_with fail
              have r4 := (R3.out.setc (p := ⟨w2.heap.size, 2, none⟩) hg2 (.bool had)).setc (p := ⟨w2.heap.size, 3, none⟩) hg2 (.bool has)
              have f4 := (F3.out.setCell (p := ⟨w2.heap.size, 2, none⟩) (.inr (Nat.le_of_lt HS2.out)) (.bool had)).setCell (p := ⟨w2.heap.size, 3, none⟩) (.inr (Nat.le_of_lt HS2.out)) (.bool has)
              have z4 := (Z3.out.far (p := ⟨w2.heap.size, 2, none⟩) (Nat.ne_of_lt HS2.out) (.bool had)).far (p := ⟨w2.heap.size, 3, none⟩) (Nat.ne_of_lt HS2.out) (.bool has)
              have c4_ := (C3.out.set_ 2 (.bool had)).set_ 3 (.bool has)
              simp only [List.setIfInBounds_toArray, List.set_cons_zero, List.set_cons_succ] at c4_
              generalize World.setCell (World.setCell w3 (⟨w2.heap.size, 2, none⟩ : Addr) (.bool had)) (⟨w2.heap.size, 3, none⟩ : Addr) (.bool has) = w4 at *
              have R4 := Lib.hid r4
              have F4 := Lib.hid f4
              have Z4 := Lib.hid z4
              have C4 := Lib.hid c4_
              clear r4 f4 z4 c4_ kC fC kR
              (with_reducible refine (T1.out _ _ R4.out).mono ?_)
              rintro e w5 ⟨u5, rfl, o5, ⟨v5, r5⟩, f5⟩
              obtain ⟨A5, c5, e5, hl5, hm5⟩ := (IR.of_own o5).form
              obtain ⟨l5, hl5'⟩ : ∃ l, l = x.length := ⟨_, rfl⟩
              rw [← hl5'] at e5 o5
              subst e5
              have HL5 := Lib.hid hl5'
              have O5 := Lib.hid o5
              have R5 := Lib.hid (r5.setc (p := ⟨w2.heap.size, 4, none⟩) hg2 (.slice A5 l5 c5))
              have C5 := Lib.hid (C4.out.fr f5 (by omega))
              have Z5 := Lib.hid ((Z4.out.fr f5 (by omega)).far (p := ⟨w2.heap.size, 4, none⟩) (Nat.ne_of_lt HS2.out) (.slice A5 l5 c5))
              have F5 := Lib.hid ((F4.out.trans f5).setCell (p := ⟨w2.heap.size, 4, none⟩) (.inr (Nat.le_of_lt HS2.out)) (.slice A5 l5 c5))
              have c6_ := C5.out.set_ 4 (.slice A5 l5 c5)
              simp only [List.setIfInBounds_toArray, List.set_cons_zero, List.set_cons_succ] at c6_
              have C6 := Lib.hid c6_
              have G5 := Lib.hid (show w2.heap.size < w4.heap.size from C4.out.lt)
              have kC := C5.out.cell
              have fC := C5.out.frozen
              clear r5 f5 o5 c6_ hl5 hl5' hm5
              go_wp2_with fail
              clear kC fC
              (with_reducible refine (T2.out _ _ R5.out).mono ?_)
              rintro e w7 ⟨u7, rfl, o7, ⟨v7, r7⟩, f7⟩
              obtain ⟨A7, c7, e7, hl7, hm7⟩ := (IR.of_own o7).form
              obtain ⟨l7, hl7'⟩ : ∃ l, l = y.length := ⟨_, rfl⟩
              rw [← hl7'] at e7 o7
              subst e7
              have HL7 := Lib.hid hl7'
              have O57 := Lib.hid (own_fr (own_set_far O5.out (p := ⟨w2.heap.size, 4, none⟩) G5.out (.slice A5 l5 c5)) f7 (by have := G5.out; omega))
              have O7 := Lib.hid o7
              have C7 := Lib.hid (C6.out.fr f7 (by omega))
              have Z7 := Lib.hid (Z5.out.fr f7 (by omega))
              have R7 := Lib.hid r7
              have F7 := Lib.hid (F5.out.trans f7)
              have c8_ := C7.out.set_ 5 (.slice A7 l7 c7)
              simp only [List.setIfInBounds_toArray, List.set_cons_zero, List.set_cons_succ] at c8_
              have C8 := Lib.hid c8_
              have Z8 := Lib.hid (Z7.out.far (p := ⟨w2.heap.size, 5, none⟩) (Nat.ne_of_lt HS2.out) (.slice A7 l7 c7))
              clear c8_
              have G7 := Lib.hid (show w2.heap.size < w7.heap.size from C7.out.lt)
              have G6 := Lib.hid (show w2.heap.size < (World.setCell w5 ⟨w2.heap.size, 4, none⟩ (.slice A5 l5 c5)).heap.size from C6.out.lt)
              have hlt7 := Nat.ne_of_lt HS2.out
              have c7_0 : (w7.setCell ⟨w2.heap.size, 5, none⟩ (.slice A7 l7 c7)).cell? ⟨w2.heap.size, 0, none⟩ = some (.int .u32 pg) := C8.out.cell 0
              have c7_1 : (w7.setCell ⟨w2.heap.size, 5, none⟩ (.slice A7 l7 c7)).cell? ⟨w2.heap.size, 1, none⟩ = some (.int .u16 sl) := C8.out.cell 1
              have c7_2 : (w7.setCell ⟨w2.heap.size, 5, none⟩ (.slice A7 l7 c7)).cell? ⟨w2.heap.size, 2, none⟩ = some (.bool had) := C8.out.cell 2
              have c7_3 : (w7.setCell ⟨w2.heap.size, 5, none⟩ (.slice A7 l7 c7)).cell? ⟨w2.heap.size, 3, none⟩ = some (.bool has) := C8.out.cell 3
              have c7_4 : (w7.setCell ⟨w2.heap.size, 5, none⟩ (.slice A7 l7 c7)).cell? ⟨w2.heap.size, 4, none⟩ = some (.slice A5 l5 c5) := C8.out.cell 4
              have c7_5 : (w7.setCell ⟨w2.heap.size, 5, none⟩ (.slice A7 l7 c7)).cell? ⟨w2.heap.size, 5, none⟩ = some (.slice A7 l7 c7) := C8.out.cell 5
              have z7_0 : (w7.setCell ⟨w2.heap.size, 5, none⟩ (.slice A7 l7 c7)).cell? ⟨w.heap.size, 0, none⟩ = some (.int .u32 0) := Z8.out.cell 0
              have z7_1 : (w7.setCell ⟨w2.heap.size, 5, none⟩ (.slice A7 l7 c7)).cell? ⟨w.heap.size, 1, none⟩ = some (.int .u16 0) := Z8.out.cell 1
              have z7_2 : (w7.setCell ⟨w2.heap.size, 5, none⟩ (.slice A7 l7 c7)).cell? ⟨w.heap.size, 2, none⟩ = some (.bool false) := Z8.out.cell 2
              have z7_3 : (w7.setCell ⟨w2.heap.size, 5, none⟩ (.slice A7 l7 c7)).cell? ⟨w.heap.size, 3, none⟩ = some (.bool false) := Z8.out.cell 3
              have z7_4 : (w7.setCell ⟨w2.heap.size, 5, none⟩ (.slice A7 l7 c7)).cell? ⟨w.heap.size, 4, none⟩ = some (.slice none 0 0) := Z8.out.cell 4
              have z7_5 : (w7.setCell ⟨w2.heap.size, 5, none⟩ (.slice A7 l7 c7)).cell? ⟨w.heap.size, 5, none⟩ = some (.slice none 0 0) := Z8.out.cell 5
              have y7_0 := Z8.out.frozen 0
              have y7_1 := Z8.out.frozen 1
              have y7_2 := Z8.out.frozen 2
              have y7_3 := Z8.out.frozen 3
              have y7_4 := Z8.out.frozen 4
              have y7_5 := Z8.out.frozen 5
              have kC := C7.out.cell 5
              have fC := C7.out.frozen 5
              clear r7 f7 o7 hl7 hl7' hm7
              go_upto_region 9 with (fail)
              clear kC fC c7_0 z7_0 y7_0 c7_1 z7_1 y7_1 c7_2 z7_2 y7_2 c7_3 z7_3 y7_3 c7_4 z7_4 y7_4 c7_5 z7_5 y7_5
              have o5 := own_set_far O57.out (p := ⟨w2.heap.size, 5, none⟩) G5.out (.slice A7 l7 c7)
              have o7 := own_set_far O7.out (p := ⟨w2.heap.size, 5, none⟩) G6.out (.slice A7 l7 c7)
              have r8 := R7.out.setc (p := ⟨w2.heap.size, 5, none⟩) hg2 (.slice A7 l7 c7)
              have f8 := F7.out.setCell (p := ⟨w2.heap.size, 5, none⟩) (.inr (Nat.le_of_lt HS2.out)) (.slice A7 l7 c7)
              have c8 := C8.out
              have z8 := Z8.out
              clear C8 Z8
              generalize World.setCell w7 (⟨w2.heap.size, 5, none⟩ : Addr) (.slice A7 l7 c7) = w8 at *
              have O58 := Lib.hid o5
              have O78 := Lib.hid o7
              have R8 := Lib.hid r8
              have F8 := Lib.hid f8
              have Z8 := Lib.hid z8
              have c8_0 : w8.cell? ⟨w2.heap.size, 0, none⟩ = some (.int .u32 pg) := c8.cell 0
              have c8_1 : w8.cell? ⟨w2.heap.size, 1, none⟩ = some (.int .u16 sl) := c8.cell 1
              have c8_2 : w8.cell? ⟨w2.heap.size, 2, none⟩ = some (.bool had) := c8.cell 2
              have c8_3 : w8.cell? ⟨w2.heap.size, 3, none⟩ = some (.bool has) := c8.cell 3
              have c8_4 : w8.cell? ⟨w2.heap.size, 4, none⟩ = some (.slice A5 l5 c5) := c8.cell 4
              have c8_5 : w8.cell? ⟨w2.heap.size, 5, none⟩ = some (.slice A7 l7 c7) := c8.cell 5
              have z8_0 : w8.cell? ⟨w.heap.size, 0, none⟩ = some (.int .u32 0) := z8.cell 0
              have z8_1 : w8.cell? ⟨w.heap.size, 1, none⟩ = some (.int .u16 0) := z8.cell 1
              have z8_2 : w8.cell? ⟨w.heap.size, 2, none⟩ = some (.bool false) := z8.cell 2
              have z8_3 : w8.cell? ⟨w.heap.size, 3, none⟩ = some (.bool false) := z8.cell 3
              have z8_4 : w8.cell? ⟨w.heap.size, 4, none⟩ = some (.slice none 0 0) := z8.cell 4
              have z8_5 : w8.cell? ⟨w.heap.size, 5, none⟩ = some (.slice none 0 0) := z8.cell 5
              have y8_0 := z8.frozen 0
              have y8_1 := z8.frozen 1
              have y8_2 := z8.frozen 2
              have y8_3 := z8.frozen 3
              have y8_4 := z8.frozen 4
              have y8_5 := z8.frozen 5
              clear o5 o7 r8 f8 c8 z8
              go_wp2
              have b9 := Box.set_ (Box.set_ (Box.set_ (Box.set_ (Box.set_ (Box.set_ (Z8.out) 0 (.int .u32 pg)) 1 (.int .u16 sl)) 2 (.bool had)) 3 (.bool has)) 4 (.slice A5 l5 c5)) 5 (.slice A7 l7 c7)
              simp only [cgC, List.setIfInBounds_toArray, List.set_cons_zero, List.set_cons_succ] at b9
              have f9 := Fr.setCell (Fr.setCell (Fr.setCell (Fr.setCell (Fr.setCell (Fr.setCell (F8.out) (p := ⟨w.heap.size, 0, none⟩) (.inr (Nat.le_refl _)) (.int .u32 pg)) (p := ⟨w.heap.size, 1, none⟩) (.inr (Nat.le_refl _)) (.int .u16 sl)) (p := ⟨w.heap.size, 2, none⟩) (.inr (Nat.le_refl _)) (.bool had)) (p := ⟨w.heap.size, 3, none⟩) (.inr (Nat.le_refl _)) (.bool has)) (p := ⟨w.heap.size, 4, none⟩) (.inr (Nat.le_refl _)) (.slice A5 l5 c5)) (p := ⟨w.heap.size, 5, none⟩) (.inr (Nat.le_refl _)) (.slice A7 l7 c7)
              have r9 := Rd.setc (Rd.setc (Rd.setc (Rd.setc (Rd.setc (Rd.setc (R8.out) (p := ⟨w.heap.size, 0, none⟩) hgl (.int .u32 pg)) (p := ⟨w.heap.size, 1, none⟩) hgl (.int .u16 sl)) (p := ⟨w.heap.size, 2, none⟩) hgl (.bool had)) (p := ⟨w.heap.size, 3, none⟩) hgl (.bool has)) (p := ⟨w.heap.size, 4, none⟩) hgl (.slice A5 l5 c5)) (p := ⟨w.heap.size, 5, none⟩) hgl (.slice A7 l7 c7)
              have hlo : w.heap.size < w4.heap.size := Nat.lt_trans HS2.out G5.out
              have hlp : w.heap.size < (World.setCell w5 ⟨w2.heap.size, 4, none⟩ (.slice A5 l5 c5)).heap.size := Nat.lt_trans HS2.out G6.out
              have o59 := own_set_far (own_set_far (own_set_far (own_set_far (own_set_far (own_set_far (O58.out) (p := ⟨w.heap.size, 0, none⟩) hlo (.int .u32 pg)) (p := ⟨w.heap.size, 1, none⟩) hlo (.int .u16 sl)) (p := ⟨w.heap.size, 2, none⟩) hlo (.bool had)) (p := ⟨w.heap.size, 3, none⟩) hlo (.bool has)) (p := ⟨w.heap.size, 4, none⟩) hlo (.slice A5 l5 c5)) (p := ⟨w.heap.size, 5, none⟩) hlo (.slice A7 l7 c7)
              have o79 := own_set_far (own_set_far (own_set_far (own_set_far (own_set_far (own_set_far (O78.out) (p := ⟨w.heap.size, 0, none⟩) hlp (.int .u32 pg)) (p := ⟨w.heap.size, 1, none⟩) hlp (.int .u16 sl)) (p := ⟨w.heap.size, 2, none⟩) hlp (.bool had)) (p := ⟨w.heap.size, 3, none⟩) hlp (.bool has)) (p := ⟨w.heap.size, 4, none⟩) hlp (.slice A5 l5 c5)) (p := ⟨w.heap.size, 5, none⟩) hlp (.slice A7 l7 c7)
              generalize World.setCell (World.setCell (World.setCell (World.setCell (World.setCell (World.setCell (w8) (⟨w.heap.size, 0, none⟩ : Addr) (.int .u32 pg)) (⟨w.heap.size, 1, none⟩ : Addr) (.int .u16 sl)) (⟨w.heap.size, 2, none⟩ : Addr) (.bool had)) (⟨w.heap.size, 3, none⟩ : Addr) (.bool has)) (⟨w.heap.size, 4, none⟩ : Addr) (.slice A5 l5 c5)) (⟨w.heap.size, 5, none⟩ : Addr) (.slice A7 l7 c7) = W9 at *
              have q0 : W9.cell? ⟨w.heap.size, 0, none⟩ = some (.int .u32 pg) := b9.cell 0
              have q1 : W9.cell? ⟨w.heap.size, 1, none⟩ = some (.int .u16 sl) := b9.cell 1
              have q2 : W9.cell? ⟨w.heap.size, 2, none⟩ = some (.bool had) := b9.cell 2
              have q3 : W9.cell? ⟨w.heap.size, 3, none⟩ = some (.bool has) := b9.cell 3
              have q4 : W9.cell? ⟨w.heap.size, 4, none⟩ = some (.slice A5 l5 c5) := b9.cell 4
              have q5 : W9.cell? ⟨w.heap.size, 5, none⟩ = some (.slice A7 l7 c7) := b9.cell 5
              refine bodyPost_ret (v := .agg #[.int .u32 pg, .int .u16 sl, .bool had, .bool has, .slice A5 l5 c5, .slice A7 l7 c7]) (by simp [results, Try.results90, go_sem, q0, q1, q2, q3, q4, q5]) rfl ?_
              unfold ChgPost
              rw [HV.out]
              rw [HL5.out] at o59
              rw [HL7.out] at o79
              exact ⟨_, _, rfl, by rw [HL5.out]; exact own_lower o59 (Nat.le_of_lt hlo), by rw [HL7.out]; exact own_lower o79 (Nat.le_of_lt hlp), ⟨_, r9⟩, f9⟩
end Go.Proofs.Yteggcehjpfmikaa.Rec
namespace Go.Proofs.Yteggcehjpfmikaa.Rec
open Go.ChangeShapes Go.WideShapes Go.ChangeAt Go.RowKit Go.IntWalk Go.Proofs.NumMath Go.Proofs.Mem Go.Proofs.CrcMath NumBytes CrcA
set_option linter.unusedVariables false
set_option linter.unusedSimpArgs false
def rAc (xs : List Int) : Option (Ac × List Int) :=
  match rNum 4 xs with
  | none => none
  | some (t, a) => match rNum 8 a with
    | none => none
    | some (l, b) => match rNum 8 b with
      | none => none
      | some (u, c) => match rNum 1 c with
        | none => none
        | some (s, d) => some (⟨t, l, u, s⟩, d)
def rDt (xs : List Int) : Option (Dt × List Int) :=
  match rNum 4 xs with
  | none => none
  | some (p, a) => match rNum 8 a with
    | none => none
    | some (f, b) => some (⟨p, f⟩, b)
def rMany {α : Type} (f : List Int → Option (α × List Int)) : Nat → List Int → Option (List α × List Int)
  | 0, xs => some ([], xs)
  | n + 1, xs => match f xs with
    | none => none
    | some (x, ys) => match rMany f n ys with
      | none => none
      | some (l, zs) => some (x :: l, zs)
def rTab (xs : List Int) : Option (List Ac × List Dt × List Int) :=
  match rNum 1 xs with
  | none => none
  | some (n, a) => match rMany rAc n.toNat a with
    | none => none
    | some (ts, b) => match rNum 1 b with
      | none => none
      | some (m, c) => match rMany rDt m.toNat c with
        | none => none
        | some (ds, d) => some (ts, ds, d)
def pre {α : Type} (acc : List α) (o : Option (List α × List Int)) : Option (List α × List Int) := match o with | none => none | some (l, e) => some (acc ++ l, e)
theorem pre_nil {α : Type} (o : Option (List α × List Int)) : pre [] o = o := by cases o with | none => rfl | some p => obtain ⟨a, b⟩ := p; rfl
theorem many_step {α : Type} {f : List Int → Option (α × List Int)} {acc : List α} {n : Nat} {ys zs : List Int} {x : α} (h : f ys = some (x, zs)) : pre acc (rMany f (n + 1) ys) = pre (acc ++ [x]) (rMany f n zs) := by
  simp only [rMany, h]
  cases rMany f n zs with
  | none => rfl
  | some p => obtain ⟨a, b⟩ := p; simp [pre]
theorem many_stop {α : Type} {f : List Int → Option (α × List Int)} {acc : List α} {n : Nat} {ys : List Int} (h : f ys = none) : pre acc (rMany f (n + 1) ys) = none := by
  simp only [rMany, h]; rfl
theorem own_apart {W W' : World} {base n size : Nat} {e : TypeId} {v u u' : Value} {xs : List Value} (h : W.ownsRow base e size v n xs) (t : RowTo W W' u u') (hne : ∀ k, u.ownBlock = some k → v.ownBlock ≠ some k) : W'.ownsRow base e size v n xs :=
  h.kept (row := u.ownBlock) ⟨t.fr.os, t.fr.tape, t.fr.output, t.fr.size, fun k hk hn => t.fr.block k hk (fun e => hn e.symm)⟩ (by
    cases e : v.ownBlock with
    | none => exact .inl rfl
    | some k => exact .inr (fun e2 => hne k e2.symm e))
theorem own_fr' {W W' : World} {base n g size : Nat} {e : TypeId} {v : Value} {xs : List Value} (h : W.ownsRow base e size v n xs) (hf : Fr (fun x => x = g) W W') (hg : g < base) : W'.ownsRow base e size v n xs :=
  h.kept (row := some g) ⟨hf.os, hf.tape, hf.output, hf.size, fun k hk hne => hf.block k hk (fun e => hne (by rw [e]))⟩ (by
    cases e : v.ownBlock with
    | none => exact .inl rfl
    | some k =>
      refine .inr (fun e2 => ?_)
      injection e2 with e2
      have := (h.lt k e).1
      omega)
theorem Rd.row {W W' : World} {g B base n size : Nat} {e : TypeId} {v u u' : Value} {ys : List Int} {xs : List Value} (h : Rd W g B v ys) (hown : W.ownsRow base e size u n xs) (t : RowTo W W' u u') (hg : g < base) : Rd W' g B v ys :=
  h.fr t.fr (fun e => by have := (hown.lt _ e).1; omega) (fun k e => by have := (hown.lt _ e).1; have := h.le; omega)
theorem fr_row {w W W' : World} {g n size : Nat} {e : TypeId} {u u' : Value} {xs : List Value} (h : Fr (fun x => x = g) w W) (hown : W.ownsRow w.heap.size e size u n xs) (t : RowTo W W' u u') : Fr (fun x => x = g) w W' :=
  h.trans' t.fr (fun i hi e => by have := (hown.lt _ e).1; omega)
theorem cAc_len (x : Ac) : (cAc x).length = 4 := rfl
theorem cDt_len (x : Dt) : (cDt x).length = 2 := rfl
theorem cAc_one (x : Ac) : ∀ u ∈ cAc x, u.oneCell' = true := by intro u hu; simp [cAc] at hu; rcases hu with rfl | rfl | rfl | rfl <;> rfl
theorem cDt_one (x : Dt) : ∀ u ∈ cDt x, u.oneCell' = true := by intro u hu; simp [cDt] at hu; rcases hu with rfl | rfl <;> rfl
theorem ac_info : (Try.prog.info? 101).map (fun i => (i.zero, i.size, i.bytes)) = some (some (.agg #[.int .u32 0, .int .u64 0, .int .u64 0, .int .u8 0]), 4, 32) := by kernel_rfl
theorem dt_info : (Try.prog.info? 103).map (fun i => (i.zero, i.size, i.bytes)) = some (some (.agg #[.int .u32 0, .int .u64 0]), 2, 16) := by kernel_rfl
def TabPost (w : World) (g B : Nat) (xs : List Int) (e : Ending) (w' : World) : Prop :=
  match rTab xs with
  | none => e = .panicked raise_ ∧ Fr (fun x => x = g) w w'
  | some (ts, ds, zs) => ∃ ta da, e = .returned (.tuple #[ta, da]) ∧ w'.ownsRow w.heap.size 101 4 ta ts.length (ts.flatMap cAc) ∧ w'.ownsRow w.heap.size 103 2 da ds.length (ds.flatMap cDt) ∧ (∃ v', Rd w' g B v' zs) ∧ Fr (fun x => x = g) w w'
theorem TabPost.no {w w' : World} {g B : Nat} {xs : List Int} (h : rTab xs = none) (hf : Fr (fun x => x = g) w w') : TabPost w g B xs (.panicked raise_) w' := by
  unfold TabPost; rw [h]; exact ⟨rfl, hf⟩
set_option maxRecDepth 100000 in
set_option maxHeartbeats 32000000 in
theorem rtables_any (w : World) (g B : Nat) (v : Value) (xs : List Int) (h : Rd w g B v xs) (hx : Bytes xs) :
    Calls Try.prog 91 #[.pointer (some ⟨g, 0, none⟩)] w (TabPost w g B xs) := by
  have GL := Lib.hid h.box.lt
  have RD0 := Lib.hid h
  cases e1 : rNum 1 xs with
  | none =>
    have HN := Lib.hid (show rTab xs = none by simp [rTab, e1])
    have M := Lib.hid (num_none w g B v xs h 1 1 rfl (by decide) e1)
    clear h e1
    go_enter Try.func91, Try.ntmps91
    go_wp2_with fail
    (with_reducible refine M.out.mono ?_)
    rintro e z ⟨rfl, rfl⟩
    exact ⟨rfl, TabPost.no HN.out (Fr.refl _ _)⟩
  | some p =>
    obtain ⟨n1, xa⟩ := p
    have hb1 := rNum_bytes e1 hx
    have bd1 := rNum_bd (by decide) e1 hx
    rw [show (2 : Int) ^ (8 * 1) = 256 from rfl] at bd1
    have M1 := Lib.hid (num_some w g B v xs xa n1 h hx 1 1 rfl e1)
    obtain ⟨N1, rfl⟩ : ∃ N : Nat, n1 = N := ⟨n1.toNat, by omega⟩
    have hN1 : N1 ≤ 255 := by omega
    have WH := Lib.hid (show rMany rAc N1 xa = none → rTab xs = none from fun h => by simp [rTab, e1, h])
    have HB1 := Lib.hid hb1
    have HE1 := Lib.hid e1
    obtain ⟨j0, hj0, hj1, hj2, hj3⟩ := info_parts ac_info
    clear h e1 hx bd1 hb1
    go_enter Try.func91, Try.ntmps91
    go_wp2_with fail
    (with_reducible refine M1.out.mono ?_)
    rintro e w1 ⟨rfl, rd1, f1⟩
    have RD1 := Lib.hid rd1
    have F1 := Lib.hid f1
    clear rd1 f1
    go_wp2
    go_loopw [4, 8] (fun v i wr => ∃ (j : Nat) (acc : List Ac) (ys : List Int), i = .int .u64 j ∧ j ≤ N1 ∧ Hid (acc.length = j) ∧ Hid (rMany rAc N1 xa = pre acc (rMany rAc (N1 - j) ys)) ∧ Hid (wr.ownsRow w.heap.size 101 4 v acc.length (acc.flatMap cAc)) ∧ Hid (∃ v', Rd wr g B v' ys) ∧ Hid (Bytes ys) ∧ Hid (Fr (fun x => x = g) w wr)) (fun _ i _ => N1 - (intOf i).toNat)
    case atStart => exact ⟨0, [], xa, rfl, Nat.zero_le _, Lib.hid rfl, Lib.hid (by rw [pre_nil]; rfl), Lib.hid (World.ownsRow_nil _ _ _ _), RD1, HB1, F1⟩
    case round =>
      obtain ⟨j, acc, ys, rfl, hj, HAS, HR, OW, RD, BY, FR⟩ := hrel
      by_cases hlt : j < N1
      ·
        obtain ⟨m, hm⟩ : ∃ m, N1 - j = m + 1 := ⟨N1 - j - 1, by omega⟩
        have hr := HR.out
        rw [hm] at hr
        obtain ⟨v0, rd0⟩ := RD.out
        have by0 := BY.out
        have RD0 := Lib.hid rd0
        clear rd0
        cases e0 : rNum 4 ys with
        | none =>
          have hn : rAc ys = none := by simp [rAc, e0]
          have HN := Lib.hid (WH.out (hr.trans (many_stop hn)))
          have M0 := Lib.hid (fun W v (h : Rd W g B v ys) => num_none W g B v ys h 4 4 rfl (by decide) e0)
          clear hn hr e0
          go_wp2_with fail
          (with_reducible refine (M0.out _ _ RD0.out).mono ?_)
          rintro e z ⟨rfl, rfl⟩
          exact ⟨rfl, TabPost.no HN.out FR.out⟩
        | some p =>
          obtain ⟨t, y0⟩ := p
          have by1 := rNum_bytes e0 by0
          have bd0 := rNum_bd (by decide) e0 by0
          have M0 := Lib.hid (fun W v (h : Rd W g B v ys) => num_some W g B v ys y0 t h by0 4 4 rfl e0)
          rw [show (2 : Int) ^ (8 * 4) = 4294967296 from rfl] at bd0
          have wq0 := u32_wrap (x := t) (by omega) (by omega)
          cases e1 : rNum 8 y0 with
          | none =>
            have hn : rAc ys = none := by simp [rAc, e0, e1]
            have HN := Lib.hid (WH.out (hr.trans (many_stop hn)))
            have M1 := Lib.hid (fun W v (h : Rd W g B v y0) => num_none W g B v y0 h 8 8 rfl (by decide) e1)
            clear hn hr e0 e1
            go_wp2_with fail
            (with_reducible refine (M0.out _ _ RD0.out).mono ?_)
            rintro e x1 ⟨rfl, ⟨v1, rd⟩, fr⟩
            have RD1 := Lib.hid rd
            have FR1 := Lib.hid (FR.out.trans fr)
            have OW1 := Lib.hid (own_fr' OW.out fr (by have := GL.out; omega))
            clear rd fr
            go_wp2_with fail
            (with_reducible refine (M1.out _ _ RD1.out).mono ?_)
            rintro e z ⟨rfl, rfl⟩
            exact ⟨rfl, TabPost.no HN.out FR1.out⟩
          | some p =>
            obtain ⟨l, y1⟩ := p
            have by2 := rNum_bytes e1 by1
            have bd1 := rNum_bd (by decide) e1 by1
            have M1 := Lib.hid (fun W v (h : Rd W g B v y0) => num_some W g B v y0 y1 l h by1 8 8 rfl e1)
            rw [show (2 : Int) ^ (8 * 8) = 18446744073709551616 from rfl] at bd1
            cases e2 : rNum 8 y1 with
            | none =>
              have hn : rAc ys = none := by simp [rAc, e0, e1, e2]
              have HN := Lib.hid (WH.out (hr.trans (many_stop hn)))
              have M2 := Lib.hid (fun W v (h : Rd W g B v y1) => num_none W g B v y1 h 8 8 rfl (by decide) e2)
              clear hn hr e0 e1 e2
              go_wp2_with fail
              (with_reducible refine (M0.out _ _ RD0.out).mono ?_)
              rintro e x1 ⟨rfl, ⟨v1, rd⟩, fr⟩
              have RD1 := Lib.hid rd
              have FR1 := Lib.hid (FR.out.trans fr)
              have OW1 := Lib.hid (own_fr' OW.out fr (by have := GL.out; omega))
              clear rd fr
              go_wp2_with fail
              (with_reducible refine (M1.out _ _ RD1.out).mono ?_)
              rintro e x2 ⟨rfl, ⟨v2, rd⟩, fr⟩
              have RD2 := Lib.hid rd
              have FR2 := Lib.hid (FR1.out.trans fr)
              have OW2 := Lib.hid (own_fr' OW1.out fr (by have := GL.out; omega))
              clear rd fr
              go_wp2_with fail
              (with_reducible refine (M2.out _ _ RD2.out).mono ?_)
              rintro e z ⟨rfl, rfl⟩
              exact ⟨rfl, TabPost.no HN.out FR2.out⟩
            | some p =>
              obtain ⟨u, y2⟩ := p
              have by3 := rNum_bytes e2 by2
              have bd2 := rNum_bd (by decide) e2 by2
              have M2 := Lib.hid (fun W v (h : Rd W g B v y1) => num_some W g B v y1 y2 u h by2 8 8 rfl e2)
              rw [show (2 : Int) ^ (8 * 8) = 18446744073709551616 from rfl] at bd2
              cases e3 : rNum 1 y2 with
              | none =>
                have hn : rAc ys = none := by simp [rAc, e0, e1, e2, e3]
                have HN := Lib.hid (WH.out (hr.trans (many_stop hn)))
                have M3 := Lib.hid (fun W v (h : Rd W g B v y2) => num_none W g B v y2 h 1 1 rfl (by decide) e3)
                clear hn hr e0 e1 e2 e3
                go_wp2_with fail
                (with_reducible refine (M0.out _ _ RD0.out).mono ?_)
                rintro e x1 ⟨rfl, ⟨v1, rd⟩, fr⟩
                have RD1 := Lib.hid rd
                have FR1 := Lib.hid (FR.out.trans fr)
                have OW1 := Lib.hid (own_fr' OW.out fr (by have := GL.out; omega))
                clear rd fr
                go_wp2_with fail
                (with_reducible refine (M1.out _ _ RD1.out).mono ?_)
                rintro e x2 ⟨rfl, ⟨v2, rd⟩, fr⟩
                have RD2 := Lib.hid rd
                have FR2 := Lib.hid (FR1.out.trans fr)
                have OW2 := Lib.hid (own_fr' OW1.out fr (by have := GL.out; omega))
                clear rd fr
                go_wp2_with fail
                (with_reducible refine (M2.out _ _ RD2.out).mono ?_)
                rintro e x3 ⟨rfl, ⟨v3, rd⟩, fr⟩
                have RD3 := Lib.hid rd
                have FR3 := Lib.hid (FR2.out.trans fr)
                have OW3 := Lib.hid (own_fr' OW2.out fr (by have := GL.out; omega))
                clear rd fr
                go_wp2_with fail
                (with_reducible refine (M3.out _ _ RD3.out).mono ?_)
                rintro e z ⟨rfl, rfl⟩
                exact ⟨rfl, TabPost.no HN.out FR3.out⟩
              | some p =>
                obtain ⟨s, y3⟩ := p
                have by4 := rNum_bytes e3 by3
                have bd3 := rNum_bd (by decide) e3 by3
                have M3 := Lib.hid (fun W v (h : Rd W g B v y2) => num_some W g B v y2 y3 s h by3 1 1 rfl e3)
                rw [show (2 : Int) ^ (8 * 1) = 256 from rfl] at bd3
                have wq3 := u8_wrap (x := s) (by omega) (by omega)
                have hn : rAc ys = some (⟨t, l, u, s⟩, y3) := by simp [rAc, e0, e1, e2, e3]
                have HS := Lib.hid (hr.trans (many_step hn))
                have HBY := Lib.hid by4
                clear hn hr e0 e1 e2 e3
                go_wp2_with fail
                (with_reducible refine (M0.out _ _ RD0.out).mono ?_)
                rintro e x1 ⟨rfl, ⟨v1, rd⟩, fr⟩
                have RD1 := Lib.hid rd
                have FR1 := Lib.hid (FR.out.trans fr)
                have OW1 := Lib.hid (own_fr' OW.out fr (by have := GL.out; omega))
                clear rd fr
                go_wp2_with fail
                (with_reducible refine (M1.out _ _ RD1.out).mono ?_)
                rintro e x2 ⟨rfl, ⟨v2, rd⟩, fr⟩
                have RD2 := Lib.hid rd
                have FR2 := Lib.hid (FR1.out.trans fr)
                have OW2 := Lib.hid (own_fr' OW1.out fr (by have := GL.out; omega))
                clear rd fr
                go_wp2_with fail
                (with_reducible refine (M2.out _ _ RD2.out).mono ?_)
                rintro e x3 ⟨rfl, ⟨v3, rd⟩, fr⟩
                have RD3 := Lib.hid rd
                have FR3 := Lib.hid (FR2.out.trans fr)
                have OW3 := Lib.hid (own_fr' OW2.out fr (by have := GL.out; omega))
                clear rd fr
                go_wp2_with fail
                (with_reducible refine (M3.out _ _ RD3.out).mono ?_)
                rintro e x4 ⟨rfl, ⟨v4, rd⟩, fr⟩
                have RD4 := Lib.hid rd
                have FR4 := Lib.hid (FR3.out.trans fr)
                have OW4 := Lib.hid (own_fr' OW3.out fr (by have := GL.out; omega))
                clear rd fr
                have hbase : w.heap.size ≤ x4.heap.size := FR4.out.size
                go_wp2_with (at_builtin; refine wpList_push_ss (F := cAc) (sz := 4) _ rfl _ _ _ rfl (w.heap.size) 101 j0 _ 32 Try.underlying51 hj0 hj1 hj2 hj3 rfl (by decide) cAc_len cAc_one _ acc rfl (own_below OW4.out (new_ (Below.refl _ _) (.cells #[.int .u32 t, .int .u64 l, .int .u64 u, .int .u8 s] 101))) x4.heap.size ⟨t, l, u, s⟩ 101 rfl (Box.new x4 _ _) (by have := HAS.out; unfold maxLen; omega) (by have := HAS.out; omega) (by have := hbase; simp; omega) ?_; intro v9 w9 hown ht)
                have tt := (RowTo.of_below (new_ (Below.refl x4.heap.size x4) (.cells #[.int .u32 t, .int .u64 l, .int .u64 u, .int .u8 s] 101)) _).trans ht
                obtain ⟨v8, rd8⟩ := show ∃ v8, Rd w9 g B v8 y3 from ⟨_, RD4.out.row OW4.out tt (by have := GL.out; omega)⟩
                have RD9 := Lib.hid (show ∃ v8, Rd w9 g B v8 y3 from ⟨_, rd8⟩)
                have FR9 := Lib.hid (fr_row FR4.out OW4.out tt)
                have OW9 := Lib.hid hown
                clear hown ht tt rd8
                go_wp2
                go_roundw
                case rel => exact ⟨j + 1, acc ++ [⟨t, l, u, s⟩], y3, by go_num, by omega, Lib.hid (by rw [List.length_append, HAS.out]; rfl), Lib.hid (by rw [show N1 - (j + 1) = m by omega]; exact HS.out), OW9, RD9, HBY, FR9⟩
                case measure => simp [intOf]; omega
      · have hje : j = N1 := by omega
        have hr := HR.out
        rw [hje, Nat.sub_self] at hr
        have hr1 : rMany rAc N1 xa = some (acc, ys) := hr.trans (by simp [rMany, pre])
        have by0 := BY.out
        obtain ⟨v2, rd2⟩ := RD.out
        obtain ⟨ts, hts⟩ : ∃ ts, ts = acc := ⟨_, rfl⟩
        rw [← hts] at hr1 OW
        have RD2 := Lib.hid rd2
        cases e2 : rNum 1 ys with
        | none =>
          have HN := Lib.hid (show rTab xs = none by simp [rTab, HE1.out, hr1, e2])
          have M2 := Lib.hid (fun W v (h : Rd W g B v ys) => num_none W g B v ys h 1 1 rfl (by decide) e2)
          clear hr hr1 e2 hts rd2
          go_wp2_with fail
          (with_reducible refine (M2.out _ _ RD2.out).mono ?_)
          rintro e z ⟨rfl, rfl⟩
          exact ⟨rfl, TabPost.no HN.out FR.out⟩
        | some p =>
          obtain ⟨n2, xc⟩ := p
          have hb2 := rNum_bytes e2 by0
          have bd2 := rNum_bd (by decide) e2 by0
          rw [show (2 : Int) ^ (8 * 1) = 256 from rfl] at bd2
          have M2 := Lib.hid (fun W v (h : Rd W g B v ys) => num_some W g B v ys xc n2 h by0 1 1 rfl e2)
          obtain ⟨N2, rfl⟩ : ∃ N : Nat, n2 = N := ⟨n2.toNat, by omega⟩
          have hN2 : N2 ≤ 255 := by omega
          have WH := Lib.hid (show rMany rDt N2 xc = none → rTab xs = none from fun h => by simp [rTab, HE1.out, hr1, e2, h])
          have WS := Lib.hid (show ∀ ds ys, rMany rDt N2 xc = some (ds, ys) → rTab xs = some (ts, ds, ys) from fun ds ys h => by simp [rTab, HE1.out, hr1, e2, h])
          have HB2 := Lib.hid hb2
          obtain ⟨j0, hj0, hj1, hj2, hj3⟩ := info_parts dt_info
          have HJE := Lib.hid hje
          clear hr hr1 e2 hts rd2 by0 hb2 bd2 hje
          obtain ⟨V1, hV1⟩ : ∃ V : Value, V = u4 := ⟨_, rfl⟩
          rw [← hV1] at OW ⊢
          clear hV1
          go_wp2_with fail
          (with_reducible refine (M2.out _ _ RD2.out).mono ?_)
          rintro e w2 ⟨rfl, rd3, f3⟩
          have RD3 := Lib.hid rd3
          have F3 := Lib.hid (FR.out.trans f3)
          have HS2 := Lib.hid F3.out.size
          have OV3 := Lib.hid (own_fr' OW.out f3 GL.out)
          have VB := Lib.hid (show ∀ q, V1.ownBlock = some q → q < w2.heap.size from fun q e => (OV3.out.lt q e).2)
          clear rd3 f3
          go_wp2
          go_loopw [5, 27] (fun v i wr => ∃ (j : Nat) (acc : List Dt) (ys : List Int), i = .int .u64 j ∧ j ≤ N2 ∧ Hid (acc.length = j) ∧ Hid (rMany rDt N2 xc = pre acc (rMany rDt (N2 - j) ys)) ∧ Hid (wr.ownsRow w2.heap.size 103 2 v acc.length (acc.flatMap cDt)) ∧ Hid (∃ v', Rd wr g B v' ys) ∧ Hid (Bytes ys) ∧ Hid (Fr (fun x => x = g) w wr) ∧ Hid (wr.ownsRow w.heap.size 101 4 V1 ts.length (ts.flatMap cAc)) ∧ Hid (w2.heap.size ≤ wr.heap.size)) (fun _ i _ => N2 - (intOf i).toNat)
          case atStart => exact ⟨0, [], xc, rfl, Nat.zero_le _, Lib.hid rfl, Lib.hid (by rw [pre_nil]; rfl), Lib.hid (World.ownsRow_nil _ _ _ _), RD3, HB2, F3, OV3, Lib.hid (Nat.le_refl _)⟩
          case round =>
            obtain ⟨j, acc, ys, rfl, hj, HAS, HR, OW, RD, BY, FR, OV, SZ⟩ := hrel
            by_cases hlt : j < N2
            ·
              obtain ⟨m, hm⟩ : ∃ m, N2 - j = m + 1 := ⟨N2 - j - 1, by omega⟩
              have hr := HR.out
              rw [hm] at hr
              obtain ⟨v0, rd0⟩ := RD.out
              have by0 := BY.out
              have RD0 := Lib.hid rd0
              clear rd0
              cases e0 : rNum 4 ys with
              | none =>
                have hn : rDt ys = none := by simp [rDt, e0]
                have HN := Lib.hid (WH.out (hr.trans (many_stop hn)))
                have M0 := Lib.hid (fun W v (h : Rd W g B v ys) => num_none W g B v ys h 4 4 rfl (by decide) e0)
                clear hn hr e0
                go_wp2_with fail
                (with_reducible refine (M0.out _ _ RD0.out).mono ?_)
                rintro e z ⟨rfl, rfl⟩
                exact ⟨rfl, TabPost.no HN.out FR.out⟩
              | some p =>
                obtain ⟨p, y0⟩ := p
                have by1 := rNum_bytes e0 by0
                have bd0 := rNum_bd (by decide) e0 by0
                have M0 := Lib.hid (fun W v (h : Rd W g B v ys) => num_some W g B v ys y0 p h by0 4 4 rfl e0)
                rw [show (2 : Int) ^ (8 * 4) = 4294967296 from rfl] at bd0
                have wq0 := u32_wrap (x := p) (by omega) (by omega)
                cases e1 : rNum 8 y0 with
                | none =>
                  have hn : rDt ys = none := by simp [rDt, e0, e1]
                  have HN := Lib.hid (WH.out (hr.trans (many_stop hn)))
                  have M1 := Lib.hid (fun W v (h : Rd W g B v y0) => num_none W g B v y0 h 8 8 rfl (by decide) e1)
                  clear hn hr e0 e1
                  go_wp2_with fail
                  (with_reducible refine (M0.out _ _ RD0.out).mono ?_)
                  rintro e x1 ⟨rfl, ⟨v1, rd⟩, fr⟩
                  have RD1 := Lib.hid rd
                  have FR1 := Lib.hid (FR.out.trans fr)
                  have OW1 := Lib.hid (own_fr' OW.out fr (by have := GL.out; have := HS2.out; omega))
                  have OV1 := Lib.hid (own_fr' OV.out fr (by have := GL.out; omega))
                  have SZ1 := Lib.hid (Nat.le_trans SZ.out fr.size)
                  clear rd fr
                  go_wp2_with fail
                  (with_reducible refine (M1.out _ _ RD1.out).mono ?_)
                  rintro e z ⟨rfl, rfl⟩
                  exact ⟨rfl, TabPost.no HN.out FR1.out⟩
                | some p =>
                  obtain ⟨f, y1⟩ := p
                  have by2 := rNum_bytes e1 by1
                  have bd1 := rNum_bd (by decide) e1 by1
                  have M1 := Lib.hid (fun W v (h : Rd W g B v y0) => num_some W g B v y0 y1 f h by1 8 8 rfl e1)
                  rw [show (2 : Int) ^ (8 * 8) = 18446744073709551616 from rfl] at bd1
                  have hn : rDt ys = some (⟨p, f⟩, y1) := by simp [rDt, e0, e1]
                  have HS := Lib.hid (hr.trans (many_step hn))
                  have HBY := Lib.hid by2
                  clear hn hr e0 e1
                  go_wp2_with fail
                  (with_reducible refine (M0.out _ _ RD0.out).mono ?_)
                  rintro e x1 ⟨rfl, ⟨v1, rd⟩, fr⟩
                  have RD1 := Lib.hid rd
                  have FR1 := Lib.hid (FR.out.trans fr)
                  have OW1 := Lib.hid (own_fr' OW.out fr (by have := GL.out; have := HS2.out; omega))
                  have OV1 := Lib.hid (own_fr' OV.out fr (by have := GL.out; omega))
                  have SZ1 := Lib.hid (Nat.le_trans SZ.out fr.size)
                  clear rd fr
                  go_wp2_with fail
                  (with_reducible refine (M1.out _ _ RD1.out).mono ?_)
                  rintro e x2 ⟨rfl, ⟨v2, rd⟩, fr⟩
                  have RD2 := Lib.hid rd
                  have FR2 := Lib.hid (FR1.out.trans fr)
                  have OW2 := Lib.hid (own_fr' OW1.out fr (by have := GL.out; have := HS2.out; omega))
                  have OV2 := Lib.hid (own_fr' OV1.out fr (by have := GL.out; omega))
                  have SZ2 := Lib.hid (Nat.le_trans SZ1.out fr.size)
                  clear rd fr
                  have hbase : w2.heap.size ≤ x2.heap.size := SZ2.out
                  go_wp2_with (at_builtin; refine wpList_push_ss (F := cDt) (sz := 2) _ rfl _ _ _ rfl (w2.heap.size) 103 j0 _ 16 Try.underlying52 hj0 hj1 hj2 hj3 rfl (by decide) cDt_len cDt_one _ acc rfl (own_below OW2.out (new_ (Below.refl _ _) (.cells #[.int .u32 p, .int .u64 f] 103))) x2.heap.size ⟨p, f⟩ 103 rfl (Box.new x2 _ _) (by have := HAS.out; unfold maxLen; omega) (by have := HAS.out; omega) (by have := hbase; simp; omega) ?_; intro v9 w9 hown ht)
                  have tt := (RowTo.of_below (new_ (Below.refl x2.heap.size x2) (.cells #[.int .u32 p, .int .u64 f] 103)) _).trans ht
                  obtain ⟨v8, rd8⟩ := show ∃ v8, Rd w9 g B v8 y1 from ⟨_, RD2.out.row OW2.out tt (by have := GL.out; have := HS2.out; omega)⟩
                  have RD9 := Lib.hid (show ∃ v8, Rd w9 g B v8 y1 from ⟨_, rd8⟩)
                  have FR9 := Lib.hid (fr_row FR2.out (own_lower OW2.out HS2.out) tt)
                  have SZ9 := Lib.hid (Nat.le_trans SZ2.out tt.fr.size)
                  have OV9 := Lib.hid (own_apart OV2.out tt (fun q e e2 => by have := (OW2.out.lt _ e).1; have := VB.out _ e2; omega))
                  have OW9 := Lib.hid hown
                  clear hown ht tt rd8
                  go_wp2
                  go_roundw
                  case rel => exact ⟨j + 1, acc ++ [⟨p, f⟩], y1, by go_num, by omega, Lib.hid (by rw [List.length_append, HAS.out]; rfl), Lib.hid (by rw [show N2 - (j + 1) = m by omega]; exact HS.out), OW9, RD9, HBY, FR9, OV9, SZ9⟩
                  case measure => simp [intOf]; omega
            · have hje : j = N2 := by omega
              have hr := HR.out
              rw [hje, Nat.sub_self] at hr
              have HF := Lib.hid (WS.out acc ys (hr.trans (by simp [rMany, pre])))
              clear hr
              go_wp2
              go_ret2
              unfold TabPost
              rw [HF.out]
              exact ⟨_, _, rfl, OV.out, own_lower OW.out HS2.out, RD.out, FR.out⟩
end Go.Proofs.Yteggcehjpfmikaa.Rec
