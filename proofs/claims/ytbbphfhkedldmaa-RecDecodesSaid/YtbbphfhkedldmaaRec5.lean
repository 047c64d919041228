import Derived.Test.YtbbphfhkedldmaaRec4
/- A record without a change and without lists, as bytes. -/
namespace Go.Proofs.Ytbbphfhkedldmaa.Rec
open Go.ChangeShapes Go.WideShapes Go.ChangeAt Go.RowKit Go.IntWalk Go.Proofs.NumMath Go.Proofs.Mem Go.Proofs.CrcMath NumBytes CrcA
set_option linter.unusedVariables false
set_option linter.unusedSimpArgs false
/-- the bytes behind LENGTH and SUM -/
def bodyB (k t p n : Int) : List Int := putS k 1 ++ putS t 4 ++ putS p 8 ++ putS n 8
theorem bodyB_len (k t p n : Int) : (bodyB k t p n).length = 21 := by simp [bodyB, putS_len]
theorem bodyB_bytes (k t p n : Int) : Bytes (bodyB k t p n) := (((putS_bytes _ _).app (putS_bytes _ _)).app (putS_bytes _ _)).app (putS_bytes _ _)
def bareB (k t p n : Int) : List Int := putS 27 2 ++ putS (tn (sumF 0#32 (bodyB k t p n))) 4 ++ bodyB k t p n
theorem bareB_len (k t p n : Int) : (bareB k t p n).length = 27 := by simp [bareB, putS_len, bodyB_len]
theorem bareB_bytes (k t p n : Int) : Bytes (bareB k t p n) := ((putS_bytes _ _).app (putS_bytes _ _)).app (bodyB_bytes _ _ _ _)
theorem u64_wrap {x : Int} (h0 : 0 ≤ x) (h1 : x ≤ 18446744073709551615) : IntKind.u64.wrap x = x := by rw [NumMath.wrap_u64]; omega
theorem Wr.ir {w : World} {g : Nat} {v : Value} {xs : List Int} (h : Wr w g v xs) : IR w w.heap.size .u8 v xs := IR.of_own h.own
set_option maxRecDepth 100000 in
set_option maxHeartbeats 16000000 in
theorem encode_bare (k t p n : Int) (hk : k = 1 ∨ (4 ≤ k ∧ k ≤ 7)) (ht : 0 ≤ t ∧ t ≤ 4294967295) (hp : 0 ≤ p ∧ p ≤ 18446744073709551615) (hn : 0 ≤ n ∧ n ≤ 18446744073709551615) (w : World) :
    Calls Try.prog 12 #[.agg (bareC k t p n)] w fun e w' => ∃ u, e = .returned (.tuple #[u, .int .u16 0]) ∧ w'.ownsRow w.heap.size 5 1 u 27 ((bareB k t p n).map (.int .u8)) ∧ Below w.heap.size w w' := by
  have d3 : (k == 8) = false := by simp; omega
  have wk := u64_wrap (x := k) (by omega) (by omega)
  have wt := u64_wrap (x := t) (by omega) (by omega)
  have hk' : k = 1 ∨ (4 ≤ k ∧ k ≤ 8) := by omega
  have hkb : 0 ≤ k ∧ k ≤ 18446744073709551615 := by omega
  have htb : 0 ≤ t ∧ t ≤ 18446744073709551615 := by omega
  have MB := fun W => Lib.hid (may_bare k t p n hk W)
  have CH := fun W => Lib.hid (changes_no k hk' W)
  have N1 := fun W g v xs (h : Wr W g v xs) (hl : xs.length ≤ 100000) => Lib.hid (number_any W g v xs h hl k 1 hkb.1 hkb.2 (by decide) (by decide))
  have N2 := fun W g v xs (h : Wr W g v xs) (hl : xs.length ≤ 100000) => Lib.hid (number_any W g v xs h hl t 4 htb.1 htb.2 (by decide) (by decide))
  have N3 := fun W g v xs (h : Wr W g v xs) (hl : xs.length ≤ 100000) => Lib.hid (number_any W g v xs h hl p 8 hp.1 hp.2 (by decide) (by decide))
  have N4 := fun W g v xs (h : Wr W g v xs) (hl : xs.length ≤ 100000) => Lib.hid (number_any W g v xs h hl n 8 hn.1 hn.2 (by decide) (by decide))
  obtain ⟨C, hC⟩ : ∃ C, C = tn (sumF 0#32 (bodyB k t p n)) := ⟨_, rfl⟩
  have hCb := tn_bd (sumF 0#32 (bodyB k t p n))
  rw [← hC] at hCb
  have wC := u64_wrap (x := C) (by omega) (by omega)
  have PA := fun W => Lib.hid (by have h := put_any 27 2 (by decide) (by decide) (by decide) (by decide) W; rw [show (2 : Int).toNat = 2 from rfl] at h; exact h)
  have PB := fun W => Lib.hid (by have h := put_any C 4 (by omega) (by omega) (by decide) (by decide) W; rw [show (4 : Int).toNat = 4 from rfl] at h; exact h)
  have SU : ∀ (W : World) v (h : IR W W.heap.size .u8 v (bodyB k t p n)), Calls Try.prog 27 #[.slice (some ⟨W.heap.size, 0, none⟩) 1 1] (W.alloc (.cells #[v] 25)) fun e w' => e = .returned (.int .u32 C) ∧ W.alloc (.cells #[v] 25) = w' := fun W v h => by rw [hC]; exact sum_one v _ W h (bodyB_bytes k t p n)
  have CO : ∀ (W : World) a b c (ha : IR W W.heap.size .u8 a (putS 27 2)) (hb : IR W W.heap.size .u8 b (putS C 4)) (hc : IR W W.heap.size .u8 c (bodyB k t p n)),
      Calls Try.prog 28 #[.slice (some ⟨W.heap.size, 0, none⟩) 3 3] (W.alloc (.cells #[a, b, c] 52)) fun e w' => ∃ u, e = .returned u ∧ w'.ownsRow (W.heap.size + 1) 5 1 u 27 ((bareB k t p n).map (.int .u8)) ∧ Below W.heap.size W w' := fun W a b c ha hb hc => by
    have hf : flat [(a, putS 27 2), (b, putS C 4), (c, bodyB k t p n)] = bareB k t p n := by simp [flat, bareB, hC]
    have h := concat_any _ _ _ _ (SR.lit W [(a, putS 27 2), (b, putS C 4), (c, bodyB k t p n)] 52 W.heap.size W.heap.size rfl (Nat.le_refl _) (by simp) (by
      intro q hq
      simp only [List.mem_cons, List.not_mem_nil, or_false] at hq
      rcases hq with rfl | rfl | rfl
      · exact ⟨ha, putS_bytes _ _⟩
      · exact ⟨hb, putS_bytes _ _⟩
      · exact ⟨hc, bodyB_bytes _ _ _ _⟩)) (by simp) (by rw [hf, bareB_len]; decide) (by rw [hf, bareB_len]; decide)
    rw [hf, bareB_len] at h
    refine h.mono ?_
    rintro e w' ⟨u, rfl, h1, h2⟩
    refine ⟨u, rfl, by simpa using h1, (new_ (Below.refl W.heap.size W) _).trans (h2.mono (by simp))⟩
  have CO := Lib.hid CO
  have SU := Lib.hid SU
  clear hC hk hk' hkb htb ht hp hn hCb
  have bx := Box.new w (bareC k t p n) 31
  have BX := Lib.hid bx
  clear bx
  go_enter Try.func12, Try.ntmps12
  go_wp2_with (first
    | (go_at_call 21; (with_reducible refine (MB _).out.mono ?_); rintro e w1 ⟨rfl, hb1⟩
       have B1 := Lib.hid ((BX.out.later hb1).alloc (.cells #[.slice none 0 0] 52))
       have HB1 := Lib.hid (new_ (step_ (new_ (Below.refl w.heap.size w) (.cells (bareC k t p n) 31)) hb1) (.cells #[.slice none 0 0] 52))
       have W1 : Wr (w1.alloc (.cells #[.slice none 0 0] 52)) w1.heap.size (.slice none 0 0) [] := ⟨Box.new _ _ _, World.ownsRow_nil _ _ _ _, by simp⟩
       have L1 : w.heap.size < w1.heap.size := (BX.out.later hb1).lt
       have x1 : (w1.alloc (.cells #[.slice none 0 0] 52)).cell? ⟨w.heap.size, 0, none⟩ = some (.int .u8 k) := B1.out.cell 0
       clear hb1)
    | (go_at_call 22; (with_reducible refine (N1 _ _ _ _ W1 (by simp [putS_len])).out.mono ?_); rintro e w2 ⟨rfl, v2, wr2, hb2⟩
       have B2 := Lib.hid (B1.out.below hb2 L1)
       have HB2 := Lib.hid (HB1.out.trans (hb2.mono (Nat.le_of_lt L1)))
       have W2 := wr2
       have x2 : w2.cell? ⟨w.heap.size, 1, none⟩ = some (.int .u32 t) := B2.out.cell 1
       clear wr2 hb2)
    | (go_at_call 22; (with_reducible refine (N2 _ _ _ _ W2 (by simp [putS_len])).out.mono ?_); rintro e w3 ⟨rfl, v3, wr3, hb3⟩
       have B3 := Lib.hid (B2.out.below hb3 L1)
       have HB3 := Lib.hid (HB2.out.trans (hb3.mono (Nat.le_of_lt L1)))
       have W3 := wr3
       have x3 : w3.cell? ⟨w.heap.size, 2, none⟩ = some (.int .u64 p) := B3.out.cell 2
       clear wr3 hb3)
    | (go_at_call 22; (with_reducible refine (N3 _ _ _ _ W3 (by simp [putS_len])).out.mono ?_); rintro e w4 ⟨rfl, v4, wr4, hb4⟩
       have B4 := Lib.hid (B3.out.below hb4 L1)
       have HB4 := Lib.hid (HB3.out.trans (hb4.mono (Nat.le_of_lt L1)))
       have W4 := wr4
       have x4 : w4.cell? ⟨w.heap.size, 3, none⟩ = some (.int .u64 n) := B4.out.cell 3
       clear wr4 hb4)
    | (go_at_call 22; (with_reducible refine (N4 _ _ _ _ W4 (by simp [putS_len])).out.mono ?_); rintro e w5 ⟨rfl, v5, wr5, hb5⟩
       have B5 := Lib.hid (B4.out.below hb5 L1)
       have HB5 := Lib.hid (HB4.out.trans (hb5.mono (Nat.le_of_lt L1)))
       have W5 := wr5
       have x5 : w5.cell? ⟨w.heap.size, 0, none⟩ = some (.int .u8 k) := B5.out.cell 0
       have W6 : Wr w5 w1.heap.size v5 (bodyB k t p n) := W5
       obtain ⟨A5, c5, rfl, hl5, hm5⟩ := W6.ir.form
       rw [bodyB_len] at hl5
       have hm5' : c5 ≤ 9223372036854775807 := by unfold maxLen at hm5; omega
       have z5 : w5.cell? ⟨w1.heap.size, 0, none⟩ = some (.slice A5 21 c5) := by have := W6.box.cell 0; rw [bodyB_len] at this; exact this
       clear wr5 hb5)
    | (go_at_call 23; (with_reducible refine (CH _).out.mono ?_); rintro e w6 ⟨rfl, rfl⟩)
    | (go_at_call 26; (with_reducible refine (PA _).out.mono ?_); rintro e w7 ⟨v7, rfl, hp7, hb7⟩
       obtain ⟨A7, c7, rfl, hl7, hm7⟩ := (IR.of_own hp7).form
       rw [putS_len] at hl7
       have O7 := Lib.hid hp7
       have B7 := Lib.hid (B5.out.later hb7)
       have W7 : Wr w7 w1.heap.size (.slice A5 21 c5) (bodyB k t p n) := by have := W6.later hb7; rwa [bodyB_len] at this
       have HB7 := Lib.hid (step_ HB5.out hb7)
       have z7 : w7.cell? ⟨w1.heap.size, 0, none⟩ = some (.slice A5 21 c5) := W7.box.cell 0
       have S7 := Lib.hid (SU.out w7 (.slice A5 21 c5) W7.ir)
       clear hp7 hb7)
    | (go_at_call 27; (with_reducible refine S7.out.mono ?_); rintro e w8 ⟨rfl, rfl⟩)
    | (go_at_call 26; (with_reducible refine (PB _).out.mono ?_); rintro e w9 ⟨v9, rfl, hp9, hb9⟩
       obtain ⟨A9, c9, rfl, hl9, hm9⟩ := (IR.of_own hp9).form
       rw [putS_len] at hl9
       have hb9' : Below w7.heap.size w7 w9 := (new_ (Below.refl w7.heap.size w7) (.cells #[.slice A5 21 c5] 25)).trans (hb9.mono (by simp))
       have W9 : Wr w9 w1.heap.size (.slice A5 21 c5) (bodyB k t p n) := W7.later hb9'
       have O9 := Lib.hid (own_below O7.out hb9')
       have HB9 := Lib.hid (step_ HB7.out hb9')
       have z9 : w9.cell? ⟨w1.heap.size, 0, none⟩ = some (.slice A5 21 c5) := W9.box.cell 0
       have CC := Lib.hid (CO.out w9 _ _ _ (IR.of_own O9.out) (IR.of_own hp9) W9.ir)
       clear hp9 hb9 hb9')
    | (go_at_call 28; (with_reducible refine CC.out.mono ?_); rintro e w10 ⟨u, rfl, hu, hb10⟩; have HU := Lib.hid hu; have HB10 := Lib.hid hb10; clear hu hb10))
  go_ret2
  exact ⟨_, rfl, own_lower HU.out (Nat.le_succ_of_le HB9.out.size), step_ HB9.out HB10.out⟩
end Go.Proofs.Ytbbphfhkedldmaa.Rec
