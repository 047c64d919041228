import Derived.Test.YtbbphfhkedldmaaRec7
/- A bare record is read back. -/
namespace Go.Proofs.Ytbbphfhkedldmaa.Rec
open Go.ChangeShapes Go.WideShapes Go.ChangeAt Go.RowKit Go.IntWalk Go.Proofs.NumMath Go.Proofs.Mem Go.Proofs.CrcMath NumBytes CrcA
set_option linter.unusedVariables false
set_option linter.unusedSimpArgs false
theorem u8_wrap {x : Int} (h0 : 0 ≤ x) (h1 : x ≤ 255) : IntKind.u8.wrap x = x := by rw [IntKind.wrap_u8]; omega
theorem u32_wrap {x : Int} (h0 : 0 ≤ x) (h1 : x ≤ 4294967295) : IntKind.u32.wrap x = x := by rw [IntKind.wrap_u32]; omega
theorem box_same {w : World} {g : Nat} {C : Array Value} {t : TypeId} (h : Box w g C t) (i : Nat) (u : Value) (hu : C[i]? = some u) : Box (w.setCell ⟨g, i, none⟩ u) g C t := by
  have e : C.setIfInBounds i u = C := by
    apply Array.ext_getElem?
    intro j
    rw [Array.getElem?_setIfInBounds]
    split
    · rename_i e
      subst e
      rw [if_pos (Array.getElem?_eq_some_iff.1 hu).1, hu]
    · rfl
  have := h.set_ i u
  rwa [e] at this
/-- the three blocks that decode makes -/
theorem made3 (w : World) (B : Nat) (hB : B ≤ w.heap.size) (v : Value) (xs : List Int) (hv : IR w B .u8 v xs) :
    Box (((w.alloc (.cells (bareC 0 0 0 0) 31)).alloc (.cells #[.bool false] 4)).alloc (.cells #[v] 80)) (w.heap.size) (bareC 0 0 0 0) 31 ∧
    Box (((w.alloc (.cells (bareC 0 0 0 0) 31)).alloc (.cells #[.bool false] 4)).alloc (.cells #[v] 80)) (w.heap.size + 1) #[.bool false] 4 ∧
    Rd (((w.alloc (.cells (bareC 0 0 0 0) 31)).alloc (.cells #[.bool false] 4)).alloc (.cells #[v] 80)) (w.heap.size + 1 + 1) B v xs := by
  have b1 := ((Box.new w (bareC 0 0 0 0) 31).alloc (.cells #[.bool false] 4)).alloc (.cells #[v] 80)
  have b2 := (Box.new (w.alloc (.cells (bareC 0 0 0 0) 31)) #[.bool false] 4).alloc (.cells #[v] 80)
  have b3 := Box.new ((w.alloc (.cells (bareC 0 0 0 0) 31)).alloc (.cells #[.bool false] 4)) #[v] 80
  rw [World.size_alloc] at b2
  rw [World.size_alloc, World.size_alloc] at b3
  exact ⟨b1, b2, b3, ((hv.alloc hB _).alloc (by simp; omega) _).alloc (by simp; omega) _, by omega⟩
set_option maxRecDepth 100000 in
set_option maxHeartbeats 16000000 in
theorem decode_bare (k t p n : Int) (hk : k = 1 ∨ (4 ≤ k ∧ k ≤ 7)) (ht : 0 ≤ t ∧ t ≤ 4294967295) (hp : 0 ≤ p ∧ p ≤ 18446744073709551615) (hn : 0 ≤ n ∧ n ≤ 18446744073709551615) (w : World) (B : Nat) (hB : B ≤ w.heap.size) (v : Value) (hv : IR w B .u8 v (bareB k t p n)) :
    Calls Try.prog 35 #[v] w fun e w' => e = .returned (.tuple #[.agg (bareC k t p n), .bool true]) ∧ Below w.heap.size w w' := by
  have hmf : ∀ (fn : Fn) (first cap : Array Value) (w : World), (Instr.makeFunc fn first cap).run Try.prog w = .ok (.func fn first cap) w := fun _ _ _ _ => rfl
  obtain ⟨A0, c0, hv0, hl0, hm0⟩ := hv.form
  obtain ⟨L0, hL0⟩ : ∃ L, L = (bareB k t p n).length := ⟨_, rfl⟩
  rw [← hL0] at hv0 hl0
  subst hv0
  clear hL0
  obtain ⟨C, hC⟩ : ∃ C, C = tn (sumF 0#32 (bodyB k t p n)) := ⟨_, rfl⟩
  have hCb := tn_bd (sumF 0#32 (bodyB k t p n))
  rw [← hC] at hCb
  have wC := u64_wrap (x := C) (by omega) (by omega)
  have wk := u8_wrap (x := k) (by omega) (by omega)
  have wt := u32_wrap (x := t) (by omega) (by omega)
  have dC : (C != C) = false := by simp
  have d8 : (k == 8) = false := by simp; omega
  have hk' : k = 1 ∨ (4 ≤ k ∧ k ≤ 8) := by omega
  have hbody : bodyB k t p n = putS k 1 ++ (putS t 4 ++ (putS p 8 ++ (putS n 8 ++ []))) := by simp [bodyB, List.append_assoc]
  have hbare : bareB k t p n = putS 27 2 ++ (putS C 4 ++ bodyB k t p n) := by simp [bareB, hC, List.append_assoc]
  have y4 : Bytes (putS n 8 ++ []) := (putS_bytes _ _).app Bytes.nil
  have y3 := (putS_bytes p 8).app y4
  have y2 := (putS_bytes t 4).app y3
  have y1 := bodyB_bytes k t p n
  have MB := fun W => Lib.hid (may_bare k t p n hk W)
  have CH := fun W => Lib.hid (changes_no k hk' W)
  have N1 := fun W g v (h : Rd W g B v (putS 27 2 ++ (putS C 4 ++ bodyB k t p n))) => Lib.hid (rnumber_put W g B v 27 2 2 rfl _ h ((putS_bytes C 4).app y1) (by decide) (by decide) (by decide))
  have N2 := fun W g v (h : Rd W g B v (putS C 4 ++ bodyB k t p n)) => Lib.hid (rnumber_put W g B v C 4 4 rfl _ h y1 (by decide) hCb.1 (by show C < 4294967296; omega))
  have N3 := fun W g v (h : Rd W g B v (putS k 1 ++ (putS t 4 ++ (putS p 8 ++ (putS n 8 ++ []))))) => Lib.hid (rnumber_put W g B v k 1 1 rfl _ h y2 (by decide) (by omega) (by show k < 256; omega))
  have N4 := fun W g v (h : Rd W g B v (putS t 4 ++ (putS p 8 ++ (putS n 8 ++ [])))) => Lib.hid (rnumber_put W g B v t 4 4 rfl _ h y3 (by decide) ht.1 (by show t < 4294967296; omega))
  have N5 := fun W g v (h : Rd W g B v (putS p 8 ++ (putS n 8 ++ []))) => Lib.hid (rnumber_put W g B v p 8 8 rfl _ h y4 (by decide) hp.1 (by show p < 18446744073709551616; omega))
  have N6 := fun W g v (h : Rd W g B v (putS n 8 ++ [])) => Lib.hid (rnumber_put W g B v n 8 8 rfl _ h Bytes.nil (by decide) hn.1 (by show n < 18446744073709551616; omega))
  have SU : ∀ (W : World) v (h : IR W W.heap.size .u8 v (bodyB k t p n)), Calls Try.prog 27 #[.slice (some ⟨W.heap.size, 0, none⟩) 1 1] (W.alloc (.cells #[v] 25)) fun e w' => e = .returned (.int .u32 C) ∧ W.alloc (.cells #[v] 25) = w' := fun W v h => by rw [hC]; exact sum_one v _ W h (bodyB_bytes k t p n)
  rw [hbare] at hv
  obtain ⟨mr, mk, mg⟩ := made3 w B hB _ _ hv
  have MR := Lib.hid mr
  have MK := Lib.hid mk
  have MG := Lib.hid mg
  have SU' := Lib.hid SU
  have HY := Lib.hid hbody
  clear SU hbare hbody hC hCb hk hk' ht hp hn hv mr mk mg y1 y2 y3 y4
  go_enter_defers Try.func35, Try.ntmps35
  go_wp2_with (first
    | (go_at_call 46; (with_reducible refine (N1 _ _ _ MG.out).out.mono ?_); rintro e w1 ⟨rfl, ⟨v1, rd1⟩, fr1⟩
       have RD1 := Lib.hid rd1
       have R1 := Lib.hid ((MR.out).fr fr1 (by omega))
       have K1 := Lib.hid ((MK.out).fr fr1 (by omega))
       have F1 := Lib.hid (((((Fr.refl (fun x => w.heap.size ≤ x) w).alloc _).alloc _).alloc _).trans' fr1 (fun x _ hx => by rw [hx]; omega))
       skip
       clear rd1 fr1)
    | (go_at_call 46; (with_reducible refine (N2 _ _ _ RD1.out).out.mono ?_); rintro e w2 ⟨rfl, ⟨v2, rd2⟩, fr2⟩
       have RD2 := Lib.hid rd2
       have R2 := Lib.hid ((R1.out).fr fr2 (by omega))
       have K2 := Lib.hid ((K1.out).fr fr2 (by omega))
       have F2 := Lib.hid (F1.out.trans' fr2 (fun x _ hx => by rw [hx]; omega))
       obtain ⟨A2, c2, rfl, hl2, hm2⟩ := RD2.out.ir.form
       have hm2' : c2 ≤ 9223372036854775807 := by unfold maxLen at hm2; omega
       have x2 : w2.cell? ⟨w.heap.size + 1 + 1, 0, none⟩ = some (.slice A2 (bodyB k t p n).length c2) := RD2.out.box.cell 0
       have S2 := Lib.hid (SU'.out w2 _ (RD2.out.ir.more (Nat.le_trans RD2.out.le (Nat.le_of_lt RD2.out.box.lt))))
       have rd2' := RD2.out.alloc (.cells #[.slice A2 (bodyB k t p n).length c2] 25)
       rw [show Rd (w2.alloc (.cells #[.slice A2 (bodyB k t p n).length c2] 25)) (w.heap.size + 1 + 1) B (.slice A2 (bodyB k t p n).length c2) (bodyB k t p n) = Rd (w2.alloc (.cells #[.slice A2 (bodyB k t p n).length c2] 25)) (w.heap.size + 1 + 1) B (.slice A2 (bodyB k t p n).length c2) (putS k 1 ++ (putS t 4 ++ (putS p 8 ++ (putS n 8 ++ [])))) by rw [← HY.out]] at rd2'
       have RD2' := Lib.hid rd2'
       clear rd2'
       clear rd2 fr2)
    | (go_at_call 27; (with_reducible refine S2.out.mono ?_); rintro e w22 ⟨rfl, rfl⟩)
    | (go_at_call 46; (with_reducible refine (N3 _ _ _ RD2'.out).out.mono ?_); rintro e w3 ⟨rfl, ⟨v3, rd3⟩, fr3⟩
       have RD3 := Lib.hid rd3
       have R3 := Lib.hid ((R2.out.alloc _).fr fr3 (by omega))
       have K3 := Lib.hid ((K2.out.alloc _).fr fr3 (by omega))
       have F3 := Lib.hid ((F2.out.alloc _).trans' fr3 (fun x _ hx => by rw [hx]; omega))
       have x3 := R3.out.cell 0
       have y3 := R3.out.frozen 0
       simp only [List.getElem?_toArray, List.getElem?_cons_zero, List.getElem?_cons_succ, List.setIfInBounds_toArray, List.set_cons_zero, List.set_cons_succ] at x3
       clear rd3 fr3)
    | (go_at_call 46; (with_reducible refine (N4 _ _ _ (RD3.out.set (p := ⟨w.heap.size, 0, none⟩) (by simp; omega) hB (.int .u8 k))).out.mono ?_); rintro e w4 ⟨rfl, ⟨v4, rd4⟩, fr4⟩
       have RD4 := Lib.hid rd4
       have R4 := Lib.hid ((R3.out.set_ 0 (.int .u8 k)).fr fr4 (by omega))
       have K4 := Lib.hid ((K3.out.far (p := ⟨w.heap.size, 0, none⟩) (by simp) (.int .u8 k)).fr fr4 (by omega))
       have F4 := Lib.hid ((F3.out.setCell (p := ⟨w.heap.size, 0, none⟩) (.inl (Nat.le_refl _)) _).trans' fr4 (fun x _ hx => by rw [hx]; omega))
       have x4 := R4.out.cell 1
       have y4 := R4.out.frozen 1
       simp only [List.getElem?_toArray, List.getElem?_cons_zero, List.getElem?_cons_succ, List.setIfInBounds_toArray, List.set_cons_zero, List.set_cons_succ] at x4
       clear rd4 fr4)
    | (go_at_call 46; (with_reducible refine (N5 _ _ _ (RD4.out.set (p := ⟨w.heap.size, 1, none⟩) (by simp; omega) hB (.int .u32 t))).out.mono ?_); rintro e w5 ⟨rfl, ⟨v5, rd5⟩, fr5⟩
       have RD5 := Lib.hid rd5
       have R5 := Lib.hid ((R4.out.set_ 1 (.int .u32 t)).fr fr5 (by omega))
       have K5 := Lib.hid ((K4.out.far (p := ⟨w.heap.size, 1, none⟩) (by simp) (.int .u32 t)).fr fr5 (by omega))
       have F5 := Lib.hid ((F4.out.setCell (p := ⟨w.heap.size, 1, none⟩) (.inl (Nat.le_refl _)) _).trans' fr5 (fun x _ hx => by rw [hx]; omega))
       have x5 := R5.out.cell 2
       have y5 := R5.out.frozen 2
       simp only [List.getElem?_toArray, List.getElem?_cons_zero, List.getElem?_cons_succ, List.setIfInBounds_toArray, List.set_cons_zero, List.set_cons_succ] at x5
       clear rd5 fr5)
    | (go_at_call 46; (with_reducible refine (N6 _ _ _ (RD5.out.set (p := ⟨w.heap.size, 2, none⟩) (by simp; omega) hB (.int .u64 p))).out.mono ?_); rintro e w6 ⟨rfl, ⟨v6, rd6⟩, fr6⟩
       have RD6 := Lib.hid rd6
       have R6 := Lib.hid ((R5.out.set_ 2 (.int .u64 p)).fr fr6 (by omega))
       have K6 := Lib.hid ((K5.out.far (p := ⟨w.heap.size, 2, none⟩) (by simp) (.int .u64 p)).fr fr6 (by omega))
       have F6 := Lib.hid ((F5.out.setCell (p := ⟨w.heap.size, 2, none⟩) (.inl (Nat.le_refl _)) _).trans' fr6 (fun x _ hx => by rw [hx]; omega))
       have x6 := R6.out.cell 3
       have y6 := R6.out.frozen 3
       simp only [List.getElem?_toArray, List.getElem?_cons_zero, List.getElem?_cons_succ, List.setIfInBounds_toArray, List.set_cons_zero, List.set_cons_succ] at x6
       have a6_0 : w6.cell? ⟨w.heap.size, 0, none⟩ = some (.int .u8 k) := R6.out.cell 0
       have a6_1 : w6.cell? ⟨w.heap.size, 1, none⟩ = some (.int .u32 t) := R6.out.cell 1
       have a6_2 : w6.cell? ⟨w.heap.size, 2, none⟩ = some (.int .u64 p) := R6.out.cell 2
       have a6_4 : w6.cell? ⟨w.heap.size, 4, none⟩ = some (.int .u32 0) := R6.out.cell 4
       have a6_5 : w6.cell? ⟨w.heap.size, 5, none⟩ = some (.int .u16 0) := R6.out.cell 5
       have a6_6 : w6.cell? ⟨w.heap.size, 6, none⟩ = some (.bool false) := R6.out.cell 6
       have a6_7 : w6.cell? ⟨w.heap.size, 7, none⟩ = some (.bool false) := R6.out.cell 7
       have a6_8 : w6.cell? ⟨w.heap.size, 8, none⟩ = some (.slice none 0 0) := R6.out.cell 8
       have a6_9 : w6.cell? ⟨w.heap.size, 9, none⟩ = some (.slice none 0 0) := R6.out.cell 9
       have a6_10 : w6.cell? ⟨w.heap.size, 10, none⟩ = some (.slice none 0 0) := R6.out.cell 10
       have a6_11 : w6.cell? ⟨w.heap.size, 11, none⟩ = some (.slice none 0 0) := R6.out.cell 11
       obtain ⟨A6, c6, rfl, hl6, hm6⟩ := RD6.out.ir.form
       have g6 : w6.cell? ⟨w.heap.size + 1 + 1, 0, none⟩ = some (.slice A6 0 c6) := RD6.out.box.cell 0
       have R7 : Hid (Box (w6.setCell ⟨w.heap.size, 3, none⟩ (.int .u64 n)) w.heap.size (bareC k t p n) 31) := Lib.hid (R6.out.set_ 3 (.int .u64 n))
       have K7 := Lib.hid (K6.out.far (p := ⟨w.heap.size, 3, none⟩) (by simp) (.int .u64 n))
       have F7 := Lib.hid (F6.out.setCell (p := ⟨w.heap.size, 3, none⟩) (.inl (Nat.le_refl _)) (.int .u64 n))
       clear rd6 fr6)
    | (go_at_call 23; (with_reducible refine (CH _).out.mono ?_); rintro e w7 ⟨rfl, rfl⟩)
    | (go_at_call 21; (with_reducible refine (MB _).out.mono ?_); rintro e w8 ⟨rfl, hb8⟩
       have R8 := Lib.hid (R7.out.later hb8)
       have K8 := Lib.hid (K7.out.later hb8)
       have F8 := Lib.hid (F7.out.trans (.of_below hb8))
       have a8_0 : w8.cell? ⟨w.heap.size, 0, none⟩ = some (.int .u8 k) := R8.out.cell 0
       have f8_0 := R8.out.frozen 0
       have a8_1 : w8.cell? ⟨w.heap.size, 1, none⟩ = some (.int .u32 t) := R8.out.cell 1
       have f8_1 := R8.out.frozen 1
       have a8_2 : w8.cell? ⟨w.heap.size, 2, none⟩ = some (.int .u64 p) := R8.out.cell 2
       have f8_2 := R8.out.frozen 2
       have a8_3 : w8.cell? ⟨w.heap.size, 3, none⟩ = some (.int .u64 n) := R8.out.cell 3
       have f8_3 := R8.out.frozen 3
       have a8_4 : w8.cell? ⟨w.heap.size, 4, none⟩ = some (.int .u32 0) := R8.out.cell 4
       have f8_4 := R8.out.frozen 4
       have a8_5 : w8.cell? ⟨w.heap.size, 5, none⟩ = some (.int .u16 0) := R8.out.cell 5
       have f8_5 := R8.out.frozen 5
       have a8_6 : w8.cell? ⟨w.heap.size, 6, none⟩ = some (.bool false) := R8.out.cell 6
       have f8_6 := R8.out.frozen 6
       have a8_7 : w8.cell? ⟨w.heap.size, 7, none⟩ = some (.bool false) := R8.out.cell 7
       have f8_7 := R8.out.frozen 7
       have a8_8 : w8.cell? ⟨w.heap.size, 8, none⟩ = some (.slice none 0 0) := R8.out.cell 8
       have f8_8 := R8.out.frozen 8
       have a8_9 : w8.cell? ⟨w.heap.size, 9, none⟩ = some (.slice none 0 0) := R8.out.cell 9
       have f8_9 := R8.out.frozen 9
       have a8_10 : w8.cell? ⟨w.heap.size, 10, none⟩ = some (.slice none 0 0) := R8.out.cell 10
       have f8_10 := R8.out.frozen 10
       have a8_11 : w8.cell? ⟨w.heap.size, 11, none⟩ = some (.slice none 0 0) := R8.out.cell 11
       have f8_11 := R8.out.frozen 11
       have a8k : w8.cell? ⟨w.heap.size + 1, 0, none⟩ = some (.bool false) := K8.out.cell 0
       have f8k := K8.out.frozen 0
       clear hb8))
  generalize hW : (World.setCell _ (⟨w.heap.size + 1, 0, none⟩ : Addr) _) = W9
  have hb9 : Box W9 w.heap.size (bareC k t p n) 31 := by rw [← hW]; exact Box.far (box_same (box_same (box_same (box_same (box_same (box_same (box_same (box_same (box_same (box_same (box_same (box_same (R8.out) 0 (.int .u8 k) rfl) 1 (.int .u32 t) rfl) 2 (.int .u64 p) rfl) 3 (.int .u64 n) rfl) 4 (.int .u32 0) rfl) 5 (.int .u16 0) rfl) 6 (.bool false) rfl) 7 (.bool false) rfl) 8 (.slice none 0 0) rfl) 9 (.slice none 0 0) rfl) 10 (.slice none 0 0) rfl) 11 (.slice none 0 0) rfl) (p := ⟨w.heap.size + 1, 0, none⟩) (Nat.ne_of_lt (Nat.lt_succ_self _)) (.bool true)
  have hk9 : Box W9 (w.heap.size + 1) #[.bool true] 4 := by rw [← hW]; exact Box.set_ (Box.far (Box.far (Box.far (Box.far (Box.far (Box.far (Box.far (Box.far (Box.far (Box.far (Box.far (Box.far (K8.out) (p := ⟨w.heap.size, 0, none⟩) (Nat.ne_of_gt (Nat.lt_succ_self _)) (.int .u8 k)) (p := ⟨w.heap.size, 1, none⟩) (Nat.ne_of_gt (Nat.lt_succ_self _)) (.int .u32 t)) (p := ⟨w.heap.size, 2, none⟩) (Nat.ne_of_gt (Nat.lt_succ_self _)) (.int .u64 p)) (p := ⟨w.heap.size, 3, none⟩) (Nat.ne_of_gt (Nat.lt_succ_self _)) (.int .u64 n)) (p := ⟨w.heap.size, 4, none⟩) (Nat.ne_of_gt (Nat.lt_succ_self _)) (.int .u32 0)) (p := ⟨w.heap.size, 5, none⟩) (Nat.ne_of_gt (Nat.lt_succ_self _)) (.int .u16 0)) (p := ⟨w.heap.size, 6, none⟩) (Nat.ne_of_gt (Nat.lt_succ_self _)) (.bool false)) (p := ⟨w.heap.size, 7, none⟩) (Nat.ne_of_gt (Nat.lt_succ_self _)) (.bool false)) (p := ⟨w.heap.size, 8, none⟩) (Nat.ne_of_gt (Nat.lt_succ_self _)) (.slice none 0 0)) (p := ⟨w.heap.size, 9, none⟩) (Nat.ne_of_gt (Nat.lt_succ_self _)) (.slice none 0 0)) (p := ⟨w.heap.size, 10, none⟩) (Nat.ne_of_gt (Nat.lt_succ_self _)) (.slice none 0 0)) (p := ⟨w.heap.size, 11, none⟩) (Nat.ne_of_gt (Nat.lt_succ_self _)) (.slice none 0 0)) 0 (.bool true)
  have hf9 : Fr (fun x => w.heap.size ≤ x) w W9 := by rw [← hW]; exact Fr.setCell (Fr.setCell (Fr.setCell (Fr.setCell (Fr.setCell (Fr.setCell (Fr.setCell (Fr.setCell (Fr.setCell (Fr.setCell (Fr.setCell (Fr.setCell (Fr.setCell (F8.out) (p := ⟨w.heap.size, 0, none⟩) (.inl (Nat.le_refl _)) (.int .u8 k)) (p := ⟨w.heap.size, 1, none⟩) (.inl (Nat.le_refl _)) (.int .u32 t)) (p := ⟨w.heap.size, 2, none⟩) (.inl (Nat.le_refl _)) (.int .u64 p)) (p := ⟨w.heap.size, 3, none⟩) (.inl (Nat.le_refl _)) (.int .u64 n)) (p := ⟨w.heap.size, 4, none⟩) (.inl (Nat.le_refl _)) (.int .u32 0)) (p := ⟨w.heap.size, 5, none⟩) (.inl (Nat.le_refl _)) (.int .u16 0)) (p := ⟨w.heap.size, 6, none⟩) (.inl (Nat.le_refl _)) (.bool false)) (p := ⟨w.heap.size, 7, none⟩) (.inl (Nat.le_refl _)) (.bool false)) (p := ⟨w.heap.size, 8, none⟩) (.inl (Nat.le_refl _)) (.slice none 0 0)) (p := ⟨w.heap.size, 9, none⟩) (.inl (Nat.le_refl _)) (.slice none 0 0)) (p := ⟨w.heap.size, 10, none⟩) (.inl (Nat.le_refl _)) (.slice none 0 0)) (p := ⟨w.heap.size, 11, none⟩) (.inl (Nat.le_refl _)) (.slice none 0 0)) (p := ⟨w.heap.size + 1, 0, none⟩) (.inl (Nat.le_succ _)) (.bool true)
  clear hW
  have HB9 := Lib.hid hf9
  refine leaves_cons (f := 45) (args := #[.pointer (some ⟨w.heap.size, 0, none⟩), .pointer (some ⟨w.heap.size + 1, 0, none⟩)]) (by simp) (by simp [go_sem]) ?_
  refine (catch_none w.heap.size (w.heap.size + 1) _).mono ?_
  rintro en u' w'' ⟨rfl, rfl, rfl⟩
  have b9_0 : W9.cell? ⟨w.heap.size, 0, none⟩ = some (.int .u8 k) := hb9.cell 0
  have b9_1 : W9.cell? ⟨w.heap.size, 1, none⟩ = some (.int .u32 t) := hb9.cell 1
  have b9_2 : W9.cell? ⟨w.heap.size, 2, none⟩ = some (.int .u64 p) := hb9.cell 2
  have b9_3 : W9.cell? ⟨w.heap.size, 3, none⟩ = some (.int .u64 n) := hb9.cell 3
  have b9_4 : W9.cell? ⟨w.heap.size, 4, none⟩ = some (.int .u32 0) := hb9.cell 4
  have b9_5 : W9.cell? ⟨w.heap.size, 5, none⟩ = some (.int .u16 0) := hb9.cell 5
  have b9_6 : W9.cell? ⟨w.heap.size, 6, none⟩ = some (.bool false) := hb9.cell 6
  have b9_7 : W9.cell? ⟨w.heap.size, 7, none⟩ = some (.bool false) := hb9.cell 7
  have b9_8 : W9.cell? ⟨w.heap.size, 8, none⟩ = some (.slice none 0 0) := hb9.cell 8
  have b9_9 : W9.cell? ⟨w.heap.size, 9, none⟩ = some (.slice none 0 0) := hb9.cell 9
  have b9_10 : W9.cell? ⟨w.heap.size, 10, none⟩ = some (.slice none 0 0) := hb9.cell 10
  have b9_11 : W9.cell? ⟨w.heap.size, 11, none⟩ = some (.slice none 0 0) := hb9.cell 11
  have b9_k : W9.cell? ⟨w.heap.size + 1, 0, none⟩ = some (.bool true) := hk9.cell 0
  refine ⟨.tuple #[.agg (bareC k t p n), .bool true], ?_, rfl, ?_⟩
  · simp [results, Try.results35, go_sem, b9_0, b9_1, b9_2, b9_3, b9_4, b9_5, b9_6, b9_7, b9_8, b9_9, b9_10, b9_11, b9_k, bareC]
  · exact HB9.out.to_below (fun x hx => hx) (Nat.le_refl _)
end Go.Proofs.Ytbbphfhkedldmaa.Rec
