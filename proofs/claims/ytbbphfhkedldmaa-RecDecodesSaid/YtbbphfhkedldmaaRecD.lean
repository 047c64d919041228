import Derived.Test.YtbbphfhkedldmaaRecC
import Derived.Test.YtbbphfhkedldmaaEach9
/- The program's change turned. -/
namespace Go.Proofs.Ytbbphfhkedldmaa.Rec
open Go.ChangeShapes Go.WideShapes Go.ChangeAt Go.RowKit Go.IntWalk Go.Proofs.NumMath Go.Proofs.Mem Go.Proofs.CrcMath Go.Proofs.Each NumBytes CrcA
set_option linter.unusedVariables false
set_option linter.unusedSimpArgs false
/-- what is built: a change whose sides are owned rows -/
def Bld (h : Nat) (pg sl : Int) (has had : Bool) (xs ys : List Int) (v : Value) (W : World) : Prop := ∃ A3 l3 c3 A4 l4 c4, v = .agg (cgC pg sl has had (.slice A3 l3 c3) (.slice A4 l4 c4)) ∧ W.ownsRow (h + 1 + 1) 5 1 (.slice A3 l3 c3) ys.length (ys.map (.int .u8)) ∧ W.ownsRow (h + 1 + 1) 5 1 (.slice A4 l4 c4) xs.length (xs.map (.int .u8))
/-- what is laid -/
def Sto (h : Nat) (pg sl : Int) (has had : Bool) (xs ys : List Int) (W : World) : Prop := ∃ A3 l3 c3 A4 l4 c4, Box W (h + 1) (cgC pg sl has had (.slice A3 l3 c3) (.slice A4 l4 c4)) 27 ∧ W.ownsRow (h + 1 + 1) 5 1 (.slice A3 l3 c3) ys.length (ys.map (.int .u8)) ∧ W.ownsRow (h + 1 + 1) 5 1 (.slice A4 l4 c4) xs.length (xs.map (.int .u8))
theorem box_size {w : World} {g : Nat} {C C' : Array Value} {t : TypeId} (h : Box w g C t) (h' : Box w g C' t) : C'.size = C.size := by
  unfold Box at h h'
  rw [h] at h'
  have e := Option.some.inj h'
  injection e with e1 e2 e3
  rw [e1]
theorem arr6 {C : Array Value} (h : C.size = 6) : ∃ a b c d e f, C = #[a, b, c, d, e, f] := by
  obtain ⟨l⟩ := C
  match l, h with
  | [a, b, c, d, e, f], _ => exact ⟨a, b, c, d, e, f, rfl⟩
theorem own_fr {W W' : World} {base n g : Nat} {e : TypeId} {v : Value} {xs : List Value} (h : W.ownsRow base e 1 v n xs) (hf : Fr (fun x => x = g) W W') (hg : g < base) : W'.ownsRow base e 1 v n xs :=
  h.kept (row := some g) ⟨hf.os, hf.tape, hf.output, hf.size, fun k hk hne => hf.block k hk (fun e => hne (by rw [e]))⟩ (by
    cases e : v.ownBlock with
    | none => exact .inl rfl
    | some k =>
      refine .inr (fun e2 => ?_)
      injection e2 with e2
      have := (h.lt k e).1
      omega)
set_option maxRecDepth 100000 in
set_option maxHeartbeats 8000000 in
theorem turned_any (pg sl : Int) (had has : Bool) (a b : Value) (xs ys : List Int) (w : World) (B : Nat) (hB : B ≤ w.heap.size) (ha : IR w B .u8 a xs) (hb : IR w B .u8 b ys) (hx : xs.length ≤ 100000) (hy : ys.length ≤ 100000) :
    Calls Try.prog 18 #[.agg (cgC pg sl had has a b)] w fun e w' => ∃ u v, e = .returned (.agg (cgC pg sl has had u v)) ∧ w'.ownsRow (w.heap.size + 1 + 1) 5 1 u ys.length (ys.map (.int .u8)) ∧ w'.ownsRow (w.heap.size + 1 + 1) 5 1 v xs.length (xs.map (.int .u8)) ∧ Below w.heap.size w w' := by
  obtain ⟨A1, c1, rfl, hl1, hm1⟩ := ha.form
  obtain ⟨A2, c2, rfl, hl2, hm2⟩ := hb.form
  obtain ⟨L1, hL1⟩ : ∃ L, L = xs.length := ⟨_, rfl⟩
  obtain ⟨L2, hL2⟩ : ∃ L, L = ys.length := ⟨_, rfl⟩
  rw [← hL1] at ha hl1 ⊢
  rw [← hL2] at hb hl2 ⊢
  have HL1 := Lib.hid hL1
  have HL2 := Lib.hid hL2
  have R0 := Lib.hid ((Box.new w (cgC pg sl had has (.slice A1 L1 c1) (.slice A2 L2 c2)) 27).alloc (.cells (cgC 0 0 false false (.slice none 0 0) (.slice none 0 0)) 27))
  have z0 := Box.new (w.alloc (.cells (cgC pg sl had has (.slice A1 L1 c1) (.slice A2 L2 c2)) 27)) (cgC 0 0 false false (.slice none 0 0) (.slice none 0 0)) 27
  rw [World.size_alloc] at z0
  have Z0 := Lib.hid z0
  have HA := Lib.hid ((ha.alloc hB (.cells (cgC pg sl had has (.slice A1 L1 c1) (.slice A2 L2 c2)) 27)).alloc (by simp; omega) (.cells (cgC 0 0 false false (.slice none 0 0) (.slice none 0 0)) 27))
  have HB := Lib.hid ((hb.alloc hB (.cells (cgC pg sl had has (.slice A1 L1 c1) (.slice A2 L2 c2)) 27)).alloc (by simp; omega) (.cells (cgC 0 0 false false (.slice none 0 0) (.slice none 0 0)) 27))
  have HW := Lib.hid (new_ (new_ (Below.refl w.heap.size w) (.cells (cgC pg sl had has (.slice A1 L1 c1) (.slice A2 L2 c2)) 27)) (.cells (cgC 0 0 false false (.slice none 0 0) (.slice none 0 0)) 27))
  clear ha hb hL1 hL2 z0
  go_enter Try.func18, Try.ntmps18
  go_wp2_with fail
  obtain ⟨w0, hw0⟩ : ∃ w0, (w.alloc (.cells (cgC pg sl had has (.slice A1 L1 c1) (.slice A2 L2 c2)) 27)).alloc (.cells (cgC 0 0 false false (.slice none 0 0) (.slice none 0 0)) 27) = w0 := ⟨_, rfl⟩
  have hs0 : w0.heap.size = w.heap.size + 1 + 1 := by rw [← hw0]; simp
  have hw1 : (w.alloc (.cells (cgC pg sl had has (.slice A1 L1 c1) (.slice A2 L2 c2)) 27)).alloc (.cells #[.int .u32 0, .int .u16 0, .bool false, .bool false, .slice none 0 0, .slice none 0 0] 27) = w0 := hw0
  rw [hw0] at R0 Z0 HA HB HW
  rw [hw1]
  clear hw0 hw1
  refine wp_region_st (by kernel_rfl) (by kernel_rfl) (w.heap.size + 1) 6 27 15 [fun v _ => v = .pointer (some ⟨w.heap.size, 0, none⟩), fun v _ => v = .int .u32 pg, fun v _ => v = .pointer (some ⟨w.heap.size, 1, none⟩), fun v _ => v = .int .u16 sl, fun v _ => v = .pointer (some ⟨w.heap.size, 3, none⟩), fun v _ => v = .bool has, fun v _ => v = .pointer (some ⟨w.heap.size, 2, none⟩), fun v _ => v = .bool had, fun v _ => v = .pointer (some ⟨w.heap.size, 5, none⟩), fun v _ => v = .slice A2 L2 c2, fun v W => W.ownsRow (w.heap.size + 1 + 1) 5 1 v ys.length (ys.map (.int .u8)), fun v _ => v = .pointer (some ⟨w.heap.size, 4, none⟩), fun v _ => v = .slice A1 L1 c1, fun v W => W.ownsRow (w.heap.size + 1 + 1) 5 1 v xs.length (xs.map (.int .u8)), fun v W => Bld w.heap.size pg sl has had xs ys v W, fun _ W => Sto w.heap.size pg sl has had xs ys W] ⟨_, Z0.out, rfl⟩ ?_ ?_ (fun vals => ?_) (fun vals W hcg hall => ?_)
  · intro j v W W' hj hf h
    match j, hj, h with
    | 0, _, h => exact h
    | 1, _, h => exact h
    | 2, _, h => exact h
    | 3, _, h => exact h
    | 4, _, h => exact h
    | 5, _, h => exact h
    | 6, _, h => exact h
    | 7, _, h => exact h
    | 8, _, h => exact h
    | 9, _, h => exact h
    | 10, _, h => exact own_fr h hf (Nat.lt_succ_self _)
    | 11, _, h => exact h
    | 12, _, h => exact h
    | 13, _, h => exact own_fr h hf (Nat.lt_succ_self _)
    | 14, _, h => obtain ⟨A3, l3, c3, A4, l4, c4, h1, h2, h3⟩ := h; exact ⟨A3, l3, c3, A4, l4, c4, h1, own_fr h2 hf (Nat.lt_succ_self _), own_fr h3 hf (Nat.lt_succ_self _)⟩
    | 15, hj, _ => exact absurd rfl hj
    | _ + 16, _, _ => trivial
  · rintro v W W' hb ⟨A3, l3, c3, A4, l4, c4, h1, h2, h3⟩
    exact ⟨A3, l3, c3, A4, l4, c4, h1.later hb, own_below h2 hb, own_below h3 hb⟩
  · simp only [ObC, Act.put, List.setIfInBounds_toArray, List.set_cons_succ, List.set_cons_zero]
    refine ⟨?_, ?_, ?_, ?_, ?_, ?_, ?_, ?_, ?_, ?_, ?_, ?_, ?_, ?_, ?_, ?_, trivial⟩
    · intro W hcg hw
      obtain ⟨hfr, Cc, hbx, hcz⟩ := hcg
      have R := R0.out.fr hfr (by omega)
      clear hw hbx R
      refine step_plain rfl ?_
      go_simp
      exact ⟨Rg.of_below (Below.refl _ _), upd_same _ _ _⟩
    · intro W hcg hw
      obtain ⟨hfr, Cc, hbx, hcz⟩ := hcg
      have R := R0.out.fr hfr (by omega)
      have f0 : vals 0 = .pointer (some ⟨w.heap.size, 0, none⟩) := hw ⟨0, .data⟩ (by simp) rfl
      have x : W.cell? ⟨w.heap.size, 0, none⟩ = some (.int .u32 pg) := R.cell 0
      clear hw hbx R
      refine step_plain rfl ?_
      go_simp
      exact ⟨Rg.of_below (Below.refl _ _), upd_same _ _ _⟩
    · intro W hcg hw
      obtain ⟨hfr, Cc, hbx, hcz⟩ := hcg
      have R := R0.out.fr hfr (by omega)
      clear hw hbx R
      refine step_plain rfl ?_
      go_simp
      exact ⟨Rg.of_below (Below.refl _ _), upd_same _ _ _⟩
    · intro W hcg hw
      obtain ⟨hfr, Cc, hbx, hcz⟩ := hcg
      have R := R0.out.fr hfr (by omega)
      have f2 : vals 2 = .pointer (some ⟨w.heap.size, 1, none⟩) := hw ⟨2, .data⟩ (by simp) rfl
      have x : W.cell? ⟨w.heap.size, 1, none⟩ = some (.int .u16 sl) := R.cell 1
      clear hw hbx R
      refine step_plain rfl ?_
      go_simp
      exact ⟨Rg.of_below (Below.refl _ _), upd_same _ _ _⟩
    · intro W hcg hw
      obtain ⟨hfr, Cc, hbx, hcz⟩ := hcg
      have R := R0.out.fr hfr (by omega)
      clear hw hbx R
      refine step_plain rfl ?_
      go_simp
      exact ⟨Rg.of_below (Below.refl _ _), upd_same _ _ _⟩
    · intro W hcg hw
      obtain ⟨hfr, Cc, hbx, hcz⟩ := hcg
      have R := R0.out.fr hfr (by omega)
      have f4 : vals 4 = .pointer (some ⟨w.heap.size, 3, none⟩) := hw ⟨4, .data⟩ (by simp) rfl
      have x : W.cell? ⟨w.heap.size, 3, none⟩ = some (.bool has) := R.cell 3
      clear hw hbx R
      refine step_plain rfl ?_
      go_simp
      exact ⟨Rg.of_below (Below.refl _ _), upd_same _ _ _⟩
    · intro W hcg hw
      obtain ⟨hfr, Cc, hbx, hcz⟩ := hcg
      have R := R0.out.fr hfr (by omega)
      clear hw hbx R
      refine step_plain rfl ?_
      go_simp
      exact ⟨Rg.of_below (Below.refl _ _), upd_same _ _ _⟩
    · intro W hcg hw
      obtain ⟨hfr, Cc, hbx, hcz⟩ := hcg
      have R := R0.out.fr hfr (by omega)
      have f6 : vals 6 = .pointer (some ⟨w.heap.size, 2, none⟩) := hw ⟨6, .data⟩ (by simp) rfl
      have x : W.cell? ⟨w.heap.size, 2, none⟩ = some (.bool had) := R.cell 2
      clear hw hbx R
      refine step_plain rfl ?_
      go_simp
      exact ⟨Rg.of_below (Below.refl _ _), upd_same _ _ _⟩
    · intro W hcg hw
      obtain ⟨hfr, Cc, hbx, hcz⟩ := hcg
      have R := R0.out.fr hfr (by omega)
      clear hw hbx R
      refine step_plain rfl ?_
      go_simp
      exact ⟨Rg.of_below (Below.refl _ _), upd_same _ _ _⟩
    · intro W hcg hw
      obtain ⟨hfr, Cc, hbx, hcz⟩ := hcg
      have R := R0.out.fr hfr (by omega)
      have f8 : vals 8 = .pointer (some ⟨w.heap.size, 5, none⟩) := hw ⟨8, .data⟩ (by simp) rfl
      have x : W.cell? ⟨w.heap.size, 5, none⟩ = some (.slice A2 L2 c2) := R.cell 5
      clear hw hbx R
      refine step_plain rfl ?_
      go_simp
      exact ⟨Rg.of_below (Below.refl _ _), upd_same _ _ _⟩
    · intro W hcg hw
      obtain ⟨hfr, Cc, hbx, hcz⟩ := hcg
      have R := R0.out.fr hfr (by omega)
      have f9 : vals 9 = .slice A2 L2 c2 := hw ⟨9, .data⟩ (by simp) rfl
      have hi := HB.out.below (hfr.to_below (B := B) (fun x hx => by omega) (by omega))
      have hz := hfr.size
      clear hw hbx R
      refine step_plain rfl ?_
      go_simp
      (with_reducible refine (clone_any _ ys W B hi (by omega) hy).mono ?_)
      rintro e w1 ⟨u, rfl, hu, hb1⟩
      first | exact ⟨_, rfl, Rg.of_below hb1, by simp only [upd_same]; exact own_lower hu (by omega)⟩ | exact ⟨Rg.of_below hb1, by simp only [upd_same]; exact own_lower hu (by omega)⟩
    · intro W hcg hw
      obtain ⟨hfr, Cc, hbx, hcz⟩ := hcg
      have R := R0.out.fr hfr (by omega)
      clear hw hbx R
      refine step_plain rfl ?_
      go_simp
      exact ⟨Rg.of_below (Below.refl _ _), upd_same _ _ _⟩
    · intro W hcg hw
      obtain ⟨hfr, Cc, hbx, hcz⟩ := hcg
      have R := R0.out.fr hfr (by omega)
      have f11 : vals 11 = .pointer (some ⟨w.heap.size, 4, none⟩) := hw ⟨11, .data⟩ (by simp) rfl
      have x : W.cell? ⟨w.heap.size, 4, none⟩ = some (.slice A1 L1 c1) := R.cell 4
      clear hw hbx R
      refine step_plain rfl ?_
      go_simp
      exact ⟨Rg.of_below (Below.refl _ _), upd_same _ _ _⟩
    · intro W hcg hw
      obtain ⟨hfr, Cc, hbx, hcz⟩ := hcg
      have R := R0.out.fr hfr (by omega)
      have f12 : vals 12 = .slice A1 L1 c1 := hw ⟨12, .data⟩ (by simp) rfl
      have hi := HA.out.below (hfr.to_below (B := B) (fun x hx => by omega) (by omega))
      have hz := hfr.size
      clear hw hbx R
      refine step_plain rfl ?_
      go_simp
      (with_reducible refine (clone_any _ xs W B hi (by omega) hx).mono ?_)
      rintro e w1 ⟨u, rfl, hu, hb1⟩
      first | exact ⟨_, rfl, Rg.of_below hb1, by simp only [upd_same]; exact own_lower hu (by omega)⟩ | exact ⟨Rg.of_below hb1, by simp only [upd_same]; exact own_lower hu (by omega)⟩
    · intro W hcg hw
      obtain ⟨hfr, Cc, hbx, hcz⟩ := hcg
      have R := R0.out.fr hfr (by omega)
      have f1 : vals 1 = .int .u32 pg := hw ⟨1, .data⟩ (by simp) rfl
      have f3 : vals 3 = .int .u16 sl := hw ⟨3, .data⟩ (by simp) rfl
      have f5 : vals 5 = .bool has := hw ⟨5, .data⟩ (by simp) rfl
      have f7 : vals 7 = .bool had := hw ⟨7, .data⟩ (by simp) rfl
      have f10 : W.ownsRow (w.heap.size + 1 + 1) 5 1 (vals 10) ys.length (ys.map (.int .u8)) := hw ⟨10, .data⟩ (by simp) rfl
      have f13 : W.ownsRow (w.heap.size + 1 + 1) 5 1 (vals 13) xs.length (xs.map (.int .u8)) := hw ⟨13, .data⟩ (by simp) rfl
      obtain ⟨A3, c3, e3, _, _⟩ := (IR.of_own f10).form
      obtain ⟨A4, c4, e4, _, _⟩ := (IR.of_own f13).form
      rw [e3] at f10
      rw [e4] at f13
      have F10 := Lib.hid f10
      have F13 := Lib.hid f13
      clear hw hbx R f10 f13
      refine step_plain rfl ?_
      go_simp
      exact ⟨Rg.of_below (Below.refl _ _), by simp only [upd_same]; exact ⟨A3, _, c3, A4, _, c4, rfl, F10.out, F13.out⟩⟩
    · intro W hcg hw
      obtain ⟨hfr, Cc, hbx, hcz⟩ := hcg
      have R := R0.out.fr hfr (by omega)
      have f14 : Bld w.heap.size pg sl has had xs ys (vals 14) W := hw ⟨14, .data⟩ (by simp) rfl
      obtain ⟨A3, l3, c3, A4, l4, c4, e14, o3, o4⟩ := f14
      obtain ⟨a0, a1, a2, a3, a4, a5, rfl⟩ := arr6 hcz
      have x0 : W.cell? ⟨w.heap.size + 1, 0, none⟩ = some a0 := hbx.cell 0
      have y0 := hbx.frozen 0
      have x1 : W.cell? ⟨w.heap.size + 1, 1, none⟩ = some a1 := hbx.cell 1
      have y1 := hbx.frozen 1
      have x2 : W.cell? ⟨w.heap.size + 1, 2, none⟩ = some a2 := hbx.cell 2
      have y2 := hbx.frozen 2
      have x3 : W.cell? ⟨w.heap.size + 1, 3, none⟩ = some a3 := hbx.cell 3
      have y3 := hbx.frozen 3
      have x4 : W.cell? ⟨w.heap.size + 1, 4, none⟩ = some a4 := hbx.cell 4
      have y4 := hbx.frozen 4
      have x5 : W.cell? ⟨w.heap.size + 1, 5, none⟩ = some a5 := hbx.cell 5
      have y5 := hbx.frozen 5
      have O3 := Lib.hid o3
      have O4 := Lib.hid o4
      have BX := Lib.hid hbx
      clear hw R o3 o4 hbx hcz hfr
      refine step_plain rfl ?_
      go_simp
      have hb9 := Box.set_ (Box.set_ (Box.set_ (Box.set_ (Box.set_ (Box.set_ (BX.out) 0 (.int .u32 pg)) 1 (.int .u16 sl)) 2 (.bool has)) 3 (.bool had)) 4 (.slice A3 l3 c3)) 5 (.slice A4 l4 c4)
      have hf9 := Fr.setCell (Fr.setCell (Fr.setCell (Fr.setCell (Fr.setCell (Fr.setCell (Fr.refl (fun x => x = w.heap.size + 1) W) (p := ⟨w.heap.size + 1, 0, none⟩) (.inl rfl) (.int .u32 pg)) (p := ⟨w.heap.size + 1, 1, none⟩) (.inl rfl) (.int .u16 sl)) (p := ⟨w.heap.size + 1, 2, none⟩) (.inl rfl) (.bool has)) (p := ⟨w.heap.size + 1, 3, none⟩) (.inl rfl) (.bool had)) (p := ⟨w.heap.size + 1, 4, none⟩) (.inl rfl) (.slice A3 l3 c3)) (p := ⟨w.heap.size + 1, 5, none⟩) (.inl rfl) (.slice A4 l4 c4)
      simp only [List.setIfInBounds_toArray, List.set_cons_zero, List.set_cons_succ] at hb9
      have hn : ∀ C, Box W (w.heap.size + 1) C 27 → C.size = 6 := fun C hC => box_size BX.out hC
      exact ⟨Rg.last hf9 hb9 hn, A3, l3, c3, A4, l4, c4, hb9, own_fr O3.out hf9 (Nat.lt_succ_self _), own_fr O4.out hf9 (Nat.lt_succ_self _)⟩
  · simp only [TL, Act.put, List.setIfInBounds_toArray, List.set_cons_succ, List.set_cons_zero]
    have hs : Sto w.heap.size pg sl has had xs ys W := hall 15 (by decide)
    obtain ⟨A3, l3, c3, A4, l4, c4, hb9, o3, o4⟩ := hs
    have hl9 := HW.out.trans (hcg.1.to_below (B := w.heap.size) (fun x hx => by omega) (by omega))
    have b_0 : W.cell? ⟨w.heap.size + 1, 0, none⟩ = some (.int .u32 pg) := hb9.cell 0
    have b_1 : W.cell? ⟨w.heap.size + 1, 1, none⟩ = some (.int .u16 sl) := hb9.cell 1
    have b_2 : W.cell? ⟨w.heap.size + 1, 2, none⟩ = some (.bool has) := hb9.cell 2
    have b_3 : W.cell? ⟨w.heap.size + 1, 3, none⟩ = some (.bool had) := hb9.cell 3
    have b_4 : W.cell? ⟨w.heap.size + 1, 4, none⟩ = some (.slice A3 l3 c3) := hb9.cell 4
    have b_5 : W.cell? ⟨w.heap.size + 1, 5, none⟩ = some (.slice A4 l4 c4) := hb9.cell 5
    clear hall hcg hb9
    go_wp2
    refine bodyPost_ret (v := .agg (cgC pg sl has had (.slice A3 l3 c3) (.slice A4 l4 c4))) (by simp [results, Try.results18, go_sem, cgC, b_0, b_1, b_2, b_3, b_4, b_5]) rfl ?_
    exact ⟨_, _, rfl, by rw [HL2.out]; exact o3, by rw [HL1.out]; exact o4, hl9⟩
end Go.Proofs.Ytbbphfhkedldmaa.Rec
