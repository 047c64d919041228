import Derived.Test.YthbbnebanmpcjaaPgW
/- Law's helpers: known. -/
namespace Go.Proofs.Ythbbnebanmpcjaa.Pg
open Go.ChangeShapes Go.WideShapes Go.ChangeAt Go.RowKit Go.IntWalk Go.Proofs.Mem Go.Proofs.Ythbbnebanmpcjaa.Law Go.Proofs.Each
set_option linter.unusedVariables false
set_option linter.unusedSimpArgs false
def kx1 : List Int := setX (newP 7) 1 [1, 2]
def kx2 : List Int := setX kx1 0 (List.replicate 64 0)
def kx3 : List Int := clearX kx2 1
theorem known1 : setE (newP 7) 1 2 = 0 := by decide +kernel
theorem known2 : free kx1 = 422 := by decide +kernel
theorem known3 : gt kx1 8 4 = 7 := by decide +kernel
theorem known4 : setE kx1 0 64 = 0 := by decide +kernel
theorem known5 : there kx2 1 = true := by decide +kernel
theorem known6 : free kx3 = 364 := by decide +kernel
theorem known7 (xs : List Int) : setE xs 40 1 = 91 ∧ ∀ y, setX xs 40 [y] = xs := ⟨rfl, fun y => by unfold setX; exact if_neg (fun h => absurd (show mayS 40 1 = true from h.1) (by decide))⟩
theorem set_lit (W : World) (b : Nat) (xs : List Int) (h : Pw W b xs) (N : Int) (ys : List Int) (hy : Bytes ys) (hl : ys.length ≤ 1000) (k : Nat) (hk : ys.length = k) (t : TypeId) (cs : Array Value) (hcs : cs = (ys.map (.int .u8)).toArray) :
    Calls Try.prog 27 #[.pointer (some ⟨b, 0, none⟩), .int .i64 N, .slice (some ⟨W.heap.size, 0, none⟩) k k] (W.alloc (.cells cs t)) fun e w' => e = .returned (.int .u16 (setE xs N k)) ∧ Pw w' b (setX xs N ys) ∧ Fr (fun x => x = b) W w' := by
  subst hcs hk
  have hb : Below W.heap.size W (W.alloc (.cells (ys.map (.int .u8)).toArray t)) := (Below.refl _ _).alloc (Nat.le_refl _) _
  refine (set_some _ b xs (h.later hb) N (some ⟨W.heap.size, 0, none⟩) ys.length ys.length ys hy rfl (fun w' hf => ?_)).mono ?_
  · have h0 := IR.lit W .u8 ys t hl
    have hbl := h.at_.box.lt
    obtain ⟨A, c, e, h1, h2, h3, h4⟩ := h0
    injection e with e1 e2 e3
    subst e1 e3
    have hsz : W.heap.size + 1 ≤ w'.heap.size := by have := hf.size; simpa using this
    refine ⟨_, _, rfl, h1, h2, h3, fun i hi => ?_⟩
    obtain ⟨q, o, e4, h5, h6⟩ := h4 i hi
    injection e4 with e4
    injection e4 with e5 e6
    subst e5 e6
    exact ⟨_, _, rfl, by omega, (hf.cell (by simp) (by show ¬ W.heap.size = b; omega)).trans h6⟩
  · rintro e w1 ⟨rfl, p1, f1⟩
    exact ⟨rfl, p1, (Fr.of_below hb).trans f1⟩
theorem set_own (W : World) (b : Nat) (xs : List Int) (h : Pw W b xs) (N : Int) (base : Nat) (hB : b < base) (A : Option Addr) (k c : Nat) (ys : List Int) (hy : Bytes ys) (hk : ys.length = k) (ho : W.ownsRow base 5 1 (.slice A k c) k (ys.map (.int .u8))) :
    Calls Try.prog 27 #[.pointer (some ⟨b, 0, none⟩), .int .i64 N, .slice A k c] W fun e w' => e = .returned (.int .u16 (setE xs N k)) ∧ Pw w' b (setX xs N ys) ∧ Fr (fun x => x = b) W w' :=
  set_some W b xs h N A k c ys hy hk (fun w' hf => IR.of_own (own_frS ho hf (fun q hq hs => by have := (ho.lt q hq).1; omega)))
set_option maxRecDepth 100000 in
set_option maxHeartbeats 8000000 in
theorem known_any (w : World) : Calls Try.prog 10 #[] w fun e w' => e = .returned (.bool true) ∧ Below w.heap.size w w' := by
  have NA := Lib.hid (new_any w 7 (by decide))
  obtain ⟨b, hb⟩ : ∃ b, b = w.heap.size := ⟨_, rfl⟩
  have HB := Lib.hid hb
  rw [← hb] at NA ⊢
  clear hb
  obtain ⟨i0, hi0, hz0, hz1, hz2⟩ := info_parts NumBytes.u8_info
  go_enter Try.func10, Try.ntmps10
  go_wp2_with fail
  (with_reducible refine NA.out.mono ?_)
  rintro e w1 ⟨rfl, p1, b1⟩
  have P1 := Lib.hid (show Pw w1 b (newP 7) from ⟨p1, (new_wf 7).1⟩)
  have B1 := Lib.hid b1
  clear p1 b1
  have S1 := Lib.hid (set_lit w1 b _ P1.out 1 [1, 2] (by unfold Bytes; decide) (by decide) 2 rfl 5 #[.int .u8 1, .int .u8 2] rfl)
  rw [known1] at S1
  go_wp2_with fail
  (with_reducible refine S1.out.mono ?_)
  rintro e w2 ⟨rfl, p2, f2⟩
  have P2 := Lib.hid (show Pw w2 b kx1 from p2)
  have F2 := Lib.hid f2
  clear p2 f2
  have FA := Lib.hid (free_any w2 b _ P2.out.at_ P2.out.wf.w0.cnt)
  rw [known2] at FA
  have NU := Lib.hid (number_any w2 b _ P2.out.at_)
  rw [known3] at NU
  go_wp2_with fail
  (with_reducible refine FA.out.mono ?_)
  rintro e wx ⟨rfl, rfl⟩
  go_wp2_with fail
  (with_reducible refine NU.out.mono ?_)
  rintro e wx ⟨rfl, rfl⟩
  have hb2 : b < w2.heap.size := P2.out.at_.box.lt
  have HB2 := Lib.hid hb2
  clear hb2
  go_wp2_with (first
    | (refine wpList_make_full _ rfl _ _ _ rfl w2.heap.size 5 i0 _ 1 Try.underlying31 hi0 hz0 hz1 .i64 .i64 64 64 64 rfl rfl rfl rfl (by rw [hz2]; omega) (by simp only [maxLen]; omega) (Nat.le_refl _) ?_
       intro w3 hown hg3
       have B3 := Lib.hid (grown_below hg3)
       have S2 := Lib.hid (set_own w3 b _ (P2.out.later B3.out) 0 w2.heap.size HB2.out (some ⟨w2.heap.size, 0, none⟩) 64 64 (List.replicate 64 0) (fun x hx => by rw [(List.mem_replicate.1 hx).2]; omega) List.length_replicate (by rw [madeZero] at hown; simpa using hown))
       rw [known4] at S2
       clear hown hg3)
    | ((with_reducible refine S2.out.mono ?_)
       rintro e w4 ⟨rfl, p4, f4⟩
       have P4 := Lib.hid (show Pw w4 b kx2 from p4)
       have F4 := Lib.hid ((Fr.of_below (S := fun x => x = b) B3.out).trans f4)
       have S3 := Lib.hid (set_lit w4 b _ P4.out 40 [1] (by unfold Bytes; decide) (by decide) 1 rfl 5 #[.int .u8 1] rfl)
       rw [(known7 _).1, (known7 _).2 1] at S3
       clear p4 f4)
    | ((with_reducible refine S3.out.mono ?_)
       rintro e w5 ⟨rfl, p5, f5⟩
       have C5 := Lib.hid (clear_some w5 b _ p5 1)
       rw [known5] at C5
       have F5 := Lib.hid f5
       clear p5 f5)
    | ((with_reducible refine C5.out.mono ?_)
       rintro e w6 ⟨rfl, p6, f6⟩
       have FA6 := Lib.hid (free_any w6 b kx3 (show Pw w6 b kx3 from p6).at_ (show Pw w6 b kx3 from p6).wf.w0.cnt)
       rw [known6] at FA6
       have F6 := Lib.hid f6
       clear p6 f6)
    | ((with_reducible refine FA6.out.mono ?_)
       rintro e wx ⟨rfl, rfl⟩))
  go_ret
  have hf := ((F2.out.trans F4.out).trans F5.out).trans F6.out
  have hs := B1.out.size
  have hb := HB.out
  exact ⟨rfl, B1.out.trans (hf.to_below (fun k hk => by rw [hk]; exact Nat.le_refl _) (by omega))⟩
end Go.Proofs.Ythbbnebanmpcjaa.Pg
