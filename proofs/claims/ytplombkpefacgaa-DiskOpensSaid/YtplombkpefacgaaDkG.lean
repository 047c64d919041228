import Derived.Test.YtplombkpefacgaaDkF
import Derived.Test.YtplombkpefacgaaTab2
/- The known answers. -/
namespace Go.Proofs.Ytplombkpefacgaa.Disk
open Go.ChangeShapes Go.WideShapes Go.ChangeAt Go.RowKit Go.IntWalk Go.Proofs.Mem Go.Proofs.Each Law
set_option linter.unusedVariables false
set_option linter.unusedSimpArgs false
theorem lit3 (w : World) (a b c : Int) : (w.alloc (.cells #[.int .u8 a, .int .u8 b, .int .u8 c] 5)).ownsRow w.heap.size 5 1 (.slice (some ⟨w.heap.size, 0, none⟩) 3 3) 3 ([a, b, c].map (.int .u8)) :=
  ⟨rfl, .inr ⟨w.heap.size, 3, _, rfl, Nat.le_refl _, heap_alloc_new w _, Nat.le_refl _, by decide, rfl, rfl⟩⟩
theorem lit_fate (w : World) (x : Ft) : SS cFt 4 (w.alloc (.cells #[.int .u8 x.file, .int .i64 x.sec, .int .i64 x.keep, .int .i64 x.torn] 50)) (w.heap.size + 1) (.slice (some ⟨w.heap.size, 0, none⟩) 1 1) [x] := by
  refine ⟨_, 1, rfl, Nat.le_refl _, by decide, fun i y hy => ⟨w.heap.size, 0, rfl, Nat.lt_succ_self _, fun j u hu => ?_⟩⟩
  have hi : i = 0 := by
    have := (List.getElem?_eq_some_iff.1 hy).1
    simp at this; exact this
  subst hi
  simp at hy
  subst hy
  rw [show 0 + 0 * 4 + j = j by omega, (Box.new w _ _).cell j]
  simpa [cFt] using hu
/-- what is owned elsewhere reads whatever is done to a device -/
theorem own_far_ir {w w' : World} {S : Nat → Prop} {base : Nat} {v : Value} {xs : List Int} (h : w.ownsRow base 5 1 v 128 (xs.map (.int .u8))) (hl : xs.length = 128) (hs : ∀ x, S x → x < base) (hf : Fr S w w') : IR w' w'.heap.size .u8 v xs :=
  own_ir' (own_frS h hf (fun k hk hS => by have := (h.lt k hk).1; have := hs k hS; omega)) hl
theorem new_at (A B : Int) (w : World) (N0 N1 : Nat) (hA : A = N0) (hB : B = N1) (h0 : N0 ≤ 4096) (h1 : N1 ≤ 4096) :
    Calls Try.prog 11 #[.int .i64 A, .int .i64 B] w fun e w' => e = .returned (.pointer (some ⟨w.heap.size, 0, none⟩)) ∧ Out w w' (fun k => if k = 0 then N0 else N1) 2 := by
  subst hA hB; exact new_yes w N0 N1 h0 h1
theorem write_at (I N : Int) {w : World} {S : Nat → Prop} {b : Nat} {D : Dv} {col : Nat → Nat} {fv : Nat → Value} {uv : Nat → List Pl} (h : DA w S b D col fv uv) (i : Nat) (hI : I = i) (hi : i < 2) (n : Nat) (s : Se) (hs : (D.f i)[n]? = some s) (hw : s.wait.length ≤ 100000) (hN : N = n)
    (dv : Value) (xs : List Int) (hdf : ∀ w', Fr S w w' → IR w' w'.heap.size .u8 dv xs) (hxl : xs.length = 128) (hxb : Bytes xs) :
    Calls Try.prog 27 #[.pointer (some ⟨b, 0, none⟩), .int .u8 I, .int .i64 N, dv] w fun e w' => e = .returned (.int .u16 0) ∧ (∃ col' uv', DA w' (growS w w' S) b (D.wr i n s xs) col' fv uv') ∧ Fr S w w' := by
  subst hI; exact write_yes h i hi n s hs hw N hN dv xs hdf hxl hxb
theorem read_at (I N : Int) {w : World} {S : Nat → Prop} {b : Nat} {D : Dv} {col : Nat → Nat} {fv : Nat → Value} {uv : Nat → List Pl} (h : DA w S b D col fv uv) (i : Nat) (hI : I = i) (hi : i < 2) (n : Nat) (s : Se) (hs : (D.f i)[n]? = some s) (hw : s.wait.length ≤ 100000) (hN : N = n) :
    Calls Try.prog 31 #[.pointer (some ⟨b, 0, none⟩), .int .u8 I, .int .i64 N] w fun e w' => ∃ u, e = .returned (.tuple #[u, .int .u16 0]) ∧ w'.ownsRow w.heap.size 5 1 u 128 (s.cur.map (.int .u8)) ∧ Below w.heap.size w w' := by
  subst hI; exact read_yes h i hi n s hs hw N hN
theorem image_at (I : Int) {w : World} {S : Nat → Prop} {b : Nat} {D : Dv} {col : Nat → Nat} {fv : Nat → Value} {uv : Nat → List Pl} (h : DA w S b D col fv uv) (i : Nat) (hI : I = i) (hi : i < 2) :
    Calls Try.prog 19 #[.pointer (some ⟨b, 0, none⟩), .int .u8 I] w fun e w' => ∃ (v : Value) (l : List Rw), e = .returned v ∧ Tab 5 30 w' w.heap.size w'.heap.size v l ∧ l.map (·.2.2) = (D.f i).map (·.last) ∧ Below w.heap.size w w' := by
  subst hI; exact image_yes h i hi
def M4 : Nat → Nat := fun k => if k = 0 then 4 else 4
def X1 : List Int := fullS [1, 1, 1]
def X2 : List Int := fullS [2, 2, 2]
theorem b111 : Bytes [1, 1, 1] := fun x hx => by simp at hx; omega
theorem b222 : Bytes [2, 2, 2] := fun x hx => by simp at hx; omega
theorem X1_len : X1.length = 128 := fullS_len _
theorem X2_len : X2.length = 128 := fullS_len _
theorem X1_b : Bytes X1 := fullS_bytes b111
theorem X2_b : Bytes X2 := fullS_bytes b222
def kF : Ft := ⟨0, 3, 1, 2⟩
def kD0 : Dv := newTo M4 2
def kD1 : Dv := kD0.wr 0 3 zSe X1
def kD2 : Dv := kD1.wr 0 3 (zSe.wr X1) X2
def X12 : List Int := X2.take 2 ++ X1.drop 2
theorem k_waits (i : Nat) (hi : i < 2) : ∀ s ∈ kD2.f i, s.wait.length ≤ 100000 := by
  rcases two hi with rfl | rfl
  · decide +kernel
  · decide +kernel
theorem k_image : ((kD2.crash [kF]).f 0).map (·.last) = [z128, z128, z128, X12] := by decide +kernel
set_option maxRecDepth 100000 in
set_option maxHeartbeats 16000000 in
theorem known_any (w : World) : Calls Try.prog 10 #[] w fun e w' => e = .returned (.bool true) ∧ Below w.heap.size w w' := by
  have N4 := Lib.hid (new_at 4 4 w 4 4 rfl rfl (by decide) (by decide))
  go_enter Try.func10, Try.ntmps10
  go_wp2_with fail
  (with_reducible refine N4.out.mono ?_)
  rintro e w1 ⟨rfl, col, fv, uv, hd, _, hb1⟩
  have HB1 := Lib.hid hb1
  have HD1 := Lib.hid (show DA w1 (newS w w1) w.heap.size kD0 col fv uv from hd)
  clear hb1 hd
  go_wp2_with fail
  (with_reducible refine (full_any _ [1, 1, 1] _ (w1.heap.size + 1) (by simp) (by have := IR.of_own (lit3 w1 1 1 1); rw [World.size_alloc] at this; exact this) b111).mono ?_)
  rintro e w2 ⟨u2, rfl, o2, hb2⟩
  have HB2 := Lib.hid (show Below w1.heap.size w1 w2 from (new_ (Below.refl _ _) _).trans (hb2.mono (by simp)))
  have O2 := Lib.hid (own_lower o2 (base' := w1.heap.size) (by simp))
  have HD2 := Lib.hid (HD1.out.later HB2.out)
  clear o2 hb2
  go_wp2_with fail
  (with_reducible refine (write_at 0 3 HD2.out 0 rfl (by decide) 3 zSe rfl (by decide) rfl u2 X1 (fun w' hf => own_far_ir O2.out X1_len (fun x hx => HD1.out.old x hx) hf) X1_len X1_b).mono ?_)
  rintro e w3 ⟨rfl, ⟨col3, uv3, hd3⟩, hf3⟩
  have HF3 := Lib.hid hf3
  have HD3 := Lib.hid (show DA w3 (growS w2 w3 (newS w w1)) w.heap.size kD1 col3 fv uv3 from hd3)
  clear hf3 hd3
  go_wp2_with fail
  (with_reducible refine (full_any _ [2, 2, 2] _ (w3.heap.size + 1) (by simp) (by have := IR.of_own (lit3 w3 2 2 2); rw [World.size_alloc] at this; exact this) b222).mono ?_)
  rintro e w4 ⟨u4, rfl, o4, hb4⟩
  have HB4 := Lib.hid (show Below w3.heap.size w3 w4 from (new_ (Below.refl _ _) _).trans (hb4.mono (by simp)))
  have O4 := Lib.hid (own_lower o4 (base' := w3.heap.size) (by simp))
  have HD4 := Lib.hid (HD3.out.later HB4.out)
  clear o4 hb4
  go_wp2_with fail
  (with_reducible refine (write_at 0 3 HD4.out 0 rfl (by decide) 3 (zSe.wr X1) rfl (by decide) rfl u4 X2 (fun w' hf => own_far_ir O4.out X2_len (fun x hx => HD3.out.old x hx) hf) X2_len X2_b).mono ?_)
  rintro e w5 ⟨rfl, ⟨col5, uv5, hd5⟩, hf5⟩
  have HF5 := Lib.hid hf5
  have HD5 := Lib.hid (show DA w5 (growS w4 w5 (growS w2 w3 (newS w w1))) w.heap.size kD2 col5 fv uv5 from hd5)
  clear hf5 hd5
  go_wp2_with fail
  (with_reducible refine (read_at 0 3 HD5.out 0 rfl (by decide) 3 ((zSe.wr X1).wr X2) rfl (by decide) rfl).mono ?_)
  rintro e w6 ⟨u6, rfl, o6, hb6⟩
  obtain ⟨g6, c6, rfl, _⟩ := own_g o6 (by decide)
  have HD6 := Lib.hid (HD5.out.later hb6)
  have O6 := Lib.hid o6
  have HB6 := Lib.hid hb6
  clear o6 hb6
  go_wp2_with fail
  have HD7 := Lib.hid (HD6.out.later (new_ (Below.refl w6.heap.size w6) (.cells #[.int .u8 0, .int .i64 3, .int .i64 1, .int .i64 2] 50)))
  have SS7 := Lib.hid (show SS cFt 4 (w6.alloc (.cells #[.int .u8 0, .int .i64 3, .int .i64 1, .int .i64 2] 50)) (w6.alloc (.cells #[.int .u8 0, .int .i64 3, .int .i64 1, .int .i64 2] 50)).heap.size (.slice (some ⟨w6.heap.size, 0, none⟩) 1 1) [kF] from by
    have := lit_fate w6 kF; rw [World.size_alloc]; exact this)
  have OK7 := Lib.hid (show ∀ x ∈ [kF], x.Ok from fun x hx => by rw [List.mem_singleton.1 hx]; exact ⟨by decide, by decide⟩)
  (with_reducible refine (crash_yes HD7.out _ [kF] SS7.out OK7.out (by decide) k_waits).mono ?_)
  rintro e w8 ⟨rfl, ⟨col8, uv8, hd8⟩, hf8⟩
  have HD8 := Lib.hid hd8
  have HF8 := Lib.hid hf8
  clear hd8 hf8
  go_wp2_with fail
  (with_reducible refine (image_at 0 HD8.out 0 rfl (by decide)).mono ?_)
  rintro e w9 ⟨v9, l9, rfl, ht, hl, hb9⟩
  have OF6 := own_below (own_frS (own_below O6.out (new_ (Below.refl w6.heap.size w6) (.cells #[.int .u8 0, .int .i64 3, .int .i64 1, .int .i64 2] 50))) HF8.out (fun k hk hS => by have := (O6.out.lt k hk).1; have := HD5.out.old k hS; omega)) hb9
  have k6 : w9.cell? ⟨g6, 0, none⟩ = some (.int .u8 2) := by rw [OF6.cellAt 0 (by decide)]; rfl
  have hl4 : l9.length = 4 := by have := congrArg List.length hl; rw [k_image] at this; simpa using this
  obtain ⟨p, hp⟩ : ∃ p, l9[3]? = some p := ⟨_, List.getElem?_eq_getElem (by omega)⟩
  have hpx : p.2.2 = X12 := by
    have := congrArg (fun z => z[3]?) hl
    simp only [k_image, List.getElem?_map, hp] at this
    simpa using this
  have hpm : p ∈ l9 := List.mem_of_getElem? hp
  obtain ⟨hrow, _⟩ := ht.rows p hpm
  obtain ⟨cp, ep⟩ := hrow.form
  rw [hpx, show X12.length = 128 from rfl] at ep
  have r1 := row_cell hrow 1 (by rw [hpx]; decide)
  have r2 := row_cell hrow 2 (by rw [hpx]; decide)
  rw [hpx, show X12.getD 1 0 = 2 by decide +kernel] at r1
  rw [hpx, show X12.getD 2 0 = 1 by decide +kernel] at r2
  obtain ⟨go, cg, ev9, hc9⟩ : ∃ go cg, v9 = .slice (some ⟨go, 0, none⟩) 4 cg ∧ w9.cell? ⟨go, 3, none⟩ = some (.slice (some ⟨p.1, 0, none⟩) 128 cp) := by
    have ho := ht.outer
    rw [hl4] at ho
    obtain ⟨go, cg, e, _⟩ := own_g ho (by decide)
    rw [e] at ho
    refine ⟨go, cg, e, ?_⟩
    rw [ho.cellAt 3 (by decide), List.getElem?_map, hp, ← ep]; rfl
  subst ev9
  have s1 : ∀ x, newS w w1 x → w.heap.size ≤ x := fun x hx => hx.1
  have b2 : Below w.heap.size w w2 := step_ HB1.out HB2.out
  have b3 : Below w.heap.size w w3 := b2.trans (HF3.out.to_below s1 b2.size)
  have s3 : ∀ x, growS w2 w3 (newS w w1) x → w.heap.size ≤ x := fun x hx => by
    rcases hx with hx | hx
    · exact s1 x hx
    · have := b2.size; omega
  have b4 : Below w.heap.size w w4 := step_ b3 HB4.out
  have b5 : Below w.heap.size w w5 := b4.trans (HF5.out.to_below s3 b4.size)
  have s5 : ∀ x, growS w4 w5 (growS w2 w3 (newS w w1)) x → w.heap.size ≤ x := fun x hx => by
    rcases hx with hx | hx
    · exact s3 x hx
    · have := b4.size; omega
  have b7 : Below w.heap.size w (w6.alloc (.cells #[.int .u8 0, .int .i64 3, .int .i64 1, .int .i64 2] 50)) := new_ (step_ b5 HB6.out) _
  have b8 : Below w.heap.size w w8 := b7.trans (HF8.out.to_below s5 b7.size)
  have HBW := Lib.hid (step_ b8 hb9)
  clear s1 b2 b3 s3 b4 b5 s5 b7 b8
  clear OF6 hl hp hpx hpm hrow ep ht hl4 hb9
  go_wp2
  go_ret
  exact ⟨rfl, HBW.out⟩
end Go.Proofs.Ytplombkpefacgaa.Disk
