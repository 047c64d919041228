import Derived.Test.YtbbphfhkedldmaaRec1
import Derived.Test.YtbbphfhkedldmaaFr
import Derived.RegionDies
/- A writer's number. -/
namespace Go.Proofs.Ytbbphfhkedldmaa.Rec
open Go.ChangeShapes Go.WideShapes Go.ChangeAt Go.RowKit Go.IntWalk Go.Proofs.NumMath Go.Proofs.Mem NumBytes
set_option linter.unusedVariables false
/-- a writer at block g: it holds these bytes -/
structure Wr (w : World) (g : Nat) (v : Value) (xs : List Int) : Prop where
  box : Box w g #[v] 52
  own : w.ownsRow (g + 1) 5 1 v xs.length (xs.map (.int .u8))
  lt : g < w.heap.size
theorem Wr.later {w w' : World} {g : Nat} {v : Value} {xs : List Int} (h : Wr w g v xs) (hb : Below w.heap.size w w') : Wr w' g v xs := ⟨h.box.later hb, own_below h.own hb, Nat.lt_of_lt_of_le h.lt hb.size⟩
theorem below_row {W w' a : World} {B base n size : Nat} {e : TypeId} {v : Value} {xs : List Value} (h : Below B a W) (hown : W.ownsRow base e size v n xs) (hg : W.grownBy w' v.ownBlock) (hb : B ≤ base) (hB : B ≤ W.heap.size) : Below B a w' :=
  h.trans ((Below.refl B W).grown hg hB (fun b hb' => by have := (hown.lt b hb').1; omega))
theorem own_set_far {w : World} {base n size : Nat} {e : TypeId} {v : Value} {xs : List Value} (h : w.ownsRow base e size v n xs) {p : Addr} (hp : p.block < base) (u : Value) : (w.setCell p u).ownsRow base e size v n xs :=
  h.kept (grownBy_set w p u) (by
    cases e : v.ownBlock with
    | none => exact .inl rfl
    | some k =>
      refine .inr (fun e2 => ?_)
      injection e2 with e2
      have := (h.lt k e).1
      omega)
/-- what a writer does: its own block and its row's are written, nothing else -/
structure WrTo (w w' : World) (g : Nat) (v v' : Value) : Prop where
  fr : Fr (fun x => x = g ∨ v.ownBlock = some x) w w'
  own : v'.ownBlock = v.ownBlock ∨ ∃ k, v'.ownBlock = some k ∧ w.heap.size ≤ k
theorem WrTo.refl (w : World) (g : Nat) (v : Value) : WrTo w w g v v := ⟨Fr.refl _ _, .inl rfl⟩
theorem WrTo.trans {a b c : World} {g : Nat} {u v x : Value} (h : WrTo a b g u v) (k : WrTo b c g v x) : WrTo a c g u x := by
  refine ⟨h.fr.trans' k.fr (fun i hi hs => ?_), ?_⟩
  · rcases hs with hs | hs
    · exact .inl hs
    · rcases h.own with e | ⟨m, e, hm⟩
      · exact .inr (e ▸ hs)
      · rw [e] at hs; injection hs with hs; omega
  · rcases k.own with e | ⟨m, e, hm⟩
    · rcases h.own with e' | ⟨m, e', hm⟩
      · exact .inl (e.trans e')
      · exact .inr ⟨m, e.trans e', hm⟩
    · exact .inr ⟨m, e, Nat.le_trans h.fr.size hm⟩
theorem WrTo.below {a b : World} {g : Nat} {u v : Value} {xs : List Int} (h : WrTo a b g u v) (hw : Wr a g u xs) : Below g a b :=
  h.fr.to_below (fun k hk => by
    rcases hk with rfl | hk
    · exact Nat.le_refl _
    · have := (hw.own.lt k hk).1; omega) (Nat.le_of_lt hw.lt)
theorem WrTo.box {a b : World} {g m : Nat} {u v : Value} {C : Array Value} {t : TypeId} (h : WrTo a b g u v) (hb : Box a m C t) (hm : m ≠ g) (hu : u.ownBlock ≠ some m) : Box b m C t := hb.fr h.fr (fun hs => by
  rcases hs with hs | hs
  · exact hm hs
  · exact hu hs)
theorem WrTo.keep {a b : World} {g : Nat} {u v : Value} {S : Nat → Prop} (h : WrTo a b g u v) (hb : Below a.heap.size a b) : WrTo a b g u u := ⟨Fr.of_below hb, .inl rfl⟩
set_option maxRecDepth 100000 in
set_option maxHeartbeats 4000000 in
theorem number_to (w : World) (g : Nat) (v : Value) (xs : List Int) (h : Wr w g v xs) (hl : xs.length ≤ 100000) (n k : Int) (h0 : 0 ≤ n) (h1 : n ≤ 18446744073709551615) (h2 : 1 ≤ k) (h3 : k ≤ 8) :
    Calls Try.prog 22 #[.pointer (some ⟨g, 0, none⟩), .int .u64 n, .int .i64 k] w fun e w' => e = .returned (.tuple #[]) ∧ ∃ v', Wr w' g v' (xs ++ putS n k.toNat) ∧ WrTo w w' g v v' := by
  obtain ⟨i0, hi0, hz0, hz1, hz2⟩ := info_parts u8_info
  have H := Lib.hid h
  have c0 : w.cell? ⟨g, 0, none⟩ = some v := h.box.cell 0
  clear h
  go_enter Try.func22, Try.ntmps22
  go_region_dies
  all_goals
    rename_i hK
    (with_reducible refine (put_any n k h0 h1 h2 h3 _).mono ?_)
    rintro e w1 ⟨u, rfl, hu, hb1⟩
    have HB1 := Lib.hid ((Below.drew (Below.refl w.heap.size w)).trans hb1)
    have HU := Lib.hid hu
    clear hb1 hu
    refine hK _ _ ?_
    clear hK
  rotate_left
  · have cw := H.out.box.later HB1.out
    have x0 : w1.cell? ⟨g, 0, none⟩ = some v := cw.cell 0
    refine wpAny_ready (rs := [3]) (by decide +kernel) (by simp) ?_
    refine AllReady.cons rfl (fun K hK => ?_) AllReady.nil
    go_simp
    refine hK _ _ ?_
    clear hK cw x0
    have W1 := Lib.hid (H.out.later HB1.out)
    refine wpAny_ready (rs := [7]) (by decide +kernel) (by simp) ?_
    refine AllReady.cons rfl (fun K hK => ?_) AllReady.nil
    refine wp_append_tx _ (.tmp 9) (.tmp 12) _ _ rfl (g + 1) 5 5 i0 .u8 1 Try.underlying52 Try.underlying25 hi0 hz0 hz1 hz2 v xs.length xs rfl W1.out.own w1.heap.size u (putS n k.toNat) rfl (IR.of_own HU.out) (by rw [putS_len]; simp only [maxLen]; omega) (by rw [putS_len]; omega) W1.out.lt ?_
    intro v2 w2 hown2 hg2 ho2
    refine hK _ _ ?_
    have HO2 := Lib.hid ho2
    have FRX := Lib.hid ((Fr.of_below (S := fun x => x = g ∨ v.ownBlock = some x) HB1.out).grown hg2 (fun k e => .inl (.inr e)))
    clear hK ho2
    have hb2 := W1.out.box.grown hg2 (fun e => by have := (W1.out.own.lt g e).1; omega)
    have hz := hg2.size
    have x2 : w2.cell? ⟨g, 0, none⟩ = some v := hb2.cell 0
    have y2 := hb2.frozen 0
    rw [← List.length_append] at hown2
    obtain ⟨A, c, rfl, _, _⟩ := (IR.of_own hown2).form
    have OW := Lib.hid hown2
    have BX := Lib.hid hb2
    clear hown2 hb2 hg2
    refine wpAny_ready (rs := [8]) (by decide +kernel) (by simp) ?_
    refine AllReady.cons rfl (fun K hK => ?_) AllReady.nil
    go_simp
    refine hK _ _ ?_
    clear hK
    refine wpAny_ready (rs := [9]) (by decide +kernel) (by simp) ?_
    refine AllReady.cons rfl (fun K hK => ?_) AllReady.nil
    go_simp
    refine hK _ _ ?_
    clear hK
    refine wpAny_done (by kernel_rfl) ?_ _
    go_end0
    refine ⟨rfl, .slice A (xs ++ putS n k.toNat).length c, ⟨by rw [List.length_append]; exact BX.out.set_ 0 _, own_set_far OW.out (Nat.lt_succ_self g) _, ?_⟩, FRX.out.setCell (p := ⟨g, 0, none⟩) (.inl (.inl rfl)) _, HO2.out.imp id (fun e => ⟨_, e, HB1.out.size⟩)⟩
    exact Nat.lt_of_lt_of_le W1.out.lt (Nat.le_trans hz (by simp))
  · have W1 := Lib.hid (H.out.later HB1.out)
    refine wpAny_ready (rs := [7]) (by decide +kernel) (by simp) ?_
    refine AllReady.cons rfl (fun K hK => ?_) AllReady.nil
    refine wp_append_tx _ (.tmp 9) (.tmp 12) _ _ rfl (g + 1) 5 5 i0 .u8 1 Try.underlying52 Try.underlying25 hi0 hz0 hz1 hz2 v xs.length xs rfl W1.out.own w1.heap.size u (putS n k.toNat) rfl (IR.of_own HU.out) (by rw [putS_len]; simp only [maxLen]; omega) (by rw [putS_len]; omega) W1.out.lt ?_
    intro v2 w2 hown2 hg2 ho2
    refine hK _ _ ?_
    have HO2 := Lib.hid ho2
    have FRX := Lib.hid ((Fr.of_below (S := fun x => x = g ∨ v.ownBlock = some x) HB1.out).grown hg2 (fun k e => .inl (.inr e)))
    clear hK ho2
    have hb2 := W1.out.box.grown hg2 (fun e => by have := (W1.out.own.lt g e).1; omega)
    have hz := hg2.size
    have x2 : w2.cell? ⟨g, 0, none⟩ = some v := hb2.cell 0
    have y2 := hb2.frozen 0
    rw [← List.length_append] at hown2
    obtain ⟨A, c, rfl, _, _⟩ := (IR.of_own hown2).form
    have OW := Lib.hid hown2
    have BX := Lib.hid hb2
    clear hown2 hb2 hg2
    refine wpAny_ready (rs := [8]) (by decide +kernel) (by simp) ?_
    refine AllReady.cons rfl (fun K hK => ?_) AllReady.nil
    go_simp
    refine hK _ _ ?_
    clear hK
    refine wpAny_ready (rs := [9]) (by decide +kernel) (by simp) ?_
    refine AllReady.cons rfl (fun K hK => ?_) AllReady.nil
    go_simp
    refine hK _ _ ?_
    clear hK
    refine wpAny_done (by kernel_rfl) ?_ _
    go_end0
    refine ⟨rfl, .slice A (xs ++ putS n k.toNat).length c, ⟨by rw [List.length_append]; exact BX.out.set_ 0 _, own_set_far OW.out (Nat.lt_succ_self g) _, ?_⟩, FRX.out.setCell (p := ⟨g, 0, none⟩) (.inl (.inl rfl)) _, HO2.out.imp id (fun e => ⟨_, e, HB1.out.size⟩)⟩
    exact Nat.lt_of_lt_of_le W1.out.lt (Nat.le_trans hz (by simp))
theorem number_any (w : World) (g : Nat) (v : Value) (xs : List Int) (h : Wr w g v xs) (hl : xs.length ≤ 100000) (n k : Int) (h0 : 0 ≤ n) (h1 : n ≤ 18446744073709551615) (h2 : 1 ≤ k) (h3 : k ≤ 8) :
    Calls Try.prog 22 #[.pointer (some ⟨g, 0, none⟩), .int .u64 n, .int .i64 k] w fun e w' => e = .returned (.tuple #[]) ∧ ∃ v', Wr w' g v' (xs ++ putS n k.toNat) ∧ Below g w w' :=
  (number_to w g v xs h hl n k h0 h1 h2 h3).mono fun _ _ ⟨he, v', h', ht⟩ => ⟨he, v', h', ht.below h⟩
end Go.Proofs.Ytbbphfhkedldmaa.Rec
