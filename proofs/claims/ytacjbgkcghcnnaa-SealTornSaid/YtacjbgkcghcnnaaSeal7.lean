import Derived.Test.YtacjbgkcghcnnaaSeal6
/- Open. -/
namespace Go.Proofs.Ytacjbgkcghcnnaa.Seal
open Go.ChangeShapes Go.WideShapes Go.ChangeAt Go.RowKit Go.IntWalk Go.Shelf Go.Proofs.NumMath Go.Proofs.Mem NumBytes
set_option linter.unusedVariables false
attribute [local go_sem] Oper.semAt_some
def sect (vs : Sects) (k : Nat) : List Int := (vs.getD k (.slice none 0 0, [])).2
def head0 (vs : Sects) : Int := getS ((sect vs 0).take 8)
def Whole (vs : Sects) : Prop := vs.length = 4 ∧ (∀ k, k < vs.length → (sect vs k).length = 128) ∧ ∀ y ∈ stampsOf vs, y = head0 vs
def bodyOf (vs : Sects) : List Int := vs.flatMap fun p => (p.2.drop 8).take 112
def OpenP (w : World) (vs : Sects) (e : Ending) (w' : World) : Prop :=
  (Whole vs ∧ ∃ v, e = .returned (.tuple #[v, .int .u64 (head0 vs), .bool true]) ∧ w'.ownsRow w.heap.size 5 1 v 448 ((bodyOf vs).map (.int .u8)) ∧ Below w.heap.size w w') ∨
  (¬ Whole vs ∧ e = .returned (.tuple #[.slice none 0 0, .int .u64 0, .bool false]) ∧ Below w.heap.size w w')
theorem sect_at {vs : Sects} {k : Nat} {u : Value} {xs : List Int} (h : vs[k]? = some (u, xs)) : sect vs k = xs := by
  unfold sect; rw [List.getD_eq_getElem?_getD, h]; rfl
set_option maxRecDepth 100000 in
set_option maxHeartbeats 8000000 in
theorem open_short (w : World) (B : Nat) (v : Value) (vs : Sects) (hv : SR w B v vs) (hB : B ≤ w.heap.size) (hl : vs.length ≠ 4) : Calls Try.prog 14 #[v] w (OpenP w vs) := by
  obtain ⟨A, c, rfl, hlc, hcm⟩ := hv.form
  unfold maxLen at hcm
  have d1 : ((vs.length : Int) == 4) = false := by simp; omega
  have d2 : ((vs.length : Int) != 4) = true := by simp; omega
  have HN := Lib.hid (show ¬ Whole vs from fun h => hl h.1)
  clear hv hl
  go_enter Try.func14, Try.ntmps14
  go_wp2
  refine bodyPost_ret (v := .tuple #[.slice none 0 0, .int .u64 0, .bool false]) (by simp [results, Try.results14, go_sem]; try rfl) rfl ?_
  exact .inr ⟨HN.out, rfl, new_ (new_ (new_ (Below.refl _ _) _) _) _⟩
/-- three cells for what is told -/
structure T3 (W : World) (b : Nat) (x y z : Value) : Prop where
  ba : Box W b #[x] 22
  bb : Box W (b + 1) #[y] 23
  bc : Box W (b + 1 + 1) #[z] 4
theorem T3.below {W W' : World} {b B : Nat} {x y z : Value} (t : T3 W b x y z) (h : Below B W W') (hb : b + 3 ≤ B) : T3 W' b x y z := ⟨t.ba.below h (by omega), t.bb.below h (by omega), t.bc.below h (by omega)⟩
theorem T3.fr {W W' : World} {b : Nat} {x y z : Value} {S : Nat → Prop} (t : T3 W b x y z) (h : Fr S W W') (hb : ∀ k, S k → b + 3 ≤ k) : T3 W' b x y z :=
  ⟨t.ba.fr h (fun k => by have := hb _ k; omega), t.bb.fr h (fun k => by have := hb _ k; omega), t.bc.fr h (fun k => by have := hb _ k; omega)⟩
theorem T3.sc {W W' : World} {b : Nat} {x y z : Value} (t : T3 W b x y z) (h : Sc W W') : T3 W' b x y z := ⟨t.ba.sc h, t.bb.sc h, t.bc.sc h⟩
theorem T3.new (w : World) (x y z : Value) : T3 (((w.alloc (.cells #[x] 22)).alloc (.cells #[y] 23)).alloc (.cells #[z] 4)) w.heap.size x y z := by
  refine ⟨((Box.new _ _ _).alloc _).alloc _, ?_, ?_⟩
  · have := (Box.new (w.alloc (.cells #[x] 22)) #[y] 23).alloc (.cells #[z] 4)
    rwa [World.size_alloc] at this
  · have := Box.new ((w.alloc (.cells #[x] 22)).alloc (.cells #[y] 23)) #[z] 4
    rwa [World.size_alloc, World.size_alloc] at this
def nil3 (W : World) (b : Nat) : Prop := T3 W b (.slice none 0 0) (.int .u64 0) (.bool false)
theorem mid_ir {W : World} {B b off c : Nat} {xs : List Int} (h : IR W B .u8 (.slice (some ⟨b, off, none⟩) 128 c) xs) (hl : xs.length = 128) : IR W B .u8 (.slice (some ⟨b, off + 8, none⟩) 112 (c - 8)) ((xs.drop 8).take 112) := by
  have h2 : IR W B .u8 (.slice (some ⟨b, off, none⟩) xs.length c) xs := by rw [hl]; exact h
  exact piece_ir h2 8 (by omega)
theorem mid_len {xs : List Int} (hl : xs.length = 128) : ((xs.drop 8).take 112).length = 112 := by simp; omega
theorem bodyOf_succ {vs : Sects} {k : Nat} {u : Value} {xs : List Int} (h : vs[k]? = some (u, xs)) : bodyOf (vs.take (k + 1)) = bodyOf (vs.take k) ++ (xs.drop 8).take 112 := by
  rw [List.take_add_one, h]; simp [bodyOf]
set_option maxRecDepth 100000 in
set_option maxHeartbeats 8000000 in
theorem open_bad (w : World) (B : Nat) (v : Value) (vs : Sects) (hv : SR w B v vs) (hB : B ≤ w.heap.size) (hl : vs.length = 4) (hn : ¬ ∀ k, k < vs.length → (sect vs k).length = 128) : Calls Try.prog 14 #[v] w (OpenP w vs) := by
  obtain ⟨i0, hi0, hz0, hz1, hz2⟩ := info_parts u8_info
  obtain ⟨A, c, rfl, hlc, hcm⟩ := hv.form
  unfold maxLen at hcm
  have HN := Lib.hid (show ¬ Whole vs from fun h => hn h.2.1)
  have HV := Lib.hid hv
  have HNN := Lib.hid hn
  have HL := Lib.hid hl
  clear hv hn
  rw [hl]
  clear hl
  go_enter Try.func14, Try.ntmps14
  go_wp2
  go_loopw [5, 15] (fun s i wr => ∃ k : Nat, i = .int .i64 k ∧ k ≤ 4 ∧ Hid (∃ xs : List Int, wr.ownsRow (w.heap.size + 3) 5 1 s (112 * k) (xs.map (.int .u8)) ∧ xs.length = 112 * k) ∧ Hid (∀ j, j < k → (sect vs j).length = 128) ∧
    Hid (nil3 wr w.heap.size) ∧ Hid (Below w.heap.size w wr) ∧ w.heap.size + 3 ≤ wr.heap.size) (fun _ i _ => 4 - (intOf i).toNat)
  case atStart => exact ⟨0, rfl, by omega, Lib.hid ⟨[], World.ownsRow_nil _ _ _ _, rfl⟩, Lib.hid (fun j h => by omega), Lib.hid (T3.new _ _ _ _), Lib.hid (new_ (new_ (new_ (Below.refl _ _) _) _) _), by simp⟩
  case round =>
    obtain ⟨k, rfl, hk, HO, HK, HT3, HB, hz⟩ := hrel
    by_cases hlt : k < 4
    · obtain ⟨b1, o1, u1, x1, rfl, _, g1, e1, r1, y1⟩ := (HV.out.keep (w' := wr) (fun p hp => HB.out.cell (by omega))).index k (by have := HL.out; omega)
      have q1 : decide ((k : Int) < 4) = true := decide_eq_true (by omega)
      have q1' : decide (k < 4) = true := decide_eq_true hlt
      have SA := Lib.hid (sect_at g1)
      obtain ⟨A1, c1', rfl, hl1, hm1⟩ := r1.form
      unfold maxLen at hm1
      by_cases hx : x1.length = 128
      · rw [hx] at e1 r1
        obtain ⟨b2, o2, rfl, _, _⟩ := r1.index 0 (by decide)
        have hc1 : 128 ≤ c1' := by omega
        have MI := Lib.hid (mid_ir r1 hx)
        have ML := Lib.hid (mid_len hx)
        have HX := Lib.hid hx
        obtain ⟨xs, ho, hxs⟩ := HO.out
        have OW := Lib.hid ho
        have XL := Lib.hid hxs
        clear r1 g1 hx y1 ho hxs
        go_wp2_with (at_builtin; refine wpList_append_all _ rfl _ _ _ rfl (w.heap.size + 3) 5 i0 .u8 1 Try.underlying22 hi0 hz0 hz1 hz2 _ (112 * k) xs rfl OW.out B (.slice (some ⟨b2, o2 + 8, none⟩) 112 (c1' - 8)) ((x1.drop 8).take 112) rfl MI.out (by rw [ML.out]; simp only [maxLen]; omega) (by rw [ML.out]; omega) hz ?_; intro v2 w2 hown2 hb2)
        rw [ML.out] at hown2
        have OW2 := Lib.hid hown2
        have HB2 := Lib.hid (HB.out.trans (hb2.mono (by omega)))
        have HT32 := Lib.hid (HT3.out.below hb2 (by omega))
        have z2 : w.heap.size + 3 ≤ w2.heap.size := by have := hb2.size; omega
        clear hown2 hb2
        go_wp2
        go_roundw
        case rel => exact ⟨k + 1, by go_num, by omega, Lib.hid ⟨_, OW2.out, by rw [List.length_append, XL.out, ML.out]; omega⟩, Lib.hid (fun j hj => by
            by_cases e : j = k
            · rw [e, SA.out]; exact HX.out
            · exact HK.out j (by omega)), HT32, HB2, z2⟩
        case measure => simp [intOf]; omega
      · have d1 : ((x1.length : Int) == 128) = false := by simp; omega
        have d2 : ((x1.length : Int) != 128) = true := by simp; omega
        have c0 : wr.cell? ⟨w.heap.size, 0, none⟩ = some (.slice none 0 0) := HT3.out.ba.cell 0
        have c1 : wr.cell? ⟨w.heap.size + 1, 0, none⟩ = some (.int .u64 0) := HT3.out.bb.cell 0
        have c2 : wr.cell? ⟨w.heap.size + 1 + 1, 0, none⟩ = some (.bool false) := HT3.out.bc.cell 0
        have f0 := HT3.out.ba.frozen 0
        have f1 := HT3.out.bb.frozen 0
        have f2 := HT3.out.bc.frozen 0
        clear r1 g1 hx
        go_wp2
        refine bodyPost_ret (v := .tuple #[.slice none 0 0, .int .u64 0, .bool false]) (by simp [results, Try.results14, go_sem, c0, c1, c2]; try rfl) rfl ?_
        exact .inr ⟨HN.out, rfl, ((HB.out.setCell (by simp) _).setCell (by simp) _).setCell (by simp; omega) _⟩
    · exact absurd (fun j hj => HK.out j (by have := HL.out; omega)) HNN.out
end Go.Proofs.Ytacjbgkcghcnnaa.Seal
