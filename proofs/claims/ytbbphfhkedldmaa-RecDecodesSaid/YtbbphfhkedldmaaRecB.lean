import Derived.Test.YtbbphfhkedldmaaRecA
import Derived.Lib.SliceRun
/- slices.Clone; two changes that are the same; the document's change turned. -/
namespace Go.Proofs.Ytbbphfhkedldmaa.Rec
open Go.ChangeShapes Go.WideShapes Go.ChangeAt Go.RowKit Go.IntWalk Go.Proofs.NumMath Go.Proofs.Mem Go.Proofs.CrcMath NumBytes CrcA
set_option linter.unusedVariables false
set_option linter.unusedSimpArgs false
set_option maxHeartbeats 4000000 in
theorem clone_any (v : Value) (xs : List Int) (w : World) (B : Nat) (hv : IR w B .u8 v xs) (hB : B ≤ w.heap.size) (hl : xs.length ≤ 100000) :
    Calls Try.prog 38 #[v] w fun e w' => ∃ u, e = .returned u ∧ w'.ownsRow w.heap.size 5 1 u xs.length (xs.map (.int .u8)) ∧ Below w.heap.size w w' := by
  obtain ⟨i0, hi0, hz0, hz1, hz2⟩ := info_parts u8_info
  obtain ⟨A, c, rfl, hlc, hcm⟩ := hv.form
  cases A with
  | none =>
    have hc : c = 0 := by
      obtain ⟨A', c', e, _, _, h4, _⟩ := hv
      injection e with e1 e2 e3
      subst e1; subst e3
      exact h4 rfl
    subst hc
    have hx : xs = [] := List.eq_nil_of_length_eq_zero (by omega)
    subst hx
    have hq : ∀ W, (binOp .eql 25 (.slice none 0 0) (.slice none 0 0)).run Try.prog W = .ok (.bool true) W := fun W => Go.Lib.run_eql_slice_nil W 25 5 none 0 0 0 0 Try.underlying25
    go_enter Try.func38, Try.ntmps38
    go_wp2
    go_ret
    exact ⟨_, rfl, World.ownsRow_nil _ _ _ _, Below.refl _ _⟩
  | some a =>
    have HV := Lib.hid (hv.alloc hB (.cells #[] 5))
    have OW := Lib.hid (show (w.alloc (.cells #[] 5)).ownsRow w.heap.size 5 1 (.slice (some ⟨w.heap.size, 0, none⟩) 0 0) 0 (([] : List Int).map (.int .u8)) from ⟨rfl, .inr ⟨w.heap.size, 0, _, rfl, Nat.le_refl _, heap_alloc_new w _, Nat.le_refl _, Nat.zero_le _, rfl, rfl⟩⟩)
    clear hv
    have hq : ∀ W, (binOp .eql 25 (.slice (some a) xs.length c) (.slice none 0 0)).run Try.prog W = .ok (.bool false) W := fun W => Go.Lib.run_eql_slice_nil W 25 5 (some a) xs.length c 0 0 Try.underlying25
    go_enter Try.func38, Try.ntmps38
    go_wp2_with (at_builtin; refine wpList_append_tx _ rfl _ _ _ _ rfl w.heap.size 5 5 i0 .u8 1 Try.underlying25 Try.underlying25 hi0 hz0 hz1 hz2 _ 0 [] rfl OW.out B _ xs rfl HV.out (by unfold maxLen; omega) (by omega) (by simp) ?_; intro v2 w2 hown2 hg2 ho2; rw [Nat.zero_add, List.nil_append] at hown2; have OW2 := Lib.hid hown2; have HB2 := Lib.hid (below_row (new_ (Below.refl w.heap.size w) (.cells #[] 5)) OW.out hg2 (Nat.le_refl _) (by simp)); clear hown2 hg2 ho2)
    go_ret
    exact ⟨_, rfl, OW2.out, HB2.out⟩
/-- a change's cells -/
@[reducible] def cgC (pg sl : Int) (had has : Bool) (a b : Value) : Array Value := #[.int .u32 pg, .int .u16 sl, .bool had, .bool has, a, b]
set_option maxRecDepth 100000 in
set_option maxHeartbeats 4000000 in
theorem same_cg (pg sl : Int) (had has : Bool) (a b a' b' : Value) (xs ys : List Int) (w : World) (B : Nat) (hB : B ≤ w.heap.size) (ha : IR w B .u8 a xs) (ha' : IR w B .u8 a' xs) (hb : IR w B .u8 b ys) (hb' : IR w B .u8 b' ys) (hx : Bytes xs) (hy : Bytes ys) :
    Calls Try.prog 19 #[.agg (cgC pg sl had has a b), .agg (cgC pg sl had has a' b')] w fun e w' => e = .returned (.bool true) ∧ Below w.heap.size w w' := by
  have up : ∀ u zs, IR w B .u8 u zs → IR ((w.alloc (.cells (cgC pg sl had has a b) 27)).alloc (.cells (cgC pg sl had has a' b') 27)) B .u8 u zs := fun u zs h => (h.alloc hB _).alloc (by simp; omega) _
  have h1 := (up _ _ ha).text (P := Try.prog) (dst := 9) Try.underlying25 Try.underlying5 Try.underlying9
  have h2 := (up _ _ ha').text (P := Try.prog) (dst := 9) Try.underlying25 Try.underlying5 Try.underlying9
  have h3 := (up _ _ hb).text (P := Try.prog) (dst := 9) Try.underlying25 Try.underlying5 Try.underlying9
  have h4 := (up _ _ hb').text (P := Try.prog) (dst := 9) Try.underlying25 Try.underlying5 Try.underlying9
  have e1 : (pg == pg) = true := by simp
  have e2 : (sl == sl) = true := by simp
  have e3 : (had == had) = true := by simp
  have e4 : (has == has) = true := by simp
  have e5 : ((strOfNums xs).toList == (strOfNums xs).toList) = true := by simp
  have e6 : ((strOfNums ys).toList == (strOfNums ys).toList) = true := by simp
  obtain ⟨A1, c1, rfl, _, _⟩ := ha.form
  obtain ⟨A2, c2, rfl, _, _⟩ := ha'.form
  obtain ⟨A3, c3, rfl, _, _⟩ := hb.form
  obtain ⟨A4, c4, rfl, _, _⟩ := hb'.form
  clear ha ha' hb hb' up
  go_enter Try.func19, Try.ntmps19
  go_wp2
  go_ret
  exact ⟨rfl, new_ (new_ (Below.refl _ _) _) _⟩
end Go.Proofs.Ytbbphfhkedldmaa.Rec
