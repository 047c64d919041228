import Derived.Test.YtfkomfhnkpecfaaStk1
/- Recipes: lists compared and counted. -/
namespace Go.Proofs.Ytfkomfhnkpecfaa.Stk
open Go.ChangeShapes Go.WideShapes Go.ChangeAt Go.RowKit Go.IntWalk Go.Proofs.Mem Go.Proofs.Stk
set_option linter.unusedVariables false
theorem ret_int {k : IntKind} {a b : Int} (h : a = b) : Ending.returned (.int k a) = .returned (.int k b) := by rw [h]
theorem ret_bool {a b : Bool} (h : a = b) : Ending.returned (.bool a) = .returned (.bool b) := by rw [h]
theorem cnt_drop (item : Int) (l : List Pr) (j : Nat) (h : j < l.length) : cnt item (l.drop j) = if (l.getD j (0, 0)).1 = item then (l.getD j (0, 0)).2 else cnt item (l.drop (j + 1)) := by
  rw [List.drop_eq_getElem_cons h]
  simp [cnt, List.getD, List.getElem?_eq_getElem h]
/-- what is in a list fits its types -/
def okL (l : List Pr) : Prop := l.length ≤ 1000 ∧ ∀ p ∈ l, (0 ≤ p.1 ∧ p.1 ≤ 4294967295) ∧ 0 ≤ p.2 ∧ p.2 ≤ 18446744073709551615
set_option maxHeartbeats 1000000 in
theorem count_ref (v : Value) (l : List Pr) (item : Int) (hl : l.length ≤ 1000) (w : World) (B : Nat) (hv : KR w B v l) :
    Calls Try.prog 19 #[v, .int .u32 item] w fun e w' => e = .returned (.int .u64 (cnt item l)) ∧ w = w' := by
  obtain ⟨A, c, rfl, hlc, hcm⟩ := hv.form
  unfold maxLen at hcm
  go_enter Try.func19, Try.ntmps19
  go_wp2
  go_loop [5] (fun i => ∃ j : Nat, j ≤ l.length ∧ i = .int .i64 j ∧ cnt item (l.drop j) = cnt item l) (fun i => l.length - (intOf i).toNat)
  case atStart => exact ⟨0, by omega, rfl, by simp⟩
  case round =>
    obtain ⟨j, hj, rfl, hg⟩ := hrel
    have HG := Lib.hid hg
    clear hg
    by_cases hlt : j < l.length
    · obtain ⟨b, off, rfl, hb, hc1, hc2⟩ := hv.index j hlt
      have hs := cnt_drop item l j hlt
      generalize l.getD j (0, 0) = p at *
      have HS := Lib.hid hs
      clear hs
      by_cases he : p.1 = item
      · have hd : (p.1 == item) = true := by simpa using he
        have HE := Lib.hid he
        clear he
        go_wp2
        go_ret
        exact ⟨ret_int (by rw [← HG.out, HS.out, if_pos HE.out]), rfl⟩
      · have hd : (p.1 == item) = false := by simpa using he
        have HE := Lib.hid he
        clear he
        go_wp2
        go_round
        case rel => exact ⟨j + 1, by omega, by go_num, by rw [← HG.out, HS.out, if_neg HE.out]⟩
        case measure => simp [intOf]; omega
    · go_wp2
      go_ret
      have := HG.out
      rw [List.drop_eq_nil_of_le (by omega)] at this
      exact ⟨ret_int this, rfl⟩
set_option maxHeartbeats 1000000 in
theorem count_any (v : Value) (l : List Pr) (item : Int) (hl : l.length ≤ 1000) (w : World) (hv : KR w w.heap.size v l) :
    Calls Try.prog 18 #[v, .int .u32 item] w fun e w' => e = .returned (.int .u64 (cnt item l)) ∧ Below w.heap.size w w' := by
  obtain ⟨A, c, rfl, hlc, hcm⟩ := hv.form
  unfold maxLen at hcm
  go_enter Try.func18, Try.ntmps18
  go_wp2
  go_loopw [9] (fun i wr => ∃ j : Nat, j ≤ l.length ∧ i = .int .i64 j ∧ cnt item (l.drop j) = cnt item l ∧ Below w.heap.size w wr) (fun i _ => l.length - (intOf i).toNat)
  case atStart => exact ⟨0, by omega, rfl, by simp, Below.refl _ _⟩
  case round =>
    obtain ⟨j, hj, rfl, hg, hbel⟩ := hrel
    have HG := Lib.hid hg
    clear hg
    by_cases hlt : j < l.length
    · obtain ⟨b, off, rfl, hb, hc1, hc2⟩ := (hv.below hbel).index j hlt
      have hs := cnt_drop item l j hlt
      generalize l.getD j (0, 0) = p at *
      have HS := Lib.hid hs
      clear hs
      by_cases he : p.1 = item
      · have hd : (p.1 == item) = true := by simpa using he
        have HE := Lib.hid he
        clear he
        go_wp2
        go_ret
        exact ⟨ret_int (by rw [← HG.out, HS.out, if_pos HE.out]), hbel.alloc hbel.size _⟩
      · have hd : (p.1 == item) = false := by simpa using he
        have HE := Lib.hid he
        clear he
        go_wp2
        go_roundw
        case rel => exact ⟨j + 1, by omega, by go_num, by rw [← HG.out, HS.out, if_neg HE.out], hbel.alloc hbel.size _⟩
        case measure => simp [intOf]; omega
    · go_wp2
      go_ret
      have := HG.out
      rw [List.drop_eq_nil_of_le (by omega)] at this
      exact ⟨ret_int this, hbel⟩
end Go.Proofs.Ytfkomfhnkpecfaa.Stk
