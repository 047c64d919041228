/- The law manciplelaw04.RecipeLines returns true whatever it is called with, and what it was called with reads as it did. No condition. -/
import Derived.Test.YtfkomfhnkpecfaaLaw
import Derived.Test.YtfkomfhnkpecfaaStkB
namespace Go.Proofs.Ytfkomfhnkpecfaa.LRecipeLines
open Go.ChangeShapes Go.WideShapes Go.ChangeAt Go.RowKit Go.IntWalk Go.Proofs.Mem Law
set_option linter.unusedVariables false
open Go.Proofs.Ytfkomfhnkpecfaa.Stk _root_.Go.Proofs.Stk
theorem items_apart (id : Int) : ∀ i k, k < i → i < (lineS id).1.length → (((lineS id).1.getD i (0, 0)).1 == ((lineS id).1.getD k (0, 0)).1) = false := by
  by_cases h : isS id = true
  · refine six (id := id) ?_ ?_ ?_ ?_ ?_ ?_ (fun h0 => by rw [h] at h0; cases h0)
    all_goals
      intro e; subst e; intro i k hk hi
      have hi3 : i < 3 := Nat.lt_of_lt_of_le hi (by decide)
      match i, k with
      | 0, _ => omega
      | 1, 0 => first | rfl | (simp [lineS] at hi)
      | 1, k + 1 => omega
      | 2, 0 => first | rfl | (simp [lineS] at hi)
      | 2, 1 => first | rfl | (simp [lineS] at hi)
      | 2, k + 2 => omega
      | i + 3, _ => omega
  · have h' : isS id = false := by simpa using h
    rw [lineS_none h']; intro i k _ hi; simp at hi
theorem lineS_two {id : Int} (h : isS id = true) : 1 ≤ (lineS id).2.length := by
  refine six (id := id) ?_ ?_ ?_ ?_ ?_ ?_ (fun h0 => by rw [h] at h0; cases h0)
  all_goals intro e; subst e; decide
set_option maxRecDepth 100000 in
set_option maxHeartbeats 4000000 in
theorem walk (w : World) (id : Int) (hid : 0 ≤ id ∧ id ≤ 4294967295) :
    Calls Try.prog 6 #[.int .u32 id] w fun e w' => e = .returned (.bool true) ∧ Below w.heap.size w w' := by
  by_cases h : isS id = true
  · obtain ⟨s1, s2⟩ := lineS_small id
    have hap := items_apart id
    have o1 := lineS_one h
    have o2 := lineS_two h
    have HA := fun W => of_any id W
    rw [h] at HA
    generalize (lineS id).1 = l at *
    generalize (lineS id).2 = m at *
    have HA' := Lib.hid HA
    have HP := Lib.hid hap
    have l3 := s1.1
    have HS := Lib.hid s1.2
    clear HA hap s1 s2 h
    go_enter Try.func6, Try.ntmps6
    go_wp2_with fail
    (with_reducible refine (HA'.out _).mono ?_)
    rintro e w1 ⟨v, rfl, rd1, hb1⟩
    obtain ⟨A1, c1, A2, c2, rfl, k1, k2⟩ := rd1
    have kz := Lib.hid (fun W (hW : Below w1.heap.size w1 W) => k1.below hW)
    obtain ⟨_, _, e1, hc1, hm1⟩ := k1.form
    injection e1 with e1 e2 e3
    subst e3
    unfold maxLen at hm1
    clear e1 e2 k1 k2
    go_wp2
    go_loopw [5] (fun c wr => ∃ i : Nat, i ≤ l.length ∧ c = .int .i64 i ∧ ∃ d, wr = (w1.alloc (.cells #[.slice A1 l.length c1, .slice A2 m.length c2] 26)).drewN d) (fun c _ => l.length - (intOf c).toNat)
    case atStart => exact ⟨0, by omega, rfl, 0, rfl⟩
    case round =>
      obtain ⟨i, hi, rfl, d, rfl⟩ := hrel
      by_cases hlt : i < l.length
      · have hdi : decide ((i : Int) < (l.length : Int)) = true := by simp; omega
        go_wp2
        go_loopw [6] (fun c wr => ∃ k : Nat, k ≤ i ∧ c = .int .i64 k ∧ ∃ d, wr = (w1.alloc (.cells #[.slice A1 l.length c1, .slice A2 m.length c2] 26)).drewN d) (fun c _ => i - (intOf c).toNat)
        case atStart => exact ⟨0, by omega, rfl, d, rfl⟩
        case round =>
          obtain ⟨k, hk, rfl, d2, rfl⟩ := hrel
          have kk := kz.out ((w1.alloc (.cells #[.slice A1 l.length c1, .slice A2 m.length c2] 26)).drewN d2) (below_drewN ((Below.refl _ _).new _) _)
          by_cases hlk : k < i
          · obtain ⟨b, off, rfl, hb, x1, x2⟩ := kk.index i hlt
            obtain ⟨b2, off2, ee, _, y1, y2⟩ := kk.index k (by omega)
            injection ee with ee; injection ee with e3 e4; subst e3; subst e4
            have hne := HP.out i k hlk hlt
            have u1 : (0 : Int) ≤ (i : Int) := by omega
            have u2 : (i : Int) < (l.length : Int) := by omega
            have u3 : (0 : Int) ≤ (k : Int) := by omega
            have u4 : (k : Int) < (l.length : Int) := by omega
            generalize l.getD i (0, 0) = p at *
            generalize l.getD k (0, 0) = q at *
            simp only [World.cell?_drewN] at x1 x2 y1 y2
            go_wp2
            go_quiet (fail)
            go_wp2
            go_roundw
            case rel => exact ⟨k + 1, by omega, by go_num, _, rfl⟩
            case measure => simp [intOf]; omega
          · obtain ⟨b, off, rfl, hb, x1, x2⟩ := kk.index i hlt
            have hp : l.getD i (0, 0) ∈ l := by simp [List.getD, List.getElem?_eq_getElem hlt]
            have hq := HS.out _ hp
            have hz : ((l.getD i (0, 0)).2 == 0) = false := by rw [beq_eq_false_iff_ne]; omega
            clear hp hq
            generalize l.getD i (0, 0) = p at *
            simp only [World.cell?_drewN] at x1 x2
            go_wp2
            go_roundw
            case rel => exact ⟨i + 1, by omega, by go_num, d2, rfl⟩
            case measure => simp [intOf]; omega
      · have t1 : decide (0 < (l.length : Int)) = true := by simp; omega
        have t2 : decide (0 < (m.length : Int)) = true := by simp; omega
        have t3 : 0 < l.length := by omega
        have t4 : 0 < m.length := by omega
        go_wp2_with fail
        (with_reducible refine (known_any _).mono ?_)
        rintro e w7 ⟨rfl, hb7⟩
        have hB : Below (w1.heap.size + 1) (w1.alloc (.cells #[.slice A1 l.length c1, .slice A2 m.length c2] 26)) w7 := by
          exact (below_drewN (Below.refl _ _) d).trans (hb7.mono (by simp))
        obtain ⟨p0, p1, _, _, y1⟩ := two_kept hB
        go_wp2
        go_ret
        exact ⟨rfl, (hb1.new _).trans (hB.mono (by have := hb1.size; omega))⟩
  · have h' : isS id = false := by simpa using h
    have HA := fun W => of_none id h' W
    have HA' := Lib.hid HA
    clear HA h h'
    go_enter Try.func6, Try.ntmps6
    go_wp2_with fail
    (with_reducible refine (HA'.out _).mono ?_)
    rintro e w1 ⟨rfl, hb1⟩
    go_wp2_with fail
    (with_reducible refine (known_any _).mono ?_)
    rintro e w7 ⟨rfl, hb7⟩
    have hB : Below (w1.heap.size + 1) (w1.alloc (.cells #[.slice none 0 0, .slice none 0 0] 26)) w7 := by simpa using hb7
    obtain ⟨p0, p1, _, _, y1⟩ := two_kept hB
    go_wp2
    go_ret
    exact ⟨rfl, (hb1.new _).step hb7⟩


set_option maxRecDepth 100000 in
theorem lifted (os : Os) (started : os.Started) (H : Type) (enc : TypeId × Value → H) :
    ReturnsInHanded {} Try.checked os 6 .any (Rows.recipeLinesSpec.pre6 enc Try.prog Try.f6 Rows.recipeLinesRow.domain false) (Rows.recipeLinesSpec.post enc Try.prog Try.f6 false true false false) := by
  refine returnsInHanded_of_change (C := Try.checked) own started (by kernel_rfl) Try.func6
    (ChangeSpec.witness6 (enc := enc) (C := Try.checked) false ⟨#[], #[.int .u32 0], []⟩ 8 (by kernel_rfl) (by kernel_rfl) (by kernel_rfl) (by kernel_rfl)) ?_
  intro W base args ds gs before hval0 hW hcnd _
  have hval : ∀ (j : Nat) t v, Try.f6.params[j]? = some t → args[j]? = some v → Value.okWide Try.prog W .any base t v := hval0
  have hW' := hW
  obtain ⟨p, q, hA0, hV, rfl, hfz, hnd⟩ := hW
  have hA1 : DataW.TrodAll enc Try.prog W 0 (fun _ => true) true Try.f6.params.toList args.toList ds p := hA0
  have hA := hA1
  rw [Try.params6] at hA hval
  obtain ⟨v0, vs0, d0, ds0, p0, q0, hargs, rfl, rfl, h0, r0⟩ := trodAll_cons hA
  obtain ⟨rfl, rfl, rfl⟩ := trodAll_nil r0
  obtain rfl : args = #[v0] := by cases args; simp_all
  obtain ⟨rfl, rfl⟩ := trodVars_none hV
  obtain ⟨id, rfl, rfl, rfl, wf0⟩ := open_int Try.underlying22 (hval 0 22 v0 rfl rfl) h0
  clear hA0 hval0
  refine (walk W id (bounds_u32 wf0)).mono fun e W' ⟨he, bel⟩ => ?_
  subst he
  exact ⟨_, rfl, _, _, _, [], _, [], hW', trodAll_mk1 (shut_bool Try.underlying4 _), args_again laidOut bel (by kernel_rfl) hA1, rfl, bel.frame _, fun h => by cases h⟩

theorem over : Rows.recipeLinesRow.holds Try.pinned (OpenSpec.ofChange Rows.recipeLinesSpec) :=
  OpenClaim.holds_of_wide 6 Try.f6 rfl rfl rfl rfl rfl rfl rfl ⟨rfl, rfl, rfl, rfl, rfl⟩ rfl rfl rfl rfl rfl (by kernel_rfl) Try.func6 (by kernel_rfl)
    (of_decide_eq_true (by kernel_rfl)) (by unfold Func.isWrapper; first | (rw [if_pos (by decide +kernel)]; kernel_rfl) | (rw [if_neg (by decide +kernel)]; exact ⟨rfl, rfl⟩))
    (fun os started H enc _ => lifted os started H enc)

theorem proved : Rows.RecipeLinesSaid := over
end Go.Proofs.Ytfkomfhnkpecfaa.LRecipeLines
