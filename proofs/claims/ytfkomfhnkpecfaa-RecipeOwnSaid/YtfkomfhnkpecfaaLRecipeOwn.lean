/- The law manciplelaw04.RecipeOwn returns true whatever it is called with, and what it was called with reads as it did. No condition. -/
import Derived.Test.YtfkomfhnkpecfaaLaw
import Derived.Test.YtfkomfhnkpecfaaStkB
namespace Go.Proofs.Ytfkomfhnkpecfaa.LRecipeOwn
open Go.ChangeShapes Go.WideShapes Go.ChangeAt Go.RowKit Go.IntWalk Go.Proofs.Mem Law
set_option linter.unusedVariables false
open Go.Proofs.Ytfkomfhnkpecfaa.Stk _root_.Go.Proofs.Stk
/-- a block of n stacks that may be written -/
def OB (w : World) (g n : Nat) : Prop := ∃ cs : Array Value, w.heap[g]? = some (.cells cs 41 (0, 0)) ∧ cs.size = n * 2
theorem KO.ob {w : World} {g : Nat} {l : List Pr} (h : KO w g 41 l) : OB w g l.length := ⟨_, h, by simp [flat_len]⟩
theorem OB.lt {w : World} {g n : Nat} (h : OB w g n) : g < w.heap.size := by
  obtain ⟨cs, h, _⟩ := h
  rcases Nat.lt_or_ge g w.heap.size with hlt | hge
  · exact hlt
  · rw [Array.getElem?_eq_none hge] at h; cases h
theorem OB.cell {w : World} {g n : Nat} (h : OB w g n) (i : Nat) (hi : i < n * 2) : ∃ u, w.cell? ⟨g, i, none⟩ = some u := by
  obtain ⟨cs, h, hs⟩ := h
  exact ⟨cs[i], by simp [World.cell?, h, show i < cs.size by omega]⟩
theorem OB.frozen {w : World} {g n : Nat} (h : OB w g n) (i : Nat) : w.frozen? ⟨g, i, none⟩ = false := by
  obtain ⟨cs, h, hs⟩ := h
  simp [World.frozen?, h]
theorem OB.setCell {w : World} {g n : Nat} (h : OB w g n) (p : Addr) (v : Value) : OB (w.setCell p v) g n := by
  obtain ⟨cs, h, hs⟩ := h
  by_cases e : g = p.block
  · subst e
    refine ⟨if p.spot.isSome then cs else cs.setIfInBounds p.off v, by simp [World.setCell, Array.getElem?_modify, h], ?_⟩
    split <;> simp [hs]
  · exact ⟨cs, (Below.heap_setCell w p v g e).trans h, hs⟩
theorem OB.alloc {w : World} {g n : Nat} (h : OB w g n) (o : Obj) : OB (w.alloc o) g n := by
  have := h.lt
  obtain ⟨cs, h, hs⟩ := h
  exact ⟨cs, (Below.heap_alloc w o g this).trans h, hs⟩
set_option maxRecDepth 100000 in
set_option maxHeartbeats 4000000 in
/-- what follows once the first has been written over -/
theorem walk (w : World) (id : Int) (hid : 0 ≤ id ∧ id ≤ 4294967295) :
    Calls Try.prog 5 #[.int .u32 id] w fun e w' => e = .returned (.bool true) ∧ Below w.heap.size w w' := by
  obtain ⟨s1, s2⟩ := lineS_small id
  have l3 := s1.1
  have m3 := s2.1
  have HA := Lib.hid (fun W => of_any id W)
  have HB := Lib.hid (fun W => of_ref id W)
  by_cases h : isS id = true
  · have HO := Lib.hid (fun W => of_some id h W)
    rw [h] at HA HB
    generalize (lineS id).1 = l at *
    generalize (lineS id).2 = m at *
    clear s1 s2 h
    go_enter Try.func5, Try.ntmps5
    go_wp2_with fail
    (with_reducible refine (HO.out _).mono ?_)
    rintro e w1 ⟨g1, g2, rfl, hne, hg1, hg2, k1, k2, hb1⟩
    unfold rv
    have ob1 := KO.ob k1
    have ob2 := KO.ob k2
    have y1 := k1.lt
    have y2 := k2.lt
    have z1 := hb1.size
    have O1 := Lib.hid ob1
    have O2 := Lib.hid ob2
    clear k1 k2 hne ob1 ob2
    go_wp2
    go_loopw [5] (fun c wr => ∃ i : Nat, i ≤ l.length ∧ c = .int .i64 i ∧ wr.cell? ⟨w1.heap.size, 0, none⟩ = some (.slice (some ⟨g1, 0, none⟩) l.length l.length) ∧ wr.cell? ⟨w1.heap.size, 1, none⟩ = some (.slice (some ⟨g2, 0, none⟩) m.length m.length) ∧
      Hid (OB wr g1 l.length) ∧ Hid (OB wr g2 m.length) ∧ Below w.heap.size w wr ∧ w1.heap.size < wr.heap.size) (fun c _ => l.length - (intOf c).toNat)
    case atStart => exact ⟨0, by omega, rfl, by simp, by simp, Lib.hid (O1.out.alloc _), Lib.hid (O2.out.alloc _), hb1.new _, by simp⟩
    case round =>
      obtain ⟨i, hi, rfl, p0, p1, q1, q2, hbw, hsz⟩ := hrel
      by_cases hlt : i < l.length
      · obtain ⟨u, hu⟩ := q1.out.cell (i * 2) (by omega)
        obtain ⟨v, hv⟩ := q1.out.cell (i * 2 + 1) (by omega)
        have f1 := q1.out.frozen (i * 2)
        have f2 := q1.out.frozen (i * 2 + 1)
        have hne1 : g1 ≠ w1.heap.size := by omega
        go_wp2
        go_roundw
        case rel => exact ⟨i + 1, by omega, by go_num, by rw [World.cell?_setCell_far _ _ _ _ (by simp; omega), World.cell?_setCell_far _ _ _ _ (by simp; omega)]; exact p0, by rw [World.cell?_setCell_far _ _ _ _ (by simp; omega), World.cell?_setCell_far _ _ _ _ (by simp; omega)]; exact p1, Lib.hid ((q1.out.setCell _ _).setCell _ _), Lib.hid ((q2.out.setCell _ _).setCell _ _), (hbw.setCell hg1 _).setCell hg1 _, by simpa [World.setCell] using hsz⟩
        case measure => simp [intOf]; omega
      · go_wp2
        go_loopw [6] (fun c wr => ∃ i : Nat, i ≤ m.length ∧ c = .int .i64 i ∧ wr.cell? ⟨w1.heap.size, 0, none⟩ = some (.slice (some ⟨g1, 0, none⟩) l.length l.length) ∧ wr.cell? ⟨w1.heap.size, 1, none⟩ = some (.slice (some ⟨g2, 0, none⟩) m.length m.length) ∧
          Hid (OB wr g2 m.length) ∧ Below w.heap.size w wr ∧ w1.heap.size < wr.heap.size) (fun c _ => m.length - (intOf c).toNat)
        case atStart => exact ⟨0, by omega, rfl, p0, p1, q2, hbw, hsz⟩
        case round =>
          clear p0 p1 hbw hsz q1 q2
          obtain ⟨k, hk, rfl, p0, p1, q2, hbw, hsz⟩ := hrel
          by_cases hlt2 : k < m.length
          · obtain ⟨u, hu⟩ := q2.out.cell (k * 2) (by omega)
            obtain ⟨v, hv⟩ := q2.out.cell (k * 2 + 1) (by omega)
            have f1 := q2.out.frozen (k * 2)
            have f2 := q2.out.frozen (k * 2 + 1)
            have hne1 : g2 ≠ w1.heap.size := by omega
            go_wp2
            go_roundw
            case rel => exact ⟨k + 1, by omega, by go_num, by rw [World.cell?_setCell_far _ _ _ _ (by simp; omega), World.cell?_setCell_far _ _ _ _ (by simp; omega)]; exact p0, by rw [World.cell?_setCell_far _ _ _ _ (by simp; omega), World.cell?_setCell_far _ _ _ _ (by simp; omega)]; exact p1, Lib.hid ((q2.out.setCell _ _).setCell _ _), (hbw.setCell hg2 _).setCell hg2 _, by simpa [World.setCell] using hsz⟩
            case measure => simp [intOf]; omega
          · go_wp2_with fail
            (with_reducible refine (HA.out _).mono ?_)
            rintro e w2 ⟨v, rfl, rd2, hb2⟩
            obtain ⟨A1, c1, A2, c2, rfl, k1, k2⟩ := rd2
            go_wp2_with fail
            (with_reducible refine (HB.out _).mono ?_)
            rintro e w3 ⟨v, rfl, rd3, hb3⟩
            obtain ⟨A3, c3, A4, c4, rfl, k3, k4⟩ := rd3
            go_wp2_with fail
            (with_reducible refine (known_any _).mono ?_)
            rintro e w7 ⟨rfl, hb7⟩
            have z3 := hb3.size
            have z7 := hb7.size
            simp at z3 z7
            have b37 : Below (w3.heap.size + 1) (w3.alloc (.cells #[.slice A3 l.length c3, .slice A4 m.length c4] 26)) w7 := by
              simpa using hb7
            have b27 : Below (w2.heap.size + 1) (w2.alloc (.cells #[.slice A1 l.length c1, .slice A2 m.length c2] 26)) w7 := by
              simp at hb3; exact (hb3.trans ((Below.refl _ _).alloc (by omega) _)).trans (b37.mono (by omega))
            have a27 : Below w2.heap.size w2 w7 := ((Below.refl _ _).new _).trans (b27.mono (by omega))
            have a37 : Below w3.heap.size w3 w7 := ((Below.refl _ _).new _).trans (b37.mono (by omega))
            obtain ⟨p2, p3, _, _, y2⟩ := two_kept b27
            obtain ⟨p4, p5, _, _, y3⟩ := two_kept b37
            have r1 := Lib.hid (show Rd l m w7 (.agg #[.slice A1 l.length c1, .slice A2 m.length c2]) from Rd.below ⟨_, _, _, _, rfl, k1, k2⟩ a27)
            have r2 := Lib.hid (show Rd l m w7 (.agg #[.slice A3 l.length c3, .slice A4 m.length c4]) from Rd.below ⟨_, _, _, _, rfl, k3, k4⟩ a37)
            have hw7 : Below w.heap.size w w7 := (hbw.step hb2).step a27
            clear b27 b37 a27 a37 k1 k2 k3 k4 hb2 hb3 hb7 z3 z7 hbw
            go_wp2_with fail
            (with_reducible refine (same_any _ _ l m l m _ r1.out r2.out (by omega) (by omega) (by omega) (by omega)).mono ?_)
            rintro e w8 ⟨rfl, hb8⟩
            rw [decide_eq_true (rfl : l = l), decide_eq_true (rfl : m = m)]
            go_wp2
            go_ret
            exact ⟨by simp, hw7.step hb8⟩
  · have h' : isS id = false := by simpa using h
    have HO := Lib.hid (fun W => of_none id h' W)
    rw [lineS_none h', h'] at HA HB
    clear s1 s2 h h' l3 m3
    go_enter Try.func5, Try.ntmps5
    go_wp2_with fail
    (with_reducible refine (HO.out _).mono ?_)
    rintro e w1 ⟨rfl, hb1⟩
    go_wp2
    go_loopw [5] (fun c wr => c = .int .i64 0 ∧ wr = w1.alloc (.cells #[.slice none 0 0, .slice none 0 0] 26)) (fun c _ => 0)
    case atStart => exact ⟨rfl, rfl⟩
    case round =>
      obtain ⟨rfl, rfl⟩ := hrel
      go_wp2
      go_loopw [6] (fun c wr => c = .int .i64 0 ∧ wr = w1.alloc (.cells #[.slice none 0 0, .slice none 0 0] 26)) (fun c _ => 0)
      case atStart => exact ⟨rfl, rfl⟩
      case round =>
        obtain ⟨rfl, rfl⟩ := hrel
        go_wp2_with fail
        (with_reducible refine (HA.out _).mono ?_)
        rintro e w2 ⟨v, rfl, rd2, hb2⟩
        obtain ⟨A1, c1, A2, c2, rfl, k1, k2⟩ := rd2
        go_wp2_with fail
        (with_reducible refine (HB.out _).mono ?_)
        rintro e w3 ⟨v, rfl, rd3, hb3⟩
        obtain ⟨A3, c3, A4, c4, rfl, k3, k4⟩ := rd3
        go_wp2_with fail
        (with_reducible refine (known_any _).mono ?_)
        rintro e w7 ⟨rfl, hb7⟩
        have z3 := hb3.size
        have z7 := hb7.size
        simp at z3 z7
        have b37 : Below (w3.heap.size + 1) (w3.alloc (.cells #[.slice A3 0 c3, .slice A4 0 c4] 26)) w7 := by
          simpa using hb7
        have b27 : Below (w2.heap.size + 1) (w2.alloc (.cells #[.slice A1 0 c1, .slice A2 0 c2] 26)) w7 := by
          simp at hb3; exact (hb3.trans ((Below.refl _ _).alloc (by omega) _)).trans (b37.mono (by omega))
        have a27 : Below w2.heap.size w2 w7 := ((Below.refl _ _).new _).trans (b27.mono (by omega))
        have a37 : Below w3.heap.size w3 w7 := ((Below.refl _ _).new _).trans (b37.mono (by omega))
        obtain ⟨p2, p3, _, _, y2⟩ := two_kept b27
        obtain ⟨p4, p5, _, _, y3⟩ := two_kept b37
        have r1 := Lib.hid (show Rd [] [] w7 (.agg #[.slice A1 0 c1, .slice A2 0 c2]) from Rd.below ⟨_, _, _, _, rfl, k1, k2⟩ a27)
        have r2 := Lib.hid (show Rd [] [] w7 (.agg #[.slice A3 0 c3, .slice A4 0 c4]) from Rd.below ⟨_, _, _, _, rfl, k3, k4⟩ a37)
        have hw7 : Below w.heap.size w w7 := ((hb1.new _).step hb2).step a27
        clear b27 b37 a27 a37 k1 k2 k3 k4 hb2 hb3 hb7 z3 z7 hb1
        go_wp2_with fail
        (with_reducible refine (same_any _ _ [] [] [] [] _ r1.out r2.out (by simp) (by simp) (by simp) (by simp)).mono ?_)
        rintro e w8 ⟨rfl, hb8⟩
        go_wp2
        go_ret
        exact ⟨by simp, hw7.step hb8⟩


set_option maxRecDepth 100000 in
theorem lifted (os : Os) (started : os.Started) (H : Type) (enc : TypeId × Value → H) :
    ReturnsInHanded {} Try.checked os 5 .any (Rows.recipeOwnSpec.pre6 enc Try.prog Try.f5 Rows.recipeOwnRow.domain false) (Rows.recipeOwnSpec.post enc Try.prog Try.f5 false true false false) := by
  refine returnsInHanded_of_change (C := Try.checked) own started (by kernel_rfl) Try.func5
    (ChangeSpec.witness6 (enc := enc) (C := Try.checked) false ⟨#[], #[.int .u32 0], []⟩ 8 (by kernel_rfl) (by kernel_rfl) (by kernel_rfl) (by kernel_rfl)) ?_
  intro W base args ds gs before hval0 hW hcnd _
  have hval : ∀ (j : Nat) t v, Try.f5.params[j]? = some t → args[j]? = some v → Value.okWide Try.prog W .any base t v := hval0
  have hW' := hW
  obtain ⟨p, q, hA0, hV, rfl, hfz, hnd⟩ := hW
  have hA1 : DataW.TrodAll enc Try.prog W 0 (fun _ => true) true Try.f5.params.toList args.toList ds p := hA0
  have hA := hA1
  rw [Try.params5] at hA hval
  obtain ⟨v0, vs0, d0, ds0, p0, q0, hargs, rfl, rfl, h0, r0⟩ := trodAll_cons hA
  obtain ⟨rfl, rfl, rfl⟩ := trodAll_nil r0
  obtain rfl : args = #[v0] := by cases args; simp_all
  obtain ⟨rfl, rfl⟩ := trodVars_none hV
  obtain ⟨id, rfl, rfl, rfl, wf0⟩ := open_int Try.underlying22 (hval 0 22 v0 rfl rfl) h0
  clear hA0 hval0
  refine (walk W id (bounds_u32 wf0)).mono fun e W' ⟨he, bel⟩ => ?_
  subst he
  exact ⟨_, rfl, _, _, _, [], _, [], hW', trodAll_mk1 (shut_bool Try.underlying4 _), args_again laidOut bel (by kernel_rfl) hA1, rfl, bel.frame _, fun h => by cases h⟩

theorem over : Rows.recipeOwnRow.holds Try.pinned (OpenSpec.ofChange Rows.recipeOwnSpec) :=
  OpenClaim.holds_of_wide 5 Try.f5 rfl rfl rfl rfl rfl rfl rfl ⟨rfl, rfl, rfl, rfl, rfl⟩ rfl rfl rfl rfl rfl (by kernel_rfl) Try.func5 (by kernel_rfl)
    (of_decide_eq_true (by kernel_rfl)) (by unfold Func.isWrapper; first | (rw [if_pos (by decide +kernel)]; kernel_rfl) | (rw [if_neg (by decide +kernel)]; exact ⟨rfl, rfl⟩))
    (fun os started H enc _ => lifted os started H enc)

theorem proved : Rows.RecipeOwnSaid := over
end Go.Proofs.Ytfkomfhnkpecfaa.LRecipeOwn
