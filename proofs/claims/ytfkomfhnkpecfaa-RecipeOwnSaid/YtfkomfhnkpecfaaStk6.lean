import Derived.Test.YtfkomfhnkpecfaaStk4
import Derived.Test.YtfkomfhnkpecfaaStk5
/- Recipes: what the document says of them. -/
namespace Go.Proofs.Ytfkomfhnkpecfaa.Stk
open Go.ChangeShapes Go.WideShapes Go.ChangeAt Go.RowKit Go.IntWalk Go.Proofs.Mem Go.Proofs.Stk
set_option linter.unusedVariables false
/-- a recipe that reads so -/
def Rd (l1 l2 : List Pr) (w : World) (v : Value) : Prop := ∃ A1 c1 A2 c2, v = .agg #[.slice A1 l1.length c1, .slice A2 l2.length c2] ∧ KR w w.heap.size (.slice A1 l1.length c1) l1 ∧ KR w w.heap.size (.slice A2 l2.length c2) l2
theorem Rd.below {l1 l2 : List Pr} {w w' : World} {v : Value} (h : Rd l1 l2 w v) (hb : Below w.heap.size w w') : Rd l1 l2 w' v := by
  obtain ⟨A1, c1, A2, c2, e, h1, h2⟩ := h
  exact ⟨A1, c1, A2, c2, e, (h1.below hb).more hb.size, (h2.below hb).more hb.size⟩
/-- a recipe and what stands beside it -/
def RdPost (l1 l2 : List Pr) (x : Value) (w : World) (e : Ending) (w' : World) : Prop := ∃ v, e = .returned (.tuple #[v, x]) ∧ Rd l1 l2 w' v ∧ Below w.heap.size w w'
theorem OfPost.rd {l1 l2 : List Pr} {x : Value} {w w' : World} {e : Ending} (h : OfPost l1 l2 x w e w') (h1 : l1.length ≤ 1000) (h2 : l2.length ≤ 1000) : RdPost l1 l2 x w e w' := by
  obtain ⟨g1, g2, rfl, _, _, _, k1, k2, hb⟩ := h
  exact ⟨_, rfl, ⟨_, _, _, _, rfl, k1.reads h1, k2.reads h2⟩, hb⟩
theorem Rd.none (w : World) : Rd [] [] w (.agg #[.slice none 0 0, .slice none 0 0]) := ⟨_, _, _, _, rfl, KR.nil _ _, KR.nil _ _⟩
theorem lineS_one {id : Int} (h : isS id = true) : 1 ≤ (lineS id).1.length := by
  refine six (id := id) ?_ ?_ ?_ ?_ ?_ ?_ (fun h0 => by rw [h] at h0; cases h0)
  all_goals intro e; subst e; decide
theorem small_nil : small [] := by unfold small; simp
theorem times_one (l : List Pr) : times 1 l = l := by simp [times]
/-- a block of two cells that was just made, and what has become of it -/
theorem two_kept {w w' : World} {x y : Value} {t : TypeId} (h : Below (w.heap.size + 1) (w.alloc (.cells #[x, y] t)) w') :
    w'.cell? ⟨w.heap.size, 0, none⟩ = some x ∧ w'.cell? ⟨w.heap.size, 1, none⟩ = some y ∧ w'.frozen? ⟨w.heap.size, 0, none⟩ = false ∧ w'.frozen? ⟨w.heap.size, 1, none⟩ = false ∧ w.heap.size < w'.heap.size := by
  refine ⟨(h.cell (p := ⟨w.heap.size, 0, none⟩) (by simp)).trans (cell_new w _ _ 0), (h.cell (p := ⟨w.heap.size, 1, none⟩) (by simp)).trans (cell_new w _ _ 1), (h.frozen (p := ⟨w.heap.size, 0, none⟩) (by simp)).trans ?_, (h.frozen (p := ⟨w.heap.size, 1, none⟩) (by simp)).trans ?_, by have := h.size; simp at this; omega⟩
  · simp only [World.frozen?, show (w.alloc (.cells #[x, y] t)).heap[w.heap.size]? = _ from heap_alloc_new w _]; rfl
  · simp only [World.frozen?, show (w.alloc (.cells #[x, y] t)).heap[w.heap.size]? = _ from heap_alloc_new w _]; rfl
theorem rd_store {w w3 : World} {x y : Value} {t : TypeId} {A1 A2 : Option Addr} {n1 n2 c1 c2 lo1 lo2 : Nat} {l1 l2 : List Pr} (hB : Below (w.heap.size + 1) (w.alloc (.cells #[x, y] t)) w3) (h1 : KF w3 lo1 (.slice A1 n1 c1) l1) (h2 : KF w3 lo2 (.slice A2 n2 c2) l2) (q1 : w.heap.size + 1 ≤ lo1) (q2 : w.heap.size + 1 ≤ lo2) :
    Rd l1 l2 ((w3.setCell ⟨w.heap.size, 0, none⟩ (.slice A1 n1 c1)).setCell ⟨w.heap.size, 1, none⟩ (.slice A2 n2 c2)) (.agg #[.slice A1 n1 c1, .slice A2 n2 c2]) ∧
      Below w.heap.size w ((w3.setCell ⟨w.heap.size, 0, none⟩ (.slice A1 n1 c1)).setCell ⟨w.heap.size, 1, none⟩ (.slice A2 n2 c2)) := by
  have k1 := fun u v => ((h1.lower q1).setCell (p := ⟨w.heap.size, 0, none⟩) (Nat.lt_succ_self _) u).setCell (p := ⟨w.heap.size, 1, none⟩) (Nat.lt_succ_self _) v
  have k2 := fun u v => ((h2.lower q2).setCell (p := ⟨w.heap.size, 0, none⟩) (Nat.lt_succ_self _) u).setCell (p := ⟨w.heap.size, 1, none⟩) (Nat.lt_succ_self _) v
  obtain ⟨_, _, e1, _, _⟩ := h1.1.form
  obtain ⟨_, _, e2, _, _⟩ := h2.1.form
  injection e1 with _ e1 _
  injection e2 with _ e2 _
  subst e1; subst e2
  exact ⟨⟨_, _, _, _, rfl, (k1 _ _).1, (k2 _ _).1⟩, ((((Below.refl _ _).alloc (Nat.le_refl _) _).trans (hB.mono (by omega))).setCell (Nat.le_refl _) _).setCell (Nat.le_refl _) _⟩
set_option maxHeartbeats 2000000 in
theorem of_ref (id : Int) (w : World) : Calls Try.prog 8 #[.int .u32 id] w (RdPost (lineS id).1 (lineS id).2 (.bool (isS id)) w) := by
  obtain ⟨s1, s2⟩ := lineS_small id
  by_cases h : isS id = true
  · have hl := fun W => line_some id h W
    have ho := lineS_one h
    rw [h]
    generalize (lineS id).1 = l1 at *
    generalize (lineS id).2 = l2 at *
    have H := Lib.hid hl
    clear hl h
    have hf1 := flatI_len l1
    have hdd : decide (0 < ((flatI l1).length : Int)) = true := by simp; omega
    have hdn : 0 < (flatI l1).length := by omega
    clear hf1
    go_enter Try.func8, Try.ntmps8
    go_wp2_with fail
    (with_reducible refine (H.out _).mono ?_)
    rintro e w1 ⟨u, v, rfl, hu, hv, hb1⟩
    obtain ⟨Au, cu, rfl, hu1, hu2⟩ := hu.form
    go_wp2_with fail
    (with_reducible refine (stacks_any _ l1 1 ⟨by omega, by omega⟩ s1 _ hu).mono ?_)
    rintro e w2 ⟨a, rfl, ha, hb2⟩
    go_wp2_with fail
    (with_reducible refine (stacks_any _ l2 1 ⟨by omega, by omega⟩ s2 _ ((hv.below hb2).more hb2.size)).mono ?_)
    rintro e w3 ⟨b, rfl, hb, hb3⟩
    rw [times_one] at ha hb
    have z1 := hb1.size
    have z2 := hb2.size
    simp at z1
    have hB : Below (w.heap.size + 1) (w.alloc (.cells #[.slice none 0 0, .slice none 0 0] 26)) w3 := by
      simp at hb1
      exact (hb1.trans (hb2.mono (by omega))).trans (hb3.mono (by omega))
    obtain ⟨c0, c1, f0, f1, z3⟩ := two_kept hB
    have ha3 := ha.below hb3
    obtain ⟨Aa, ca, rfl, _, _⟩ := ha3.1.form
    obtain ⟨Ab, cb, rfl, _, _⟩ := hb.1.form
    have K := rd_store hB ha3 hb (by first | omega | simp) (by omega)
    go_wp2
    refine bodyPost_ret (v := .tuple #[.agg #[.slice Aa l1.length ca, .slice Ab l2.length cb], .bool true]) (by simp [results, Try.results8, go_sem, c0, c1]; try rfl) rfl ?_
    exact ⟨_, rfl, K⟩
  · go_enter Try.func8, Try.ntmps8
    have h' : isS id = false := by simpa using h
    go_wp2_with fail
    (with_reducible refine (line_none id h' _).mono ?_)
    rintro e w1 ⟨rfl, rfl⟩
    have n0 := IR.nil (w.alloc (.cells #[.slice none 0 0, .slice none 0 0] 26)) (w.alloc (.cells #[.slice none 0 0, .slice none 0 0] 26)).heap.size .u64
    go_wp2_with fail
    (with_reducible refine (stacks_any _ [] 1 ⟨by omega, by omega⟩ small_nil _ n0).mono ?_)
    rintro e w2 ⟨a, rfl, ha, hb2⟩
    go_wp2_with fail
    (with_reducible refine (stacks_any _ [] 1 ⟨by omega, by omega⟩ small_nil _ (IR.nil _ _ _)).mono ?_)
    rintro e w3 ⟨b, rfl, hb, hb3⟩
    rw [times_one] at ha hb
    have z2 := hb2.size
    simp at z2
    have hB : Below (w.heap.size + 1) (w.alloc (.cells #[.slice none 0 0, .slice none 0 0] 26)) w3 := by
      simp at hb2
      exact hb2.trans (hb3.mono (by omega))
    obtain ⟨c0, c1, f0, f1, z3⟩ := two_kept hB
    have ha3 := ha.below hb3
    obtain ⟨Aa, ca, rfl, _, _⟩ := ha3.1.form
    obtain ⟨Ab, cb, rfl, _, _⟩ := hb.1.form
    have K := rd_store hB ha3 hb (by first | omega | simp) (by omega)
    go_wp2
    refine bodyPost_ret (v := .tuple #[.agg #[.slice Aa 0 ca, .slice Ab 0 cb], .bool false]) (by simp [results, Try.results8, go_sem, c0, c1]; try rfl) rfl ?_
    rw [lineS_none h', h']
    exact ⟨_, rfl, K⟩
end Go.Proofs.Ytfkomfhnkpecfaa.Stk
