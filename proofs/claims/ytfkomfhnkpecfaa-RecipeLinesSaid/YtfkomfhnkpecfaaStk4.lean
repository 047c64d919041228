import Derived.Test.YtfkomfhnkpecfaaStk2
import Derived.Deep.RegionHeld3
import Derived.Deep.AppendLies
import Derived.IntWalk
/- Recipes: the document's rows, and stacks made of them. -/
namespace Go.Proofs.Ytfkomfhnkpecfaa.Stk
open Go.ChangeShapes Go.WideShapes Go.ChangeAt Go.RowKit Go.IntWalk Go.Proofs.Mem Go.Proofs.Stk
set_option linter.unusedVariables false
def flatI (l : List Pr) : List Int := l.flatMap fun p => [p.1, p.2]
theorem flatI_len : ∀ (l : List Pr), (flatI l).length = 2 * l.length
  | [] => rfl
  | p :: l => by show (p.1 :: p.2 :: flatI l).length = _; simp [flatI_len l]; omega
theorem flatI_at : ∀ (l : List Pr) (j : Nat), j < l.length → (flatI l).getD (2 * j) 0 = (l.getD j (0, 0)).1 ∧ (flatI l).getD (2 * j + 1) 0 = (l.getD j (0, 0)).2
  | [], j, h => by simp at h
  | p :: l, 0, h => by simp [flatI]
  | p :: l, j + 1, h => by
    have := flatI_at l j (by simpa using h)
    show (p.1 :: p.2 :: flatI l).getD _ 0 = _ ∧ (p.1 :: p.2 :: flatI l).getD _ 0 = _
    rw [show 2 * (j + 1) = 2 * j + 1 + 1 by omega, show 2 * j + 1 + 1 + 1 = (2 * j + 1) + 1 + 1 by omega]
    simpa using this
def LinePost (l1 l2 : List Pr) (w : World) (e : Ending) (w' : World) : Prop :=
  ∃ u v, e = .returned (.tuple #[u, v]) ∧ IR w' w'.heap.size .u64 u (flatI l1) ∧ IR w' w'.heap.size .u64 v (flatI l2) ∧ Below w.heap.size w w'
theorem line_post (w : World) (l1 l2 : List Pr) (t : TypeId) (h1 : (flatI l1).length ≤ 1000) (h2 : (flatI l2).length ≤ 1000) :
    LinePost l1 l2 w (.returned (.tuple #[.slice (some ⟨w.heap.size, 0, none⟩) (flatI l1).length (flatI l1).length, .slice (some ⟨w.heap.size + 1, 0, none⟩) (flatI l2).length (flatI l2).length]))
      ((w.alloc (.cells ((flatI l1).map (.int .u64)).toArray t)).alloc (.cells ((flatI l2).map (.int .u64)).toArray t)) := by
  refine ⟨_, _, rfl, ?_, ?_, ((Below.refl _ _).alloc (Nat.le_refl _) _).alloc (by simp) _⟩
  · exact ((IR.lit w .u64 (flatI l1) t h1).alloc (by simp) _).more (by simp)
  · have := IR.lit' (w.alloc (.cells ((flatI l1).map (.int .u64)).toArray t)) .u64 (flatI l2) t (w.heap.size + 1) (by simp) h2
    exact this.more (by simp)
set_option maxRecDepth 100000 in
set_option maxHeartbeats 4000000 in
theorem line_some (id : Int) (h : isS id = true) (w : World) : Calls Try.prog 15 #[.int .u32 id] w (LinePost (lineS id).1 (lineS id).2 w) := by
  refine six (id := id) ?_ ?_ ?_ ?_ ?_ ?_ (fun h0 => by rw [h] at h0; cases h0)
  all_goals intro e; subst e; clear h
  · go_enter Try.func15, Try.ntmps15
    go_wp2
    go_ret2
    exact line_post w [(1, 2)] [(2, 1)] _ (by decide) (by decide)
  · go_enter Try.func15, Try.ntmps15
    go_wp2
    go_ret2
    exact line_post w [(2, 1), (3, 1)] [(4, 1)] _ (by decide) (by decide)
  · go_enter Try.func15, Try.ntmps15
    go_wp2
    go_ret2
    exact line_post w [(4, 1)] [(2, 1), (5, 3)] _ (by decide) (by decide)
  · go_enter Try.func15, Try.ntmps15
    go_wp2
    go_ret2
    exact line_post w [(5, 10)] [(6, 1), (5, 1)] _ (by decide) (by decide)
  · go_enter Try.func15, Try.ntmps15
    go_wp2
    go_ret2
    exact line_post w [(6, 1), (4, 2), (1, 5)] [(7, 1)] _ (by decide) (by decide)
  · go_enter Try.func15, Try.ntmps15
    go_wp2
    go_ret2
    exact line_post w [(7, 1)] [(6, 1), (1, 4)] _ (by decide) (by decide)
set_option maxRecDepth 100000 in
theorem line_none (id : Int) (h : isS id = false) (w : World) : Calls Try.prog 15 #[.int .u32 id] w fun e w' => e = .returned (.tuple #[.slice none 0 0, .slice none 0 0]) ∧ w = w' := by
  unfold isS at h; simp at h
  have a1 : (id == 1) = false := by simp; omega
  have a2 : (id == 2) = false := by simp; omega
  have a3 : (id == 3) = false := by simp; omega
  have a4 : (id == 4) = false := by simp; omega
  have a5 : (id == 5) = false := by simp; omega
  have a6 : (id == 6) = false := by simp; omega
  clear h
  go_enter Try.func15, Try.ntmps15
  go_wp2
  go_ret2
  exact ⟨rfl, rfl⟩
theorem stk_info : (Try.prog.info? 41).map (fun i => (i.zero, i.size, i.bytes)) = some (some (.agg #[.int .u32 0, .int .u64 0]), 2, 16) := by kernel_rfl
theorem times_succ (n : Int) (l : List Pr) (j : Nat) (h : j < l.length) : flat (times n (l.take (j + 1))) = flat (times n (l.take j)) ++ [.int .u32 (l.getD j (0, 0)).1, .int .u64 ((l.getD j (0, 0)).2 * n)] := by
  rw [List.take_succ_eq_append_getElem h]
  simp only [times, flat, List.map_append, List.flatMap_append, List.getD, List.getElem?_eq_getElem h]
  rfl
set_option maxHeartbeats 2000000 in
theorem stacks_any (v : Value) (l : List Pr) (n : Int) (hn : 0 ≤ n ∧ n ≤ 1000) (hl : small l) (w : World) (hv : IR w w.heap.size .u64 v (flatI l)) :
    Calls Try.prog 16 #[v, .int .u64 n] w fun e w' => ∃ u, e = .returned u ∧ KF w' w.heap.size u (times n l) ∧ Below w.heap.size w w' := by
  obtain ⟨i0, hi0, hz0, hz1, hz2⟩ := info_parts stk_info
  obtain ⟨A, c, rfl, hlc, hcm⟩ := hv.form
  unfold maxLen at hcm
  have hfl := flatI_len l
  have hll := hl.1
  have HF := Lib.hid hfl
  have hfl1 : (flatI l).length ≤ 2 * l.length := by omega
  have hfl2 : 2 * l.length ≤ (flatI l).length := by omega
  clear hfl
  go_enter Try.func16, Try.ntmps16
  go_wp2
  go_loopw [5, 6] (fun o i wr => ∃ K j : Nat, K = 2 * j ∧ j ≤ l.length ∧ i = .int .i64 K ∧ wr.ownsRow w.heap.size 41 2 o j (flat (times n (l.take j))) ∧ Below w.heap.size w wr) (fun _ i _ => (flatI l).length - (intOf i).toNat)
  case atStart => exact ⟨0, 0, rfl, by omega, rfl, World.ownsRow_nil _ _ _ _, Below.refl _ _⟩
  case round =>
    obtain ⟨K, j, hK, hj, rfl, hown, hbel⟩ := hrel
    have HK := Lib.hid hK
    have hK1 : K ≤ 2 * j := by omega
    have hK2 : 2 * j ≤ K := by omega
    clear hK
    by_cases hlt : j < l.length
    · have hv' := hv.below hbel
      obtain ⟨b, off, rfl, hb, hc1⟩ := hv'.index K (by omega)
      obtain ⟨b2, off2, e2, hb2, hc2⟩ := hv'.index (K + 1) (by omega)
      injection e2 with e2; injection e2 with e3 e4; subst e3; subst e4
      obtain ⟨f1, f2⟩ := flatI_at l j hlt
      rw [HK.out] at hc1 hc2
      rw [f1] at hc1
      rw [f2] at hc2
      rw [← HK.out] at hc1 hc2
      have hs := times_succ n l j hlt
      have hp : l.getD j (0, 0) ∈ l := by simp [List.getD, List.getElem?_eq_getElem hlt]
      have hq := hl.2 _ hp
      generalize l.getD j (0, 0) = p at *
      obtain ⟨x, y⟩ := p
      dsimp only at hq hs hc1 hc2
      obtain ⟨q1, q2, q3, q4⟩ := hq
      have hm0 : 0 ≤ y * n := Int.mul_nonneg (by omega) hn.1
      have hm1 : y * n ≤ 10000 := by
        have := Int.mul_le_mul (show y ≤ 10 by omega) hn.2 hn.1 (by omega); omega
      have HS := Lib.hid hs
      clear hs f1 f2 hp
      have t1 : (0 : Int) ≤ (K : Int) := by omega
      have t2 : (K : Int) < ((flatI l).length : Int) := by omega
      have t3 : (K : Int) + 1 < ((flatI l).length : Int) := by omega
      have hne : u5.ownBlock ≠ some b := fun e => by have := (hown.lt b e).1; omega
      have hbz : b < wr.heap.size := by have := hbel.size; omega
      have t4 : (0 : Int) ≤ (K : Int) + 1 := by omega
      have t5 : ((K : Int) + 1).toNat = K + 1 := by omega
      have t6 : IntKind.i64.wrap ((K : Int) + 1) = (K : Int) + 1 := IntWalk.i64_in _ (by omega)
      have t7 : IntKind.u64.wrap (y * n) = y * n := by rw [IntKind.wrap_u64]; omega
      have t8 : IntKind.u32.wrap x = x := by rw [IntKind.wrap_u32]; omega
      go_wp2
      go_region_held3 (fun w' => w'.cell? ⟨b, off + K, none⟩ = some (.int .u64 x) ∧ w'.cell? ⟨b, off + (K + 1), none⟩ = some (.int .u64 y))
        (first | go_keep | (go_split_ands; refine ⟨?_, ?_⟩ <;> (rw [hgrow.cell_far _ (by simp; omega) (Ne.symm hne)]; assumption)))
        ((refine step_append_lies _ (by rfl) _ _ _ (by rfl) w.heap.size 41 i0 _ 2 16 Try.underlying24 hi0 hz0 hz1 hz2 rfl (by omega) u5 j _ (by rfl) ((hown.alloc _).drew)
              ⟨wr.heap.size, 0, none⟩ 1 1 [.int .u32 x, .int .u64 (y * n)] (by rfl) (by rfl) (World.news_of_block (cs := #[.int .u32 x, .int .u64 (y * n)]) (t := 41) (fr := (0, 0)) (heap_alloc_new wr _)) (by simp [Value.oneCell'])
              (by omega) (by unfold maxLen; omega) (by omega) (by have := hbel.size; simp; omega) (wr.heap.size + 1) (by simp) ?_; intro gg cap w1 hown1 hgrow hat hlt1))
      clear t4 t5 t6 t7 t8
      go_wp2
      go_roundw
      case rel => exact ⟨K + 2, j + 1, by omega, by omega, by go_num, by rw [HS.out]; exact hown1, ((hbel.alloc hbel.size _).drew).trans ((Below.refl _ _).grown hgrow (by have := hbel.size; simp; omega) (fun b hb => (hown.lt b hb).1))⟩
      case measure => simp [intOf]; omega
    · go_wp2
      go_ret
      have e : j = l.length := by omega
      subst e
      rw [List.take_length] at hown
      exact ⟨_, rfl, KF.of_own hown (by rw [times_len]), hbel⟩
end Go.Proofs.Ytfkomfhnkpecfaa.Stk
