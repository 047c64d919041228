import Derived.Test.YthbbnebanmpcjaaPgZa
import Derived.Deep.MidRow
import Derived.ChangeKeysEq
/- A page's image in a block of its own; two images compared. -/
namespace Go.Proofs.Ythbbnebanmpcjaa.Pg
open Go.ChangeShapes Go.WideShapes Go.ChangeAt Go.RowKit Go.IntWalk Go.Proofs.Mem
set_option linter.unusedVariables false
set_option linter.unusedSimpArgs false
structure ImAt (w : World) (b : Nat) (xs : List Int) : Prop where
  box : Box w b (pgC xs) 62
  len : xs.length = 448
  byt : Bytes xs
theorem zeroIm (W : World) : (zeroValue 62).run Try.prog W = .ok (.agg (pgC z448)) W := by kernel_rfl
theorem im_info : (Try.prog.info? 62).map (·.size) = some 448 := by kernel_rfl
theorem pgC_size {xs : List Int} (h : xs.length = 448) : (pgC xs).size = 448 := by unfold pgC; simp [h]
section
variable {w w' : World} {b : Nat} {xs : List Int}
theorem ImAt.later (h : ImAt w b xs) (hb : Below w.heap.size w w') : ImAt w' b xs := ⟨h.box.later hb, h.len, h.byt⟩
theorem ImAt.fr {S : Nat → Prop} (h : ImAt w b xs) (hf : Fr S w w') (hn : ¬ S b) : ImAt w' b xs := ⟨h.box.fr hf hn, h.len, h.byt⟩
theorem ImAt.cell (h : ImAt w b xs) (i : Nat) (hi : i < 448) : w.cell? ⟨b, i, none⟩ = some (.int .u8 (xs.getD i 0)) := by
  rw [h.box.cell]
  unfold pgC
  have : i < xs.length := by rw [h.len]; exact hi
  simp [List.getD, List.getElem?_eq_getElem this]
theorem im_set (h : ImAt w b xs) (i : Nat) (z : Int) (hz : 0 ≤ z ∧ z ≤ 255) : ImAt (w.setCell ⟨b, i, none⟩ (.int .u8 z)) b (xs.set i z) := by
  refine ⟨?_, by rw [List.length_set]; exact h.len, fun x hx => ?_⟩
  · have h9 := h.box.set_ i (.int .u8 z)
    have e : (pgC xs).setIfInBounds i (.int .u8 z) = pgC (xs.set i z) := by unfold pgC; simp [List.map_set]
    rw [e] at h9; exact h9
  · rcases List.mem_or_eq_of_mem_set hx with hx | rfl
    · exact h.byt x hx
    · exact hz
end
theorem im_fill {b : Nat} : ∀ (n o : Nat) (w : World) (xs : List Int), ImAt w b xs → o + n ≤ 448 → ImAt (w.setCells b o (List.replicate n (.int .u8 0))) b (splice xs o (List.replicate n 0)) ∧ Fr (fun x => x = b) w (w.setCells b o (List.replicate n (.int .u8 0)))
  | 0, o, w, xs, h, ho => by
    have e : splice xs o (List.replicate 0 0) = xs := by simp [splice]
    rw [e]; exact ⟨h, Fr.refl _ _⟩
  | n + 1, o, w, xs, h, ho => by
    have h1 := im_set h o 0 (by decide)
    obtain ⟨h2, h3⟩ := im_fill n (o + 1) _ _ h1 (by omega)
    have e : splice (xs.set o 0) (o + 1) (List.replicate n 0) = splice xs o (List.replicate (n + 1) 0) := by
      unfold splice
      have hl : o < xs.length := by rw [h.len]; omega
      rw [List.length_replicate, List.length_replicate, List.replicate_succ, show o + 1 + n = o + (n + 1) by omega, List.drop_set_of_lt (by omega)]
      have e2 : (xs.set o 0).take (o + 1) = xs.take o ++ [0] := by
        rw [List.take_succ_eq_append_getElem (by rw [List.length_set]; exact hl), List.getElem_set_self, List.take_set_of_le (Nat.le_refl _)]
      rw [e2]; simp
    rw [e] at h2
    exact ⟨h2, (Fr.setCell (Fr.refl (fun x => x = b) w) (p := ⟨b, o, none⟩) (.inl rfl) (.int .u8 0)).trans h3⟩
theorem run_clear_im {w : World} {b o n c : Nat} {xs : List Int} (h : ImAt w b xs) (hn : 0 < n) (ho : o + n ≤ 448) (ty : TypeId) : ∃ w', (Builtin.clear_ #[31] ty #[.slice (some ⟨b, o, none⟩) n c]).run Try.prog w = .ok (.tuple #[]) w' ∧ ImAt w' b (splice xs o (List.replicate n 0)) ∧ Fr (fun x => x = b) w w' := by
  have hr := Go.Lib.run_clear_slice (P := Try.prog) w 31 5 ty (.int .u8 0) Try.underlying31 zero8 rfl rfl b o n c hn (fun j hj => by rw [h.cell (o + j) (by omega)]; rfl) (fun j hj => h.box.frozen (o + j))
  obtain ⟨h1, h2⟩ := im_fill n o w xs h ho
  exact ⟨_, hr, h1, h2⟩
theorem wp_clear_im (w : World) {o : Oper} {ac : Act} {K : Act → World → Prop} {Q : Exit → Act → World → Prop} (s : Operand)
    (ho : o.op = .call { callee := .builtin .clear, args := #[s], argTypes := #[31] }) (b a n c : Nat) (xs : List Int) (hp : ImAt w b xs) (hs : ac.eval s = .slice (some ⟨b, a, none⟩) n c) (hn : 0 < n) (hl : a + n ≤ 448)
    (h : ∀ w', ImAt w' b (splice xs a (List.replicate n 0)) → Fr (fun x => x = b) w w' → K (ac.put o.dst (.tuple #[])) w') : o.wp Try.prog ac w K Q := by
  obtain ⟨w', hrun, r1, r2⟩ := run_clear_im (c := c) hp hn hl o.type
  unfold Oper.wp
  simp [execOp, ho, resolve, invoke, builtin, hs, hrun, Result.andThen]
  exact h w' r1 r2
theorem wpList_clear_im (w : World) {ops : Array Oper} {rest : List Oper} {o : Oper} {ac : Act} {Q : Exit → Act → World → Prop} (hgd : o.guard = none) (s : Operand)
    (ho : o.op = .call { callee := .builtin .clear, args := #[s], argTypes := #[31] }) (b a n c : Nat) (xs : List Int) (hp : ImAt w b xs) (hs : ac.eval s = .slice (some ⟨b, a, none⟩) n c) (hn : 0 < n) (hl : a + n ≤ 448)
    (h : ∀ w', ImAt w' b (splice xs a (List.replicate n 0)) → Fr (fun x => x = b) w w' → wpList Try.prog ops Q rest (ac.put o.dst (.tuple #[])) w') : wpList Try.prog ops Q (o :: rest) ac w :=
  wpList_plain hgd fun K hK' => wp_clear_im w s ho b a n c xs hp hs hn hl fun w' h1 h2 => hK' _ _ (h w' h1 h2)
/-- a page's image, stored into a new block -/
theorem im_copy (w : World) (xs : List Int) (hl : xs.length = 448) (hb : Bytes xs) (PZ : Array Value) (hz : PZ = pgC z448) :
    ∃ w3, (storeCells ⟨w.heap.size, 0, none⟩ (pgC xs).toList).run Try.prog (w.alloc (.cells PZ 62)) = .ok () w3 ∧ ImAt w3 w.heap.size xs ∧ Below w.heap.size w w3 := by
  have hs1 : (pgC xs).toList.length = 448 := by unfold pgC; simp [hl]
  have hs2 : (pgC z448).size = 448 := by unfold pgC z448; rw [List.size_toArray, List.length_map, List.length_replicate]
  have h0 : (w.alloc (.cells PZ 62)).heap[w.heap.size]? = some (.cells (pgC z448) 62 (0, 0)) := by rw [hz]; exact heap_alloc_new w _
  have hr := run_storeCells_at Try.prog w.heap.size 0 62 (pgC xs).toList 0 (pgC z448) _ h0 (by rw [hs1, hs2]; decide) (fun v hv => by
    unfold pgC at hv
    simp at hv
    obtain ⟨z, _, rfl⟩ := hv
    rfl)
  have e : ((pgC z448).toList.take (0 + 0) ++ (pgC xs).toList ++ (pgC z448).toList.drop (0 + 0 + (pgC xs).toList.length)).toArray = pgC xs := by
    rw [hs1, List.drop_eq_nil_of_le (by rw [Array.length_toList, hs2]; decide)]
    simp
  rw [e] at hr
  refine ⟨_, hr, ⟨setRow_heap _ _ _ _ _ _ h0, hl, hb⟩, ?_⟩
  exact ⟨rfl, rfl, rfl, by simp [World.setRow], fun k hk => by
    rw [setRow_other _ _ _ _ (by omega)]
    exact Below.heap_alloc w _ k hk⟩
/-! two images compared -/
theorem pgC_at {xs : List Int} {i : Nat} (h : i < xs.length) : (pgC xs)[i]? = some (.int .u8 (xs.getD i 0)) := by
  unfold pgC; simp [List.getD, List.getElem?_eq_getElem h]
theorem u8_key : Try.prog.plainKey 5 = true := by kernel_rfl
theorem u8_eql (d : Nat) (a b : Int) (w : World) : (Op.equalIn (d + 1) 5 (.int .u8 a) (.int .u8 b)).run Try.prog w = .ok (a == b) w := by
  simp [Op.equalIn, Sem.run_bind, run_underlying Try.underlying5]
theorem eqItems_u8 (d : Nat) (w : World) (xs ys : List Int) : ∀ (is : List Nat), (∀ i ∈ is, i < xs.length ∧ i < ys.length) →
    (Op.eqItems (d + 1) 5 1 (pgC xs) (pgC ys) is).run Try.prog w = .ok (decide (∀ i ∈ is, xs.getD i 0 = ys.getD i 0)) w
  | [], _ => by simp [Op.eqItems]
  | i :: is, h => by
    have h1 := h i List.mem_cons_self
    have ih := eqItems_u8 d w xs ys is (fun j hj => h j (List.mem_cons_of_mem _ hj))
    have p1 := run_part_plain (P := Try.prog) (w := w) (e := 5) u8_key (xs := pgC xs) (off := i * 1) (by rw [Nat.mul_one]; exact pgC_at h1.1)
    have p2 := run_part_plain (P := Try.prog) (w := w) (e := 5) u8_key (xs := pgC ys) (off := i * 1) (by rw [Nat.mul_one]; exact pgC_at h1.2)
    simp only [Op.eqItems, Sem.run_bind, p1, p2, u8_eql, Result.andThen_ok]
    by_cases e : xs.getD i 0 = ys.getD i 0
    · have e1 : (xs.getD i 0 == ys.getD i 0) = true := by rw [e]; exact beq_self_eq_true _
      rw [e1]
      simp only [Bool.not_true, if_neg (show ¬ (false = true) by decide), ih]
      congr 1
      exact decide_eq_decide.2 ⟨fun h j hj => by
        rcases List.mem_cons.1 hj with rfl | hj
        · exact e
        · exact h j hj, fun h j hj => h j (List.mem_cons_of_mem _ hj)⟩
    · have e1 : (xs.getD i 0 == ys.getD i 0) = false := beq_eq_false_iff_ne.2 e
      rw [e1]
      simp only [Bool.not_false, if_pos, Sem.run_pure]
      congr 1
      exact (decide_eq_false (fun h => e (h i List.mem_cons_self))).symm
theorem im_eq (w : World) (xs ys : List Int) (hx : xs.length = 448) (hy : ys.length = 448) : (binOp .eql 62 (.agg (pgC xs)) (.agg (pgC ys))).run Try.prog w = .ok (.bool (decide (xs = ys))) w := by
  obtain ⟨i, hi⟩ := Option.isSome_iff_exists.1 (show (Try.prog.info? 5).isSome = true by kernel_rfl)
  have h1 := run_equalIn_array (P := Try.prog) w 9999 (n := 448) (pgC xs) (pgC ys) Try.underlying62 hi
  rw [show Try.prog.cellsOf 5 = 1 by kernel_rfl] at h1
  have h2 := eqItems_u8 9998 w xs ys (List.range 448) (fun i hi => by rw [hx, hy]; have := List.mem_range.1 hi; omega)
  have e : decide (∀ i ∈ List.range 448, xs.getD i 0 = ys.getD i 0) = decide (xs = ys) := decide_eq_decide.2 ⟨fun h => list_getD (by omega) (fun i hi => h i (List.mem_range.2 (by omega))), fun h i _ => by rw [h]⟩
  rw [e] at h2
  have h3 : (Op.equal 62 (.agg (pgC xs)) (.agg (pgC ys))).run Try.prog w = .ok (decide (xs = ys)) w := h1.trans h2
  show (do pure (.bool (← Op.equal 62 (.agg (pgC xs)) (.agg (pgC ys)))) : Sem Value).run Try.prog w = _
  rw [Sem.run_bind, h3]
  rfl
theorem im_grd (x y : Operand) (C D : Array Value) (w : World) : (eqGuard .eql 62 x y (.agg C) (.agg D)).run Try.prog w = .ok () w := by
  have h : Try.prog.eqGuardType Try.prog.depth 62 = false := by kernel_rfl
  simp [eqGuard, h]
theorem im_build (w : World) : (Instr.build 62 #[]).run Try.prog w = .ok (.agg (pgC z448)) w := run_build w 62 #[] (pgC z448) (by kernel_rfl)
end Go.Proofs.Ythbbnebanmpcjaa.Pg
