import Derived.Test.YthbbnebanmpcjaaPgZ
import Derived.Deep.MidRow
import Derived.ChangeKeysEq
import Derived.Deep.RegionWith
import Derived.Deep.DeepCutAuto
import Derived.Deep.CutRange
/- A page is read. -/
/- Pure: slots are emptied one after another (PageEmpty); a row's cells, and where they lie. -/
namespace Go.Proofs.Ythbbnebanmpcjaa.Pg
open Go.Proofs.Mem Go.WideShapes Go.RowKit
set_option linter.unusedVariables false
set_option linter.unusedSimpArgs false
theorem slotsTo_lt {xs : List Int} : ∀ n, (slotsTo xs n).Pairwise (· < ·) := by
  intro n
  induction n with
  | zero => exact List.Pairwise.nil
  | succ n ih =>
    rw [slotsTo_succ]
    split
    · exact ih
    · refine List.pairwise_append.2 ⟨ih, List.pairwise_singleton _ _, fun a ha b hb => ?_⟩
      obtain ⟨t, rfl, h1, _⟩ := (slotsTo_mem _).1 ha
      rw [List.mem_singleton.1 hb]
      omega
theorem slots_new {xs : List Int} {n j : Nat} (hj : j < (slotsTo xs n).length) : (slotsTo xs n)[j] ∉ (slotsTo xs n).take j := by
  have h := slotsTo_lt (xs := xs) n
  intro hm
  obtain ⟨i, hi, e⟩ := List.getElem_of_mem hm
  rw [List.getElem_take] at e
  have hij : i < j := by rw [List.length_take] at hi; omega
  have := List.pairwise_iff_getElem.1 h i j (by omega) hj hij
  omega
/-- the slots that have something, emptied in turn -/
structure EmptyL (ys L : List Int) : Prop where
  len : L.length ≤ 40
  el : ∀ j (h : j < L.length), ∃ t : Nat, L[j] = t ∧ t < 40 ∧ there (clrTo ys (L.take j)) (t : Int) = true ∧ there (clrTo ys (L.take (j + 1))) (t : Int) = false ∧ clrTo ys (L.take (j + 1)) = clearX (clrTo ys (L.take j)) (t : Int)
theorem emptyL {ys : List Int} (W : Wf ys) (hb : Bytes ys) : EmptyL ys (slotsTo ys (cnt ys)) := by
  have hC := W.w0.cnt
  refine ⟨Nat.le_trans (slotsTo_len _ _) hC, fun j hj => ?_⟩
  obtain ⟨t, h1, h2, h3⟩ := (slotsTo_mem _).1 (List.getElem_mem hj)
  have hn := slots_new hj
  have hT : (slotsTo ys (cnt ys)).take (j + 1) = (slotsTo ys (cnt ys)).take j ++ [(t : Int)] := by rw [List.take_succ_eq_append_getElem hj, h1]
  rw [h1] at hn
  have hs : clrTo ys ((slotsTo ys (cnt ys)).take (j + 1)) = clearX (clrTo ys ((slotsTo ys (cnt ys)).take j)) (t : Int) := by rw [hT, clrTo_snoc]
  have k1 := (clrTo_kept W hb ((slotsTo ys (cnt ys)).take j)).2.2.2 t
  have k2 := (clrTo_kept W hb ((slotsTo ys (cnt ys)).take (j + 1))).2.2.2 t
  rw [if_neg hn] at k1
  rw [if_pos (by rw [hT]; exact List.mem_append_right _ List.mem_cons_self)] at k2
  refine ⟨t, h1, by omega, ?_, ?_, hs⟩
  · unfold there
    rw [show ((t : Int)).toNat = t from rfl, k1]
    exact decide_eq_true ⟨by omega, h3⟩
  · unfold there
    rw [show ((t : Int)).toNat = t from rfl, k2]
    exact decide_eq_false (fun h => h.2 rfl)
theorem clearX_not {xs : List Int} {N : Int} (h : there xs N = false) : clearX xs N = xs := by unfold clearX; rw [h]; rfl
theorem usedTo_nought (xs : List Int) : usedTo xs 0 = 0 := rfl
/-- a new page with a place of the log -/
theorem new_stamped (n : Int) (M : Int) (hM : 0 ≤ M ∧ M < 2 ^ (8 * 8)) : gt (setN (newP n) 0 8 M) 0 8 = M ∧ free (setN (newP n) 0 8 M) = 432 ∧ cnt (setN (newP n) 0 8 M) = 0 := by
  have W := new_wf n
  have hl := W.1.w0.len
  have S := stamp_wf W.1 (a := 0) (n := 8) (by decide) M
  have hc : cnt (setN (newP n) 0 8 M) = 0 := by rw [S.2.1]; exact W.2.1
  refine ⟨gt_setN (by omega) (by decide) hM.1 hM.2, ?_, hc⟩
  unfold free
  rw [hc, usedTo_nought]
  rfl
/-- a row of numbers of one's own: its cells, and where they lie -/
theorem row_cells {w : World} {base n : Nat} {e : TypeId} {k : IntKind} {v : Value} {xs : List Int} (h : w.ownsRow base e 1 v n (xs.map (.int k))) :
    ∃ A c, v = .slice A xs.length c ∧ xs.length ≤ c ∧ c ≤ maxLen ∧ ∀ i, i < xs.length → ∃ b off, A = some ⟨b, off, none⟩ ∧ base ≤ b ∧ b < w.heap.size ∧ w.cell? ⟨b, off + i, none⟩ = some (.int k (xs.getD i 0)) := by
  have h0 := IR.of_own h
  obtain ⟨A, c, rfl, h1, h2, h3, h4⟩ := h0
  refine ⟨A, c, rfl, h1, h2, fun i hi => ?_⟩
  obtain ⟨b, off, rfl, hb, hc⟩ := h4 i hi
  rcases h.2 with ⟨hx, _⟩ | ⟨g, cap, cur, e1, hg, hh, _⟩
  · cases hx
  · injection e1 with e1 _ _
    injection e1 with e1
    injection e1 with e1 _ _
    subst e1
    exact ⟨_, _, rfl, hg, hb, hc⟩
end Go.Proofs.Ythbbnebanmpcjaa.Pg

/- A page's image in a block of its own; two images compared. -/
namespace Go.Proofs.Ythbbnebanmpcjaa.Pg
open Go.ChangeShapes Go.WideShapes Go.ChangeAt Go.RowKit Go.IntWalk Go.Proofs.Mem
set_option linter.unusedVariables false
set_option linter.unusedSimpArgs false
structure ImAt (w : World) (b : Nat) (xs : List Int) : Prop where
  box : Box w b (pgC xs) 62
  len : xs.length = 448
  byt : Bytes xs
theorem zeroIm (W : World) : (zeroValue 62).run Try.prog W = .ok (.agg (pgC z448)) W := by kernel_rfl
theorem im_info : (Try.prog.info? 62).map (·.size) = some 448 := by kernel_rfl
theorem pgC_size {xs : List Int} (h : xs.length = 448) : (pgC xs).size = 448 := by unfold pgC; simp [h]
section
variable {w w' : World} {b : Nat} {xs : List Int}
theorem ImAt.later (h : ImAt w b xs) (hb : Below w.heap.size w w') : ImAt w' b xs := ⟨h.box.later hb, h.len, h.byt⟩
theorem ImAt.fr {S : Nat → Prop} (h : ImAt w b xs) (hf : Fr S w w') (hn : ¬ S b) : ImAt w' b xs := ⟨h.box.fr hf hn, h.len, h.byt⟩
theorem ImAt.cell (h : ImAt w b xs) (i : Nat) (hi : i < 448) : w.cell? ⟨b, i, none⟩ = some (.int .u8 (xs.getD i 0)) := by
  rw [h.box.cell]
  unfold pgC
  have : i < xs.length := by rw [h.len]; exact hi
  simp [List.getD, List.getElem?_eq_getElem this]
theorem im_set (h : ImAt w b xs) (i : Nat) (z : Int) (hz : 0 ≤ z ∧ z ≤ 255) : ImAt (w.setCell ⟨b, i, none⟩ (.int .u8 z)) b (xs.set i z) := by
  refine ⟨?_, by rw [List.length_set]; exact h.len, fun x hx => ?_⟩
  · have h9 := h.box.set_ i (.int .u8 z)
    have e : (pgC xs).setIfInBounds i (.int .u8 z) = pgC (xs.set i z) := by unfold pgC; simp [List.map_set]
    rw [e] at h9; exact h9
  · rcases List.mem_or_eq_of_mem_set hx with hx | rfl
    · exact h.byt x hx
    · exact hz
end
theorem im_fill {b : Nat} : ∀ (n o : Nat) (w : World) (xs : List Int), ImAt w b xs → o + n ≤ 448 → ImAt (w.setCells b o (List.replicate n (.int .u8 0))) b (splice xs o (List.replicate n 0)) ∧ Fr (fun x => x = b) w (w.setCells b o (List.replicate n (.int .u8 0)))
  | 0, o, w, xs, h, ho => by
    have e : splice xs o (List.replicate 0 0) = xs := by simp [splice]
    rw [e]; exact ⟨h, Fr.refl _ _⟩
  | n + 1, o, w, xs, h, ho => by
    have h1 := im_set h o 0 (by decide)
    obtain ⟨h2, h3⟩ := im_fill n (o + 1) _ _ h1 (by omega)
    have e : splice (xs.set o 0) (o + 1) (List.replicate n 0) = splice xs o (List.replicate (n + 1) 0) := by
      unfold splice
      have hl : o < xs.length := by rw [h.len]; omega
      rw [List.length_replicate, List.length_replicate, List.replicate_succ, show o + 1 + n = o + (n + 1) by omega, List.drop_set_of_lt (by omega)]
      have e2 : (xs.set o 0).take (o + 1) = xs.take o ++ [0] := by
        rw [List.take_succ_eq_append_getElem (by rw [List.length_set]; exact hl), List.getElem_set_self, List.take_set_of_le (Nat.le_refl _)]
      rw [e2]; simp
    rw [e] at h2
    exact ⟨h2, (Fr.setCell (Fr.refl (fun x => x = b) w) (p := ⟨b, o, none⟩) (.inl rfl) (.int .u8 0)).trans h3⟩
theorem run_clear_im {w : World} {b o n c : Nat} {xs : List Int} (h : ImAt w b xs) (hn : 0 < n) (ho : o + n ≤ 448) (ty : TypeId) : ∃ w', (Builtin.clear_ #[31] ty #[.slice (some ⟨b, o, none⟩) n c]).run Try.prog w = .ok (.tuple #[]) w' ∧ ImAt w' b (splice xs o (List.replicate n 0)) ∧ Fr (fun x => x = b) w w' := by
  have hr := Go.Lib.run_clear_slice (P := Try.prog) w 31 5 ty (.int .u8 0) Try.underlying31 zero8 rfl rfl b o n c hn (fun j hj => by rw [h.cell (o + j) (by omega)]; rfl) (fun j hj => h.box.frozen (o + j))
  obtain ⟨h1, h2⟩ := im_fill n o w xs h ho
  exact ⟨_, hr, h1, h2⟩
theorem wp_clear_im (w : World) {o : Oper} {ac : Act} {K : Act → World → Prop} {Q : Exit → Act → World → Prop} (s : Operand)
    (ho : o.op = .call { callee := .builtin .clear, args := #[s], argTypes := #[31] }) (b a n c : Nat) (xs : List Int) (hp : ImAt w b xs) (hs : ac.eval s = .slice (some ⟨b, a, none⟩) n c) (hn : 0 < n) (hl : a + n ≤ 448)
    (h : ∀ w', ImAt w' b (splice xs a (List.replicate n 0)) → Fr (fun x => x = b) w w' → K (ac.put o.dst (.tuple #[])) w') : o.wp Try.prog ac w K Q := by
  obtain ⟨w', hrun, r1, r2⟩ := run_clear_im (c := c) hp hn hl o.type
  unfold Oper.wp
  simp [execOp, ho, resolve, invoke, builtin, hs, hrun, Result.andThen]
  exact h w' r1 r2
theorem wpList_clear_im (w : World) {ops : Array Oper} {rest : List Oper} {o : Oper} {ac : Act} {Q : Exit → Act → World → Prop} (hgd : o.guard = none) (s : Operand)
    (ho : o.op = .call { callee := .builtin .clear, args := #[s], argTypes := #[31] }) (b a n c : Nat) (xs : List Int) (hp : ImAt w b xs) (hs : ac.eval s = .slice (some ⟨b, a, none⟩) n c) (hn : 0 < n) (hl : a + n ≤ 448)
    (h : ∀ w', ImAt w' b (splice xs a (List.replicate n 0)) → Fr (fun x => x = b) w w' → wpList Try.prog ops Q rest (ac.put o.dst (.tuple #[])) w') : wpList Try.prog ops Q (o :: rest) ac w :=
  wpList_plain hgd fun K hK' => wp_clear_im w s ho b a n c xs hp hs hn hl fun w' h1 h2 => hK' _ _ (h w' h1 h2)
/-- a page's image, stored into a new block -/
theorem im_copy (w : World) (xs : List Int) (hl : xs.length = 448) (hb : Bytes xs) (PZ : Array Value) (hz : PZ = pgC z448) :
    ∃ w3, (storeCells ⟨w.heap.size, 0, none⟩ (pgC xs).toList).run Try.prog (w.alloc (.cells PZ 62)) = .ok () w3 ∧ ImAt w3 w.heap.size xs ∧ Below w.heap.size w w3 := by
  have hs1 : (pgC xs).toList.length = 448 := by unfold pgC; simp [hl]
  have hs2 : (pgC z448).size = 448 := by unfold pgC z448; rw [List.size_toArray, List.length_map, List.length_replicate]
  have h0 : (w.alloc (.cells PZ 62)).heap[w.heap.size]? = some (.cells (pgC z448) 62 (0, 0)) := by rw [hz]; exact heap_alloc_new w _
  have hr := run_storeCells_at Try.prog w.heap.size 0 62 (pgC xs).toList 0 (pgC z448) _ h0 (by rw [hs1, hs2]; decide) (fun v hv => by
    unfold pgC at hv
    simp at hv
    obtain ⟨z, _, rfl⟩ := hv
    rfl)
  have e : ((pgC z448).toList.take (0 + 0) ++ (pgC xs).toList ++ (pgC z448).toList.drop (0 + 0 + (pgC xs).toList.length)).toArray = pgC xs := by
    rw [hs1, List.drop_eq_nil_of_le (by rw [Array.length_toList, hs2]; decide)]
    simp
  rw [e] at hr
  refine ⟨_, hr, ⟨setRow_heap _ _ _ _ _ _ h0, hl, hb⟩, ?_⟩
  exact ⟨rfl, rfl, rfl, by simp [World.setRow], fun k hk => by
    rw [setRow_other _ _ _ _ (by omega)]
    exact Below.heap_alloc w _ k hk⟩
/-! two images compared -/
theorem pgC_at {xs : List Int} {i : Nat} (h : i < xs.length) : (pgC xs)[i]? = some (.int .u8 (xs.getD i 0)) := by
  unfold pgC; simp [List.getD, List.getElem?_eq_getElem h]
theorem u8_key : Try.prog.plainKey 5 = true := by kernel_rfl
theorem u8_eql (d : Nat) (a b : Int) (w : World) : (Op.equalIn (d + 1) 5 (.int .u8 a) (.int .u8 b)).run Try.prog w = .ok (a == b) w := by
  simp [Op.equalIn, Sem.run_bind, run_underlying Try.underlying5]
theorem eqItems_u8 (d : Nat) (w : World) (xs ys : List Int) : ∀ (is : List Nat), (∀ i ∈ is, i < xs.length ∧ i < ys.length) →
    (Op.eqItems (d + 1) 5 1 (pgC xs) (pgC ys) is).run Try.prog w = .ok (decide (∀ i ∈ is, xs.getD i 0 = ys.getD i 0)) w
  | [], _ => by simp [Op.eqItems]
  | i :: is, h => by
    have h1 := h i List.mem_cons_self
    have ih := eqItems_u8 d w xs ys is (fun j hj => h j (List.mem_cons_of_mem _ hj))
    have p1 := run_part_plain (P := Try.prog) (w := w) (e := 5) u8_key (xs := pgC xs) (off := i * 1) (by rw [Nat.mul_one]; exact pgC_at h1.1)
    have p2 := run_part_plain (P := Try.prog) (w := w) (e := 5) u8_key (xs := pgC ys) (off := i * 1) (by rw [Nat.mul_one]; exact pgC_at h1.2)
    simp only [Op.eqItems, Sem.run_bind, p1, p2, u8_eql, Result.andThen_ok]
    by_cases e : xs.getD i 0 = ys.getD i 0
    · have e1 : (xs.getD i 0 == ys.getD i 0) = true := by rw [e]; exact beq_self_eq_true _
      rw [e1]
      simp only [Bool.not_true, if_neg (show ¬ (false = true) by decide), ih]
      congr 1
      exact decide_eq_decide.2 ⟨fun h j hj => by
        rcases List.mem_cons.1 hj with rfl | hj
        · exact e
        · exact h j hj, fun h j hj => h j (List.mem_cons_of_mem _ hj)⟩
    · have e1 : (xs.getD i 0 == ys.getD i 0) = false := beq_eq_false_iff_ne.2 e
      rw [e1]
      simp only [Bool.not_false, if_pos, Sem.run_pure]
      congr 1
      exact (decide_eq_false (fun h => e (h i List.mem_cons_self))).symm
theorem im_eq (w : World) (xs ys : List Int) (hx : xs.length = 448) (hy : ys.length = 448) : (binOp .eql 62 (.agg (pgC xs)) (.agg (pgC ys))).run Try.prog w = .ok (.bool (decide (xs = ys))) w := by
  obtain ⟨i, hi⟩ := Option.isSome_iff_exists.1 (show (Try.prog.info? 5).isSome = true by kernel_rfl)
  have h1 := run_equalIn_array (P := Try.prog) w 9999 (n := 448) (pgC xs) (pgC ys) Try.underlying62 hi
  rw [show Try.prog.cellsOf 5 = 1 by kernel_rfl] at h1
  have h2 := eqItems_u8 9998 w xs ys (List.range 448) (fun i hi => by rw [hx, hy]; have := List.mem_range.1 hi; omega)
  have e : decide (∀ i ∈ List.range 448, xs.getD i 0 = ys.getD i 0) = decide (xs = ys) := decide_eq_decide.2 ⟨fun h => list_getD (by omega) (fun i hi => h i (List.mem_range.2 (by omega))), fun h i _ => by rw [h]⟩
  rw [e] at h2
  have h3 : (Op.equal 62 (.agg (pgC xs)) (.agg (pgC ys))).run Try.prog w = .ok (decide (xs = ys)) w := h1.trans h2
  show (do pure (.bool (← Op.equal 62 (.agg (pgC xs)) (.agg (pgC ys)))) : Sem Value).run Try.prog w = _
  rw [Sem.run_bind, h3]
  rfl
theorem im_grd (x y : Operand) (C D : Array Value) (w : World) : (eqGuard .eql 62 x y (.agg C) (.agg D)).run Try.prog w = .ok () w := by
  have h : Try.prog.eqGuardType Try.prog.depth 62 = false := by kernel_rfl
  simp [eqGuard, h]
theorem im_build (w : World) : (Instr.build 62 #[]).run Try.prog w = .ok (.agg (pgC z448)) w := run_build w 62 #[] (pgC z448) (by kernel_rfl)
end Go.Proofs.Ythbbnebanmpcjaa.Pg

/- Pure: what whole looks at: bytes covered, the rest. -/
namespace Go.Proofs.Ythbbnebanmpcjaa.Pg
open Go.Proofs.Mem
set_option linter.unusedVariables false
set_option linter.unusedSimpArgs false
theorem sum_set : ∀ (C : List Int) (i : Nat), i < C.length → C.getD i 0 = 0 → (C.set i 1).sum = C.sum + 1
  | [], i, h, _ => by simp at h
  | c :: C, 0, _, h0 => by
    have : c = 0 := h0
    subst this
    simp only [List.set_cons_zero, List.sum_cons]; omega
  | c :: C, i + 1, h, h0 => by
    have ih := sum_set C i (by simpa using h) (by simpa using h0)
    simp only [List.set_cons_succ, List.sum_cons, ih]; omega
theorem sum_bound : ∀ (C : List Int) (e : Nat), e ≤ C.length → (∀ i, i < e → C.getD i 0 = 0) → (∀ i, C.getD i 0 = 0 ∨ C.getD i 0 = 1) → C.sum ≤ (C.length : Int) - e
  | [], e, h, _, _ => by simp at h; subst h; simp
  | c :: C, 0, _, _, h1 => by
    have ih := sum_bound C 0 (Nat.zero_le _) (fun i hi => by omega) (fun i => by have := h1 (i + 1); simpa using this)
    have hc : c = 0 ∨ c = 1 := h1 0
    simp only [List.sum_cons, List.length_cons]; omega
  | c :: C, e + 1, h, h0, h1 => by
    have ih := sum_bound C e (by simpa using h) (fun i hi => by have := h0 (i + 1) (by omega); simpa using this) (fun i => by have := h1 (i + 1); simpa using this)
    have hc : c = 0 := h0 0 (by omega)
    simp only [List.sum_cons, List.length_cons]; omega
/-- which bytes are covered: those of the slots ahead of s, and of slot s up to k -/
structure Cov (xs C : List Int) (s k : Nat) : Prop where
  len : C.length = 448
  bit : ∀ i, C.getD i 0 = 0 ∨ C.getD i 0 = 1
  hit : ∀ i, C.getD i 0 ≠ 0 ↔ (∃ t, t < s ∧ off xs t ≤ i ∧ i < off xs t + Pg.len xs t) ∨ (off xs s ≤ i ∧ i < k)
  sum : C.sum + off xs s = usedTo xs s + k
theorem z_getD (i : Nat) : z448.getD i 0 = 0 := by
  unfold z448
  rw [List.getD_eq_getElem?_getD, List.getElem?_replicate]
  split <;> rfl
theorem z_sum : z448.sum = 0 := by decide +kernel
theorem Cov.start (xs : List Int) : Cov xs z448 0 (off xs 0) := ⟨List.length_replicate, fun i => .inl (z_getD i), fun i => by rw [z_getD]; constructor; (intro h; exact absurd rfl h); (rintro (⟨t, h, _⟩ | ⟨h1, h2⟩); (omega); (omega)), by rw [z_sum]; rfl⟩
theorem Cov.step {xs C : List Int} {s k : Nat} (h : Cov xs C s k) (hk : off xs s ≤ k) (h8 : k < 448) (h0 : C.getD k 0 = 0) : Cov xs (C.set k 1) s (k + 1) := by
  have hg : ∀ i, (C.set k 1).getD i 0 = if i = k then 1 else C.getD i 0 := by
    intro i
    rw [List.getD_eq_getElem?_getD, List.getElem?_set]
    by_cases e : k = i
    · subst e
      rw [if_pos rfl, if_pos rfl, if_pos (by rw [h.len]; exact h8)]; rfl
    · rw [if_neg e, if_neg (fun x => e x.symm), List.getD_eq_getElem?_getD]
  refine ⟨by rw [List.length_set]; exact h.len, fun i => ?_, fun i => ?_, ?_⟩
  · rw [hg]; split
    · exact .inr rfl
    · exact h.bit i
  · rw [hg]
    by_cases e : i = k
    · subst e
      rw [if_pos rfl]
      exact ⟨fun _ => .inr ⟨hk, by omega⟩, fun _ => by decide⟩
    · rw [if_neg e, h.hit i]
      constructor
      · rintro (h1 | h1)
        · exact .inl h1
        · exact .inr ⟨h1.1, by omega⟩
      · rintro (h1 | h1)
        · exact .inl h1
        · exact .inr ⟨h1.1, by omega⟩
  · rw [sum_set C k (by rw [h.len]; exact h8) h0]
    have := h.sum
    omega
theorem Cov.next {xs C : List Int} {s : Nat} (h : Cov xs C s (off xs s + Pg.len xs s)) : Cov xs C (s + 1) (off xs (s + 1)) := by
  refine ⟨h.len, h.bit, fun i => ?_, ?_⟩
  · rw [h.hit i]
    constructor
    · rintro (⟨t, h1, h2⟩ | h1)
      · exact .inl ⟨t, by omega, h2⟩
      · exact .inl ⟨s, by omega, h1⟩
    · rintro (⟨t, h1, h2⟩ | h1)
      · rcases Nat.lt_succ_iff_lt_or_eq.mp h1 with h3 | h3
        · exact .inl ⟨t, h3, h2⟩
        · subst h3; exact .inr h2
      · omega
  · have := h.sum
    rw [usedTo_succ]
    omega
/-- the slots ahead of s lie well, and apart -/
structure Lie (xs : List Int) (s : Nat) : Prop where
  fit : ∀ t, t < s → (len xs t = 0 ∧ off xs t = 0) ∨ (len xs t ≠ 0 ∧ len xs t ≤ 64 ∧ 16 + 4 * cnt xs ≤ off xs t ∧ off xs t + len xs t ≤ 448)
  apart : ∀ t u, t < s → u < s → t ≠ u → len xs t ≠ 0 → len xs u ≠ 0 → off xs t + len xs t ≤ off xs u ∨ off xs u + len xs u ≤ off xs t
theorem Lie.start (xs : List Int) : Lie xs 0 := ⟨fun t h => by omega, fun t u h => by omega⟩
theorem Lie.none {xs : List Int} {s : Nat} (h : Lie xs s) (h0 : len xs s = 0) (h1 : off xs s = 0) : Lie xs (s + 1) := by
  refine ⟨fun t ht => ?_, fun t u ht hu hne h3 h4 => ?_⟩
  · rcases Nat.lt_succ_iff_lt_or_eq.mp ht with e | e
    · exact h.fit t e
    · subst e; exact .inl ⟨h0, h1⟩
  · rcases Nat.lt_succ_iff_lt_or_eq.mp ht with e | e
    · rcases Nat.lt_succ_iff_lt_or_eq.mp hu with e2 | e2
      · exact h.apart t u e e2 hne h3 h4
      · subst e2; exact absurd h0 h4
    · subst e; exact absurd h0 h3
/-- slot s, none of whose bytes was covered, lies apart too: none covered means that no slot ahead of it has one of its bytes -/
theorem Lie.some {xs : List Int} {s : Nat} (h : Lie xs s) (h0 : len xs s ≠ 0) (h1 : len xs s ≤ 64 ∧ 16 + 4 * cnt xs ≤ off xs s ∧ off xs s + len xs s ≤ 448)
    (hn : ∀ i, off xs s ≤ i → i < off xs s + len xs s → ∀ t, t < s → i < off xs t ∨ off xs t + len xs t ≤ i) : Lie xs (s + 1) := by
  have key : ∀ t, t < s → len xs t ≠ 0 → off xs t + len xs t ≤ off xs s ∨ off xs s + len xs s ≤ off xs t := by
    intro t ht h3
    rcases Nat.lt_or_ge (off xs t) (off xs s) with e | e
    · rcases hn (off xs s) (Nat.le_refl _) (by omega) t ht with h5 | h5
      · omega
      · exact .inl h5
    · rcases Nat.lt_or_ge (off xs t) (off xs s + len xs s) with e2 | e2
      · rcases hn (off xs t) e e2 t ht with h5 | h5
        · omega
        · omega
      · exact .inr e2
  refine ⟨fun t ht => ?_, fun t u ht hu hne h3 h4 => ?_⟩
  · rcases Nat.lt_succ_iff_lt_or_eq.mp ht with e | e
    · exact h.fit t e
    · subst e; exact .inr ⟨h0, h1⟩
  · rcases Nat.lt_succ_iff_lt_or_eq.mp ht with e | e
    · rcases Nat.lt_succ_iff_lt_or_eq.mp hu with e2 | e2
      · exact h.apart t u e e2 hne h3 h4
      · subst e2; exact key t e h3
    · rcases Nat.lt_succ_iff_lt_or_eq.mp hu with e2 | e2
      · subst e; exact (key u e2 h4).symm
      · omega
/-- the rest: the head, the list and the slots' bytes are noughts, all else is as it was -/
structure Rest (xs R : List Int) (s : Nat) : Prop where
  len : R.length = 448
  byt : Bytes R
  nou : ∀ i, (i < 16 + 4 * cnt xs ∨ ∃ t, t < s ∧ off xs t ≤ i ∧ i < off xs t + Pg.len xs t) → R.getD i 0 = 0
  was : ∀ i, 16 + 4 * cnt xs ≤ i → (∀ t, t < s → i < off xs t ∨ off xs t + Pg.len xs t ≤ i) → R.getD i 0 = xs.getD i 0
theorem rep_getD (n i : Nat) : (List.replicate n (0 : Int)).getD i 0 = 0 := by
  rw [List.getD_eq_getElem?_getD, List.getElem?_replicate]
  split <;> rfl
theorem Rest.start {xs : List Int} (hx : xs.length = 448) (hb : Bytes xs) (hc : cnt xs ≤ 40) : Rest xs (splice xs 0 (List.replicate (16 + 4 * cnt xs) 0)) 0 := by
  have hl : (List.replicate (16 + 4 * cnt xs) (0 : Int)).length = 16 + 4 * cnt xs := List.length_replicate
  have hg := fun i => splice_getD (xs := xs) (a := 0) (ys := List.replicate (16 + 4 * cnt xs) 0) (by rw [hl]; omega) i
  refine ⟨by rw [splice_len (by rw [hl]; omega)]; exact hx, splice_bytes hb (nought_bytes _), fun i h => ?_, fun i h1 h2 => ?_⟩
  · rw [hg, hl]
    rcases h with h | ⟨t, h, _⟩
    · rw [if_pos (by omega)]; exact rep_getD _ _
    · omega
  · rw [hg, hl, if_neg (by omega)]
theorem Rest.none {xs R : List Int} {s : Nat} (h : Rest xs R s) (h0 : Pg.len xs s = 0) : Rest xs R (s + 1) := by
  refine ⟨h.len, h.byt, fun i hi => h.nou i ?_, fun i h1 h2 => h.was i h1 (fun t ht => h2 t (by omega))⟩
  rcases hi with hi | ⟨t, h1, h2⟩
  · exact .inl hi
  · rcases Nat.lt_succ_iff_lt_or_eq.mp h1 with e | e
    · exact .inr ⟨t, e, h2⟩
    · subst e; omega
theorem Rest.some {xs R : List Int} {s : Nat} (h : Rest xs R s) (h1 : off xs s + Pg.len xs s ≤ 448) : Rest xs (splice R (off xs s) (List.replicate (Pg.len xs s) 0)) (s + 1) := by
  have hl : (List.replicate (Pg.len xs s) (0 : Int)).length = Pg.len xs s := List.length_replicate
  have hg := fun i => splice_getD (xs := R) (a := off xs s) (ys := List.replicate (Pg.len xs s) 0) (by rw [hl, h.len]; omega) i
  refine ⟨by rw [splice_len (by rw [hl, h.len]; omega)]; exact h.len, splice_bytes h.byt (nought_bytes _), fun i hi => ?_, fun i h2 h3 => ?_⟩
  · rw [hg, hl]
    by_cases e : off xs s ≤ i ∧ i < off xs s + Pg.len xs s
    · rw [if_pos e]; exact rep_getD _ _
    · rw [if_neg e]
      refine h.nou i ?_
      rcases hi with hi | ⟨t, h4, h5⟩
      · exact .inl hi
      · rcases Nat.lt_succ_iff_lt_or_eq.mp h4 with e2 | e2
        · exact .inr ⟨t, e2, h5⟩
        · subst e2; exact absurd h5 e
  · have h4 := h3 s (by omega)
    rw [hg, hl, if_neg (by omega)]
    exact h.was i h2 (fun t ht => h3 t (by omega))
/-- what is left is noughts just if the page is well made -/
theorem rest_wf {xs C R : List Int} (hx : xs.length = 448) (hc : cnt xs ≤ 40) (hl : cnt xs ≠ 0 → len xs (cnt xs - 1) ≠ 0) (hlo : low xs = lowTo xs (cnt xs))
    (L : Lie xs (cnt xs)) (K : Cov xs C (cnt xs) (off xs (cnt xs))) (T : Rest xs R (cnt xs)) : decide (R = z448) = true ↔ Wf xs := by
  rw [decide_eq_true_iff]
  constructor
  · intro e
    subst e
    have hb := sum_bound C (16 + 4 * cnt xs) (by rw [K.len]; omega) (fun i hi => by
      rcases K.bit i with h | h
      · exact h
      · exfalso
        have h2 := (K.hit i).1 (by rw [h]; decide)
        rcases h2 with ⟨t, h3, h4, h5⟩ | h2
        · rcases L.fit t h3 with h6 | h6
          · omega
          · omega
        · omega) K.bit
    have hs := K.sum
    rw [K.len] at hb
    refine ⟨⟨hx, hc, by omega, fun s hs h0 => ?_, fun s hs h0 => ?_, L.apart, hlo, fun i h1 h2 => ?_⟩, hl⟩
    · rcases L.fit s hs with h | h
      · exact absurd h.1 h0
      · exact ⟨h.2.2.1, h.2.2.2, h.2.1⟩
    · rcases L.fit s hs with h | h
      · exact h.2
      · exact absurd h0 h.1
    · rw [← T.was i h1 (fun t ht => by
        rcases L.fit t ht with h | h
        · omega
        · exact h2 t ht h.1)]
      exact z_getD i
  · intro W
    refine list_getD (by rw [T.len]; exact List.length_replicate.symm) (fun i hi => ?_)
    rw [z_getD]
    by_cases h : i < 16 + 4 * cnt xs ∨ ∃ t, t < cnt xs ∧ off xs t ≤ i ∧ i < off xs t + len xs t
    · exact T.nou i h
    · have h1 : 16 + 4 * cnt xs ≤ i := by
        rcases Nat.lt_or_ge i (16 + 4 * cnt xs) with e | e
        · exact absurd (.inl e) h
        · exact e
      have h2 : ∀ t, t < cnt xs → i < off xs t ∨ off xs t + len xs t ≤ i := fun t ht => by
        rcases Nat.lt_or_ge i (off xs t) with e | e
        · exact .inl e
        · rcases Nat.lt_or_ge i (off xs t + len xs t) with e2 | e2
          · exact absurd (.inr ⟨t, ht, e, e2⟩) h
          · exact .inr e2
      rw [T.was i h1 h2]
      exact W.w0.noug i h1 (fun t ht _ => h2 t ht)
/-- why it is none -/
theorem not_slot {xs : List Int} {s : Nat} (hs : s < cnt xs) (h : ¬ ((len xs s = 0 ∧ off xs s = 0) ∨ (len xs s ≠ 0 ∧ len xs s ≤ 64 ∧ 16 + 4 * cnt xs ≤ off xs s ∧ off xs s + len xs s ≤ 448))) : ¬ Wf xs := fun W => by
  by_cases h0 : len xs s = 0
  · exact h (.inl ⟨h0, W.w0.nil s hs h0⟩)
  · have := W.w0.ins s hs h0
    exact h (.inr ⟨h0, this.2.2, this.1, this.2.1⟩)
theorem not_apart {xs C : List Int} {s k : Nat} (hs : s < cnt xs) (K : Cov xs C s k) (hk : off xs s ≤ k ∧ k < off xs s + len xs s) (h : C.getD k 0 ≠ 0) : ¬ Wf xs := fun W => by
  rcases (K.hit k).1 h with ⟨t, h1, h2, h3⟩ | h1
  · have := W.w0.apart s t hs (by omega) (by omega) (by omega) (by omega)
    omega
  · omega
end Go.Proofs.Ythbbnebanmpcjaa.Pg

/- A page: whole. -/
namespace Go.Proofs.Ythbbnebanmpcjaa.Pg
open Go.ChangeShapes Go.WideShapes Go.ChangeAt Go.RowKit Go.IntWalk Go.Proofs.Mem Go.Proofs.Each
set_option linter.unusedVariables false
set_option linter.unusedSimpArgs false
def WholeOut (xs : List Int) (w : World) (e : Ending) (w' : World) : Prop := ∃ q, e = .returned (.bool q) ∧ (q = true ↔ Wf xs) ∧ Below w.heap.size w w'
theorem whole_no {xs : List Int} {w W : World} (hW : Below w.heap.size w W) (hn : ¬ Wf xs) : WholeOut xs w (.returned (.bool false)) W := ⟨false, rfl, by simp [hn], hW⟩
set_option maxRecDepth 100000 in
set_option maxHeartbeats 8000000 in
theorem whole_any (w : World) (b : Nat) (xs : List Int) (h : PgAt w b xs) :
    Calls Try.prog 40 #[.pointer (some ⟨b, 0, none⟩)] w (WholeOut xs w) := by
  have CA := Lib.hid (count_any w b xs h)
  obtain ⟨C, hC⟩ : ∃ C, C = cnt xs := ⟨_, rfl⟩
  by_cases hc : cnt xs ≤ 40
  case neg =>
    rw [← hC] at CA hc
    have NO := Lib.hid (fun (W : World) (hW : Below w.heap.size w W) => whole_no (xs := xs) hW (fun k => hc (by rw [hC]; exact k.w0.cnt)))
    have dc : decide ((40 : Int) < (C : Int)) = true := by simp; omega
    clear h hC hc
    go_enter Try.func40, Try.ntmps40
    go_wp2_with fail
    (with_reducible refine CA.out.mono ?_)
    rintro e wx ⟨rfl, rfl⟩
    go_wp2
    go_ret
    exact NO.out _ (Below.refl _ _)
  have HP := Lib.hid h
  have LA := Lib.hid (fun (h0 : C ≠ 0) => length_any w b xs h (C - 1) (by omega) ((C : Int) - 1) (by omega))
  have LO := Lib.hid (low_any w b xs h)
  have LW := Lib.hid (lowest_any w b xs h)
  rw [Nat.min_eq_left hc] at LW
  obtain ⟨lo, hlo⟩ : ∃ l, l = low xs := ⟨_, rfl⟩
  obtain ⟨lw, hlw⟩ : ∃ l, l = lowTo xs (cnt xs) := ⟨_, rfl⟩
  obtain ⟨ll, hll⟩ : ∃ l, l = len xs (C - 1) := ⟨_, rfl⟩
  rw [← hlo] at LO
  rw [← hlw] at LW
  rw [← hll] at LA
  rw [← hC] at CA hc hlw
  obtain ⟨qb, hqb⟩ : ∃ q, ((lo : Int) != (lw : Int)) = q := ⟨_, rfl⟩
  obtain ⟨qa, hqa⟩ : ∃ q, ((ll : Int) == 0) = q := ⟨_, rfl⟩
  obtain ⟨qz, hqz⟩ : ∃ q, decide ((0 : Int) < (C : Int)) = q := ⟨_, rfl⟩
  have hqz2 : decide (0 < C) = qz := by rw [← hqz]; exact decide_eq_decide.2 (by omega)
  have NO := Lib.hid (show (qz && qa || qb) = true → ∀ (W : World) (hW : Below w.heap.size w W), WholeOut xs w (.returned (.bool false)) W from fun hq W hW => whole_no hW (fun k => by
    cases qb
    · simp at hq
      obtain ⟨rfl, rfl⟩ := hq
      have h1 := of_decide_eq_true hqz
      have h2 := k.last (by omega)
      rw [← hC, ← hll] at h2
      simp at hqa
      omega
    · have h1 := k.w0.low
      rw [← hlo, ← hC, ← hlw] at h1
      rw [bne_iff_ne] at hqb
      omega))
  have YES := Lib.hid (show (qz && qa || qb) = false → (C ≠ 0 → len xs (C - 1) ≠ 0) ∧ low xs = lowTo xs C from fun hq => by
    cases qb
    · refine ⟨fun h0 => ?_, ?_⟩
      · have e1 : qz = true := by rw [← hqz]; exact decide_eq_true (by omega)
        rw [e1] at hq
        have e2 : qa = false := by simpa using hq
        rw [e2, beq_eq_false_iff_ne] at hqa
        rw [← hll]; omega
      · have := bne_eq_false_iff_eq.1 hqb
        omega
    · simp at hq)
  have h40 : decide ((40 : Int) < (C : Int)) = false := by simp; omega
  have HC := Lib.hid hC
  have HCC := Lib.hid hc
  have HZ := Lib.hid (show (qz = true ↔ C ≠ 0) from by rw [← hqz, decide_eq_true_iff]; omega)
  have wC : wrap64 ((C : Int) - 1) = (C : Int) - 1 := wrap64_in _ (by omega)
  clear h hlo hlw hll hC
  go_enter Try.func40, Try.ntmps40
  go_wp2_with fail
  (with_reducible refine CA.out.mono ?_)
  rintro e wx ⟨rfl, rfl⟩
  go_upto_region 2 with fail
  go_cut [31] (fun v wx => v = .bool (qz && qa || qb) ∧ wx = w)
  case first =>
    cases qz
    · go_wp2_with fail
      (with_reducible refine LO.out.mono ?_)
      rintro e wx ⟨rfl, rfl⟩
      go_wp2_with fail
      (with_reducible refine LW.out.mono ?_)
      rintro e wx ⟨rfl, rfl⟩
      go_wp2
      go_meet
      exact ⟨by simp, rfl⟩
    · have LA' := Lib.hid (LA.out (HZ.out.1 rfl))
      cases qa
      · go_wp2_with fail
        (with_reducible refine LA'.out.mono ?_)
        rintro e wx ⟨rfl, rfl⟩
        go_wp2_with fail
        (with_reducible refine LO.out.mono ?_)
        rintro e wx ⟨rfl, rfl⟩
        go_wp2_with fail
        (with_reducible refine LW.out.mono ?_)
        rintro e wx ⟨rfl, rfl⟩
        go_wp2
        go_meet
        exact ⟨by simp, rfl⟩
      · go_wp2_with fail
        (with_reducible refine LA'.out.mono ?_)
        rintro e wx ⟨rfl, rfl⟩
        go_wp2
        go_meet
        exact ⟨by simp, rfl⟩
  case rest =>
    obtain ⟨rfl, rfl⟩ := hcut
    obtain ⟨bad, hbad⟩ : ∃ q, q = (qz && qa || qb) := ⟨_, rfl⟩
    rw [← hbad] at NO YES ⊢
    clear hbad LA LO LW hqb hqa hqz hqz2 HZ wC CA
    cases bad
    case true =>
      have NO' := Lib.hid (NO.out rfl _ (Below.refl _ _))
      clear NO YES
      go_wp2
      go_ret
      exact NO'.out
    have HY := Lib.hid (YES.out rfl)
    clear NO YES h40
    obtain ⟨PZ, hPZ⟩ : ∃ PZ, PZ = pgC z448 := ⟨_, rfl⟩
    have HPZ := Lib.hid hPZ
    have hz : ∀ W : World, (zeroValue 62).run Try.prog W = .ok (.agg PZ) W := fun W => by rw [hPZ]; exact zeroIm W
    have HSZ := Lib.hid (show (Try.prog.info? 62).map (·.size) = some (pgC xs).size by rw [pgC_size HP.out.len]; exact im_info)
    clear hPZ
    go_upto_region 5 with fail
    obtain ⟨cb, hcb⟩ : ∃ cb, cb = wc.heap.size := ⟨_, rfl⟩
    obtain ⟨w1, hw1⟩ : ∃ w1, wc.alloc (.cells PZ 62) = w1 := ⟨_, rfl⟩
    have IC := Lib.hid (show ImAt w1 cb z448 from ⟨by rw [← hw1, hcb, HPZ.out]; exact Box.new _ _ _, List.length_replicate, z448_bytes⟩)
    have HB1 := Lib.hid (show Below cb wc w1 by rw [← hw1, hcb]; exact new_ (Below.refl _ _) _)
    have HCB := Lib.hid hcb
    rw [hw1, ← hcb]
    clear hw1 hcb
    obtain ⟨w3, hst, ir3, hb3⟩ := im_copy w1 xs HP.out.len HP.out.byt PZ HPZ.out
    have IR3 := Lib.hid ir3
    have HB3 := Lib.hid hb3
    have HP1 := Lib.hid (HP.out.later (show Below wc.heap.size wc w1 by rw [← HCB.out]; exact HB1.out))
    have hs448 : (pgC xs).size = 448 := pgC_size HP.out.len
    clear ir3 hb3
    go_wp2_with fail
    refine wp_load_row 62 _ rfl b rfl 64 (pgC xs) (0, 0) _ HP1.out.box Try.underlying62 rfl HSZ.out ?_
    go_upto_region 6 with fail
    obtain ⟨rb, hrb⟩ : ∃ rb, rb = w1.heap.size := ⟨_, rfl⟩
    have HC1 := Lib.hid (show ImAt w3 cb z448 ∧ cb < rb ∧ rb < w3.heap.size ∧ cb = wc.heap.size ∧ b < cb from ⟨IC.out.later HB3.out, by rw [hrb]; exact IC.out.box.lt, by rw [hrb]; exact IR3.out.box.lt, HCB.out, by rw [HCB.out]; exact HP.out.box.lt⟩)
    rw [← hrb] at IR3 ⊢
    have HB3' := Lib.hid (show Below cb wc w3 from HB1.out.trans (HB3.out.mono (by have := HB1.out.size; have := HC1.out.2.1; omega)))
    have HP3 := Lib.hid (HP1.out.later HB3.out)
    clear hst hs448 hz hrb HB3 IC HB1 HP1 HPZ HCB
    have hx448 := HP.out.len
    have LE := Lib.hid (fun W => listEnd_any W C (by have := HCC.out; omega) (C : Int) rfl)
    obtain ⟨e0, he0⟩ : ∃ e0, e0 = 16 + 4 * C := ⟨_, rfl⟩
    have hc := HCC.out
    have c3 : e0 ≤ 448 := by omega
    have c4 : 0 < e0 := by omega
    rw [← he0] at LE
    have HE0 := Lib.hid he0
    have RS := Lib.hid (Rest.start hx448 HP.out.byt (by rw [← HC.out]; exact hc))
    rw [← HC.out, ← he0] at RS
    clear hx448 he0
    have c5 : (0 : Int) ≤ (e0 : Int) := by omega
    have c6 : (e0 : Int) ≤ 448 := by omega
    have c7 : (e0 : Int) - 0 = (e0 : Int) := by omega
    have c9 : 0 + e0 ≤ 448 := by omega
    go_wp2_with (first
      | ((with_reducible refine (LE.out _).mono ?_); rintro e wx ⟨rfl, rfl⟩)
      | (refine wpList_clear_im _ rfl _ rfl rb 0 e0 448 xs IR3.out rfl c4 c9 ?_
         intro w4 hi4 hf4
         have IR4 := Lib.hid hi4
         have F4 := Lib.hid hf4
         clear hi4 hf4)
      | fail)
    have HB4 := Lib.hid (show Below cb wc w4 from HB3'.out.trans (F4.out.to_below (fun k hk => by rw [hk]; have := HC1.out.2.1; omega) (by have := HB3'.out.size; have := HC1.out; omega)))
    have ST := Lib.hid (show ∃ CV R, ImAt w4 cb CV ∧ ImAt w4 rb R ∧ Lie xs 0 ∧ Cov xs CV 0 (off xs 0) ∧ Rest xs R 0 from ⟨z448, _, HC1.out.1.fr F4.out (by have := HC1.out.2.1; omega), IR4.out, Lie.start xs, Cov.start xs, RS.out⟩)
    clear RS IR4 F4 c3 c4 c5 c6 c7 c9 IR3 HP3 HB3'
    have HE := Lib.hid (show e0 ≤ 448 by have := HE0.out; omega)
    go_wp2
    go_loopw [40, 6, 7, 8, 9] (fun kv _ _ _ _ wr => ∃ s : Nat, s ≤ C ∧ kv = .int .i64 s ∧ Hid (∃ CV R, ImAt wr cb CV ∧ ImAt wr rb R ∧ Lie xs s ∧ Cov xs CV s (off xs s) ∧ Rest xs R s) ∧ Hid (Below cb wc wr)) (fun kv _ _ _ _ _ => C - (intOf kv).toNat)
    case atStart => exact ⟨0, Nat.zero_le _, rfl, ST, HB4⟩
    case round =>
      obtain ⟨s, hs, rfl, HS, HW⟩ := hrel
      clear ST HB4
      by_cases hlt : s < C
      · have HPW := Lib.hid (show PgAt wr b xs from HP.out.later (show Below wc.heap.size wc wr by rw [← HC1.out.2.2.2.1]; exact HW.out))
        have OF := Lib.hid (offset_any wr b xs HPW.out s (by omega) (s : Int) rfl)
        have LN := Lib.hid (length_any wr b xs HPW.out s (by omega) (s : Int) rfl)
        have hO8 := off_le xs HP.out.byt HP.out.len s (by omega)
        have hL8 := len_le xs HP.out.byt HP.out.len s (by omega)
        have LE1 := Lib.hid (LE.out wr)
        obtain ⟨O, hO⟩ : ∃ O, O = off xs s := ⟨_, rfl⟩
        obtain ⟨Lq, hLq⟩ : ∃ L, L = len xs s := ⟨_, rfl⟩
        rw [← hO] at OF hO8
        rw [← hLq] at LN hL8
        obtain ⟨T, hT⟩ : ∃ T : Int, T = (O : Int) + (Lq : Int) := ⟨_, rfl⟩
        have wT1 : wrap64 ((O : Int) + (Lq : Int)) = T := by rw [hT]; exact wrap64_in _ (by omega)
        have wT2 : wrap64 (T - (O : Int)) = (Lq : Int) := by rw [hT, wrap64_in _ (by omega)]; omega
        obtain ⟨q1, hq1⟩ : ∃ q, ((O : Int) == T) = q := ⟨_, rfl⟩
        obtain ⟨q0, hq0⟩ : ∃ q, ((O : Int) == 0) = q := ⟨_, rfl⟩
        obtain ⟨q2, hq2⟩ : ∃ q, decide ((64 : Int) < (Lq : Int)) = q := ⟨_, rfl⟩
        have hq2' : decide (64 < Lq) = q2 := by rw [← hq2]; exact decide_eq_decide.2 (by omega)
        obtain ⟨q3, hq3⟩ : ∃ q, decide ((O : Int) < (e0 : Int)) = q := ⟨_, rfl⟩
        have hq3' : decide (O < e0) = q3 := by rw [← hq3]; exact decide_eq_decide.2 (by omega)
        obtain ⟨q4, hq4⟩ : ∃ q, decide ((448 : Int) < T) = q := ⟨_, rfl⟩
        have HM := Lib.hid (show (q1 = true ↔ Lq = 0) ∧ (q0 = true ↔ O = 0) ∧ (q2 = true ↔ 64 < Lq) ∧ (q3 = true ↔ O < 16 + 4 * cnt xs) ∧ (q4 = true ↔ 448 < O + Lq) from by
          rw [← hq1, ← hq0, ← hq2', ← hq3', ← hq4, hT, ← HC.out, ← HE0.out]
          simp
          omega)
        have NO := Lib.hid (show ¬ ((Lq = 0 ∧ O = 0) ∨ (Lq ≠ 0 ∧ Lq ≤ 64 ∧ 16 + 4 * cnt xs ≤ O ∧ O + Lq ≤ 448)) → WholeOut xs wc (.returned (.bool false)) wr from fun h => whole_no (by rw [← HC1.out.2.2.2.1]; exact HW.out) (not_slot (s := s) (by rw [← HC.out]; exact hlt) (by rw [← hO, ← hLq]; exact h)))
        have HOL := Lib.hid (And.intro hO hLq)
        have HT := Lib.hid hT
        have HLT := Lib.hid hlt
        have HJ1 := Lib.hid (show wrap64 ((s : Int) + 1) = (s : Int) + 1 from wrap64_in _ (by omega))
        clear hO hLq hT hO8 hL8 hlt hs
        go_wp2_with fail
        (with_reducible refine OF.out.mono ?_)
        rintro e wx ⟨rfl, rfl⟩
        go_wp2_with fail
        (with_reducible refine OF.out.mono ?_)
        rintro e wx ⟨rfl, rfl⟩
        go_wp2_with fail
        (with_reducible refine LN.out.mono ?_)
        rintro e wx ⟨rfl, rfl⟩
        go_upto_region 11 with fail
        clear OF LN
        cases q1
        case true =>
          cases q0
          case true =>
            have HS' := Lib.hid (show ∃ CV R, ImAt wr cb CV ∧ ImAt wr rb R ∧ Lie xs (s + 1) ∧ Cov xs CV (s + 1) (off xs (s + 1)) ∧ Rest xs R (s + 1) from by
              obtain ⟨CV, R, i1, i2, l1, k1, r1⟩ := HS.out
              have h0 : len xs s = 0 := by have := HM.out.1.1 rfl; rw [← HOL.out.2]; exact this
              have h1 : off xs s = 0 := by have := HM.out.2.1.1 rfl; rw [← HOL.out.1]; exact this
              exact ⟨CV, R, i1, i2, l1.none h0 h1, Cov.next (by rw [h0]; exact k1), r1.none h0⟩)
            go_wp2
            go_roundw
            case rel => exact ⟨s + 1, by have := HLT.out; omega, by go_num, HS', HW⟩
            case measure => have := HLT.out; simp [intOf]; omega
          case false =>
            have N9 := Lib.hid (NO.out (by have := HM.out; simp at this; omega))
            clear HM NO
            go_wp2
            go_ret
            exact N9.out
        case false =>
          cases q2
          case true =>
            have N9 := Lib.hid (NO.out (by have := HM.out; simp at this; omega))
            clear HM NO
            go_wp2
            go_ret
            exact N9.out
          case false =>
            cases q3
            case true =>
              have N9 := Lib.hid (NO.out (by have := HM.out; simp at this; omega))
              clear HM NO
              go_wp2_with fail
              (with_reducible refine LE1.out.mono ?_)
              rintro e wx ⟨rfl, rfl⟩
              go_wp2
              go_ret
              exact N9.out
            case false =>
              cases q4
              case true =>
                have N9 := Lib.hid (NO.out (by have := HM.out; simp at this; omega))
                clear HM NO
                go_wp2_with fail
                (with_reducible refine LE1.out.mono ?_)
                rintro e wx ⟨rfl, rfl⟩
                go_wp2
                go_ret
                exact N9.out
              case false =>
                go_wp2_with fail
                (with_reducible refine LE1.out.mono ?_)
                rintro e wx ⟨rfl, rfl⟩
                clear NO LE1
                go_upto_region 15 with fail
                have hm := HM.out
                simp only [Bool.false_eq_true, false_iff] at hm
                have HL := Lib.hid (show Lq ≠ 0 ∧ Lq ≤ 64 ∧ 16 + 4 * cnt xs ≤ O ∧ O + Lq ≤ 448 by omega)
                clear hm HM hq1 hq0 hq2 hq3 hq4 hq2' hq3' wT1 wT2
                obtain ⟨CV, R, i1, i2, l1, k1, r1⟩ := HS.out
                have RI := Lib.hid (And.intro i2 r1)
                have LI := Lib.hid l1
                have CI := Lib.hid (show ∃ CV, ImAt wr cb CV ∧ Cov xs CV s O ∧ ∀ i, O ≤ i → i < O → ∀ t, t < s → i < off xs t ∨ off xs t + len xs t ≤ i from ⟨CV, i1, by rw [HOL.out.1]; exact k1, fun i h1 h2 => by omega⟩)
                clear i1 i2 l1 k1 r1 HS
                obtain ⟨wj, rfl⟩ : ∃ wj, wj = wr := ⟨wr, rfl⟩
                go_loopw [9] (fun kv wi => ∃ k : Nat, O ≤ k ∧ k ≤ O + Lq ∧ kv = .int .i64 k ∧ Hid (∃ CV, ImAt wi cb CV ∧ Cov xs CV s k ∧ ∀ i, O ≤ i → i < k → ∀ t, t < s → i < off xs t ∨ off xs t + len xs t ≤ i) ∧ Hid (Fr (fun x => x = cb) wj wi)) (fun kv _ => O + Lq - (intOf kv).toNat)
                case atStart => exact ⟨O, Nat.le_refl _, by omega, rfl, CI, Lib.hid (Fr.refl _ _)⟩
                case round =>
                  obtain ⟨k, hk0, hk, rfl, HK, HF⟩ := hrel
                  clear CI
                  by_cases hlk : k < O + Lq
                  · have hk448 : k < 448 := by have := HL.out; omega
                    have dk : decide ((k : Int) < T) = true := by rw [HT.out]; simp; omega
                    obtain ⟨CV, i1, k1, n1⟩ := HK.out
                    have kc := i1.cell k hk448
                    have kf := i1.box.frozen k
                    obtain ⟨cv, hcv⟩ : ∃ c, c = CV.getD k 0 := ⟨_, rfl⟩
                    rw [← hcv] at kc
                    obtain ⟨qc, hqc⟩ : ∃ q, (cv != 0) = q := ⟨_, rfl⟩
                    have k448 : (k : Int) < 448 := by omega
                    have HB5 := Lib.hid (show Below cb wc wr from HW.out.trans (HF.out.to_below (fun x hx => by omega) (by have := HC1.out; have := HW.out.size; omega)))
                    have NO := Lib.hid (show cv ≠ 0 → WholeOut xs wc (.returned (.bool false)) wr from fun h => whole_no (by rw [← HC1.out.2.2.2.1]; exact HB5.out) (not_apart (s := s) (by rw [← HC.out]; exact HLT.out) k1 (by rw [← HOL.out.1, ← HOL.out.2]; omega) (by rw [← hcv]; exact h)))
                    have HK' := Lib.hid (show cv = 0 → ∃ CV', ImAt (wr.setCell ⟨cb, k, none⟩ (.int .u8 1)) cb CV' ∧ Cov xs CV' s (k + 1) ∧ ∀ i, O ≤ i → i < k + 1 → ∀ t, t < s → i < off xs t ∨ off xs t + len xs t ≤ i from fun h0 => by
                      refine ⟨CV.set k 1, im_set i1 k 1 (by decide), k1.step (by rw [← HOL.out.1]; exact hk0) hk448 (by rw [← hcv]; exact h0), fun i h1 h2 t ht => ?_⟩
                      rcases Nat.lt_succ_iff_lt_or_eq.mp h2 with h3 | h3
                      · exact n1 i h1 h3 t ht
                      · subst h3
                        rcases Nat.lt_or_ge i (off xs t) with h4 | h4
                        · exact .inl h4
                        · rcases Nat.lt_or_ge i (off xs t + len xs t) with h5 | h5
                          · exact absurd (hcv.symm.trans h0) ((k1.hit i).2 (.inl ⟨t, ht, h4, h5⟩))
                          · exact .inr h5)
                    have HF' := Lib.hid (Fr.setCell HF.out (p := ⟨cb, k, none⟩) (.inl rfl) (.int .u8 1))
                    have HQ := Lib.hid (show (qc = true ↔ cv ≠ 0) by rw [← hqc, bne_iff_ne])
                    have HK3 := Lib.hid (And.intro hk0 hlk)
                    have HK2 := Lib.hid (show wrap64 ((k : Int) + 1) = (k : Int) + 1 from wrap64_in _ (by omega))
                    clear i1 k1 n1 hcv HK hk0 hk hlk
                    cases qc
                    case true =>
                      have N9 := Lib.hid (NO.out (HQ.out.1 rfl))
                      clear NO HQ HK'
                      go_wp2
                      go_ret
                      exact N9.out
                    case false =>
                      have K9 := Lib.hid (HK'.out (by have := HQ.out; simp at this; exact this))
                      clear NO HQ HK'
                      go_wp2
                      go_roundw
                      case rel => exact ⟨k + 1, by have := HK3.out; omega, by have := HK3.out; omega, by go_num, K9, HF'⟩
                      case measure => have := HK3.out; simp [intOf]; omega
                  · have dk : decide ((k : Int) < T) = false := by rw [HT.out]; simp; omega
                    have hke : k = O + Lq := by omega
                    have HB5 := Lib.hid (show Below cb wc wr from HW.out.trans (HF.out.to_below (fun x hx => by omega) (by have := HC1.out; have := HW.out.size; omega)))
                    have IR5 := Lib.hid (show ImAt wr rb _ from RI.out.1.fr HF.out (by have := HC1.out; omega))
                    have HL1 := HL.out
                    have c1 : (0 : Int) ≤ O := by omega
                    have c2 : (O : Int) ≤ T := by rw [HT.out]; omega
                    have c3 : T ≤ 448 := by rw [HT.out]; omega
                    have e1 : T.toNat - O = Lq := by rw [HT.out]; omega
                    have c4 : ¬ 448 = O := by omega
                    have c5 : ¬ 448 - O = 0 := by omega
                    have c6 : O < 448 := by omega
                    have c7 : ¬ 448 ≤ O := by omega
                    have c8 : 0 < Lq := by omega
                    have c9 : O + Lq ≤ 448 := by omega
                    have c10 : ¬ (448 : Int) = (O : Int) := by omega
                    have HKK := Lib.hid (show ∃ CV, ImAt wr cb CV ∧ Cov xs CV (s + 1) (off xs (s + 1)) ∧ Lie xs (s + 1) from by
                      obtain ⟨CV, i1, k1, n1⟩ := HK.out
                      rw [hke] at k1 n1
                      refine ⟨CV, i1, Cov.next (by rw [← HOL.out.1, ← HOL.out.2]; exact k1), LI.out.some (by rw [← HOL.out.2]; omega) (by rw [← HOL.out.1, ← HOL.out.2]; omega) (by rw [← HOL.out.1, ← HOL.out.2]; exact n1)⟩)
                    have RI2 := Lib.hid (RI.out.2.some (by rw [← HOL.out.1, ← HOL.out.2]; omega))
                    rw [← HOL.out.1, ← HOL.out.2] at RI2
                    obtain ⟨RR, hRR⟩ : ∃ RR, RR = R := ⟨_, rfl⟩
                    rw [← hRR] at IR5 RI2
                    clear RI hRR HL1 hke hk0 hk HK LI
                    go_wp2_with (first
                      | (refine wpList_clear_im _ rfl _ rfl rb O Lq (448 - O) RR IR5.out rfl c8 c9 ?_
                         intro w6 hi6 hf6
                         have IR6 := Lib.hid hi6
                         have F6 := Lib.hid hf6
                         clear hi6 hf6)
                      | fail)
                    have HB6 := Lib.hid (show Below cb wc w6 from HB5.out.trans (F6.out.to_below (fun x hx => by rw [hx]; have := HC1.out; omega) (by have := HC1.out; have := HB5.out.size; omega)))
                    have HS6 := Lib.hid (show ∃ CV R, ImAt w6 cb CV ∧ ImAt w6 rb R ∧ Lie xs (s + 1) ∧ Cov xs CV (s + 1) (off xs (s + 1)) ∧ Rest xs R (s + 1) from by
                      obtain ⟨CV, i1, k1, l1⟩ := HKK.out
                      exact ⟨CV, _, i1.fr F6.out (by have := HC1.out; omega), IR6.out, l1, k1, RI2.out⟩)
                    clear HKK RI2 IR5 F6 IR6 HB5 HF c1 c2 c3 e1 c4 c5 c6 c7 c8 c9 c10 dk
                    go_roundw
                    case rel => exact ⟨s + 1, by have := HLT.out; omega, by first | go_num | rw [HJ1.out]; go_num, HS6, HB6⟩
                    case measure => have := HLT.out; simp [intOf]; omega
      · have hse : s = C := by omega
        obtain ⟨CV, R, i1, i2, l1, k1, r1⟩ := HS.out
        rw [hse] at l1 k1 r1
        have hy := HY.out
        have RW := Lib.hid (rest_wf HP.out.len (by rw [← HC.out]; exact HCC.out) (by rw [← HC.out]; exact hy.1) (by rw [← HC.out]; exact hy.2) (by rw [← HC.out]; exact l1) (by rw [← HC.out]; exact k1) (by rw [← HC.out]; exact r1))
        have IRR := Lib.hid i2
        obtain ⟨qr, hqr⟩ : ∃ q, q = decide (R = z448) := ⟨_, rfl⟩
        have HE1 := Lib.hid (fun W => im_eq W R z448 r1.len List.length_replicate)
        rw [← hqr] at RW HE1
        have HSR := Lib.hid (show (Try.prog.info? 62).map (·.size) = some (pgC R).size by rw [pgC_size r1.len]; exact im_info)
        obtain ⟨PR, hPR⟩ : ∃ P, P = pgC R := ⟨_, rfl⟩
        have HIB := Lib.hid i2.box
        rw [← hPR] at HE1 HSR HIB
        obtain ⟨PZ, hPZ⟩ : ∃ P, P = pgC z448 := ⟨_, rfl⟩
        rw [← hPZ] at HE1
        have hbu : ∀ W : World, (zeroValue 62).run Try.prog W = .ok (.agg PZ) W := fun W => by rw [hPZ]; exact zeroIm W
        have heq := HE1.out
        have hgr : ∀ (x y : Operand) (W : World), (eqGuard .eql 62 x y (.agg PR) (.agg PZ)).run Try.prog W = .ok () W := fun x y W => im_grd x y PR PZ W
        have HOUT := Lib.hid (show WholeOut xs wc (.returned (.bool qr)) wr from ⟨qr, rfl, RW.out, by rw [← HC1.out.2.2.2.1]; exact HW.out⟩)
        clear hqr hPR hPZ i1 i2 l1 k1 r1 hse hy hs HS HE1 IRR RW
        go_wp2_with fail
        refine wp_load_row 62 _ rfl rb rfl 62 PR (0, 0) _ HIB.out Try.underlying62 rfl HSR.out ?_
        go_wp2
        go_ret
        exact HOUT.out
end Go.Proofs.Ythbbnebanmpcjaa.Pg

/- A page is read; lists of ints compared. -/
namespace Go.Proofs.Ythbbnebanmpcjaa.Pg
open Go.ChangeShapes Go.WideShapes Go.ChangeAt Go.RowKit Go.IntWalk Go.Proofs.Mem Go.Proofs.Each
set_option linter.unusedVariables false
set_option linter.unusedSimpArgs false
def QuietB (q : Bool) (w : World) (e : Ending) (w' : World) : Prop := e = .returned (.bool q) ∧ ∃ d, w' = w.drewN d
theorem take_eq {xs ys : List Int} {k : Nat} (h : xs.take k = ys.take k) (hx : k < xs.length) (hy : k < ys.length) (e : xs.getD k 0 = ys.getD k 0) : xs.take (k + 1) = ys.take (k + 1) := by
  rw [List.take_add_one, List.take_add_one, h, List.getElem?_eq_getElem hx, List.getElem?_eq_getElem hy]
  rw [List.getD_eq_getElem?_getD, List.getD_eq_getElem?_getD, List.getElem?_eq_getElem hx, List.getElem?_eq_getElem hy] at e
  simp only [Option.getD_some] at e
  rw [e]
set_option maxHeartbeats 4000000 in
theorem ints_same (a b : Value) (xs ys : List Int) (w : World) (B B' : Nat) (ha : IR w B .i64 a xs) (hb : IR w B' .i64 b ys) :
    Calls Try.prog 22 #[a, b] w (QuietB (decide (xs = ys)) w) := by
  obtain ⟨q, hq⟩ : ∃ q, decide (xs = ys) = q := ⟨_, rfl⟩
  rw [hq]
  have HQ := Lib.hid hq
  clear hq
  obtain ⟨A1, c1, rfl, hl1, hm1⟩ := ha.form
  obtain ⟨A2, c2, rfl, hl2, hm2⟩ := hb.form
  unfold maxLen at hm1 hm2
  by_cases hl : xs.length = ys.length
  · have HA := Lib.hid ha
    have HB := Lib.hid hb
    have HL := Lib.hid hl
    have d1 : ((xs.length : Int) == (ys.length : Int)) = true := by simp [hl]
    have d2 : ((xs.length : Int) != (ys.length : Int)) = false := by simp [hl]
    clear ha hb hl
    go_enter Try.func22, Try.ntmps22
    go_wp2
    go_loopw [5] (fun i wr => ∃ k : Nat, i = .int .i64 k ∧ k ≤ xs.length ∧ Hid (xs.take k = ys.take k) ∧ ∃ d, Hid (wr = w.drewN d)) (fun i _ => xs.length - (intOf i).toNat)
    case atStart => exact ⟨0, rfl, by omega, Lib.hid rfl, 0, Lib.hid rfl⟩
    case round =>
      obtain ⟨k, rfl, hk, HK, d, HW⟩ := hrel
      obtain rfl := HW.out
      by_cases hlt : k < xs.length
      · obtain ⟨b1, o1, rfl, _, g1⟩ := HA.out.index k hlt
        obtain ⟨b2, o2, rfl, _, g2⟩ := HB.out.index k (by have := HL.out; omega)
        have hlt2 : k < ys.length := by have := HL.out; omega
        have q1 : decide ((k : Int) < (xs.length : Int)) = true := decide_eq_true (by omega)
        have q1' : decide (k < xs.length) = true := decide_eq_true hlt
        have q2 : decide ((k : Int) < (ys.length : Int)) = true := decide_eq_true (by have := HL.out; omega)
        have q2' : decide (k < ys.length) = true := decide_eq_true (by have := HL.out; omega)
        have t1 : ∀ D : Nat, (w.drewN D).cell? ⟨b1, o1 + k, none⟩ = some (.int .i64 (xs.getD k 0)) := fun D => g1
        have t2 : ∀ D : Nat, (w.drewN D).cell? ⟨b2, o2 + k, none⟩ = some (.int .i64 (ys.getD k 0)) := fun D => g2
        obtain ⟨u1, hu1⟩ : ∃ u, u = xs.getD k 0 := ⟨_, rfl⟩
        obtain ⟨u2, hu2⟩ : ∃ u, u = ys.getD k 0 := ⟨_, rfl⟩
        rw [← hu1] at t1
        rw [← hu2] at t2
        have M1 := Lib.hid hu1
        have M2 := Lib.hid hu2
        clear g1 g2 hu1 hu2
        obtain ⟨qe, hqe⟩ : ∃ q, (u1 != u2) = q := ⟨_, rfl⟩
        have HE := Lib.hid (show qe = true ↔ u1 ≠ u2 by rw [← hqe, bne_iff_ne])
        cases qe
        · have e0 : u1 = u2 := by
            have := HE.out
            rcases Int.decEq u1 u2 with h | h
            · exact absurd (this.2 h) (by decide)
            · exact h
          have HT := Lib.hid (take_eq HK.out hlt hlt2 (by rw [← M1.out, ← M2.out]; exact e0))
          clear e0
          go_wp2
          go_quiet (fail)
          go_wp2
          go_roundw
          case rel => exact ⟨k + 1, by go_num, by omega, HT, _, Lib.hid rfl⟩
          case measure => simp [intOf]; omega
        · have hne : xs ≠ ys := fun e => by
            have := HE.out.1 rfl
            rw [M1.out, M2.out, e] at this
            exact this rfl
          have HN := Lib.hid (decide_eq_false hne)
          clear hne
          go_wp2
          go_quiet (fail)
          go_wp2
          go_ret
          obtain rfl : q = false := HQ.out.symm.trans HN.out
          exact ⟨rfl, d + nq, by rw [World.drewN_drewN]⟩
      · have q1 : decide ((k : Int) < (xs.length : Int)) = false := decide_eq_false (by omega)
        have q1' : decide (k < xs.length) = false := decide_eq_false hlt
        have he : xs = ys := by
          have h := HK.out
          have e := HL.out
          rwa [List.take_of_length_le (by omega), List.take_of_length_le (by omega)] at h
        have HE := Lib.hid (decide_eq_true he)
        clear he
        go_wp2
        go_ret
        obtain rfl : q = true := HQ.out.symm.trans HE.out
        exact ⟨rfl, d, rfl⟩
  · have d2 : ((xs.length : Int) != (ys.length : Int)) = true := by rw [bne_iff_ne]; omega
    have hne : xs ≠ ys := fun e => hl (by rw [e])
    have HN := Lib.hid (decide_eq_false hne)
    clear ha hb hne hl
    go_enter Try.func22, Try.ntmps22
    go_wp2
    go_ret
    obtain rfl : q = false := HQ.out.symm.trans HN.out
    exact ⟨rfl, 0, rfl⟩
/-! a page is built of its image -/
theorem fill_from : ∀ (l : List Value) (k : Nat) (z : Array Value), k + l.length ≤ z.size → (l.zipIdx k).foldl (fun (cs : Array Value) (x : Value × Nat) => cs.setIfInBounds x.2 x.1) z = (z.toList.take k ++ l ++ z.toList.drop (k + l.length)).toArray
  | [], k, z, h => by simp
  | v :: l, k, z, h => by
    simp only [List.length_cons] at h
    rw [List.zipIdx_cons, List.foldl_cons, fill_from l (k + 1) _ (by simp; omega)]
    have hk : k < z.toList.length := by simp; omega
    congr 1
    simp only [Array.toList_setIfInBounds, List.length_cons]
    rw [List.take_succ_eq_append_getElem (by rw [List.length_set]; exact hk), List.getElem_set_self, List.take_set_of_le (Nat.le_refl _), List.drop_set_of_lt (by omega), show k + 1 + l.length = k + (l.length + 1) by omega]
    simp
theorem fill_all (v z : Array Value) (h : v.size = z.size) : v.zipIdx.foldl (fun cs (x : Value × Nat) => cs.setIfInBounds (0 + x.2) x.1) z = v := by
  rw [← Array.foldl_toList, Array.toList_zipIdx]
  have := fill_from v.toList 0 z (by simp; omega)
  simp only [Nat.zero_add] at this ⊢
  rw [this]
  have e : z.toList.drop v.toList.length = [] := List.drop_eq_nil_of_le (by simp; omega)
  rw [e]; simp
theorem built_pg (V : Array Value) : Try.prog.built 64 [(0, .agg V)] = Instr.fill (fun i => #[((0 : Nat), (448 : Nat))][i]?) (pgC z448) [(0, .agg V)] := by kernel_rfl
theorem pg_build (V : Array Value) (hV : V.size = 448) (W : World) : (Instr.build 64 #[(0, .agg V)]).run Try.prog W = .ok (.agg V) W := by
  refine run_build W 64 #[(0, .agg V)] V ?_
  have hz : (pgC z448).size = 448 := pgC_size List.length_replicate
  show Try.prog.built 64 [(0, .agg V)] = some V
  rw [built_pg]
  have hc : (Value.agg V).cells = V := rfl
  have hf := fill_all V (pgC z448) (by omega)
  unfold Instr.fill
  simp only [hc, hV, hz]
  have e0 : (#[((0 : Nat), (448 : Nat))][0]?) = some (0, 448) := rfl
  rw [e0]
  dsimp only
  rw [if_neg (by decide)]
  unfold Instr.fill
  exact congrArg some hf
theorem wpList_build_pg (w : World) {ops : Array Oper} {rest : List Oper} {o : Oper} {ac : Act} {Q : Exit → Act → World → Prop} (hgd : o.guard = none) (x : Operand) (ho : o.op = .build 64 #[(0, x)]) (V : Array Value) (hV : V.size = 448) (hx : ac.eval x = .agg V)
    (h : wpList Try.prog ops Q rest (ac.put o.dst (.agg V)) w) : wpList Try.prog ops Q (o :: rest) ac w := by
  refine wpList_plain hgd fun K hK' => ?_
  unfold Oper.wp execOp
  have e : (#[((0 : Nat), x)].map fun (i, x) => (i, ac.eval x)) = #[(0, .agg V)] := by simp [hx]
  simp only [ho, e, Sem.run_bind, pg_build V hV w, Result.andThen_ok]
  exact hK' _ _ h
/-- what bytes are read as -/
def ReadOut (xs : List Int) (w : World) (e : Ending) (w' : World) : Prop :=
  (∃ b ys, e = .returned (.tuple #[.pointer (some ⟨b, 0, none⟩), .int .u16 0]) ∧ w.heap.size ≤ b ∧ Pw w' b ys ∧ Below w.heap.size w w' ∧ ((xs = z448 ∧ ys = newP 0) ∨ (xs ≠ z448 ∧ Wf xs ∧ ys = xs)))
  ∨ (e = .returned (.tuple #[.pointer none, .int .u16 90]) ∧ Below w.heap.size w w' ∧ xs ≠ z448 ∧ ¬ Wf xs)
theorem ir_range {w : World} {B n c g o : Nat} {xs : List Int} (h : IR w B .u8 (.slice (some ⟨g, o, none⟩) n c) xs) : w.rangeAt g o (pgC xs).toList := by
  intro j v hj
  unfold pgC at hj
  simp only [List.getElem?_map] at hj
  have hl : j < xs.length := by
    rcases Nat.lt_or_ge j xs.length with e | e
    · exact e
    · rw [List.getElem?_eq_none e] at hj; cases hj
  obtain ⟨A, c', e, _, _, _, h5⟩ := h
  injection e with e1 e2 e3
  obtain ⟨b', o', e4, _, hc⟩ := h5 j hl
  rw [← e1] at e4
  injection e4 with e4
  injection e4 with e5 e6
  subst e5 e6
  rw [List.getElem?_eq_getElem hl] at hj
  simp only [Option.map_some, Option.some.injEq] at hj
  rw [hc, ← hj, List.getD_eq_getElem?_getD, List.getElem?_eq_getElem hl]
  rfl
set_option maxRecDepth 100000 in
set_option maxHeartbeats 8000000 in
theorem read_any (w : World) (B : Nat) (v : Value) (xs : List Int) (hr : IR w B .u8 v xs) (hb : Bytes xs) :
    Calls Try.prog 16 #[v] w (ReadOut xs w) := by
  obtain ⟨A, c, rfl, hlc, hcm⟩ := hr.form
  unfold maxLen at hcm
  by_cases hl : xs.length = 448
  case neg =>
    have dl : ((xs.length : Int) != 448) = true := by rw [bne_iff_ne]; omega
    have HO := Lib.hid (show ReadOut xs w (.returned (.tuple #[.pointer none, .int .u16 90])) w from .inr ⟨rfl, Below.refl _ _, fun e => hl (by rw [e]; exact List.length_replicate), fun W => hl W.w0.len⟩)
    clear hr hl hb
    go_enter Try.func16, Try.ntmps16
    go_wp2
    go_ret2
    exact HO.out
  obtain ⟨g, o, rfl, _, _⟩ := hr.index 0 (by omega)
  have HR := Lib.hid (ir_range hr)
  have dl : ((xs.length : Int) != 448) = false := by rw [bne_eq_false_iff_eq]; omega
  have dl2 : ¬ xs.length < 448 := by omega
  have HSX : Hid ((Try.prog.info? 62).map (·.size) = some (pgC xs).size) := Lib.hid (by rw [pgC_size hl]; exact im_info)
  have hq1 := im_eq w xs z448 hl List.length_replicate
  have HBX := Lib.hid hb
  have HXL := Lib.hid hl
  obtain ⟨LX, hLX⟩ : ∃ L, L = xs.length := ⟨_, rfl⟩
  rw [← hLX] at dl dl2 hlc ⊢
  clear hr hb hl hLX
  obtain ⟨q, hq⟩ : ∃ q, q = decide (xs = z448) := ⟨_, rfl⟩
  obtain ⟨PX, hPX⟩ : ∃ P, P = pgC xs := ⟨_, rfl⟩
  obtain ⟨PZ, hPZ⟩ : ∃ P, P = pgC z448 := ⟨_, rfl⟩
  have HXS := Lib.hid (show PX.size = 448 by rw [hPX]; exact pgC_size HXL.out)
  have hzi : ∀ W : World, (zeroValue 62).run Try.prog W = .ok (.agg PZ) W := fun W => by rw [hPZ]; exact zeroIm W
  have heq : ∀ W : World, (binOp .eql 62 (.agg PX) (.agg PZ)).run Try.prog W = .ok (.bool q) W := fun W => by rw [hPX, hPZ, hq]; exact im_eq W xs z448 HXL.out List.length_replicate
  have hgr : ∀ (x y : Operand) (W : World), (eqGuard .eql 62 x y (.agg PX) (.agg PZ)).run Try.prog W = .ok () W := fun x y W => im_grd x y PX PZ W
  have HPX := Lib.hid hPX
  have HQ := Lib.hid hq
  rw [← hPX] at HR HSX
  clear hPX hPZ hq hq1
  have harr : ∀ W : World, (Instr.arrayAt 62 (.slice (some ⟨g, o, none⟩) LX c)).run Try.prog W = .ok (.pointer (some ⟨g, o, none⟩)) W := fun W => by
    simp [Instr.arrayAt, Sem.run_bind, run_underlying Try.underlying62, dl2]
  go_enter Try.func16, Try.ntmps16
  go_wp2_with fail
  refine wp_load_mid 62 _ rfl g o rfl PX.toList _ HR.out Try.underlying62 rfl (by rw [Array.length_toList]; exact HSX.out) ?_
  rw [Array.toArray_toList]
  clear harr
  go_wp2_with (first
    | (refine wpList_build_pg _ rfl _ rfl PX HXS.out rfl ?_)
    | fail)
  obtain ⟨w1, hw1⟩ : ∃ w1, w.alloc (.cells PX 64) = w1 := ⟨_, rfl⟩
  have P1 := Lib.hid (show PgAt w1 w.heap.size xs from ⟨by rw [← hw1, HPX.out]; exact Box.new _ _ _, HXL.out, HBX.out⟩)
  have B1 := Lib.hid (show Below w.heap.size w w1 by rw [← hw1]; exact new_ (Below.refl _ _) _)
  have HX1 := Lib.hid (show Box w1 w.heap.size PX 64 by rw [← hw1]; exact Box.new _ _ _)
  have NE := Lib.hid (new_any w1 0 (by decide))
  have WH := Lib.hid (whole_any w1 w.heap.size xs P1.out)
  rw [hw1]
  obtain ⟨b, hb⟩ : ∃ b, b = w.heap.size := ⟨_, rfl⟩
  have HB := Lib.hid hb
  rw [← hb] at HX1 WH P1 ⊢
  clear hw1 hb
  refine wp_load_row 62 _ rfl b rfl 64 PX (0, 0) _ HX1.out Try.underlying62 rfl HSX.out ?_
  clear hlc hcm dl dl2
  cases q
  case true =>
    go_wp2_with fail
    (with_reducible refine NE.out.mono ?_)
    rintro e w2 ⟨rfl, p2, b2⟩
    have HO := Lib.hid (show ReadOut xs w (.returned (.tuple #[.pointer (some ⟨w1.heap.size, 0, none⟩), .int .u16 0])) w2 from .inl ⟨_, _, rfl, B1.out.size, ⟨p2, (new_wf 0).1⟩, B1.out.trans (b2.mono B1.out.size), .inl ⟨of_decide_eq_true HQ.out.symm, rfl⟩⟩)
    clear p2 b2
    go_wp2
    go_ret2
    exact HO.out
  case false =>
    have HN := Lib.hid (of_decide_eq_false HQ.out.symm)
    go_wp2_with fail
    (with_reducible refine WH.out.mono ?_)
    rintro e w2 ⟨q2, rfl, h2, b2⟩
    have B2 := Lib.hid (B1.out.trans (b2.mono B1.out.size))
    have P2 := Lib.hid (P1.out.later b2)
    have H2 := Lib.hid h2
    clear h2 b2
    cases q2
    · have HO := Lib.hid (show ReadOut xs w (.returned (.tuple #[.pointer none, .int .u16 90])) w2 from .inr ⟨rfl, B2.out, HN.out, fun W => absurd (H2.out.2 W) (by decide)⟩)
      clear H2 HN HQ
      go_wp2
      go_ret2
      exact HO.out
    · have HO := Lib.hid (show ReadOut xs w (.returned (.tuple #[.pointer (some ⟨b, 0, none⟩), .int .u16 0])) w2 from .inl ⟨_, _, rfl, by rw [HB.out]; exact Nat.le_refl _, ⟨P2.out, H2.out.1 rfl⟩, B2.out, .inr ⟨HN.out, H2.out.1 rfl, rfl⟩⟩)
      clear H2 HN HQ
      go_wp2
      go_ret2
      exact HO.out
end Go.Proofs.Ythbbnebanmpcjaa.Pg
