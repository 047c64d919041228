import Derived.Test.YteldfoplhcnljaaKn8
import Derived.Deep.AppendLies
/- Edges behind edges. -/
namespace Go.Proofs.Ring
set_option linter.unusedVariables false
theorem loop_congr {f g : Int → Seen → Res} {pre us : List Int} {k : Nat} (hm : ∀ n s, Mono (g n s) s) (hfg : ∀ n s, left us s + 1 ≤ k → f n s = g n s) :
    ∀ (ns : List Int) (s : Seen), (∀ n ∈ ns, n ∈ us) → left us s ≤ k → loop f pre ns s = loop g pre ns s
  | [], s, _, _ => rfl
  | n :: ns, s, h, hs => by
    have hn := h n (List.mem_cons_self ..)
    have ht : ∀ n ∈ ns, n ∈ us := fun x hx => h x (List.mem_cons_of_mem _ hx)
    unfold loop
    cases e : s n with
    | true => simpa using loop_congr hm hfg ns s ht hs
    | false =>
      have h1 := left_ins hn e
      have h2 : f n (ins s n) = g n (ins s n) := hfg n _ (by omega)
      have h3 : left us (g n (ins s n)).2.2 ≤ left us (ins s n) := left_mono (hm n _)
      simp only [h2, Bool.false_eq_true, if_false]
      rw [loop_congr hm hfg ns _ ht (by omega)]
theorem dfs_fuel {G : Int → List Int} {us : List Int} (hus : ∀ x, ∀ n ∈ G x, n ∈ us) (fr : Int) : ∀ (k : Nat) (pre : List Int) (cur : Int) (s : Seen), left us s + 1 ≤ k → dfs G fr (k + 1) pre cur s = dfs G fr k pre cur s
  | 0, _, _, _, h => by omega
  | k + 1, pre, cur, s, h => by
    rw [dfs_succ G fr (k + 1), dfs_succ G fr k]
    split
    · rfl
    · exact loop_congr (us := us) (k := k) (fun n s => dfs_mono G fr k _ n s) (fun n s h1 => dfs_fuel hus fr k _ n s h1) _ s (hus cur) (by omega)
theorem ring_fuel {G : Int → List Int} {us : List Int} (hus : ∀ x, ∀ n ∈ G x, n ∈ us) (fr : Int) {k : Nat} (h : left us (fun _ => false) + 1 ≤ k) : ∀ d, ring G fr (k + d) = ring G fr k
  | 0 => rfl
  | d + 1 => by
    rw [← ring_fuel hus fr h d]
    unfold ring
    rw [show k + (d + 1) = k + d + 1 by omega, dfs_fuel hus fr (k + d) [] fr _ (by omega)]
end Go.Proofs.Ring
namespace Go.Proofs.Yteldfoplhcnljaa.Knot
open Go.ChangeShapes Go.WideShapes Go.ChangeAt Go.RowKit Go.IntWalk Go.Proofs.Mem Go.Proofs.Ring
set_option linter.unusedVariables false
set_option linter.unusedSimpArgs false
theorem tos_mem {l : List Ed} {x n : Int} : n ∈ tos l x ↔ (⟨x, n⟩ : Ed) ∈ l := by
  unfold tos
  rw [List.mem_map]
  constructor
  · rintro ⟨e, h1, rfl⟩
    rw [List.mem_filter] at h1
    have h2 : e.a = x := by simpa using h1.2
    subst h2
    exact h1.1
  · intro h
    exact ⟨_, List.mem_filter.2 ⟨h, by simp⟩, rfl⟩
theorem cyc_same {l m : List Ed} (fr : Int) (h : ∀ e, e ∈ l ↔ e ∈ m) : cyc l fr = cyc m fr := by
  have hl : left (us l) (fun _ => false) ≤ l.length := by have := left_le (us l); rwa [us_len] at this
  have hm : left (us m) (fun _ => false) ≤ m.length := by have := left_le (us m); rwa [us_len] at this
  have e1 := ring_fuel (G := srt l) (us := us l) (fun x n hn => tos_us ((srt_mem _ _ _).1 hn)) fr (k := l.length + 1) (by omega) m.length
  have e2 := ring_fuel (G := srt m) (us := us m) (fun x n hn => tos_us ((srt_mem _ _ _).1 hn)) fr (k := m.length + 1) (by omega) l.length
  unfold cyc
  rw [← e1, ← e2, show m.length + 1 + l.length = l.length + 1 + m.length by omega]
  exact ring_same (fun x => srt_sorted l x) (fun x => srt_sorted m x) (fun x n => by rw [srt_mem, srt_mem, tos_mem, tos_mem]; exact h _)
theorem cyc_twice (l : List Ed) (fr : Int) : cyc (l ++ l) fr = cyc l fr := cyc_same fr (fun e => by simp)
theorem cyc_turned (l : List Ed) (fr : Int) : cyc l.reverse fr = cyc l fr := cyc_same fr (fun e => by simp)
theorem cyc_more {l : List Ed} (m : List Ed) {fr : Int} (h : cyc l fr ≠ []) : cyc (l ++ l ++ m) fr ≠ [] := by
  rw [cyc_iff] at h ⊢
  obtain ⟨z, h1, h2⟩ := h
  have up : ∀ x n, n ∈ srt l x → n ∈ srt (l ++ l ++ m) x := fun x n hn => by
    rw [srt_mem, tos_mem] at hn ⊢
    simp [hn]
  refine ⟨z, ?_, up _ _ h2⟩
  clear h2
  induction h1 with
  | start => exact .start
  | step h3 h4 ih => exact .step ih (up _ _ h4)
theorem flat_at2 {xs : List Ed} {j : Nat} {u : Value} (h : (xs.flatMap cEd)[j]? = some u) : ∃ x, xs[j / 2]? = some x ∧ (cEd x)[j % 2]? = some u := by
  induction xs generalizing j with
  | nil => simp at h
  | cons x xs ih =>
    rcases Nat.lt_or_ge j 2 with h1 | h1
    · refine ⟨x, by rw [Nat.div_eq_of_lt h1]; rfl, ?_⟩
      rw [List.flatMap_cons, List.getElem?_append_left (by rw [cEd_len]; exact h1)] at h
      rw [Nat.mod_eq_of_lt h1]; exact h
    · obtain ⟨m, rfl⟩ : ∃ m, j = m + 2 := ⟨j - 2, by omega⟩
      rw [List.flatMap_cons, List.getElem?_append_right (by rw [cEd_len]; omega), cEd_len, Nat.add_sub_cancel] at h
      obtain ⟨y, h2, h3⟩ := ih h
      refine ⟨y, ?_, ?_⟩
      · rw [show (m + 2) / 2 = m / 2 + 1 by omega]; simpa using h2
      · rw [show (m + 2) % 2 = m % 2 by omega]; exact h3
theorem run_append_none {P : Program} {w : World} (base : Nat) (t ty e : TypeId) (i : TypeInfo) (size c : Nat) (ht : P.underlying t = some (.slice e)) (hi : P.info? e = some i)
    (v : Value) (n : Nat) (xs : List Value) (hown : w.ownsRow base e size v n xs) :
    (Builtin.append_ #[t, t] ty #[v, .slice none 0 c]).run P w = .ok v w := by
  rcases hown.2 with ⟨rfl, rfl⟩ | ⟨g, cap, cur, rfl, _, _, hnc, _⟩
  · simp [Builtin.append_, run_underlying ht, sizeOf, typeInfo, hi, Builtin.lenOf, Builtin.firstCells]
  · simp [Builtin.append_, run_underlying ht, sizeOf, typeInfo, hi, Builtin.lenOf, Builtin.firstCells, hnc, storeCells]
/-- 'out = append(out, l...)', whatever l is -/
theorem wpList_push_eds {P : Program} (w : World) {ops : Array Oper} {rest : List Oper} {o : Oper} {a : Act} {Q : Exit → Act → World → Prop} (hgd : o.guard = none) (s x : Operand) (t : TypeId)
    (ho : o.op = .call { callee := .builtin .append, args := #[s, x], argTypes := #[t, t] })
    (base : Nat) (e : TypeId) (i : TypeInfo) (z : Value) (bytes : Nat) (ht : P.underlying t = some (.slice e)) (hi : P.info? e = some i) (hz : i.zero = some z)
    (hsize : i.size = 2) (hby : i.bytes = bytes) (hzs : z.cells.size = 2)
    (v : Value) (xs : List Ed) (hs : a.eval s = v) (hown : w.ownsRow base e 2 v xs.length (xs.flatMap cEd))
    (u : Value) (B : Nat) (ys : List Ed) (hx : a.eval x = u) (hu : SS cEd 2 w B u ys) (h63 : xs.length + ys.length ≤ maxLen) (hbytes : (xs.length + ys.length) * bytes ≤ 140737488355328) (hbase : base ≤ w.heap.size)
    (h : ∀ v' w', w'.ownsRow base e 2 v' (xs ++ ys).length ((xs ++ ys).flatMap cEd) → RowTo w w' v v' → wpList P ops Q rest (a.put o.dst v') w') : wpList P ops Q (o :: rest) a w := by
  refine wpList_plain hgd fun K hK' => ?_
  have hu0 := hu
  obtain ⟨A, c, rfl, h2, h3, h5⟩ := hu
  cases A with
  | none =>
    have hy : ys = [] := by
      cases ys with
      | nil => rfl
      | cons y ys => obtain ⟨_, _, e, _⟩ := h5 0 y rfl; cases e
    subst hy
    have hrun := run_append_none (P := P) (w := w) base t o.type e i 2 c ht hi _ _ _ hown
    unfold Oper.wp
    simp [execOp, ho, resolve, invoke, builtin, hs, hx, hrun, Result.andThen]
    exact hK' _ _ (h v w (by simpa using hown) (RowTo.refl _ _))
  | some ad =>
    obtain ⟨v', w', hrun, h6, h7, _, h8⟩ := run_append_own_at (P := P) (w := w) base t o.type e i z 2 bytes ht hi hz hsize hby hzs (by omega) v xs.length _ hown ad ys.length c (ys.flatMap cEd) (flat_len cEd_len ys) (by
      intro j u hj
      obtain ⟨y, h9, h10⟩ := flat_at2 hj
      obtain ⟨b, off, e, _, hc⟩ := h5 _ y h9
      injection e with e
      subst e
      rw [Go.WideShapes.add_plain, ← hc _ _ h10]
      congr 2
      omega) (by
      intro u hu
      rw [List.mem_flatMap] at hu
      obtain ⟨y, _, h9⟩ := hu
      exact cEd_one y u h9) h63 hbytes hbase
    unfold Oper.wp
    simp [execOp, ho, resolve, invoke, builtin, hs, hx, hrun, Result.andThen]
    exact hK' _ _ (h v' w' (by rw [List.length_append, List.flatMap_append]; exact h6) (RowTo.app h7 h8))
end Go.Proofs.Yteldfoplhcnljaa.Knot
