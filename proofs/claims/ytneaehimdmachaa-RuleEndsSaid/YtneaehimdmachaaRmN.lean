import Derived.Test.YtneaehimdmachaaRm7
/- A list of structs appended whole; the first of a list. -/
namespace Go.Proofs.Mem
open Go.RowKit Go.WideShapes
set_option linter.unusedVariables false
set_option linter.unusedSimpArgs false
section
variable {α : Type} {F : α → List Value} {sz : Nat}
theorem SS.take {w : World} {B : Nat} {A : Option Addr} {n c : Nat} {xs : List α} (h : SS F sz w B (.slice A n c) xs) (k : Nat) (hk : k ≤ xs.length) : SS F sz w B (.slice A k c) (xs.take k) := by
  obtain ⟨A', c', e, h1, h2, h3⟩ := h
  injection e with e1 e2 e3
  subst e1 e3
  refine ⟨A, c, by rw [List.length_take, Nat.min_eq_left hk], by rw [List.length_take]; omega, h2, fun i x hx => ?_⟩
  rw [List.getElem?_take] at hx
  split at hx
  · exact h3 i x hx
  · cases hx
theorem wpList_append_ss {P : Program} (w : World) {ops : Array Oper} {rest : List Oper} {o : Oper} {a : Act} {Q : Exit → Act → World → Prop} (hgd : o.guard = none) (s x : Operand) (t : TypeId)
    (ho : o.op = .call { callee := .builtin .append, args := #[s, x], argTypes := #[t, t] })
    (base : Nat) (e : TypeId) (i : TypeInfo) (z : Value) (bytes : Nat) (ht : P.underlying t = some (.slice e)) (hi : P.info? e = some i) (hz : i.zero = some z)
    (hsize : i.size = sz) (hby : i.bytes = bytes) (hzs : z.cells.size = sz) (hsz : 0 < sz) (hF : ∀ y, (F y).length = sz) (h1 : ∀ y : α, ∀ u ∈ F y, u.oneCell' = true)
    (v : Value) (xs : List α) (hs : a.eval s = v) (hown : w.ownsRow base e sz v xs.length (xs.flatMap F))
    (B : Nat) (u : Value) (ys : List α) (hx : a.eval x = u) (hr : SS F sz w B u ys) (h63 : xs.length + ys.length ≤ maxLen) (hbytes : (xs.length + ys.length) * bytes ≤ 140737488355328) (hbase : base ≤ w.heap.size)
    (h : ∀ v' w', w'.ownsRow base e sz v' (xs ++ ys).length ((xs ++ ys).flatMap F) → RowTo w w' v v' → wpList P ops Q rest (a.put o.dst v') w') : wpList P ops Q (o :: rest) a w := by
  refine wpList_plain hgd fun K hK' => ?_
  obtain ⟨A, c, rfl, hc1, hc2, hat⟩ := hr
  cases A with
  | none =>
    obtain rfl : ys = [] := by
      cases ys with
      | nil => rfl
      | cons y0 ys =>
        obtain ⟨_, _, e', _⟩ := hat 0 y0 rfl
        cases e'
    have hrun : (Builtin.append_ #[t, t] o.type #[v, .slice none 0 c]).run P w = .ok v w := by
      rcases hown.2 with ⟨rfl, hn⟩ | ⟨g, cap, cur, rfl, _, _, hnc, _⟩
      · simp [Builtin.append_, run_underlying ht, sizeOf, typeInfo, hi, Builtin.lenOf, Builtin.firstCells]
      · simp [Builtin.append_, run_underlying ht, sizeOf, typeInfo, hi, Builtin.lenOf, Builtin.firstCells, hnc, storeCells]
    unfold Oper.wp
    simp [execOp, ho, resolve, invoke, builtin, hs, hx, hrun, Result.andThen]
    exact hK' _ _ (h v w (by simpa using hown) (RowTo.refl _ _))
  | some ad =>
    obtain ⟨v', w', hrun, h2, h3, _, h5⟩ := run_append_own_at (P := P) (w := w) base t o.type e i z sz bytes ht hi hz hsize hby hzs hsz v xs.length _ hown ad ys.length c (ys.flatMap F) (flat_len hF _) (by
      intro j u' hj
      have hjl : j < ys.length * sz := by
        rw [← flat_len hF]
        exact (List.getElem?_eq_some_iff.1 hj).1
      have hi : j / sz < ys.length := Nat.div_lt_of_lt_mul (by rw [Nat.mul_comm]; exact hjl)
      have hyi := List.getElem?_eq_getElem hi
      obtain ⟨b', off', e', _, hc⟩ := hat _ _ hyi
      injection e' with e'
      subst e'
      have hjj : j / sz * sz + j % sz = j := Nat.div_add_mod' j sz
      rw [← hjj, flat_at hF _ _ _ _ hyi (Nat.mod_lt _ hsz)] at hj
      rw [Go.WideShapes.add_plain, ← hc _ _ hj]
      congr 2
      omega) (fun u' hu => by
      obtain ⟨y, _, hy⟩ := List.mem_flatMap.1 hu
      exact h1 y u' hy) h63 hbytes hbase
    unfold Oper.wp
    simp [execOp, ho, resolve, invoke, builtin, hs, hx, hrun, Result.andThen]
    exact hK' _ _ (h v' w' (by rw [List.length_append, List.flatMap_append]; exact h2) (RowTo.app h3 h5))
end
end Go.Proofs.Mem
