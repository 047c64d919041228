import Derived.Test.YtpndcpmfcajmdaaSs
import Derived.Test.YtpndcpmfcajmdaaRowTo
import Derived.Laws.OwnMore
/- Rows of structs of the call's own. -/
namespace Go.Proofs.Mem
open Go.RowKit Go.WideShapes
set_option linter.unusedVariables false
section
variable {α : Type} {F : α → List Value} {sz : Nat}
theorem flat_len (hF : ∀ x, (F x).length = sz) : ∀ l : List α, (l.flatMap F).length = l.length * sz
  | [] => by simp
  | x :: l => by rw [List.flatMap_cons, List.length_append, hF, flat_len hF l, List.length_cons, Nat.succ_mul]; omega
theorem flat_at (hF : ∀ x, (F x).length = sz) : ∀ (l : List α) (i : Nat) (x : α) (j : Nat), l[i]? = some x → j < sz → (l.flatMap F)[i * sz + j]? = (F x)[j]?
  | [], i, x, j, h, _ => by simp at h
  | y :: l, 0, x, j, h, hj => by
    simp at h
    subst h
    rw [Nat.zero_mul, Nat.zero_add, List.flatMap_cons, List.getElem?_append_left (by rw [hF]; exact hj)]
  | y :: l, i + 1, x, j, h, hj => by
    have := flat_at hF l i x j (by simpa using h) hj
    rw [List.flatMap_cons, List.getElem?_append_right (by rw [hF, Nat.succ_mul]; omega), hF, ← this]
    congr 1
    rw [Nat.succ_mul]; omega
theorem SS.of_own {w : World} {base : Nat} {e : TypeId} {v : Value} {xs : List α} (hF : ∀ x, (F x).length = sz) (h : w.ownsRow base e sz v xs.length (xs.flatMap F)) : SS F sz w w.heap.size v xs := by
  have h' := h
  rcases h.2 with ⟨rfl, hn⟩ | ⟨g, cap, cur, rfl, hg, hh, hnc, hm, _, _⟩
  · have : xs = [] := List.eq_nil_of_length_eq_zero hn
    subst this
    exact SS.nil _ _
  · have hlt := (h.lt g rfl).2
    refine ⟨some ⟨g, 0, none⟩, cap, rfl, hnc, hm, fun i x hx => ⟨g, 0, rfl, hlt, fun j u hu => ?_⟩⟩
    have hi : i < xs.length := (List.getElem?_eq_some_iff.1 hx).1
    have hj : j < sz := by rw [← hF x]; exact (List.getElem?_eq_some_iff.1 hu).1
    have hlt2 : i * sz + j < xs.length * sz := by
      have h1 : (i + 1) * sz ≤ xs.length * sz := Nat.mul_le_mul_right sz hi
      rw [Nat.succ_mul] at h1
      omega
    rw [Nat.zero_add, h'.cellAt (i * sz + j) hlt2, flat_at hF xs i x j hx hj, hu]
/-- 'out = append(out, x)', x a struct that has just been laid in block g -/
theorem wpList_push_ss {P : Program} (w : World) {ops : Array Oper} {rest : List Oper} {o : Oper} {a : Act} {Q : Exit → Act → World → Prop} (hgd : o.guard = none) (s x : Operand) (t : TypeId)
    (ho : o.op = .call { callee := .builtin .append, args := #[s, x], argTypes := #[t, t] })
    (base : Nat) (e : TypeId) (i : TypeInfo) (z : Value) (bytes : Nat) (ht : P.underlying t = some (.slice e)) (hi : P.info? e = some i) (hz : i.zero = some z)
    (hsize : i.size = sz) (hby : i.bytes = bytes) (hzs : z.cells.size = sz) (hsz : 0 < sz) (hF : ∀ y, (F y).length = sz) (h1 : ∀ y : α, ∀ u ∈ F y, u.oneCell' = true)
    (v : Value) (xs : List α) (hs : a.eval s = v) (hown : w.ownsRow base e sz v xs.length (xs.flatMap F))
    (g : Nat) (y : α) (T : TypeId) (hx : a.eval x = .slice (some ⟨g, 0, none⟩) 1 1) (hc : Box w g (F y).toArray T) (h63 : xs.length + 1 ≤ maxLen) (hbytes : (xs.length + 1) * bytes ≤ 140737488355328) (hbase : base ≤ w.heap.size)
    (h : ∀ v' w', w'.ownsRow base e sz v' (xs ++ [y]).length ((xs ++ [y]).flatMap F) → RowTo w w' v v' → wpList P ops Q rest (a.put o.dst v') w') : wpList P ops Q (o :: rest) a w := by
  refine wpList_plain hgd fun K hK' => ?_
  obtain ⟨v', w', hrun, h2, h3, _, h5⟩ := run_append_own_at (P := P) (w := w) base t o.type e i z sz bytes ht hi hz hsize hby hzs hsz v xs.length _ hown ⟨g, 0, none⟩ 1 1 (F y) (by rw [hF]; omega) (by
    intro j u hj
    rw [Go.WideShapes.add_plain, Nat.zero_add, hc.cell j]
    simpa using hj) (h1 y) h63 hbytes hbase
  unfold Oper.wp
  simp [execOp, ho, resolve, invoke, builtin, hs, hx, hrun, Result.andThen]
  exact hK' _ _ (h v' w' (by rw [List.length_append, List.flatMap_append]; simpa using h2) (RowTo.app h3 h5))
end
end Go.Proofs.Mem
