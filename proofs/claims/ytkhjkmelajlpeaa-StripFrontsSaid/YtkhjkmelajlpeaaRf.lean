import Derived.Test.YtkhjkmelajlpeaaTab
import Derived.RangeFuncNested
import Derived.RangeFuncBound
import Derived.RangeFuncCalls
import Derived.RangeFuncLeaves
import Derived.RangeFuncBox
import Derived.RangeFuncFrom
import Derived.Shelf.Abstract
import Derived.Shelf.RegionOpen
import Derived.OwnWalkIn
import Derived.TacticsInMore
import Derived.LoopNIn
import Derived.LoopIn
import Derived.BigFrameIn
/- Ranges over functions: what lies beside the loop's own record; appends within a fence. -/
namespace Go.Proofs.Mem
open Go.RowKit Go.WideShapes Go.Shelf
set_option linter.unusedVariables false
theorem Sc.of_own {A B : World} {row : Option Nat} (hg : A.grownBy B row) (hr : ∀ r, row = some r → ∃ o : Obj, A.heap[r]? = some o ∧ o.isCells = false) : Sc A B := fun g C t f e => by
  refine (hg.block g (Array.getElem?_eq_some_iff.1 e).1 (fun h => ?_)).trans e
  obtain ⟨o, h1, h2⟩ := hr g h.symm
  rw [e] at h1
  injection h1 with h1
  subst h1
  cases h2
/-- an invariant that all cells' lying on carries -/
theorem ownFrom_sc {β : Type} {D : Nat} {I : β → World → Prop} (h : ∀ s A B, I s A → Sc A B → I s B) : OwnFrom D I := fun s W W' row hs hg hr => h s W W' hs (Sc.of_own hg (fun r e => (hr r e).2))
theorem ownFrom_scz {β : Type} {D : Nat} {I : β → World → Prop} (h : ∀ s A B, I s A → Sc A B → A.heap.size ≤ B.heap.size → I s B) : OwnFrom D I := fun s W W' row hs hg hr => h s W W' hs (Sc.of_own hg (fun r e => (hr r e).2)) hg.size
theorem ownFrom_fr {β : Type} {D : Nat} {S : Nat → Prop} {w0 : World} (hS : ∀ k, D ≤ k → S k) : OwnFrom D (fun (_ : β) W => Fr S w0 W) := fun s W W' row hs hg hr => hs.grown hg (fun g e => .inl (hS g (hr g e).1))
theorem frK_t {S : Nat → Prop} {A B C : World} (h : Fr S A B) (k : Fr S B C) : Fr S A C := h.trans k
theorem frK_b {S : Nat → Prop} {w : World} (hS : ∀ k, w.heap.size ≤ k → S k) (W : World) (l : Nat) (o o' : Obj) (hl : w.heap.size ≤ l) (_ : W.heap[l]? = some o) (_ : o.isCells = false) (_ : o.isWalk = false) : Fr S W (W.putObj l o') :=
  (Fr.refl S W).grown (grownBy_putObj' W l o') (fun g e => by injection e with e; subst e; exact .inl (hS _ hl))
theorem keeps_grown {W w' : World} {base n size : Nat} {e : TypeId} {v : Value} {xs : List Value} (hown : W.ownsRow base e size v n xs) (hg : W.grownBy w' v.ownBlock) : KeepsOthers W w' :=
  KeepsOthers.of_grownBy hg fun j o ej hj => by
    rcases hown.2 with ⟨rfl, _⟩ | ⟨g, cap, cur, rfl, _, hgb, _⟩
    · simp [Value.ownBlock] at ej
    · obtain rfl : g = j := by simpa [Value.ownBlock] using ej
      rw [hgb] at hj; cases hj; rfl
theorem below_grown {W w' a : World} {B base n size : Nat} {e : TypeId} {v : Value} {xs : List Value} (h : Below B a W) (hown : W.ownsRow base e size v n xs) (hg : W.grownBy w' v.ownBlock) (hb : B ≤ base) (hB : B ≤ W.heap.size) : Below B a w' :=
  h.trans ((Below.refl B W).grown hg hB (fun b hb' => by have := (hown.lt b hb').1; omega))
theorem fr_grown {S : Nat → Prop} {W w' a : World} {base n size : Nat} {e : TypeId} {v : Value} {xs : List Value} (h : Fr S a W) (hown : W.ownsRow base e size v n xs) (hg : W.grownBy w' v.ownBlock) (hb : ∀ k, base ≤ k → S k) : Fr S a w' :=
  h.grown hg (fun g e => .inl (hb g (hown.lt g e).1))
theorem sc_put {W : World} {D : Nat} {o : Obj} (o' : Obj) (h : W.heap[D]? = some o) (ho : o.isCells = false) : Sc W (W.putObj D o') :=
  Sc.of_own (grownBy_putObj' W D o') (fun r e => by injection e with e; subst e; exact ⟨o, h, ho⟩)
/-- 'out = append(out, b...)' within a fence -/
theorem wpListIn_append_all {F : Fence} {m : Nat} {P : Program} (w : World) {ops : Array Oper} {rest : List Oper} {o : Oper} {a : Act} {Q : Exit → Act → World → Prop} (hgd : o.guard = none) (s x : Operand) (t : TypeId)
    (ho : o.op = .call { callee := .builtin .append, args := #[s, x], argTypes := #[t, t] })
    (base : Nat) (e : TypeId) (i : TypeInfo) (k : IntKind) (bytes : Nat) (ht : P.underlying t = some (.slice e)) (hi : P.info? e = some i) (hz : i.zero = some (.int k 0))
    (hsize : i.size = 1) (hby : i.bytes = bytes) (v : Value) (n : Nat) (xs : List Int) (hs : a.eval s = v) (hown : w.ownsRow base e 1 v n (xs.map (.int k)))
    (B : Nat) (u : Value) (ys : List Int) (hx : a.eval x = u) (hr : IR w B k u ys) (hpos : 0 < ys.length) (h63 : n + ys.length ≤ maxLen) (hbytes : (n + ys.length) * bytes ≤ 140737488355328) (hbase : base ≤ w.heap.size)
    (h : ∀ v' w', w'.ownsRow base e 1 v' (n + ys.length) ((xs ++ ys).map (.int k)) → w.grownBy w' v.ownBlock → wpListIn F m P ops Q rest (a.put o.dst v') w') : wpListIn F m P ops Q (o :: rest) a w := by
  obtain ⟨A, c, rfl, h2, h3, h4, h5⟩ := hr
  cases A with
  | none => have hc := h4 rfl; omega
  | some ad =>
    refine wpListIn_append_own w hgd s x t ho base e i _ 1 bytes ht hi hz hsize hby rfl (by omega) v n _ hs hown ad ys.length c (ys.map (.int k)) hx (by simp) ?_ ?_ h63 hbytes hbase ?_
    · intro j u' hj
      have hjl : j < ys.length := by
        rcases Nat.lt_or_ge j ys.length with hh | hh
        · exact hh
        · rw [List.getElem?_eq_none (by simpa using hh)] at hj; cases hj
      obtain ⟨b, off, e, _, hc⟩ := h5 j hjl
      injection e with e
      subst e
      rw [Go.WideShapes.add_plain, hc, ← hj]
      simp [List.getD, List.getElem?_eq_getElem hjl]
    · intro u' hu
      obtain ⟨z, _, rfl⟩ := List.mem_map.1 hu
      rfl
    · intro v' w' h1 h2 _
      exact h v' w' (by simpa using h1) h2
end Go.Proofs.Mem
