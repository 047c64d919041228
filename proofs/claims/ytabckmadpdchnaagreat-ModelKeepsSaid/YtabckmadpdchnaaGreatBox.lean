import Derived.Test.YtabckmadpdchnaaGreatFr
/- A block that is known whole; owned rows behind calls that write nothing that was there. -/
namespace Go.Proofs.Mem
open Go.RowKit Go.WideShapes
set_option linter.unusedVariables false
theorem own_below {w w' : World} {base n size : Nat} {e : TypeId} {v : Value} {xs : List Value} (h : w.ownsRow base e size v n xs) (hb : Below w.heap.size w w') : w'.ownsRow base e size v n xs :=
  h.kept (row := none) ⟨hb.os, hb.tape, hb.output, hb.size, fun k hk _ => hb.block k hk⟩ (by cases v.ownBlock <;> simp)
theorem own_lower {w : World} {base base' n size : Nat} {e : TypeId} {v : Value} {xs : List Value} (h : w.ownsRow base e size v n xs) (hb : base' ≤ base) : w.ownsRow base' e size v n xs := by
  obtain ⟨h1, h2⟩ := h
  refine ⟨h1, ?_⟩
  rcases h2 with h2 | ⟨g, cap, cur, e1, e2, rest⟩
  · exact .inl h2
  · exact .inr ⟨g, cap, cur, e1, Nat.le_trans hb e2, rest⟩
theorem own_drewN {w : World} {base n size : Nat} {e : TypeId} {v : Value} {xs : List Value} (h : w.ownsRow base e size v n xs) (d : Nat) : (w.drewN d).ownsRow base e size v n xs := h
/-- block g is just these cells -/
def Box (w : World) (g : Nat) (C : Array Value) (t : TypeId) : Prop := w.heap[g]? = some (.cells C t (0, 0))
section
variable {w w' : World} {g : Nat} {C : Array Value} {t : TypeId}
theorem Box.lt (h : Box w g C t) : g < w.heap.size := by
  rcases Nat.lt_or_ge g w.heap.size with hlt | hge
  · exact hlt
  · unfold Box at h; rw [Array.getElem?_eq_none hge] at h; cases h
theorem Box.cell (h : Box w g C t) (i : Nat) : w.cell? ⟨g, i, none⟩ = C[i]? := by
  unfold Box at h; simp [World.cell?, h]
theorem Box.frozen (h : Box w g C t) (i : Nat) : w.frozen? ⟨g, i, none⟩ = false := by
  unfold Box at h; simp [World.frozen?, h]
theorem Box.new (w : World) (C : Array Value) (t : TypeId) : Box (w.alloc (.cells C t)) w.heap.size C t := heap_alloc_new w _
theorem Box.below {B : Nat} (h : Box w g C t) (hb : Below B w w') (hg : g < B) : Box w' g C t := (hb.block g hg).trans h
theorem Box.later (h : Box w g C t) (hb : Below w.heap.size w w') : Box w' g C t := h.below hb h.lt
theorem Box.alloc (h : Box w g C t) (o : Obj) : Box (w.alloc o) g C t := (Below.heap_alloc w o g h.lt).trans h
theorem Box.drewN (h : Box w g C t) (d : Nat) : Box (w.drewN d) g C t := h
theorem Box.drew (h : Box w g C t) : Box w.drew g C t := h
theorem Box.far (h : Box w g C t) {p : Addr} (hp : g ≠ p.block) (u : Value) : Box (w.setCell p u) g C t := (Below.heap_setCell w p u g hp).trans h
theorem Box.set_ (h : Box w g C t) (i : Nat) (u : Value) : Box (w.setCell ⟨g, i, none⟩ u) g (C.setIfInBounds i u) t := by
  unfold Box at h ⊢
  simp [World.setCell, Array.getElem?_modify, h]
theorem Box.fr {S : Nat → Prop} (h : Box w g C t) (hf : Fr S w w') (hn : ¬ S g) : Box w' g C t := (hf.block g h.lt hn).trans h
end
/-- nothing that was there has changed, and more has been done since -/
theorem step_ {w a b : World} (h : Below w.heap.size w a) (k : Below a.heap.size a b) : Below w.heap.size w b := h.trans (k.mono h.size)
theorem new_ {w a : World} (h : Below w.heap.size w a) (o : Obj) : Below w.heap.size w (a.alloc o) := h.alloc h.size o
end Go.Proofs.Mem
