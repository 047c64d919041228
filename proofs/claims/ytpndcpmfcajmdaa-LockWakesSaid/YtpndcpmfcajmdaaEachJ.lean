import Derived.Test.YtpndcpmfcajmdaaEach7
import Derived.Test.YtpndcpmfcajmdaaBox
import Derived.Sort.Grow
/- A region that draws its order, whose operations read, or lay new blocks: what it leaves is the world grown. -/
namespace Go.Proofs.Each
open Go Go.RowKit Go.Proofs.Mem Go.Sort
set_option linter.unusedVariables false
/-- w' is w, some draws on, with more blocks behind -/
def Gr (w w' : World) : Prop := ∃ q os, w' = grow (w.drewN q) os
theorem Gr.refl (w : World) : Gr w w := ⟨0, #[], by rw [grow_empty]; rfl⟩
theorem Gr.drewN (w : World) (q : Nat) : Gr w (w.drewN q) := ⟨q, #[], by rw [grow_empty]⟩
theorem Gr.drew (w : World) : Gr w w.drew := Gr.drewN w 1
theorem Gr.alloc (w : World) (o : Obj) : Gr w (w.alloc o) := ⟨0, #[o], by rw [alloc_eq_grow]; rfl⟩
theorem Gr.trans {a b c : World} (h : Gr a b) (k : Gr b c) : Gr a c := by
  obtain ⟨q, os, rfl⟩ := h
  obtain ⟨q', os', rfl⟩ := k
  refine ⟨q + q', os ++ os', ?_⟩
  rw [← grow_grow]
  have e : (a.drewN q).drewN q' = a.drewN (q + q') := by simp [World.drewN, Nat.add_assoc]
  show grow (grow ((a.drewN q).drewN q') os) os' = _
  rw [e]
theorem Gr.below {a b : World} (h : Gr a b) : Below a.heap.size a b := by
  obtain ⟨q, os, rfl⟩ := h
  refine ⟨rfl, rfl, rfl, by simp [grow, World.drewN], fun k hk => ?_⟩
  simp only [grow, World.drewN]
  exact Array.getElem?_append_left hk
def Fz (Fs : List (Value → World → Prop)) (j : Nat) (vals : Nat → Value) (W : World) : Prop := (Fs.getD j fun _ _ => True) (vals j) W
theorem Fz.val {Fs : List (Value → World → Prop)} {j : Nat} {vals : Nat → Value} {W : World} {f : Value → World → Prop} {v : Value} (hE : (Fs.getD j fun _ _ => True) = f) (hf : f v W) : Fz Fs j (upd vals j v) W := by
  unfold Fz; rw [upd_same, hE]; exact hf
theorem wp_region_gr {P : Program} {l : List Oper} {a0 : Act} {id : Nat} {Q : Exit → Act → World → Prop} {w0 : World} (hm : P.follows .mixedOrders = true) (hB : fitB l.toArray = true) (Fs : List (Value → World → Prop))
    (hstay : ∀ j v W W', Gr W W' → (Fs.getD j fun _ _ => True) v W → (Fs.getD j fun _ _ => True) v W')
    (hob : ∀ vals : Nat → Value, ObC P l.toArray (Gr w0) (fun _ => Gr) (Fz Fs) vals 0 l a0)
    (hend : ∀ (vals : Nat → Value) W, Gr w0 W → (∀ i, i < l.length → (Fs.getD i fun _ _ => True) (vals i) W) → Q .normal (TL vals 0 l a0) W) : (Code.region id l.toArray true).wp P Q a0 w0 := by
  refine wp_region_obC hm hB (Gr w0) (fun _ => Gr) (Fz Fs) (Gr.drew _) (fun i w w' h k => h.trans k) (fun i j vals w w' _ _ k h => hstay j _ _ _ k h) (fun j oj vals vals' _ hv _ W hf => ?_) hob hend
  unfold Fz at hf ⊢
  rw [← hv]; exact hf
end Go.Proofs.Each
