import Derived.Test.YtbbphfhkedldmaaEach8
import Derived.Test.YtbbphfhkedldmaaFr
/- A region that draws its order, makes memory, and lays a struct into block g, that is there. -/
namespace Go.Proofs.Each
open Go Go.RowKit Go.Proofs.Mem
set_option linter.unusedVariables false
/-- nothing but block g has changed, and it has its cells still -/
def Cg (w0 : World) (g n : Nat) (t : TypeId) (W : World) : Prop := Fr (fun x => x = g) w0 W ∧ ∃ C, Box W g C t ∧ C.size = n
/-- operation s writes block g, all others make memory at most -/
def Rg (g : Nat) (t : TypeId) (s i : Nat) (W W' : World) : Prop :=
  Fr (fun x => x = g) W W' ∧ (i ≠ s → Below W.heap.size W W') ∧ ∀ C, Box W g C t → ∃ C', Box W' g C' t ∧ C'.size = C.size
theorem Rg.of_below {g : Nat} {t : TypeId} {s i : Nat} {W W' : World} (h : Below W.heap.size W W') : Rg g t s i W W' := ⟨.of_below h, fun _ => h, fun C hC => ⟨C, hC.later h, rfl⟩⟩
theorem Rg.last {g : Nat} {t : TypeId} {s : Nat} {W W' : World} {fin : Array Value} (h : Fr (fun x => x = g) W W') (hb : Box W' g fin t) (hn : ∀ C, Box W g C t → C.size = fin.size) : Rg g t s s W W' :=
  ⟨h, fun e => absurd rfl e, fun C hC => ⟨fin, hb, (hn C hC).symm⟩⟩
theorem wp_region_st {P : Program} {l : List Oper} {a0 : Act} {id : Nat} {Q : Exit → Act → World → Prop} {w0 : World} (hm : P.follows .mixedOrders = true) (hB : fitB l.toArray = true)
    (g n : Nat) (t : TypeId) (s : Nat) (Fs : List (Value → World → Prop)) (hC0 : ∃ C, Box w0 g C t ∧ C.size = n)
    (hstay : ∀ j v W W', j ≠ s → Fr (fun x => x = g) W W' → (Fs.getD j fun _ _ => True) v W → (Fs.getD j fun _ _ => True) v W')
    (hstays : ∀ v W W', Below W.heap.size W W' → (Fs.getD s fun _ _ => True) v W → (Fs.getD s fun _ _ => True) v W')
    (hob : ∀ vals : Nat → Value, ObC P l.toArray (Cg w0 g n t) (Rg g t s) (fun j vals W => (Fs.getD j fun _ _ => True) (vals j) W) vals 0 l a0)
    (hend : ∀ (vals : Nat → Value) W, Cg w0 g n t W → (∀ i, i < l.length → (Fs.getD i fun _ _ => True) (vals i) W) → Q .normal (TL vals 0 l a0) W) : (Code.region id l.toArray true).wp P Q a0 w0 := by
  refine wp_region_obC hm hB (Cg w0 g n t) (Rg g t s) (fun j vals W => (Fs.getD j fun _ _ => True) (vals j) W) ?_ ?_ ?_ ?_ hob hend
  · obtain ⟨C, h1, h2⟩ := hC0
    exact ⟨(Fr.refl _ _).drew, C, h1.drew, h2⟩
  · rintro i W W' ⟨h1, C, h2, h3⟩ ⟨r1, _, r3⟩
    obtain ⟨C', h4, h5⟩ := r3 C h2
    exact ⟨h1.trans r1, C', h4, h5.trans h3⟩
  · intro i j vals W W' hji _ ⟨r1, r2, _⟩ hf
    by_cases hj : j = s
    · subst hj
      exact hstays _ _ _ (r2 (fun e => hji e.symm)) hf
    · exact hstay j _ _ _ hj r1 hf
  · intro j oj vals vals' _ e _ W h
    show (Fs.getD j fun _ _ => True) (vals' j) W
    rw [← e]; exact h
end Go.Proofs.Each
