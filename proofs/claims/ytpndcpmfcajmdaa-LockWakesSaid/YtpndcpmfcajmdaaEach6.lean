import Derived.Test.YtpndcpmfcajmdaaEach5
import Derived.Test.YtpndcpmfcajmdaaMem2
/- A region that draws its order, operation by operation, at acts that are written out. -/
namespace Go.Proofs.Each
open Go Go.ChangeShapes Go.WideShapes Go.RowKit Go.Proofs.Mem
set_option linter.unusedVariables false
/-- what is said of a value stays -/
def Stays (f : Value → World → Prop) : Prop := ∀ v W W', Below W.heap.size W W' → f v W → f v W'
def AllStay : List (Value → World → Prop) → Prop
  | [] => True
  | f :: r => Stays f ∧ AllStay r
theorem AllStay.at_ : ∀ {l : List (Value → World → Prop)}, AllStay l → ∀ j, Stays (l.getD j fun _ _ => True)
  | [], _, j => by simp [Stays]
  | f :: r, ⟨h1, h2⟩, 0 => by simpa using h1
  | f :: r, ⟨h1, h2⟩, j + 1 => by simpa using AllStay.at_ h2 j
theorem stays_eq (E : Value) : Stays (fun v _ => v = E) := fun _ _ _ _ h => h
theorem stays_true : Stays (fun _ _ => True) := fun _ _ _ _ h => h
theorem stays_IR (k : IntKind) (xs : List Int) : Stays (fun v W => IR W W.heap.size k v xs) := fun _ _ _ hb h => (h.below hb).more hb.size
/-- one operation at an act -/
def StepAt (P : Program) (ops : Array Oper) (w0 : World) (F : Nat → Value → World → Prop) (vals : Nat → Value) (k : Nat) (o : Oper) (a : Act) : Prop :=
  ∀ W, Below w0.heap.size w0 W → (∀ e ∈ o.after, Region.binds .any e = true → F e.on (vals e.on) W) →
    if Region.wanted o (yielded ops a.tmps) = true then o.wp P a W (fun a' W' => ∃ v, a' = a.put o.dst v ∧ Below W.heap.size W W' ∧ F k v W') QF else F k undef W
theorem step_plain {P : Program} {o : Oper} {a : Act} {W : World} {K : Act → World → Prop} {y : Nat → Option Bool} {E : Prop} (hg : o.guard = none) (h : o.wp P a W K QF) : if Region.wanted o y = true then o.wp P a W K QF else E := by
  rw [if_pos (by simp [Region.wanted, hg])]; exact h
theorem step_guard {P : Program} {o : Oper} {a : Act} {W : World} {K : Act → World → Prop} {y : Nat → Option Bool} {E : Prop} {j : Nat} {want : Bool} (hg : o.guard = some (j, want)) (hy : y j = some want) (h : o.wp P a W K QF) :
    if Region.wanted o y = true then o.wp P a W K QF else E := by
  rw [if_pos (by simp [Region.wanted, hg, hy])]; exact h
theorem wp_unwanted {P : Program} {o : Oper} {a : Act} {W : World} {K : Act → World → Prop} {y : Nat → Option Bool} {E : Prop} {j : Nat} {want b : Bool} (hg : o.guard = some (j, want)) (hy : y j = some b) (hb : b = !want) (h : E) :
    if Region.wanted o y = true then o.wp P a W K QF else E := by
  rw [if_neg (by subst hb; simp [Region.wanted, hg, hy])]; exact h
theorem yielded_of {ops : Array Oper} {tmps : Array Value} {j : Nat} {v : Value} {b : Bool} (h : ((ops[j]?).bind (·.dst)).bind (tmps[·]?) = some v) (hv : v = .bool b) : yielded ops tmps j = some b := by
  unfold yielded; rw [h, hv]
def ObF (P : Program) (ops : Array Oper) (w0 : World) (F : Nat → Value → World → Prop) (vals : Nat → Value) : Nat → List Oper → Act → Prop
  | _, [], _ => True
  | k, o :: r, a => StepAt P ops w0 F vals k o a ∧ ObF P ops w0 F vals (k + 1) r (a.put o.dst (vals k))
def TL (vals : Nat → Value) : Nat → List Oper → Act → Act
  | _, [], a => a
  | k, o :: r, a => TL vals (k + 1) r (a.put o.dst (vals k))
theorem T_app (vals : Nat → Value) (a0 : Act) (ops : Array Oper) : ∀ (r : List Oper) (k : Nat), (∀ i o, r[i]? = some o → ops[k + i]? = some o) → TL vals k r (T ops a0 vals k) = T ops a0 vals (k + r.length)
  | [], k, _ => rfl
  | o :: r, k, h => by
    have h0 : ops[k]? = some o := h 0 o rfl
    have := T_app vals a0 ops r (k + 1) fun i x hx => by rw [show k + 1 + i = k + (i + 1) by omega]; exact h (i + 1) x (by simpa using hx)
    show TL vals (k + 1) r ((T ops a0 vals k).put o.dst (vals k)) = _
    rw [show (T ops a0 vals k).put o.dst (vals k) = T ops a0 vals (k + 1) by simp only [T, h0, Option.bind_some], this, List.length_cons]
    congr 1; omega
theorem ob_at {P : Program} {ops : Array Oper} {w0 : World} {F : Nat → Value → World → Prop} {vals : Nat → Value} {a0 : Act} : ∀ (r : List Oper) (k : Nat), (∀ i o, r[i]? = some o → ops[k + i]? = some o) → ObF P ops w0 F vals k r (T ops a0 vals k) →
    ∀ i o, r[i]? = some o → StepAt P ops w0 F vals (k + i) o (T ops a0 vals (k + i))
  | [], k, _, _, i, o, h => by simp at h
  | x :: r, k, hk, ⟨h1, h2⟩, 0, o, h => by simp at h; subst h; exact h1
  | x :: r, k, hk, ⟨h1, h2⟩, i + 1, o, h => by
    have h0 : ops[k]? = some x := hk 0 x rfl
    rw [show (T ops a0 vals k).put x.dst (vals k) = T ops a0 vals (k + 1) by simp only [T, h0, Option.bind_some]] at h2
    have := ob_at r (k + 1) (fun i y hy => by rw [show k + 1 + i = k + (i + 1) by omega]; exact hk (i + 1) y (by simpa using hy)) h2 i o (by simpa using h)
    rwa [show k + 1 + i = k + (i + 1) by omega] at this
theorem wp_region_ob {P : Program} {l : List Oper} {a0 : Act} {id : Nat} {Q : Exit → Act → World → Prop} {w0 : World} (hm : P.follows .mixedOrders = true) (hB : fitB l.toArray = true)
    (Fs : List (Value → World → Prop)) (hF : AllStay Fs)
    (hob : ∀ vals : Nat → Value, ObF P l.toArray w0 (fun j => Fs.getD j fun _ _ => True) vals 0 l a0)
    (hend : ∀ (vals : Nat → Value) W, Below w0.heap.size w0 W → (∀ i, i < l.length → (Fs.getD i fun _ _ => True) (vals i) W) → Q .normal (TL vals 0 l a0) W) : (Code.region id l.toArray true).wp P Q a0 w0 := by
  refine wp_region_grows hm hB (fun j vals W => (Fs.getD j fun _ _ => True) (vals j) W) (fun j vals W W' hb h => hF.at_ j _ _ _ hb h) (fun j oj vals vals' _ e _ W h => by rw [← e]; exact h) ?_ ?_
  · intro i oi hi vals W hb hw
    have hi' : l[i]? = some oi := by simpa using hi
    have h0 := ob_at l 0 (fun i o h => by simpa using h) (hob vals) i oi hi'
    rw [Nat.zero_add] at h0
    have h1 := h0 W hb hw
    unfold wpOp
    simp only [hi]
    split
    · rename_i hx; rw [if_pos hx] at h1
      refine .inl (Oper.wp_mono (fun a' W' => ?_) h1)
      rintro ⟨v, e1, e2, e3⟩
      exact ⟨v, e1, e2, by rw [upd_same]; exact e3⟩
    · rename_i hx; rw [if_neg hx] at h1
      exact ⟨undef, rfl, Below.refl _ _, by rw [upd_same]; exact h1⟩
  · intro vals W hb h
    have := T_app vals a0 l.toArray l 0 fun i o h => by simpa using h
    rw [Nat.zero_add] at this
    have h2 := hend vals W hb fun i hi => h i (by simpa using hi)
    rw [show TL vals 0 l a0 = T l.toArray a0 vals l.length from this] at h2
    simpa using h2
end Go.Proofs.Each
