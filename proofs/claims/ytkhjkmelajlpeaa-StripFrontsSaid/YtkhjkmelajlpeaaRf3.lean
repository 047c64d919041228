import Derived.Test.YtkhjkmelajlpeaaRf
/- A range over a function whose body always goes on, and whose iterator may write cells of its own: what the iterator asks of an invariant (C) is said by its contract. -/
namespace Go.Proofs.Mem
open Go.RowKit Go.WideShapes Go.Shelf
set_option linter.unusedVariables false
section
variable {F : Fence} {n : Nat} {P : Program} {α : Type}
/-- an iterator's contract: for each invariant that C allows and a round carries on -/
def SeqC (F : Fence) (n : Nat) (P : Program) (gf : Nat) (lb : Array Value) (enc : α → Value) (Kp : World → World → Prop) (C : (List α → World → Prop) → Prop) (S : List α → Prop) (N : Nat) (w : World) : Prop :=
  ∀ (l : Nat) (J : List α → World → Prop) (W : World), Below w.heap.size w W → C J →
    (∀ pre x W1, J pre W1 → pre.length < N → YieldAt F (n - 1) P l #[enc x] W1 fun e W2 => e = .returned (.bool true) ∧ J (pre ++ [x]) W2 ∧ Kp W1 W2) →
    J [] W → CallsIn F n P gf (#[.func (.yield l) #[] #[]] ++ lb) W fun e W2 => (∃ v, e = .returned v) ∧ ∃ ys, S ys ∧ J ys W2
/-- the loop's own two blocks stand: its record, and the list of calls put off -/
def Stand (D : Nat) (r : Loop) (W : World) : Prop := W.heap[D + 1]? = some (.loop r) ∧ W.heap[D]? = some (.deferred (some []))
theorem Stand.put {D : Nat} {r r' : Loop} {W : World} (h : Stand D r W) : Stand D r' (W.putObj (D + 1) (.loop r')) :=
  ⟨World.putObj_heap_same (Array.getElem?_eq_some_iff.1 h.1).1, (World.putObj_heap_other (by omega)).trans h.2⟩
theorem Stand.keep {D : Nat} {r : Loop} {W W' : World} (h : Stand D r W) (k : KeepsOthers W W') : Stand D r W' := ⟨k.same _ _ h.1 rfl, k.same _ _ h.2 rfl⟩
/-- how a round that goes on ends -/
def GoesOn (Kp : World → World → Prop) (I : World → Prop) (W : World) : Exit → Act → World → Prop
  | .normal, _, W' => KeepsOthers W W' ∧ Kp W W' ∧ I W'
  | _, _, _ => False
theorem wpIn_rangeFunc_on {g : Operand} {p : Tmp} {assign body : Code} {Q : Exit → Act → World → Prop} {a : Act} {w : World} (q : Nat)
    (hro : F.round = none) (h1 : 1 ≤ n) {gf : Nat} {lb : Array Value} (hg : a.eval g = .func (.func gf) #[] lb) (hFg : F.fn gf) (eg : ∀ args w, (callFunc gf args).run P w = .ok (.enter gf args) w)
    {enc : α → Value} {Kp : World → World → Prop} {C : (List α → World → Prop) → Prop} {S : List α → Prop} {N : Nat} {w0 : World} (hseq : SeqC F (n - 1) P gf lb enc Kp C S N w0)
    (hKt : ∀ {X Y Z : World}, Kp X Y → Kp Y Z → Kp X Z) (hKb : ∀ (W : World) (l : Nat) (o o' : Obj), w.heap.size ≤ l → W.heap[l]? = some o → o.isCells = false → o.isWalk = false → Kp W (W.putObj l o')) (hb0 : Below w0.heap.size w0 w)
    (I : List α → World → Prop) (hI : OwnFrom w.heap.size I) (hC : ∀ r : Loop, C (fun pre W => I pre W ∧ Stand w.heap.size r W)) (h0 : I [] w)
    (hassign : ∀ (l : Nat) (x : α) (W : World) (K : Act → World → Prop), K { tmps := (a.tmps.setIfInBounds p (enc x)).setIfInBounds q (enc x), defers := [] } W →
      assign.wpIn (F.inRound l) (n - 1 - 1) P (Exit.then K (fun _ _ _ => False)) { tmps := a.tmps.setIfInBounds p (enc x), defers := [] } W)
    (hbody : ∀ (l : Nat) (pre : List α) (x : α) (W : World), I pre W → pre.length < N → body.wpIn (F.inRound l) (n - 1 - 1) P (GoesOn Kp (I (pre ++ [x])) W) { tmps := (a.tmps.setIfInBounds p (enc x)).setIfInBounds q (enc x), defers := [] } W)
    (hdone : ∀ (D : Nat) (xs : List α) (W : World), w.heap.size ≤ D → S xs → I xs W → W.heap[D]? = some (.deferred (some [])) → Q .normal { a with defers := { target := .collected D, args := #[] } :: a.defers } W) :
    (Code.rangeFunc g #[p] assign body).wpIn F n P Q a w := by
  refine wpIn_rangeFunc fun fn hfn => ?_
  rw [hro]
  obtain ⟨r0, hr0⟩ : ∃ r0 : Loop, r0 = { state := .ready, pending := none, fn, tmps := a.tmps, params := #[p], assign, body, defers := w.heap.size } := ⟨_, rfl⟩
  have hst : Stand w.heap.size r0 ((w.alloc (.deferred (some []))).alloc (.loop r0)) := by
    refine ⟨?_, ?_⟩
    · have := World.alloc_heap_new (w.alloc (.deferred (some []))) (.loop r0)
      rwa [World.size_alloc] at this
    · exact (Below.heap_alloc _ _ _ (by simp)).trans (World.alloc_heap_new w _)
  have hent := run_enterLoop_outer (P := P) (w := w) fn a.tmps #[p] assign body
  rw [← hr0] at hent
  obtain ⟨W1, hW1⟩ : ∃ W1, (w.alloc (.deferred (some []))).alloc (.loop r0) = W1 := ⟨_, rfl⟩
  have hbel : Below w.heap.size w W1 := by rw [← hW1]; exact new_ (new_ (Below.refl _ _) _) _
  have hI1 : I [] W1 := by rw [← hW1]; exact hI.alloc _ (hI.alloc _ h0)
  rw [hW1] at hent hst
  refine ⟨_, _, W1, { target := .fn (.func gf) lb, args := #[.func (.yield (w.heap.size + 1)) #[] #[]] }, W1, gf, #[.func (.yield (w.heap.size + 1)) #[] #[]] ++ lb, W1, hent, ?_, ?_, ?_, fun _ => h1, ?_⟩
  · simp only [resolve, hg]
    simp [go_sem]
  · intro f' hf'
    simp [Target.leads] at hf'
    subst hf'
    exact hFg
  · simp [invoke, go_sem, eg]
  · refine (hseq (w.heap.size + 1) (fun pre W => I pre W ∧ Stand w.heap.size r0 W) W1 (hb0.trans (hbel.mono hb0.size)) (hC r0) ?_ ⟨hI1, hst⟩).mono ?_
    · rintro pre x W ⟨hi, hs⟩ hlen
      have hy := run_yield (P := P) (args := #[enc x]) hs.1 (by rw [hr0]; rfl)
      have e : (r0.params.zip #[enc x]).foldl (fun t (p, v) => t.setIfInBounds p v) r0.tmps = a.tmps.setIfInBounds p (enc x) := by rw [hr0]; simp
      rw [e] at hy
      have hfn' : r0.fn = fn := by rw [hr0]
      have has' : r0.assign = assign := by rw [hr0]
      have hbo' : r0.body = body := by rw [hr0]
      rw [hfn', has', hbo'] at hy
      have hbg := run_beginRound (P := P) hs.1 (by rw [hr0])
      have hs2 := hs.put (r' := { r0 with state := .busy })
      refine ⟨fn, _, assign, body, hy, roundIn_of_wpIn hfn (hassign _ x W _ ⟨_, hbg, ?_⟩)⟩
      refine wpIn_mono (hbody _ pre x _ (hI.putObj _ hi (by omega) hs.1 rfl) hlen) ?_
      intro ex a3 W3 hp
      cases ex with
      | normal =>
        obtain ⟨k1, k2, k3⟩ := hp
        have hs3 := hs2.keep k1
        have hend := run_endRound (P := P) none hs3.1
        have hrr : ({ ({ r0 with state := .busy } : Loop) with state := if (none : Option Code).isNone then .ready else .done, pending := none } : Loop) = r0 := by rw [hr0]; rfl
        rw [hrr] at hend
        exact ⟨_, _, hend, rfl, ⟨hI.putObj _ k3 (by omega) hs3.1 rfl, hs3.put⟩, hKt (hKt (hKb _ _ _ _ (by omega) hs.1 rfl rfl) k2) (hKb _ _ _ _ (by omega) hs3.1 rfl rfl)⟩
      | _ => exact hp.elim
    · rintro e W2 ⟨⟨v, rfl⟩, xs, hS, hi, hs⟩
      have hend := run_endLoop (P := P) hs.1 (by rw [hr0]; simp)
      have hpe : r0.pending = none := by rw [hr0]
      rw [hpe] at hend
      exact ⟨none, _, hend, hdone _ xs _ (Nat.le_refl _) hS (hI.putObj _ hi (by omega) hs.1 rfl) hs.put.2⟩
end
end Go.Proofs.Mem
