import Derived.Test.YtpndcpmfcajmdaaLkQ
/- Locks: the laws' run of calls. -/
namespace Go.Proofs.Ytpndcpmfcajmdaa.Lock
open Go.ChangeShapes Go.WideShapes Go.ChangeAt Go.RowKit Go.IntWalk Go.Proofs.Mem Law Go.Shelf Go.Proofs.Each
set_option linter.unusedVariables false
set_option linter.unusedSimpArgs false
/-- a table that calls have left, who took part beside it -/
structure Pt (w : World) (B : Nat) (l : List Lo) (t : Nat) (T : Tb) (S : Nat → Prop) (n : Nat) (v : Value) : Prop where
  run : RunR l T
  tab : ∃ N, N ≤ n * 100 ∧ TabAt w S N n t T
  base : ∀ x, S x → B ≤ x
  who : w.ownsRow B 29 1 v (whoOf l).length ((whoOf l).map (.int .u32))
  far : ∀ b, v.ownBlock = some b → ¬ S b
theorem own_frS_ {w w' : World} {B n : Nat} {e : TypeId} {v : Value} {xs : List Value} {S : Nat → Prop} (h : w.ownsRow B e 1 v n xs) (hf : Fr S w w') (hr : ∀ b, v.ownBlock = some b → ¬ S b) : w'.ownsRow B e 1 v n xs := own_frS h hf hr
/-- ask, and note who did -/
theorem Pt.ask {w w1 : World} {B : Nat} {l : List Lo} {t : Nat} {T : Tb} {S : Nat → Prop} {n : Nat} {v : Value} {o : Lo} (h : Pt w B l t T S n v) (hB : B ≤ w.heap.size) (hk : o.kd % 6 ≠ 4) (S' : Nat → Prop) (N : Nat) (hN : N ≤ n * 100) (ht : TabAt w1 S' (N + 1) (n + 1) t (askT T o.t o.k o.m)) (hf : Fr S w w1) (hs : ∀ x, S' x → S x ∨ w.heap.size ≤ x) :
    RunR (l ++ [o]) (askT T o.t o.k o.m) ∧ (∃ N, N ≤ (n + 1) * 100 ∧ TabAt w1 S' N (n + 1) t (askT T o.t o.k o.m)) ∧ (∀ x, S' x → B ≤ x) ∧ w1.ownsRow B 29 1 v (whoOf l).length ((whoOf l).map (.int .u32)) ∧ (∀ b, v.ownBlock = some b → ¬ S' b) ∧ Below B w w1 := by
  refine ⟨.snoc h.run (by unfold StepR; rw [if_neg hk]), ⟨N + 1, by omega, ht⟩, fun x hx => (hs x hx).elim (h.base x) (Nat.le_trans hB), own_frS h.who hf h.far, fun b hb hx => ?_, hf.to_below h.base hB⟩
  rcases hs b hx with h1 | h1
  · exact h.far b hb h1
  · have := (h.who.lt b hb).2; omega
theorem Pt.release {w w1 : World} {B : Nat} {l : List Lo} {t : Nat} {T T' : Tb} {S : Nat → Prop} {n N : Nat} {v : Value} {o : Lo} {ks : List Ky} {got : List Int} (h : Pt w B l t T S n v) (hB : B ≤ w.heap.size) (hk : o.kd % 6 = 4) (hN : N ≤ n * 100) (hl : l.length ≤ 100) (ho : OfL T o.t ks) (hr : relAll (T.stop o.t) o.t ks = (T', got)) (ht : TabAt w1 S (N + got.length) n t T') (hf : Fr S w w1) :
    RunR (l ++ [o]) T' ∧ (∃ N, N ≤ (n + 1) * 100 ∧ TabAt w1 S N (n + 1) t T') ∧ (∀ x, S x → B ≤ x) ∧ w1.ownsRow B 29 1 v (whoOf l).length ((whoOf l).map (.int .u32)) ∧ (∀ b, v.ownBlock = some b → ¬ S b) ∧ Below B w w1 := by
  have hg := got_len h.run (rel_out (inv_run h.run) ho hr).1
  refine ⟨.snoc h.run (by unfold StepR; rw [if_pos hk]; exact ⟨ks, got, ho, hr⟩), ⟨N + got.length, by omega, ht.more (Nat.le_refl _) (Nat.le_succ _)⟩, h.base, own_frS h.who hf h.far, h.far, hf.to_below h.base hB⟩
/-- who has called is noted -/
theorem Pt.note {w w1 : World} {B : Nat} {l : List Lo} {t : Nat} {T : Tb} {S : Nat → Prop} {n : Nat} {v v' : Value} {o : Lo} (hrun : RunR (l ++ [o]) T) (htab : ∃ N, N ≤ n * 100 ∧ TabAt w S N n t T) (hb : ∀ x, S x → B ≤ x) (hf : ∀ b, v.ownBlock = some b → ¬ S b) (ho : w1.ownsRow B 29 1 v' (into (whoOf l) o.t).length ((into (whoOf l) o.t).map (.int .u32))) (hsm : v' = v ∨ ∀ b, v'.ownBlock = some b → w.heap.size ≤ b) (hbl : Below w.heap.size w w1) : Pt w1 B (l ++ [o]) t T S n v' := by
  obtain ⟨N, hN, ht⟩ := htab
  refine ⟨hrun, ⟨N, hN, ht.later hbl⟩, hb, by rw [whoOf_snoc]; exact ho, fun b hb' hs => ?_⟩
  rcases hsm with e | e
  · rw [e] at hb'; exact hf b hb' hs
  · have h1 := e b hb'
    have h2 := ht.old b hs
    omega
end Go.Proofs.Ytpndcpmfcajmdaa.Lock
