import Derived.Test.YthbbnebanmpcjaaPgX
/- What calls leave: bytes, the number; the page behind calls is well made. -/
namespace Go.Proofs.Ythbbnebanmpcjaa.Pg
open Go.Proofs.Mem
set_option linter.unusedVariables false
set_option linter.unusedSimpArgs false
theorem lay_bytes {xs ys : List Int} {s : Nat} (h : Bytes xs) (h' : Bytes ys) : Bytes (layP xs s ys) := by
  unfold layP
  exact setN_bytes (place_bytes (splice_bytes h h'))
theorem dat_bytes {xs : List Int} {s : Nat} (h : Bytes xs) : Bytes (dat xs s) := by
  unfold dat
  exact fun x hx => h x (List.mem_of_mem_drop (List.mem_of_mem_take hx))
theorem gatherTo_bytes {old z : List Int} (h : Bytes old) (hz : Bytes z) : ∀ n, Bytes (gatherTo old z n) := by
  intro n
  induction n with
  | zero => exact hz
  | succ n ih =>
    show Bytes (if len old n = 0 then gatherTo old z n else layP (gatherTo old z n) n (dat old n))
    split
    · exact ih
    · exact lay_bytes ih (dat_bytes h)
theorem nought_bytes (n : Nat) : Bytes (List.replicate n 0) := fun x hx => by rw [(List.mem_replicate.1 hx).2]; omega
theorem gather_bytes {xs : List Int} (h : Bytes xs) : Bytes (gatherP xs) := by
  unfold gatherP
  exact gatherTo_bytes h (setN_bytes (splice_bytes h (nought_bytes _))) _
theorem setP_bytes {xs ys : List Int} {s : Nat} (h : Bytes xs) (h' : Bytes ys) : Bytes (setP xs s ys) := by
  have ha : Bytes (aSet xs s) := by unfold aSet; split; (exact h); (exact empty_bytes h)
  have hb : Bytes (bSet xs s ys.length) := by unfold bSet; split; (exact gather_bytes ha); (exact ha)
  unfold setP
  split
  · exact splice_bytes h h'
  · exact lay_bytes (by unfold cSet; exact setN_bytes hb) h'
theorem clearP_bytes {xs : List Int} {s : Nat} (h : Bytes xs) : Bytes (clearP xs s) := by
  unfold clearP
  exact setN_bytes (empty_bytes h)
/-- what a call leaves -/
structure Kept (xs ys : List Int) : Prop where
  wf : Wf ys
  byt : Bytes ys
  num : ∀ i, 8 ≤ i → i < 12 → ys.getD i 0 = xs.getD i 0
theorem opX_kept {xs : List Int} (W : Wf xs) (hb : Bytes xs) {o : Po} (ho : o.Ok) : Kept xs (opX xs o) := by
  unfold opX
  split
  · unfold clearX
    split
    · rename_i h
      have h' := of_decide_eq_true h
      have c := clear_wf W hb h'.2
      exact ⟨c.1, clearP_bytes hb, fun i h1 h2 => c.2.2.2.2.1 i h2⟩
    · exact ⟨W, hb, fun _ _ _ => rfl⟩
  · split
    · have c := stamp_wf W (a := 0) (n := 8) (by decide) o.lsn
      exact ⟨c.1, setN_bytes hb, fun i h1 h2 => c.2.2.2.2 i (by omega)⟩
    · unfold setX
      split
      · rename_i h
        obtain ⟨h1, h2⟩ := h
        have h1' := of_decide_eq_true h1
        have h2' := of_decide_eq_true h2
        have c := set_wf W (s := o.slot.toNat) (ys := o.xs) (by omega) (by omega) h2'
        exact ⟨c.1, setP_bytes hb ho.byt, fun i h3 h4 => c.2.2.2.2 i h4⟩
      · exact ⟨W, hb, fun _ _ _ => rfl⟩
theorem new_bytes (n : Int) : Bytes (newP n) := setN_bytes (setN_bytes z448_bytes)
theorem runX_kept (l : List Po) (hl : ∀ o ∈ l, o.Ok) : ∀ xs, Wf xs → Bytes xs → Kept xs (runX xs l) := by
  induction l with
  | nil => intro xs W hb; exact ⟨W, hb, fun _ _ _ => rfl⟩
  | cons o l ih =>
    intro xs W hb
    have k := opX_kept W hb (hl o (by simp))
    have k2 := ih (fun o' ho' => hl o' (by simp [ho'])) _ k.wf k.byt
    show Kept xs (runX (opX xs o) l)
    exact ⟨k2.wf, k2.byt, fun i h1 h2 => (k2.num i h1 h2).trans (k.num i h1 h2)⟩
theorem runP_kept {n : Int} {xl : List Pi} (hl : ∀ x ∈ xl, x.o.Ok) : Kept (newP n) (runP n xl) := by
  unfold runP
  exact runX_kept _ (fun o ho => by
    obtain ⟨x, hx, rfl⟩ := List.mem_map.1 ho
    exact hl x hx) _ (new_wf n).1 (new_bytes n)
end Go.Proofs.Ythbbnebanmpcjaa.Pg
