import Derived.Test.YtplombkpefacgaaDkK
/- What a call does to a device that is not to halt: pure. -/
namespace Go.Proofs.Ytplombkpefacgaa.Disk
open Go.Proofs.Mem
set_option linter.unusedVariables false
/-- so many at most wait for any sector -/
def Dv.Few (D : Dv) (m : Nat) : Prop := ∀ k, k < 2 → ∀ s ∈ D.f k, s.wait.length ≤ m
theorem Dv.Few.more {D : Dv} {m n : Nat} (h : D.Few m) (hn : m ≤ n) : D.Few n := fun k hk s hs => Nat.le_trans (h k hk s hs) hn
theorem cnt_free {D : Dv} (h : D.lim = false) : cntB D.lim D.left = true ∧ D.cnt.f = D.f ∧ D.cnt.lim = false := by
  rw [h]
  refine ⟨by simp [cntB], rfl, h⟩
theorem wr_free {D : Dv} (h : D.lim = false) (i n : Nat) (s : Se) (xs : List Int) : D.wr i n s xs = D.cnt.upd i n (s.wr xs) := by
  unfold Dv.wr; rw [if_pos (cnt_free h).1]
theorem syn_free {D : Dv} (h : D.lim = false) (i : Nat) : D.syn i = D.cnt.synTo i (D.f i).length := by
  unfold Dv.syn; rw [if_pos (cnt_free h).1]
theorem wrA_lim {D : Dv} (h : D.lim = false) (i : Nat) (N : Int) (xs : List Int) : (D.wrA i N xs).lim = false := by
  unfold Dv.wrA
  split
  · rw [wr_free h]; exact h
  · exact h
theorem synA_lim {D : Dv} (h : D.lim = false) (i : Nat) : (D.synA i).lim = false := by
  unfold Dv.synA
  split
  · rw [syn_free h]; exact h
  · exact h
theorem plD_lim {D : Dv} (h : D.lim = false) (o : Opn) : (plD D o).lim = false := by
  unfold plD
  split
  · exact wrA_lim h _ _ _
  · split
    · exact wrA_lim h _ _ _
    · split
      · exact synA_lim h _
      · exact h
theorem wrA_f {D : Dv} (h : D.lim = false) (i : Nat) (N : Int) (xs : List Int) (k : Nat) :
    (D.wrA i N xs).f k = if D.has i N ∧ xs.length = 128 then (if k = i then (D.f i).set N.toNat (((D.f i).getD N.toNat zSe).wr xs) else D.f k) else D.f k := by
  unfold Dv.wrA
  split
  · rw [wr_free h]; rfl
  · rfl
theorem synA_f {D : Dv} (h : D.lim = false) (i k : Nat) : (D.synA i).f k = if i < 2 ∧ k = i then (D.f i).map Se.syn else D.f k := by
  unfold Dv.synA
  by_cases hi : i < 2
  · rw [if_pos hi, syn_free h]
    show (if k = i then ((D.f i).take (D.f i).length).map Se.syn ++ (D.f i).drop (D.f i).length else D.f k) = _
    by_cases hk : k = i
    · rw [if_pos hk, if_pos ⟨hi, hk⟩]; simp
    · rw [if_neg hk, if_neg (fun hh => hk hh.2)]
  · rw [if_neg hi, if_neg (fun hh => hi hh.1)]
/-- what is done to another file leaves this one -/
theorem plD_else {D : Dv} (h : D.lim = false) (o : Opn) (k : Nat) (hk : k ≠ o.f.toNat) : (plD D o).f k = D.f k := by
  unfold plD
  split
  · rw [wrA_f h, if_neg hk]; simp
  · split
    · rw [wrA_f h, if_neg hk]; simp
    · split
      · rw [synA_f h, if_neg (fun hh => hk hh.2)]
      · rfl
theorem has_same {D E : Dv} {i : Nat} (h : D.f i = E.f i) (N : Int) : D.has i N ↔ E.has i N := by unfold Dv.has; rw [h]
/-- what is done to this file is the same, whatever the others hold -/
theorem plD_same {D E : Dv} (h : D.lim = false) (h' : E.lim = false) (o : Opn) (hk : D.f o.f.toNat = E.f o.f.toNat) : (plD D o).f o.f.toNat = (plD E o).f o.f.toNat := by
  have hw : ∀ xs, (D.wrA o.f.toNat o.s xs).f o.f.toNat = (E.wrA o.f.toNat o.s xs).f o.f.toNat := fun xs => by
    rw [wrA_f h, wrA_f h', hk]
    by_cases hh : D.has o.f.toNat o.s ∧ xs.length = 128
    · have h2 : E.has o.f.toNat o.s ∧ xs.length = 128 := ⟨(has_same hk _).1 hh.1, hh.2⟩
      simp only [hh, h2, and_self, if_true]
    · have h2 : ¬ (E.has o.f.toNat o.s ∧ xs.length = 128) := fun h2 => hh ⟨(has_same hk _).2 h2.1, h2.2⟩
      simp only [hh, h2, if_false]
  unfold plD
  split
  · exact hw _
  · split
    · exact hw _
    · split
      · rw [synA_f h, synA_f h', hk]
      · exact hk
theorem wrA_few {D : Dv} (h : D.lim = false) {m : Nat} (hm : D.Few m) (i : Nat) (N : Int) (xs : List Int) : (D.wrA i N xs).Few (m + 1) := fun k hk s hs => by
  rw [wrA_f h] at hs
  have old : ∀ s ∈ D.f k, s.wait.length ≤ m + 1 := fun s hs => Nat.le_succ_of_le (hm k hk s hs)
  split at hs
  · rename_i hh
    split at hs
    · rename_i e
      subst e
      rcases List.mem_or_eq_of_mem_set hs with h1 | rfl
      · exact old s h1
      · have hl : N.toNat < (D.f k).length := by have := hh.1.2; omega
        rw [List.getD_eq_getElem?_getD, List.getElem?_eq_getElem hl]
        have := hm k hk _ (List.getElem_mem hl)
        simp only [Option.getD_some, Se.wr, List.length_append, List.length_cons, List.length_nil]
        omega
    · exact old s hs
  · exact old s hs
theorem plD_few {D : Dv} (h : D.lim = false) {m : Nat} (hm : D.Few m) (o : Opn) : (plD D o).Few (m + 1) := by
  unfold plD
  split
  · exact wrA_few h hm _ _ _
  · split
    · exact wrA_few h hm _ _ _
    · split
      · intro k hk s hs
        rw [synA_f h] at hs
        split at hs
        · obtain ⟨s', _, rfl⟩ := List.mem_map.1 hs
          simp [Se.syn]
        · exact Nat.le_succ_of_le (hm k hk s hs)
      · exact hm.more (Nat.le_succ _)
theorem plD_len {D : Dv} (h : D.lim = false) (o : Opn) (k : Nat) : ((plD D o).f k).length = (D.f k).length := by
  have hw : ∀ xs, ((D.wrA o.f.toNat o.s xs).f k).length = (D.f k).length := fun xs => by
    rw [wrA_f h]
    split
    · split
      · rename_i e; rw [List.length_set, e]
      · rfl
    · rfl
  unfold plD
  split
  · exact hw _
  · split
    · exact hw _
    · split
      · rw [synA_f h]
        split
        · rename_i e; rw [List.length_map, e.2]
        · rfl
      · rfl
end Go.Proofs.Ytplombkpefacgaa.Disk
