import Derived.Sort.AssemblyPlain
/- Pure: what a round of the sort leaves. -/
namespace Go.Proofs.Srt0
open Go.Sort
theorem lt_false {x y : Int} : ltInt x y = false ↔ y ≤ x := by simp [ltInt]
theorem lt_true {x y : Int} : ltInt x y = true ↔ x < y := by simp [ltInt]
/-- pairs of places of which one lies outside a..b are in order -/
def Ord (a0 b0 a b : Nat) (d : Array Int) : Prop := ∀ i j, a0 ≤ i → i < j → j < b0 → (i < a ∨ b ≤ j) → d[i]! ≤ d[j]!
structure Inv (a0 b0 : Nat) (d0 : Array Int) (a b : Nat) (d : Array Int) : Prop where
  h1 : a0 ≤ a
  h2 : a ≤ b
  h3 : b ≤ b0
  h4 : b0 ≤ d.size
  perm : PermIn a0 b0 d0 d
  ord : Ord a0 b0 a b d
  below : Below ltInt a b d
section
variable {a0 b0 a b mid : Nat} {d0 d d' : Array Int}
theorem Inv.start (h1 : a ≤ b) (h2 : b ≤ d.size) (hB : Below ltInt a b d) : Inv a b d a b d :=
  ⟨Nat.le_refl _, h1, Nat.le_refl _, h2, permIn_refl _ _ _, fun i j _ _ _ h => by omega, hB⟩
theorem Ord.perm (h : Ord a0 b0 a b d) (ha : a0 ≤ a) (hb : b ≤ b0) (hs : b ≤ d.size) (hp : PermIn a b d d') : Ord a0 b0 a b d' := by
  intro i j hi hij hj ho
  by_cases hia : a ≤ i ∧ i < b
  · have hbj : b ≤ j := by omega
    rw [hp.2.1 j (.inr hbj)]
    exact permIn_all d d' a b (fun x => x ≤ d[j]!) hs hp (fun k hk1 hk2 => h k j (by omega) (by omega) hj (.inr hbj)) i hia.1 hia.2
  · rw [hp.2.1 i (by omega)]
    by_cases hja : a ≤ j ∧ j < b
    · exact permIn_all d d' a b (fun x => d[i]! ≤ x) hs hp (fun k hk1 hk2 => h i k hi (by omega) (by omega) (.inl (by omega))) j hja.1 hja.2
    · rw [hp.2.1 j (by omega)]
      exact h i j hi hij hj ho
theorem Inv.step (h : Inv a0 b0 d0 a b d) (hp : PermIn a b d d') : Inv a0 b0 d0 a b d' :=
  ⟨h.h1, h.h2, h.h3, by rw [hp.1]; exact h.h4, permIn_trans _ _ _ _ _ h.perm (permIn_mono _ _ _ _ _ _ h.h1 h.h3 h.h4 hp), h.ord.perm h.h1 h.h3 (by have := h.h3; have := h.h4; omega) hp, h.below.perm (by have := h.h3; have := h.h4; omega) hp⟩
theorem Inv.done (h : Inv a0 b0 d0 a b d) (hs : SortedIn ltInt a b d) : PermIn a0 b0 d0 d ∧ SortedIn ltInt a0 b0 d :=
  ⟨h.perm, fun i j hi hij hj => by
    rw [lt_false]
    by_cases ho : i < a ∨ b ≤ j
    · exact h.ord i j hi hij hj ho
    · exact lt_false.1 (hs i j (by omega) hij (by omega))⟩
/-- what partition leaves -/
structure Prt (a b mid : Nat) (d : Array Int) : Prop where
  h1 : a ≤ mid
  h2 : mid < b
  left : ∀ i, a ≤ i → i < mid → d[i]! ≤ d[mid]!
  right : ∀ i, mid < i → i < b → d[mid]! ≤ d[i]!
theorem Prt.belowR (h : Prt a b mid d) : Below ltInt (mid + 1) b d := .inr fun i h1 h2 => by
  rw [Nat.add_sub_cancel]; exact lt_false.2 (h.right i (by omega) h2)
theorem Inv.prt_ord (h : Inv a0 b0 d0 a b d) (hp : Prt a b mid d) (i j : Nat) (hi : a0 ≤ i) (hij : i < j) (hj : j < b0) (ho : i ≤ mid ∧ mid ≤ j ∨ i < a ∨ b ≤ j) : d[i]! ≤ d[j]! := by
  rcases ho with ⟨h1, h2⟩ | ho
  · by_cases h3 : i < a ∨ b ≤ j
    · exact h.ord i j hi hij hj h3
    · by_cases e1 : i = mid
      · subst e1; exact hp.right j hij (by omega)
      · by_cases e2 : j = mid
        · subst e2; exact hp.left i (by omega) hij
        · exact Int.le_trans (hp.left i (by omega) (by omega)) (hp.right j (by omega) (by omega))
  · exact h.ord i j hi hij hj ho
/-- the left part has been sorted: the right part is left -/
theorem Inv.left (h : Inv a0 b0 d0 a b d) (hp : Prt a b mid d) (hq : PermIn a mid d d') (hs : SortedIn ltInt a mid d') : Inv a0 b0 d0 (mid + 1) b d' := by
  have k1 := hp.h1; have k2 := hp.h2; have k3 := h.h1; have k4 := h.h3; have k5 := h.h4
  have hq' : PermIn a b d d' := permIn_mono _ _ _ _ _ _ (Nat.le_refl _) (by omega) (by omega) hq
  have hI := h.step hq'
  have hp' : Prt a b mid d' := by
    have em : d'[mid]! = d[mid]! := hq.2.1 mid (.inr (Nat.le_refl _))
    refine ⟨k1, k2, fun i h1 h2 => ?_, fun i h1 h2 => ?_⟩
    · rw [em]; exact permIn_all d d' a mid (fun x => x ≤ d[mid]!) (by omega) hq hp.left i h1 h2
    · rw [em, hq.2.1 i (.inr (by omega))]; exact hp.right i h1 h2
  refine ⟨by omega, by omega, k4, hI.h4, hI.perm, fun i j hi hij hj ho => ?_, hp'.belowR⟩
  by_cases hc : i ≤ mid ∧ mid ≤ j ∨ i < a ∨ b ≤ j
  · exact hI.prt_ord hp' i j hi hij hj hc
  · exact lt_false.1 (hs i j (by omega) hij (by omega))
/-- the right part has been sorted: the left part is left -/
theorem Inv.right (h : Inv a0 b0 d0 a b d) (hp : Prt a b mid d) (hq : PermIn (mid + 1) b d d') (hs : SortedIn ltInt (mid + 1) b d') : Inv a0 b0 d0 a mid d' := by
  have k1 := hp.h1; have k2 := hp.h2; have k3 := h.h1; have k4 := h.h3; have k5 := h.h4
  have hq' : PermIn a b d d' := permIn_mono _ _ _ _ _ _ (by omega) (Nat.le_refl _) (by omega) hq
  have hI := h.step hq'
  have hp' : Prt a b mid d' := by
    have em : d'[mid]! = d[mid]! := hq.2.1 mid (.inl (by omega))
    refine ⟨k1, k2, fun i h1 h2 => ?_, fun i h1 h2 => ?_⟩
    · rw [em, hq.2.1 i (.inl (by omega))]; exact hp.left i h1 h2
    · rw [em]; exact permIn_all d d' (mid + 1) b (fun x => d[mid]! ≤ x) (by omega) hq (fun k h3 h4 => hp.right k (by omega) h4) i (by omega) h2
  refine ⟨k3, k1, by omega, hI.h4, hI.perm, fun i j hi hij hj ho => ?_, hI.below.mono (by omega)⟩
  by_cases hc : i ≤ mid ∧ mid ≤ j ∨ i < a ∨ b ≤ j
  · exact hI.prt_ord hp' i j hi hij hj hc
  · exact lt_false.1 (hs i j (by omega) hij (by omega))
theorem prt_of (a b p : Nat) (d : Array Int) (h1 : a ≤ p) (h2 : p < b) (h3 : b ≤ d.size) :
    PermIn a b d (partition ltInt d a b p).2.2 ∧ Prt a b (partition ltInt d a b p).1 (partition ltInt d a b p).2.2 := by
  obtain ⟨k1, k2, k3, k4, k5⟩ := partition_holds _ swo_ltInt d a b p h1 h2 h3
  exact ⟨k3, k1, k2, fun i h1 h2 => by have := lt_true.1 (k4 i h1 h2); omega, fun i h1 h2 => lt_false.1 (k5 i h1 h2)⟩
/-- those that are as great as the pivot have been put in front -/
theorem Inv.equal (h : Inv a0 b0 d0 a b d) {p : Nat} (h1 : a ≤ p) (h2 : p < b) (ha : 0 < a) (he : ltInt d[a - 1]! d[p]! = false) :
    Inv a0 b0 d0 (partitionEqual ltInt d a b p).1 b (partitionEqual ltInt d a b p).2 ∧ a < (partitionEqual ltInt d a b p).1 := by
  have k3 := h.h1; have k4 := h.h3; have k5 := h.h4
  have hlo : ∀ i, a ≤ i → i < b → d[a - 1]! ≤ d[i]! := fun i hi1 hi2 => by
    rcases h.below with e | hb
    · omega
    · exact lt_false.1 (hb i hi1 hi2)
  have hpv : d[p]! ≤ d[a - 1]! := lt_false.1 he
  obtain ⟨e1, e2, e3, e4, e5⟩ := partitionEqual_holds _ swo_ltInt d a b p h1 h2 (by omega) fun i hi1 hi2 => lt_false.2 (Int.le_trans hpv (hlo i hi1 hi2))
  generalize (partitionEqual ltInt d a b p).1 = m at *
  generalize (partitionEqual ltInt d a b p).2 = d' at *
  have hI := h.step e3
  have hlo' : ∀ i, a ≤ i → i < b → d[p]! ≤ d'[i]! := permIn_all d d' a b (fun x => d[p]! ≤ x) (by omega) e3 fun k hk1 hk2 => Int.le_trans hpv (hlo k hk1 hk2)
  refine ⟨⟨by omega, e2, k4, hI.h4, hI.perm, fun i j hi hij hj ho => ?_, .inr fun i hi1 hi2 => ?_⟩, e1⟩
  · by_cases hc : i < a ∨ b ≤ j
    · exact hI.ord i j hi hij hj hc
    · exact Int.le_trans (lt_false.1 (e4 i (by omega) (by omega))) (hlo' j (by omega) (by omega))
  · have q1 := lt_false.1 (e4 (m - 1) (by omega) (by omega))
    have q2 := hlo' i (by omega) hi2
    exact lt_false.2 (Int.le_trans q1 q2)
end
end Go.Proofs.Srt0
