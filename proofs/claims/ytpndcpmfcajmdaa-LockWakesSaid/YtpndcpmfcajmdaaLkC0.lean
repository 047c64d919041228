import Derived.Test.YtpndcpmfcajmdaaLkB
/- Rows of keys are sorted. -/
namespace Go.Proofs.Ytpndcpmfcajmdaa.Lock
open Go.ChangeShapes Go.WideShapes Go.ChangeAt Go.RowKit Go.IntWalk Go.Proofs.Mem Law Go.Proofs.Each
set_option linter.unusedVariables false
set_option linter.unusedSimpArgs false
/-- the order of keys -/
def klt (x y : Ky) : Prop := x.k < y.k ∨ (x.k = y.k ∧ (x.a < y.a ∨ (x.a = y.a ∧ x.b < y.b)))
instance (x y : Ky) : Decidable (klt x y) := by unfold klt; infer_instance
theorem cmpI_cases (a b : Int) : (a < b ∧ cmpI a b = -1) ∨ (a = b ∧ cmpI a b = 0) ∨ (b < a ∧ cmpI a b = 1) := by
  unfold cmpI
  by_cases h1 : a < b
  · exact .inl ⟨h1, if_pos h1⟩
  · by_cases h2 : b < a
    · exact .inr (.inr ⟨h2, by rw [if_neg h1, if_pos h2]⟩)
    · exact .inr (.inl ⟨by omega, by rw [if_neg h1, if_neg h2]⟩)
theorem cmpK_neg (x y : Ky) : cmpK x y < 0 ↔ klt x y := by
  unfold cmpK klt
  rcases cmpI_cases x.k y.k with ⟨h1, e1⟩ | ⟨h1, e1⟩ | ⟨h1, e1⟩ <;> rcases cmpI_cases x.a y.a with ⟨h2, e2⟩ | ⟨h2, e2⟩ | ⟨h2, e2⟩ <;> rcases cmpI_cases x.b y.b with ⟨h3, e3⟩ | ⟨h3, e3⟩ | ⟨h3, e3⟩ <;>
    (simp [orI, e1, e2, e3]; omega)
theorem klt_ltOf (x y : Ky) : ltOf cmpK x y = decide (klt x y) := by
  unfold ltOf
  exact decide_eq_decide.2 (cmpK_neg x y)
theorem klt_irrefl (x : Ky) : ¬ klt x x := by unfold klt; omega
theorem klt_trans {x y z : Ky} (h : klt x y) (k : klt y z) : klt x z := by unfold klt at *; omega
theorem klt_total {x y : Ky} (h : ¬ klt x y) (k : ¬ klt y x) : x = y := by
  obtain ⟨a, b, c⟩ := x
  obtain ⟨a', b', c'⟩ := y
  unfold klt at h k
  simp only at h k
  have : a = a' := by omega
  have : b = b' := by omega
  have : c = c' := by omega
  subst_vars
  rfl
theorem klt_swo : Sort.SWO (ltOf cmpK) where
  irrefl x := by rw [klt_ltOf]; simpa using klt_irrefl x
  trans x y z h k := by rw [klt_ltOf] at *; simp at *; exact klt_trans h k
  ntrans x y z h k := by rw [klt_ltOf] at *; simp at *; unfold klt at *; omega
theorem cKy_len (x : Ky) : (cKy x).length = 3 := rfl
theorem cKy_one (y : Ky) : ∀ u ∈ cKy y, u.oneCell' = true := by
  intro u hu
  simp [cKy] at hu
  rcases hu with rfl | rfl | rfl <;> rfl
theorem cmpLaysK (blk off size : Nat) (w : World) : CmpLays Try.prog 59 #[] cKy 3 cmpK blk off size w := fun _ _ _ _ x y => compare_any _ x y
theorem sortWorld_fr (w : World) (b n : Nat) (d : Array Ky) (os : Array Obj) : Fr (fun x => x = b) w (sortWorldK cKy 3 w b 0 n d os) := by
  refine ⟨rfl, rfl, rfl, ?_, fun k hk hn => ?_⟩
  · simp [sortWorldK, Sort.putRowK, Sort.putRow, Sort.mapBlock, Sort.grow, Sort.ahead]
  · simp only [sortWorldK, Sort.putRowK, Sort.putRow, Sort.mapBlock, Sort.grow, Sort.ahead]
    rw [Array.getElem?_append_left (by simpa using hk), Array.getElem?_modify, if_neg (fun e => hn e.symm)]
theorem holdsK_own {w : World} {base b cap : Nat} {ks : List Ky} (h : w.ownsRow base 81 3 (.slice (some ⟨b, 0, none⟩) ks.length cap) ks.length (ks.flatMap cKy)) : Sort.HoldsK cKy 3 w b 0 ks.toArray := by
  intro j hj
  have hj' : j < ks.length * 3 := by simpa using hj
  rw [Nat.zero_add, h.cellAt j hj', h.frozenAt j]
  refine ⟨?_, rfl⟩
  have hq : j / 3 < ks.length := by omega
  have e := flat_at cKy_len ks (j / 3) ks[j / 3] (j % 3) (List.getElem?_eq_getElem hq) (by omega)
  rw [show j / 3 * 3 + j % 3 = j by omega] at e
  rw [e, Sort.get_flatK _ _ _ _ (by simpa using hj')]
  have h3 : j % 3 < (cKy ks[j / 3]).length := by rw [cKy_len]; omega
  simp [hq, List.getElem?_eq_getElem h3]
theorem ss_holds {w : World} {b n cap : Nat} {d : Array Ky} (h : Sort.HoldsK cKy 3 w b 0 d) (hn : d.size = n) (hb : b < w.heap.size) (h1 : n ≤ cap) (h2 : cap ≤ maxLen) : SS cKy 3 w w.heap.size (.slice (some ⟨b, 0, none⟩) n cap) d.toList := by
  refine ⟨_, cap, by rw [← hn, Array.length_toList], by rw [Array.length_toList, hn]; exact h1, h2, fun i x hx => ⟨b, 0, rfl, hb, fun j u hu => ?_⟩⟩
  have hi : i < d.size := by simpa using (List.getElem?_eq_some_iff.1 hx).1
  have hj : j < 3 := by rw [← cKy_len x]; exact (List.getElem?_eq_some_iff.1 hu).1
  rw [(Sort.HoldsK.cell h hi hj).1]
  have hx2 : d[i]! = x := by
    rw [getElem!_pos d i hi]
    have := (List.getElem?_eq_some_iff.1 hx).2
    simpa using this
  have h3 : j < (cKy x).length := by rw [cKy_len]; exact hj
  rw [hx2, getElem!_pos (cKy x) j h3]
  rw [List.getElem?_eq_getElem h3] at hu
  exact hu
end Go.Proofs.Ytpndcpmfcajmdaa.Lock
