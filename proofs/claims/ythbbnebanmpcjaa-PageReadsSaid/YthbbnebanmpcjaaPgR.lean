import Derived.Test.YthbbnebanmpcjaaPgQ
/- A page that is well made stays so: Set, Clear, Stamp, New. -/
namespace Go.Proofs.Ythbbnebanmpcjaa.Pg
open Go.Proofs.Mem
set_option linter.unusedVariables false
set_option linter.unusedSimpArgs false
theorem setN_bytes {xs : List Int} {a n : Nat} {M : Int} (h : Bytes xs) : Bytes (setN xs a n M) := splice_bytes h (NumBytes.putS_bytes _ _)
theorem place_bytes {xs : List Int} {s o l : Nat} (h : Bytes xs) : Bytes (place xs s o l) := setN_bytes (setN_bytes h)
theorem empty_bytes {xs : List Int} {s : Nat} (h : Bytes xs) : Bytes (emptyP xs s) := by
  unfold emptyP
  exact setN_bytes (place_bytes (splice_bytes h (fun x hx => by rw [(List.mem_replicate.1 hx).2]; omega)))
/-- Clear -/
theorem clear_wf {xs : List Int} (W : Wf xs) (hb : Bytes xs) {s : Nat} (h0 : len xs s ≠ 0) :
    Wf (clearP xs s) ∧ len (clearP xs s) s = 0 ∧ dat (clearP xs s) s = [] ∧ Others xs (clearP xs s) s ∧ (∀ i, i < 12 → (clearP xs s).getD i 0 = xs.getD i 0) ∧ cnt (emptyP xs s) ≤ 40 ∧ off xs s + len xs s ≤ 448 ∧ s < 40 := by
  have hs : s < cnt xs := by
    rcases Nat.lt_or_ge s (cnt xs) with h | h
    · exact h
    · exact absurd (len_far h) h0
  obtain ⟨E0, E1, E2, E3, E4⟩ := empty_wf W.w0 hs h0
  obtain ⟨T0, T1, T2, T3⟩ := trim_wf E0 (empty_bytes hb) rfl
  have hC := W.w0.cnt
  unfold clearP
  exact ⟨T0, by rw [(T2 s).1]; exact E2, dat_nil (by rw [(T2 s).1]; exact E2), E3.trans (T2.others s), fun i hi => by rw [T3 i hi, E4 i hi], by rw [E1]; exact hC, W.w0.fits s hs, by omega⟩
/-- Set's steps -/
theorem aSet_wf {xs : List Int} (W : Wf0 xs) (s : Nat) :
    Wf0 (aSet xs s) ∧ cnt (aSet xs s) = cnt xs ∧ len (aSet xs s) s = 0 ∧ Others xs (aSet xs s) s ∧ usedTo (aSet xs s) (cnt xs) + len xs s = usedTo xs (cnt xs) ∧ (∀ i, i < 12 → (aSet xs s).getD i 0 = xs.getD i 0) := by
  unfold aSet
  by_cases h0 : len xs s = 0
  · rw [if_pos h0]
    exact ⟨W, rfl, h0, (Same.refl xs).others s, by rw [h0]; rfl, fun i _ => rfl⟩
  · rw [if_neg h0]
    have hs : s < cnt xs := by
      rcases Nat.lt_or_ge s (cnt xs) with h | h
      · exact h
      · exact absurd (len_far h) h0
    obtain ⟨E0, E1, E2, E3, E4⟩ := empty_wf W hs h0
    have := usedTo_one (xs := emptyP xs s) (ys := xs) (s := s) (cnt xs) (fun t _ hne => (E3 t hne).1) hs
    exact ⟨E0, E1, E2, E3, by omega, E4⟩
theorem room_le {xs : List Int} {s k : Nat} (hr : room xs s k) {u : Nat} (hu : u + len xs s = usedTo xs (cnt xs)) : 16 + 4 * nSet xs s + u + k ≤ 448 := by
  unfold room at hr; omega
theorem bSet_wf {xs : List Int} (W : Wf0 xs) {s k : Nat} (hr : room xs s k) :
    Wf0 (bSet xs s k) ∧ cnt (bSet xs s k) = cnt xs ∧ len (bSet xs s k) s = 0 ∧ Others xs (bSet xs s k) s ∧ usedTo (bSet xs s k) (cnt xs) + len xs s = usedTo xs (cnt xs) ∧ 16 + 4 * nSet xs s + k ≤ low (bSet xs s k) ∧ (gSet xs s k = true → GatherOk (aSet xs s)) ∧ (∀ i, i < 12 → (bSet xs s k).getD i 0 = xs.getD i 0) := by
  obtain ⟨A0, A1, A2, A3, A4, A5⟩ := aSet_wf W s
  have hrl := room_le hr A4
  unfold bSet
  cases hg : gSet xs s k
  · rw [if_neg (by decide)]
    refine ⟨A0, A1, A2, A3, A4, ?_, fun h => (by cases h), A5⟩
    unfold gSet at hg
    have := of_decide_eq_false hg
    omega
  · rw [if_pos rfl]
    obtain ⟨G0, G1, G2, G3, G4⟩ := gather_wf A0
    rw [A1] at G1 G3
    refine ⟨G0, G1, by rw [(G2 s).1]; exact A2, A3.trans (G2.others s), ?_, by rw [G3]; omega, fun _ => gatherOk_of A0.len A0.cnt A0.fits ?_, fun i hi => by rw [G4 i hi, A5 i hi]⟩
    · rw [usedTo_congr (cnt xs) (fun t _ => (G2 t).1)]; exact A4
    · rw [A1]; omega
theorem usedTo_past {xs : List Int} {c : Nat} (h : ∀ t, c ≤ t → len xs t = 0) : ∀ m, c ≤ m → usedTo xs m = usedTo xs c := by
  intro m
  induction m with
  | zero => intro h'; rw [show c = 0 by omega]
  | succ m ih =>
    intro h'
    by_cases e : c = m + 1
    · rw [e]
    · rw [usedTo_succ, ih (by omega), h m (by omega)]; rfl
theorem nSet_le {xs : List Int} {s : Nat} (hC : cnt xs ≤ 40) (hs : s < 40) : cnt xs ≤ nSet xs s ∧ s < nSet xs s ∧ nSet xs s ≤ 40 ∧ (nSet xs s = cnt xs ∨ nSet xs s = s + 1) := by unfold nSet; omega
theorem cSet_wf {xs : List Int} (W : Wf0 xs) {s k : Nat} (hs : s < 40) (hr : room xs s k) :
    Wf0 (cSet xs s k) ∧ cnt (cSet xs s k) = nSet xs s ∧ len (cSet xs s k) s = 0 ∧ Others xs (cSet xs s k) s ∧ 16 + 4 * nSet xs s + usedTo (cSet xs s k) (nSet xs s) + k ≤ 448 ∧ 16 + 4 * nSet xs s + k ≤ low (cSet xs s k) ∧ (∀ i, i < 12 → (cSet xs s k).getD i 0 = xs.getD i 0) := by
  obtain ⟨B0, B1, B2, B3, B4, B5, _, B6⟩ := bSet_wf W hr
  have hrl := room_le hr B4
  have hn := nSet_le W.cnt hs
  obtain ⟨C0, C1, C2, C3, C4⟩ := grow_wf B0 (n := nSet xs s) (by omega) (by omega) (by rw [B1]; omega) (by omega)
  unfold cSet
  refine ⟨C0, C1, by rw [(C2 s).1]; exact B2, B3.trans (C2.others s), ?_, by rw [C3]; exact B5, fun i hi => by rw [C4 i hi, B6 i hi]⟩
  rw [usedTo_past (c := cnt xs) (fun t ht => by rw [(C2 t).1]; exact len_far (by omega)) _ hn.1, usedTo_congr (cnt xs) (fun t _ => (C2 t).1)]
  exact hrl
/-- there is room: what Set asks is there -/
theorem setOk_of {xs : List Int} (W : Wf0 xs) {s k : Nat} (hs : s < 40) (hr : room xs s k) : SetOk xs s k := by
  obtain ⟨C0, C1, C2, C3, C4, C5, C6⟩ := cSet_wf W hs hr
  refine ⟨W.cnt, fun h0 => W.fits s ?_, (bSet_wf W hr).2.2.2.2.2.2.1, by omega, C0.lowle.2⟩
  rcases Nat.lt_or_ge s (cnt xs) with h | h
  · exact h
  · exact absurd (len_far h) h0
theorem Wf.others_last {xs ys : List Int} {s : Nat} (W : Wf xs) (hO : Others xs ys s) (hn : len ys s ≠ 0) (hc : cnt ys = nSet xs s) : cnt ys ≠ 0 → len ys (cnt ys - 1) ≠ 0 := by
  intro h
  by_cases e : cnt ys - 1 = s
  · rw [e]; exact hn
  · rw [(hO _ e).1]
    have : cnt ys = cnt xs := by unfold nSet at hc; omega
    rw [this]
    exact W.last (by omega)
/-- Set -/
theorem set_wf {xs ys : List Int} (W : Wf xs) {s : Nat} (hs : s < 40) (hy : 0 < ys.length ∧ ys.length ≤ 64) (hr : room xs s ys.length) :
    Wf (setP xs s ys) ∧ len (setP xs s ys) s = ys.length ∧ dat (setP xs s ys) s = ys ∧ Others xs (setP xs s ys) s ∧ (∀ i, i < 12 → (setP xs s ys).getD i 0 = xs.getD i 0) := by
  unfold setP
  by_cases h0 : len xs s = ys.length
  · rw [if_pos h0]
    have hsc : s < cnt xs := by
      rcases Nat.lt_or_ge s (cnt xs) with h | h
      · exact h
      · have := len_far h; omega
    obtain ⟨S0, S1, S2, S3, S4, S5⟩ := splice_wf W.w0 hsc h0 hy.1
    exact ⟨⟨S0, W.others_last S4 (by omega) (by rw [S1]; unfold nSet; omega)⟩, S2, S3, S4, S5⟩
  · rw [if_neg h0]
    obtain ⟨C0, C1, C2, C3, C4, C5, C6⟩ := cSet_wf W.w0 hs hr
    have hn := nSet_le W.w0.cnt hs
    obtain ⟨L0, L1, L2, L3, L4, L5⟩ := lay_wf C0 (s := s) (by omega) C2 hy (by rw [C1]; exact C4) (by rw [C1]; exact C5)
    have hO := C3.trans L4
    exact ⟨⟨L0, W.others_last hO (by omega) (by rw [L1, C1])⟩, L2, L3, hO, fun i hi => by rw [L5 i hi, C6 i hi]⟩
end Go.Proofs.Ythbbnebanmpcjaa.Pg
