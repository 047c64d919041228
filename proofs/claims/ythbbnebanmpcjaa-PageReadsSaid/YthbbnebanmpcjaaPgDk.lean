import Derived.Test.YthbbnebanmpcjaaPgEndB
/- The document's Read: pure. -/
namespace Go.Proofs.Ythbbnebanmpcjaa.Pg
open Go.ChangeShapes Go.WideShapes Go.ChangeAt Go.RowKit Go.IntWalk Go.Proofs.Mem
set_option linter.unusedVariables false
set_option linter.unusedSimpArgs false
/-- the document's page, so far as it is read: i slots, the bytes that are covered -/
def rdD (xs C : List Int) (i : Nat) : Dp := ⟨gt xs 0 8, gt xs 8 4, fun t => if t < i then off xs t else 0, fun t => if t < i then len xs t else 0, fun x => if C.getD x 0 ≠ 0 then xs.getD x 0 else 0⟩
theorem rdD_slot (xs C : List Int) (i : Nat) : ((rdD xs C i).setO i (off xs i)).setS i (len xs i) = rdD xs C (i + 1) := by
  unfold rdD Dp.setO Dp.setS
  have e1 : (fun t => if t = i then off xs i else if t < i then off xs t else 0) = (fun t => if t < i + 1 then off xs t else 0) := by
    funext t
    by_cases e : t = i
    · rw [if_pos e, if_pos (by omega), e]
    · rw [if_neg e]
      by_cases e2 : t < i
      · rw [if_pos e2, if_pos (by omega)]
      · rw [if_neg e2, if_neg (by omega)]
  have e2 : (fun t => if t = i then len xs i else if t < i then len xs t else 0) = (fun t => if t < i + 1 then len xs t else 0) := by
    funext t
    by_cases e : t = i
    · rw [if_pos e, if_pos (by omega), e]
    · rw [if_neg e]
      by_cases e2 : t < i
      · rw [if_pos e2, if_pos (by omega)]
      · rw [if_neg e2, if_neg (by omega)]
  show Dp.mk _ _ (fun t => if t = i then off xs i else if t < i then off xs t else 0) (fun t => if t = i then len xs i else if t < i then len xs t else 0) _ = _
  rw [e1, e2]
theorem set_getD (C : List Int) (k i : Nat) (hk : k < C.length) : (C.set k 1).getD i 0 = if i = k then 1 else C.getD i 0 := by
  rw [List.getD_eq_getElem?_getD, List.getElem?_set]
  by_cases e : k = i
  · subst e; rw [if_pos rfl, if_pos rfl, if_pos hk]; rfl
  · rw [if_neg e, if_neg (fun x => e x.symm), List.getD_eq_getElem?_getD]
theorem rdD_byte (xs C : List Int) (i k : Nat) (hk : k < C.length) : (rdD xs C i).setB k (xs.getD k 0) = rdD xs (C.set k 1) i := by
  unfold rdD Dp.setB
  have e1 : (fun x => if x = k then xs.getD k 0 else if C.getD x 0 ≠ 0 then xs.getD x 0 else 0) = (fun x => if (C.set k 1).getD x 0 ≠ 0 then xs.getD x 0 else 0) := by
    funext x
    rw [set_getD C k x hk]
    by_cases e : x = k
    · rw [if_pos e, if_pos e, if_pos (by decide), e]
    · rw [if_neg e, if_neg e]
  show Dp.mk _ _ _ _ (fun x => if x = k then xs.getD k 0 else if C.getD x 0 ≠ 0 then xs.getD x 0 else 0) = _
  rw [e1]
theorem rd_sim {xs C : List Int} (W : Wf xs) (K : Cov xs C (cnt xs) (off xs (cnt xs))) : Sim xs (rdD xs C (cnt xs)) := by
  refine ⟨rfl, rfl, fun t ht => ?_, fun t ht => ?_, fun t ht k hk => ?_, fun i hi hz => ?_⟩
  · show (if t < cnt xs then len xs t else 0) = _
    by_cases e : t < cnt xs
    · rw [if_pos e]
    · rw [if_neg e, len_far (by omega)]
  · show (if t < cnt xs then off xs t else 0) = _
    by_cases e : t < cnt xs
    · rw [if_pos e]
      by_cases e2 : len xs t = 0
      · rw [if_pos e2, W.w0.nil t e e2]
      · rw [if_neg e2]
    · rw [if_neg e, if_pos (len_far (by omega))]
  · show (if C.getD (off xs t + k) 0 ≠ 0 then xs.getD (off xs t + k) 0 else 0) = _
    rw [if_pos ((K.hit _).2 (.inl ⟨t, in_cnt (by omega), by omega, by omega⟩)), dat_getD hk]
  · show (if C.getD i 0 ≠ 0 then xs.getD i 0 else 0) = _
    rw [if_neg]
    intro h
    rcases (K.hit i).1 h with ⟨t, h1, h2, h3⟩ | h1
    · have := hz t (by have := W.w0.cnt; omega) (by omega)
      omega
    · omega
theorem ent_pre (p : Dp) : ∀ m, ∃ tl, entB p m = entB p 0 ++ tl := by
  intro m
  induction m with
  | zero => exact ⟨[], by simp⟩
  | succ m ih =>
    obtain ⟨tl, h⟩ := ih
    refine ⟨tl ++ NumBytes.putS (p.O m) 2 ++ NumBytes.putS (p.S m) 2, ?_⟩
    show (entB p m ++ NumBytes.putS (p.O m : Nat) 2) ++ NumBytes.putS (p.S m : Nat) 2 = _
    rw [h]; simp
theorem seg_mid (a b c : List Int) : (((a ++ b) ++ c).drop a.length).take b.length = b := by
  rw [List.append_assoc, List.drop_left, List.take_left]
theorem two_back (n : Nat) (h : n ≤ 448) : NumBytes.getS (NumBytes.putS (n : Int) 2) = (n : Int) := by
  rw [Codec.get_put _ 2 (by decide)]
  have : (2 : Int) ^ (8 * 2) = 65536 := by decide
  rw [this]; omega
theorem bytesD_head (p : Dp) : gt (bytesD p) 12 2 = (trimF p.S 40 : Int) ∧ gt (bytesD p) 14 2 = (lowF p.O p.S 40 : Int) := by
  obtain ⟨tl, h⟩ := ent_pre p (trimF p.S 40)
  have hX : ∃ tl', bytesD p = entB p 0 ++ tl' := ⟨tl ++ bseg p.B (16 + 4 * trimF p.S 40) (448 - (16 + 4 * trimF p.S 40)), by unfold bytesD; rw [h]; simp⟩
  obtain ⟨tl', h2⟩ := hX
  have h3 : entB p 0 = ((NumBytes.putS p.L 8 ++ NumBytes.putS p.N 4) ++ NumBytes.putS (trimF p.S 40 : Nat) 2) ++ NumBytes.putS (lowF p.O p.S 40 : Nat) 2 := rfl
  have l12 : (NumBytes.putS p.L 8 ++ NumBytes.putS p.N 4).length = 12 := by rw [List.length_append, NumBytes.putS_len, NumBytes.putS_len]
  have l14 : ((NumBytes.putS p.L 8 ++ NumBytes.putS p.N 4) ++ NumBytes.putS ((trimF p.S 40 : Nat) : Int) 2).length = 14 := by rw [List.length_append, l12, NumBytes.putS_len]
  have ht := trimF_le p.S 40
  have hl := lowF_le p.O p.S 40
  constructor
  · have e := seg_mid (NumBytes.putS p.L 8 ++ NumBytes.putS p.N 4) (NumBytes.putS ((trimF p.S 40 : Nat) : Int) 2) (NumBytes.putS ((lowF p.O p.S 40 : Nat) : Int) 2 ++ tl')
    rw [l12, NumBytes.putS_len] at e
    unfold gt
    rw [h2, h3, List.append_assoc _ (NumBytes.putS ((lowF p.O p.S 40 : Nat) : Int) 2) tl', e]
    exact two_back _ (by omega)
  · have e := seg_mid ((NumBytes.putS p.L 8 ++ NumBytes.putS p.N 4) ++ NumBytes.putS ((trimF p.S 40 : Nat) : Int) 2) (NumBytes.putS ((lowF p.O p.S 40 : Nat) : Int) 2) tl'
    rw [l14, NumBytes.putS_len] at e
    unfold gt
    rw [h2, h3, e]
    exact two_back _ hl
theorem bytesD_tail (p : Dp) (i : Nat) (h1 : 16 + 4 * trimF p.S 40 ≤ i) (h2 : i < 448) : (bytesD p).getD i 0 = p.B i := by
  unfold bytesD
  rw [List.getD_eq_getElem?_getD, List.getElem?_append_right (by rw [entB_len]; exact h1), entB_len, ← List.getD_eq_getElem?_getD, bseg_getD _ _ _ _ (by omega)]
  congr 1; omega
theorem trimF_len (xs : List Int) : ∀ i, trimF (len xs) i = trim xs i := by
  intro i
  induction i with
  | zero => rfl
  | succ i ih => show (if len xs i = 0 then trimF (len xs) i else i + 1) = (if len xs i = 0 then trim xs i else i + 1); rw [ih]
theorem rd_wf {xs C : List Int} (hx : xs.length = 448) (hc : cnt xs ≤ 40) (L : Lie xs (cnt xs)) (K : Cov xs C (cnt xs) (off xs (cnt xs))) (e : bytesD (rdD xs C (cnt xs)) = xs) : Wf xs := by
  have hS : (rdD xs C (cnt xs)).S = len xs := by
    funext t
    show (if t < cnt xs then len xs t else 0) = _
    by_cases e : t < cnt xs
    · rw [if_pos e]
    · rw [if_neg e, len_far (by omega)]
  obtain ⟨h1, h2⟩ := bytesD_head (rdD xs C (cnt xs))
  have h3 := bytesD_tail (rdD xs C (cnt xs))
  rw [e] at h1 h2 h3
  have hT : trimF (rdD xs C (cnt xs)).S 40 = trim xs (cnt xs) := by rw [hS, trimF_len, trim_past 40 hc]
  have hcT : cnt xs = trim xs (cnt xs) := by
    have h9 : cnt xs = trimF (rdD xs C (cnt xs)).S 40 := congrArg Int.toNat h1
    exact h9.trans hT
  have hlo : lowF (rdD xs C (cnt xs)).O (rdD xs C (cnt xs)).S 40 = lowTo xs (cnt xs) := by
    rw [hS, ← lowTo_past 40 hc]
    have : ∀ i, lowF (rdD xs C (cnt xs)).O (len xs) i = lowTo xs i := by
      intro i
      induction i with
      | zero => rfl
      | succ i ih =>
        show (if len xs i = 0 then lowF (rdD xs C (cnt xs)).O (len xs) i else min (lowF (rdD xs C (cnt xs)).O (len xs) i) ((rdD xs C (cnt xs)).O i)) = (if len xs i = 0 then lowTo xs i else min (lowTo xs i) (off xs i))
        rw [ih]
        by_cases e : len xs i = 0
        · rw [if_pos e, if_pos e]
        · rw [if_neg e, if_neg e, show (rdD xs C (cnt xs)).O i = off xs i from if_pos (in_cnt e)]
    exact this 40
  have hlow : low xs = lowTo xs (cnt xs) := by
    have h9 : low xs = lowF (rdD xs C (cnt xs)).O (rdD xs C (cnt xs)).S 40 := congrArg Int.toNat h2
    exact h9.trans hlo
  have hb := sum_bound C (16 + 4 * cnt xs) (by rw [K.len]; omega) (fun i hi => by
    rcases K.bit i with h | h
    · exact h
    · exfalso
      rcases (K.hit i).1 (by rw [h]; decide) with ⟨t, h3, h4, h5⟩ | h2
      · rcases L.fit t h3 with h6 | h6
        · omega
        · omega
      · omega) K.bit
  have hs := K.sum
  rw [K.len] at hb
  refine ⟨⟨hx, hc, by omega, fun s hs h0 => ?_, fun s hs h0 => ?_, L.apart, hlow, fun i h4 h5 => ?_⟩, fun h0 hl => ?_⟩
  · rcases L.fit s hs with h | h
    · exact absurd h.1 h0
    · exact ⟨h.2.2.1, h.2.2.2, h.2.1⟩
  · rcases L.fit s hs with h | h
    · exact h.2
    · exact absurd h0 h.1
  · rcases Nat.lt_or_ge i 448 with h6 | h6
    · rw [h3 i (by rw [hT, ← hcT]; exact h4) h6]
      show (if C.getD i 0 ≠ 0 then xs.getD i 0 else 0) = _
      rw [if_neg]
      intro h
      rcases (K.hit i).1 h with ⟨t, h7, h8, h9⟩ | h7
      · have := h5 t h7 (by omega)
        omega
      · omega
    · rw [List.getD_eq_getElem?_getD, List.getElem?_eq_none (by omega)]; rfl
  · have h6 := trim_succ xs (cnt xs - 1)
    rw [if_pos hl, show cnt xs - 1 + 1 = cnt xs by omega, ← hcT] at h6
    have := trim_le xs (cnt xs - 1)
    omega
theorem rd_iff {xs C : List Int} (hx : xs.length = 448) (hb : Bytes xs) (hc : cnt xs ≤ 40) (L : Lie xs (cnt xs)) (K : Cov xs C (cnt xs) (off xs (cnt xs))) : bytesD (rdD xs C (cnt xs)) = xs ↔ Wf xs :=
  ⟨rd_wf hx hc L K, fun W => sim_bytes (rd_sim W K) W hb⟩
theorem ir_part {w : World} {B : Nat} {g o n c : Nat} {xs : List Int} (h : IR w B .u8 (.slice (some ⟨g, o, none⟩) n c) xs) (a k : Nat) (hm : a + k ≤ n) : IR w B .u8 (.slice (some ⟨g, o + a, none⟩) k (c - a)) ((xs.drop a).take k) := by
  obtain ⟨A', c', e, h2, h3, h4, h5⟩ := h
  injection e with e1 e2 e3
  subst e2 e3
  have hl : ((xs.drop a).take k).length = k := by rw [List.length_take, List.length_drop]; omega
  refine ⟨_, _, by rw [hl], by rw [hl]; omega, by omega, (fun e => by cases e), fun i hi => ?_⟩
  rw [hl] at hi
  obtain ⟨b', o', e4, hb, hc⟩ := h5 (a + i) (by omega)
  rw [← e1] at e4
  injection e4 with e4
  injection e4 with e5 e6
  subst e5 e6
  refine ⟨_, _, rfl, hb, ?_⟩
  rw [Nat.add_assoc, hc, List.getD_eq_getElem?_getD, List.getD_eq_getElem?_getD, List.getElem?_take, if_pos hi, List.getElem?_drop]
end Go.Proofs.Ythbbnebanmpcjaa.Pg
