import Derived.Test.YthbbnebanmpcjaaPgS
/- Any call on a page that is well made. -/
namespace Go.Proofs.Ythbbnebanmpcjaa.Pg
open Go.ChangeShapes Go.WideShapes Go.ChangeAt Go.RowKit Go.IntWalk Go.Proofs.Mem
set_option linter.unusedVariables false
set_option linter.unusedSimpArgs false
/-- a page that is well made, and where it lies -/
structure Pw (w : World) (b : Nat) (xs : List Int) : Prop where
  at_ : PgAt w b xs
  wf : Wf xs
/-- may Set be asked so? is there room? -/
def mayS (N : Int) (k : Nat) : Bool := decide (0 ≤ N ∧ N < 40 ∧ 1 ≤ k ∧ k ≤ 64)
def roomB (xs : List Int) (s k : Nat) : Bool := decide (16 + 4 * nSet xs s + usedTo xs (cnt xs) + k ≤ 448 + len xs s)
def setE (xs : List Int) (N : Int) (k : Nat) : Int := if mayS N k = true then (if roomB xs N.toNat k = true then 0 else 92) else 91
def setX (xs : List Int) (N : Int) (ys : List Int) : List Int := if mayS N ys.length = true ∧ roomB xs N.toNat ys.length = true then setP xs N.toNat ys else xs
theorem ir_some {w : World} {B : Nat} {k : IntKind} {A : Option Addr} {n c : Nat} {ys : List Int} (h : IR w B k (.slice A n c) ys) (h0 : 0 < n) : ∃ ad, A = some ad := by
  obtain ⟨A', c', e, _, _, h1, h2⟩ := h
  injection e with e1 e2 e3
  subst e1 e2
  cases A with
  | some ad => exact ⟨ad, rfl⟩
  | none =>
    have := h1 rfl
    omega
theorem setX_wf {xs : List Int} (W : Wf xs) (N : Int) (ys : List Int) : Wf (setX xs N ys) := by
  unfold setX
  split
  · rename_i h
    obtain ⟨h1, h2⟩ := h
    have h1' := of_decide_eq_true h1
    have h2' := of_decide_eq_true h2
    exact (set_wf W (by omega) (by omega) h2').1
  · exact W
/-- Set, whatever slot and data -/
theorem set_some (w : World) (b : Nat) (xs : List Int) (h : Pw w b xs) (N : Int) (A : Option Addr) (k c : Nat) (ys : List Int) (hy : Bytes ys) (hyl : ys.length = k)
    (hr : ∀ w', Fr (fun x => x = b) w w' → IR w' w'.heap.size .u8 (.slice A k c) ys) :
    Calls Try.prog 27 #[.pointer (some ⟨b, 0, none⟩), .int .i64 N, .slice A k c] w fun e w' => e = .returned (.int .u16 (setE xs N k)) ∧ Pw w' b (setX xs N ys) ∧ Fr (fun x => x = b) w w' := by
  have hX := setX_wf h.wf N ys
  cases hm : mayS N k
  · have hm' := of_decide_eq_false hm
    have e1 : setE xs N k = 91 := by unfold setE; rw [hm]; rfl
    have e2 : setX xs N ys = xs := by unfold setX; rw [hyl, hm]; rfl
    rw [e1, e2]
    refine (set_bad w b N A k c (by omega)).mono ?_
    rintro e w1 ⟨rfl, rfl⟩
    exact ⟨rfl, h, Fr.refl _ _⟩
  · have hm' := of_decide_eq_true hm
    obtain ⟨ad, rfl⟩ := ir_some (hr w (Fr.refl _ _)) (by omega)
    have hC := h.wf.w0.cnt
    obtain ⟨s, rfl⟩ : ∃ s : Nat, N = s := ⟨N.toNat, by omega⟩
    have hs : s < 40 := by omega
    have e1 : setE xs (s : Int) k = if roomB xs s k = true then 0 else 92 := by unfold setE; rw [hm, if_pos rfl]; rfl
    have e2 : setX xs (s : Int) ys = if roomB xs s k = true then setP xs s ys else xs := by
      unfold setX
      rw [hyl, hm, show ((s : Int)).toNat = s from rfl]
      simp
    rw [e1]
    rw [e2] at hX ⊢
    refine (set_any w b xs h.at_ hC s hs ad k c (by omega) (by omega) ys hy hyl hr (fun hr => setOk_of h.wf.w0 hs hr) (s : Int) rfl (roomB xs s k) (by unfold roomB room; exact decide_eq_true_iff)).mono ?_
    rintro e w1 ⟨rfl, p1, f1⟩
    exact ⟨rfl, ⟨p1, hX⟩, f1⟩
/-- is there something? -/
def there (xs : List Int) (N : Int) : Bool := decide (0 ≤ N ∧ len xs N.toNat ≠ 0)
def clearX (xs : List Int) (N : Int) : List Int := if there xs N = true then clearP xs N.toNat else xs
def datX (xs : List Int) (N : Int) : List Int := if there xs N = true then dat xs N.toNat else []
theorem clearX_wf {xs : List Int} (W : Wf xs) (hb : Bytes xs) (N : Int) : Wf (clearX xs N) := by
  unfold clearX
  split
  · rename_i h
    have h' := of_decide_eq_true h
    exact (clear_wf W hb h'.2).1
  · exact W
theorem length_some (w : World) (b : Nat) (xs : List Int) (h : Pw w b xs) (N : Int) (hN : there xs N = false) :
    Calls Try.prog 44 #[.pointer (some ⟨b, 0, none⟩), .int .i64 N] w fun e w' => e = .returned (.int .i64 0) ∧ w = w' := by
  have h' := of_decide_eq_false hN
  by_cases hc : N < 0 ∨ (cnt xs : Int) ≤ N
  · exact length_no w b xs h.at_ N hc
  · have hC := h.wf.w0.cnt
    have h0 : len xs N.toNat = 0 := by
      rcases Nat.eq_zero_or_pos (len xs N.toNat) with e | e
      · exact e
      · exact absurd ⟨by omega, by omega⟩ h'
    have := length_any w b xs h.at_ N.toNat (by omega) N (by omega)
    rw [h0] at this
    exact this
/-- Clear, whatever slot -/
theorem clear_some (w : World) (b : Nat) (xs : List Int) (h : Pw w b xs) (N : Int) :
    Calls Try.prog 28 #[.pointer (some ⟨b, 0, none⟩), .int .i64 N] w fun e w' => e = .returned (.bool (there xs N)) ∧ Pw w' b (clearX xs N) ∧ Fr (fun x => x = b) w w' := by
  have hX := clearX_wf h.wf h.at_.byt N
  cases ht : there xs N
  · have e2 : clearX xs N = xs := by unfold clearX; rw [ht]; rfl
    rw [e2]
    refine (clear_no w b N (length_some w b xs h N ht)).mono ?_
    rintro e w1 ⟨rfl, rfl⟩
    exact ⟨rfl, h, Fr.refl _ _⟩
  · have ht' := of_decide_eq_true ht
    have e2 : clearX xs N = clearP xs N.toNat := by unfold clearX; rw [ht]; rfl
    rw [e2] at hX ⊢
    obtain ⟨_, _, _, _, _, c1, c2, c3⟩ := clear_wf h.wf h.at_.byt ht'.2
    refine (clear_yes w b xs h.at_ N.toNat (by omega) ht'.2 c2 c1 N (by omega)).mono ?_
    rintro e w1 ⟨rfl, p1, f1⟩
    exact ⟨rfl, ⟨p1, hX⟩, f1⟩
/-- Get, whatever slot -/
theorem get_some (w : World) (b : Nat) (xs : List Int) (h : Pw w b xs) (N : Int) :
    Calls Try.prog 24 #[.pointer (some ⟨b, 0, none⟩), .int .i64 N] w fun e w' => ∃ u, e = .returned (.tuple #[u, .bool (there xs N)]) ∧ w'.ownsRow w.heap.size 5 1 u (datX xs N).length ((datX xs N).map (.int .u8)) ∧ Below w.heap.size w w' := by
  cases ht : there xs N
  · have e2 : datX xs N = [] := by unfold datX; rw [ht]; rfl
    rw [e2]
    have hD : Calls Try.prog 45 #[.pointer (some ⟨b, 0, none⟩), .int .i64 N] w fun e w' => e = .returned (.slice none 0 0) ∧ ∃ d, w' = w.drewN d := by
      have h' := of_decide_eq_false ht
      by_cases hc : N < 0 ∨ (cnt xs : Int) ≤ N
      · refine (data_no w b xs h.at_ N hc).mono ?_
        rintro e w1 ⟨rfl, rfl⟩
        exact ⟨rfl, 0, rfl⟩
      · have hC := h.wf.w0.cnt
        have h0 : len xs N.toNat = 0 := by
          rcases Nat.eq_zero_or_pos (len xs N.toNat) with e | e
          · exact e
          · exact absurd ⟨by omega, by omega⟩ h'
        have := data_any w b xs h.at_ N.toNat (by omega) (h.wf.w0.fits _ (by omega)) N (by omega)
        rw [if_pos h0] at this
        exact this
    refine (get_none w b N hD).mono ?_
    rintro e w1 ⟨rfl, d, rfl⟩
    exact ⟨_, rfl, World.ownsRow_nil _ _ _ _, below_drewN (Below.refl _ _) d⟩
  · have ht' := of_decide_eq_true ht
    have hs : N.toNat < cnt xs := by
      rcases Nat.lt_or_ge N.toNat (cnt xs) with h | h
      · exact h
      · exact absurd (len_far h) ht'.2
    have hC := h.wf.w0.cnt
    have hf := h.wf.w0.fits _ hs
    have e2 : datX xs N = dat xs N.toNat := by unfold datX; rw [ht]; rfl
    rw [e2, dat_len h.wf.w0.len hf]
    exact get_yes w b xs h.at_ N.toNat (by omega) hf ht'.2 N (by omega)
end Go.Proofs.Ythbbnebanmpcjaa.Pg
