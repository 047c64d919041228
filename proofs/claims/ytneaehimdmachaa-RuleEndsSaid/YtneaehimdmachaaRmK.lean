import Derived.Test.YtneaehimdmachaaRmB
import Derived.Test.YtneaehimdmachaaRmJ
namespace Go.Proofs.Ytneaehimdmachaa.Rule
open Go.ChangeShapes Go.WideShapes Go.ChangeAt Go.RowKit Go.IntWalk Go.Proofs.Mem
set_option linter.unusedVariables false
set_option linter.unusedSimpArgs false
set_option maxRecDepth 100000 in
set_option maxHeartbeats 2000000 in
theorem check_any (w : World) (g : Nat) (q : Ot) (hq : q.Ok) (v : Value) (i : Int) (p : Value) (hb : WorkAt w g q v i p) :
    Calls Try.prog 32 #[.pointer (some ⟨g, 0, none⟩)] w (CkQ (ckE q) w) := by
  have hk := hq.kd
  obtain ⟨kd, wh, wm, wt, id, n, pr⟩ := q
  dsimp only at hk
  clear hq
  by_cases h0 : wh = 0
  · rw [show ckE ⟨kd, wh, wm, wt, id, n, pr⟩ = some 1 by simp [ckE, h0]]
    exact (chk_who w g kd wh wm wt id n pr v i p hb h0).mono fun e w' ⟨h1, h2⟩ => ⟨h1, h2 ▸ Below.refl _ _⟩
  by_cases k1 : kd = 1
  · subst k1
    rw [show ckE ⟨1, wh, wm, wt, id, n, pr⟩ = none by simp [ckE, h0]]
    exact ck_1_ok (by simp) hb h0
  by_cases k10 : kd = 10
  · subst k10
    rw [show ckE ⟨10, wh, wm, wt, id, n, pr⟩ = none by simp [ckE, h0]]
    exact ck_1_ok (by simp) hb h0
  by_cases k13 : kd = 13
  · subst k13
    rw [show ckE ⟨13, wh, wm, wt, id, n, pr⟩ = none by simp [ckE, h0]]
    exact ck_1_ok (by simp) hb h0
  by_cases k14 : kd = 14
  · subst k14
    rw [show ckE ⟨14, wh, wm, wt, id, n, pr⟩ = none by simp [ckE, h0]]
    exact ck_1_ok (by simp) hb h0
  by_cases k17 : kd = 17
  · subst k17
    rw [show ckE ⟨17, wh, wm, wt, id, n, pr⟩ = none by simp [ckE, h0]]
    exact ck_1_ok (by simp) hb h0
  by_cases k2 : kd = 2
  · subst k2
    by_cases hn : n = 0
    · rw [show ckE ⟨2, wh, wm, wt, id, n, pr⟩ = some 1 by simp [ckE, h0, hn]]
      exact ck_2_n (by simp) hb h0 hn
    · rw [show ckE ⟨2, wh, wm, wt, id, n, pr⟩ = none by simp [ckE, h0, hn]]
      exact ck_2_ok (by simp) hb h0 hn
  by_cases k3 : kd = 3
  · subst k3
    by_cases hn : n = 0
    · rw [show ckE ⟨3, wh, wm, wt, id, n, pr⟩ = some 1 by simp [ckE, h0, hn]]
      exact ck_2_n (by simp) hb h0 hn
    · rw [show ckE ⟨3, wh, wm, wt, id, n, pr⟩ = none by simp [ckE, h0, hn]]
      exact ck_2_ok (by simp) hb h0 hn
  by_cases k6 : kd = 6
  · subst k6
    by_cases hn : n = 0
    · rw [show ckE ⟨6, wh, wm, wt, id, n, pr⟩ = some 1 by simp [ckE, h0, hn]]
      exact ck_2_n (by simp) hb h0 hn
    · rw [show ckE ⟨6, wh, wm, wt, id, n, pr⟩ = none by simp [ckE, h0, hn]]
      exact ck_2_ok (by simp) hb h0 hn
  by_cases k7 : kd = 7
  · subst k7
    by_cases hn : n = 0
    · rw [show ckE ⟨7, wh, wm, wt, id, n, pr⟩ = some 1 by simp [ckE, h0, hn]]
      exact ck_2_n (by simp) hb h0 hn
    · rw [show ckE ⟨7, wh, wm, wt, id, n, pr⟩ = none by simp [ckE, h0, hn]]
      exact ck_2_ok (by simp) hb h0 hn
  by_cases k4 : kd = 4
  · subst k4
    by_cases hn : n = 0
    · rw [show ckE ⟨4, wh, wm, wt, id, n, pr⟩ = some 1 by simp [ckE, h0, hn]]
      exact ck_2_n (by simp) hb h0 hn
    · cases hi : itemB wt with
      | false =>
        rw [show ckE ⟨4, wh, wm, wt, id, n, pr⟩ = some 1 by simp [ckE, h0, hn, hi]]
        exact ck_4_i (by simp) hb h0 hn hi
      | true =>
        rw [show ckE ⟨4, wh, wm, wt, id, n, pr⟩ = none by simp [ckE, h0, hn, hi]]
        exact ck_4_ok (by simp) hb h0 hn hi
  by_cases k5 : kd = 5
  · subst k5
    by_cases hn : n = 0
    · rw [show ckE ⟨5, wh, wm, wt, id, n, pr⟩ = some 1 by simp [ckE, h0, hn]]
      exact ck_2_n (by simp) hb h0 hn
    · cases hi : itemB wt with
      | false =>
        rw [show ckE ⟨5, wh, wm, wt, id, n, pr⟩ = some 1 by simp [ckE, h0, hn, hi]]
        exact ck_4_i (by simp) hb h0 hn hi
      | true =>
        rw [show ckE ⟨5, wh, wm, wt, id, n, pr⟩ = none by simp [ckE, h0, hn, hi]]
        exact ck_4_ok (by simp) hb h0 hn hi
  by_cases k8 : kd = 8
  · subst k8
    by_cases hn : n = 0
    · rw [show ckE ⟨8, wh, wm, wt, id, n, pr⟩ = some 1 by simp [ckE, h0, hn]]
      exact ck_2_n (by simp) hb h0 hn
    · by_cases hm : wm = 0
      · rw [show ckE ⟨8, wh, wm, wt, id, n, pr⟩ = some 1 by simp [ckE, h0, hn, hm]]
        exact ck_8_m (by simp) hb h0 hn hm
      · by_cases hs : wm = wh
        · rw [show ckE ⟨8, wh, wm, wt, id, n, pr⟩ = some 212 by simp [ckE, h0, hn, hm, hs]]
          exact ck_8_s (by simp) hb h0 hn hm hs
        · rw [show ckE ⟨8, wh, wm, wt, id, n, pr⟩ = none by simp [ckE, h0, hn, hm, hs]]
          exact ck_8_ok (by simp) hb h0 hn hm hs
  by_cases k9 : kd = 9
  · subst k9
    by_cases hn : n = 0
    · rw [show ckE ⟨9, wh, wm, wt, id, n, pr⟩ = some 1 by simp [ckE, h0, hn]]
      exact ck_2_n (by simp) hb h0 hn
    · by_cases hm : wm = 0
      · rw [show ckE ⟨9, wh, wm, wt, id, n, pr⟩ = some 1 by simp [ckE, h0, hn, hm]]
        exact ck_8_m (by simp) hb h0 hn hm
      · cases hi : itemB wt with
        | false =>
          rw [show ckE ⟨9, wh, wm, wt, id, n, pr⟩ = some 1 by simp [ckE, h0, hn, hm, hi]]
          exact ck_9_i (by simp) hb h0 hn hm hi
        | true =>
          by_cases hs : wm = wh
          · rw [show ckE ⟨9, wh, wm, wt, id, n, pr⟩ = some 212 by simp [ckE, h0, hn, hm, hi, hs]]
            exact ck_9_s (by simp) hb h0 hn hm hi hs
          · rw [show ckE ⟨9, wh, wm, wt, id, n, pr⟩ = none by simp [ckE, h0, hn, hm, hi, hs]]
            exact ck_9_ok (by simp) hb h0 hn hm hi hs
  by_cases k11 : kd = 11
  · subst k11
    by_cases hm : wm = 0
    · rw [show ckE ⟨11, wh, wm, wt, id, n, pr⟩ = some 1 by simp [ckE, h0, hm]]
      exact ck_11_m (by simp) hb h0 hm
    · by_cases hs : wm = wh
      · rw [show ckE ⟨11, wh, wm, wt, id, n, pr⟩ = some 212 by simp [ckE, h0, hm, hs]]
        exact ck_11_s (by simp) hb h0 hm hs
      · rw [show ckE ⟨11, wh, wm, wt, id, n, pr⟩ = none by simp [ckE, h0, hm, hs]]
        exact ck_11_ok (by simp) hb h0 hm hs
  by_cases k12 : kd = 12
  · subst k12
    by_cases hw : 1000 < wt
    · rw [show ckE ⟨12, wh, wm, wt, id, n, pr⟩ = some 1 by simp [ckE, h0, hw]]
      exact ck_12_w (by simp) hb h0 hw
    · rw [show ckE ⟨12, wh, wm, wt, id, n, pr⟩ = none by simp [ckE, h0, hw]]
      exact ck_12_ok (by simp) hb h0 hw
  by_cases k18 : kd = 18
  · subst k18
    by_cases hw : 1000 < wt
    · rw [show ckE ⟨18, wh, wm, wt, id, n, pr⟩ = some 1 by simp [ckE, h0, hw]]
      exact ck_12_w (by simp) hb h0 hw
    · rw [show ckE ⟨18, wh, wm, wt, id, n, pr⟩ = none by simp [ckE, h0, hw]]
      exact ck_12_ok (by simp) hb h0 hw
  by_cases k15 : kd = 15
  · subst k15
    by_cases hn : n = 0
    · rw [show ckE ⟨15, wh, wm, wt, id, n, pr⟩ = some 1 by simp [ckE, h0, hn]]
      exact ck_2_n (by simp) hb h0 hn
    · cases hi : itemB wt with
      | false =>
        rw [show ckE ⟨15, wh, wm, wt, id, n, pr⟩ = some 1 by simp [ckE, h0, hn, hi]]
        exact ck_4_i (by simp) hb h0 hn hi
      | true =>
        by_cases hp : 4611686018427387904 < pr
        · rw [show ckE ⟨15, wh, wm, wt, id, n, pr⟩ = some 1 by simp [ckE, h0, hn, hi, hp]]
          exact ck_15_p (by simp) hb h0 hn hi hp
        · rw [show ckE ⟨15, wh, wm, wt, id, n, pr⟩ = none by simp [ckE, h0, hn, hi, hp]]
          exact ck_15_ok (by simp) hb h0 hn hi hp
  by_cases k16 : kd = 16
  · subst k16
    by_cases hn : n = 0
    · rw [show ckE ⟨16, wh, wm, wt, id, n, pr⟩ = some 1 by simp [ckE, h0, hn]]
      exact ck_2_n (by simp) hb h0 hn
    · by_cases hp : 4611686018427387904 < n
      · rw [show ckE ⟨16, wh, wm, wt, id, n, pr⟩ = some 1 by simp [ckE, h0, hn, hp]]
        exact ck_16_b (by simp) hb h0 hn hp
      · rw [show ckE ⟨16, wh, wm, wt, id, n, pr⟩ = none by simp [ckE, h0, hn, hp]]
        exact ck_16_ok (by simp) hb h0 hn hp
  rw [show ckE ⟨kd, wh, wm, wt, id, n, pr⟩ = none by simp [ckE, h0, k1, k10, k13, k14, k17, k2, k3, k6, k7, k4, k5, k8, k9, k11, k12, k18, k15, k16]]
  exact (chk_kind w g kd wh wm wt id n pr v i p hb h0 (by omega)).mono fun e w' ⟨h1, h2⟩ => ⟨h1, h2 ▸ Below.refl _ _⟩
end Go.Proofs.Ytneaehimdmachaa.Rule
