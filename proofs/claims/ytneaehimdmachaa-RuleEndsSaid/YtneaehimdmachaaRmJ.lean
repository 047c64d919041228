import Derived.Test.YtneaehimdmachaaRm1
namespace Go.Proofs.Ytneaehimdmachaa.Rule
open Go.ChangeShapes Go.WideShapes Go.ChangeAt Go.RowKit Go.IntWalk Go.Proofs.Mem
set_option linter.unusedVariables false
set_option linter.unusedSimpArgs false
section
variable {w : World} {g : Nat} {wh wm wt id n pr : Int} {v : Value} {i : Int} {p : Value}
set_option maxRecDepth 100000 in
set_option maxHeartbeats 8000000 in
theorem ck_8_m {kd : Int} (hk : kd = 8 ∨ kd = 9) (hb : WorkAt w g ⟨kd, wh, wm, wt, id, n, pr⟩ v i p) (h0 : wh ≠ 0) (hn : n ≠ 0) (hm : wm = 0) : Calls Try.prog 32 #[.pointer (some ⟨g, 0, none⟩)] w (CkQ (some 1) w) := by
  obtain ⟨c0, c1, c2, c3, c4, c5, c6, c7, c8, c9⟩ := wc_of hb
  dsimp only at c0 c1 c2 c3 c4 c5 c6
  have d0 : (wh == 0) = false := by simpa using h0
  have f0 : (n == 0) = false := by simpa using hn
  have f1 : (wm == 0) = true := by simpa using hm
  clear hb h0 hn hm
  rcases hk with rfl | rfl
  all_goals
    go_enter Try.func32, Try.ntmps32
    go_wp2_with (first | (go_at_call 34; (with_reducible refine (deny_no 1 _).mono ?_); rintro e w1 ⟨rfl, rfl⟩) | (go_at_call 34; (with_reducible refine (deny_yes 1 _).mono ?_); rintro e w1 ⟨rfl, rfl⟩))
    exact ⟨rfl, rfl, Below.refl _ _⟩
set_option maxRecDepth 100000 in
set_option maxHeartbeats 8000000 in
theorem ck_8_s {kd : Int} (hk : kd = 8) (hb : WorkAt w g ⟨kd, wh, wm, wt, id, n, pr⟩ v i p) (h0 : wh ≠ 0) (hn : n ≠ 0) (hm : wm ≠ 0) (hs : wm = wh) : Calls Try.prog 32 #[.pointer (some ⟨g, 0, none⟩)] w (CkQ (some 212) w) := by
  obtain ⟨c0, c1, c2, c3, c4, c5, c6, c7, c8, c9⟩ := wc_of hb
  dsimp only at c0 c1 c2 c3 c4 c5 c6
  have d0 : (wh == 0) = false := by simpa using h0
  have f0 : (n == 0) = false := by simpa using hn
  have f1 : (wm == 0) = false := by simpa using hm
  have f2 : (wm == wh) = true := by simpa using hs
  clear hb h0 hn hm hs
  rcases hk with rfl
  all_goals
    go_enter Try.func32, Try.ntmps32
    go_wp2_with (first | (go_at_call 34; (with_reducible refine (deny_no 1 _).mono ?_); rintro e w1 ⟨rfl, rfl⟩))
    go_region_dies
    all_goals
      (with_reducible refine (deny_yes 212 _).mono ?_)
      rintro e w1 ⟨rfl, rfl⟩
      exact ⟨rfl, rfl, Below.drew (Below.refl _ _)⟩
set_option maxRecDepth 100000 in
set_option maxHeartbeats 8000000 in
theorem ck_8_ok {kd : Int} (hk : kd = 8) (hb : WorkAt w g ⟨kd, wh, wm, wt, id, n, pr⟩ v i p) (h0 : wh ≠ 0) (hn : n ≠ 0) (hm : wm ≠ 0) (hs : wm ≠ wh) : Calls Try.prog 32 #[.pointer (some ⟨g, 0, none⟩)] w (CkQ none w) := by
  obtain ⟨c0, c1, c2, c3, c4, c5, c6, c7, c8, c9⟩ := wc_of hb
  dsimp only at c0 c1 c2 c3 c4 c5 c6
  have d0 : (wh == 0) = false := by simpa using h0
  have f0 : (n == 0) = false := by simpa using hn
  have f1 : (wm == 0) = false := by simpa using hm
  have f2 : (wm == wh) = false := by simpa using hs
  clear hb h0 hn hm hs
  rcases hk with rfl
  all_goals
    go_enter Try.func32, Try.ntmps32
    go_wp2_with (first | (go_at_call 34; (with_reducible refine (deny_no 1 _).mono ?_); rintro e w1 ⟨rfl, rfl⟩))
    go_region_with (go_at_call 34; (with_reducible refine (deny_no 212 _).mono ?_); rintro e w1 ⟨rfl, rfl⟩)
    all_goals
      go_wp2
      go_end0
      exact ⟨rfl, Below.drew (Below.refl _ _)⟩
set_option maxRecDepth 100000 in
set_option maxHeartbeats 8000000 in
theorem ck_9_i {kd : Int} (hk : kd = 9) (hb : WorkAt w g ⟨kd, wh, wm, wt, id, n, pr⟩ v i p) (h0 : wh ≠ 0) (hn : n ≠ 0) (hm : wm ≠ 0) (hi : itemB wt = false) : Calls Try.prog 32 #[.pointer (some ⟨g, 0, none⟩)] w (CkQ (some 1) w) := by
  obtain ⟨c0, c1, c2, c3, c4, c5, c6, c7, c8, c9⟩ := wc_of hb
  dsimp only at c0 c1 c2 c3 c4 c5 c6
  have d0 : (wh == 0) = false := by simpa using h0
  have f0 : (n == 0) = false := by simpa using hn
  have f1 : (wm == 0) = false := by simpa using hm
  have f2 : itemB wt = false := hi
  clear hb h0 hn hm hi
  rcases hk with rfl
  all_goals
    go_enter Try.func32, Try.ntmps32
    go_wp2_with (first | (go_at_call 34; (with_reducible refine (deny_no 1 _).mono ?_); rintro e w1 ⟨rfl, rfl⟩) | (go_at_call 34; (with_reducible refine (deny_yes 1 _).mono ?_); rintro e w1 ⟨rfl, rfl⟩) | (go_at_call 35; (with_reducible refine (item_any _ _).mono ?_); rintro e w1 ⟨rfl, rfl⟩))
    exact ⟨rfl, rfl, Below.refl _ _⟩
set_option maxRecDepth 100000 in
set_option maxHeartbeats 8000000 in
theorem ck_9_s {kd : Int} (hk : kd = 9) (hb : WorkAt w g ⟨kd, wh, wm, wt, id, n, pr⟩ v i p) (h0 : wh ≠ 0) (hn : n ≠ 0) (hm : wm ≠ 0) (hi : itemB wt = true) (hs : wm = wh) : Calls Try.prog 32 #[.pointer (some ⟨g, 0, none⟩)] w (CkQ (some 212) w) := by
  obtain ⟨c0, c1, c2, c3, c4, c5, c6, c7, c8, c9⟩ := wc_of hb
  dsimp only at c0 c1 c2 c3 c4 c5 c6
  have d0 : (wh == 0) = false := by simpa using h0
  have f0 : (n == 0) = false := by simpa using hn
  have f1 : (wm == 0) = false := by simpa using hm
  have f2 : itemB wt = true := hi
  have f3 : (wm == wh) = true := by simpa using hs
  clear hb h0 hn hm hi hs
  rcases hk with rfl
  all_goals
    go_enter Try.func32, Try.ntmps32
    go_wp2_with (first | (go_at_call 34; (with_reducible refine (deny_no 1 _).mono ?_); rintro e w1 ⟨rfl, rfl⟩) | (go_at_call 35; (with_reducible refine (item_any _ _).mono ?_); rintro e w1 ⟨rfl, rfl⟩))
    go_region_dies
    all_goals
      (with_reducible refine (deny_yes 212 _).mono ?_)
      rintro e w1 ⟨rfl, rfl⟩
      exact ⟨rfl, rfl, Below.drew (Below.refl _ _)⟩
set_option maxRecDepth 100000 in
set_option maxHeartbeats 8000000 in
theorem ck_9_ok {kd : Int} (hk : kd = 9) (hb : WorkAt w g ⟨kd, wh, wm, wt, id, n, pr⟩ v i p) (h0 : wh ≠ 0) (hn : n ≠ 0) (hm : wm ≠ 0) (hi : itemB wt = true) (hs : wm ≠ wh) : Calls Try.prog 32 #[.pointer (some ⟨g, 0, none⟩)] w (CkQ none w) := by
  obtain ⟨c0, c1, c2, c3, c4, c5, c6, c7, c8, c9⟩ := wc_of hb
  dsimp only at c0 c1 c2 c3 c4 c5 c6
  have d0 : (wh == 0) = false := by simpa using h0
  have f0 : (n == 0) = false := by simpa using hn
  have f1 : (wm == 0) = false := by simpa using hm
  have f2 : itemB wt = true := hi
  have f3 : (wm == wh) = false := by simpa using hs
  clear hb h0 hn hm hi hs
  rcases hk with rfl
  all_goals
    go_enter Try.func32, Try.ntmps32
    go_wp2_with (first | (go_at_call 34; (with_reducible refine (deny_no 1 _).mono ?_); rintro e w1 ⟨rfl, rfl⟩) | (go_at_call 35; (with_reducible refine (item_any _ _).mono ?_); rintro e w1 ⟨rfl, rfl⟩))
    go_region_with (go_at_call 34; (with_reducible refine (deny_no 212 _).mono ?_); rintro e w1 ⟨rfl, rfl⟩)
    all_goals
      go_wp2
      go_end0
      exact ⟨rfl, Below.drew (Below.refl _ _)⟩
set_option maxRecDepth 100000 in
set_option maxHeartbeats 8000000 in
theorem ck_11_m {kd : Int} (hk : kd = 11) (hb : WorkAt w g ⟨kd, wh, wm, wt, id, n, pr⟩ v i p) (h0 : wh ≠ 0) (hm : wm = 0) : Calls Try.prog 32 #[.pointer (some ⟨g, 0, none⟩)] w (CkQ (some 1) w) := by
  obtain ⟨c0, c1, c2, c3, c4, c5, c6, c7, c8, c9⟩ := wc_of hb
  dsimp only at c0 c1 c2 c3 c4 c5 c6
  have d0 : (wh == 0) = false := by simpa using h0
  have f0 : (wm == 0) = true := by simpa using hm
  clear hb h0 hm
  rcases hk with rfl
  all_goals
    go_enter Try.func32, Try.ntmps32
    go_wp2_with (first | (go_at_call 34; (with_reducible refine (deny_no 1 _).mono ?_); rintro e w1 ⟨rfl, rfl⟩) | (go_at_call 34; (with_reducible refine (deny_yes 1 _).mono ?_); rintro e w1 ⟨rfl, rfl⟩))
    exact ⟨rfl, rfl, Below.refl _ _⟩
set_option maxRecDepth 100000 in
set_option maxHeartbeats 8000000 in
theorem ck_11_s {kd : Int} (hk : kd = 11) (hb : WorkAt w g ⟨kd, wh, wm, wt, id, n, pr⟩ v i p) (h0 : wh ≠ 0) (hm : wm ≠ 0) (hs : wm = wh) : Calls Try.prog 32 #[.pointer (some ⟨g, 0, none⟩)] w (CkQ (some 212) w) := by
  obtain ⟨c0, c1, c2, c3, c4, c5, c6, c7, c8, c9⟩ := wc_of hb
  dsimp only at c0 c1 c2 c3 c4 c5 c6
  have d0 : (wh == 0) = false := by simpa using h0
  have f0 : (wm == 0) = false := by simpa using hm
  have f1 : (wm == wh) = true := by simpa using hs
  clear hb h0 hm hs
  rcases hk with rfl
  all_goals
    go_enter Try.func32, Try.ntmps32
    go_wp2_with (first | (go_at_call 34; (with_reducible refine (deny_no 1 _).mono ?_); rintro e w1 ⟨rfl, rfl⟩))
    go_region_dies
    all_goals
      (with_reducible refine (deny_yes 212 _).mono ?_)
      rintro e w1 ⟨rfl, rfl⟩
      exact ⟨rfl, rfl, Below.drew (Below.refl _ _)⟩
set_option maxRecDepth 100000 in
set_option maxHeartbeats 8000000 in
theorem ck_11_ok {kd : Int} (hk : kd = 11) (hb : WorkAt w g ⟨kd, wh, wm, wt, id, n, pr⟩ v i p) (h0 : wh ≠ 0) (hm : wm ≠ 0) (hs : wm ≠ wh) : Calls Try.prog 32 #[.pointer (some ⟨g, 0, none⟩)] w (CkQ none w) := by
  obtain ⟨c0, c1, c2, c3, c4, c5, c6, c7, c8, c9⟩ := wc_of hb
  dsimp only at c0 c1 c2 c3 c4 c5 c6
  have d0 : (wh == 0) = false := by simpa using h0
  have f0 : (wm == 0) = false := by simpa using hm
  have f1 : (wm == wh) = false := by simpa using hs
  clear hb h0 hm hs
  rcases hk with rfl
  all_goals
    go_enter Try.func32, Try.ntmps32
    go_wp2_with (first | (go_at_call 34; (with_reducible refine (deny_no 1 _).mono ?_); rintro e w1 ⟨rfl, rfl⟩))
    go_region_with (go_at_call 34; (with_reducible refine (deny_no 212 _).mono ?_); rintro e w1 ⟨rfl, rfl⟩)
    all_goals
      go_wp2
      go_end0
      exact ⟨rfl, Below.drew (Below.refl _ _)⟩
set_option maxRecDepth 100000 in
set_option maxHeartbeats 8000000 in
theorem ck_12_w {kd : Int} (hk : kd = 12 ∨ kd = 18) (hb : WorkAt w g ⟨kd, wh, wm, wt, id, n, pr⟩ v i p) (h0 : wh ≠ 0) (hw : 1000 < wt) : Calls Try.prog 32 #[.pointer (some ⟨g, 0, none⟩)] w (CkQ (some 1) w) := by
  obtain ⟨c0, c1, c2, c3, c4, c5, c6, c7, c8, c9⟩ := wc_of hb
  dsimp only at c0 c1 c2 c3 c4 c5 c6
  have d0 : (wh == 0) = false := by simpa using h0
  have f0 : decide (1000 < wt) = true := decide_eq_true hw
  clear hb h0 hw
  rcases hk with rfl | rfl
  all_goals
    go_enter Try.func32, Try.ntmps32
    go_wp2_with (first | (go_at_call 34; (with_reducible refine (deny_no 1 _).mono ?_); rintro e w1 ⟨rfl, rfl⟩) | (go_at_call 34; (with_reducible refine (deny_yes 1 _).mono ?_); rintro e w1 ⟨rfl, rfl⟩))
    exact ⟨rfl, rfl, Below.refl _ _⟩
set_option maxRecDepth 100000 in
set_option maxHeartbeats 8000000 in
theorem ck_12_ok {kd : Int} (hk : kd = 12 ∨ kd = 18) (hb : WorkAt w g ⟨kd, wh, wm, wt, id, n, pr⟩ v i p) (h0 : wh ≠ 0) (hw : ¬ 1000 < wt) : Calls Try.prog 32 #[.pointer (some ⟨g, 0, none⟩)] w (CkQ none w) := by
  obtain ⟨c0, c1, c2, c3, c4, c5, c6, c7, c8, c9⟩ := wc_of hb
  dsimp only at c0 c1 c2 c3 c4 c5 c6
  have d0 : (wh == 0) = false := by simpa using h0
  have f0 : decide (1000 < wt) = false := decide_eq_false hw
  clear hb h0 hw
  rcases hk with rfl | rfl
  all_goals
    go_enter Try.func32, Try.ntmps32
    go_wp2_with (first | (go_at_call 34; (with_reducible refine (deny_no 1 _).mono ?_); rintro e w1 ⟨rfl, rfl⟩))
    go_end0
    exact ⟨rfl, Below.refl _ _⟩
set_option maxRecDepth 100000 in
set_option maxHeartbeats 8000000 in
theorem ck_15_p {kd : Int} (hk : kd = 15) (hb : WorkAt w g ⟨kd, wh, wm, wt, id, n, pr⟩ v i p) (h0 : wh ≠ 0) (hn : n ≠ 0) (hi : itemB wt = true) (hp : 4611686018427387904 < pr) : Calls Try.prog 32 #[.pointer (some ⟨g, 0, none⟩)] w (CkQ (some 1) w) := by
  obtain ⟨c0, c1, c2, c3, c4, c5, c6, c7, c8, c9⟩ := wc_of hb
  dsimp only at c0 c1 c2 c3 c4 c5 c6
  have d0 : (wh == 0) = false := by simpa using h0
  have f0 : (n == 0) = false := by simpa using hn
  have f1 : itemB wt = true := hi
  have f2 : decide (4611686018427387904 < pr) = true := decide_eq_true hp
  clear hb h0 hn hi hp
  rcases hk with rfl
  all_goals
    go_enter Try.func32, Try.ntmps32
    go_wp2_with (first | (go_at_call 34; (with_reducible refine (deny_no 1 _).mono ?_); rintro e w1 ⟨rfl, rfl⟩) | (go_at_call 34; (with_reducible refine (deny_yes 1 _).mono ?_); rintro e w1 ⟨rfl, rfl⟩) | (go_at_call 35; (with_reducible refine (item_any _ _).mono ?_); rintro e w1 ⟨rfl, rfl⟩))
    exact ⟨rfl, rfl, Below.refl _ _⟩
set_option maxRecDepth 100000 in
set_option maxHeartbeats 8000000 in
theorem ck_15_ok {kd : Int} (hk : kd = 15) (hb : WorkAt w g ⟨kd, wh, wm, wt, id, n, pr⟩ v i p) (h0 : wh ≠ 0) (hn : n ≠ 0) (hi : itemB wt = true) (hp : ¬ 4611686018427387904 < pr) : Calls Try.prog 32 #[.pointer (some ⟨g, 0, none⟩)] w (CkQ none w) := by
  obtain ⟨c0, c1, c2, c3, c4, c5, c6, c7, c8, c9⟩ := wc_of hb
  dsimp only at c0 c1 c2 c3 c4 c5 c6
  have d0 : (wh == 0) = false := by simpa using h0
  have f0 : (n == 0) = false := by simpa using hn
  have f1 : itemB wt = true := hi
  have f2 : decide (4611686018427387904 < pr) = false := decide_eq_false hp
  clear hb h0 hn hi hp
  rcases hk with rfl
  all_goals
    go_enter Try.func32, Try.ntmps32
    go_wp2_with (first | (go_at_call 34; (with_reducible refine (deny_no 1 _).mono ?_); rintro e w1 ⟨rfl, rfl⟩) | (go_at_call 35; (with_reducible refine (item_any _ _).mono ?_); rintro e w1 ⟨rfl, rfl⟩))
    go_end0
    exact ⟨rfl, Below.refl _ _⟩
set_option maxRecDepth 100000 in
set_option maxHeartbeats 8000000 in
theorem ck_16_b {kd : Int} (hk : kd = 16) (hb : WorkAt w g ⟨kd, wh, wm, wt, id, n, pr⟩ v i p) (h0 : wh ≠ 0) (hn : n ≠ 0) (hp : 4611686018427387904 < n) : Calls Try.prog 32 #[.pointer (some ⟨g, 0, none⟩)] w (CkQ (some 1) w) := by
  obtain ⟨c0, c1, c2, c3, c4, c5, c6, c7, c8, c9⟩ := wc_of hb
  dsimp only at c0 c1 c2 c3 c4 c5 c6
  have d0 : (wh == 0) = false := by simpa using h0
  have f0 : (n == 0) = false := by simpa using hn
  have f1 : decide (4611686018427387904 < n) = true := decide_eq_true hp
  clear hb h0 hn hp
  rcases hk with rfl
  all_goals
    go_enter Try.func32, Try.ntmps32
    go_wp2_with (first | (go_at_call 34; (with_reducible refine (deny_no 1 _).mono ?_); rintro e w1 ⟨rfl, rfl⟩) | (go_at_call 34; (with_reducible refine (deny_yes 1 _).mono ?_); rintro e w1 ⟨rfl, rfl⟩))
    exact ⟨rfl, rfl, Below.refl _ _⟩
set_option maxRecDepth 100000 in
set_option maxHeartbeats 8000000 in
theorem ck_16_ok {kd : Int} (hk : kd = 16) (hb : WorkAt w g ⟨kd, wh, wm, wt, id, n, pr⟩ v i p) (h0 : wh ≠ 0) (hn : n ≠ 0) (hp : ¬ 4611686018427387904 < n) : Calls Try.prog 32 #[.pointer (some ⟨g, 0, none⟩)] w (CkQ none w) := by
  obtain ⟨c0, c1, c2, c3, c4, c5, c6, c7, c8, c9⟩ := wc_of hb
  dsimp only at c0 c1 c2 c3 c4 c5 c6
  have d0 : (wh == 0) = false := by simpa using h0
  have f0 : (n == 0) = false := by simpa using hn
  have f1 : decide (4611686018427387904 < n) = false := decide_eq_false hp
  clear hb h0 hn hp
  rcases hk with rfl
  all_goals
    go_enter Try.func32, Try.ntmps32
    go_wp2_with (first | (go_at_call 34; (with_reducible refine (deny_no 1 _).mono ?_); rintro e w1 ⟨rfl, rfl⟩))
    go_end0
    exact ⟨rfl, Below.refl _ _⟩
end
end Go.Proofs.Ytneaehimdmachaa.Rule
