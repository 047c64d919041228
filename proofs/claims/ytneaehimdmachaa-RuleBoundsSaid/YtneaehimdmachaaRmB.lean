import Derived.Test.YtneaehimdmachaaRm1
import Derived.Test.YtneaehimdmachaaRm7
import Derived.Test.YtneaehimdmachaaRm8
import Derived.Test.YtneaehimdmachaaRm9
import Derived.Test.YtneaehimdmachaaRmA
namespace Go.Proofs.Ytneaehimdmachaa.Rule
open Go.ChangeShapes Go.WideShapes Go.ChangeAt Go.RowKit Go.IntWalk Go.Proofs.Mem Go.Proofs.Each
set_option linter.unusedVariables false
set_option linter.unusedSimpArgs false
theorem bid_all (w : World) (g : Nat) (q : Ot) (v : Value) (base i : Nat) (p : Value) (l : List Pu) (seen : List Ce) (hst : St w g q v base i p l) (hs : SeenAt w g v seen) (hg : g < base) (hbase : base ≤ w.heap.size) (hl : l.length ≤ 700) (hi : i ≤ 700000) (hq : q.Ok) (hok : ∀ c ∈ seen, c.Ok) :
    Calls Try.prog 48 #[.pointer (some ⟨g, 0, none⟩)] w (Did w g q v base i p l seen (oBid q) Rp.enc) := by
  obtain ⟨c0, e0⟩ := the_cell seen i
  obtain ⟨c1, e1⟩ := the_cell seen (i + 1)
  obtain ⟨c2, e2⟩ := the_cell seen (i + 1 + 1)
  by_cases h : hi32 c0.A = q.wh
  · exact bid_own w g q v base i p l seen hst hs hg hbase hl hi hq hok (fun c hc => by rw [e0 c hc]; exact h)
  have hc : ∀ c, seen[i]? = some c → hi32 c.A ≠ q.wh := fun c hc => by rw [e0 c hc]; exact h
  by_cases h1 : q.n < c1.vA
  · exact bid_lowp w g q v base i p l seen hst hs hg hbase hl hi hq hok hc (fun c hc => by rw [e1 c hc]; exact h1)
  have hd : ∀ c, seen[i + 1]? = some c → ¬ q.n < c.vA := fun c hc => by rw [e1 c hc]; exact h1
  cases h2 : c2.is with
  | false => exact bid_none w g q v base i p l seen hst hs hg hbase hl hi hq hok hc hd (fun c hc => by rw [e2 c hc]; exact h2)
  | true =>
    have hi2 : ∀ c, seen[i + 1 + 1]? = some c → c.is = true := fun c hc => by rw [e2 c hc]; exact h2
    by_cases h3 : q.n ≤ c2.vA
    · exact bid_lowb w g q v base i p l seen hst hs hg hbase hl hi hq hok hc hd hi2 (fun c hc => by rw [e2 c hc]; exact h3)
    have hl3 : ∀ c, seen[i + 1 + 1]? = some c → ¬ q.n ≤ c.vA := fun c hc => by rw [e2 c hc]; exact h3
    by_cases h4 : lo32 c2.vB = q.wh
    · exact bid_same w g q v base i p l seen hst hs hg hbase hl hi hq hok hc hd hi2 hl3 (fun c hc => by rw [e2 c hc]; exact h4)
    · exact bid_other w g q v base i p l seen hst hs hg hbase hl hi hq hok hc hd hi2 hl3 (fun c hc => by rw [e2 c hc]; exact h4)
end Go.Proofs.Ytneaehimdmachaa.Rule
namespace Go.Proofs.Ytneaehimdmachaa.Rule
open Go.ChangeShapes Go.WideShapes Go.ChangeAt Go.RowKit Go.IntWalk Go.Proofs.Mem
set_option linter.unusedVariables false
set_option linter.unusedSimpArgs false
section
variable {w : World} {g : Nat} {wh wm wt id n pr : Int} {v : Value} {i : Int} {p : Value}
set_option maxRecDepth 100000 in
set_option maxHeartbeats 8000000 in
theorem ck_1_ok {kd : Int} (hk : kd = 1 ∨ kd = 10 ∨ kd = 13 ∨ kd = 14 ∨ kd = 17) (hb : WorkAt w g ⟨kd, wh, wm, wt, id, n, pr⟩ v i p) (h0 : wh ≠ 0) : Calls Try.prog 32 #[.pointer (some ⟨g, 0, none⟩)] w (CkQ none w) := by
  obtain ⟨c0, c1, c2, c3, c4, c5, c6, c7, c8, c9⟩ := wc_of hb
  dsimp only at c0 c1 c2 c3 c4 c5 c6
  have d0 : (wh == 0) = false := by simpa using h0
  clear hb h0
  rcases hk with rfl | rfl | rfl | rfl | rfl
  all_goals
    go_enter Try.func32, Try.ntmps32
    go_wp2_with (first | (go_at_call 34; (with_reducible refine (deny_no 1 _).mono ?_); rintro e w1 ⟨rfl, rfl⟩))
    go_end0
    exact ⟨rfl, Below.refl _ _⟩
set_option maxRecDepth 100000 in
set_option maxHeartbeats 8000000 in
theorem ck_2_n {kd : Int} (hk : kd = 2 ∨ kd = 3 ∨ kd = 4 ∨ kd = 5 ∨ kd = 6 ∨ kd = 7 ∨ kd = 8 ∨ kd = 9 ∨ kd = 15 ∨ kd = 16) (hb : WorkAt w g ⟨kd, wh, wm, wt, id, n, pr⟩ v i p) (h0 : wh ≠ 0) (hn : n = 0) : Calls Try.prog 32 #[.pointer (some ⟨g, 0, none⟩)] w (CkQ (some 1) w) := by
  obtain ⟨c0, c1, c2, c3, c4, c5, c6, c7, c8, c9⟩ := wc_of hb
  dsimp only at c0 c1 c2 c3 c4 c5 c6
  have d0 : (wh == 0) = false := by simpa using h0
  have f0 : (n == 0) = true := by simpa using hn
  clear hb h0 hn
  rcases hk with rfl | rfl | rfl | rfl | rfl | rfl | rfl | rfl | rfl | rfl
  all_goals
    go_enter Try.func32, Try.ntmps32
    go_wp2_with (first | (go_at_call 34; (with_reducible refine (deny_no 1 _).mono ?_); rintro e w1 ⟨rfl, rfl⟩) | (go_at_call 34; (with_reducible refine (deny_yes 1 _).mono ?_); rintro e w1 ⟨rfl, rfl⟩))
    exact ⟨rfl, rfl, Below.refl _ _⟩
set_option maxRecDepth 100000 in
set_option maxHeartbeats 8000000 in
theorem ck_2_ok {kd : Int} (hk : kd = 2 ∨ kd = 3 ∨ kd = 6 ∨ kd = 7) (hb : WorkAt w g ⟨kd, wh, wm, wt, id, n, pr⟩ v i p) (h0 : wh ≠ 0) (hn : n ≠ 0) : Calls Try.prog 32 #[.pointer (some ⟨g, 0, none⟩)] w (CkQ none w) := by
  obtain ⟨c0, c1, c2, c3, c4, c5, c6, c7, c8, c9⟩ := wc_of hb
  dsimp only at c0 c1 c2 c3 c4 c5 c6
  have d0 : (wh == 0) = false := by simpa using h0
  have f0 : (n == 0) = false := by simpa using hn
  clear hb h0 hn
  rcases hk with rfl | rfl | rfl | rfl
  all_goals
    go_enter Try.func32, Try.ntmps32
    go_wp2_with (first | (go_at_call 34; (with_reducible refine (deny_no 1 _).mono ?_); rintro e w1 ⟨rfl, rfl⟩))
    go_end0
    exact ⟨rfl, Below.refl _ _⟩
set_option maxRecDepth 100000 in
set_option maxHeartbeats 8000000 in
theorem ck_4_i {kd : Int} (hk : kd = 4 ∨ kd = 5 ∨ kd = 15) (hb : WorkAt w g ⟨kd, wh, wm, wt, id, n, pr⟩ v i p) (h0 : wh ≠ 0) (hn : n ≠ 0) (hi : itemB wt = false) : Calls Try.prog 32 #[.pointer (some ⟨g, 0, none⟩)] w (CkQ (some 1) w) := by
  obtain ⟨c0, c1, c2, c3, c4, c5, c6, c7, c8, c9⟩ := wc_of hb
  dsimp only at c0 c1 c2 c3 c4 c5 c6
  have d0 : (wh == 0) = false := by simpa using h0
  have f0 : (n == 0) = false := by simpa using hn
  have f1 : itemB wt = false := hi
  clear hb h0 hn hi
  rcases hk with rfl | rfl | rfl
  all_goals
    go_enter Try.func32, Try.ntmps32
    go_wp2_with (first | (go_at_call 34; (with_reducible refine (deny_no 1 _).mono ?_); rintro e w1 ⟨rfl, rfl⟩) | (go_at_call 34; (with_reducible refine (deny_yes 1 _).mono ?_); rintro e w1 ⟨rfl, rfl⟩) | (go_at_call 35; (with_reducible refine (item_any _ _).mono ?_); rintro e w1 ⟨rfl, rfl⟩))
    exact ⟨rfl, rfl, Below.refl _ _⟩
set_option maxRecDepth 100000 in
set_option maxHeartbeats 8000000 in
theorem ck_4_ok {kd : Int} (hk : kd = 4 ∨ kd = 5) (hb : WorkAt w g ⟨kd, wh, wm, wt, id, n, pr⟩ v i p) (h0 : wh ≠ 0) (hn : n ≠ 0) (hi : itemB wt = true) : Calls Try.prog 32 #[.pointer (some ⟨g, 0, none⟩)] w (CkQ none w) := by
  obtain ⟨c0, c1, c2, c3, c4, c5, c6, c7, c8, c9⟩ := wc_of hb
  dsimp only at c0 c1 c2 c3 c4 c5 c6
  have d0 : (wh == 0) = false := by simpa using h0
  have f0 : (n == 0) = false := by simpa using hn
  have f1 : itemB wt = true := hi
  clear hb h0 hn hi
  rcases hk with rfl | rfl
  all_goals
    go_enter Try.func32, Try.ntmps32
    go_wp2_with (first | (go_at_call 34; (with_reducible refine (deny_no 1 _).mono ?_); rintro e w1 ⟨rfl, rfl⟩) | (go_at_call 35; (with_reducible refine (item_any _ _).mono ?_); rintro e w1 ⟨rfl, rfl⟩))
    go_end0
    exact ⟨rfl, Below.refl _ _⟩
end
end Go.Proofs.Ytneaehimdmachaa.Rule
