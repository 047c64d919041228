import Derived.Test.YthbbnebanmpcjaaPg8
/- A page: Set. -/
namespace Go.Proofs.Ythbbnebanmpcjaa.Pg
open Go.ChangeShapes Go.WideShapes Go.ChangeAt Go.RowKit Go.IntWalk Go.Proofs.Mem
set_option linter.unusedVariables false
set_option linter.unusedSimpArgs false
/-- what gather asks -/
def GatherOk (xs : List Int) : Prop := cnt xs ≤ 40 ∧ (∀ s, s < cnt xs → off xs s + len xs s ≤ 448) ∧
  ∀ n, n < cnt xs → len xs n ≠ 0 → len xs n ≤ low (gatherTo xs (setN (splice xs (16 + 4 * cnt xs) (List.replicate (448 - (16 + 4 * cnt xs)) 0)) 14 2 448) n) ∧ low (gatherTo xs (setN (splice xs (16 + 4 * cnt xs) (List.replicate (448 - (16 + 4 * cnt xs)) 0)) 14 2 448) n) ≤ 448
/-- Set's steps: how many slots there will be; the slot taken away; gathered if there is no room ahead of the list; laid -/
def nSet (xs : List Int) (s : Nat) : Nat := max (cnt xs) (s + 1)
def aSet (xs : List Int) (s : Nat) : List Int := if len xs s = 0 then xs else emptyP xs s
def gSet (xs : List Int) (s k : Nat) : Bool := decide ((low (aSet xs s) : Int) - ((16 + 4 * nSet xs s : Nat) : Int) < k)
def bSet (xs : List Int) (s k : Nat) : List Int := if gSet xs s k = true then gatherP (aSet xs s) else aSet xs s
def cSet (xs : List Int) (s k : Nat) : List Int := setN (bSet xs s k) 12 2 ((nSet xs s : Nat) : Int)
def setP (xs : List Int) (s : Nat) (ys : List Int) : List Int := if len xs s = ys.length then splice xs (off xs s) ys else layP (cSet xs s ys.length) s ys
/-- there is room -/
def room (xs : List Int) (s k : Nat) : Prop := 16 + 4 * nSet xs s + usedTo xs (cnt xs) + k ≤ 448 + len xs s
structure SetOk (xs : List Int) (s k : Nat) : Prop where
  cnt : cnt xs ≤ 40
  fit : len xs s ≠ 0 → off xs s + len xs s ≤ 448
  gat : gSet xs s k = true → GatherOk (aSet xs s)
  low : k ≤ low (cSet xs s k) ∧ low (cSet xs s k) ≤ 448
theorem usedTo_b {xs : List Int} (hb : Bytes xs) (hl : xs.length = 448) : ∀ n, n ≤ 40 → usedTo xs n ≤ 65535 * n := fun n hn => by
  induction n with
  | zero => exact Nat.le_refl _
  | succ n ih => rw [usedTo_succ]; have := ih (by omega); have := len_le xs hb hl n (by omega); omega
theorem wrap64_sub_ (lo n : Nat) (E : Int) (hE : E = ((16 + 4 * n : Nat) : Int)) (hl : lo ≤ 65535) (hn : n ≤ 40) : wrap64 ((lo : Int) - E) = (lo : Int) - E := wrap64_in _ (by omega)
theorem set_bad (w : World) (b : Nat) (N : Int) (A : Option Addr) (k c : Nat) (h : N < 0 ∨ 40 ≤ N ∨ k < 1 ∨ 64 < k) :
    Calls Try.prog 27 #[.pointer (some ⟨b, 0, none⟩), .int .i64 N, .slice A k c] w fun e w' => e = .returned (.int .u16 91) ∧ w = w' := by
  obtain ⟨q1, hq1⟩ : ∃ q, decide (N < 0) = q := ⟨_, rfl⟩
  obtain ⟨q2, hq2⟩ : ∃ q, decide ((40 : Int) ≤ N) = q := ⟨_, rfl⟩
  obtain ⟨q3, hq3⟩ : ∃ q, decide ((k : Int) < 1) = q := ⟨_, rfl⟩
  obtain ⟨q4, hq4⟩ : ∃ q, decide ((64 : Int) < (k : Int)) = q := ⟨_, rfl⟩
  have HQ := Lib.hid (show (q1 || q2 || q3 || q4) = true by
    rw [← hq1, ← hq2, ← hq3, ← hq4]
    simp only [Bool.or_eq_true, decide_eq_true_eq]
    omega)
  clear h
  cases q1
  · cases q2
    · cases q3
      · cases q4
        · exact absurd HQ.out (by decide)
        · have h9 := of_decide_eq_true hq4
          have h8 := of_decide_eq_false hq3
          have h7 := of_decide_eq_false hq2
          have h6 := of_decide_eq_false hq1
          go_enter Try.func27, Try.ntmps27
          go_wp2
          go_ret
          exact ⟨rfl, rfl⟩
      · have h8 := of_decide_eq_true hq3
        have h7 := of_decide_eq_false hq2
        have h6 := of_decide_eq_false hq1
        go_enter Try.func27, Try.ntmps27
        go_wp2
        go_ret
        exact ⟨rfl, rfl⟩
    · have h7 := of_decide_eq_true hq2
      have h6 := of_decide_eq_false hq1
      go_enter Try.func27, Try.ntmps27
      go_wp2
      go_ret
      exact ⟨rfl, rfl⟩
  · have h6 := of_decide_eq_true hq1
    go_enter Try.func27, Try.ntmps27
    go_wp2
    go_ret
    exact ⟨rfl, rfl⟩
set_option maxRecDepth 100000 in
set_option maxHeartbeats 4000000 in
theorem set_any (w : World) (b : Nat) (xs : List Int) (h : PgAt w b xs) (hc : cnt xs ≤ 40) (s : Nat) (hs : s < 40) (ad : Addr) (k c : Nat) (hk1 : 1 ≤ k) (hk2 : k ≤ 64) (ys : List Int) (hy : Bytes ys) (hyl : ys.length = k)
    (hr : ∀ w', Fr (fun x => x = b) w w' → IR w' w'.heap.size .u8 (.slice (some ad) k c) ys) (hok : room xs s k → SetOk xs s k) (N : Int) (hN : N = s) (q : Bool) (hq : q = true ↔ room xs s k) :
    Calls Try.prog 27 #[.pointer (some ⟨b, 0, none⟩), .int .i64 N, .slice (some ad) k c] w fun e w' => e = .returned (.int .u16 (if q = true then 0 else 92)) ∧ PgAt w' b (if q = true then setP xs s ys else xs) ∧ Fr (fun x => x = b) w w' := by
  subst hN
  have CA := Lib.hid (count_any w b xs h)
  have UA := Lib.hid (used_any w b xs h hc)
  have LA := Lib.hid (length_any w b xs h s (by omega) (s : Int) rfl)
  have LW := Lib.hid (low_any)
  have HP := Lib.hid h
  have HR := Lib.hid hr
  have HY := Lib.hid hy
  have HYL := Lib.hid hyl
  have HQ := Lib.hid hq
  have HOK := Lib.hid hok
  have hub := usedTo_b h.byt h.len (cnt xs) hc
  have hlb := len_le xs h.byt h.len s (by omega)
  obtain ⟨C, hC⟩ : ∃ C, C = cnt xs := ⟨_, rfl⟩
  obtain ⟨U, hU⟩ : ∃ U, U = usedTo xs (cnt xs) := ⟨_, rfl⟩
  obtain ⟨L, hL⟩ : ∃ L, L = len xs s := ⟨_, rfl⟩
  obtain ⟨n, hn⟩ : ∃ n, n = nSet xs s := ⟨_, rfl⟩
  have hnm : n = max C (s + 1) := by rw [hn, hC]; rfl
  have HRM := Lib.hid (show room xs s k ↔ 16 + 4 * n + U + k ≤ 448 + L by rw [hn, hU, hL]; exact Iff.rfl)
  rw [← hU] at UA hub
  rw [← hC] at CA hc hub
  rw [← hL] at LA hlb
  have LE := Lib.hid (fun W => listEnd_any W n (by omega) (n : Int) rfl)
  obtain ⟨E, hE⟩ : ∃ E : Int, E = ((16 + 4 * n : Nat) : Int) := ⟨_, rfl⟩
  rw [← hE] at LE
  have HE := Lib.hid hE
  have HNN := Lib.hid hn
  have HLL := Lib.hid hL
  have h6 : ¬ (s : Int) < 0 := by omega
  have h7 : ¬ (40 : Int) ≤ (s : Int) := by omega
  have h8 : ¬ (k : Int) < 1 := by omega
  have h9 : ¬ (64 : Int) < (k : Int) := by omega
  obtain ⟨V, hV⟩ : ∃ V : Int, V = (U : Int) - (L : Int) := ⟨_, rfl⟩
  obtain ⟨R, hR⟩ : ∃ R : Int, R = E + V := ⟨_, rfl⟩
  have HRR := Lib.hid (show (448 : Int) < R + (k : Int) ↔ ¬ room xs s k by rw [HRM.out, hR, hV, hE]; omega)
  have HNM := Lib.hid hnm
  obtain ⟨wul, we1, we2, ws1⟩ : wrap64 ((U : Int) - (L : Int)) = V ∧ wrap64 (E + V) = R ∧ wrap64 (R + (k : Int)) = R + (k : Int) ∧ wrap64 ((s : Int) + 1) = (s : Int) + 1 := by
    have b1 : -9223372036854775808 ≤ (U : Int) - (L : Int) ∧ (U : Int) - (L : Int) ≤ 9223372036854775807 := by omega
    have b2 : -9223372036854775808 ≤ E + V ∧ E + V ≤ 9223372036854775807 := by omega
    have b3 : -9223372036854775808 ≤ R + (k : Int) ∧ R + (k : Int) ≤ 9223372036854775807 := by omega
    have b4 : -9223372036854775808 ≤ (s : Int) + 1 ∧ (s : Int) + 1 ≤ 9223372036854775807 := by omega
    exact ⟨by rw [hV]; exact wrap64_in _ b1, by rw [hR]; exact wrap64_in _ b2, wrap64_in _ b3, wrap64_in _ b4⟩
  clear h hr hy hyl hq hok hub hlb hC hU hL hn hnm hE hV hR
  go_enter Try.func27, Try.ntmps27
  go_upto_region 3 with fail
  go_cut [7] (fun v wx => v = .int .i64 n ∧ w = wx)
  case first =>
    by_cases hm : C ≤ s + 1
    · have hmi : (C : Int) ≤ (s : Int) + 1 := by omega
      have e9 : (n : Int) = (s : Int) + 1 := by have := HNM.out; omega
      go_wp2_with fail
      all_goals ((with_reducible refine CA.out.mono ?_); rintro e wx ⟨rfl, rfl⟩; go_wp2; all_goals (go_meet; refine ⟨congrArg (Value.int .i64) ?_, rfl⟩; have := HNM.out; omega))
    · have hmi : ¬ (C : Int) ≤ (s : Int) + 1 := by omega
      have hmj : (s : Int) + 1 ≤ (C : Int) := by omega
      have e9 : n = C := by have := HNM.out; omega
      go_wp2_with fail
      all_goals ((with_reducible refine CA.out.mono ?_); rintro e wx ⟨rfl, rfl⟩; go_wp2; all_goals (go_meet; refine ⟨congrArg (Value.int .i64) ?_, rfl⟩; have := HNM.out; omega))
  case rest =>
    obtain ⟨rfl, rfl⟩ := hcut
    go_wp2_with fail
    (with_reducible refine UA.out.mono ?_)
    rintro e wx ⟨rfl, rfl⟩
    go_wp2_with fail
    (with_reducible refine LA.out.mono ?_)
    rintro e wx ⟨rfl, rfl⟩
    cases q
    case false =>
      have hrm : (448 : Int) < R + (k : Int) := HRR.out.2 (fun hr => by have := HQ.out.2 hr; cases this)
      go_wp2_with fail
      (with_reducible refine (LE.out _).mono ?_)
      rintro e wx ⟨rfl, rfl⟩
      go_wp2
      go_ret
      exact ⟨rfl, HP.out, Fr.refl _ _⟩
    case true =>
      have hrm : ¬ (448 : Int) < R + (k : Int) := fun h1 => HRR.out.1 h1 (HQ.out.1 rfl)
      have SO := Lib.hid (HOK.out (HQ.out.1 rfl))
      go_wp2_with fail
      (with_reducible refine (LE.out _).mono ?_)
      rintro e wx ⟨rfl, rfl⟩
      go_wp2_with fail
      (with_reducible refine LA.out.mono ?_)
      rintro e wx ⟨rfl, rfl⟩
      by_cases hkl : L = k
      · subst hkl
        have hkb : ((L : Int) == (L : Int)) = true := beq_self_eq_true _
        have hl0 : len xs s ≠ 0 := by rw [← HLL.out]; omega
        have hfit := SO.out.fit hl0
        have DA := Lib.hid (data_any w b xs HP.out s (by omega) hfit (s : Int) rfl)
        rw [if_neg hl0] at DA
        rw [← HLL.out] at DA hfit
        have HSP := Lib.hid (show setP xs s ys = splice xs (off xs s) ys by unfold setP; rw [if_pos (by rw [HYL.out, ← HLL.out])])
        obtain ⟨O, hO⟩ : ∃ O, O = off xs s := ⟨_, rfl⟩
        rw [← hO] at DA hfit HSP
        clear hO hl0
        go_wp2_with (first
          | ((with_reducible refine DA.out.mono ?_); rintro e w1 ⟨rfl, d, rfl⟩; have PD := Lib.hid (HP.out.later (below_drewN (Below.refl _ _) d)); have RD := Lib.hid (HR.out (w.drewN d) ((Fr.refl (fun x => x = b) w).drewN d)))
          | (refine wpList_copy_pg _ rfl _ _ _ _ rfl 5 Try.underlying31 (by kernel_rfl) b O L (448 - O) xs PD.out rfl _ ad c L ys HYL.out rfl RD.out HY.out (Nat.le_refl _) hfit ?_
             intro w2 hp2 hf2
             have P2 := Lib.hid hp2
             have F2 := Lib.hid (show Fr (fun x => x = b) w w2 from ((Fr.refl (fun x => x = b) w).drewN _).trans hf2)
             clear hp2 hf2)
          | fail)
        go_ret
        exact ⟨rfl, by rw [HSP.out]; exact P2.out, F2.out⟩
      · have hkb : ((L : Int) == (k : Int)) = false := by rw [beq_eq_false_iff_ne]; omega
        have HSP := Lib.hid (show setP xs s ys = layP (cSet xs s k) s ys by unfold setP; rw [if_neg (by rw [HYL.out, ← HLL.out]; exact hkl), HYL.out])
        have EA := Lib.hid (fun (h0 : L ≠ 0) => empty_any w b xs HP.out s (by omega) (by rw [← HLL.out]; exact h0) (SO.out.fit (by rw [← HLL.out]; exact h0)) (s : Int) rfl)
        have HA := Lib.hid (show aSet xs s = if L = 0 then xs else emptyP xs s by rw [HLL.out]; rfl)
        obtain ⟨a1, ha1⟩ : ∃ a1, a1 = aSet xs s := ⟨_, rfl⟩
        rw [← ha1] at HA
        have HAS := Lib.hid ha1
        clear ha1
        have HN40 := Lib.hid (show n ≤ 40 by have := HNM.out; omega)
        go_wp2_with fail
        (with_reducible refine LA.out.mono ?_)
        rintro e wx ⟨rfl, rfl⟩
        go_upto_if 58 with fail
        go_cut [7] (fun v wx => v = .int .i64 n ∧ Hid (PgAt wx b a1 ∧ Fr (fun x => x = b) w wx))
        case first =>
          by_cases h0 : L = 0
          · have bl : ((L : Int) != 0) = false := by rw [h0]; rfl
            have bl2 : ((L : Int) == 0) = true := by rw [h0]; rfl
            have H1 := Lib.hid (show PgAt w b a1 by rw [HA.out, if_pos h0]; exact HP.out)
            clear EA
            go_wp2
            go_meet
            exact ⟨rfl, Lib.hid ⟨H1.out, Fr.refl _ _⟩⟩
          · have bl : ((L : Int) != 0) = true := by simp; omega
            have EB := Lib.hid (EA.out h0)
            have HAE := Lib.hid (show a1 = emptyP xs s by rw [HA.out, if_neg h0])
            clear EA
            go_wp2_with fail
            (with_reducible refine EB.out.mono ?_)
            rintro e w1 ⟨rfl, p1, f1⟩
            have P1 := Lib.hid (show PgAt w1 b a1 by rw [HAE.out]; exact p1)
            have F1 := Lib.hid f1
            clear p1 f1
            go_wp2
            go_meet
            exact ⟨rfl, Lib.hid ⟨P1.out, F1.out⟩⟩
        case rest =>
          obtain ⟨rfl, H1⟩ := hcut
          obtain ⟨w2, rfl⟩ : ∃ w2, w2 = wc := ⟨wc, rfl⟩
          have LO := Lib.hid (low_any w2 b a1 H1.out.1)
          have hlo : low a1 ≤ 65535 := by
            have := two_b H1.out.1.byt 14 (by rw [H1.out.1.len]; decide)
            unfold low; omega
          obtain ⟨lo, hlo2⟩ : ∃ lo, lo = low a1 := ⟨_, rfl⟩
          rw [← hlo2] at LO hlo
          have wlo : wrap64 ((lo : Int) - E) = (lo : Int) - E := wrap64_sub_ lo n E HE.out hlo HN40.out
          obtain ⟨X, hX⟩ : ∃ X : Int, X = (lo : Int) - E := ⟨_, rfl⟩
          rw [← hX] at wlo
          have wlo' : wrap64 ((lo : Int) - E) = X := by rw [hX] at wlo ⊢; exact wrap64_sub_ lo n E HE.out hlo HN40.out
          obtain ⟨gq, hgq⟩ : ∃ gq, decide (X < (k : Int)) = gq := ⟨_, rfl⟩
          have HGQ := Lib.hid (show gSet xs s k = gq by unfold gSet; rw [← HAS.out, ← hlo2, ← HNN.out, ← HE.out, ← hX]; exact hgq)
          obtain ⟨b1, hb1⟩ : ∃ b1, b1 = bSet xs s k := ⟨_, rfl⟩
          have HBS := Lib.hid (show b1 = if gq = true then gatherP a1 else a1 by rw [hb1]; unfold bSet; rw [HGQ.out, ← HAS.out])
          have HBB := Lib.hid hb1
          clear hlo2 hX hb1 wlo
          go_wp2_with fail
          (with_reducible refine LO.out.mono ?_)
          rintro e wx ⟨rfl, rfl⟩
          go_wp2_with fail
          (with_reducible refine (LE.out _).mono ?_)
          rintro e wx ⟨rfl, rfl⟩
          go_upto_if 69 with fail
          go_cut [7] (fun v wx => v = .int .i64 n ∧ Hid (PgAt wx b b1 ∧ Fr (fun x => x = b) w wx))
          case first =>
            cases gq
            case false =>
              have H2 := Lib.hid (show PgAt w2 b b1 by rw [HBS.out]; exact H1.out.1)
              have hx := of_decide_eq_false hgq
              go_wp2
              go_meet
              exact ⟨rfl, Lib.hid ⟨H2.out, H1.out.2⟩⟩
            case true =>
              have hx := of_decide_eq_true hgq
              have GO := Lib.hid (show GatherOk a1 by rw [HAS.out]; exact SO.out.gat HGQ.out)
              have GA := Lib.hid (gather_any w2 b a1 H1.out.1 GO.out.1 GO.out.2.1 GO.out.2.2)
              go_wp2_with fail
              (with_reducible refine GA.out.mono ?_)
              rintro e w3 ⟨rfl, p3, f3⟩
              have P3 := Lib.hid (show PgAt w3 b b1 by rw [HBS.out]; exact p3)
              have F3 := Lib.hid (H1.out.2.trans f3)
              clear p3 f3
              go_wp2
              go_meet
              exact ⟨rfl, Lib.hid ⟨P3.out, F3.out⟩⟩
          case rest =>
            obtain ⟨rfl, H3⟩ := hcut
            obtain ⟨w4, rfl⟩ : ∃ w4, w4 = wc := ⟨wc, rfl⟩
            have HC := Lib.hid (show cSet xs s k = setN b1 12 2 (n : Int) by unfold cSet; rw [← HBB.out, ← HNN.out])
            have PU := Lib.hid (put_at w4 b b1 H3.out.1 12 2 (n : Int) 12 2 rfl rfl (by have := HN40.out; omega) (by decide) (by decide) (by decide))
            have wun : IntKind.u64.wrap (n : Int) = (n : Int) := by have := HN40.out; rw [IntKind.wrap_u64]; omega
            clear hgq wlo'
            go_wp2_with fail
            (with_reducible refine PU.out.mono ?_)
            rintro e w5 ⟨rfl, p5, f5⟩
            have P5 := Lib.hid (show PgAt w5 b (cSet xs s k) by rw [HC.out]; exact p5)
            have F5 := Lib.hid (H3.out.2.trans f5)
            have LY := Lib.hid (lay_any w5 b (cSet xs s k) P5.out s (by omega) (s : Int) rfl ad c k ys HYL.out (by omega) HY.out w5.heap.size (HR.out w5 F5.out) (by rw [HYL.out]; exact SO.out.low.1) SO.out.low.2)
            clear p5 f5
            go_wp2_with fail
            (with_reducible refine LY.out.mono ?_)
            rintro e w6 ⟨rfl, p6, f6⟩
            have P6 := Lib.hid (show PgAt w6 b (setP xs s ys) by rw [HSP.out]; exact p6)
            have F6 := Lib.hid (F5.out.trans f6)
            clear p6 f6
            go_wp2
            go_ret
            exact ⟨rfl, P6.out, F6.out⟩
end Go.Proofs.Ythbbnebanmpcjaa.Pg
