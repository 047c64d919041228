import Derived.Test.YtfkomfhnkpecfaaStk2
import Derived.Test.YtfkomfhnkpecfaaMoneyT
import Derived.Test.YtfkomfhnkpecfaaFr
/- Recipes: so many times, in place. -/
namespace Go.Proofs.Ytfkomfhnkpecfaa.Stk
open Go.ChangeShapes Go.WideShapes Go.ChangeAt Go.RowKit Go.IntWalk Go.Proofs.Mem Go.Proofs.Stk Money
set_option linter.unusedVariables false
/-- the first i elements so many times, the others as they were -/
def tto (n : Int) (l : List Pr) (i : Nat) : List Pr := times n (l.take i) ++ l.drop i
theorem tto_len (n : Int) (l : List Pr) (i : Nat) : (tto n l i).length = l.length := by simp [tto, times]; omega
theorem tto_at (n : Int) (l : List Pr) (i : Nat) (h : i < l.length) : (tto n l i).getD i (0, 0) = l.getD i (0, 0) := by
  have h1 : (times n (l.take i)).length = i := by simp [times]; omega
  simp only [tto, List.getD, List.getElem?_append_right (show (times n (l.take i)).length ≤ i by omega), h1, Nat.sub_self, List.getElem?_drop, Nat.add_zero]
theorem tto_set (n : Int) (l : List Pr) (i : Nat) (h : i < l.length) : (tto n l i).set i ((l.getD i (0, 0)).1, (l.getD i (0, 0)).2 * n) = tto n l (i + 1) := by
  have h1 : (times n (l.take i)).length = i := by simp [times]; omega
  unfold tto
  rw [List.set_append_right _ _ (by omega), h1, Nat.sub_self, List.drop_eq_getElem_cons h, List.set_cons_zero, List.take_succ_eq_append_getElem h]
  simp only [times, List.map_append, List.getD, List.getElem?_eq_getElem h, Option.getD_some, List.append_assoc]
  rfl
theorem timesS_small (a n : Int) (ha : 0 ≤ a ∧ a ≤ 10) (hn : 0 ≤ n ∧ n ≤ 1000) : timesS a n = (a * n, 0) := by
  unfold timesS
  have : a * n ≤ 10000 := by have := Int.mul_le_mul ha.2 hn.2 hn.1 (by omega); omega
  rw [if_neg (by omega)]
/-- only block g and what is new was written -/
def Only (g : Nat) (w w' : World) : Prop := Fr (fun k => k = g) w w'
set_option maxHeartbeats 4000000 in
theorem multiply_any (n : Int) (hn : 0 ≤ n ∧ n ≤ 1000) (G : Nat → Nat) (L : Nat → List Pr) (g0 : Nat) (w : World) (hG : ∀ i k, i < 2 → k < 2 → i ≠ k → G i ≠ G k) (h0 : ∀ i, i < 2 → g0 ≠ G i) (hlt0 : g0 < w.heap.size)
    (hs : ∀ i, i < 2 → small (L i)) (hc : ∀ i, i < 2 → w.cell? ⟨g0, i, none⟩ = some (.slice (some ⟨G i, 0, none⟩) (L i).length (L i).length)) (hk : ∀ i, i < 2 → KO w (G i) 41 (L i)) :
    Calls Try.prog 17 #[.int .u64 n, .slice (some ⟨g0, 0, none⟩) 2 2] w fun e w' => e = .returned (.int .u16 0) ∧ (∀ i, i < 2 → KO w' (G i) 41 (times n (L i))) ∧ Fr (fun k => ∃ i, i < 2 ∧ k = G i) w w' := by
  have HG := Lib.hid hG
  have H0 := Lib.hid h0
  have HS := Lib.hid hs
  have HC := Lib.hid hc
  have HK := Lib.hid hk
  clear hG h0 hs hc hk
  go_enter Try.func17, Try.ntmps17
  go_wp2
  go_loopw [12] (fun c wr => ∃ j : Nat, j ≤ 2 ∧ c = .int .i64 j ∧ Hid (∀ i, i < 2 → KO wr (G i) 41 (if i < j then times n (L i) else L i)) ∧ Fr (fun k => ∃ i, i < 2 ∧ k = G i) w wr) (fun c _ => 2 - (intOf c).toNat)
  case atStart => exact ⟨0, by omega, rfl, Lib.hid fun i hi => by simpa using HK.out i hi, Fr.refl _ _⟩
  case round =>
    obtain ⟨j, hj, rfl, hko, hfr⟩ := hrel
    by_cases hlt : j < 2
    · have hkj := hko.out j hlt
      rw [if_neg (by omega)] at hkj
      have hsj := HS.out j hlt
      have hcj : wr.cell? ⟨g0, j, none⟩ = some (.slice (some ⟨G j, 0, none⟩) (L j).length (L j).length) := by
        rw [← HC.out j hlt]; exact hfr.cell hlt0 (by rintro ⟨i, hi, e⟩; exact H0.out i hi e)
      have hgj := hkj.lt
      obtain ⟨g, hg⟩ : ∃ g, g = G j := ⟨_, rfl⟩
      obtain ⟨l, hl⟩ : ∃ l, l = L j := ⟨_, rfl⟩
      rw [← hg] at hkj hcj hgj
      rw [← hl] at hkj hsj hcj
      have HGj := Lib.hid hg
      have HLj := Lib.hid hl
      clear hg hl
      have hl3 := hsj.1
      have HSJ := Lib.hid hsj.2
      clear hsj
      have HKJ := Lib.hid hkj
      clear hkj
      have hdj : decide ((j : Int) < 2) = true := by simp; omega
      obtain ⟨wo, rfl⟩ : ∃ wo : World, wo = wr := ⟨_, rfl⟩
      go_wp2
      go_loopw [18] (fun c wr2 => ∃ i : Nat, i ≤ l.length ∧ c = .int .i64 i ∧ Hid (KO wr2 g 41 (tto n l i)) ∧ Hid (Fr (fun k => k = g) wo wr2)) (fun c _ => l.length - (intOf c).toNat)
      case atStart => exact ⟨0, by omega, rfl, Lib.hid (by simpa [tto, times] using HKJ.out), Lib.hid (Fr.refl _ _)⟩
      case round =>
        obtain ⟨i, hi, rfl, hko2, hfr2⟩ := hrel
        by_cases hli : i < l.length
        · have hk2 := hko2.out
          have f2 := (flat_at (tto n l i) i (by rw [tto_len]; exact hli)).2
          rw [tto_at n l i hli] at f2
          have hset := fun (w' : World) (h : KO w' g 41 (tto n l i)) => h.set_ i ((l.getD i (0, 0)).2 * n) (by rw [tto_len]; exact hli)
          rw [tto_at n l i hli, tto_set n l i hli] at hset
          have hp : l.getD i (0, 0) ∈ l := by simp [List.getD, List.getElem?_eq_getElem hli]
          have hq := HSJ.out _ hp
          clear hp
          generalize l.getD i (0, 0) = p at *
          obtain ⟨x, y⟩ := p
          dsimp only at hq f2 hset
          obtain ⟨q1, q2, q3, q4⟩ := hq
          have hcell := hk2.cell (i * 2 + 1)
          rw [f2] at hcell
          have hgl := hk2.lt
          have HSET := Lib.hid hset
          have HK2 := Lib.hid hk2
          clear hset f2 hk2 hko2
          go_wp2_with fail
          (with_reducible refine (times_any y n ⟨by omega, by omega⟩ ⟨hn.1, by omega⟩ _).mono ?_)
          rintro e w' ⟨rfl, hbt⟩
          rw [timesS_small y n ⟨by omega, by omega⟩ hn]
          have hk3 := HK2.out.below hbt hgl
          have hcell3 := (hbt.cell (p := ⟨g, i * 2 + 1, none⟩) hgl).trans hcell
          have hfz3 := hk3.frozen (i * 2 + 1)
          have hs3 := HSET.out _ hk3
          have HS3 := Lib.hid hs3
          clear hs3 hk3
          have hfr3 := Lib.hid ((hfr2.out.below hbt).setCell (p := ⟨g, i * 2 + 1, none⟩) (.inl rfl) (.int .u64 (y * n)))
          clear hcell hbt
          go_wp2
          go_roundw
          case rel => exact ⟨i + 1, by omega, by go_num, HS3, hfr3⟩
          case measure => simp [intOf]; omega
        · have e : i = l.length := by omega
          subst e
          go_wp2
          go_roundw
          case rel =>
            refine ⟨j + 1, by omega, by go_num, Lib.hid fun k hk => ?_, hfr.trans' hfr2.out fun k _ e => ⟨j, hlt, by rw [e]; exact HGj.out⟩⟩
            by_cases hkj : k = j
            · subst hkj
              rw [if_pos (by omega)]
              have := hko2.out
              rw [show tto n l l.length = times n l by simp [tto]] at this
              rw [HGj.out, HLj.out] at this
              exact this
            · have h1 := hko.out k hk
              have h2 : KO wr (G k) 41 (if k < j then times n (L k) else L k) := (hfr2.out.block _ h1.lt fun e => HG.out k j hk hlt hkj (by rw [e]; exact HGj.out)).trans h1
              by_cases hkl : k < j
              · rw [if_pos hkl] at h2; rw [if_pos (by omega)]; exact h2
              · rw [if_neg hkl] at h2; rw [if_neg (by omega)]; exact h2
          case measure => simp [intOf]; omega
    · go_wp2
      go_ret
      exact ⟨rfl, fun i hi => by have := hko.out i hi; rwa [if_pos (by omega)] at this, hfr⟩
end Go.Proofs.Ytfkomfhnkpecfaa.Stk
