import Derived.Test.YtbbphfhkedldmaaRecT
/- What is written is read. -/
namespace Go.Proofs.Ytbbphfhkedldmaa.Rec
open Go.ChangeShapes Go.WideShapes Go.ChangeAt Go.RowKit Go.IntWalk Go.Proofs.NumMath Go.Proofs.Mem Go.Proofs.CrcMath NumBytes CrcA
set_option linter.unusedVariables false
set_option linter.unusedSimpArgs false
theorem rNum_put {a : Int} {k : Nat} (hk : k ≤ 8) (ha : 0 ≤ a ∧ a < 2 ^ (8 * k)) (Y : List Int) : rNum k (putS a k ++ Y) = some (a, Y) := by
  unfold rNum
  rw [if_pos (by rw [List.length_append, putS_len]; omega), List.take_left' (putS_len a k), List.drop_left' (putS_len a k), get_put a k hk, Int.emod_eq_of_lt ha.1 ha.2]
theorem rText_put (xs Y : List Int) (h : xs.length ≤ 64) : rText (putS xs.length 1 ++ (xs ++ Y)) = some (xs, Y) := by
  unfold rText
  rw [rNum_put (by decide) (b8 (nat_b8 h))]
  simp only [Int.toNat_natCast]
  rw [if_pos (by simp), List.take_left' rfl, List.drop_left' rfl]
theorem rChg_put (c : Cg) (hc : c.Ok) (hx : c.xs.length ≤ 64) (hy : c.ys.length ≤ 64) (Y : List Int) : rChg (chgS c ++ Y) = some (c, Y) := by
  unfold rChg chgS
  simp only [List.append_assoc]
  rw [rNum_put (by decide) (b32 hc.1)]
  simp only
  rw [rNum_put (by decide) (b16 hc.2.1)]
  simp only
  rw [rNum_put (by decide) (b8 (flag_b _ _))]
  simp only
  rw [if_neg (by cases c.had <;> cases c.has <;> decide), rText_put _ _ hx]
  simp only
  rw [rText_put _ _ hy]
  simp only
  obtain ⟨pg, sl, had, has, xs, ys⟩ := c
  simp only
  cases had <;> cases has <;> rfl
theorem rAc_put (a : Ac) (ha : a.Ok) (Y : List Int) : rAc (acS a ++ Y) = some (a, Y) := by
  unfold rAc acS
  simp only [List.append_assoc]
  rw [rNum_put (by decide) (b32 ha.1)]
  simp only
  rw [rNum_put (by decide) (b64 ha.2.1)]
  simp only
  rw [rNum_put (by decide) (b64 ha.2.2.1)]
  simp only
  rw [rNum_put (by decide) (b8 ha.2.2.2)]
theorem rDt_put (a : Dt) (ha : a.Ok) (Y : List Int) : rDt (dtS a ++ Y) = some (a, Y) := by
  unfold rDt dtS
  simp only [List.append_assoc]
  rw [rNum_put (by decide) (b32 ha.1)]
  simp only
  rw [rNum_put (by decide) (b64 ha.2)]
theorem rMany_put {α : Type} {f : List Int → Option (α × List Int)} {g : α → List Int} {ok : α → Prop} (hf : ∀ a, ok a → ∀ Y, f (g a ++ Y) = some (a, Y)) : ∀ (l : List α), (∀ a ∈ l, ok a) → ∀ Y, rMany f l.length (l.flatMap g ++ Y) = some (l, Y)
  | [], _, Y => rfl
  | a :: l, h, Y => by
    rw [List.flatMap_cons, List.append_assoc, List.length_cons]
    unfold rMany
    rw [hf a (h a (List.mem_cons_self ..))]
    simp only
    rw [rMany_put hf l (fun b hb => h b (List.mem_cons_of_mem _ hb)) Y]
theorem rTab_put (ts : List Ac) (ds : List Dt) (h1 : ∀ x ∈ ts, x.Ok) (h2 : ∀ x ∈ ds, x.Ok) (l1 : ts.length ≤ 64) (l2 : ds.length ≤ 64) (Y : List Int) : rTab (tabS ts ds ++ Y) = some (ts, ds, Y) := by
  unfold rTab tabS
  simp only [List.append_assoc]
  rw [rNum_put (by decide) (b8 (nat_b8 l1))]
  simp only [Int.toNat_natCast]
  unfold acsS
  rw [rMany_put (ok := Ac.Ok) rAc_put ts h1]
  simp only
  rw [rNum_put (by decide) (b8 (nat_b8 l2))]
  simp only [Int.toNat_natCast]
  unfold dtsS
  rw [rMany_put (ok := Dt.Ok) rDt_put ds h2]
theorem rBody_put (r : Rc) (hr : r.Ok) (hm : mayS r = true) : rBody (bodyS r) = some r := by
  have la := may_lens r hm
  obtain ⟨na, ta⟩ := may_more r hm
  unfold rBody bodyS
  simp only [List.append_assoc]
  rw [rNum_put (by decide) (b8 hr.1)]
  simp only
  rw [rNum_put (by decide) (b32 hr.2.1)]
  simp only
  rw [rNum_put (by decide) (b64 hr.2.2.1)]
  simp only
  rw [rNum_put (by decide) (b64 hr.2.2.2.1)]
  simp only
  unfold rTail
  by_cases hk : r.k = 2 ∨ r.k = 3
  · have h8 : ¬ r.k = 8 := by omega
    obtain ⟨e1, e2⟩ := ta h8
    rw [if_pos hk, if_pos hk, if_neg h8, rChg_put _ hr.2.2.2.2.1 la.xs la.ys]
    simp only
    unfold rFull
    rw [show (⟨r.k, r.t, r.p, r.n, r.c, [], []⟩ : Rc) = r by rw [← e1, ← e2], hm]
    simp
  · rw [if_neg hk, if_neg hk, List.nil_append]
    by_cases h8 : r.k = 8
    · rw [if_pos h8, if_pos h8]
      have := rTab_put r.ts r.ds hr.2.2.2.2.2.1 hr.2.2.2.2.2.2 la.ts la.ds []
      rw [List.append_nil] at this
      rw [this]
      simp only
      unfold rFull
      rw [show (⟨r.k, r.t, r.p, r.n, nullC, r.ts, r.ds⟩ : Rc) = r by rw [show nullC = r.c from (na hk).symm], hm]
      simp
    · rw [if_neg h8, if_neg h8]
      obtain ⟨e1, e2⟩ := ta h8
      unfold rFull
      rw [show (⟨r.k, r.t, r.p, r.n, nullC, [], []⟩ : Rc) = r by rw [show nullC = r.c from (na hk).symm, ← e1, ← e2], hm]
      simp
theorem len_bd (r : Rc) (hm : mayS r = true) : 0 ≤ (6 + ((bodyS r).length : Int)) ∧ (6 + ((bodyS r).length : Int)) ≤ 65535 := by
  have := body_len r (may_lens r hm)
  omega
theorem rDec_put (r : Rc) (hr : r.Ok) (hm : mayS r = true) : rDec (encS r) = some r := by
  unfold rDec encS
  rw [List.append_assoc, rNum_put (by decide) (b16 (len_bd r hm))]
  simp only
  have hb := tn_bd (sumF 0#32 (bodyS r))
  rw [rNum_put (by decide) (b32 ⟨hb.1, by omega⟩)]
  simp only
  rw [if_pos trivial, rBody_put r hr hm]
end Go.Proofs.Ytbbphfhkedldmaa.Rec
