/- Texts of layer 6 in one: what is read of any bytes, by the program and by the document. -/
import Derived.Test.YtbbphfhkedldmaaRecEnd1
import Derived.Test.YtbbphfhkedldmaaRecO
/- What the document's Decode takes out of bytes. -/
namespace Go.Proofs.Ytbbphfhkedldmaa.Rec
open Go.ChangeShapes Go.WideShapes Go.ChangeAt Go.RowKit Go.IntWalk Go.Proofs.NumMath Go.Proofs.Mem Go.Proofs.CrcMath NumBytes CrcA
set_option linter.unusedVariables false
set_option linter.unusedSimpArgs false
def partS (xs : List Int) (a n : Nat) : List Int := (List.range n).map fun i => xs.getD (a + i) 0
def numS (xs : List Int) (a n : Nat) : Int := getS (partS xs a n)
theorem partS_len (xs : List Int) (a n : Nat) : (partS xs a n).length = n := by simp [partS]
theorem partS_bytes {xs : List Int} (hx : Bytes xs) (a n : Nat) : Bytes (partS xs a n) := fun x hm => by
  simp only [partS, List.mem_map] at hm
  obtain ⟨i, _, rfl⟩ := hm
  exact hx.at_ _
theorem numS_bd {xs : List Int} (hx : Bytes xs) (a n : Nat) : 0 ≤ numS xs a n ∧ numS xs a n < 2 ^ (8 * n) := by
  have := Codec.get_bd _ (partS_bytes hx a n)
  rwa [partS_len] at this
theorem partS_succ (xs : List Int) (a n : Nat) : partS xs a (n + 1) = partS xs a n ++ [xs.getD (a + n) 0] := by simp [partS, List.range_succ]
theorem partS_at {xs P X Q : List Int} (a : Nat) (h : xs = P ++ (X ++ Q)) (ha : P.length = a) : partS xs a X.length = X := by
  subst h ha
  apply List.ext_getElem
  · exact partS_len _ _ _
  · intro i h1 h2
    simp only [partS, List.getElem_map, List.getElem_range, List.getD_eq_getElem?_getD]
    rw [List.getElem?_append_right (by omega), show P.length + i - P.length = i by omega, List.getElem?_append_left h2, List.getElem?_eq_getElem h2]
    rfl
theorem numS_at {xs P Q : List Int} {v : Int} {n : Nat} (a : Nat) (h : xs = P ++ (putS v n ++ Q)) (ha : P.length = a) (hn : n ≤ 8) (hv : 0 ≤ v ∧ v < 2 ^ (8 * n)) : numS xs a n = v := by
  have := partS_at a h ha
  rw [putS_len] at this
  unfold numS
  rw [this, get_put v n hn, Int.emod_eq_of_lt hv.1 hv.2]
def pChg (xs : List Int) : Cg := ⟨numS xs 27 4, numS xs 31 2, decide (numS xs 33 1 % 2 = 1), decide (numS xs 33 1 / 2 % 2 = 1), partS xs 35 (numS xs 34 1).toNat, partS xs (36 + (numS xs 34 1).toNat) (numS xs (35 + (numS xs 34 1).toNat) 1).toNat⟩
def pAc (xs : List Int) (a : Nat) : Ac := ⟨numS xs a 4, numS xs (a + 4) 8, numS xs (a + 12) 8, numS xs (a + 20) 1⟩
def pDt (xs : List Int) (a : Nat) : Dt := ⟨numS xs a 4, numS xs (a + 4) 8⟩
def nT (xs : List Int) : Nat := (numS xs 27 1).toNat
def nD (xs : List Int) : Nat := (numS xs (28 + 21 * nT xs) 1).toNat
def pTs (xs : List Int) : List Ac := (List.range (nT xs)).map fun i => pAc xs (28 + 21 * i)
def pDs (xs : List Int) : List Dt := (List.range (nD xs)).map fun i => pDt xs (29 + 21 * nT xs + 12 * i)
def pRc (xs : List Int) : Rc := ⟨numS xs 6 1, numS xs 7 4, numS xs 11 8, numS xs 19 8, if numS xs 6 1 = 2 ∨ numS xs 6 1 = 3 then pChg xs else nullC, if numS xs 6 1 = 8 then pTs xs else [], if numS xs 6 1 = 8 then pDs xs else []⟩
theorem pAc_ok {xs : List Int} (hx : Bytes xs) (a : Nat) : (pAc xs a).Ok := ⟨nb32 (numS_bd hx _ _), nb64 (numS_bd hx _ _), nb64 (numS_bd hx _ _), nb8 (numS_bd hx _ _)⟩
theorem pDt_ok {xs : List Int} (hx : Bytes xs) (a : Nat) : (pDt xs a).Ok := ⟨nb32 (numS_bd hx _ _), nb64 (numS_bd hx _ _)⟩
theorem pChg_ok {xs : List Int} (hx : Bytes xs) : (pChg xs).Ok := ⟨nb32 (numS_bd hx _ _), nb16 (numS_bd hx _ _), partS_bytes hx _ _, partS_bytes hx _ _⟩
theorem pRc_ok {xs : List Int} (hx : Bytes xs) : (pRc xs).Ok := by
  refine ⟨nb8 (numS_bd hx _ _), nb32 (numS_bd hx _ _), nb64 (numS_bd hx _ _), nb64 (numS_bd hx _ _), ?_, ?_, ?_⟩
  · unfold pRc; simp only; split
    · exact pChg_ok hx
    · exact nullC_ok
  · unfold pRc; simp only; split
    · intro a ha
      simp only [pTs, List.mem_map] at ha
      obtain ⟨i, _, rfl⟩ := ha
      exact pAc_ok hx _
    · intro a ha; exact (List.not_mem_nil ha).elim
  · unfold pRc; simp only; split
    · intro a ha
      simp only [pDs, List.mem_map] at ha
      obtain ⟨i, _, rfl⟩ := ha
      exact pDt_ok hx _
    · intro a ha; exact (List.not_mem_nil ha).elim
theorem list_at {α : Type} (l : List α) (i : Nat) (h : i < l.length) : l = l.take i ++ l[i] :: l.drop (i + 1) := by
  have := List.take_append_drop i l
  rw [List.drop_eq_getElem_cons h] at this
  exact this.symm
theorem pTs_at {xs P Q : List Int} {ts : List Ac} (h : xs = P ++ (acsS ts ++ Q)) (hP : P.length = 28) (ho : ∀ x ∈ ts, x.Ok) (i : Nat) (hi : i < ts.length) : pAc xs (28 + 21 * i) = ts[i] := by
  obtain ⟨o1, o2, o3, o4⟩ := ho _ (List.getElem_mem hi)
  have hl : (acsS (ts.take i)).length = 21 * i := by rw [acs_len, List.length_take, Nat.min_eq_left (by omega)]
  have e : acsS ts = acsS (ts.take i) ++ (acS ts[i] ++ acsS (ts.drop (i + 1))) := by
    conv => lhs; rw [list_at ts i hi]
    unfold acsS; rw [List.flatMap_append, List.flatMap_cons]
  rw [e] at h
  unfold acS at h
  simp only [List.append_assoc] at h
  have h1 : xs = (P ++ acsS (ts.take i)) ++ (putS ts[i].t 4 ++ (putS ts[i].l 8 ++ (putS ts[i].u 8 ++ (putS ts[i].s 1 ++ (acsS (ts.drop (i + 1)) ++ Q))))) := by rw [h]; simp only [List.append_assoc]
  have h2 : xs = (P ++ acsS (ts.take i) ++ putS ts[i].t 4) ++ (putS ts[i].l 8 ++ (putS ts[i].u 8 ++ (putS ts[i].s 1 ++ (acsS (ts.drop (i + 1)) ++ Q)))) := by rw [h]; simp only [List.append_assoc]
  have h3 : xs = (P ++ acsS (ts.take i) ++ putS ts[i].t 4 ++ putS ts[i].l 8) ++ (putS ts[i].u 8 ++ (putS ts[i].s 1 ++ (acsS (ts.drop (i + 1)) ++ Q))) := by rw [h]; simp only [List.append_assoc]
  have h4 : xs = (P ++ acsS (ts.take i) ++ putS ts[i].t 4 ++ putS ts[i].l 8 ++ putS ts[i].u 8) ++ (putS ts[i].s 1 ++ (acsS (ts.drop (i + 1)) ++ Q)) := by rw [h]; simp only [List.append_assoc]
  unfold pAc
  rw [numS_at _ h1 (by simp only [List.length_append, hP, hl]) (by decide) (b32 o1),
    numS_at _ h2 (by simp only [List.length_append, hP, hl, putS_len]) (by decide) (b64 o2),
    numS_at _ h3 (by simp only [List.length_append, hP, hl, putS_len]) (by decide) (b64 o3),
    numS_at _ h4 (by simp only [List.length_append, hP, hl, putS_len]) (by decide) (b8 o4)]
theorem pDs_at {xs P Q : List Int} {ds : List Dt} {B : Nat} (h : xs = P ++ (dtsS ds ++ Q)) (hP : P.length = B) (ho : ∀ x ∈ ds, x.Ok) (i : Nat) (hi : i < ds.length) : pDt xs (B + 12 * i) = ds[i] := by
  obtain ⟨o1, o2⟩ := ho _ (List.getElem_mem hi)
  have hl : (dtsS (ds.take i)).length = 12 * i := by rw [dts_len, List.length_take, Nat.min_eq_left (by omega)]
  have e : dtsS ds = dtsS (ds.take i) ++ (dtS ds[i] ++ dtsS (ds.drop (i + 1))) := by
    conv => lhs; rw [list_at ds i hi]
    unfold dtsS; rw [List.flatMap_append, List.flatMap_cons]
  rw [e] at h
  unfold dtS at h
  simp only [List.append_assoc] at h
  have h1 : xs = (P ++ dtsS (ds.take i)) ++ (putS ds[i].p 4 ++ (putS ds[i].f 8 ++ (dtsS (ds.drop (i + 1)) ++ Q))) := by rw [h]; simp only [List.append_assoc]
  have h2 : xs = (P ++ dtsS (ds.take i) ++ putS ds[i].p 4) ++ (putS ds[i].f 8 ++ (dtsS (ds.drop (i + 1)) ++ Q)) := by rw [h]; simp only [List.append_assoc]
  unfold pDt
  rw [numS_at _ h1 (by simp only [List.length_append, hP, hl]) (by decide) (b32 o1),
    numS_at _ h2 (by simp only [List.length_append, hP, hl, putS_len]) (by decide) (b64 o2)]
theorem pRc_enc (r : Rc) (hr : r.Ok) (hm : mayS r = true) : pRc (encS r) = r := by
  have la := may_lens r hm
  obtain ⟨na, ta⟩ := may_more r hm
  obtain ⟨k1, k2, k3, k4, kc, kt, kd⟩ := id hr
  obtain ⟨L, hL⟩ : ∃ L, L = putS (6 + (bodyS r).length) 2 ++ putS (tn (sumF 0#32 (bodyS r))) 4 := ⟨_, rfl⟩
  have hLl : L.length = 6 := by rw [hL]; simp [putS_len]
  obtain ⟨T, hT⟩ : ∃ T, T = (if r.k = 2 ∨ r.k = 3 then chgS r.c else []) ++ (if r.k = 8 then tabS r.ts r.ds else []) := ⟨_, rfl⟩
  have h0 : encS r = L ++ (putS r.k 1 ++ (putS r.t 4 ++ (putS r.p 8 ++ (putS r.n 8 ++ T)))) := by
    rw [hL, hT]; unfold encS; conv => lhs; rw [show bodyS r = putS r.k 1 ++ putS r.t 4 ++ putS r.p 8 ++ putS r.n 8 ++ (if r.k = 2 ∨ r.k = 3 then chgS r.c else []) ++ (if r.k = 8 then tabS r.ts r.ds else []) from rfl]
    simp only [List.append_assoc]
    rfl
  have h1 : encS r = (L ++ putS r.k 1) ++ (putS r.t 4 ++ (putS r.p 8 ++ (putS r.n 8 ++ T))) := by rw [h0]; simp only [List.append_assoc]
  have h2 : encS r = (L ++ putS r.k 1 ++ putS r.t 4) ++ (putS r.p 8 ++ (putS r.n 8 ++ T)) := by rw [h0]; simp only [List.append_assoc]
  have h3 : encS r = (L ++ putS r.k 1 ++ putS r.t 4 ++ putS r.p 8) ++ (putS r.n 8 ++ T) := by rw [h0]; simp only [List.append_assoc]
  have ek : numS (encS r) 6 1 = r.k := numS_at 6 h0 hLl (by decide) (b8 k1)
  have et : numS (encS r) 7 4 = r.t := numS_at 7 h1 (by simp [hLl, putS_len]) (by decide) (b32 k2)
  have ep : numS (encS r) 11 8 = r.p := numS_at 11 h2 (by simp [hLl, putS_len]) (by decide) (b64 k3)
  have en : numS (encS r) 19 8 = r.n := numS_at 19 h3 (by simp [hLl, putS_len]) (by decide) (b64 k4)
  obtain ⟨H, hH⟩ : ∃ H, H = L ++ putS r.k 1 ++ putS r.t 4 ++ putS r.p 8 ++ putS r.n 8 := ⟨_, rfl⟩
  have hHl : H.length = 27 := by rw [hH]; simp [hLl, putS_len]
  have h4 : encS r = H ++ T := by rw [h0, hH]; simp only [List.append_assoc]
  unfold pRc
  rw [ek, et, ep, en]
  clear h0 h1 h2 h3 ek et ep en hH hL
  obtain ⟨rk, rt, rp, rn, rc, rts, rds⟩ := r
  simp only at *
  congr 1
  · by_cases hk : rk = 2 ∨ rk = 3
    · rw [if_pos hk]
      rw [if_pos hk, if_neg (show ¬ rk = 8 by omega), List.append_nil] at hT
      obtain ⟨pg, sl, had, has, cx, cy⟩ := rc
      obtain ⟨c1, c2, c3, c4⟩ := kc
      simp only at c1 c2 c3 c4
      have lx := la.xs
      have ly := la.ys
      simp only at lx ly
      rw [hT] at h4
      unfold chgS at h4
      simp only at h4
      have g0 : encS ⟨rk, rt, rp, rn, ⟨pg, sl, had, has, cx, cy⟩, rts, rds⟩ = H ++ (putS pg 4 ++ (putS sl 2 ++ (putS (flagS had has) 1 ++ (putS cx.length 1 ++ (cx ++ (putS cy.length 1 ++ cy)))))) := by rw [h4]; simp only [List.append_assoc]
      obtain ⟨E, hE⟩ : ∃ E, E = encS ⟨rk, rt, rp, rn, ⟨pg, sl, had, has, cx, cy⟩, rts, rds⟩ := ⟨_, rfl⟩
      rw [← hE] at g0 ⊢
      have g1 : E = (H ++ putS pg 4) ++ (putS sl 2 ++ (putS (flagS had has) 1 ++ (putS cx.length 1 ++ (cx ++ (putS cy.length 1 ++ cy))))) := by rw [g0]; simp only [List.append_assoc]
      have g2 : E = (H ++ putS pg 4 ++ putS sl 2) ++ (putS (flagS had has) 1 ++ (putS cx.length 1 ++ (cx ++ (putS cy.length 1 ++ cy)))) := by rw [g0]; simp only [List.append_assoc]
      have g3 : E = (H ++ putS pg 4 ++ putS sl 2 ++ putS (flagS had has) 1) ++ (putS cx.length 1 ++ (cx ++ (putS cy.length 1 ++ cy))) := by rw [g0]; simp only [List.append_assoc]
      have g4 : E = (H ++ putS pg 4 ++ putS sl 2 ++ putS (flagS had has) 1 ++ putS cx.length 1) ++ (cx ++ (putS cy.length 1 ++ cy)) := by rw [g0]; simp only [List.append_assoc]
      have g5 : E = (H ++ putS pg 4 ++ putS sl 2 ++ putS (flagS had has) 1 ++ putS cx.length 1 ++ cx) ++ (putS cy.length 1 ++ cy) := by rw [g0]; simp only [List.append_assoc]
      have g6 : E = (H ++ putS pg 4 ++ putS sl 2 ++ putS (flagS had has) 1 ++ putS cx.length 1 ++ cx ++ putS cy.length 1) ++ (cy ++ []) := by rw [g0]; simp only [List.append_assoc, List.append_nil]
      have a0 := numS_at 27 g0 hHl (by decide) (b32 c1)
      have a1 := numS_at 31 g1 (by simp [hHl, putS_len]) (by decide) (b16 c2)
      have a2 := numS_at 33 g2 (by simp [hHl, putS_len]) (by decide) (b8 (flag_b had has))
      have a3 := numS_at 34 g3 (by simp [hHl, putS_len]) (by decide) (b8 (nat_b8 lx))
      have a4 := partS_at 35 g4 (by simp [hHl, putS_len])
      have a5 := numS_at (35 + cx.length) g5 (by simp [hHl, putS_len]; omega) (by decide) (b8 (nat_b8 ly))
      have a6 := partS_at (36 + cx.length) g6 (by simp [hHl, putS_len]; omega)
      unfold pChg
      rw [a0, a1, a2, a3, Int.toNat_natCast, a4, a5, Int.toNat_natCast, a6]
      cases had <;> cases has <;> rfl
    · rw [if_neg hk]; exact (na hk).symm
  · by_cases hk : rk = 8
    · rw [if_pos hk]
      rw [if_pos hk, if_neg (show ¬ (rk = 2 ∨ rk = 3) by omega), List.nil_append] at hT
      have lt := la.ts
      simp only at lt
      rw [hT] at h4
      unfold tabS at h4
      have g0 := h4
      obtain ⟨E, hE⟩ : ∃ E, E = encS ⟨rk, rt, rp, rn, rc, rts, rds⟩ := ⟨_, rfl⟩
      rw [← hE] at g0 ⊢
      simp only [List.append_assoc] at g0
      have g1 : E = (H ++ putS rts.length 1) ++ (acsS rts ++ (putS rds.length 1 ++ dtsS rds)) := by rw [g0]; simp only [List.append_assoc]
      have a0 := numS_at 27 g0 hHl (by decide) (b8 (nat_b8 lt))
      apply List.ext_getElem
      · simp only [pTs, List.length_map, List.length_range, nT, a0, Int.toNat_natCast]
      · intro i i1 i2
        simp only [pTs, List.getElem_map, List.getElem_range]
        exact pTs_at g1 (by simp [hHl, putS_len]) kt i i2
    · rw [if_neg hk]; exact (ta hk).1.symm
  · by_cases hk : rk = 8
    · rw [if_pos hk]
      rw [if_pos hk, if_neg (show ¬ (rk = 2 ∨ rk = 3) by omega), List.nil_append] at hT
      have lt := la.ts
      have ld := la.ds
      simp only at lt ld
      rw [hT] at h4
      unfold tabS at h4
      have g0 := h4
      obtain ⟨E, hE⟩ : ∃ E, E = encS ⟨rk, rt, rp, rn, rc, rts, rds⟩ := ⟨_, rfl⟩
      rw [← hE] at g0 ⊢
      simp only [List.append_assoc] at g0
      have g2 : E = (H ++ putS rts.length 1 ++ acsS rts) ++ (putS rds.length 1 ++ dtsS rds) := by rw [g0]; simp only [List.append_assoc]
      have g3 : E = (H ++ putS rts.length 1 ++ acsS rts ++ putS rds.length 1) ++ (dtsS rds ++ []) := by rw [g0]; simp only [List.append_assoc, List.append_nil]
      have a0 := numS_at 27 g0 hHl (by decide) (b8 (nat_b8 lt))
      have eT : nT E = rts.length := by unfold nT; rw [a0, Int.toNat_natCast]
      have a2 := numS_at (28 + 21 * rts.length) g2 (by simp [hHl, putS_len, acs_len]; omega) (by decide) (b8 (nat_b8 ld))
      apply List.ext_getElem
      · simp only [pDs, List.length_map, List.length_range, nD, eT, a2, Int.toNat_natCast]
      · intro i i1 i2
        simp only [pDs, List.getElem_map, List.getElem_range, eT]
        exact pDs_at g3 (by simp [hHl, putS_len, acs_len]; omega) kd i i2
    · rw [if_neg hk]; exact (ta hk).2.symm
/-- what the document's Decode comes to -/
def refD (xs : List Int) : Option Rc × Int :=
  if xs.length < 27 then (none, 60) else if lenB xs = 0 ∨ xs.length < lenB xs then (none, 60) else
    if mayS (pRc (xs.take (lenB xs))) = true ∧ encS (pRc (xs.take (lenB xs))) = xs.take (lenB xs) then (some (pRc (xs.take (lenB xs))), 0) else (none, 61)
theorem refD_res (xs : List Int) (hx : Bytes xs) : refD xs = resD xs := by
  rcases hz : resD xs with ⟨o, er⟩
  cases o with
  | some r =>
    obtain ⟨rfl, hr, hm, ht, hle, hln⟩ := resD_inv hz hx
    have h27 := enc_min r hm
    unfold refD
    rw [if_neg (by omega), if_neg (by omega), ht, pRc_enc r hr hm, if_pos ⟨hm, rfl⟩]
  | none =>
    unfold resD at hz
    unfold refD
    split at hz
    · rename_i h; rw [if_pos h]; exact hz
    rename_i h27
    rw [if_neg h27]
    split at hz
    · rename_i h; rw [if_pos h]; exact hz
    rename_i hl
    rw [if_neg hl]
    cases e : rDec (xs.take (lenB xs)) with
    | some r => rw [e] at hz; injection hz with h1 _; cases h1
    | none =>
      rw [e] at hz
      injection hz with _ h2
      subst h2
      rw [if_neg]
      rintro ⟨h1, h2⟩
      have := rDec_put (pRc (xs.take (lenB xs))) (pRc_ok (bytes_take hx _)) h1
      rw [h2, e] at this
      cases this
end Go.Proofs.Ytbbphfhkedldmaa.Rec

/- The document's part and number. -/
namespace Go.Proofs.Ytbbphfhkedldmaa.Rec
open Go.ChangeShapes Go.WideShapes Go.ChangeAt Go.RowKit Go.IntWalk Go.Proofs.NumMath Go.Proofs.Mem Go.Proofs.CrcMath NumBytes CrcA
set_option linter.unusedVariables false
set_option linter.unusedSimpArgs false
set_option maxHeartbeats 1600000 in
theorem part_any (v : Value) (xs : List Int) (w : World) (hv : IR w w.heap.size .u8 v xs) (at_ n : Nat) (hl : xs.length ≤ 100000) (ha : at_ ≤ 100000) (hn : n ≤ 100000) :
    Calls Try.prog 37 #[v, .int .i64 at_, .int .i64 n] w fun e w' => ∃ u, e = .returned u ∧ w'.ownsRow w.heap.size 5 1 u n ((partS xs at_ n).map (.int .u8)) ∧ Below w.heap.size w w' := by
  obtain ⟨A, c, rfl, hlc, hcm⟩ := hv.form
  unfold maxLen at hcm
  obtain ⟨i0, hi0, hz0, hz1, hz2⟩ := info_parts u8_info
  obtain ⟨L, hL⟩ : ∃ L, L = xs.length := ⟨_, rfl⟩
  rw [← hL] at hv hlc hl ⊢
  have HL := Lib.hid hL
  have HV := Lib.hid hv
  clear hL hv
  go_enter Try.func37, Try.ntmps37
  go_wp2
  go_loopw [7, 8] (fun o i wr => ∃ (j : Nat) (m : Nat), j ≤ n ∧ m = at_ + j ∧ i = .int .i64 m ∧ wr.ownsRow w.heap.size 5 1 o j ((partS xs at_ j).map (.int .u8)) ∧ Below w.heap.size w wr)
    (fun _ i _ => at_ + n - (intOf i).toNat)
  case atStart => exact ⟨0, at_, by omega, by omega, rfl, World.ownsRow_nil _ _ _ _, Below.refl _ _⟩
  case round =>
    obtain ⟨j, m, hj, hm, rfl, hown, hbel⟩ := hrel
    have HM := Lib.hid hm
    have wan : wrap64 ((at_ : Int) + (n : Int)) = (at_ : Int) + (n : Int) := wrap64_in _ (by omega)
    by_cases hlt : j < n
    · have hd1 : decide ((m : Int) < (at_ : Int) + (n : Int)) = true := by simp; omega
      have hm1 : m ≤ 200000 := by omega
      clear hm
      by_cases hin : m < L
      · have hd2 : decide ((m : Int) < (L : Int)) = true := by simp; omega
        obtain ⟨b, off, rfl, hb, hcell⟩ := IR.index ((HV.out.below hbel).more hbel.size) m hin
        obtain ⟨q, hq⟩ : ∃ q, q = xs.getD m 0 := ⟨_, rfl⟩
        rw [← hq] at hcell
        have HQ := Lib.hid hq
        clear hq
        go_wp2_with (at_builtin; refine wpList_push _ rfl _ _ _ rfl w.heap.size 5 i0 .u8 1 Try.underlying25 hi0 hz0 hz1 hz2 _ j (partS xs at_ j) rfl (hown.alloc _) wr.heap.size q rfl (cell_new _ _ _ 0) (by simp only [maxLen]; omega) (by omega) (by have := hbel.size; simp; omega) ?_; intro v1 w1 hown1 hb1)
        rw [HQ.out, HM.out, ← partS_succ] at hown1
        go_roundw
        case rel => exact ⟨j + 1, m + 1, by omega, by have := HM.out; omega, by go_num, hown1, (hbel.alloc hbel.size _).trans hb1⟩
        case measure => simp [intOf]; have := HM.out; omega
      · have hd2 : decide ((m : Int) < (L : Int)) = false := by simp; omega
        have hq : xs.getD (at_ + j) 0 = 0 := by rw [List.getD_eq_getElem?_getD, List.getElem?_eq_none (by have := HL.out; have := HM.out; omega)]; rfl
        have HQ := Lib.hid hq
        clear hq
        go_wp2_with (at_builtin; refine wpList_push _ rfl _ _ _ rfl w.heap.size 5 i0 .u8 1 Try.underlying25 hi0 hz0 hz1 hz2 _ j (partS xs at_ j) rfl (hown.alloc _) wr.heap.size 0 rfl (cell_new _ _ _ 0) (by simp only [maxLen]; omega) (by omega) (by have := hbel.size; simp; omega) ?_; intro v1 w1 hown1 hb1)
        rw [← HQ.out, ← partS_succ] at hown1
        go_roundw
        case rel => exact ⟨j + 1, m + 1, by omega, by have := HM.out; omega, by go_num, hown1, (hbel.alloc hbel.size _).trans hb1⟩
        case measure => simp [intOf]; have := HM.out; omega
    · have hd1 : decide ((m : Int) < (at_ : Int) + (n : Int)) = false := by simp; omega
      have hjn : j = n := by omega
      subst hjn
      go_wp2
      go_ret
      exact ⟨_, rfl, hown, hbel⟩
theorem numref_any (v : Value) (xs : List Int) (w : World) (hv : IR w w.heap.size .u8 v xs) (hx : Bytes xs) (at_ n : Nat) (hl : xs.length ≤ 100000) (ha : at_ ≤ 100000) (hn : n ≤ 100000) :
    Calls Try.prog 36 #[v, .int .i64 at_, .int .i64 n] w fun e w' => e = .returned (.int .u64 (numS xs at_ n)) ∧ Below w.heap.size w w' := by
  obtain ⟨A, c, rfl, hlc, hcm⟩ := hv.form
  go_enter Try.func36, Try.ntmps36
  go_wp2_with fail
  (with_reducible refine (part_any _ xs w hv at_ n hl ha hn).mono ?_)
  rintro e w1 ⟨u, rfl, hu, hb⟩
  have hlen := partS_len xs at_ n
  have hu' : w1.ownsRow w.heap.size 5 1 u (partS xs at_ n).length ((partS xs at_ n).map (.int .u8)) := by rw [hlen]; exact hu
  have HI := Lib.hid (IR.of_own hu')
  have HB := Lib.hid hb
  clear hu hu' hb hlen
  go_wp2_with fail
  (with_reducible refine (get_ref _ _ _ _ HI.out (partS_bytes hx _ _)).mono ?_)
  rintro e w2 ⟨rfl, d, rfl⟩
  go_wp2
  go_ret
  exact ⟨rfl, below_drewN HB.out d⟩
theorem numref_at (v : Value) (xs : List Int) (w : World) (hv : IR w w.heap.size .u8 v xs) (hx : Bytes xs) (A N : Int) (at_ n : Nat) (hA : A = at_) (hN : N = n) (hl : xs.length ≤ 100000) (ha : at_ ≤ 100000) (hn : n ≤ 100000) (z : Int) (hz : z = numS xs at_ n) :
    Calls Try.prog 36 #[v, .int .i64 A, .int .i64 N] w fun e w' => e = .returned (.int .u64 z) ∧ Below w.heap.size w w' := by
  subst hA hN hz; exact numref_any v xs w hv hx at_ n hl ha hn
theorem partref_at (v : Value) (xs : List Int) (w : World) (hv : IR w w.heap.size .u8 v xs) (A N : Int) (at_ n : Nat) (hA : A = at_) (hN : N = n) (hl : xs.length ≤ 100000) (ha : at_ ≤ 100000) (hn : n ≤ 100000) :
    Calls Try.prog 37 #[v, .int .i64 A, .int .i64 N] w fun e w' => ∃ u, e = .returned u ∧ w'.ownsRow w.heap.size 5 1 u n ((partS xs at_ n).map (.int .u8)) ∧ Below w.heap.size w w' := by
  subst hA hN; exact part_any v xs w hv at_ n hl ha hn
theorem partS_take (xs : List Int) (k : Nat) (h : k ≤ xs.length) : partS xs 0 k = xs.take k := by
  have := partS_at (P := []) (X := xs.take k) (Q := xs.drop k) (xs := xs) 0 (by simp) rfl
  rwa [List.length_take, Nat.min_eq_left h] at this
/-- what the document's Decode comes to -/
def RefPost (w : World) (xs : List Int) (e : Ending) (w' : World) : Prop :=
  match resD xs with
  | (none, er) => e = .returned (.tuple #[.agg (bareC 0 0 0 0), .int .i64 0, .int .i64 er]) ∧ Below w.heap.size w w'
  | (some r, _) => ∃ a b ta da, e = .returned (.tuple #[.agg (rcV r a b ta da), .int .i64 (lenB xs), .int .i64 0]) ∧ RcIn w' w'.heap.size r a b ta da ∧ Below w.heap.size w w'
theorem RefPost.no {w w' : World} {xs : List Int} {er : Int} (h : resD xs = (none, er)) (hb : Below w.heap.size w w') : RefPost w xs (.returned (.tuple #[.agg (bareC 0 0 0 0), .int .i64 0, .int .i64 er])) w' := by
  unfold RefPost; rw [h]; exact ⟨rfl, hb⟩
theorem RefPost.yes {w w' : World} {xs : List Int} {r : Rc} {a b ta da : Value} (h : resD xs = (some r, 0)) (hi : RcIn w' w'.heap.size r a b ta da) (hb : Below w.heap.size w w') : RefPost w xs (.returned (.tuple #[.agg (rcV r a b ta da), .int .i64 (lenB xs), .int .i64 0])) w' := by
  unfold RefPost; rw [h]; exact ⟨a, b, ta, da, rfl, hi, hb⟩
theorem str_ne {xs ys : List Int} (hx : Bytes xs) (hy : Bytes ys) (q : Bool) (hq : q = decide (xs = ys)) : ((strOfNums xs).toList == (strOfNums ys).toList) = q := by
  rw [hq, str_eq hx hy]
end Go.Proofs.Ytbbphfhkedldmaa.Rec

/- The document's Decode: short ones, and those that are neither changes nor tables. -/
namespace Go.Proofs.Ytbbphfhkedldmaa.Rec
open Go.ChangeShapes Go.WideShapes Go.ChangeAt Go.RowKit Go.IntWalk Go.Proofs.NumMath Go.Proofs.Mem Go.Proofs.CrcMath NumBytes CrcA
set_option linter.unusedVariables false
set_option linter.unusedSimpArgs false
set_option maxRecDepth 100000 in
set_option maxHeartbeats 8000000 in
theorem decref_short (w : World) (v : Value) (xs : List Int) (hv : IR w w.heap.size .u8 v xs) (hx : Bytes xs) (hxl : xs.length ≤ 100000) (hbad : xs.length < 27 ∨ lenB xs = 0 ∨ xs.length < lenB xs) :
    Calls Try.prog 17 #[v] w (RefPost w xs) := by
  obtain ⟨A, c, rfl, hlc, hcm⟩ := hv.form
  unfold maxLen at hcm
  obtain ⟨L, hL⟩ : ∃ L, L = xs.length := ⟨_, rfl⟩
  have HN := Lib.hid (show resD xs = (none, 60) by
    unfold resD
    by_cases h : xs.length < 27
    · rw [if_pos h]
    · rw [if_neg h, if_pos (hbad.resolve_left h)])
  have hb2 := numS_bd hx 0 2
  rw [show (2 : Int) ^ (8 * 2) = 65536 from rfl] at hb2
  obtain ⟨K, hK⟩ : ∃ K : Nat, (K : Int) = numS xs 0 2 := ⟨(numS xs 0 2).toNat, by omega⟩
  have hKl : 27 ≤ xs.length → lenB xs = K := fun h => by
    unfold lenB; rw [← partS_take xs 2 (by omega)]; show (numS xs 0 2).toNat = K; rw [← hK]; rfl
  have hq : xs.length < 27 ∨ K = 0 ∨ xs.length < K := by
    by_cases h : xs.length < 27
    · exact .inl h
    · have := hKl (by omega); rw [this] at hbad; omega
  rw [← hL] at hv hlc hq ⊢
  have N1 := Lib.hid (numref_at _ xs (w.alloc (.cells (bareC 0 0 0 0) 31)) ((hv.alloc (Nat.le_refl _) _).more (by simp)) hx 0 2 0 2 rfl rfl hxl (by omega) (by omega) K hK)
  have wk : IntKind.i64.wrap (K : Int) = (K : Int) := IntWalk.i64_in _ (by omega)
  have BR0 := Lib.hid (Box.new w (bareC 0 0 0 0) 31)
  obtain ⟨q1, hq1⟩ : ∃ q, q = decide (L < 27) := ⟨_, rfl⟩
  obtain ⟨q2, hq2⟩ : ∃ q, q = decide (K = 0) := ⟨_, rfl⟩
  obtain ⟨q3, hq3⟩ : ∃ q, q = decide (L < K) := ⟨_, rfl⟩
  have d1 : decide ((L : Int) < 27) = q1 := by rw [hq1, decide_eq_decide]; omega
  have d2 : ((K : Int) == 0) = q2 := by rw [hq2, beq_zero]
  have d3 : decide ((L : Int) < (K : Int)) = q3 := by rw [hq3, decide_eq_decide]; omega
  have d3' : decide (L < K) = q3 := hq3.symm
  have HQ := Lib.hid (show (q1 || (q2 || q3)) = true by rw [hq1, hq2, hq3]; simpa using hq)
  clear hv hK hKl hq hbad hb2 hxl hL hq1 hq2 hq3
  go_enter Try.func17, Try.ntmps17
  go_wp2_with fail
  (with_reducible refine N1.out.mono ?_)
  rintro e w1 ⟨rfl, hb1⟩
  have BR1 := Lib.hid (BR0.out.later hb1)
  have HW1 := Lib.hid ((new_ (Below.refl w.heap.size w) (.cells (bareC 0 0 0 0) 31)).trans (hb1.mono (by simp)))
  have kR := BR1.out.cell
  have fR := BR1.out.frozen
  clear hb1
  cases q1
  · cases q2
    · cases q3
      · have := HQ.out; simp at this
      · go_wp2
        have b9 := Box.set_ (Box.set_ (Box.set_ (Box.set_ (Box.set_ (Box.set_ (Box.set_ (Box.set_ (Box.set_ (Box.set_ (Box.set_ (Box.set_ (BR1.out) 0 (.int .u8 0)) 1 (.int .u32 0)) 2 (.int .u64 0)) 3 (.int .u64 0)) 4 (.int .u32 0)) 5 (.int .u16 0)) 6 (.bool false)) 7 (.bool false)) 8 (.slice none 0 0)) 9 (.slice none 0 0)) 10 (.slice none 0 0)) 11 (.slice none 0 0)
        have h9 := Below.setCell (Below.setCell (Below.setCell (Below.setCell (Below.setCell (Below.setCell (Below.setCell (Below.setCell (Below.setCell (Below.setCell (Below.setCell (Below.setCell (HW1.out) (p := ⟨w.heap.size, 0, none⟩) (Nat.le_refl _) (.int .u8 0)) (p := ⟨w.heap.size, 1, none⟩) (Nat.le_refl _) (.int .u32 0)) (p := ⟨w.heap.size, 2, none⟩) (Nat.le_refl _) (.int .u64 0)) (p := ⟨w.heap.size, 3, none⟩) (Nat.le_refl _) (.int .u64 0)) (p := ⟨w.heap.size, 4, none⟩) (Nat.le_refl _) (.int .u32 0)) (p := ⟨w.heap.size, 5, none⟩) (Nat.le_refl _) (.int .u16 0)) (p := ⟨w.heap.size, 6, none⟩) (Nat.le_refl _) (.bool false)) (p := ⟨w.heap.size, 7, none⟩) (Nat.le_refl _) (.bool false)) (p := ⟨w.heap.size, 8, none⟩) (Nat.le_refl _) (.slice none 0 0)) (p := ⟨w.heap.size, 9, none⟩) (Nat.le_refl _) (.slice none 0 0)) (p := ⟨w.heap.size, 10, none⟩) (Nat.le_refl _) (.slice none 0 0)) (p := ⟨w.heap.size, 11, none⟩) (Nat.le_refl _) (.slice none 0 0)
        simp only [List.setIfInBounds_toArray, List.set_cons_zero, List.set_cons_succ] at b9
        generalize hW : (World.setCell _ (⟨w.heap.size, 11, none⟩ : Addr) _) = W9 at b9 h9 ⊢
        clear hW
        have b_0 : W9.cell? ⟨w.heap.size, 0, none⟩ = some (.int .u8 0) := b9.cell 0
        have b_1 : W9.cell? ⟨w.heap.size, 1, none⟩ = some (.int .u32 0) := b9.cell 1
        have b_2 : W9.cell? ⟨w.heap.size, 2, none⟩ = some (.int .u64 0) := b9.cell 2
        have b_3 : W9.cell? ⟨w.heap.size, 3, none⟩ = some (.int .u64 0) := b9.cell 3
        have b_4 : W9.cell? ⟨w.heap.size, 4, none⟩ = some (.int .u32 0) := b9.cell 4
        have b_5 : W9.cell? ⟨w.heap.size, 5, none⟩ = some (.int .u16 0) := b9.cell 5
        have b_6 : W9.cell? ⟨w.heap.size, 6, none⟩ = some (.bool false) := b9.cell 6
        have b_7 : W9.cell? ⟨w.heap.size, 7, none⟩ = some (.bool false) := b9.cell 7
        have b_8 : W9.cell? ⟨w.heap.size, 8, none⟩ = some (.slice none 0 0) := b9.cell 8
        have b_9 : W9.cell? ⟨w.heap.size, 9, none⟩ = some (.slice none 0 0) := b9.cell 9
        have b_10 : W9.cell? ⟨w.heap.size, 10, none⟩ = some (.slice none 0 0) := b9.cell 10
        have b_11 : W9.cell? ⟨w.heap.size, 11, none⟩ = some (.slice none 0 0) := b9.cell 11
        refine bodyPost_ret (v := .tuple #[.agg (bareC 0 0 0 0), .int .i64 0, .int .i64 60]) (by simp [results, Try.results17, go_sem, rcV, bareC, b_0, b_1, b_2, b_3, b_4, b_5, b_6, b_7, b_8, b_9, b_10, b_11]) rfl ?_
        exact RefPost.no HN.out h9
    · go_wp2
      have b9 := Box.set_ (Box.set_ (Box.set_ (Box.set_ (Box.set_ (Box.set_ (Box.set_ (Box.set_ (Box.set_ (Box.set_ (Box.set_ (Box.set_ (BR1.out) 0 (.int .u8 0)) 1 (.int .u32 0)) 2 (.int .u64 0)) 3 (.int .u64 0)) 4 (.int .u32 0)) 5 (.int .u16 0)) 6 (.bool false)) 7 (.bool false)) 8 (.slice none 0 0)) 9 (.slice none 0 0)) 10 (.slice none 0 0)) 11 (.slice none 0 0)
      have h9 := Below.setCell (Below.setCell (Below.setCell (Below.setCell (Below.setCell (Below.setCell (Below.setCell (Below.setCell (Below.setCell (Below.setCell (Below.setCell (Below.setCell (HW1.out) (p := ⟨w.heap.size, 0, none⟩) (Nat.le_refl _) (.int .u8 0)) (p := ⟨w.heap.size, 1, none⟩) (Nat.le_refl _) (.int .u32 0)) (p := ⟨w.heap.size, 2, none⟩) (Nat.le_refl _) (.int .u64 0)) (p := ⟨w.heap.size, 3, none⟩) (Nat.le_refl _) (.int .u64 0)) (p := ⟨w.heap.size, 4, none⟩) (Nat.le_refl _) (.int .u32 0)) (p := ⟨w.heap.size, 5, none⟩) (Nat.le_refl _) (.int .u16 0)) (p := ⟨w.heap.size, 6, none⟩) (Nat.le_refl _) (.bool false)) (p := ⟨w.heap.size, 7, none⟩) (Nat.le_refl _) (.bool false)) (p := ⟨w.heap.size, 8, none⟩) (Nat.le_refl _) (.slice none 0 0)) (p := ⟨w.heap.size, 9, none⟩) (Nat.le_refl _) (.slice none 0 0)) (p := ⟨w.heap.size, 10, none⟩) (Nat.le_refl _) (.slice none 0 0)) (p := ⟨w.heap.size, 11, none⟩) (Nat.le_refl _) (.slice none 0 0)
      simp only [List.setIfInBounds_toArray, List.set_cons_zero, List.set_cons_succ] at b9
      generalize hW : (World.setCell _ (⟨w.heap.size, 11, none⟩ : Addr) _) = W9 at b9 h9 ⊢
      clear hW
      have b_0 : W9.cell? ⟨w.heap.size, 0, none⟩ = some (.int .u8 0) := b9.cell 0
      have b_1 : W9.cell? ⟨w.heap.size, 1, none⟩ = some (.int .u32 0) := b9.cell 1
      have b_2 : W9.cell? ⟨w.heap.size, 2, none⟩ = some (.int .u64 0) := b9.cell 2
      have b_3 : W9.cell? ⟨w.heap.size, 3, none⟩ = some (.int .u64 0) := b9.cell 3
      have b_4 : W9.cell? ⟨w.heap.size, 4, none⟩ = some (.int .u32 0) := b9.cell 4
      have b_5 : W9.cell? ⟨w.heap.size, 5, none⟩ = some (.int .u16 0) := b9.cell 5
      have b_6 : W9.cell? ⟨w.heap.size, 6, none⟩ = some (.bool false) := b9.cell 6
      have b_7 : W9.cell? ⟨w.heap.size, 7, none⟩ = some (.bool false) := b9.cell 7
      have b_8 : W9.cell? ⟨w.heap.size, 8, none⟩ = some (.slice none 0 0) := b9.cell 8
      have b_9 : W9.cell? ⟨w.heap.size, 9, none⟩ = some (.slice none 0 0) := b9.cell 9
      have b_10 : W9.cell? ⟨w.heap.size, 10, none⟩ = some (.slice none 0 0) := b9.cell 10
      have b_11 : W9.cell? ⟨w.heap.size, 11, none⟩ = some (.slice none 0 0) := b9.cell 11
      refine bodyPost_ret (v := .tuple #[.agg (bareC 0 0 0 0), .int .i64 0, .int .i64 60]) (by simp [results, Try.results17, go_sem, rcV, bareC, b_0, b_1, b_2, b_3, b_4, b_5, b_6, b_7, b_8, b_9, b_10, b_11]) rfl ?_
      exact RefPost.no HN.out h9
  · go_wp2
    have b9 := Box.set_ (Box.set_ (Box.set_ (Box.set_ (Box.set_ (Box.set_ (Box.set_ (Box.set_ (Box.set_ (Box.set_ (Box.set_ (Box.set_ (BR1.out) 0 (.int .u8 0)) 1 (.int .u32 0)) 2 (.int .u64 0)) 3 (.int .u64 0)) 4 (.int .u32 0)) 5 (.int .u16 0)) 6 (.bool false)) 7 (.bool false)) 8 (.slice none 0 0)) 9 (.slice none 0 0)) 10 (.slice none 0 0)) 11 (.slice none 0 0)
    have h9 := Below.setCell (Below.setCell (Below.setCell (Below.setCell (Below.setCell (Below.setCell (Below.setCell (Below.setCell (Below.setCell (Below.setCell (Below.setCell (Below.setCell (HW1.out) (p := ⟨w.heap.size, 0, none⟩) (Nat.le_refl _) (.int .u8 0)) (p := ⟨w.heap.size, 1, none⟩) (Nat.le_refl _) (.int .u32 0)) (p := ⟨w.heap.size, 2, none⟩) (Nat.le_refl _) (.int .u64 0)) (p := ⟨w.heap.size, 3, none⟩) (Nat.le_refl _) (.int .u64 0)) (p := ⟨w.heap.size, 4, none⟩) (Nat.le_refl _) (.int .u32 0)) (p := ⟨w.heap.size, 5, none⟩) (Nat.le_refl _) (.int .u16 0)) (p := ⟨w.heap.size, 6, none⟩) (Nat.le_refl _) (.bool false)) (p := ⟨w.heap.size, 7, none⟩) (Nat.le_refl _) (.bool false)) (p := ⟨w.heap.size, 8, none⟩) (Nat.le_refl _) (.slice none 0 0)) (p := ⟨w.heap.size, 9, none⟩) (Nat.le_refl _) (.slice none 0 0)) (p := ⟨w.heap.size, 10, none⟩) (Nat.le_refl _) (.slice none 0 0)) (p := ⟨w.heap.size, 11, none⟩) (Nat.le_refl _) (.slice none 0 0)
    simp only [List.setIfInBounds_toArray, List.set_cons_zero, List.set_cons_succ] at b9
    generalize hW : (World.setCell _ (⟨w.heap.size, 11, none⟩ : Addr) _) = W9 at b9 h9 ⊢
    clear hW
    have b_0 : W9.cell? ⟨w.heap.size, 0, none⟩ = some (.int .u8 0) := b9.cell 0
    have b_1 : W9.cell? ⟨w.heap.size, 1, none⟩ = some (.int .u32 0) := b9.cell 1
    have b_2 : W9.cell? ⟨w.heap.size, 2, none⟩ = some (.int .u64 0) := b9.cell 2
    have b_3 : W9.cell? ⟨w.heap.size, 3, none⟩ = some (.int .u64 0) := b9.cell 3
    have b_4 : W9.cell? ⟨w.heap.size, 4, none⟩ = some (.int .u32 0) := b9.cell 4
    have b_5 : W9.cell? ⟨w.heap.size, 5, none⟩ = some (.int .u16 0) := b9.cell 5
    have b_6 : W9.cell? ⟨w.heap.size, 6, none⟩ = some (.bool false) := b9.cell 6
    have b_7 : W9.cell? ⟨w.heap.size, 7, none⟩ = some (.bool false) := b9.cell 7
    have b_8 : W9.cell? ⟨w.heap.size, 8, none⟩ = some (.slice none 0 0) := b9.cell 8
    have b_9 : W9.cell? ⟨w.heap.size, 9, none⟩ = some (.slice none 0 0) := b9.cell 9
    have b_10 : W9.cell? ⟨w.heap.size, 10, none⟩ = some (.slice none 0 0) := b9.cell 10
    have b_11 : W9.cell? ⟨w.heap.size, 11, none⟩ = some (.slice none 0 0) := b9.cell 11
    refine bodyPost_ret (v := .tuple #[.agg (bareC 0 0 0 0), .int .i64 0, .int .i64 60]) (by simp [results, Try.results17, go_sem, rcV, bareC, b_0, b_1, b_2, b_3, b_4, b_5, b_6, b_7, b_8, b_9, b_10, b_11]) rfl ?_
    exact RefPost.no HN.out h9
set_option maxRecDepth 100000 in
set_option maxHeartbeats 32000000 in
theorem decref_plain (w : World) (v : Value) (xs : List Int) (hv : IR w w.heap.size .u8 v xs) (hx : Bytes xs) (hxl : xs.length ≤ 100000) (h27 : 27 ≤ xs.length) (h0 : lenB xs ≠ 0) (hle : lenB xs ≤ xs.length) (hk : ¬ (numS (xs.take (lenB xs)) 6 1 = 2 ∨ numS (xs.take (lenB xs)) 6 1 = 3) ∧ ¬ numS (xs.take (lenB xs)) 6 1 = 8) :
    Calls Try.prog 17 #[v] w (RefPost w xs) := by
  obtain ⟨A, c, rfl, hlc, hcm⟩ := hv.form
  unfold maxLen at hcm
  obtain ⟨L, hL⟩ : ∃ L, L = xs.length := ⟨_, rfl⟩
  have hb2 := numS_bd hx 0 2
  rw [show (2 : Int) ^ (8 * 2) = 65536 from rfl] at hb2
  obtain ⟨K, hK⟩ : ∃ K : Nat, (K : Int) = numS xs 0 2 := ⟨(numS xs 0 2).toNat, by omega⟩
  have hKl : lenB xs = K := by
    unfold lenB; rw [← partS_take xs 2 (by omega)]; show (numS xs 0 2).toNat = K; rw [← hK]; rfl
  obtain ⟨ys, hys⟩ : ∃ ys, ys = xs.take K := ⟨_, rfl⟩
  rw [hKl, ← hys] at hk
  have hyb : Bytes ys := by rw [hys]; exact bytes_take hx K
  have hyl : ys.length = K := by rw [hys, List.length_take]; omega
  have HRES := Lib.hid (show resD xs = if mayS (pRc ys) = true ∧ encS (pRc ys) = ys then (some (pRc ys), 0) else (none, 61) by
    rw [← refD_res xs hx]; unfold refD; rw [if_neg (by omega), if_neg (by omega), hKl, ← hys])
  have hvy : IR w w.heap.size .u8 (.slice A K c) ys := by rw [hys]; rw [← hL] at hv; exact hv.take (by omega)
  have N1 := Lib.hid (numref_at _ xs (w.alloc (.cells (bareC 0 0 0 0) 31)) ((hv.alloc (Nat.le_refl _) _).more (by simp)) hx 0 2 0 2 rfl rfl hxl (by omega) (by omega) K hK)
  rw [← hL] at N1 ⊢
  have NB := Lib.hid (fun W (h : Below w.heap.size w W) => numref_at (.slice A K c) ys W ((hvy.below h).more h.size) hyb)
  have PB := Lib.hid (fun W (h : Below w.heap.size w W) => partref_at (.slice A K c) ys W ((hvy.below h).more h.size))
  have TY := Lib.hid (fun W (h : Below w.heap.size w W) => (hvy.below h).text (P := Try.prog) (dst := 9) Try.underlying25 Try.underlying5 Try.underlying9)
  have HYL := Lib.hid hyl
  have HYB := Lib.hid hyb
  have b1 := nb8 (numS_bd hyb 6 1)
  have b4 := nb32 (numS_bd hyb 7 4)
  have b8a := nb64 (numS_bd hyb 11 8)
  have b8b := nb64 (numS_bd hyb 19 8)
  have hkk : 27 ≤ L := by omega
  have hKL : K ≤ L := by omega
  have hK0 : K ≠ 0 := by omega
  have hK1 : K ≤ 100000 := by omega
  obtain ⟨k, ek⟩ : ∃ k, k = numS ys 6 1 := ⟨_, rfl⟩
  obtain ⟨t, et⟩ : ∃ k, k = numS ys 7 4 := ⟨_, rfl⟩
  obtain ⟨p, ep⟩ : ∃ k, k = numS ys 11 8 := ⟨_, rfl⟩
  obtain ⟨n, en⟩ : ∃ k, k = numS ys 19 8 := ⟨_, rfl⟩
  have EK := Lib.hid ek
  have ET := Lib.hid et
  have EP := Lib.hid ep
  have EN := Lib.hid en
  rw [← ek] at b1 hk
  rw [← et] at b4
  rw [← ep] at b8a
  rw [← en] at b8b
  have wk0 : IntKind.i64.wrap (K : Int) = (K : Int) := IntWalk.i64_in _ (by omega)
  have wk : IntKind.u8.wrap k = k := u8_wrap' b1.1 b1.2
  have wt : IntKind.u32.wrap t = t := u32_wrap b4.1 b4.2
  have d1 : decide ((L : Int) < 27) = false := by simp; omega
  have d2 : ((K : Int) == 0) = false := by rw [beq_zero]; simp; omega
  have d3 : decide ((L : Int) < (K : Int)) = false := by simp; omega
  have d3' : decide (L < K) = false := by simp; omega
  have b1' : (0 : Int) ≤ (K : Int) := by omega
  have b2' : (K : Int) ≤ (c : Int) := by omega
  have KL := Lib.hid hKl
  have BR0 := Lib.hid (Box.new w (bareC 0 0 0 0) 31)
  clear hv hvy hK hKl hb2 hxl hL hyl hyb hys ek et ep en h27 h0 hle hx
  go_enter Try.func17, Try.ntmps17
  go_wp2_with fail
  (with_reducible refine N1.out.mono ?_)
  rintro e w1 ⟨rfl, hb1⟩
  have BR1 := Lib.hid (BR0.out.later hb1)
  have HW1 := Lib.hid ((new_ (Below.refl w.heap.size w) (.cells (bareC 0 0 0 0) 31)).trans (hb1.mono (by simp)))
  have HG1 := Lib.hid (show w.heap.size + 1 ≤ w1.heap.size by have := hb1.size; rw [World.size_alloc] at this; exact this)
  clear hb1
  go_wp2_with fail
  (with_reducible refine (NB.out _ HW1.out (6 : Int) (1 : Int) 6 1 rfl rfl (by have := HYL.out; omega) (by omega) (by omega) _ EK.out).mono ?_)
  rintro e w2 ⟨rfl, hb2⟩
  have BR2 := Lib.hid (BR1.out.later hb2)
  have HW2 := Lib.hid (step_ HW1.out hb2)
  have HG2 := Lib.hid (Nat.le_trans HG1.out hb2.size)
  clear hb2
  go_wp2_with fail
  (with_reducible refine (NB.out _ HW2.out (7 : Int) (4 : Int) 7 4 rfl rfl (by have := HYL.out; omega) (by omega) (by omega) _ ET.out).mono ?_)
  rintro e w3 ⟨rfl, hb3⟩
  have BR3 := Lib.hid (BR2.out.later hb3)
  have HW3 := Lib.hid (step_ HW2.out hb3)
  have HG3 := Lib.hid (Nat.le_trans HG2.out hb3.size)
  clear hb3
  go_wp2_with fail
  (with_reducible refine (NB.out _ HW3.out (11 : Int) (8 : Int) 11 8 rfl rfl (by have := HYL.out; omega) (by omega) (by omega) _ EP.out).mono ?_)
  rintro e w4 ⟨rfl, hb4⟩
  have BR4 := Lib.hid (BR3.out.later hb4)
  have HW4 := Lib.hid (step_ HW3.out hb4)
  have HG4 := Lib.hid (Nat.le_trans HG3.out hb4.size)
  clear hb4
  go_wp2_with fail
  (with_reducible refine (NB.out _ HW4.out (19 : Int) (8 : Int) 19 8 rfl rfl (by have := HYL.out; omega) (by omega) (by omega) _ EN.out).mono ?_)
  rintro e w5 ⟨rfl, hb5⟩
  have BR5 := Lib.hid (BR4.out.later hb5)
  have HW5 := Lib.hid (step_ HW4.out hb5)
  have HG5 := Lib.hid (Nat.le_trans HG4.out hb5.size)
  clear hb5
  have BX6 := Lib.hid (Box.new w5 #[.int .u8 k, .int .u32 t, .int .u64 p, .int .u64 n, .int .u32 0, .int .u16 0, .bool false, .bool false, .slice none 0 0, .slice none 0 0, .slice none 0 0, .slice none 0 0] 31)
  have BR6 := Lib.hid (BR5.out.alloc (.cells #[.int .u8 k, .int .u32 t, .int .u64 p, .int .u64 n, .int .u32 0, .int .u16 0, .bool false, .bool false, .slice none 0 0, .slice none 0 0, .slice none 0 0, .slice none 0 0] 31))
  have HW6 := Lib.hid (new_ HW5.out (.cells #[.int .u8 k, .int .u32 t, .int .u64 p, .int .u64 n, .int .u32 0, .int .u16 0, .bool false, .bool false, .slice none 0 0, .slice none 0 0, .slice none 0 0, .slice none 0 0] 31))
  have k6 := BX6.out.cell
  obtain ⟨g6, hg6⟩ : ∃ g, g = w5.heap.size := ⟨_, rfl⟩
  obtain ⟨W6, hW6⟩ : ∃ W, W = w5.alloc (.cells #[.int .u8 k, .int .u32 t, .int .u64 p, .int .u64 n, .int .u32 0, .int .u16 0, .bool false, .bool false, .slice none 0 0, .slice none 0 0, .slice none 0 0, .slice none 0 0] 31) := ⟨_, rfl⟩
  obtain ⟨hk23, hk8⟩ := hk
  have e2 : (k == 2) = false := by rw [beq_eq_false_iff_ne]; omega
  have e3 : (k == 3) = false := by rw [beq_eq_false_iff_ne]; omega
  have e8 : (k == 8) = false := by rw [beq_eq_false_iff_ne]; omega
  have RO6 := Lib.hid (show RcOwn (w5.alloc (.cells #[.int .u8 k, .int .u32 t, .int .u64 p, .int .u64 n, .int .u32 0, .int .u16 0, .bool false, .bool false, .slice none 0 0, .slice none 0 0, .slice none 0 0, .slice none 0 0] 31)) (w.heap.size + 1) ⟨k, t, p, n, nullC, [], []⟩ (.slice none 0 0) (.slice none 0 0) (.slice none 0 0) (.slice none 0 0) from ⟨World.ownsRow_nil _ _ _ _, World.ownsRow_nil _ _ _ _, World.ownsRow_nil _ _ _ _, World.ownsRow_nil _ _ _ _⟩)
  have HR0 := Lib.hid (show pRc ys = ⟨k, t, p, n, nullC, [], []⟩ by unfold pRc; rw [← EK.out, ← ET.out, ← EP.out, ← EN.out, if_neg hk23, if_neg hk8, if_neg hk8])
  have HOK := Lib.hid (show (⟨k, t, p, n, nullC, [], []⟩ : Rc).Ok by have := pRc_ok HYB.out; rw [HR0.out] at this; exact this)
  go_wp2_with fail
  cases hm : mayS ⟨k, t, p, n, nullC, [], []⟩ with
  | false =>
    (with_reducible refine (encode_ref_no ⟨k, t, p, n, nullC, [], []⟩ hm (.slice none 0 0) (.slice none 0 0) (.slice none 0 0) (.slice none 0 0) _ _ (Nat.le_refl _) RO6.out.in_).mono ?_)
    rintro e w7 ⟨rfl, hb7⟩
    have BR7 := Lib.hid (BR6.out.later hb7)
    have HW7 := Lib.hid (step_ HW6.out hb7)
    have kR := BR7.out.cell
    have fR := BR7.out.frozen
    have HN := Lib.hid (show resD xs = (none, 61) by rw [HRES.out, HR0.out, if_neg (by rw [hm]; simp)])
    clear hb7
    go_wp2
    have b9 := Box.set_ (Box.set_ (Box.set_ (Box.set_ (Box.set_ (Box.set_ (Box.set_ (Box.set_ (Box.set_ (Box.set_ (Box.set_ (Box.set_ (BR7.out) 0 (.int .u8 0)) 1 (.int .u32 0)) 2 (.int .u64 0)) 3 (.int .u64 0)) 4 (.int .u32 0)) 5 (.int .u16 0)) 6 (.bool false)) 7 (.bool false)) 8 (.slice none 0 0)) 9 (.slice none 0 0)) 10 (.slice none 0 0)) 11 (.slice none 0 0)
    have h9 := Below.setCell (Below.setCell (Below.setCell (Below.setCell (Below.setCell (Below.setCell (Below.setCell (Below.setCell (Below.setCell (Below.setCell (Below.setCell (Below.setCell (HW7.out) (p := ⟨w.heap.size, 0, none⟩) (Nat.le_refl _) (.int .u8 0)) (p := ⟨w.heap.size, 1, none⟩) (Nat.le_refl _) (.int .u32 0)) (p := ⟨w.heap.size, 2, none⟩) (Nat.le_refl _) (.int .u64 0)) (p := ⟨w.heap.size, 3, none⟩) (Nat.le_refl _) (.int .u64 0)) (p := ⟨w.heap.size, 4, none⟩) (Nat.le_refl _) (.int .u32 0)) (p := ⟨w.heap.size, 5, none⟩) (Nat.le_refl _) (.int .u16 0)) (p := ⟨w.heap.size, 6, none⟩) (Nat.le_refl _) (.bool false)) (p := ⟨w.heap.size, 7, none⟩) (Nat.le_refl _) (.bool false)) (p := ⟨w.heap.size, 8, none⟩) (Nat.le_refl _) (.slice none 0 0)) (p := ⟨w.heap.size, 9, none⟩) (Nat.le_refl _) (.slice none 0 0)) (p := ⟨w.heap.size, 10, none⟩) (Nat.le_refl _) (.slice none 0 0)) (p := ⟨w.heap.size, 11, none⟩) (Nat.le_refl _) (.slice none 0 0)
    simp only [List.setIfInBounds_toArray, List.set_cons_zero, List.set_cons_succ] at b9
    generalize hW : (World.setCell _ (⟨w.heap.size, 11, none⟩ : Addr) _) = W9 at b9 h9 ⊢
    clear hW
    have b_0 : W9.cell? ⟨w.heap.size, 0, none⟩ = some (.int .u8 0) := b9.cell 0
    have b_1 : W9.cell? ⟨w.heap.size, 1, none⟩ = some (.int .u32 0) := b9.cell 1
    have b_2 : W9.cell? ⟨w.heap.size, 2, none⟩ = some (.int .u64 0) := b9.cell 2
    have b_3 : W9.cell? ⟨w.heap.size, 3, none⟩ = some (.int .u64 0) := b9.cell 3
    have b_4 : W9.cell? ⟨w.heap.size, 4, none⟩ = some (.int .u32 0) := b9.cell 4
    have b_5 : W9.cell? ⟨w.heap.size, 5, none⟩ = some (.int .u16 0) := b9.cell 5
    have b_6 : W9.cell? ⟨w.heap.size, 6, none⟩ = some (.bool false) := b9.cell 6
    have b_7 : W9.cell? ⟨w.heap.size, 7, none⟩ = some (.bool false) := b9.cell 7
    have b_8 : W9.cell? ⟨w.heap.size, 8, none⟩ = some (.slice none 0 0) := b9.cell 8
    have b_9 : W9.cell? ⟨w.heap.size, 9, none⟩ = some (.slice none 0 0) := b9.cell 9
    have b_10 : W9.cell? ⟨w.heap.size, 10, none⟩ = some (.slice none 0 0) := b9.cell 10
    have b_11 : W9.cell? ⟨w.heap.size, 11, none⟩ = some (.slice none 0 0) := b9.cell 11
    refine bodyPost_ret (v := .tuple #[.agg (bareC 0 0 0 0), .int .i64 0, .int .i64 61]) (by simp [results, Try.results17, go_sem, rcV, bareC, b_0, b_1, b_2, b_3, b_4, b_5, b_6, b_7, b_8, b_9, b_10, b_11]) rfl ?_
    exact RefPost.no HN.out h9
  | true =>
    (with_reducible refine (encode_ref_yes ⟨k, t, p, n, nullC, [], []⟩ HOK.out hm (.slice none 0 0) (.slice none 0 0) (.slice none 0 0) (.slice none 0 0) _ RO6.out.in_).mono ?_)
    rintro e w7 ⟨u, rfl, ou, hb7⟩
    have BR7 := Lib.hid (BR6.out.later hb7)
    have HW7 := Lib.hid (step_ HW6.out hb7)
    have BX7 := Lib.hid (BX6.out.later hb7)
    have RO7 := Lib.hid (RO6.out.later hb7)
    have kR := BR7.out.cell
    have fR := BR7.out.frozen
    have kX := BX7.out.cell
    obtain ⟨Au, cu, eu, _, _⟩ := (IR.of_own ou).form
    subst eu
    have t1 := (IR.of_own ou).text (P := Try.prog) (dst := 9) Try.underlying25 Try.underlying5 Try.underlying9
    have t2 := TY.out w7 HW7.out
    obtain ⟨q, hq⟩ : ∃ q, q = decide (encS ⟨k, t, p, n, nullC, [], []⟩ = ys) := ⟨_, rfl⟩
    have dq := str_ne (enc_bytes ⟨k, t, p, n, nullC, [], []⟩ HOK.out) HYB.out q hq
    have HQ := Lib.hid hq
    clear hb7 ou hq
    cases q
    · have HN := Lib.hid (show resD xs = (none, 61) by rw [HRES.out, HR0.out, if_neg (by have := HQ.out; simp at this; simp [this])])
      go_wp2
      have b9 := Box.set_ (Box.set_ (Box.set_ (Box.set_ (Box.set_ (Box.set_ (Box.set_ (Box.set_ (Box.set_ (Box.set_ (Box.set_ (Box.set_ (BR7.out) 0 (.int .u8 0)) 1 (.int .u32 0)) 2 (.int .u64 0)) 3 (.int .u64 0)) 4 (.int .u32 0)) 5 (.int .u16 0)) 6 (.bool false)) 7 (.bool false)) 8 (.slice none 0 0)) 9 (.slice none 0 0)) 10 (.slice none 0 0)) 11 (.slice none 0 0)
      have h9 := Below.setCell (Below.setCell (Below.setCell (Below.setCell (Below.setCell (Below.setCell (Below.setCell (Below.setCell (Below.setCell (Below.setCell (Below.setCell (Below.setCell (HW7.out) (p := ⟨w.heap.size, 0, none⟩) (Nat.le_refl _) (.int .u8 0)) (p := ⟨w.heap.size, 1, none⟩) (Nat.le_refl _) (.int .u32 0)) (p := ⟨w.heap.size, 2, none⟩) (Nat.le_refl _) (.int .u64 0)) (p := ⟨w.heap.size, 3, none⟩) (Nat.le_refl _) (.int .u64 0)) (p := ⟨w.heap.size, 4, none⟩) (Nat.le_refl _) (.int .u32 0)) (p := ⟨w.heap.size, 5, none⟩) (Nat.le_refl _) (.int .u16 0)) (p := ⟨w.heap.size, 6, none⟩) (Nat.le_refl _) (.bool false)) (p := ⟨w.heap.size, 7, none⟩) (Nat.le_refl _) (.bool false)) (p := ⟨w.heap.size, 8, none⟩) (Nat.le_refl _) (.slice none 0 0)) (p := ⟨w.heap.size, 9, none⟩) (Nat.le_refl _) (.slice none 0 0)) (p := ⟨w.heap.size, 10, none⟩) (Nat.le_refl _) (.slice none 0 0)) (p := ⟨w.heap.size, 11, none⟩) (Nat.le_refl _) (.slice none 0 0)
      simp only [List.setIfInBounds_toArray, List.set_cons_zero, List.set_cons_succ] at b9
      generalize hW : (World.setCell _ (⟨w.heap.size, 11, none⟩ : Addr) _) = W9 at b9 h9 ⊢
      clear hW
      have b_0 : W9.cell? ⟨w.heap.size, 0, none⟩ = some (.int .u8 0) := b9.cell 0
      have b_1 : W9.cell? ⟨w.heap.size, 1, none⟩ = some (.int .u32 0) := b9.cell 1
      have b_2 : W9.cell? ⟨w.heap.size, 2, none⟩ = some (.int .u64 0) := b9.cell 2
      have b_3 : W9.cell? ⟨w.heap.size, 3, none⟩ = some (.int .u64 0) := b9.cell 3
      have b_4 : W9.cell? ⟨w.heap.size, 4, none⟩ = some (.int .u32 0) := b9.cell 4
      have b_5 : W9.cell? ⟨w.heap.size, 5, none⟩ = some (.int .u16 0) := b9.cell 5
      have b_6 : W9.cell? ⟨w.heap.size, 6, none⟩ = some (.bool false) := b9.cell 6
      have b_7 : W9.cell? ⟨w.heap.size, 7, none⟩ = some (.bool false) := b9.cell 7
      have b_8 : W9.cell? ⟨w.heap.size, 8, none⟩ = some (.slice none 0 0) := b9.cell 8
      have b_9 : W9.cell? ⟨w.heap.size, 9, none⟩ = some (.slice none 0 0) := b9.cell 9
      have b_10 : W9.cell? ⟨w.heap.size, 10, none⟩ = some (.slice none 0 0) := b9.cell 10
      have b_11 : W9.cell? ⟨w.heap.size, 11, none⟩ = some (.slice none 0 0) := b9.cell 11
      refine bodyPost_ret (v := .tuple #[.agg (bareC 0 0 0 0), .int .i64 0, .int .i64 61]) (by simp [results, Try.results17, go_sem, rcV, bareC, b_0, b_1, b_2, b_3, b_4, b_5, b_6, b_7, b_8, b_9, b_10, b_11]) rfl ?_
      exact RefPost.no HN.out h9
    · have HN := Lib.hid (show resD xs = (some ⟨k, t, p, n, nullC, [], []⟩, 0) by rw [HRES.out, HR0.out, if_pos ⟨hm, by have := HQ.out; simpa using this⟩])
      go_wp2
      have b9 := Box.set_ (Box.set_ (Box.set_ (Box.set_ (Box.set_ (Box.set_ (Box.set_ (Box.set_ (Box.set_ (Box.set_ (Box.set_ (Box.set_ (BR7.out) 0 (.int .u8 k)) 1 (.int .u32 t)) 2 (.int .u64 p)) 3 (.int .u64 n)) 4 (.int .u32 0)) 5 (.int .u16 0)) 6 (.bool false)) 7 (.bool false)) 8 (.slice none 0 0)) 9 (.slice none 0 0)) 10 (.slice none 0 0)) 11 (.slice none 0 0)
      have h9 := Below.setCell (Below.setCell (Below.setCell (Below.setCell (Below.setCell (Below.setCell (Below.setCell (Below.setCell (Below.setCell (Below.setCell (Below.setCell (Below.setCell (HW7.out) (p := ⟨w.heap.size, 0, none⟩) (Nat.le_refl _) (.int .u8 k)) (p := ⟨w.heap.size, 1, none⟩) (Nat.le_refl _) (.int .u32 t)) (p := ⟨w.heap.size, 2, none⟩) (Nat.le_refl _) (.int .u64 p)) (p := ⟨w.heap.size, 3, none⟩) (Nat.le_refl _) (.int .u64 n)) (p := ⟨w.heap.size, 4, none⟩) (Nat.le_refl _) (.int .u32 0)) (p := ⟨w.heap.size, 5, none⟩) (Nat.le_refl _) (.int .u16 0)) (p := ⟨w.heap.size, 6, none⟩) (Nat.le_refl _) (.bool false)) (p := ⟨w.heap.size, 7, none⟩) (Nat.le_refl _) (.bool false)) (p := ⟨w.heap.size, 8, none⟩) (Nat.le_refl _) (.slice none 0 0)) (p := ⟨w.heap.size, 9, none⟩) (Nat.le_refl _) (.slice none 0 0)) (p := ⟨w.heap.size, 10, none⟩) (Nat.le_refl _) (.slice none 0 0)) (p := ⟨w.heap.size, 11, none⟩) (Nat.le_refl _) (.slice none 0 0)
      have r9 := RcOwn.far (RcOwn.far (RcOwn.far (RcOwn.far (RcOwn.far (RcOwn.far (RcOwn.far (RcOwn.far (RcOwn.far (RcOwn.far (RcOwn.far (RcOwn.far (RO7.out) (p := ⟨w.heap.size, 0, none⟩) (Nat.lt_succ_self _) (.int .u8 k)) (p := ⟨w.heap.size, 1, none⟩) (Nat.lt_succ_self _) (.int .u32 t)) (p := ⟨w.heap.size, 2, none⟩) (Nat.lt_succ_self _) (.int .u64 p)) (p := ⟨w.heap.size, 3, none⟩) (Nat.lt_succ_self _) (.int .u64 n)) (p := ⟨w.heap.size, 4, none⟩) (Nat.lt_succ_self _) (.int .u32 0)) (p := ⟨w.heap.size, 5, none⟩) (Nat.lt_succ_self _) (.int .u16 0)) (p := ⟨w.heap.size, 6, none⟩) (Nat.lt_succ_self _) (.bool false)) (p := ⟨w.heap.size, 7, none⟩) (Nat.lt_succ_self _) (.bool false)) (p := ⟨w.heap.size, 8, none⟩) (Nat.lt_succ_self _) (.slice none 0 0)) (p := ⟨w.heap.size, 9, none⟩) (Nat.lt_succ_self _) (.slice none 0 0)) (p := ⟨w.heap.size, 10, none⟩) (Nat.lt_succ_self _) (.slice none 0 0)) (p := ⟨w.heap.size, 11, none⟩) (Nat.lt_succ_self _) (.slice none 0 0)
      simp only [List.setIfInBounds_toArray, List.set_cons_zero, List.set_cons_succ] at b9
      generalize hW : (World.setCell _ (⟨w.heap.size, 11, none⟩ : Addr) _) = W9 at b9 h9 r9 ⊢
      clear hW
      have b_0 : W9.cell? ⟨w.heap.size, 0, none⟩ = some (.int .u8 k) := b9.cell 0
      have b_1 : W9.cell? ⟨w.heap.size, 1, none⟩ = some (.int .u32 t) := b9.cell 1
      have b_2 : W9.cell? ⟨w.heap.size, 2, none⟩ = some (.int .u64 p) := b9.cell 2
      have b_3 : W9.cell? ⟨w.heap.size, 3, none⟩ = some (.int .u64 n) := b9.cell 3
      have b_4 : W9.cell? ⟨w.heap.size, 4, none⟩ = some (.int .u32 0) := b9.cell 4
      have b_5 : W9.cell? ⟨w.heap.size, 5, none⟩ = some (.int .u16 0) := b9.cell 5
      have b_6 : W9.cell? ⟨w.heap.size, 6, none⟩ = some (.bool false) := b9.cell 6
      have b_7 : W9.cell? ⟨w.heap.size, 7, none⟩ = some (.bool false) := b9.cell 7
      have b_8 : W9.cell? ⟨w.heap.size, 8, none⟩ = some (.slice none 0 0) := b9.cell 8
      have b_9 : W9.cell? ⟨w.heap.size, 9, none⟩ = some (.slice none 0 0) := b9.cell 9
      have b_10 : W9.cell? ⟨w.heap.size, 10, none⟩ = some (.slice none 0 0) := b9.cell 10
      have b_11 : W9.cell? ⟨w.heap.size, 11, none⟩ = some (.slice none 0 0) := b9.cell 11
      refine bodyPost_ret (v := .tuple #[.agg (rcV ⟨k, t, p, n, nullC, [], []⟩ (.slice none 0 0) (.slice none 0 0) (.slice none 0 0) (.slice none 0 0)), .int .i64 K, .int .i64 0]) (by simp [results, Try.results17, go_sem, rcV, bareC, b_0, b_1, b_2, b_3, b_4, b_5, b_6, b_7, b_8, b_9, b_10, b_11]) rfl ?_
      have hz := RefPost.yes HN.out r9.in_ h9
      rw [KL.out] at hz
      exact hz
end Go.Proofs.Ytbbphfhkedldmaa.Rec

/- The document's Decode: changes. -/
namespace Go.Proofs.Ytbbphfhkedldmaa.Rec
open Go.ChangeShapes Go.WideShapes Go.ChangeAt Go.RowKit Go.IntWalk Go.Proofs.NumMath Go.Proofs.Mem Go.Proofs.CrcMath NumBytes CrcA
set_option linter.unusedVariables false
set_option linter.unusedSimpArgs false
theorem own_slice {W : World} {b n sz : Nat} {e : TypeId} {v : Value} {xs : List Value} (h : W.ownsRow b e sz v n xs) : ∃ A c, v = .slice A n c := by
  rcases h.2 with ⟨rfl, rfl⟩ | ⟨g, cap, cur, rfl, _⟩
  · exact ⟨_, _, rfl⟩
  · exact ⟨_, _, rfl⟩
theorem w64_nat (K : Nat) (h : K ≤ 255) : IntKind.i64.wrap (K : Int) = (K : Int) := IntWalk.i64_in _ (by omega)
theorem w64_add (a : Int) (K : Nat) (h0 : 0 ≤ a) (h1 : a ≤ 100000) (h : K ≤ 255) : wrap64 (a + (K : Int)) = a + (K : Int) := wrap64_in _ (by omega)
set_option maxRecDepth 100000 in
set_option maxHeartbeats 32000000 in
theorem decref_change (w : World) (v : Value) (xs : List Int) (hv : IR w w.heap.size .u8 v xs) (hx : Bytes xs) (hxl : xs.length ≤ 100000) (h27 : 27 ≤ xs.length) (h0 : lenB xs ≠ 0) (hle : lenB xs ≤ xs.length) (hk : numS (xs.take (lenB xs)) 6 1 = 2 ∨ numS (xs.take (lenB xs)) 6 1 = 3) :
    Calls Try.prog 17 #[v] w (RefPost w xs) := by
  obtain ⟨A, c, rfl, hlc, hcm⟩ := hv.form
  unfold maxLen at hcm
  obtain ⟨L, hL⟩ : ∃ L, L = xs.length := ⟨_, rfl⟩
  have hb2 := numS_bd hx 0 2
  rw [show (2 : Int) ^ (8 * 2) = 65536 from rfl] at hb2
  obtain ⟨K, hK⟩ : ∃ K : Nat, (K : Int) = numS xs 0 2 := ⟨(numS xs 0 2).toNat, by omega⟩
  have hKl : lenB xs = K := by
    unfold lenB; rw [← partS_take xs 2 (by omega)]; show (numS xs 0 2).toNat = K; rw [← hK]; rfl
  obtain ⟨ys, hys⟩ : ∃ ys, ys = xs.take K := ⟨_, rfl⟩
  rw [hKl, ← hys] at hk
  have hyb : Bytes ys := by rw [hys]; exact bytes_take hx K
  have hyl : ys.length = K := by rw [hys, List.length_take]; omega
  have HRES := Lib.hid (show resD xs = if mayS (pRc ys) = true ∧ encS (pRc ys) = ys then (some (pRc ys), 0) else (none, 61) by
    rw [← refD_res xs hx]; unfold refD; rw [if_neg (by omega), if_neg (by omega), hKl, ← hys])
  have hvy : IR w w.heap.size .u8 (.slice A K c) ys := by rw [hys]; rw [← hL] at hv; exact hv.take (by omega)
  have N1 := Lib.hid (numref_at _ xs (w.alloc (.cells (bareC 0 0 0 0) 31)) ((hv.alloc (Nat.le_refl _) _).more (by simp)) hx 0 2 0 2 rfl rfl hxl (by omega) (by omega) K hK)
  rw [← hL] at N1 ⊢
  have NB := Lib.hid (fun W (h : Below w.heap.size w W) => numref_at (.slice A K c) ys W ((hvy.below h).more h.size) hyb)
  have PB := Lib.hid (fun W (h : Below w.heap.size w W) => partref_at (.slice A K c) ys W ((hvy.below h).more h.size))
  have TY := Lib.hid (fun W (h : Below w.heap.size w W) => (hvy.below h).text (P := Try.prog) (dst := 9) Try.underlying25 Try.underlying5 Try.underlying9)
  have HYL := Lib.hid hyl
  have HYB := Lib.hid hyb
  have b1 := nb8 (numS_bd hyb 6 1)
  have b4 := nb32 (numS_bd hyb 7 4)
  have b8a := nb64 (numS_bd hyb 11 8)
  have b8b := nb64 (numS_bd hyb 19 8)
  have hkk : 27 ≤ L := by omega
  have hKL : K ≤ L := by omega
  have hK0 : K ≠ 0 := by omega
  have hK1 : K ≤ 100000 := by omega
  obtain ⟨k, ek⟩ : ∃ k, k = numS ys 6 1 := ⟨_, rfl⟩
  obtain ⟨t, et⟩ : ∃ k, k = numS ys 7 4 := ⟨_, rfl⟩
  obtain ⟨p, ep⟩ : ∃ k, k = numS ys 11 8 := ⟨_, rfl⟩
  obtain ⟨n, en⟩ : ∃ k, k = numS ys 19 8 := ⟨_, rfl⟩
  have EK := Lib.hid ek
  have ET := Lib.hid et
  have EP := Lib.hid ep
  have EN := Lib.hid en
  rw [← ek] at b1 hk
  rw [← et] at b4
  rw [← ep] at b8a
  rw [← en] at b8b
  have wk0 : IntKind.i64.wrap (K : Int) = (K : Int) := IntWalk.i64_in _ (by omega)
  have wk : IntKind.u8.wrap k = k := u8_wrap' b1.1 b1.2
  have wt : IntKind.u32.wrap t = t := u32_wrap b4.1 b4.2
  have d1 : decide ((L : Int) < 27) = false := by simp; omega
  have d2 : ((K : Int) == 0) = false := by rw [beq_zero]; simp; omega
  have d3 : decide ((L : Int) < (K : Int)) = false := by simp; omega
  have d3' : decide (L < K) = false := by simp; omega
  have b1' : (0 : Int) ≤ (K : Int) := by omega
  have b2' : (K : Int) ≤ (c : Int) := by omega
  have KL := Lib.hid hKl
  have BR0 := Lib.hid (Box.new w (bareC 0 0 0 0) 31)
  clear hv hvy hK hKl hb2 hxl hL hyl hyb hys ek et ep en h27 h0 hle hx
  have cb4 := nb32 (numS_bd HYB.out 27 4)
  have cb2 := nb16 (numS_bd HYB.out 31 2)
  have cb1 := nb8 (numS_bd HYB.out 33 1)
  have cbk := nb8 (numS_bd HYB.out 34 1)
  obtain ⟨pg, epg⟩ : ∃ k, k = numS ys 27 4 := ⟨_, rfl⟩
  obtain ⟨sl, esl⟩ : ∃ k, k = numS ys 31 2 := ⟨_, rfl⟩
  obtain ⟨f, ef⟩ : ∃ k, k = numS ys 33 1 := ⟨_, rfl⟩
  obtain ⟨K1, eK1⟩ : ∃ k : Nat, (k : Int) = numS ys 34 1 := ⟨(numS ys 34 1).toNat, by omega⟩
  have cbm := nb8 (numS_bd HYB.out (35 + K1) 1)
  obtain ⟨M1, eM1⟩ : ∃ k : Nat, (k : Int) = numS ys (35 + K1) 1 := ⟨(numS ys (35 + K1) 1).toNat, by omega⟩
  have EPG := Lib.hid epg
  have ESL := Lib.hid esl
  have EF := Lib.hid ef
  have EK1 := Lib.hid eK1
  have EM1 := Lib.hid eM1
  rw [← epg] at cb4
  rw [← esl] at cb2
  rw [← ef] at cb1
  rw [← eK1] at cbk
  rw [← eM1] at cbm
  have hK1b : K1 ≤ 255 := by omega
  have hM1b : M1 ≤ 255 := by omega
  have hK1c : K1 ≤ 100000 := by omega
  have hM1c : M1 ≤ 100000 := by omega
  have h35 : 35 + K1 ≤ 100000 := by omega
  have h36 : 36 + K1 ≤ 100000 := by omega
  have hyl1 : ys.length ≤ 100000 := by have := HYL.out; omega
  have wpg : IntKind.u32.wrap pg = pg := u32_wrap cb4.1 cb4.2
  have wsl : IntKind.u16.wrap sl = sl := u16_wrap cb2.1 cb2.2
  have wK1 : IntKind.i64.wrap (K1 : Int) = (K1 : Int) := w64_nat K1 hK1b
  have wM1 : IntKind.i64.wrap (M1 : Int) = (M1 : Int) := w64_nat M1 hM1b
  have w35 : wrap64 (35 + (K1 : Int)) = 35 + (K1 : Int) := w64_add 35 K1 (by decide) (by decide) hK1b
  have w36 : wrap64 (36 + (K1 : Int)) = 36 + (K1 : Int) := w64_add 36 K1 (by decide) (by decide) hK1b
  obtain ⟨qa, hqa⟩ : ∃ q, q = decide (f % 2 = 1) := ⟨_, rfl⟩
  obtain ⟨qb, hqb⟩ : ∃ q, q = decide (f / 2 % 2 = 1) := ⟨_, rfl⟩
  have dqa : (f.tmod 2 == 1) = qa := by rw [hqa, Int.tmod_eq_emod_of_nonneg cb1.1, beq_dec]
  have dqb : ((IntKind.u64.wrap (f.tdiv 2)).tmod 2 == 1) = qb := by rw [hqb, Int.tdiv_eq_ediv_of_nonneg cb1.1, u64_wrap (by omega) (by omega), Int.tmod_eq_emod_of_nonneg (by omega), beq_dec]
  have HQA := Lib.hid hqa
  have HQB := Lib.hid hqb
  have e8 : (k == 8) = false := by rw [beq_eq_false_iff_ne]; omega
  obtain ⟨qc, hqc⟩ : ∃ q, q = (k == 2) := ⟨_, rfl⟩
  have e2 : (k == 2) = qc := hqc.symm
  have E3 := Lib.hid (show qc = false → (k == 3) = true from fun h => by rw [h] at hqc; have h2 : ¬ k = 2 := (by simpa using hqc.symm); have h3 : k = 3 := (by omega); rw [h3]; rfl)
  have HYL1 := Lib.hid hyl1
  have HK1C := Lib.hid hK1c
  have HM1C := Lib.hid hM1c
  have H35 := Lib.hid h35
  have H36 := Lib.hid h36
  have HK := Lib.hid hk
  clear epg esl ef eK1 eM1 hqa hqb hqc hk b1 b4 b8a b8b hkk hKL hK0 hK1 cb4 cb2 cb1 cbk cbm hK1b hM1b hK1c hM1c h35 h36 hyl1
  go_enter Try.func17, Try.ntmps17
  go_wp2_with fail
  (with_reducible refine N1.out.mono ?_)
  rintro e w1 ⟨rfl, hb1⟩
  have BR1 := Lib.hid (BR0.out.later hb1)
  have HW1 := Lib.hid ((new_ (Below.refl w.heap.size w) (.cells (bareC 0 0 0 0) 31)).trans (hb1.mono (by simp)))
  have HG1 := Lib.hid (show w.heap.size + 1 ≤ w1.heap.size by have := hb1.size; rw [World.size_alloc] at this; exact this)
  clear hb1
  go_wp2_with fail
  (with_reducible refine (NB.out _ HW1.out (6 : Int) (1 : Int) 6 1 rfl rfl HYL1.out (by decide) (by decide) _ EK.out).mono ?_)
  rintro e w2 ⟨rfl, hb2⟩
  have BR2 := Lib.hid (BR1.out.later hb2)
  have HW2 := Lib.hid (step_ HW1.out hb2)
  have HG2 := Lib.hid (Nat.le_trans HG1.out hb2.size)
  clear hb2
  go_wp2_with fail
  (with_reducible refine (NB.out _ HW2.out (7 : Int) (4 : Int) 7 4 rfl rfl HYL1.out (by decide) (by decide) _ ET.out).mono ?_)
  rintro e w3 ⟨rfl, hb3⟩
  have BR3 := Lib.hid (BR2.out.later hb3)
  have HW3 := Lib.hid (step_ HW2.out hb3)
  have HG3 := Lib.hid (Nat.le_trans HG2.out hb3.size)
  clear hb3
  go_wp2_with fail
  (with_reducible refine (NB.out _ HW3.out (11 : Int) (8 : Int) 11 8 rfl rfl HYL1.out (by decide) (by decide) _ EP.out).mono ?_)
  rintro e w4 ⟨rfl, hb4⟩
  have BR4 := Lib.hid (BR3.out.later hb4)
  have HW4 := Lib.hid (step_ HW3.out hb4)
  have HG4 := Lib.hid (Nat.le_trans HG3.out hb4.size)
  clear hb4
  go_wp2_with fail
  (with_reducible refine (NB.out _ HW4.out (19 : Int) (8 : Int) 19 8 rfl rfl HYL1.out (by decide) (by decide) _ EN.out).mono ?_)
  rintro e w5 ⟨rfl, hb5⟩
  have BR5 := Lib.hid (BR4.out.later hb5)
  have HW5 := Lib.hid (step_ HW4.out hb5)
  have HG5 := Lib.hid (Nat.le_trans HG4.out hb5.size)
  clear hb5
  have BX6 := Lib.hid (Box.new w5 #[.int .u8 k, .int .u32 t, .int .u64 p, .int .u64 n, .int .u32 0, .int .u16 0, .bool false, .bool false, .slice none 0 0, .slice none 0 0, .slice none 0 0, .slice none 0 0] 31)
  have BR6 := Lib.hid (BR5.out.alloc (.cells #[.int .u8 k, .int .u32 t, .int .u64 p, .int .u64 n, .int .u32 0, .int .u16 0, .bool false, .bool false, .slice none 0 0, .slice none 0 0, .slice none 0 0, .slice none 0 0] 31))
  have HW6 := Lib.hid (new_ HW5.out (.cells #[.int .u8 k, .int .u32 t, .int .u64 p, .int .u64 n, .int .u32 0, .int .u16 0, .bool false, .bool false, .slice none 0 0, .slice none 0 0, .slice none 0 0, .slice none 0 0] 31))
  have k6 := BX6.out.cell
  obtain ⟨g6, hg6⟩ : ∃ g, g = w5.heap.size := ⟨_, rfl⟩
  obtain ⟨W6, hW6⟩ : ∃ W, W = w5.alloc (.cells #[.int .u8 k, .int .u32 t, .int .u64 p, .int .u64 n, .int .u32 0, .int .u16 0, .bool false, .bool false, .slice none 0 0, .slice none 0 0, .slice none 0 0, .slice none 0 0] 31) := ⟨_, rfl⟩
  have HG6 := Lib.hid (show w.heap.size + 1 ≤ (w5.alloc (.cells #[.int .u8 k, .int .u32 t, .int .u64 p, .int .u64 n, .int .u32 0, .int .u16 0, .bool false, .bool false, .slice none 0 0, .slice none 0 0, .slice none 0 0, .slice none 0 0] 31)).heap.size by have := HG5.out; rw [World.size_alloc]; omega)
  cases qc
  case false =>
    have e3' := E3.out rfl
    go_wp2_with fail
    (with_reducible refine (NB.out _ HW6.out (27 : Int) (4 : Int) (27) (4) rfl rfl HYL1.out (by decide) (by decide) _ EPG.out).mono ?_)
    rintro e w7 ⟨rfl, hb7⟩
    have BR7 := Lib.hid (BR6.out.later hb7)
    have BX7 := Lib.hid (BX6.out.later hb7)
    have HW7 := Lib.hid (step_ HW6.out hb7)
    have HG7 := Lib.hid (Nat.le_trans HG6.out hb7.size)
    clear hb7
    go_wp2_with fail
    (with_reducible refine (NB.out _ HW7.out (31 : Int) (2 : Int) (31) (2) rfl rfl HYL1.out (by decide) (by decide) _ ESL.out).mono ?_)
    rintro e w8 ⟨rfl, hb8⟩
    have BR8 := Lib.hid (BR7.out.later hb8)
    have BX8 := Lib.hid (BX7.out.later hb8)
    have HW8 := Lib.hid (step_ HW7.out hb8)
    have HG8 := Lib.hid (Nat.le_trans HG7.out hb8.size)
    clear hb8
    have BR9 := Lib.hid (BR8.out.alloc (.cells #[.int .u32 pg, .int .u16 sl, .bool false, .bool false, .slice none 0 0, .slice none 0 0] 27))
    have BX9 := Lib.hid (BX8.out.alloc (.cells #[.int .u32 pg, .int .u16 sl, .bool false, .bool false, .slice none 0 0, .slice none 0 0] 27))
    have BC9 := Lib.hid (Box.new w8 #[.int .u32 pg, .int .u16 sl, .bool false, .bool false, .slice none 0 0, .slice none 0 0] 27)
    have HW9 := Lib.hid (new_ HW8.out (.cells #[.int .u32 pg, .int .u16 sl, .bool false, .bool false, .slice none 0 0, .slice none 0 0] 27))
    have HG9 := Lib.hid (show w.heap.size + 1 ≤ (w8.alloc (.cells #[.int .u32 pg, .int .u16 sl, .bool false, .bool false, .slice none 0 0, .slice none 0 0] 27)).heap.size by have := HG8.out; rw [World.size_alloc]; omega)
    go_wp2_with fail
    (with_reducible refine (NB.out _ HW9.out (33 : Int) (1 : Int) (33) (1) rfl rfl HYL1.out (by decide) (by decide) _ EF.out).mono ?_)
    rintro e w10 ⟨rfl, hb10⟩
    have BR10 := Lib.hid (BR9.out.later hb10)
    have BX10 := Lib.hid (BX9.out.later hb10)
    have BC10 := Lib.hid (BC9.out.later hb10)
    have HW10 := Lib.hid (step_ HW9.out hb10)
    have HG10 := Lib.hid (Nat.le_trans HG9.out hb10.size)
    clear hb10
    have kc := BC10.out.cell
    have fc := BC10.out.frozen
    go_wp2_with fail
    clear d1 d2 d3 d3' wk0 wk wt b1' b2' e2 e3' wpg wsl dqa dqb
    have n8a : w.heap.size ≠ w8.heap.size := by have := BR8.out.lt; omega
    have n8b : w5.heap.size ≠ w8.heap.size := by have := BX8.out.lt; omega
    have n8c : w.heap.size ≤ w8.heap.size := by have := BR8.out.lt; omega
    have r11 := Box.far (p := ⟨w8.heap.size, 3, none⟩) (Box.far (p := ⟨w8.heap.size, 2, none⟩) BR10.out n8a (.bool qa)) n8a (.bool qb)
    have x11 := Box.far (p := ⟨w8.heap.size, 3, none⟩) (Box.far (p := ⟨w8.heap.size, 2, none⟩) BX10.out n8b (.bool qa)) n8b (.bool qb)
    have c11 := Box.set_ (Box.set_ BC10.out 2 (.bool qa)) 3 (.bool qb)
    have h11 := Below.setCell (p := ⟨w8.heap.size, 3, none⟩) (Below.setCell (p := ⟨w8.heap.size, 2, none⟩) HW10.out n8c (.bool qa)) n8c (.bool qb)
    simp only [List.setIfInBounds_toArray, List.set_cons_zero, List.set_cons_succ] at c11
    generalize hW : World.setCell _ (⟨w8.heap.size, 3, none⟩ : Addr) _ = w11 at r11 x11 c11 h11 ⊢
    have HG11 := Lib.hid (show w.heap.size + 1 ≤ w11.heap.size from r11.lt)
    have BR11 := Lib.hid r11
    have BX11 := Lib.hid x11
    have BC11 := Lib.hid c11
    have HW11 := Lib.hid h11
    clear hW r11 x11 c11 h11 kc fc
    go_wp2_with fail
    (with_reducible refine (NB.out _ HW11.out (34 : Int) (1 : Int) (34) (1) rfl rfl HYL1.out (by decide) (by decide) _ EK1.out).mono ?_)
    rintro e w12 ⟨rfl, hb12⟩
    have BR12 := Lib.hid (BR11.out.later hb12)
    have BX12 := Lib.hid (BX11.out.later hb12)
    have BC12 := Lib.hid (BC11.out.later hb12)
    have HW12 := Lib.hid (step_ HW11.out hb12)
    have HG12 := Lib.hid (Nat.le_trans HG11.out hb12.size)
    clear hb12
    go_wp2_with fail
    (with_reducible refine (PB.out _ HW12.out (35 : Int) (K1 : Int) (35) (K1) rfl rfl HYL1.out (by decide) HK1C.out).mono ?_)
    rintro e w13 ⟨ux, rfl, oux, hb13⟩
    have BR13 := Lib.hid (BR12.out.later hb13)
    have BX13 := Lib.hid (BX12.out.later hb13)
    have BC13 := Lib.hid (BC12.out.later hb13)
    have HW13 := Lib.hid (step_ HW12.out hb13)
    have HG13 := Lib.hid (Nat.le_trans HG12.out hb13.size)
    have HB13 := Lib.hid hb13
    clear hb13
    have hX1 := partS_len ys 35 K1
    obtain ⟨X1, eX1⟩ : ∃ X, X = partS ys 35 K1 := ⟨_, rfl⟩
    rw [← eX1] at oux hX1
    have ox := own_lower oux (base' := w8.heap.size + 1) BC12.out.lt
    have bX1 : Bytes X1 := by rw [eX1]; exact partS_bytes HYB.out _ _
    have EX1 := Lib.hid eX1
    have HX1 := Lib.hid hX1
    have BX1_ := Lib.hid bX1
    obtain ⟨B1, l1, e1⟩ := own_slice ox
    subst e1
    have OX13 := Lib.hid ox
    clear oux ox eX1 hX1 bX1 HB13
    have kc := BC13.out.cell
    have fc := BC13.out.frozen
    go_wp2_with fail
    have ox := own_set_far (p := ⟨w8.heap.size, 4, none⟩) OX13.out (Nat.lt_succ_self _) (.slice B1 K1 l1)
    have r14 := Box.far (p := ⟨w8.heap.size, 4, none⟩) BR13.out n8a (.slice B1 K1 l1)
    have x14 := Box.far (p := ⟨w8.heap.size, 4, none⟩) BX13.out n8b (.slice B1 K1 l1)
    have c14 := Box.set_ BC13.out 4 (.slice B1 K1 l1)
    have h14 := Below.setCell (p := ⟨w8.heap.size, 4, none⟩) HW13.out n8c (.slice B1 K1 l1)
    simp only [List.setIfInBounds_toArray, List.set_cons_zero, List.set_cons_succ] at c14
    generalize hW : World.setCell _ (⟨w8.heap.size, 4, none⟩ : Addr) _ = w14 at ox r14 x14 c14 h14 ⊢
    have HG14 := Lib.hid (show w.heap.size + 1 ≤ w14.heap.size from r14.lt)
    have BR14 := Lib.hid r14
    have BX14 := Lib.hid x14
    have BC14 := Lib.hid c14
    have HW14 := Lib.hid h14
    have OX14 := Lib.hid ox
    clear hW ox r14 x14 c14 h14 kc fc
    go_wp2_with fail
    (with_reducible refine (NB.out _ HW14.out (35 + (K1 : Int) : Int) (1 : Int) (35 + K1) (1) (by simp) rfl HYL1.out H35.out (by decide) _ EM1.out).mono ?_)
    rintro e w15 ⟨rfl, hb15⟩
    have BR15 := Lib.hid (BR14.out.later hb15)
    have BX15 := Lib.hid (BX14.out.later hb15)
    have BC15 := Lib.hid (BC14.out.later hb15)
    have HW15 := Lib.hid (step_ HW14.out hb15)
    have HG15 := Lib.hid (Nat.le_trans HG14.out hb15.size)
    skip
    have OX15 := Lib.hid (own_below OX14.out hb15)
    clear hb15
    go_wp2_with fail
    (with_reducible refine (PB.out _ HW15.out (36 + (K1 : Int) : Int) (M1 : Int) (36 + K1) (M1) (by simp) rfl HYL1.out H36.out HM1C.out).mono ?_)
    rintro e w16 ⟨uy, rfl, ouy, hb16⟩
    have BR16 := Lib.hid (BR15.out.later hb16)
    have BX16 := Lib.hid (BX15.out.later hb16)
    have BC16 := Lib.hid (BC15.out.later hb16)
    have HW16 := Lib.hid (step_ HW15.out hb16)
    have HG16 := Lib.hid (Nat.le_trans HG15.out hb16.size)
    have HB16 := Lib.hid hb16
    clear hb16
    have hY1 := partS_len ys (36 + K1) M1
    obtain ⟨Y1, eY1⟩ : ∃ X, X = partS ys (36 + K1) M1 := ⟨_, rfl⟩
    rw [← eY1] at ouy hY1
    have oy := own_lower ouy (base' := w8.heap.size + 1) BC15.out.lt
    have EY1 := Lib.hid eY1
    have HY1 := Lib.hid hY1
    obtain ⟨B2, l2, e2'⟩ := own_slice oy
    subst e2'
    have OY16 := Lib.hid oy
    have OX16 := Lib.hid (own_below OX15.out HB16.out)
    clear ouy oy eY1 hY1 HB16
    have kc := BC16.out.cell
    have fc := BC16.out.frozen
    have kx := BX16.out.cell
    have fx := BX16.out.frozen
    go_wp2_with fail
    have n5a : w.heap.size ≠ w5.heap.size := by have := BR5.out.lt; omega
    have n5c : w.heap.size ≤ w5.heap.size := by have := BR5.out.lt; omega
    have n58 : w5.heap.size < w8.heap.size + 1 := by have := BX8.out.lt; omega
    have ox := own_set_far (own_set_far (own_set_far (own_set_far (own_set_far (own_set_far (own_set_far (OX16.out) (p := ⟨w8.heap.size, 5, none⟩) (Nat.lt_succ_self _) (.slice B2 M1 l2)) (p := ⟨w5.heap.size, 4, none⟩) n58 (.int .u32 pg)) (p := ⟨w5.heap.size, 5, none⟩) n58 (.int .u16 sl)) (p := ⟨w5.heap.size, 6, none⟩) n58 (.bool qa)) (p := ⟨w5.heap.size, 7, none⟩) n58 (.bool qb)) (p := ⟨w5.heap.size, 8, none⟩) n58 (.slice B1 K1 l1)) (p := ⟨w5.heap.size, 9, none⟩) n58 (.slice B2 M1 l2)
    have oy := own_set_far (own_set_far (own_set_far (own_set_far (own_set_far (own_set_far (own_set_far (OY16.out) (p := ⟨w8.heap.size, 5, none⟩) (Nat.lt_succ_self _) (.slice B2 M1 l2)) (p := ⟨w5.heap.size, 4, none⟩) n58 (.int .u32 pg)) (p := ⟨w5.heap.size, 5, none⟩) n58 (.int .u16 sl)) (p := ⟨w5.heap.size, 6, none⟩) n58 (.bool qa)) (p := ⟨w5.heap.size, 7, none⟩) n58 (.bool qb)) (p := ⟨w5.heap.size, 8, none⟩) n58 (.slice B1 K1 l1)) (p := ⟨w5.heap.size, 9, none⟩) n58 (.slice B2 M1 l2)
    have r17 := Box.far (p := ⟨w5.heap.size, 9, none⟩) (Box.far (p := ⟨w5.heap.size, 8, none⟩) (Box.far (p := ⟨w5.heap.size, 7, none⟩) (Box.far (p := ⟨w5.heap.size, 6, none⟩) (Box.far (p := ⟨w5.heap.size, 5, none⟩) (Box.far (p := ⟨w5.heap.size, 4, none⟩) (Box.far (p := ⟨w8.heap.size, 5, none⟩) (BR16.out) n8a (.slice B2 M1 l2)) n5a (.int .u32 pg)) n5a (.int .u16 sl)) n5a (.bool qa)) n5a (.bool qb)) n5a (.slice B1 K1 l1)) n5a (.slice B2 M1 l2)
    have x17 := Box.set_ (Box.set_ (Box.set_ (Box.set_ (Box.set_ (Box.set_ (Box.far (p := ⟨w8.heap.size, 5, none⟩) (BX16.out) n8b (.slice B2 M1 l2)) 4 (.int .u32 pg)) 5 (.int .u16 sl)) 6 (.bool qa)) 7 (.bool qb)) 8 (.slice B1 K1 l1)) 9 (.slice B2 M1 l2)
    have h17 := Below.setCell (p := ⟨w5.heap.size, 9, none⟩) (Below.setCell (p := ⟨w5.heap.size, 8, none⟩) (Below.setCell (p := ⟨w5.heap.size, 7, none⟩) (Below.setCell (p := ⟨w5.heap.size, 6, none⟩) (Below.setCell (p := ⟨w5.heap.size, 5, none⟩) (Below.setCell (p := ⟨w5.heap.size, 4, none⟩) (Below.setCell (p := ⟨w8.heap.size, 5, none⟩) (HW16.out) n8c (.slice B2 M1 l2)) n5c (.int .u32 pg)) n5c (.int .u16 sl)) n5c (.bool qa)) n5c (.bool qb)) n5c (.slice B1 K1 l1)) n5c (.slice B2 M1 l2)
    simp only [List.setIfInBounds_toArray, List.set_cons_zero, List.set_cons_succ] at x17
    generalize hW : World.setCell _ (⟨w5.heap.size, 9, none⟩ : Addr) _ = w17 at ox oy r17 x17 h17 ⊢
    have BR17 := Lib.hid r17
    have BX17 := Lib.hid x17
    have HW17 := Lib.hid h17
    have RO17 := Lib.hid (show RcOwn w17 (w.heap.size + 1) ⟨k, t, p, n, ⟨pg, sl, qa, qb, X1, Y1⟩, [], []⟩ (.slice B1 K1 l1) (.slice B2 M1 l2) (.slice none 0 0) (.slice none 0 0) from
      ⟨by show w17.ownsRow _ _ _ _ X1.length _; rw [HX1.out]; exact own_lower ox (by have := BR8.out.lt; omega), by show w17.ownsRow _ _ _ _ Y1.length _; rw [HY1.out]; exact own_lower oy (by have := BR8.out.lt; omega), World.ownsRow_nil _ _ _ _, World.ownsRow_nil _ _ _ _⟩)
    have HR0 := Lib.hid (show pRc ys = ⟨k, t, p, n, ⟨pg, sl, qa, qb, X1, Y1⟩, [], []⟩ by
      have h8 : ¬ k = 8 := by have := HK.out; omega
      unfold pRc pChg
      rw [← EK.out, ← ET.out, ← EP.out, ← EN.out, if_pos HK.out, if_neg h8, if_neg h8, ← EPG.out, ← ESL.out, ← EF.out, ← EK1.out, Int.toNat_natCast, ← EM1.out, Int.toNat_natCast, ← EX1.out, ← EY1.out, ← HQA.out, ← HQB.out])
    have HOK := Lib.hid (show (⟨k, t, p, n, ⟨pg, sl, qa, qb, X1, Y1⟩, [], []⟩ : Rc).Ok by have := pRc_ok HYB.out; rw [HR0.out] at this; exact this)
    clear hW ox oy r17 x17 h17 kc fc kx fx w35 w36 wK1 wM1
    cases hm : mayS ⟨k, t, p, n, ⟨pg, sl, qa, qb, X1, Y1⟩, [], []⟩ with
    | false =>
      (with_reducible refine (encode_ref_no ⟨k, t, p, n, ⟨pg, sl, qa, qb, X1, Y1⟩, [], []⟩ hm (.slice B1 K1 l1) (.slice B2 M1 l2) (.slice none 0 0) (.slice none 0 0) _ _ (Nat.le_refl _) RO17.out.in_).mono ?_)
      rintro e w7 ⟨rfl, hb7⟩
      have BR7 := Lib.hid (BR17.out.later hb7)
      have HW7 := Lib.hid (step_ HW17.out hb7)
      have kR := BR7.out.cell
      have fR := BR7.out.frozen
      have HN := Lib.hid (show resD xs = (none, 61) by rw [HRES.out, HR0.out, if_neg (by rw [hm]; simp)])
      clear hb7
      go_wp2
      have b9 := Box.set_ (Box.set_ (Box.set_ (Box.set_ (Box.set_ (Box.set_ (Box.set_ (Box.set_ (Box.set_ (Box.set_ (Box.set_ (Box.set_ (BR7.out) 0 (.int .u8 0)) 1 (.int .u32 0)) 2 (.int .u64 0)) 3 (.int .u64 0)) 4 (.int .u32 0)) 5 (.int .u16 0)) 6 (.bool false)) 7 (.bool false)) 8 (.slice none 0 0)) 9 (.slice none 0 0)) 10 (.slice none 0 0)) 11 (.slice none 0 0)
      have h9 := Below.setCell (Below.setCell (Below.setCell (Below.setCell (Below.setCell (Below.setCell (Below.setCell (Below.setCell (Below.setCell (Below.setCell (Below.setCell (Below.setCell (HW7.out) (p := ⟨w.heap.size, 0, none⟩) (Nat.le_refl _) (.int .u8 0)) (p := ⟨w.heap.size, 1, none⟩) (Nat.le_refl _) (.int .u32 0)) (p := ⟨w.heap.size, 2, none⟩) (Nat.le_refl _) (.int .u64 0)) (p := ⟨w.heap.size, 3, none⟩) (Nat.le_refl _) (.int .u64 0)) (p := ⟨w.heap.size, 4, none⟩) (Nat.le_refl _) (.int .u32 0)) (p := ⟨w.heap.size, 5, none⟩) (Nat.le_refl _) (.int .u16 0)) (p := ⟨w.heap.size, 6, none⟩) (Nat.le_refl _) (.bool false)) (p := ⟨w.heap.size, 7, none⟩) (Nat.le_refl _) (.bool false)) (p := ⟨w.heap.size, 8, none⟩) (Nat.le_refl _) (.slice none 0 0)) (p := ⟨w.heap.size, 9, none⟩) (Nat.le_refl _) (.slice none 0 0)) (p := ⟨w.heap.size, 10, none⟩) (Nat.le_refl _) (.slice none 0 0)) (p := ⟨w.heap.size, 11, none⟩) (Nat.le_refl _) (.slice none 0 0)
      simp only [List.setIfInBounds_toArray, List.set_cons_zero, List.set_cons_succ] at b9
      generalize hW : (World.setCell _ (⟨w.heap.size, 11, none⟩ : Addr) _) = W9 at b9 h9 ⊢
      clear hW
      have b_0 : W9.cell? ⟨w.heap.size, 0, none⟩ = some (.int .u8 0) := b9.cell 0
      have b_1 : W9.cell? ⟨w.heap.size, 1, none⟩ = some (.int .u32 0) := b9.cell 1
      have b_2 : W9.cell? ⟨w.heap.size, 2, none⟩ = some (.int .u64 0) := b9.cell 2
      have b_3 : W9.cell? ⟨w.heap.size, 3, none⟩ = some (.int .u64 0) := b9.cell 3
      have b_4 : W9.cell? ⟨w.heap.size, 4, none⟩ = some (.int .u32 0) := b9.cell 4
      have b_5 : W9.cell? ⟨w.heap.size, 5, none⟩ = some (.int .u16 0) := b9.cell 5
      have b_6 : W9.cell? ⟨w.heap.size, 6, none⟩ = some (.bool false) := b9.cell 6
      have b_7 : W9.cell? ⟨w.heap.size, 7, none⟩ = some (.bool false) := b9.cell 7
      have b_8 : W9.cell? ⟨w.heap.size, 8, none⟩ = some (.slice none 0 0) := b9.cell 8
      have b_9 : W9.cell? ⟨w.heap.size, 9, none⟩ = some (.slice none 0 0) := b9.cell 9
      have b_10 : W9.cell? ⟨w.heap.size, 10, none⟩ = some (.slice none 0 0) := b9.cell 10
      have b_11 : W9.cell? ⟨w.heap.size, 11, none⟩ = some (.slice none 0 0) := b9.cell 11
      refine bodyPost_ret (v := .tuple #[.agg (bareC 0 0 0 0), .int .i64 0, .int .i64 61]) (by simp [results, Try.results17, go_sem, rcV, bareC, b_0, b_1, b_2, b_3, b_4, b_5, b_6, b_7, b_8, b_9, b_10, b_11]) rfl ?_
      exact RefPost.no HN.out h9
    | true =>
      (with_reducible refine (encode_ref_yes ⟨k, t, p, n, ⟨pg, sl, qa, qb, X1, Y1⟩, [], []⟩ HOK.out hm (.slice B1 K1 l1) (.slice B2 M1 l2) (.slice none 0 0) (.slice none 0 0) _ RO17.out.in_).mono ?_)
      rintro e w7 ⟨u, rfl, ou, hb7⟩
      have BR7 := Lib.hid (BR17.out.later hb7)
      have HW7 := Lib.hid (step_ HW17.out hb7)
      have BX7 := Lib.hid (BX17.out.later hb7)
      have RO7 := Lib.hid (RO17.out.later hb7)
      have kR := BR7.out.cell
      have fR := BR7.out.frozen
      have kX := BX7.out.cell
      obtain ⟨Au, cu, eu, _, _⟩ := (IR.of_own ou).form
      subst eu
      have t1 := (IR.of_own ou).text (P := Try.prog) (dst := 9) Try.underlying25 Try.underlying5 Try.underlying9
      have t2 := TY.out w7 HW7.out
      obtain ⟨q, hq⟩ : ∃ q, q = decide (encS ⟨k, t, p, n, ⟨pg, sl, qa, qb, X1, Y1⟩, [], []⟩ = ys) := ⟨_, rfl⟩
      have dq := str_ne (enc_bytes ⟨k, t, p, n, ⟨pg, sl, qa, qb, X1, Y1⟩, [], []⟩ HOK.out) HYB.out q hq
      have HQ := Lib.hid hq
      clear hb7 ou hq
      cases q
      · have HN := Lib.hid (show resD xs = (none, 61) by rw [HRES.out, HR0.out, if_neg (by have := HQ.out; simp at this; simp [this])])
        go_wp2
        have b9 := Box.set_ (Box.set_ (Box.set_ (Box.set_ (Box.set_ (Box.set_ (Box.set_ (Box.set_ (Box.set_ (Box.set_ (Box.set_ (Box.set_ (BR7.out) 0 (.int .u8 0)) 1 (.int .u32 0)) 2 (.int .u64 0)) 3 (.int .u64 0)) 4 (.int .u32 0)) 5 (.int .u16 0)) 6 (.bool false)) 7 (.bool false)) 8 (.slice none 0 0)) 9 (.slice none 0 0)) 10 (.slice none 0 0)) 11 (.slice none 0 0)
        have h9 := Below.setCell (Below.setCell (Below.setCell (Below.setCell (Below.setCell (Below.setCell (Below.setCell (Below.setCell (Below.setCell (Below.setCell (Below.setCell (Below.setCell (HW7.out) (p := ⟨w.heap.size, 0, none⟩) (Nat.le_refl _) (.int .u8 0)) (p := ⟨w.heap.size, 1, none⟩) (Nat.le_refl _) (.int .u32 0)) (p := ⟨w.heap.size, 2, none⟩) (Nat.le_refl _) (.int .u64 0)) (p := ⟨w.heap.size, 3, none⟩) (Nat.le_refl _) (.int .u64 0)) (p := ⟨w.heap.size, 4, none⟩) (Nat.le_refl _) (.int .u32 0)) (p := ⟨w.heap.size, 5, none⟩) (Nat.le_refl _) (.int .u16 0)) (p := ⟨w.heap.size, 6, none⟩) (Nat.le_refl _) (.bool false)) (p := ⟨w.heap.size, 7, none⟩) (Nat.le_refl _) (.bool false)) (p := ⟨w.heap.size, 8, none⟩) (Nat.le_refl _) (.slice none 0 0)) (p := ⟨w.heap.size, 9, none⟩) (Nat.le_refl _) (.slice none 0 0)) (p := ⟨w.heap.size, 10, none⟩) (Nat.le_refl _) (.slice none 0 0)) (p := ⟨w.heap.size, 11, none⟩) (Nat.le_refl _) (.slice none 0 0)
        simp only [List.setIfInBounds_toArray, List.set_cons_zero, List.set_cons_succ] at b9
        generalize hW : (World.setCell _ (⟨w.heap.size, 11, none⟩ : Addr) _) = W9 at b9 h9 ⊢
        clear hW
        have b_0 : W9.cell? ⟨w.heap.size, 0, none⟩ = some (.int .u8 0) := b9.cell 0
        have b_1 : W9.cell? ⟨w.heap.size, 1, none⟩ = some (.int .u32 0) := b9.cell 1
        have b_2 : W9.cell? ⟨w.heap.size, 2, none⟩ = some (.int .u64 0) := b9.cell 2
        have b_3 : W9.cell? ⟨w.heap.size, 3, none⟩ = some (.int .u64 0) := b9.cell 3
        have b_4 : W9.cell? ⟨w.heap.size, 4, none⟩ = some (.int .u32 0) := b9.cell 4
        have b_5 : W9.cell? ⟨w.heap.size, 5, none⟩ = some (.int .u16 0) := b9.cell 5
        have b_6 : W9.cell? ⟨w.heap.size, 6, none⟩ = some (.bool false) := b9.cell 6
        have b_7 : W9.cell? ⟨w.heap.size, 7, none⟩ = some (.bool false) := b9.cell 7
        have b_8 : W9.cell? ⟨w.heap.size, 8, none⟩ = some (.slice none 0 0) := b9.cell 8
        have b_9 : W9.cell? ⟨w.heap.size, 9, none⟩ = some (.slice none 0 0) := b9.cell 9
        have b_10 : W9.cell? ⟨w.heap.size, 10, none⟩ = some (.slice none 0 0) := b9.cell 10
        have b_11 : W9.cell? ⟨w.heap.size, 11, none⟩ = some (.slice none 0 0) := b9.cell 11
        refine bodyPost_ret (v := .tuple #[.agg (bareC 0 0 0 0), .int .i64 0, .int .i64 61]) (by simp [results, Try.results17, go_sem, rcV, bareC, b_0, b_1, b_2, b_3, b_4, b_5, b_6, b_7, b_8, b_9, b_10, b_11]) rfl ?_
        exact RefPost.no HN.out h9
      · have HN := Lib.hid (show resD xs = (some ⟨k, t, p, n, ⟨pg, sl, qa, qb, X1, Y1⟩, [], []⟩, 0) by rw [HRES.out, HR0.out, if_pos ⟨hm, by have := HQ.out; simpa using this⟩])
        go_wp2
        have b9 := Box.set_ (Box.set_ (Box.set_ (Box.set_ (Box.set_ (Box.set_ (Box.set_ (Box.set_ (Box.set_ (Box.set_ (Box.set_ (Box.set_ (BR7.out) 0 (.int .u8 k)) 1 (.int .u32 t)) 2 (.int .u64 p)) 3 (.int .u64 n)) 4 (.int .u32 pg)) 5 (.int .u16 sl)) 6 (.bool qa)) 7 (.bool qb)) 8 (.slice B1 K1 l1)) 9 (.slice B2 M1 l2)) 10 (.slice none 0 0)) 11 (.slice none 0 0)
        have h9 := Below.setCell (Below.setCell (Below.setCell (Below.setCell (Below.setCell (Below.setCell (Below.setCell (Below.setCell (Below.setCell (Below.setCell (Below.setCell (Below.setCell (HW7.out) (p := ⟨w.heap.size, 0, none⟩) (Nat.le_refl _) (.int .u8 k)) (p := ⟨w.heap.size, 1, none⟩) (Nat.le_refl _) (.int .u32 t)) (p := ⟨w.heap.size, 2, none⟩) (Nat.le_refl _) (.int .u64 p)) (p := ⟨w.heap.size, 3, none⟩) (Nat.le_refl _) (.int .u64 n)) (p := ⟨w.heap.size, 4, none⟩) (Nat.le_refl _) (.int .u32 pg)) (p := ⟨w.heap.size, 5, none⟩) (Nat.le_refl _) (.int .u16 sl)) (p := ⟨w.heap.size, 6, none⟩) (Nat.le_refl _) (.bool qa)) (p := ⟨w.heap.size, 7, none⟩) (Nat.le_refl _) (.bool qb)) (p := ⟨w.heap.size, 8, none⟩) (Nat.le_refl _) (.slice B1 K1 l1)) (p := ⟨w.heap.size, 9, none⟩) (Nat.le_refl _) (.slice B2 M1 l2)) (p := ⟨w.heap.size, 10, none⟩) (Nat.le_refl _) (.slice none 0 0)) (p := ⟨w.heap.size, 11, none⟩) (Nat.le_refl _) (.slice none 0 0)
        have r9 := RcOwn.far (RcOwn.far (RcOwn.far (RcOwn.far (RcOwn.far (RcOwn.far (RcOwn.far (RcOwn.far (RcOwn.far (RcOwn.far (RcOwn.far (RcOwn.far (RO7.out) (p := ⟨w.heap.size, 0, none⟩) (Nat.lt_succ_self _) (.int .u8 k)) (p := ⟨w.heap.size, 1, none⟩) (Nat.lt_succ_self _) (.int .u32 t)) (p := ⟨w.heap.size, 2, none⟩) (Nat.lt_succ_self _) (.int .u64 p)) (p := ⟨w.heap.size, 3, none⟩) (Nat.lt_succ_self _) (.int .u64 n)) (p := ⟨w.heap.size, 4, none⟩) (Nat.lt_succ_self _) (.int .u32 pg)) (p := ⟨w.heap.size, 5, none⟩) (Nat.lt_succ_self _) (.int .u16 sl)) (p := ⟨w.heap.size, 6, none⟩) (Nat.lt_succ_self _) (.bool qa)) (p := ⟨w.heap.size, 7, none⟩) (Nat.lt_succ_self _) (.bool qb)) (p := ⟨w.heap.size, 8, none⟩) (Nat.lt_succ_self _) (.slice B1 K1 l1)) (p := ⟨w.heap.size, 9, none⟩) (Nat.lt_succ_self _) (.slice B2 M1 l2)) (p := ⟨w.heap.size, 10, none⟩) (Nat.lt_succ_self _) (.slice none 0 0)) (p := ⟨w.heap.size, 11, none⟩) (Nat.lt_succ_self _) (.slice none 0 0)
        simp only [List.setIfInBounds_toArray, List.set_cons_zero, List.set_cons_succ] at b9
        generalize hW : (World.setCell _ (⟨w.heap.size, 11, none⟩ : Addr) _) = W9 at b9 h9 r9 ⊢
        clear hW
        have b_0 : W9.cell? ⟨w.heap.size, 0, none⟩ = some (.int .u8 k) := b9.cell 0
        have b_1 : W9.cell? ⟨w.heap.size, 1, none⟩ = some (.int .u32 t) := b9.cell 1
        have b_2 : W9.cell? ⟨w.heap.size, 2, none⟩ = some (.int .u64 p) := b9.cell 2
        have b_3 : W9.cell? ⟨w.heap.size, 3, none⟩ = some (.int .u64 n) := b9.cell 3
        have b_4 : W9.cell? ⟨w.heap.size, 4, none⟩ = some (.int .u32 pg) := b9.cell 4
        have b_5 : W9.cell? ⟨w.heap.size, 5, none⟩ = some (.int .u16 sl) := b9.cell 5
        have b_6 : W9.cell? ⟨w.heap.size, 6, none⟩ = some (.bool qa) := b9.cell 6
        have b_7 : W9.cell? ⟨w.heap.size, 7, none⟩ = some (.bool qb) := b9.cell 7
        have b_8 : W9.cell? ⟨w.heap.size, 8, none⟩ = some (.slice B1 K1 l1) := b9.cell 8
        have b_9 : W9.cell? ⟨w.heap.size, 9, none⟩ = some (.slice B2 M1 l2) := b9.cell 9
        have b_10 : W9.cell? ⟨w.heap.size, 10, none⟩ = some (.slice none 0 0) := b9.cell 10
        have b_11 : W9.cell? ⟨w.heap.size, 11, none⟩ = some (.slice none 0 0) := b9.cell 11
        refine bodyPost_ret (v := .tuple #[.agg (rcV ⟨k, t, p, n, ⟨pg, sl, qa, qb, X1, Y1⟩, [], []⟩ (.slice B1 K1 l1) (.slice B2 M1 l2) (.slice none 0 0) (.slice none 0 0)), .int .i64 K, .int .i64 0]) (by simp [results, Try.results17, go_sem, rcV, bareC, b_0, b_1, b_2, b_3, b_4, b_5, b_6, b_7, b_8, b_9, b_10, b_11]) rfl ?_
        have hz := RefPost.yes HN.out r9.in_ h9
        rw [KL.out] at hz
        exact hz
  case true =>
    have e3' : True := trivial
    go_wp2_with fail
    (with_reducible refine (NB.out _ HW6.out (27 : Int) (4 : Int) (27) (4) rfl rfl HYL1.out (by decide) (by decide) _ EPG.out).mono ?_)
    rintro e w7 ⟨rfl, hb7⟩
    have BR7 := Lib.hid (BR6.out.later hb7)
    have BX7 := Lib.hid (BX6.out.later hb7)
    have HW7 := Lib.hid (step_ HW6.out hb7)
    have HG7 := Lib.hid (Nat.le_trans HG6.out hb7.size)
    clear hb7
    go_wp2_with fail
    (with_reducible refine (NB.out _ HW7.out (31 : Int) (2 : Int) (31) (2) rfl rfl HYL1.out (by decide) (by decide) _ ESL.out).mono ?_)
    rintro e w8 ⟨rfl, hb8⟩
    have BR8 := Lib.hid (BR7.out.later hb8)
    have BX8 := Lib.hid (BX7.out.later hb8)
    have HW8 := Lib.hid (step_ HW7.out hb8)
    have HG8 := Lib.hid (Nat.le_trans HG7.out hb8.size)
    clear hb8
    have BR9 := Lib.hid (BR8.out.alloc (.cells #[.int .u32 pg, .int .u16 sl, .bool false, .bool false, .slice none 0 0, .slice none 0 0] 27))
    have BX9 := Lib.hid (BX8.out.alloc (.cells #[.int .u32 pg, .int .u16 sl, .bool false, .bool false, .slice none 0 0, .slice none 0 0] 27))
    have BC9 := Lib.hid (Box.new w8 #[.int .u32 pg, .int .u16 sl, .bool false, .bool false, .slice none 0 0, .slice none 0 0] 27)
    have HW9 := Lib.hid (new_ HW8.out (.cells #[.int .u32 pg, .int .u16 sl, .bool false, .bool false, .slice none 0 0, .slice none 0 0] 27))
    have HG9 := Lib.hid (show w.heap.size + 1 ≤ (w8.alloc (.cells #[.int .u32 pg, .int .u16 sl, .bool false, .bool false, .slice none 0 0, .slice none 0 0] 27)).heap.size by have := HG8.out; rw [World.size_alloc]; omega)
    go_wp2_with fail
    (with_reducible refine (NB.out _ HW9.out (33 : Int) (1 : Int) (33) (1) rfl rfl HYL1.out (by decide) (by decide) _ EF.out).mono ?_)
    rintro e w10 ⟨rfl, hb10⟩
    have BR10 := Lib.hid (BR9.out.later hb10)
    have BX10 := Lib.hid (BX9.out.later hb10)
    have BC10 := Lib.hid (BC9.out.later hb10)
    have HW10 := Lib.hid (step_ HW9.out hb10)
    have HG10 := Lib.hid (Nat.le_trans HG9.out hb10.size)
    clear hb10
    have kc := BC10.out.cell
    have fc := BC10.out.frozen
    go_wp2_with fail
    clear d1 d2 d3 d3' wk0 wk wt b1' b2' e2 e3' wpg wsl dqa dqb
    have n8a : w.heap.size ≠ w8.heap.size := by have := BR8.out.lt; omega
    have n8b : w5.heap.size ≠ w8.heap.size := by have := BX8.out.lt; omega
    have n8c : w.heap.size ≤ w8.heap.size := by have := BR8.out.lt; omega
    have r11 := Box.far (p := ⟨w8.heap.size, 3, none⟩) (Box.far (p := ⟨w8.heap.size, 2, none⟩) BR10.out n8a (.bool qa)) n8a (.bool qb)
    have x11 := Box.far (p := ⟨w8.heap.size, 3, none⟩) (Box.far (p := ⟨w8.heap.size, 2, none⟩) BX10.out n8b (.bool qa)) n8b (.bool qb)
    have c11 := Box.set_ (Box.set_ BC10.out 2 (.bool qa)) 3 (.bool qb)
    have h11 := Below.setCell (p := ⟨w8.heap.size, 3, none⟩) (Below.setCell (p := ⟨w8.heap.size, 2, none⟩) HW10.out n8c (.bool qa)) n8c (.bool qb)
    simp only [List.setIfInBounds_toArray, List.set_cons_zero, List.set_cons_succ] at c11
    generalize hW : World.setCell _ (⟨w8.heap.size, 3, none⟩ : Addr) _ = w11 at r11 x11 c11 h11 ⊢
    have HG11 := Lib.hid (show w.heap.size + 1 ≤ w11.heap.size from r11.lt)
    have BR11 := Lib.hid r11
    have BX11 := Lib.hid x11
    have BC11 := Lib.hid c11
    have HW11 := Lib.hid h11
    clear hW r11 x11 c11 h11 kc fc
    go_wp2_with fail
    (with_reducible refine (NB.out _ HW11.out (34 : Int) (1 : Int) (34) (1) rfl rfl HYL1.out (by decide) (by decide) _ EK1.out).mono ?_)
    rintro e w12 ⟨rfl, hb12⟩
    have BR12 := Lib.hid (BR11.out.later hb12)
    have BX12 := Lib.hid (BX11.out.later hb12)
    have BC12 := Lib.hid (BC11.out.later hb12)
    have HW12 := Lib.hid (step_ HW11.out hb12)
    have HG12 := Lib.hid (Nat.le_trans HG11.out hb12.size)
    clear hb12
    go_wp2_with fail
    (with_reducible refine (PB.out _ HW12.out (35 : Int) (K1 : Int) (35) (K1) rfl rfl HYL1.out (by decide) HK1C.out).mono ?_)
    rintro e w13 ⟨ux, rfl, oux, hb13⟩
    have BR13 := Lib.hid (BR12.out.later hb13)
    have BX13 := Lib.hid (BX12.out.later hb13)
    have BC13 := Lib.hid (BC12.out.later hb13)
    have HW13 := Lib.hid (step_ HW12.out hb13)
    have HG13 := Lib.hid (Nat.le_trans HG12.out hb13.size)
    have HB13 := Lib.hid hb13
    clear hb13
    have hX1 := partS_len ys 35 K1
    obtain ⟨X1, eX1⟩ : ∃ X, X = partS ys 35 K1 := ⟨_, rfl⟩
    rw [← eX1] at oux hX1
    have ox := own_lower oux (base' := w8.heap.size + 1) BC12.out.lt
    have bX1 : Bytes X1 := by rw [eX1]; exact partS_bytes HYB.out _ _
    have EX1 := Lib.hid eX1
    have HX1 := Lib.hid hX1
    have BX1_ := Lib.hid bX1
    obtain ⟨B1, l1, e1⟩ := own_slice ox
    subst e1
    have OX13 := Lib.hid ox
    clear oux ox eX1 hX1 bX1 HB13
    have kc := BC13.out.cell
    have fc := BC13.out.frozen
    go_wp2_with fail
    have ox := own_set_far (p := ⟨w8.heap.size, 4, none⟩) OX13.out (Nat.lt_succ_self _) (.slice B1 K1 l1)
    have r14 := Box.far (p := ⟨w8.heap.size, 4, none⟩) BR13.out n8a (.slice B1 K1 l1)
    have x14 := Box.far (p := ⟨w8.heap.size, 4, none⟩) BX13.out n8b (.slice B1 K1 l1)
    have c14 := Box.set_ BC13.out 4 (.slice B1 K1 l1)
    have h14 := Below.setCell (p := ⟨w8.heap.size, 4, none⟩) HW13.out n8c (.slice B1 K1 l1)
    simp only [List.setIfInBounds_toArray, List.set_cons_zero, List.set_cons_succ] at c14
    generalize hW : World.setCell _ (⟨w8.heap.size, 4, none⟩ : Addr) _ = w14 at ox r14 x14 c14 h14 ⊢
    have HG14 := Lib.hid (show w.heap.size + 1 ≤ w14.heap.size from r14.lt)
    have BR14 := Lib.hid r14
    have BX14 := Lib.hid x14
    have BC14 := Lib.hid c14
    have HW14 := Lib.hid h14
    have OX14 := Lib.hid ox
    clear hW ox r14 x14 c14 h14 kc fc
    go_wp2_with fail
    (with_reducible refine (NB.out _ HW14.out (35 + (K1 : Int) : Int) (1 : Int) (35 + K1) (1) (by simp) rfl HYL1.out H35.out (by decide) _ EM1.out).mono ?_)
    rintro e w15 ⟨rfl, hb15⟩
    have BR15 := Lib.hid (BR14.out.later hb15)
    have BX15 := Lib.hid (BX14.out.later hb15)
    have BC15 := Lib.hid (BC14.out.later hb15)
    have HW15 := Lib.hid (step_ HW14.out hb15)
    have HG15 := Lib.hid (Nat.le_trans HG14.out hb15.size)
    skip
    have OX15 := Lib.hid (own_below OX14.out hb15)
    clear hb15
    go_wp2_with fail
    (with_reducible refine (PB.out _ HW15.out (36 + (K1 : Int) : Int) (M1 : Int) (36 + K1) (M1) (by simp) rfl HYL1.out H36.out HM1C.out).mono ?_)
    rintro e w16 ⟨uy, rfl, ouy, hb16⟩
    have BR16 := Lib.hid (BR15.out.later hb16)
    have BX16 := Lib.hid (BX15.out.later hb16)
    have BC16 := Lib.hid (BC15.out.later hb16)
    have HW16 := Lib.hid (step_ HW15.out hb16)
    have HG16 := Lib.hid (Nat.le_trans HG15.out hb16.size)
    have HB16 := Lib.hid hb16
    clear hb16
    have hY1 := partS_len ys (36 + K1) M1
    obtain ⟨Y1, eY1⟩ : ∃ X, X = partS ys (36 + K1) M1 := ⟨_, rfl⟩
    rw [← eY1] at ouy hY1
    have oy := own_lower ouy (base' := w8.heap.size + 1) BC15.out.lt
    have EY1 := Lib.hid eY1
    have HY1 := Lib.hid hY1
    obtain ⟨B2, l2, e2'⟩ := own_slice oy
    subst e2'
    have OY16 := Lib.hid oy
    have OX16 := Lib.hid (own_below OX15.out HB16.out)
    clear ouy oy eY1 hY1 HB16
    have kc := BC16.out.cell
    have fc := BC16.out.frozen
    have kx := BX16.out.cell
    have fx := BX16.out.frozen
    go_wp2_with fail
    have n5a : w.heap.size ≠ w5.heap.size := by have := BR5.out.lt; omega
    have n5c : w.heap.size ≤ w5.heap.size := by have := BR5.out.lt; omega
    have n58 : w5.heap.size < w8.heap.size + 1 := by have := BX8.out.lt; omega
    have ox := own_set_far (own_set_far (own_set_far (own_set_far (own_set_far (own_set_far (own_set_far (OX16.out) (p := ⟨w8.heap.size, 5, none⟩) (Nat.lt_succ_self _) (.slice B2 M1 l2)) (p := ⟨w5.heap.size, 4, none⟩) n58 (.int .u32 pg)) (p := ⟨w5.heap.size, 5, none⟩) n58 (.int .u16 sl)) (p := ⟨w5.heap.size, 6, none⟩) n58 (.bool qa)) (p := ⟨w5.heap.size, 7, none⟩) n58 (.bool qb)) (p := ⟨w5.heap.size, 8, none⟩) n58 (.slice B1 K1 l1)) (p := ⟨w5.heap.size, 9, none⟩) n58 (.slice B2 M1 l2)
    have oy := own_set_far (own_set_far (own_set_far (own_set_far (own_set_far (own_set_far (own_set_far (OY16.out) (p := ⟨w8.heap.size, 5, none⟩) (Nat.lt_succ_self _) (.slice B2 M1 l2)) (p := ⟨w5.heap.size, 4, none⟩) n58 (.int .u32 pg)) (p := ⟨w5.heap.size, 5, none⟩) n58 (.int .u16 sl)) (p := ⟨w5.heap.size, 6, none⟩) n58 (.bool qa)) (p := ⟨w5.heap.size, 7, none⟩) n58 (.bool qb)) (p := ⟨w5.heap.size, 8, none⟩) n58 (.slice B1 K1 l1)) (p := ⟨w5.heap.size, 9, none⟩) n58 (.slice B2 M1 l2)
    have r17 := Box.far (p := ⟨w5.heap.size, 9, none⟩) (Box.far (p := ⟨w5.heap.size, 8, none⟩) (Box.far (p := ⟨w5.heap.size, 7, none⟩) (Box.far (p := ⟨w5.heap.size, 6, none⟩) (Box.far (p := ⟨w5.heap.size, 5, none⟩) (Box.far (p := ⟨w5.heap.size, 4, none⟩) (Box.far (p := ⟨w8.heap.size, 5, none⟩) (BR16.out) n8a (.slice B2 M1 l2)) n5a (.int .u32 pg)) n5a (.int .u16 sl)) n5a (.bool qa)) n5a (.bool qb)) n5a (.slice B1 K1 l1)) n5a (.slice B2 M1 l2)
    have x17 := Box.set_ (Box.set_ (Box.set_ (Box.set_ (Box.set_ (Box.set_ (Box.far (p := ⟨w8.heap.size, 5, none⟩) (BX16.out) n8b (.slice B2 M1 l2)) 4 (.int .u32 pg)) 5 (.int .u16 sl)) 6 (.bool qa)) 7 (.bool qb)) 8 (.slice B1 K1 l1)) 9 (.slice B2 M1 l2)
    have h17 := Below.setCell (p := ⟨w5.heap.size, 9, none⟩) (Below.setCell (p := ⟨w5.heap.size, 8, none⟩) (Below.setCell (p := ⟨w5.heap.size, 7, none⟩) (Below.setCell (p := ⟨w5.heap.size, 6, none⟩) (Below.setCell (p := ⟨w5.heap.size, 5, none⟩) (Below.setCell (p := ⟨w5.heap.size, 4, none⟩) (Below.setCell (p := ⟨w8.heap.size, 5, none⟩) (HW16.out) n8c (.slice B2 M1 l2)) n5c (.int .u32 pg)) n5c (.int .u16 sl)) n5c (.bool qa)) n5c (.bool qb)) n5c (.slice B1 K1 l1)) n5c (.slice B2 M1 l2)
    simp only [List.setIfInBounds_toArray, List.set_cons_zero, List.set_cons_succ] at x17
    generalize hW : World.setCell _ (⟨w5.heap.size, 9, none⟩ : Addr) _ = w17 at ox oy r17 x17 h17 ⊢
    have BR17 := Lib.hid r17
    have BX17 := Lib.hid x17
    have HW17 := Lib.hid h17
    have RO17 := Lib.hid (show RcOwn w17 (w.heap.size + 1) ⟨k, t, p, n, ⟨pg, sl, qa, qb, X1, Y1⟩, [], []⟩ (.slice B1 K1 l1) (.slice B2 M1 l2) (.slice none 0 0) (.slice none 0 0) from
      ⟨by show w17.ownsRow _ _ _ _ X1.length _; rw [HX1.out]; exact own_lower ox (by have := BR8.out.lt; omega), by show w17.ownsRow _ _ _ _ Y1.length _; rw [HY1.out]; exact own_lower oy (by have := BR8.out.lt; omega), World.ownsRow_nil _ _ _ _, World.ownsRow_nil _ _ _ _⟩)
    have HR0 := Lib.hid (show pRc ys = ⟨k, t, p, n, ⟨pg, sl, qa, qb, X1, Y1⟩, [], []⟩ by
      have h8 : ¬ k = 8 := by have := HK.out; omega
      unfold pRc pChg
      rw [← EK.out, ← ET.out, ← EP.out, ← EN.out, if_pos HK.out, if_neg h8, if_neg h8, ← EPG.out, ← ESL.out, ← EF.out, ← EK1.out, Int.toNat_natCast, ← EM1.out, Int.toNat_natCast, ← EX1.out, ← EY1.out, ← HQA.out, ← HQB.out])
    have HOK := Lib.hid (show (⟨k, t, p, n, ⟨pg, sl, qa, qb, X1, Y1⟩, [], []⟩ : Rc).Ok by have := pRc_ok HYB.out; rw [HR0.out] at this; exact this)
    clear hW ox oy r17 x17 h17 kc fc kx fx w35 w36 wK1 wM1
    cases hm : mayS ⟨k, t, p, n, ⟨pg, sl, qa, qb, X1, Y1⟩, [], []⟩ with
    | false =>
      (with_reducible refine (encode_ref_no ⟨k, t, p, n, ⟨pg, sl, qa, qb, X1, Y1⟩, [], []⟩ hm (.slice B1 K1 l1) (.slice B2 M1 l2) (.slice none 0 0) (.slice none 0 0) _ _ (Nat.le_refl _) RO17.out.in_).mono ?_)
      rintro e w7 ⟨rfl, hb7⟩
      have BR7 := Lib.hid (BR17.out.later hb7)
      have HW7 := Lib.hid (step_ HW17.out hb7)
      have kR := BR7.out.cell
      have fR := BR7.out.frozen
      have HN := Lib.hid (show resD xs = (none, 61) by rw [HRES.out, HR0.out, if_neg (by rw [hm]; simp)])
      clear hb7
      go_wp2
      have b9 := Box.set_ (Box.set_ (Box.set_ (Box.set_ (Box.set_ (Box.set_ (Box.set_ (Box.set_ (Box.set_ (Box.set_ (Box.set_ (Box.set_ (BR7.out) 0 (.int .u8 0)) 1 (.int .u32 0)) 2 (.int .u64 0)) 3 (.int .u64 0)) 4 (.int .u32 0)) 5 (.int .u16 0)) 6 (.bool false)) 7 (.bool false)) 8 (.slice none 0 0)) 9 (.slice none 0 0)) 10 (.slice none 0 0)) 11 (.slice none 0 0)
      have h9 := Below.setCell (Below.setCell (Below.setCell (Below.setCell (Below.setCell (Below.setCell (Below.setCell (Below.setCell (Below.setCell (Below.setCell (Below.setCell (Below.setCell (HW7.out) (p := ⟨w.heap.size, 0, none⟩) (Nat.le_refl _) (.int .u8 0)) (p := ⟨w.heap.size, 1, none⟩) (Nat.le_refl _) (.int .u32 0)) (p := ⟨w.heap.size, 2, none⟩) (Nat.le_refl _) (.int .u64 0)) (p := ⟨w.heap.size, 3, none⟩) (Nat.le_refl _) (.int .u64 0)) (p := ⟨w.heap.size, 4, none⟩) (Nat.le_refl _) (.int .u32 0)) (p := ⟨w.heap.size, 5, none⟩) (Nat.le_refl _) (.int .u16 0)) (p := ⟨w.heap.size, 6, none⟩) (Nat.le_refl _) (.bool false)) (p := ⟨w.heap.size, 7, none⟩) (Nat.le_refl _) (.bool false)) (p := ⟨w.heap.size, 8, none⟩) (Nat.le_refl _) (.slice none 0 0)) (p := ⟨w.heap.size, 9, none⟩) (Nat.le_refl _) (.slice none 0 0)) (p := ⟨w.heap.size, 10, none⟩) (Nat.le_refl _) (.slice none 0 0)) (p := ⟨w.heap.size, 11, none⟩) (Nat.le_refl _) (.slice none 0 0)
      simp only [List.setIfInBounds_toArray, List.set_cons_zero, List.set_cons_succ] at b9
      generalize hW : (World.setCell _ (⟨w.heap.size, 11, none⟩ : Addr) _) = W9 at b9 h9 ⊢
      clear hW
      have b_0 : W9.cell? ⟨w.heap.size, 0, none⟩ = some (.int .u8 0) := b9.cell 0
      have b_1 : W9.cell? ⟨w.heap.size, 1, none⟩ = some (.int .u32 0) := b9.cell 1
      have b_2 : W9.cell? ⟨w.heap.size, 2, none⟩ = some (.int .u64 0) := b9.cell 2
      have b_3 : W9.cell? ⟨w.heap.size, 3, none⟩ = some (.int .u64 0) := b9.cell 3
      have b_4 : W9.cell? ⟨w.heap.size, 4, none⟩ = some (.int .u32 0) := b9.cell 4
      have b_5 : W9.cell? ⟨w.heap.size, 5, none⟩ = some (.int .u16 0) := b9.cell 5
      have b_6 : W9.cell? ⟨w.heap.size, 6, none⟩ = some (.bool false) := b9.cell 6
      have b_7 : W9.cell? ⟨w.heap.size, 7, none⟩ = some (.bool false) := b9.cell 7
      have b_8 : W9.cell? ⟨w.heap.size, 8, none⟩ = some (.slice none 0 0) := b9.cell 8
      have b_9 : W9.cell? ⟨w.heap.size, 9, none⟩ = some (.slice none 0 0) := b9.cell 9
      have b_10 : W9.cell? ⟨w.heap.size, 10, none⟩ = some (.slice none 0 0) := b9.cell 10
      have b_11 : W9.cell? ⟨w.heap.size, 11, none⟩ = some (.slice none 0 0) := b9.cell 11
      refine bodyPost_ret (v := .tuple #[.agg (bareC 0 0 0 0), .int .i64 0, .int .i64 61]) (by simp [results, Try.results17, go_sem, rcV, bareC, b_0, b_1, b_2, b_3, b_4, b_5, b_6, b_7, b_8, b_9, b_10, b_11]) rfl ?_
      exact RefPost.no HN.out h9
    | true =>
      (with_reducible refine (encode_ref_yes ⟨k, t, p, n, ⟨pg, sl, qa, qb, X1, Y1⟩, [], []⟩ HOK.out hm (.slice B1 K1 l1) (.slice B2 M1 l2) (.slice none 0 0) (.slice none 0 0) _ RO17.out.in_).mono ?_)
      rintro e w7 ⟨u, rfl, ou, hb7⟩
      have BR7 := Lib.hid (BR17.out.later hb7)
      have HW7 := Lib.hid (step_ HW17.out hb7)
      have BX7 := Lib.hid (BX17.out.later hb7)
      have RO7 := Lib.hid (RO17.out.later hb7)
      have kR := BR7.out.cell
      have fR := BR7.out.frozen
      have kX := BX7.out.cell
      obtain ⟨Au, cu, eu, _, _⟩ := (IR.of_own ou).form
      subst eu
      have t1 := (IR.of_own ou).text (P := Try.prog) (dst := 9) Try.underlying25 Try.underlying5 Try.underlying9
      have t2 := TY.out w7 HW7.out
      obtain ⟨q, hq⟩ : ∃ q, q = decide (encS ⟨k, t, p, n, ⟨pg, sl, qa, qb, X1, Y1⟩, [], []⟩ = ys) := ⟨_, rfl⟩
      have dq := str_ne (enc_bytes ⟨k, t, p, n, ⟨pg, sl, qa, qb, X1, Y1⟩, [], []⟩ HOK.out) HYB.out q hq
      have HQ := Lib.hid hq
      clear hb7 ou hq
      cases q
      · have HN := Lib.hid (show resD xs = (none, 61) by rw [HRES.out, HR0.out, if_neg (by have := HQ.out; simp at this; simp [this])])
        go_wp2
        have b9 := Box.set_ (Box.set_ (Box.set_ (Box.set_ (Box.set_ (Box.set_ (Box.set_ (Box.set_ (Box.set_ (Box.set_ (Box.set_ (Box.set_ (BR7.out) 0 (.int .u8 0)) 1 (.int .u32 0)) 2 (.int .u64 0)) 3 (.int .u64 0)) 4 (.int .u32 0)) 5 (.int .u16 0)) 6 (.bool false)) 7 (.bool false)) 8 (.slice none 0 0)) 9 (.slice none 0 0)) 10 (.slice none 0 0)) 11 (.slice none 0 0)
        have h9 := Below.setCell (Below.setCell (Below.setCell (Below.setCell (Below.setCell (Below.setCell (Below.setCell (Below.setCell (Below.setCell (Below.setCell (Below.setCell (Below.setCell (HW7.out) (p := ⟨w.heap.size, 0, none⟩) (Nat.le_refl _) (.int .u8 0)) (p := ⟨w.heap.size, 1, none⟩) (Nat.le_refl _) (.int .u32 0)) (p := ⟨w.heap.size, 2, none⟩) (Nat.le_refl _) (.int .u64 0)) (p := ⟨w.heap.size, 3, none⟩) (Nat.le_refl _) (.int .u64 0)) (p := ⟨w.heap.size, 4, none⟩) (Nat.le_refl _) (.int .u32 0)) (p := ⟨w.heap.size, 5, none⟩) (Nat.le_refl _) (.int .u16 0)) (p := ⟨w.heap.size, 6, none⟩) (Nat.le_refl _) (.bool false)) (p := ⟨w.heap.size, 7, none⟩) (Nat.le_refl _) (.bool false)) (p := ⟨w.heap.size, 8, none⟩) (Nat.le_refl _) (.slice none 0 0)) (p := ⟨w.heap.size, 9, none⟩) (Nat.le_refl _) (.slice none 0 0)) (p := ⟨w.heap.size, 10, none⟩) (Nat.le_refl _) (.slice none 0 0)) (p := ⟨w.heap.size, 11, none⟩) (Nat.le_refl _) (.slice none 0 0)
        simp only [List.setIfInBounds_toArray, List.set_cons_zero, List.set_cons_succ] at b9
        generalize hW : (World.setCell _ (⟨w.heap.size, 11, none⟩ : Addr) _) = W9 at b9 h9 ⊢
        clear hW
        have b_0 : W9.cell? ⟨w.heap.size, 0, none⟩ = some (.int .u8 0) := b9.cell 0
        have b_1 : W9.cell? ⟨w.heap.size, 1, none⟩ = some (.int .u32 0) := b9.cell 1
        have b_2 : W9.cell? ⟨w.heap.size, 2, none⟩ = some (.int .u64 0) := b9.cell 2
        have b_3 : W9.cell? ⟨w.heap.size, 3, none⟩ = some (.int .u64 0) := b9.cell 3
        have b_4 : W9.cell? ⟨w.heap.size, 4, none⟩ = some (.int .u32 0) := b9.cell 4
        have b_5 : W9.cell? ⟨w.heap.size, 5, none⟩ = some (.int .u16 0) := b9.cell 5
        have b_6 : W9.cell? ⟨w.heap.size, 6, none⟩ = some (.bool false) := b9.cell 6
        have b_7 : W9.cell? ⟨w.heap.size, 7, none⟩ = some (.bool false) := b9.cell 7
        have b_8 : W9.cell? ⟨w.heap.size, 8, none⟩ = some (.slice none 0 0) := b9.cell 8
        have b_9 : W9.cell? ⟨w.heap.size, 9, none⟩ = some (.slice none 0 0) := b9.cell 9
        have b_10 : W9.cell? ⟨w.heap.size, 10, none⟩ = some (.slice none 0 0) := b9.cell 10
        have b_11 : W9.cell? ⟨w.heap.size, 11, none⟩ = some (.slice none 0 0) := b9.cell 11
        refine bodyPost_ret (v := .tuple #[.agg (bareC 0 0 0 0), .int .i64 0, .int .i64 61]) (by simp [results, Try.results17, go_sem, rcV, bareC, b_0, b_1, b_2, b_3, b_4, b_5, b_6, b_7, b_8, b_9, b_10, b_11]) rfl ?_
        exact RefPost.no HN.out h9
      · have HN := Lib.hid (show resD xs = (some ⟨k, t, p, n, ⟨pg, sl, qa, qb, X1, Y1⟩, [], []⟩, 0) by rw [HRES.out, HR0.out, if_pos ⟨hm, by have := HQ.out; simpa using this⟩])
        go_wp2
        have b9 := Box.set_ (Box.set_ (Box.set_ (Box.set_ (Box.set_ (Box.set_ (Box.set_ (Box.set_ (Box.set_ (Box.set_ (Box.set_ (Box.set_ (BR7.out) 0 (.int .u8 k)) 1 (.int .u32 t)) 2 (.int .u64 p)) 3 (.int .u64 n)) 4 (.int .u32 pg)) 5 (.int .u16 sl)) 6 (.bool qa)) 7 (.bool qb)) 8 (.slice B1 K1 l1)) 9 (.slice B2 M1 l2)) 10 (.slice none 0 0)) 11 (.slice none 0 0)
        have h9 := Below.setCell (Below.setCell (Below.setCell (Below.setCell (Below.setCell (Below.setCell (Below.setCell (Below.setCell (Below.setCell (Below.setCell (Below.setCell (Below.setCell (HW7.out) (p := ⟨w.heap.size, 0, none⟩) (Nat.le_refl _) (.int .u8 k)) (p := ⟨w.heap.size, 1, none⟩) (Nat.le_refl _) (.int .u32 t)) (p := ⟨w.heap.size, 2, none⟩) (Nat.le_refl _) (.int .u64 p)) (p := ⟨w.heap.size, 3, none⟩) (Nat.le_refl _) (.int .u64 n)) (p := ⟨w.heap.size, 4, none⟩) (Nat.le_refl _) (.int .u32 pg)) (p := ⟨w.heap.size, 5, none⟩) (Nat.le_refl _) (.int .u16 sl)) (p := ⟨w.heap.size, 6, none⟩) (Nat.le_refl _) (.bool qa)) (p := ⟨w.heap.size, 7, none⟩) (Nat.le_refl _) (.bool qb)) (p := ⟨w.heap.size, 8, none⟩) (Nat.le_refl _) (.slice B1 K1 l1)) (p := ⟨w.heap.size, 9, none⟩) (Nat.le_refl _) (.slice B2 M1 l2)) (p := ⟨w.heap.size, 10, none⟩) (Nat.le_refl _) (.slice none 0 0)) (p := ⟨w.heap.size, 11, none⟩) (Nat.le_refl _) (.slice none 0 0)
        have r9 := RcOwn.far (RcOwn.far (RcOwn.far (RcOwn.far (RcOwn.far (RcOwn.far (RcOwn.far (RcOwn.far (RcOwn.far (RcOwn.far (RcOwn.far (RcOwn.far (RO7.out) (p := ⟨w.heap.size, 0, none⟩) (Nat.lt_succ_self _) (.int .u8 k)) (p := ⟨w.heap.size, 1, none⟩) (Nat.lt_succ_self _) (.int .u32 t)) (p := ⟨w.heap.size, 2, none⟩) (Nat.lt_succ_self _) (.int .u64 p)) (p := ⟨w.heap.size, 3, none⟩) (Nat.lt_succ_self _) (.int .u64 n)) (p := ⟨w.heap.size, 4, none⟩) (Nat.lt_succ_self _) (.int .u32 pg)) (p := ⟨w.heap.size, 5, none⟩) (Nat.lt_succ_self _) (.int .u16 sl)) (p := ⟨w.heap.size, 6, none⟩) (Nat.lt_succ_self _) (.bool qa)) (p := ⟨w.heap.size, 7, none⟩) (Nat.lt_succ_self _) (.bool qb)) (p := ⟨w.heap.size, 8, none⟩) (Nat.lt_succ_self _) (.slice B1 K1 l1)) (p := ⟨w.heap.size, 9, none⟩) (Nat.lt_succ_self _) (.slice B2 M1 l2)) (p := ⟨w.heap.size, 10, none⟩) (Nat.lt_succ_self _) (.slice none 0 0)) (p := ⟨w.heap.size, 11, none⟩) (Nat.lt_succ_self _) (.slice none 0 0)
        simp only [List.setIfInBounds_toArray, List.set_cons_zero, List.set_cons_succ] at b9
        generalize hW : (World.setCell _ (⟨w.heap.size, 11, none⟩ : Addr) _) = W9 at b9 h9 r9 ⊢
        clear hW
        have b_0 : W9.cell? ⟨w.heap.size, 0, none⟩ = some (.int .u8 k) := b9.cell 0
        have b_1 : W9.cell? ⟨w.heap.size, 1, none⟩ = some (.int .u32 t) := b9.cell 1
        have b_2 : W9.cell? ⟨w.heap.size, 2, none⟩ = some (.int .u64 p) := b9.cell 2
        have b_3 : W9.cell? ⟨w.heap.size, 3, none⟩ = some (.int .u64 n) := b9.cell 3
        have b_4 : W9.cell? ⟨w.heap.size, 4, none⟩ = some (.int .u32 pg) := b9.cell 4
        have b_5 : W9.cell? ⟨w.heap.size, 5, none⟩ = some (.int .u16 sl) := b9.cell 5
        have b_6 : W9.cell? ⟨w.heap.size, 6, none⟩ = some (.bool qa) := b9.cell 6
        have b_7 : W9.cell? ⟨w.heap.size, 7, none⟩ = some (.bool qb) := b9.cell 7
        have b_8 : W9.cell? ⟨w.heap.size, 8, none⟩ = some (.slice B1 K1 l1) := b9.cell 8
        have b_9 : W9.cell? ⟨w.heap.size, 9, none⟩ = some (.slice B2 M1 l2) := b9.cell 9
        have b_10 : W9.cell? ⟨w.heap.size, 10, none⟩ = some (.slice none 0 0) := b9.cell 10
        have b_11 : W9.cell? ⟨w.heap.size, 11, none⟩ = some (.slice none 0 0) := b9.cell 11
        refine bodyPost_ret (v := .tuple #[.agg (rcV ⟨k, t, p, n, ⟨pg, sl, qa, qb, X1, Y1⟩, [], []⟩ (.slice B1 K1 l1) (.slice B2 M1 l2) (.slice none 0 0) (.slice none 0 0)), .int .i64 K, .int .i64 0]) (by simp [results, Try.results17, go_sem, rcV, bareC, b_0, b_1, b_2, b_3, b_4, b_5, b_6, b_7, b_8, b_9, b_10, b_11]) rfl ?_
        have hz := RefPost.yes HN.out r9.in_ h9
        rw [KL.out] at hz
        exact hz
end Go.Proofs.Ytbbphfhkedldmaa.Rec

/- The document's Decode: tables. -/
namespace Go.Proofs.Ytbbphfhkedldmaa.Rec
open Go.ChangeShapes Go.WideShapes Go.ChangeAt Go.RowKit Go.IntWalk Go.Proofs.NumMath Go.Proofs.Mem Go.Proofs.CrcMath NumBytes CrcA Go.Proofs.Each
set_option linter.unusedVariables false
set_option linter.unusedSimpArgs false
theorem pTs_succ (ys : List Int) (j : Nat) (h : j < nT ys) : (pTs ys).take (j + 1) = (pTs ys).take j ++ [pAc ys (28 + 21 * j)] := by
  unfold pTs; rw [List.take_succ_eq_append_getElem (by simpa using h)]; simp
theorem pDs_succ (ys : List Int) (j : Nat) (h : j < nD ys) : (pDs ys).take (j + 1) = (pDs ys).take j ++ [pDt ys (29 + 21 * nT ys + 12 * j)] := by
  unfold pDs; rw [List.take_succ_eq_append_getElem (by simpa using h)]; simp
theorem fm_snoc {α : Type} (F : α → List Value) (l : List α) (x : α) : (l ++ [x]).flatMap F = l.flatMap F ++ F x := by simp
theorem own_cast {W : World} {b n m sz : Nat} {e : TypeId} {v : Value} {xs ys : List Value} (h : W.ownsRow b e sz v n xs) (hn : n = m) (hx : xs = ys) : W.ownsRow b e sz v m ys := by subst hn hx; exact h
theorem lt_add (m : Nat) (k : Nat) (hm : m ≤ 50000) (hk : k ≤ 100) : wrap64 ((m : Int) + (k : Int)) = (m : Int) + (k : Int) := wrap64_in _ (by omega)
theorem le_trans3 {j N : Nat} (h : j ≤ N) (hN : N ≤ 255) : j ≤ 50000 := by omega
theorem m_bd2 {j N D m : Nat} (hj : j ≤ D) (hN : N ≤ 255) (hD : D ≤ 255) (hm : m = 29 + 21 * N + 12 * j) : m ≤ 20000 := by omega
theorem vi64 (m k : Nat) (h : m ≤ 50000) (hk : k ≤ 100 := by decide) : Value.int .i64 (wrap64 ((m : Int) + (k : Int))) = Value.int .i64 ((m + k : Nat) : Int) := by rw [wrap64_in _ (by omega)]; congr 1
theorem msr {j N : Nat} (h : j < N) (hN : N ≤ 255) : N - (intOf (Value.int .i64 (wrap64 ((j : Int) + 1)))).toNat < N - (intOf (Value.int .i64 (j : Int))).toNat := by rw [wrap64_in _ (by omega)]; simp only [intOf]; omega
theorem m_start {m N : Nat} (h : m = 28 + 21 * N) : m + 1 = 29 + 21 * N + 12 * 0 := by omega
theorem m_next {m j : Nat} (h : m = 28 + 21 * j) : m + 21 = 28 + 21 * (j + 1) := by omega
theorem m_next2 {m j N : Nat} (h : m = 29 + 21 * N + 12 * j) : m + 12 = 29 + 21 * N + 12 * (j + 1) := by omega
theorem v_add (m k : Nat) (h : m ≤ 20000) (hk : k ≤ 100 := by decide) : IntKind.i64.wrap ((m : Int) + (k : Int)) = (m : Int) + (k : Int) := IntWalk.i64_in _ (by omega)
theorem mle5 {m : Nat} (h : m ≤ 20000) : m ≤ 50000 := by omega
theorem mle0 {m : Nat} (h : m ≤ 20000) : m ≤ 100000 := by omega
theorem m_bd {j N m : Nat} (hj : j ≤ N) (hN : N ≤ 255) (hm : m = 28 + 21 * j) : m ≤ 20000 := by omega
theorem mle {m : Nat} (h : m ≤ 20000) (k : Nat) (hk : k ≤ 100 := by decide) : m + k ≤ 100000 := by omega
set_option maxRecDepth 100000 in
set_option maxHeartbeats 32000000 in
theorem decref_tables (w : World) (v : Value) (xs : List Int) (hv : IR w w.heap.size .u8 v xs) (hx : Bytes xs) (hxl : xs.length ≤ 100000) (h27 : 27 ≤ xs.length) (h0 : lenB xs ≠ 0) (hle : lenB xs ≤ xs.length) (hk : numS (xs.take (lenB xs)) 6 1 = 8) :
    Calls Try.prog 17 #[v] w (RefPost w xs) := by
  obtain ⟨A, c, rfl, hlc, hcm⟩ := hv.form
  unfold maxLen at hcm
  obtain ⟨L, hL⟩ : ∃ L, L = xs.length := ⟨_, rfl⟩
  have hb2 := numS_bd hx 0 2
  rw [show (2 : Int) ^ (8 * 2) = 65536 from rfl] at hb2
  obtain ⟨K, hK⟩ : ∃ K : Nat, (K : Int) = numS xs 0 2 := ⟨(numS xs 0 2).toNat, by omega⟩
  have hKl : lenB xs = K := by
    unfold lenB; rw [← partS_take xs 2 (by omega)]; show (numS xs 0 2).toNat = K; rw [← hK]; rfl
  obtain ⟨ys, hys⟩ : ∃ ys, ys = xs.take K := ⟨_, rfl⟩
  rw [hKl, ← hys] at hk
  have hyb : Bytes ys := by rw [hys]; exact bytes_take hx K
  have hyl : ys.length = K := by rw [hys, List.length_take]; omega
  have HRES := Lib.hid (show resD xs = if mayS (pRc ys) = true ∧ encS (pRc ys) = ys then (some (pRc ys), 0) else (none, 61) by
    rw [← refD_res xs hx]; unfold refD; rw [if_neg (by omega), if_neg (by omega), hKl, ← hys])
  have hvy : IR w w.heap.size .u8 (.slice A K c) ys := by rw [hys]; rw [← hL] at hv; exact hv.take (by omega)
  have N1 := Lib.hid (numref_at _ xs (w.alloc (.cells (bareC 0 0 0 0) 31)) ((hv.alloc (Nat.le_refl _) _).more (by simp)) hx 0 2 0 2 rfl rfl hxl (by omega) (by omega) K hK)
  rw [← hL] at N1 ⊢
  have NB := Lib.hid (fun W (h : Below w.heap.size w W) => numref_at (.slice A K c) ys W ((hvy.below h).more h.size) hyb)
  have PB := Lib.hid (fun W (h : Below w.heap.size w W) => partref_at (.slice A K c) ys W ((hvy.below h).more h.size))
  have TY := Lib.hid (fun W (h : Below w.heap.size w W) => (hvy.below h).text (P := Try.prog) (dst := 9) Try.underlying25 Try.underlying5 Try.underlying9)
  have HYL := Lib.hid hyl
  have HYB := Lib.hid hyb
  have b1 := nb8 (numS_bd hyb 6 1)
  have b4 := nb32 (numS_bd hyb 7 4)
  have b8a := nb64 (numS_bd hyb 11 8)
  have b8b := nb64 (numS_bd hyb 19 8)
  have hkk : 27 ≤ L := by omega
  have hKL : K ≤ L := by omega
  have hK0 : K ≠ 0 := by omega
  have hK1 : K ≤ 100000 := by omega
  obtain ⟨k, ek⟩ : ∃ k, k = numS ys 6 1 := ⟨_, rfl⟩
  obtain ⟨t, et⟩ : ∃ k, k = numS ys 7 4 := ⟨_, rfl⟩
  obtain ⟨p, ep⟩ : ∃ k, k = numS ys 11 8 := ⟨_, rfl⟩
  obtain ⟨n, en⟩ : ∃ k, k = numS ys 19 8 := ⟨_, rfl⟩
  have EK := Lib.hid ek
  have ET := Lib.hid et
  have EP := Lib.hid ep
  have EN := Lib.hid en
  rw [← ek] at b1 hk
  rw [← et] at b4
  rw [← ep] at b8a
  rw [← en] at b8b
  have wk0 : IntKind.i64.wrap (K : Int) = (K : Int) := IntWalk.i64_in _ (by omega)
  have wk : IntKind.u8.wrap k = k := u8_wrap' b1.1 b1.2
  have wt : IntKind.u32.wrap t = t := u32_wrap b4.1 b4.2
  have d1 : decide ((L : Int) < 27) = false := by simp; omega
  have d2 : ((K : Int) == 0) = false := by rw [beq_zero]; simp; omega
  have d3 : decide ((L : Int) < (K : Int)) = false := by simp; omega
  have d3' : decide (L < K) = false := by simp; omega
  have b1' : (0 : Int) ≤ (K : Int) := by omega
  have b2' : (K : Int) ≤ (c : Int) := by omega
  have KL := Lib.hid hKl
  have BR0 := Lib.hid (Box.new w (bareC 0 0 0 0) 31)
  clear hv hvy hK hKl hb2 hxl hL hyl hyb hys ek et ep en h27 h0 hle hx
  have cbN := nb8 (numS_bd HYB.out 27 1)
  obtain ⟨N, eN⟩ : ∃ k : Nat, (k : Int) = numS ys 27 1 := ⟨(numS ys 27 1).toNat, by omega⟩
  have hNT : nT ys = N := by unfold nT; rw [← eN, Int.toNat_natCast]
  have cbD := nb8 (numS_bd HYB.out (28 + 21 * N) 1)
  obtain ⟨D, eD⟩ : ∃ k : Nat, (k : Int) = numS ys (28 + 21 * N) 1 := ⟨(numS ys (28 + 21 * N) 1).toNat, by omega⟩
  have hND : nD ys = D := by unfold nD; rw [hNT, ← eD, Int.toNat_natCast]
  have hNb : N ≤ 255 := by omega
  have hDb : D ≤ 255 := by omega
  have hyl1 : ys.length ≤ 100000 := by have := HYL.out; omega
  have wN : IntKind.i64.wrap (N : Int) = (N : Int) := w64_nat N hNb
  have wD : IntKind.i64.wrap (D : Int) = (D : Int) := w64_nat D hDb
  have EN1 := Lib.hid eN
  have ED1 := Lib.hid eD
  have HNT := Lib.hid hNT
  have HND := Lib.hid hND
  have e2 : (k == 2) = false := by rw [beq_eq_false_iff_ne]; omega
  have e3 : (k == 3) = false := by rw [beq_eq_false_iff_ne]; omega
  have e8 : (k == 8) = true := by rw [beq_iff_eq]; exact hk
  have HYL1 := Lib.hid hyl1
  have HK := Lib.hid hk
  obtain ⟨j0, hj0, hj1, hj2, hj3⟩ := info_parts ac_info
  obtain ⟨i0, hi0, hi1, hi2, hi3⟩ := info_parts dt_info
  clear eN eD hNT hND cbN cbD hyl1 hk b1 b4 b8a b8b hkk hKL hK0 hK1
  go_enter Try.func17, Try.ntmps17
  go_wp2_with fail
  (with_reducible refine N1.out.mono ?_)
  rintro e w1 ⟨rfl, hb1⟩
  have BR1 := Lib.hid (BR0.out.later hb1)
  have HW1 := Lib.hid ((new_ (Below.refl w.heap.size w) (.cells (bareC 0 0 0 0) 31)).trans (hb1.mono (by simp)))
  have HG1 := Lib.hid (show w.heap.size + 1 ≤ w1.heap.size by have := hb1.size; rw [World.size_alloc] at this; exact this)
  clear hb1
  go_wp2_with fail
  (with_reducible refine (NB.out _ HW1.out (6 : Int) (1 : Int) 6 1 rfl rfl HYL1.out (by decide) (by decide) _ EK.out).mono ?_)
  rintro e w2 ⟨rfl, hb2⟩
  have BR2 := Lib.hid (BR1.out.later hb2)
  have HW2 := Lib.hid (step_ HW1.out hb2)
  have HG2 := Lib.hid (Nat.le_trans HG1.out hb2.size)
  clear hb2
  go_wp2_with fail
  (with_reducible refine (NB.out _ HW2.out (7 : Int) (4 : Int) 7 4 rfl rfl HYL1.out (by decide) (by decide) _ ET.out).mono ?_)
  rintro e w3 ⟨rfl, hb3⟩
  have BR3 := Lib.hid (BR2.out.later hb3)
  have HW3 := Lib.hid (step_ HW2.out hb3)
  have HG3 := Lib.hid (Nat.le_trans HG2.out hb3.size)
  clear hb3
  go_wp2_with fail
  (with_reducible refine (NB.out _ HW3.out (11 : Int) (8 : Int) 11 8 rfl rfl HYL1.out (by decide) (by decide) _ EP.out).mono ?_)
  rintro e w4 ⟨rfl, hb4⟩
  have BR4 := Lib.hid (BR3.out.later hb4)
  have HW4 := Lib.hid (step_ HW3.out hb4)
  have HG4 := Lib.hid (Nat.le_trans HG3.out hb4.size)
  clear hb4
  go_wp2_with fail
  (with_reducible refine (NB.out _ HW4.out (19 : Int) (8 : Int) 19 8 rfl rfl HYL1.out (by decide) (by decide) _ EN.out).mono ?_)
  rintro e w5 ⟨rfl, hb5⟩
  have BR5 := Lib.hid (BR4.out.later hb5)
  have HW5 := Lib.hid (step_ HW4.out hb5)
  have HG5 := Lib.hid (Nat.le_trans HG4.out hb5.size)
  clear hb5
  have BX6 := Lib.hid (Box.new w5 #[.int .u8 k, .int .u32 t, .int .u64 p, .int .u64 n, .int .u32 0, .int .u16 0, .bool false, .bool false, .slice none 0 0, .slice none 0 0, .slice none 0 0, .slice none 0 0] 31)
  have BR6 := Lib.hid (BR5.out.alloc (.cells #[.int .u8 k, .int .u32 t, .int .u64 p, .int .u64 n, .int .u32 0, .int .u16 0, .bool false, .bool false, .slice none 0 0, .slice none 0 0, .slice none 0 0, .slice none 0 0] 31))
  have HW6 := Lib.hid (new_ HW5.out (.cells #[.int .u8 k, .int .u32 t, .int .u64 p, .int .u64 n, .int .u32 0, .int .u16 0, .bool false, .bool false, .slice none 0 0, .slice none 0 0, .slice none 0 0, .slice none 0 0] 31))
  have k6 := BX6.out.cell
  obtain ⟨g6, hg6⟩ : ∃ g, g = w5.heap.size := ⟨_, rfl⟩
  obtain ⟨W6, hW6⟩ : ∃ W, W = w5.alloc (.cells #[.int .u8 k, .int .u32 t, .int .u64 p, .int .u64 n, .int .u32 0, .int .u16 0, .bool false, .bool false, .slice none 0 0, .slice none 0 0, .slice none 0 0, .slice none 0 0] 31) := ⟨_, rfl⟩
  have n5a : w.heap.size < w5.heap.size := BR5.out.lt
  go_wp2
  clear d1 d2 d3 d3' wk0 wk wt b1' b2' e2 e3 e8
  go_loopw [11, 12] (fun a i wr => ∃ (j m : Nat) (A1 : Option Addr) (l1 : Nat), j ≤ N ∧ m = 28 + 21 * j ∧ a = .int .i64 m ∧ i = .int .i64 j ∧ Box wr w.heap.size (bareC 0 0 0 0) 31 ∧
      Box wr w5.heap.size #[.int .u8 k, .int .u32 t, .int .u64 p, .int .u64 n, .int .u32 0, .int .u16 0, .bool false, .bool false, .slice none 0 0, .slice none 0 0, .slice A1 j l1, .slice none 0 0] 31 ∧
      wr.ownsRow (w5.heap.size + 1) 64 4 (.slice A1 j l1) j (((pTs ys).take j).flatMap cAc) ∧ Below w.heap.size w wr) (fun _ i _ => N - (intOf i).toNat)
  case atStart => exact ⟨0, 28, none, 0, Nat.zero_le _, rfl, rfl, rfl, BR6.out, BX6.out, by rw [List.take_zero]; exact World.ownsRow_nil _ _ _ _, HW6.out⟩
  case round =>
    obtain ⟨j, m, A1, l1, hj, hm, rfl, rfl, br, bx, ow, hw⟩ := hrel
    have BRr := Lib.hid br
    have BXr := Lib.hid bx
    have OWr := Lib.hid ow
    have HWr := Lib.hid hw
    have HMJ := Lib.hid hm
    have HMB := Lib.hid (show m ≤ 20000 from m_bd hj hNb hm)
    obtain ⟨q, hq⟩ : ∃ q, q = decide (j < N) := ⟨_, rfl⟩
    have dq : decide ((j : Int) < (N : Int)) = q := by rw [hq, decide_eq_decide]; omega
    have HQ := Lib.hid hq
    clear br bx ow hw hm hq
    go_wp2_with fail
    (with_reducible refine (NB.out _ HWr.out (27 : Int) (1 : Int) 27 1 rfl rfl HYL1.out (by decide) (by decide) _ EN1.out).mono ?_)
    rintro e w7 ⟨rfl, hb7⟩
    have BR7 := Lib.hid (BRr.out.later hb7)
    have BX7 := Lib.hid (BXr.out.later hb7)
    have OW7 := Lib.hid (own_below OWr.out hb7)
    have HW7 := Lib.hid (step_ HWr.out hb7)
    clear hb7
    cases q
    case true =>
      have hjN : j < N := by simpa using HQ.out.symm
      have w4 : wrap64 ((m : Int) + 4) = (m : Int) + 4 := lt_add m 4 (mle5 HMB.out) (by decide)
      have w12 : wrap64 ((m : Int) + 12) = (m : Int) + 12 := lt_add m 12 (mle5 HMB.out) (by decide)
      have w20 : wrap64 ((m : Int) + 20) = (m : Int) + 20 := lt_add m 20 (mle5 HMB.out) (by decide)
      obtain ⟨T1, eT⟩ : ∃ k, k = numS ys m 4 := ⟨_, rfl⟩
      obtain ⟨L1, eL⟩ : ∃ k, k = numS ys (m + 4) 8 := ⟨_, rfl⟩
      obtain ⟨U1, eU⟩ : ∃ k, k = numS ys (m + 12) 8 := ⟨_, rfl⟩
      obtain ⟨S1, eS⟩ : ∃ k, k = numS ys (m + 20) 1 := ⟨_, rfl⟩
      have wT : IntKind.u32.wrap T1 = T1 := by rw [eT]; exact u32_wrap (nb32 (numS_bd HYB.out m 4)).1 (nb32 (numS_bd HYB.out m 4)).2
      have wS : IntKind.u8.wrap S1 = S1 := by rw [eS]; exact u8_wrap (nb8 (numS_bd HYB.out (m + 20) 1)).1 (nb8 (numS_bd HYB.out (m + 20) 1)).2
      have ETT := Lib.hid eT
      have EL1 := Lib.hid eL
      have EU1 := Lib.hid eU
      have ES1 := Lib.hid eS
      have HGB := Lib.hid (Nat.le_refl (w5.heap.size + 1))
      have HBS := Lib.hid (show w5.heap.size + 1 ≤ w7.heap.size from BX7.out.lt)
      have HRG : (Value.slice A1 j l1).ownBlock ≠ some w5.heap.size := fun e => by have := (OW7.out.lt _ e).1; omega
      have HRL : ∀ g, (Value.slice A1 j l1).ownBlock = some g → g < w7.heap.size := fun g e => (OW7.out.lt _ e).2
      have one_cells : ∀ u ∈ [Value.int .u32 T1, Value.int .u64 L1, Value.int .u64 U1, Value.int .u8 S1], u.oneCell' = true := by intro u hu; simp only [List.mem_cons, List.not_mem_nil, or_false] at hu; rcases hu with rfl | rfl | rfl | rfl <;> rfl
      clear eT eL eU eS
      go_wp2
      refine wp_region_app (by kernel_rfl) (by kernel_rfl) (Value.slice A1 j l1).ownBlock w5.heap.size 21 23 31 (fun v => #[.int .u8 k, .int .u32 t, .int .u64 p, .int .u64 n, .int .u32 0, .int .u16 0, .bool false, .bool false, .slice none 0 0, .slice none 0 0, v, .slice none 0 0]) [(fun v _ => v = .pointer (some ⟨w5.heap.size, 10, none⟩)), (fun v _ => v = .slice A1 j l1), (fun v _ => v = .slice A K c), (fun v _ => v = .int .i64 m), (fun v _ => v = .int .u64 T1), (fun v _ => v = .int .u32 T1), (fun v _ => v = .slice A K c), (fun v _ => v = .int .i64 m), (fun v _ => v = .int .i64 ((m : Int) + 4)), (fun v _ => v = .int .u64 L1), (fun v _ => v = .slice A K c), (fun v _ => v = .int .i64 m), (fun v _ => v = .int .i64 ((m : Int) + 12)), (fun v _ => v = .int .u64 U1), (fun v _ => v = .slice A K c), (fun v _ => v = .int .i64 m), (fun v _ => v = .int .i64 ((m : Int) + 20)), (fun v _ => v = .int .u64 S1), (fun v _ => v = .int .u8 S1), (fun v _ => v = .agg #[.int .u32 T1, .int .u64 L1, .int .u64 U1, .int .u8 S1]), (fun v W => ∃ g1, v = .slice (some ⟨g1, 0, none⟩) 1 1 ∧ w7.heap.size ≤ g1 ∧ Box W g1 #[.int .u32 T1, .int .u64 L1, .int .u64 U1, .int .u8 S1] 64), (fun v W => W.ownsRow (w5.heap.size + 1) 64 4 v (j + 1) ((((pTs ys).take j).flatMap cAc) ++ [.int .u32 T1, .int .u64 L1, .int .u64 U1, .int .u8 S1])), (fun v _ => v = .pointer (some ⟨w5.heap.size, 10, none⟩)), (fun v _ => v = undef)] (by decide) (by intro o ho; injection ho with ho; subst ho; exact ⟨⟨21, .data⟩, by simp, rfl, rfl⟩) HRG ?_ (fun vals => ?_) (fun vals W hfr hbx hall _ => ?_) (by decide)
      · intro j v W W' hj hsz hf h
        match j, hj, h with
        | 0, _, h => exact h
        | 1, _, h => exact h
        | 2, _, h => exact h
        | 3, _, h => exact h
        | 4, _, h => exact h
        | 5, _, h => exact h
        | 6, _, h => exact h
        | 7, _, h => exact h
        | 8, _, h => exact h
        | 9, _, h => exact h
        | 10, _, h => exact h
        | 11, _, h => exact h
        | 12, _, h => exact h
        | 13, _, h => exact h
        | 14, _, h => exact h
        | 15, _, h => exact h
        | 16, _, h => exact h
        | 17, _, h => exact h
        | 18, _, h => exact h
        | 19, _, h => exact h
        | 20, _, h => obtain ⟨g1, e1, e2, e3⟩ := h; exact ⟨g1, e1, e2, e3.fr hf (fun hk => by rcases hk with ⟨_, h1⟩ | h1; (have := HRL g1 h1; omega); (have := BX7.out.lt; omega))⟩
        | 21, _, h => exact own_frS h hf (fun k hk hs => by rcases hs with ⟨h1, _⟩ | h1; (exact h1 rfl); (have := (h.lt k hk).1; have := HGB.out; omega))
        | 22, _, h => exact h
        | 23, hj, _ => exact absurd rfl hj
        | _ + 24, _, _ => trivial
      · simp only [ObL, Act.put, List.setIfInBounds_toArray, List.set_cons_succ, List.set_cons_zero]
        refine ⟨?_, ?_, ?_, ?_, ?_, ?_, ?_, ?_, ?_, ?_, ?_, ?_, ?_, ?_, ?_, ?_, ?_, ?_, ?_, ?_, ?_, ?_, ?_, ?_, trivial⟩
        · intro L W hL hk hC hw
          clear hw
          clear hL hC hk
          refine step_plain rfl ?_
          go_simp
          first | exact ⟨Ra.same _, Fa.val (by decide) rfl rfl⟩ | exact ⟨_, rfl, Ra.same _, Fa.val (by decide) rfl rfl⟩
        · intro L W hL hk hC hw
          have f0 : vals 0 = .pointer (some ⟨w5.heap.size, 10, none⟩) := Fa.get (hw ⟨0, .data⟩ (by simp) rfl) (by decide)
          clear hw
          have bx := hC.box BX7.out (hL.not_yet hk 23 8 (by decide +kernel)) HRG
          have kc : W.cell? ⟨w5.heap.size, 10, none⟩ = some (.slice A1 j l1) := bx.cell 10
          clear hL hC hk bx
          refine step_plain rfl ?_
          go_simp
          first | exact ⟨Ra.same _, Fa.val (by decide) rfl rfl⟩ | exact ⟨_, rfl, Ra.same _, Fa.val (by decide) rfl rfl⟩
        · intro L W hL hk hC hw
          clear hw
          clear hL hC hk
          refine step_plain rfl ?_
          go_simp
          first | exact ⟨Ra.same _, Fa.val (by decide) rfl rfl⟩ | exact ⟨_, rfl, Ra.same _, Fa.val (by decide) rfl rfl⟩
        · intro L W hL hk hC hw
          clear hw
          clear hL hC hk
          refine step_plain rfl ?_
          go_simp
          first | exact ⟨Ra.same _, Fa.val (by decide) rfl rfl⟩ | exact ⟨_, rfl, Ra.same _, Fa.val (by decide) rfl rfl⟩
        · intro L W hL hk hC hw
          have f2 : vals 2 = .slice A K c := Fa.get (hw ⟨2, .data⟩ (by simp) rfl) (by decide)
          have f3 : vals 3 = .int .i64 m := Fa.get (hw ⟨3, .data⟩ (by simp) rfl) (by decide)
          clear hw
          have hb := hC.below (hL.not_yet hk 21 8 (by decide +kernel)) (hL.not_yet hk 23 8 (by decide +kernel))
          have HWW := Lib.hid (step_ HW7.out hb)
          clear hL hC hk hb
          refine step_plain rfl ?_
          go_simp
          (with_reducible refine (NB.out W HWW.out (m : Int) (4 : Int) m 4 rfl rfl HYL1.out (mle0 HMB.out) (by decide) _ ETT.out).mono ?_)
          rintro e w8 ⟨rfl, hb8⟩
          first | exact ⟨Ra.of_below hb8, Fa.val (by decide) rfl rfl⟩ | exact ⟨_, rfl, Ra.of_below hb8, Fa.val (by decide) rfl rfl⟩
        · intro L W hL hk hC hw
          have f4 : vals 4 = .int .u64 T1 := Fa.get (hw ⟨4, .data⟩ (by simp) rfl) (by decide)
          clear hw
          clear hL hC hk
          refine step_plain rfl ?_
          go_simp
          first | exact ⟨Ra.same _, Fa.val (by decide) rfl rfl⟩ | exact ⟨_, rfl, Ra.same _, Fa.val (by decide) rfl rfl⟩
        · intro L W hL hk hC hw
          clear hw
          clear hL hC hk
          refine step_plain rfl ?_
          go_simp
          first | exact ⟨Ra.same _, Fa.val (by decide) rfl rfl⟩ | exact ⟨_, rfl, Ra.same _, Fa.val (by decide) rfl rfl⟩
        · intro L W hL hk hC hw
          clear hw
          clear hL hC hk
          refine step_plain rfl ?_
          go_simp
          first | exact ⟨Ra.same _, Fa.val (by decide) rfl rfl⟩ | exact ⟨_, rfl, Ra.same _, Fa.val (by decide) rfl rfl⟩
        · intro L W hL hk hC hw
          have f7 : vals 7 = .int .i64 m := Fa.get (hw ⟨7, .data⟩ (by simp) rfl) (by decide)
          clear hw
          clear hL hC hk
          refine step_plain rfl ?_
          go_simp
          first | exact ⟨Ra.same _, Fa.val (by decide) rfl rfl⟩ | exact ⟨Ra.same _, Fa.val (by decide) rfl (congrArg (Value.int .i64) (v_add m 4 HMB.out))⟩
        · intro L W hL hk hC hw
          have f6 : vals 6 = .slice A K c := Fa.get (hw ⟨6, .data⟩ (by simp) rfl) (by decide)
          have f8 : vals 8 = .int .i64 ((m : Int) + 4) := Fa.get (hw ⟨8, .data⟩ (by simp) rfl) (by decide)
          clear hw
          have hb := hC.below (hL.not_yet hk 21 8 (by decide +kernel)) (hL.not_yet hk 23 8 (by decide +kernel))
          have HWW := Lib.hid (step_ HW7.out hb)
          clear hL hC hk hb
          refine step_plain rfl ?_
          go_simp
          (with_reducible refine (NB.out W HWW.out ((m : Int) + 4) (8 : Int) (m + 4) 8 (by simp) rfl HYL1.out (mle HMB.out 4) (by decide) _ EL1.out).mono ?_)
          rintro e w8 ⟨rfl, hb8⟩
          first | exact ⟨Ra.of_below hb8, Fa.val (by decide) rfl rfl⟩ | exact ⟨_, rfl, Ra.of_below hb8, Fa.val (by decide) rfl rfl⟩
        · intro L W hL hk hC hw
          clear hw
          clear hL hC hk
          refine step_plain rfl ?_
          go_simp
          first | exact ⟨Ra.same _, Fa.val (by decide) rfl rfl⟩ | exact ⟨_, rfl, Ra.same _, Fa.val (by decide) rfl rfl⟩
        · intro L W hL hk hC hw
          clear hw
          clear hL hC hk
          refine step_plain rfl ?_
          go_simp
          first | exact ⟨Ra.same _, Fa.val (by decide) rfl rfl⟩ | exact ⟨_, rfl, Ra.same _, Fa.val (by decide) rfl rfl⟩
        · intro L W hL hk hC hw
          have f11 : vals 11 = .int .i64 m := Fa.get (hw ⟨11, .data⟩ (by simp) rfl) (by decide)
          clear hw
          clear hL hC hk
          refine step_plain rfl ?_
          go_simp
          first | exact ⟨Ra.same _, Fa.val (by decide) rfl rfl⟩ | exact ⟨Ra.same _, Fa.val (by decide) rfl (congrArg (Value.int .i64) (v_add m 12 HMB.out))⟩
        · intro L W hL hk hC hw
          have f10 : vals 10 = .slice A K c := Fa.get (hw ⟨10, .data⟩ (by simp) rfl) (by decide)
          have f12 : vals 12 = .int .i64 ((m : Int) + 12) := Fa.get (hw ⟨12, .data⟩ (by simp) rfl) (by decide)
          clear hw
          have hb := hC.below (hL.not_yet hk 21 8 (by decide +kernel)) (hL.not_yet hk 23 8 (by decide +kernel))
          have HWW := Lib.hid (step_ HW7.out hb)
          clear hL hC hk hb
          refine step_plain rfl ?_
          go_simp
          (with_reducible refine (NB.out W HWW.out ((m : Int) + 12) (8 : Int) (m + 12) 8 (by simp) rfl HYL1.out (mle HMB.out 12) (by decide) _ EU1.out).mono ?_)
          rintro e w8 ⟨rfl, hb8⟩
          first | exact ⟨Ra.of_below hb8, Fa.val (by decide) rfl rfl⟩ | exact ⟨_, rfl, Ra.of_below hb8, Fa.val (by decide) rfl rfl⟩
        · intro L W hL hk hC hw
          clear hw
          clear hL hC hk
          refine step_plain rfl ?_
          go_simp
          first | exact ⟨Ra.same _, Fa.val (by decide) rfl rfl⟩ | exact ⟨_, rfl, Ra.same _, Fa.val (by decide) rfl rfl⟩
        · intro L W hL hk hC hw
          clear hw
          clear hL hC hk
          refine step_plain rfl ?_
          go_simp
          first | exact ⟨Ra.same _, Fa.val (by decide) rfl rfl⟩ | exact ⟨_, rfl, Ra.same _, Fa.val (by decide) rfl rfl⟩
        · intro L W hL hk hC hw
          have f15 : vals 15 = .int .i64 m := Fa.get (hw ⟨15, .data⟩ (by simp) rfl) (by decide)
          clear hw
          clear hL hC hk
          refine step_plain rfl ?_
          go_simp
          first | exact ⟨Ra.same _, Fa.val (by decide) rfl rfl⟩ | exact ⟨Ra.same _, Fa.val (by decide) rfl (congrArg (Value.int .i64) (v_add m 20 HMB.out))⟩
        · intro L W hL hk hC hw
          have f14 : vals 14 = .slice A K c := Fa.get (hw ⟨14, .data⟩ (by simp) rfl) (by decide)
          have f16 : vals 16 = .int .i64 ((m : Int) + 20) := Fa.get (hw ⟨16, .data⟩ (by simp) rfl) (by decide)
          clear hw
          have hb := hC.below (hL.not_yet hk 21 8 (by decide +kernel)) (hL.not_yet hk 23 8 (by decide +kernel))
          have HWW := Lib.hid (step_ HW7.out hb)
          clear hL hC hk hb
          refine step_plain rfl ?_
          go_simp
          (with_reducible refine (NB.out W HWW.out ((m : Int) + 20) (1 : Int) (m + 20) 1 (by simp) rfl HYL1.out (mle HMB.out 20) (by decide) _ ES1.out).mono ?_)
          rintro e w8 ⟨rfl, hb8⟩
          first | exact ⟨Ra.of_below hb8, Fa.val (by decide) rfl rfl⟩ | exact ⟨_, rfl, Ra.of_below hb8, Fa.val (by decide) rfl rfl⟩
        · intro L W hL hk hC hw
          have f17 : vals 17 = .int .u64 S1 := Fa.get (hw ⟨17, .data⟩ (by simp) rfl) (by decide)
          clear hw
          clear hL hC hk
          refine step_plain rfl ?_
          go_simp
          first | exact ⟨Ra.same _, Fa.val (by decide) rfl rfl⟩ | exact ⟨_, rfl, Ra.same _, Fa.val (by decide) rfl rfl⟩
        · intro L W hL hk hC hw
          have f5 : vals 5 = .int .u32 T1 := Fa.get (hw ⟨5, .data⟩ (by simp) rfl) (by decide)
          have f9 : vals 9 = .int .u64 L1 := Fa.get (hw ⟨9, .data⟩ (by simp) rfl) (by decide)
          have f13 : vals 13 = .int .u64 U1 := Fa.get (hw ⟨13, .data⟩ (by simp) rfl) (by decide)
          have f18 : vals 18 = .int .u8 S1 := Fa.get (hw ⟨18, .data⟩ (by simp) rfl) (by decide)
          clear hw
          clear hL hC hk
          refine step_plain rfl ?_
          go_simp
          first | exact ⟨Ra.same _, Fa.val (by decide) rfl rfl⟩ | exact ⟨_, rfl, Ra.same _, Fa.val (by decide) rfl rfl⟩
        · intro L W hL hk hC hw
          have f19 : vals 19 = .agg #[.int .u32 T1, .int .u64 L1, .int .u64 U1, .int .u8 S1] := Fa.get (hw ⟨19, .data⟩ (by simp) rfl) (by decide)
          clear hw
          have hsz := Lib.hid (show w7.heap.size ≤ W.heap.size from hC.size)
          clear hL hC hk
          refine step_plain rfl ?_
          go_simp
          first | exact ⟨Ra.of_below (new_ (Below.refl _ _) _), Fa.val (by decide) rfl ⟨_, rfl, hsz.out, Box.new _ _ _⟩⟩ | exact ⟨_, rfl, Ra.of_below (new_ (Below.refl _ _) _), Fa.val (by decide) rfl ⟨_, rfl, hsz.out, Box.new _ _ _⟩⟩
        · intro L W hL hk hC hw
          have f1 : vals 1 = .slice A1 j l1 := Fa.get (hw ⟨1, .data⟩ (by simp) rfl) (by decide)
          have f20 : ∃ g1, (vals 20) = .slice (some ⟨g1, 0, none⟩) 1 1 ∧ w7.heap.size ≤ g1 ∧ Box W g1 #[.int .u32 T1, .int .u64 L1, .int .u64 U1, .int .u8 S1] 64 := Fa.get (hw ⟨20, .data⟩ (by simp) rfl) (by decide)
          clear hw
          have hb := hC.below hk (hL.not_yet hk 23 8 (by decide +kernel))
          have ow := own_below OW7.out hb
          obtain ⟨g1, e20, hg1, hbx1⟩ := f20
          have hbs : w5.heap.size + 1 ≤ W.heap.size := Nat.le_trans HBS.out hb.size
          clear hL hC hk
          refine step_plain rfl ?_
          refine wp_push W _ _ _ rfl (w5.heap.size + 1) 64 j0 _ 4 32 Try.underlying28 hj0 hj1 hj2 hj3 rfl (by decide) [.int .u32 T1, .int .u64 L1, .int .u64 U1, .int .u8 S1] rfl (one_cells) (.slice A1 j l1) j (((pTs ys).take j).flatMap cAc) f1 ow g1 _ e20 hbx1 (by simp only [maxLen]; omega) (by omega) hbs ?_
          intro v1 w1 ho1 hgr1 hb1
          exact ⟨_, rfl, Fr.grown (Fr.refl _ _) hgr1 (fun g e => .inl (.inl ⟨rfl, e⟩)), Fa.val (by decide) rfl ho1⟩
        · intro L W hL hk hC hw
          clear hw
          clear hL hC hk
          refine step_plain rfl ?_
          go_simp
          first | exact ⟨Ra.same _, Fa.val (by decide) rfl rfl⟩ | exact ⟨_, rfl, Ra.same _, Fa.val (by decide) rfl rfl⟩
        · intro L W hL hk hC hw
          have f22 : vals 22 = .pointer (some ⟨w5.heap.size, 10, none⟩) := Fa.get (hw ⟨22, .data⟩ (by simp) rfl) (by decide)
          have f21 : W.ownsRow (w5.heap.size + 1) 64 4 (vals 21) (j + 1) ((((pTs ys).take j).flatMap cAc) ++ [.int .u32 T1, .int .u64 L1, .int .u64 U1, .int .u8 S1]) := Fa.get (hw ⟨21, .data⟩ (by simp) rfl) (by decide)
          clear hw
          have bx := hC.box BX7.out hk HRG
          obtain ⟨A2, l2, e21⟩ := own_slice' f21
          have kc := bx.cell
          have fc := bx.frozen
          clear hL hC hk
          refine step_plain rfl ?_
          go_simp
          have hb9 := Box.set_ bx 10 (.slice A2 (j + 1) l2)
          simp only [List.setIfInBounds_toArray, List.set_cons_zero, List.set_cons_succ] at hb9
          exact ⟨Fr.setCell (Fr.refl _ _) (p := ⟨w5.heap.size, 10, none⟩) (.inl (.inr ⟨rfl, rfl⟩)) _, undef, Fa.last (by decide) (by rw [e21]; exact hb9)⟩
      · simp only [TL, Act.put, List.setIfInBounds_toArray, List.set_cons_succ, List.set_cons_zero]
        have f21 : W.ownsRow (w5.heap.size + 1) 64 4 (vals 21) (j + 1) ((((pTs ys).take j).flatMap cAc) ++ [.int .u32 T1, .int .u64 L1, .int .u64 U1, .int .u8 S1]) := hall 21 (by decide) (by decide)
        obtain ⟨A2, l2, e21⟩ := own_slice' f21
        rw [e21] at f21 hbx
        have z0 : vals 0 = .pointer (some ⟨w5.heap.size, 10, none⟩) := hall 0 (by decide) (by decide)
        have z1 : vals 1 = .slice A1 j l1 := hall 1 (by decide) (by decide)
        have z2 : vals 2 = .slice A K c := hall 2 (by decide) (by decide)
        have z3 : vals 3 = .int .i64 m := hall 3 (by decide) (by decide)
        have z4 : vals 4 = .int .u64 T1 := hall 4 (by decide) (by decide)
        have z5 : vals 5 = .int .u32 T1 := hall 5 (by decide) (by decide)
        have z6 : vals 6 = .slice A K c := hall 6 (by decide) (by decide)
        have z7 : vals 7 = .int .i64 m := hall 7 (by decide) (by decide)
        have z8 : vals 8 = .int .i64 ((m : Int) + 4) := hall 8 (by decide) (by decide)
        have z9 : vals 9 = .int .u64 L1 := hall 9 (by decide) (by decide)
        have z10 : vals 10 = .slice A K c := hall 10 (by decide) (by decide)
        have z11 : vals 11 = .int .i64 m := hall 11 (by decide) (by decide)
        have z12 : vals 12 = .int .i64 ((m : Int) + 12) := hall 12 (by decide) (by decide)
        have z13 : vals 13 = .int .u64 U1 := hall 13 (by decide) (by decide)
        have z14 : vals 14 = .slice A K c := hall 14 (by decide) (by decide)
        have z15 : vals 15 = .int .i64 m := hall 15 (by decide) (by decide)
        have z16 : vals 16 = .int .i64 ((m : Int) + 20) := hall 16 (by decide) (by decide)
        have z17 : vals 17 = .int .u64 S1 := hall 17 (by decide) (by decide)
        have z18 : vals 18 = .int .u8 S1 := hall 18 (by decide) (by decide)
        have z19 : vals 19 = .agg #[.int .u32 T1, .int .u64 L1, .int .u64 U1, .int .u8 S1] := hall 19 (by decide) (by decide)
        have z22 : vals 22 = .pointer (some ⟨w5.heap.size, 10, none⟩) := hall 22 (by decide) (by decide)
        simp only [z0, z1, z2, z3, z4, z5, z6, z7, z8, z9, z10, z11, z12, z13, z14, z15, z16, z17, z18, z19, z22]
        clear z0 z1 z2 z3 z4 z5 z6 z7 z8 z9 z10 z11 z12 z13 z14 z15 z16 z17 z18 z19 z22
        clear hall
        rw [e21]
        clear e21
        generalize vals 20 = vB
        generalize vals 23 = vS
        have BRW := Lib.hid (BR7.out.fr hfr (fun hk => by rcases hk with h1 | h1; (have := (OW7.out.lt _ h1).1; have := n5a; have := HGB.out; omega); (have := n5a; omega)))
        have HWW := Lib.hid (HW7.out.trans (hfr.to_below (B := w.heap.size) (fun k hk => by rcases hk with h1 | h1; (have := (OW7.out.lt _ h1).1; have := HGB.out; omega); (omega)) (by have := BR7.out.lt; omega)))
        have BXW := Lib.hid hbx
        have OWW := Lib.hid f21
        clear f21 hbx
        have hpa : pAc ys m = ⟨T1, L1, U1, S1⟩ := by unfold pAc; rw [← ETT.out, ← EL1.out, ← EU1.out, ← ES1.out]
        have HNX := Lib.hid (show ((pTs ys).take j).flatMap cAc ++ [Value.int .u32 T1, Value.int .u64 L1, Value.int .u64 U1, Value.int .u8 S1] = ((pTs ys).take (j + 1)).flatMap cAc by rw [pTs_succ ys j (by rw [HNT.out]; exact hjN), fm_snoc, ← HMJ.out, hpa]; rfl)
        have HOX := Lib.hid (own_cast OWW.out rfl HNX.out)
        have HMX := Lib.hid (show m + 21 = 28 + 21 * (j + 1) from m_next HMJ.out)
        clear w4 w12 w20 wT wS hpa one_cells HRG HRL hfr
        have w21 : wrap64 ((m : Int) + 21) = (m : Int) + 21 := lt_add m 21 (mle5 HMB.out) (by decide)
        have wj1 : wrap64 ((j : Int) + 1) = (j : Int) + 1 := lt_add j 1 (le_trans3 hj hNb) (by decide)
        go_wp2
        clear w21 wj1
        go_roundw
        case rel => exact ⟨j + 1, m + 21, A2, l2, hjN, HMX.out, vi64 m 21 (mle5 HMB.out), vi64 j 1 (le_trans3 hj hNb), BRW.out, BXW.out, HOX.out, HWW.out⟩
        case measure => exact msr hjN hNb
    case false =>
      have hjN : N = j := by have : ¬ j < N := by simpa using HQ.out.symm
                             omega
      subst hjN
      have hpT : (pTs ys).take N = pTs ys := List.take_of_length_le (by simp [pTs, HNT.out])
      have OT7 := Lib.hid (own_cast OW7.out rfl (by rw [hpT]))
      have wm1 : wrap64 ((m : Int) + 1) = (m : Int) + 1 := lt_add m 1 (mle5 HMB.out) (by decide)
      clear OW7 OWr hpT
      go_wp2_with fail
      (with_reducible refine (NB.out _ HW7.out (m : Int) (1 : Int) m 1 rfl rfl HYL1.out (mle0 HMB.out) (by decide) (D : Int) (by have := ED1.out; rw [← HMJ.out] at this; exact this)).mono ?_)
      rintro e w9 ⟨rfl, hb9⟩
      have BR9 := Lib.hid (BR7.out.later hb9)
      have BX9 := Lib.hid (BX7.out.later hb9)
      have OT9 := Lib.hid (own_below OT7.out hb9)
      have HW9 := Lib.hid (step_ HW7.out hb9)
      have HTL := Lib.hid (show ∀ g, (Value.slice A1 N l1).ownBlock = some g → w5.heap.size < g ∧ g < w9.heap.size from fun g e => by have := OT9.out.lt g e; omega)
      have HGB := Lib.hid (show w5.heap.size + 1 ≤ w9.heap.size from BX9.out.lt)
      clear hb9
      go_wp2
      clear wm1
      go_loopw [11, 14] (fun a i wr => ∃ (j m2 : Nat) (E1 : Option Addr) (f1_ : Nat), j ≤ D ∧ m2 = 29 + 21 * N + 12 * j ∧ a = .int .i64 m2 ∧ i = .int .i64 j ∧ Box wr w.heap.size (bareC 0 0 0 0) 31 ∧
          Box wr w5.heap.size #[.int .u8 k, .int .u32 t, .int .u64 p, .int .u64 n, .int .u32 0, .int .u16 0, .bool false, .bool false, .slice none 0 0, .slice none 0 0, .slice A1 N l1, .slice E1 j f1_] 31 ∧
          wr.ownsRow (w5.heap.size + 1) 64 4 (.slice A1 N l1) N ((pTs ys).flatMap cAc) ∧ wr.ownsRow w9.heap.size 66 2 (.slice E1 j f1_) j (((pDs ys).take j).flatMap cDt) ∧ w9.heap.size ≤ wr.heap.size ∧ Below w.heap.size w wr) (fun _ i _ => D - (intOf i).toNat)
      case atStart => exact ⟨0, m + 1, none, 0, Nat.zero_le _, m_start HMJ.out, vi64 m 1 (mle5 HMB.out), rfl, BR9.out, BX9.out, OT9.out, by rw [List.take_zero]; exact World.ownsRow_nil _ _ _ _, Nat.le_refl _, HW9.out⟩
      case round =>
        obtain ⟨j, m2, E1, f1_, hj, hm, rfl, rfl, br, bx, ot, ow, hsz9, hw⟩ := hrel
        have BR7 := Lib.hid br
        have BX7 := Lib.hid bx
        have OT7 := Lib.hid ot
        have OW7 := Lib.hid ow
        have HW7 := Lib.hid hw
        have HM2 := Lib.hid hm
        have HMB2 := Lib.hid (show m2 ≤ 20000 from m_bd2 hj hNb hDb hm)
        obtain ⟨q, hq⟩ : ∃ q, q = decide (j < D) := ⟨_, rfl⟩
        have dq : decide ((j : Int) < (D : Int)) = q := by rw [hq, decide_eq_decide]; omega
        have HQ2 := Lib.hid hq
        have HBS := Lib.hid hsz9
        clear br bx ot ow hw hm hq hsz9
        cases q
        case true =>
          have hjD : j < D := by simpa using HQ2.out.symm
          have w4 : wrap64 ((m2 : Int) + 4) = (m2 : Int) + 4 := lt_add m2 4 (mle5 HMB2.out) (by decide)
          obtain ⟨T1, eT⟩ : ∃ k, k = numS ys m2 4 := ⟨_, rfl⟩
          obtain ⟨L1, eL⟩ : ∃ k, k = numS ys (m2 + 4) 8 := ⟨_, rfl⟩
          have wT : IntKind.u32.wrap T1 = T1 := by rw [eT]; exact u32_wrap (nb32 (numS_bd HYB.out m2 4)).1 (nb32 (numS_bd HYB.out m2 4)).2
          have ETT := Lib.hid eT
          have EL1 := Lib.hid eL
          have HRG : (Value.slice E1 j f1_).ownBlock ≠ some w5.heap.size := fun e => by have := (OW7.out.lt _ e).1; have := HGB.out; omega
          have HRL : ∀ g, (Value.slice E1 j f1_).ownBlock = some g → g < wr.heap.size := fun g e => (OW7.out.lt _ e).2
          have one_cells : ∀ u ∈ [Value.int .u32 T1, Value.int .u64 L1], u.oneCell' = true := by intro u hu; simp only [List.mem_cons, List.not_mem_nil, or_false] at hu; rcases hu with rfl | rfl <;> rfl
          clear eT eL
          go_wp2
          refine wp_region_app (by kernel_rfl) (by kernel_rfl) (Value.slice E1 j f1_).ownBlock w5.heap.size 12 14 31 (fun v => #[.int .u8 k, .int .u32 t, .int .u64 p, .int .u64 n, .int .u32 0, .int .u16 0, .bool false, .bool false, .slice none 0 0, .slice none 0 0, .slice A1 N l1, v]) [(fun v _ => v = .pointer (some ⟨w5.heap.size, 11, none⟩)), (fun v _ => v = .slice E1 j f1_), (fun v _ => v = .slice A K c), (fun v _ => v = .int .i64 m2), (fun v _ => v = .int .u64 T1), (fun v _ => v = .int .u32 T1), (fun v _ => v = .slice A K c), (fun v _ => v = .int .i64 m2), (fun v _ => v = .int .i64 ((m2 : Int) + 4)), (fun v _ => v = .int .u64 L1), (fun v _ => v = .agg #[.int .u32 T1, .int .u64 L1]), (fun v W => ∃ g1, v = .slice (some ⟨g1, 0, none⟩) 1 1 ∧ wr.heap.size ≤ g1 ∧ Box W g1 #[.int .u32 T1, .int .u64 L1] 66), (fun v W => W.ownsRow (w9.heap.size) 66 2 v (j + 1) ((((pDs ys).take j).flatMap cDt) ++ [.int .u32 T1, .int .u64 L1])), (fun v _ => v = .pointer (some ⟨w5.heap.size, 11, none⟩)), (fun v _ => v = undef)] (by decide) (by intro o ho; injection ho with ho; subst ho; exact ⟨⟨12, .data⟩, by simp, rfl, rfl⟩) HRG ?_ (fun vals => ?_) (fun vals W hfr hbx hall _ => ?_) (by decide)
          · intro j v W W' hj hsz hf h
            match j, hj, h with
            | 0, _, h => exact h
            | 1, _, h => exact h
            | 2, _, h => exact h
            | 3, _, h => exact h
            | 4, _, h => exact h
            | 5, _, h => exact h
            | 6, _, h => exact h
            | 7, _, h => exact h
            | 8, _, h => exact h
            | 9, _, h => exact h
            | 10, _, h => exact h
            | 11, _, h => obtain ⟨g1, e1, e2, e3⟩ := h; exact ⟨g1, e1, e2, e3.fr hf (fun hk => by rcases hk with ⟨_, h1⟩ | h1; (have := HRL g1 h1; omega); (have := BX7.out.lt; omega))⟩
            | 12, _, h => exact own_frS h hf (fun k hk hs => by rcases hs with ⟨h1, _⟩ | h1; (exact h1 rfl); (have := (h.lt k hk).1; have := HGB.out; omega))
            | 13, _, h => exact h
            | 14, hj, _ => exact absurd rfl hj
            | _ + 15, _, _ => trivial
          · simp only [ObL, Act.put, List.setIfInBounds_toArray, List.set_cons_succ, List.set_cons_zero]
            refine ⟨?_, ?_, ?_, ?_, ?_, ?_, ?_, ?_, ?_, ?_, ?_, ?_, ?_, ?_, ?_, trivial⟩
            · intro L W hL hk hC hw
              clear hw
              clear hL hC hk
              refine step_plain rfl ?_
              go_simp
              first | exact ⟨Ra.same _, Fa.val (by decide) rfl rfl⟩ | exact ⟨_, rfl, Ra.same _, Fa.val (by decide) rfl rfl⟩
            · intro L W hL hk hC hw
              have f0 : vals 0 = .pointer (some ⟨w5.heap.size, 11, none⟩) := Fa.get (hw ⟨0, .data⟩ (by simp) rfl) (by decide)
              clear hw
              have bx := hC.box BX7.out (hL.not_yet hk 14 8 (by decide +kernel)) HRG
              have kc : W.cell? ⟨w5.heap.size, 11, none⟩ = some (.slice E1 j f1_) := bx.cell 11
              clear hL hC hk bx
              refine step_plain rfl ?_
              go_simp
              first | exact ⟨Ra.same _, Fa.val (by decide) rfl rfl⟩ | exact ⟨_, rfl, Ra.same _, Fa.val (by decide) rfl rfl⟩
            · intro L W hL hk hC hw
              clear hw
              clear hL hC hk
              refine step_plain rfl ?_
              go_simp
              first | exact ⟨Ra.same _, Fa.val (by decide) rfl rfl⟩ | exact ⟨_, rfl, Ra.same _, Fa.val (by decide) rfl rfl⟩
            · intro L W hL hk hC hw
              clear hw
              clear hL hC hk
              refine step_plain rfl ?_
              go_simp
              first | exact ⟨Ra.same _, Fa.val (by decide) rfl rfl⟩ | exact ⟨_, rfl, Ra.same _, Fa.val (by decide) rfl rfl⟩
            · intro L W hL hk hC hw
              have f2 : vals 2 = .slice A K c := Fa.get (hw ⟨2, .data⟩ (by simp) rfl) (by decide)
              have f3 : vals 3 = .int .i64 m2 := Fa.get (hw ⟨3, .data⟩ (by simp) rfl) (by decide)
              clear hw
              have hb := hC.below (hL.not_yet hk 12 8 (by decide +kernel)) (hL.not_yet hk 14 8 (by decide +kernel))
              have HWW := Lib.hid (step_ HW7.out hb)
              clear hL hC hk hb
              refine step_plain rfl ?_
              go_simp
              (with_reducible refine (NB.out W HWW.out (m2 : Int) (4 : Int) m2 4 rfl rfl HYL1.out (mle0 HMB2.out) (by decide) _ ETT.out).mono ?_)
              rintro e w8 ⟨rfl, hb8⟩
              first | exact ⟨Ra.of_below hb8, Fa.val (by decide) rfl rfl⟩ | exact ⟨_, rfl, Ra.of_below hb8, Fa.val (by decide) rfl rfl⟩
            · intro L W hL hk hC hw
              have f4 : vals 4 = .int .u64 T1 := Fa.get (hw ⟨4, .data⟩ (by simp) rfl) (by decide)
              clear hw
              clear hL hC hk
              refine step_plain rfl ?_
              go_simp
              first | exact ⟨Ra.same _, Fa.val (by decide) rfl rfl⟩ | exact ⟨_, rfl, Ra.same _, Fa.val (by decide) rfl rfl⟩
            · intro L W hL hk hC hw
              clear hw
              clear hL hC hk
              refine step_plain rfl ?_
              go_simp
              first | exact ⟨Ra.same _, Fa.val (by decide) rfl rfl⟩ | exact ⟨_, rfl, Ra.same _, Fa.val (by decide) rfl rfl⟩
            · intro L W hL hk hC hw
              clear hw
              clear hL hC hk
              refine step_plain rfl ?_
              go_simp
              first | exact ⟨Ra.same _, Fa.val (by decide) rfl rfl⟩ | exact ⟨_, rfl, Ra.same _, Fa.val (by decide) rfl rfl⟩
            · intro L W hL hk hC hw
              have f7 : vals 7 = .int .i64 m2 := Fa.get (hw ⟨7, .data⟩ (by simp) rfl) (by decide)
              clear hw
              clear hL hC hk
              refine step_plain rfl ?_
              go_simp
              first | exact ⟨Ra.same _, Fa.val (by decide) rfl rfl⟩ | exact ⟨Ra.same _, Fa.val (by decide) rfl (congrArg (Value.int .i64) (v_add m2 4 HMB2.out))⟩
            · intro L W hL hk hC hw
              have f6 : vals 6 = .slice A K c := Fa.get (hw ⟨6, .data⟩ (by simp) rfl) (by decide)
              have f8 : vals 8 = .int .i64 ((m2 : Int) + 4) := Fa.get (hw ⟨8, .data⟩ (by simp) rfl) (by decide)
              clear hw
              have hb := hC.below (hL.not_yet hk 12 8 (by decide +kernel)) (hL.not_yet hk 14 8 (by decide +kernel))
              have HWW := Lib.hid (step_ HW7.out hb)
              clear hL hC hk hb
              refine step_plain rfl ?_
              go_simp
              (with_reducible refine (NB.out W HWW.out ((m2 : Int) + 4) (8 : Int) (m2 + 4) 8 (by simp) rfl HYL1.out (mle HMB2.out 4) (by decide) _ EL1.out).mono ?_)
              rintro e w8 ⟨rfl, hb8⟩
              first | exact ⟨Ra.of_below hb8, Fa.val (by decide) rfl rfl⟩ | exact ⟨_, rfl, Ra.of_below hb8, Fa.val (by decide) rfl rfl⟩
            · intro L W hL hk hC hw
              have f5 : vals 5 = .int .u32 T1 := Fa.get (hw ⟨5, .data⟩ (by simp) rfl) (by decide)
              have f9 : vals 9 = .int .u64 L1 := Fa.get (hw ⟨9, .data⟩ (by simp) rfl) (by decide)
              clear hw
              clear hL hC hk
              refine step_plain rfl ?_
              go_simp
              first | exact ⟨Ra.same _, Fa.val (by decide) rfl rfl⟩ | exact ⟨_, rfl, Ra.same _, Fa.val (by decide) rfl rfl⟩
            · intro L W hL hk hC hw
              have f10 : vals 10 = .agg #[.int .u32 T1, .int .u64 L1] := Fa.get (hw ⟨10, .data⟩ (by simp) rfl) (by decide)
              clear hw
              have hsz := Lib.hid (show wr.heap.size ≤ W.heap.size from hC.size)
              clear hL hC hk
              refine step_plain rfl ?_
              go_simp
              first | exact ⟨Ra.of_below (new_ (Below.refl _ _) _), Fa.val (by decide) rfl ⟨_, rfl, hsz.out, Box.new _ _ _⟩⟩ | exact ⟨_, rfl, Ra.of_below (new_ (Below.refl _ _) _), Fa.val (by decide) rfl ⟨_, rfl, hsz.out, Box.new _ _ _⟩⟩
            · intro L W hL hk hC hw
              have f1 : vals 1 = .slice E1 j f1_ := Fa.get (hw ⟨1, .data⟩ (by simp) rfl) (by decide)
              have f11 : ∃ g1, (vals 11) = .slice (some ⟨g1, 0, none⟩) 1 1 ∧ wr.heap.size ≤ g1 ∧ Box W g1 #[.int .u32 T1, .int .u64 L1] 66 := Fa.get (hw ⟨11, .data⟩ (by simp) rfl) (by decide)
              clear hw
              have hb := hC.below hk (hL.not_yet hk 14 8 (by decide +kernel))
              have ow := own_below OW7.out hb
              obtain ⟨g1, e20, hg1, hbx1⟩ := f11
              have hbs : w9.heap.size ≤ W.heap.size := Nat.le_trans HBS.out hb.size
              clear hL hC hk
              refine step_plain rfl ?_
              refine wp_push W _ _ _ rfl (w9.heap.size) 66 i0 _ 2 16 Try.underlying29 hi0 hi1 hi2 hi3 rfl (by decide) [.int .u32 T1, .int .u64 L1] rfl (one_cells) (.slice E1 j f1_) j (((pDs ys).take j).flatMap cDt) f1 ow g1 _ e20 hbx1 (by simp only [maxLen]; omega) (by omega) hbs ?_
              intro v1 w1 ho1 hgr1 hb1
              exact ⟨_, rfl, Fr.grown (Fr.refl _ _) hgr1 (fun g e => .inl (.inl ⟨rfl, e⟩)), Fa.val (by decide) rfl ho1⟩
            · intro L W hL hk hC hw
              clear hw
              clear hL hC hk
              refine step_plain rfl ?_
              go_simp
              first | exact ⟨Ra.same _, Fa.val (by decide) rfl rfl⟩ | exact ⟨_, rfl, Ra.same _, Fa.val (by decide) rfl rfl⟩
            · intro L W hL hk hC hw
              have f13 : vals 13 = .pointer (some ⟨w5.heap.size, 11, none⟩) := Fa.get (hw ⟨13, .data⟩ (by simp) rfl) (by decide)
              have f12 : W.ownsRow (w9.heap.size) 66 2 (vals 12) (j + 1) ((((pDs ys).take j).flatMap cDt) ++ [.int .u32 T1, .int .u64 L1]) := Fa.get (hw ⟨12, .data⟩ (by simp) rfl) (by decide)
              clear hw
              have bx := hC.box BX7.out hk HRG
              obtain ⟨A2, l2, e21⟩ := own_slice' f12
              have kc := bx.cell
              have fc := bx.frozen
              clear hL hC hk
              refine step_plain rfl ?_
              go_simp
              have hb9 := Box.set_ bx 11 (.slice A2 (j + 1) l2)
              simp only [List.setIfInBounds_toArray, List.set_cons_zero, List.set_cons_succ] at hb9
              exact ⟨Fr.setCell (Fr.refl _ _) (p := ⟨w5.heap.size, 11, none⟩) (.inl (.inr ⟨rfl, rfl⟩)) _, undef, Fa.last (by decide) (by rw [e21]; exact hb9)⟩
          · simp only [TL, Act.put, List.setIfInBounds_toArray, List.set_cons_succ, List.set_cons_zero]
            have f21 : W.ownsRow (w9.heap.size) 66 2 (vals 12) (j + 1) ((((pDs ys).take j).flatMap cDt) ++ [.int .u32 T1, .int .u64 L1]) := hall 12 (by decide) (by decide)
            obtain ⟨A2, l2, e21⟩ := own_slice' f21
            rw [e21] at f21 hbx
            have z0 : vals 0 = .pointer (some ⟨w5.heap.size, 11, none⟩) := hall 0 (by decide) (by decide)
            have z1 : vals 1 = .slice E1 j f1_ := hall 1 (by decide) (by decide)
            have z2 : vals 2 = .slice A K c := hall 2 (by decide) (by decide)
            have z3 : vals 3 = .int .i64 m2 := hall 3 (by decide) (by decide)
            have z4 : vals 4 = .int .u64 T1 := hall 4 (by decide) (by decide)
            have z5 : vals 5 = .int .u32 T1 := hall 5 (by decide) (by decide)
            have z6 : vals 6 = .slice A K c := hall 6 (by decide) (by decide)
            have z7 : vals 7 = .int .i64 m2 := hall 7 (by decide) (by decide)
            have z8 : vals 8 = .int .i64 ((m2 : Int) + 4) := hall 8 (by decide) (by decide)
            have z9 : vals 9 = .int .u64 L1 := hall 9 (by decide) (by decide)
            have z10 : vals 10 = .agg #[.int .u32 T1, .int .u64 L1] := hall 10 (by decide) (by decide)
            have z13 : vals 13 = .pointer (some ⟨w5.heap.size, 11, none⟩) := hall 13 (by decide) (by decide)
            simp only [z0, z1, z2, z3, z4, z5, z6, z7, z8, z9, z10, z13]
            clear z0 z1 z2 z3 z4 z5 z6 z7 z8 z9 z10 z13
            clear hall
            rw [e21]
            clear e21
            generalize vals 11 = vB
            generalize vals 14 = vS
            have BRW := Lib.hid (BR7.out.fr hfr (fun hk => by rcases hk with h1 | h1; (have := (OW7.out.lt _ h1).1; have := n5a; have := HGB.out; omega); (have := n5a; omega)))
            have HWW := Lib.hid (HW7.out.trans (hfr.to_below (B := w.heap.size) (fun k hk => by rcases hk with h1 | h1; (have := (OW7.out.lt _ h1).1; have := HGB.out; omega); (omega)) (by have := BR7.out.lt; omega)))
            have BXW := Lib.hid hbx
            have OWW := Lib.hid f21
            clear f21 hbx
            have OTW := Lib.hid (own_frS OT7.out hfr (fun k hk hs => by have h0 := HTL.out k hk; rcases hs with h1 | h1; (have := (OW7.out.lt _ h1).1; omega); (omega)))
            have HSW := Lib.hid (Nat.le_trans HBS.out hfr.size)
            have hpa : pDt ys m2 = ⟨T1, L1⟩ := by unfold pDt; rw [← ETT.out, ← EL1.out]
            have HNX := Lib.hid (show ((pDs ys).take j).flatMap cDt ++ [Value.int .u32 T1, Value.int .u64 L1] = ((pDs ys).take (j + 1)).flatMap cDt by rw [pDs_succ ys j (by rw [HND.out]; exact hjD), fm_snoc, HNT.out, ← HM2.out, hpa]; rfl)
            have HOX := Lib.hid (own_cast OWW.out rfl HNX.out)
            have HMX := Lib.hid (show m2 + 12 = 29 + 21 * N + 12 * (j + 1) from m_next2 HM2.out)
            clear w4 wT hfr hpa one_cells HRG HRL
            have w21 : wrap64 ((m2 : Int) + 12) = (m2 : Int) + 12 := lt_add m2 12 (mle5 HMB2.out) (by decide)
            have wj1 : wrap64 ((j : Int) + 1) = (j : Int) + 1 := lt_add j 1 (le_trans3 hj hDb) (by decide)
            go_wp2
            clear w21 wj1
            go_roundw
            case rel => exact ⟨j + 1, m2 + 12, A2, l2, hjD, HMX.out, vi64 m2 12 (mle5 HMB2.out), vi64 j 1 (le_trans3 hj hDb), BRW.out, BXW.out, OTW.out, HOX.out, HSW.out, HWW.out⟩
            case measure => exact msr hjD hDb
        case false =>
          have hjD : D = j := by have : ¬ j < D := by simpa using HQ2.out.symm
                                 omega
          subst hjD
          have hpD : (pDs ys).take D = pDs ys := List.take_of_length_le (by simp [pDs, HND.out])
          have hTl : (pTs ys).length = N := by simp [pTs, HNT.out]
          have hDl : (pDs ys).length = D := by simp [pDs, HND.out]
          have RO7 := Lib.hid (show RcOwn wr (w.heap.size + 1) ⟨k, t, p, n, nullC, pTs ys, pDs ys⟩ (.slice none 0 0) (.slice none 0 0) (.slice A1 N l1) (.slice E1 D f1_) from
            ⟨World.ownsRow_nil _ _ _ _, World.ownsRow_nil _ _ _ _, own_lower (own_cast OT7.out hTl.symm rfl) (by omega), own_lower (own_cast OW7.out hDl.symm (by rw [hpD])) (by have := HGB.out; omega)⟩)
          have HR0 := Lib.hid (show pRc ys = ⟨k, t, p, n, nullC, pTs ys, pDs ys⟩ by
            have h8 : k = 8 := HK.out
            unfold pRc
            rw [← EK.out, ← ET.out, ← EP.out, ← EN.out, if_neg (by omega), if_pos h8, if_pos h8])
          have HOK := Lib.hid (show (⟨k, t, p, n, nullC, pTs ys, pDs ys⟩ : Rc).Ok by have := pRc_ok HYB.out; rw [HR0.out] at this; exact this)
          have kx7 := BX7.out.cell
          clear hpD hTl hDl
          go_wp2_with fail
          cases hm : mayS ⟨k, t, p, n, nullC, pTs ys, pDs ys⟩ with
          | false =>
            (with_reducible refine (encode_ref_no ⟨k, t, p, n, nullC, pTs ys, pDs ys⟩ hm (.slice none 0 0) (.slice none 0 0) (.slice A1 N l1) (.slice E1 D f1_) _ _ (Nat.le_refl _) RO7.out.in_).mono ?_)
            rintro e w7 ⟨rfl, hb7⟩
            have BR7 := Lib.hid (BR7.out.later hb7)
            have HW7 := Lib.hid (step_ HW7.out hb7)
            have kR := BR7.out.cell
            have fR := BR7.out.frozen
            have HN := Lib.hid (show resD xs = (none, 61) by rw [HRES.out, HR0.out, if_neg (by rw [hm]; simp)])
            clear hb7
            go_wp2
            have b9 := Box.set_ (Box.set_ (Box.set_ (Box.set_ (Box.set_ (Box.set_ (Box.set_ (Box.set_ (Box.set_ (Box.set_ (Box.set_ (Box.set_ (BR7.out) 0 (.int .u8 0)) 1 (.int .u32 0)) 2 (.int .u64 0)) 3 (.int .u64 0)) 4 (.int .u32 0)) 5 (.int .u16 0)) 6 (.bool false)) 7 (.bool false)) 8 (.slice none 0 0)) 9 (.slice none 0 0)) 10 (.slice none 0 0)) 11 (.slice none 0 0)
            have h9 := Below.setCell (Below.setCell (Below.setCell (Below.setCell (Below.setCell (Below.setCell (Below.setCell (Below.setCell (Below.setCell (Below.setCell (Below.setCell (Below.setCell (HW7.out) (p := ⟨w.heap.size, 0, none⟩) (Nat.le_refl _) (.int .u8 0)) (p := ⟨w.heap.size, 1, none⟩) (Nat.le_refl _) (.int .u32 0)) (p := ⟨w.heap.size, 2, none⟩) (Nat.le_refl _) (.int .u64 0)) (p := ⟨w.heap.size, 3, none⟩) (Nat.le_refl _) (.int .u64 0)) (p := ⟨w.heap.size, 4, none⟩) (Nat.le_refl _) (.int .u32 0)) (p := ⟨w.heap.size, 5, none⟩) (Nat.le_refl _) (.int .u16 0)) (p := ⟨w.heap.size, 6, none⟩) (Nat.le_refl _) (.bool false)) (p := ⟨w.heap.size, 7, none⟩) (Nat.le_refl _) (.bool false)) (p := ⟨w.heap.size, 8, none⟩) (Nat.le_refl _) (.slice none 0 0)) (p := ⟨w.heap.size, 9, none⟩) (Nat.le_refl _) (.slice none 0 0)) (p := ⟨w.heap.size, 10, none⟩) (Nat.le_refl _) (.slice none 0 0)) (p := ⟨w.heap.size, 11, none⟩) (Nat.le_refl _) (.slice none 0 0)
            simp only [List.setIfInBounds_toArray, List.set_cons_zero, List.set_cons_succ] at b9
            generalize hW : (World.setCell _ (⟨w.heap.size, 11, none⟩ : Addr) _) = W9 at b9 h9 ⊢
            clear hW
            have b_0 : W9.cell? ⟨w.heap.size, 0, none⟩ = some (.int .u8 0) := b9.cell 0
            have b_1 : W9.cell? ⟨w.heap.size, 1, none⟩ = some (.int .u32 0) := b9.cell 1
            have b_2 : W9.cell? ⟨w.heap.size, 2, none⟩ = some (.int .u64 0) := b9.cell 2
            have b_3 : W9.cell? ⟨w.heap.size, 3, none⟩ = some (.int .u64 0) := b9.cell 3
            have b_4 : W9.cell? ⟨w.heap.size, 4, none⟩ = some (.int .u32 0) := b9.cell 4
            have b_5 : W9.cell? ⟨w.heap.size, 5, none⟩ = some (.int .u16 0) := b9.cell 5
            have b_6 : W9.cell? ⟨w.heap.size, 6, none⟩ = some (.bool false) := b9.cell 6
            have b_7 : W9.cell? ⟨w.heap.size, 7, none⟩ = some (.bool false) := b9.cell 7
            have b_8 : W9.cell? ⟨w.heap.size, 8, none⟩ = some (.slice none 0 0) := b9.cell 8
            have b_9 : W9.cell? ⟨w.heap.size, 9, none⟩ = some (.slice none 0 0) := b9.cell 9
            have b_10 : W9.cell? ⟨w.heap.size, 10, none⟩ = some (.slice none 0 0) := b9.cell 10
            have b_11 : W9.cell? ⟨w.heap.size, 11, none⟩ = some (.slice none 0 0) := b9.cell 11
            refine bodyPost_ret (v := .tuple #[.agg (bareC 0 0 0 0), .int .i64 0, .int .i64 61]) (by simp [results, Try.results17, go_sem, rcV, bareC, b_0, b_1, b_2, b_3, b_4, b_5, b_6, b_7, b_8, b_9, b_10, b_11]) rfl ?_
            exact RefPost.no HN.out h9
          | true =>
            (with_reducible refine (encode_ref_yes ⟨k, t, p, n, nullC, pTs ys, pDs ys⟩ HOK.out hm (.slice none 0 0) (.slice none 0 0) (.slice A1 N l1) (.slice E1 D f1_) _ RO7.out.in_).mono ?_)
            rintro e w7 ⟨u, rfl, ou, hb7⟩
            have BR7 := Lib.hid (BR7.out.later hb7)
            have HW7 := Lib.hid (step_ HW7.out hb7)
            have BX7 := Lib.hid (BX7.out.later hb7)
            have RO7 := Lib.hid (RO7.out.later hb7)
            have kR := BR7.out.cell
            have fR := BR7.out.frozen
            have kX := BX7.out.cell
            obtain ⟨Au, cu, eu, _, _⟩ := (IR.of_own ou).form
            subst eu
            have t1 := (IR.of_own ou).text (P := Try.prog) (dst := 9) Try.underlying25 Try.underlying5 Try.underlying9
            have t2 := TY.out w7 HW7.out
            obtain ⟨q, hq⟩ : ∃ q, q = decide (encS ⟨k, t, p, n, nullC, pTs ys, pDs ys⟩ = ys) := ⟨_, rfl⟩
            have dq := str_ne (enc_bytes ⟨k, t, p, n, nullC, pTs ys, pDs ys⟩ HOK.out) HYB.out q hq
            have HQ := Lib.hid hq
            clear hb7 ou hq
            cases q
            · have HN := Lib.hid (show resD xs = (none, 61) by rw [HRES.out, HR0.out, if_neg (by have := HQ.out; simp at this; simp [this])])
              go_wp2
              have b9 := Box.set_ (Box.set_ (Box.set_ (Box.set_ (Box.set_ (Box.set_ (Box.set_ (Box.set_ (Box.set_ (Box.set_ (Box.set_ (Box.set_ (BR7.out) 0 (.int .u8 0)) 1 (.int .u32 0)) 2 (.int .u64 0)) 3 (.int .u64 0)) 4 (.int .u32 0)) 5 (.int .u16 0)) 6 (.bool false)) 7 (.bool false)) 8 (.slice none 0 0)) 9 (.slice none 0 0)) 10 (.slice none 0 0)) 11 (.slice none 0 0)
              have h9 := Below.setCell (Below.setCell (Below.setCell (Below.setCell (Below.setCell (Below.setCell (Below.setCell (Below.setCell (Below.setCell (Below.setCell (Below.setCell (Below.setCell (HW7.out) (p := ⟨w.heap.size, 0, none⟩) (Nat.le_refl _) (.int .u8 0)) (p := ⟨w.heap.size, 1, none⟩) (Nat.le_refl _) (.int .u32 0)) (p := ⟨w.heap.size, 2, none⟩) (Nat.le_refl _) (.int .u64 0)) (p := ⟨w.heap.size, 3, none⟩) (Nat.le_refl _) (.int .u64 0)) (p := ⟨w.heap.size, 4, none⟩) (Nat.le_refl _) (.int .u32 0)) (p := ⟨w.heap.size, 5, none⟩) (Nat.le_refl _) (.int .u16 0)) (p := ⟨w.heap.size, 6, none⟩) (Nat.le_refl _) (.bool false)) (p := ⟨w.heap.size, 7, none⟩) (Nat.le_refl _) (.bool false)) (p := ⟨w.heap.size, 8, none⟩) (Nat.le_refl _) (.slice none 0 0)) (p := ⟨w.heap.size, 9, none⟩) (Nat.le_refl _) (.slice none 0 0)) (p := ⟨w.heap.size, 10, none⟩) (Nat.le_refl _) (.slice none 0 0)) (p := ⟨w.heap.size, 11, none⟩) (Nat.le_refl _) (.slice none 0 0)
              simp only [List.setIfInBounds_toArray, List.set_cons_zero, List.set_cons_succ] at b9
              generalize hW : (World.setCell _ (⟨w.heap.size, 11, none⟩ : Addr) _) = W9 at b9 h9 ⊢
              clear hW
              have b_0 : W9.cell? ⟨w.heap.size, 0, none⟩ = some (.int .u8 0) := b9.cell 0
              have b_1 : W9.cell? ⟨w.heap.size, 1, none⟩ = some (.int .u32 0) := b9.cell 1
              have b_2 : W9.cell? ⟨w.heap.size, 2, none⟩ = some (.int .u64 0) := b9.cell 2
              have b_3 : W9.cell? ⟨w.heap.size, 3, none⟩ = some (.int .u64 0) := b9.cell 3
              have b_4 : W9.cell? ⟨w.heap.size, 4, none⟩ = some (.int .u32 0) := b9.cell 4
              have b_5 : W9.cell? ⟨w.heap.size, 5, none⟩ = some (.int .u16 0) := b9.cell 5
              have b_6 : W9.cell? ⟨w.heap.size, 6, none⟩ = some (.bool false) := b9.cell 6
              have b_7 : W9.cell? ⟨w.heap.size, 7, none⟩ = some (.bool false) := b9.cell 7
              have b_8 : W9.cell? ⟨w.heap.size, 8, none⟩ = some (.slice none 0 0) := b9.cell 8
              have b_9 : W9.cell? ⟨w.heap.size, 9, none⟩ = some (.slice none 0 0) := b9.cell 9
              have b_10 : W9.cell? ⟨w.heap.size, 10, none⟩ = some (.slice none 0 0) := b9.cell 10
              have b_11 : W9.cell? ⟨w.heap.size, 11, none⟩ = some (.slice none 0 0) := b9.cell 11
              refine bodyPost_ret (v := .tuple #[.agg (bareC 0 0 0 0), .int .i64 0, .int .i64 61]) (by simp [results, Try.results17, go_sem, rcV, bareC, b_0, b_1, b_2, b_3, b_4, b_5, b_6, b_7, b_8, b_9, b_10, b_11]) rfl ?_
              exact RefPost.no HN.out h9
            · have HN := Lib.hid (show resD xs = (some ⟨k, t, p, n, nullC, pTs ys, pDs ys⟩, 0) by rw [HRES.out, HR0.out, if_pos ⟨hm, by have := HQ.out; simpa using this⟩])
              go_wp2
              have b9 := Box.set_ (Box.set_ (Box.set_ (Box.set_ (Box.set_ (Box.set_ (Box.set_ (Box.set_ (Box.set_ (Box.set_ (Box.set_ (Box.set_ (BR7.out) 0 (.int .u8 k)) 1 (.int .u32 t)) 2 (.int .u64 p)) 3 (.int .u64 n)) 4 (.int .u32 0)) 5 (.int .u16 0)) 6 (.bool false)) 7 (.bool false)) 8 (.slice none 0 0)) 9 (.slice none 0 0)) 10 (.slice A1 N l1)) 11 (.slice E1 D f1_)
              have h9 := Below.setCell (Below.setCell (Below.setCell (Below.setCell (Below.setCell (Below.setCell (Below.setCell (Below.setCell (Below.setCell (Below.setCell (Below.setCell (Below.setCell (HW7.out) (p := ⟨w.heap.size, 0, none⟩) (Nat.le_refl _) (.int .u8 k)) (p := ⟨w.heap.size, 1, none⟩) (Nat.le_refl _) (.int .u32 t)) (p := ⟨w.heap.size, 2, none⟩) (Nat.le_refl _) (.int .u64 p)) (p := ⟨w.heap.size, 3, none⟩) (Nat.le_refl _) (.int .u64 n)) (p := ⟨w.heap.size, 4, none⟩) (Nat.le_refl _) (.int .u32 0)) (p := ⟨w.heap.size, 5, none⟩) (Nat.le_refl _) (.int .u16 0)) (p := ⟨w.heap.size, 6, none⟩) (Nat.le_refl _) (.bool false)) (p := ⟨w.heap.size, 7, none⟩) (Nat.le_refl _) (.bool false)) (p := ⟨w.heap.size, 8, none⟩) (Nat.le_refl _) (.slice none 0 0)) (p := ⟨w.heap.size, 9, none⟩) (Nat.le_refl _) (.slice none 0 0)) (p := ⟨w.heap.size, 10, none⟩) (Nat.le_refl _) (.slice A1 N l1)) (p := ⟨w.heap.size, 11, none⟩) (Nat.le_refl _) (.slice E1 D f1_)
              have r9 := RcOwn.far (RcOwn.far (RcOwn.far (RcOwn.far (RcOwn.far (RcOwn.far (RcOwn.far (RcOwn.far (RcOwn.far (RcOwn.far (RcOwn.far (RcOwn.far (RO7.out) (p := ⟨w.heap.size, 0, none⟩) (Nat.lt_succ_self _) (.int .u8 k)) (p := ⟨w.heap.size, 1, none⟩) (Nat.lt_succ_self _) (.int .u32 t)) (p := ⟨w.heap.size, 2, none⟩) (Nat.lt_succ_self _) (.int .u64 p)) (p := ⟨w.heap.size, 3, none⟩) (Nat.lt_succ_self _) (.int .u64 n)) (p := ⟨w.heap.size, 4, none⟩) (Nat.lt_succ_self _) (.int .u32 0)) (p := ⟨w.heap.size, 5, none⟩) (Nat.lt_succ_self _) (.int .u16 0)) (p := ⟨w.heap.size, 6, none⟩) (Nat.lt_succ_self _) (.bool false)) (p := ⟨w.heap.size, 7, none⟩) (Nat.lt_succ_self _) (.bool false)) (p := ⟨w.heap.size, 8, none⟩) (Nat.lt_succ_self _) (.slice none 0 0)) (p := ⟨w.heap.size, 9, none⟩) (Nat.lt_succ_self _) (.slice none 0 0)) (p := ⟨w.heap.size, 10, none⟩) (Nat.lt_succ_self _) (.slice A1 N l1)) (p := ⟨w.heap.size, 11, none⟩) (Nat.lt_succ_self _) (.slice E1 D f1_)
              simp only [List.setIfInBounds_toArray, List.set_cons_zero, List.set_cons_succ] at b9
              generalize hW : (World.setCell _ (⟨w.heap.size, 11, none⟩ : Addr) _) = W9 at b9 h9 r9 ⊢
              clear hW
              have b_0 : W9.cell? ⟨w.heap.size, 0, none⟩ = some (.int .u8 k) := b9.cell 0
              have b_1 : W9.cell? ⟨w.heap.size, 1, none⟩ = some (.int .u32 t) := b9.cell 1
              have b_2 : W9.cell? ⟨w.heap.size, 2, none⟩ = some (.int .u64 p) := b9.cell 2
              have b_3 : W9.cell? ⟨w.heap.size, 3, none⟩ = some (.int .u64 n) := b9.cell 3
              have b_4 : W9.cell? ⟨w.heap.size, 4, none⟩ = some (.int .u32 0) := b9.cell 4
              have b_5 : W9.cell? ⟨w.heap.size, 5, none⟩ = some (.int .u16 0) := b9.cell 5
              have b_6 : W9.cell? ⟨w.heap.size, 6, none⟩ = some (.bool false) := b9.cell 6
              have b_7 : W9.cell? ⟨w.heap.size, 7, none⟩ = some (.bool false) := b9.cell 7
              have b_8 : W9.cell? ⟨w.heap.size, 8, none⟩ = some (.slice none 0 0) := b9.cell 8
              have b_9 : W9.cell? ⟨w.heap.size, 9, none⟩ = some (.slice none 0 0) := b9.cell 9
              have b_10 : W9.cell? ⟨w.heap.size, 10, none⟩ = some (.slice A1 N l1) := b9.cell 10
              have b_11 : W9.cell? ⟨w.heap.size, 11, none⟩ = some (.slice E1 D f1_) := b9.cell 11
              refine bodyPost_ret (v := .tuple #[.agg (rcV ⟨k, t, p, n, nullC, pTs ys, pDs ys⟩ (.slice none 0 0) (.slice none 0 0) (.slice A1 N l1) (.slice E1 D f1_)), .int .i64 K, .int .i64 0]) (by simp [results, Try.results17, go_sem, rcV, bareC, b_0, b_1, b_2, b_3, b_4, b_5, b_6, b_7, b_8, b_9, b_10, b_11]) rfl ?_
              have hz := RefPost.yes HN.out r9.in_ h9
              rw [KL.out] at hz
              exact hz
end Go.Proofs.Ytbbphfhkedldmaa.Rec

/- The document's Decode of any bytes. -/
namespace Go.Proofs.Ytbbphfhkedldmaa.Rec
open Go.ChangeShapes Go.WideShapes Go.ChangeAt Go.RowKit Go.IntWalk Go.Proofs.NumMath Go.Proofs.Mem Go.Proofs.CrcMath NumBytes CrcA
set_option linter.unusedVariables false
theorem decode_ref (w : World) (v : Value) (xs : List Int) (hv : IR w w.heap.size .u8 v xs) (hx : Bytes xs) (hxl : xs.length ≤ 100000) :
    Calls Try.prog 17 #[v] w (RefPost w xs) := by
  by_cases h1 : xs.length < 27 ∨ lenB xs = 0 ∨ xs.length < lenB xs
  · exact decref_short w v xs hv hx hxl h1
  · have a1 : 27 ≤ xs.length := by omega
    have a2 : lenB xs ≠ 0 := by omega
    have a3 : lenB xs ≤ xs.length := by omega
    by_cases h2 : numS (xs.take (lenB xs)) 6 1 = 2 ∨ numS (xs.take (lenB xs)) 6 1 = 3
    · exact decref_change w v xs hv hx hxl a1 a2 a3 h2
    · by_cases h3 : numS (xs.take (lenB xs)) 6 1 = 8
      · exact decref_tables w v xs hv hx hxl a1 a2 a3 h3
      · exact decref_plain w v xs hv hx hxl a1 a2 a3 ⟨h2, h3⟩
end Go.Proofs.Ytbbphfhkedldmaa.Rec
