import Derived.Test.YteggcehjpfmikaaWt9
import Derived.Test.YteggcehjpfmikaaWtC
import Derived.Test.YteggcehjpfmikaaWtF
namespace Go.Proofs.Yteggcehjpfmikaa.Rec
open Go.ChangeShapes Go.WideShapes Go.ChangeAt Go.RowKit Go.IntWalk Go.Proofs.NumMath Go.Proofs.Mem Go.Proofs.CrcMath NumBytes CrcA
set_option linter.unusedVariables false
set_option linter.unusedSimpArgs false
theorem rNum_put {a : Int} {k : Nat} (hk : k ≤ 8) (ha : 0 ≤ a ∧ a < 2 ^ (8 * k)) (Y : List Int) : rNum k (putS a k ++ Y) = some (a, Y) := by
  unfold rNum
  rw [if_pos (by rw [List.length_append, putS_len]; omega), List.take_left' (putS_len a k), List.drop_left' (putS_len a k), get_put a k hk, Int.emod_eq_of_lt ha.1 ha.2]
theorem rText_put (xs Y : List Int) (h : xs.length ≤ 64) : rText (putS xs.length 1 ++ (xs ++ Y)) = some (xs, Y) := by
  unfold rText
  rw [rNum_put (by decide) (b8 (nat_b8 h))]
  simp only [Int.toNat_natCast]
  rw [if_pos (by simp), List.take_left' rfl, List.drop_left' rfl]
theorem rChg_put (c : Cg) (hc : c.Ok) (hx : c.xs.length ≤ 64) (hy : c.ys.length ≤ 64) (Y : List Int) : rChg (chgS c ++ Y) = some (c, Y) := by
  unfold rChg chgS
  simp only [List.append_assoc]
  rw [rNum_put (by decide) (b32 hc.1)]
  simp only
  rw [rNum_put (by decide) (b16 hc.2.1)]
  simp only
  rw [rNum_put (by decide) (b8 (flag_b _ _))]
  simp only
  rw [if_neg (by cases c.had <;> cases c.has <;> decide), rText_put _ _ hx]
  simp only
  rw [rText_put _ _ hy]
  simp only
  obtain ⟨pg, sl, had, has, xs, ys⟩ := c
  simp only
  cases had <;> cases has <;> rfl
theorem rAc_put (a : Ac) (ha : a.Ok) (Y : List Int) : rAc (acS a ++ Y) = some (a, Y) := by
  unfold rAc acS
  simp only [List.append_assoc]
  rw [rNum_put (by decide) (b32 ha.1)]
  simp only
  rw [rNum_put (by decide) (b64 ha.2.1)]
  simp only
  rw [rNum_put (by decide) (b64 ha.2.2.1)]
  simp only
  rw [rNum_put (by decide) (b8 ha.2.2.2)]
theorem rDt_put (a : Dt) (ha : a.Ok) (Y : List Int) : rDt (dtS a ++ Y) = some (a, Y) := by
  unfold rDt dtS
  simp only [List.append_assoc]
  rw [rNum_put (by decide) (b32 ha.1)]
  simp only
  rw [rNum_put (by decide) (b64 ha.2)]
theorem rMany_put {α : Type} {f : List Int → Option (α × List Int)} {g : α → List Int} {ok : α → Prop} (hf : ∀ a, ok a → ∀ Y, f (g a ++ Y) = some (a, Y)) : ∀ (l : List α), (∀ a ∈ l, ok a) → ∀ Y, rMany f l.length (l.flatMap g ++ Y) = some (l, Y)
  | [], _, Y => rfl
  | a :: l, h, Y => by
    rw [List.flatMap_cons, List.append_assoc, List.length_cons]
    unfold rMany
    rw [hf a (h a (List.mem_cons_self ..))]
    simp only
    rw [rMany_put hf l (fun b hb => h b (List.mem_cons_of_mem _ hb)) Y]
theorem rTab_put (ts : List Ac) (ds : List Dt) (h1 : ∀ x ∈ ts, x.Ok) (h2 : ∀ x ∈ ds, x.Ok) (l1 : ts.length ≤ 64) (l2 : ds.length ≤ 64) (Y : List Int) : rTab (tabS ts ds ++ Y) = some (ts, ds, Y) := by
  unfold rTab tabS
  simp only [List.append_assoc]
  rw [rNum_put (by decide) (b8 (nat_b8 l1))]
  simp only [Int.toNat_natCast]
  unfold acsS
  rw [rMany_put (ok := Ac.Ok) rAc_put ts h1]
  simp only
  rw [rNum_put (by decide) (b8 (nat_b8 l2))]
  simp only [Int.toNat_natCast]
  unfold dtsS
  rw [rMany_put (ok := Dt.Ok) rDt_put ds h2]
theorem rBody_put (r : Rc) (hr : r.Ok) (hm : mayS r = true) : rBody (bodyS r) = some r := by
  have la := may_lens r hm
  obtain ⟨na, ta⟩ := may_more r hm
  unfold rBody bodyS
  simp only [List.append_assoc]
  rw [rNum_put (by decide) (b8 hr.1)]
  simp only
  rw [rNum_put (by decide) (b32 hr.2.1)]
  simp only
  rw [rNum_put (by decide) (b64 hr.2.2.1)]
  simp only
  rw [rNum_put (by decide) (b64 hr.2.2.2.1)]
  simp only
  unfold rTail
  by_cases hk : r.k = 2 ∨ r.k = 3
  · have h8 : ¬ r.k = 8 := by omega
    obtain ⟨e1, e2⟩ := ta h8
    rw [if_pos hk, if_pos hk, if_neg h8, rChg_put _ hr.2.2.2.2.1 la.xs la.ys]
    simp only
    unfold rFull
    rw [show (⟨r.k, r.t, r.p, r.n, r.c, [], []⟩ : Rc) = r by rw [← e1, ← e2], hm]
    simp
  · rw [if_neg hk, if_neg hk, List.nil_append]
    by_cases h8 : r.k = 8
    · rw [if_pos h8, if_pos h8]
      have := rTab_put r.ts r.ds hr.2.2.2.2.2.1 hr.2.2.2.2.2.2 la.ts la.ds []
      rw [List.append_nil] at this
      rw [this]
      simp only
      unfold rFull
      rw [show (⟨r.k, r.t, r.p, r.n, nullC, r.ts, r.ds⟩ : Rc) = r by rw [show nullC = r.c from (na hk).symm], hm]
      simp
    · rw [if_neg h8, if_neg h8]
      obtain ⟨e1, e2⟩ := ta h8
      unfold rFull
      rw [show (⟨r.k, r.t, r.p, r.n, nullC, [], []⟩ : Rc) = r by rw [show nullC = r.c from (na hk).symm, ← e1, ← e2], hm]
      simp
theorem len_bd (r : Rc) (hm : mayS r = true) : 0 ≤ (6 + ((bodyS r).length : Int)) ∧ (6 + ((bodyS r).length : Int)) ≤ 65535 := by
  have := body_len r (may_lens r hm)
  omega
theorem rDec_put (r : Rc) (hr : r.Ok) (hm : mayS r = true) : rDec (encS r) = some r := by
  unfold rDec encS
  rw [List.append_assoc, rNum_put (by decide) (b16 (len_bd r hm))]
  simp only
  have hb := tn_bd (sumF 0#32 (bodyS r))
  rw [rNum_put (by decide) (b32 ⟨hb.1, by omega⟩)]
  simp only
  rw [if_pos trivial, rBody_put r hr hm]
end Go.Proofs.Yteggcehjpfmikaa.Rec
namespace Go.Proofs.Yteggcehjpfmikaa.Rec
open Go.ChangeShapes Go.WideShapes Go.ChangeAt Go.RowKit Go.IntWalk Go.Proofs.NumMath Go.Proofs.Mem Go.Proofs.CrcMath NumBytes CrcA
set_option linter.unusedVariables false
set_option linter.unusedSimpArgs false
def lenB (xs : List Int) : Nat := (getS (xs.take 2)).toNat
def resD (xs : List Int) : Option Rc × Int :=
  if xs.length < 27 then (none, 60) else if lenB xs = 0 ∨ xs.length < lenB xs then (none, 60) else match rDec (xs.take (lenB xs)) with
    | none => (none, 61)
    | some r => (some r, 0)
def DecodePost (w : World) (xs : List Int) (e : Ending) (w' : World) : Prop :=
  match resD xs with
  | (none, er) => e = .returned (.tuple #[.agg (bareC 0 0 0 0), .int .i64 0, .int .u16 er]) ∧ Below w.heap.size w w'
  | (some r, _) => ∃ a b ta da, e = .returned (.tuple #[.agg (rcV r a b ta da), .int .i64 (lenB xs), .int .u16 0]) ∧ RcOwn w' w.heap.size r a b ta da ∧ Below w.heap.size w w'
theorem DecodePost.no {w w' : World} {xs : List Int} {er : Int} (h : resD xs = (none, er)) (hb : Below w.heap.size w w') : DecodePost w xs (.returned (.tuple #[.agg (bareC 0 0 0 0), .int .i64 0, .int .u16 er])) w' := by
  unfold DecodePost; rw [h]; exact ⟨rfl, hb⟩
set_option maxRecDepth 100000 in
set_option maxHeartbeats 16000000 in
theorem decode_all_any (w : World) (v : Value) (xs : List Int) (hv : IR w w.heap.size .u8 v xs) (hx : Bytes xs) (hxl : xs.length ≤ 100000) :
    Calls Try.prog 55 #[v] w (DecodePost w xs) := by
  obtain ⟨A, c, rfl, hlc, hcm⟩ := hv.form
  unfold maxLen at hcm
  obtain ⟨L, hL⟩ : ∃ L, L = xs.length := ⟨_, rfl⟩
  rw [← hL] at hv hlc hxl ⊢
  by_cases h27 : L < 27
  · have HN := Lib.hid (show resD xs = (none, 60) by unfold resD; rw [if_pos (by omega)])
    refine (decode_few A L c h27 w).mono ?_
    rintro e w' ⟨rfl, hb⟩
    exact DecodePost.no HN.out hb
  · have hc2 : 2 ≤ c := by omega
    have hc2' : (2 : Int) ≤ (c : Int) := by omega
    have d27 : decide ((L : Int) < 27) = false := by simp; omega
    have hz : IR (w.alloc (.cells (bareC 0 0 0 0) 54)) w.heap.size .u8 (.slice A L c) xs := hv.alloc (Nat.le_refl _) _
    have h2 : IR (w.alloc (.cells (bareC 0 0 0 0) 54)) w.heap.size .u8 (.slice A 2 c) (xs.take 2) := hz.take (by omega)
    obtain ⟨g0, hg0⟩ : ∃ g, g = getS (xs.take 2) := ⟨_, rfl⟩
    have GT := Lib.hid (get_any _ _ (w.alloc (.cells (bareC 0 0 0 0) 54)) w.heap.size h2 (bytes_take hx 2))
    rw [← hg0] at GT
    have hgb : 0 ≤ g0 ∧ g0 < 65536 := by
      rw [hg0]; unfold getS
      have e : min (xs.take 2).length 8 = 2 := by rw [List.length_take]; omega
      rw [e]; exact getTo_bd _ (bytes_take hx 2) 2
    obtain ⟨K, rfl⟩ : ∃ K : Nat, g0 = K := ⟨g0.toNat, by omega⟩
    have hK : lenB xs = K := by unfold lenB; rw [← hg0]; simp
    have wk : IntKind.i64.wrap (K : Int) = (K : Int) := IntWalk.i64_in _ (by omega)
    by_cases hbad : K = 0 ∨ L < K
    · have HN := Lib.hid (show resD xs = (none, 60) by unfold resD; rw [if_neg (by omega), if_pos (by rw [hK]; omega)])
      obtain ⟨q1, hq1⟩ : ∃ q, q = decide (K = 0) := ⟨_, rfl⟩
      obtain ⟨q2, hq2⟩ : ∃ q, q = decide (L < K) := ⟨_, rfl⟩
      have d1 : ((K : Int) == 0) = q1 := by rw [hq1, beq_zero]
      have d2 : decide ((L : Int) < (K : Int)) = q2 := by rw [hq2, decide_eq_decide]; omega
      have d2' : decide (L < K) = q2 := hq2.symm
      have HQ := Lib.hid (show (q1 || q2) = true by rw [hq1, hq2]; simpa using hbad)
      clear hg0 hgb hK hbad h27 hz h2 hv hL hxl hq1 hq2
      go_enter Try.func55, Try.ntmps55
      go_wp2_with fail
      (with_reducible refine GT.out.mono ?_)
      rintro e w1 ⟨rfl, rfl⟩
      cases q1
      · cases q2
        · have := HQ.out; simp at this
        · go_wp2
          refine bodyPost_ret (v := .tuple #[.agg (bareC 0 0 0 0), .int .i64 0, .int .u16 60]) (by simp [results, Try.results55, go_sem]; try rfl) rfl ?_
          exact DecodePost.no HN.out (new_ (Below.refl _ _) _)
      · go_wp2
        refine bodyPost_ret (v := .tuple #[.agg (bareC 0 0 0 0), .int .i64 0, .int .u16 60]) (by simp [results, Try.results55, go_sem]; try rfl) rfl ?_
        exact DecodePost.no HN.out (new_ (Below.refl _ _) _)
    · have d1 : ((K : Int) == 0) = false := by rw [beq_zero]; simp; omega
      have d2 : decide ((L : Int) < (K : Int)) = false := by simp; omega
      have d2' : decide (L < K) = false := by simp; omega
      have b1 : (0 : Int) ≤ (K : Int) := by omega
      have b2 : (K : Int) ≤ (c : Int) := by omega
      have hkL : K ≤ L := by omega
      have DB := Lib.hid (decode_any (w.alloc (.cells (bareC 0 0 0 0) 54)) w.heap.size (by simp) _ _ (hz.take hkL) (bytes_take hx K) (by rw [List.length_take]; omega))
      have BR0 := Lib.hid (Box.new w (bareC 0 0 0 0) 54)
      have HR := Lib.hid (show ∀ o, rDec (xs.take K) = o → resD xs = (match o with | none => (none, 61) | some r => (some r, 0)) from fun o ho => by unfold resD; rw [if_neg (by omega), if_neg (by rw [hK]; omega), hK, ho])
      have HK := Lib.hid hK
      clear hg0 hgb hK hbad h27 hz h2 hv hL hxl
      go_enter Try.func55, Try.ntmps55
      go_wp2_with fail
      (with_reducible refine GT.out.mono ?_)
      rintro e w1 ⟨rfl, rfl⟩
      go_wp2_with fail
      (with_reducible refine DB.out.mono ?_)
      rintro e w1 hz
      unfold DecPost at hz
      cases eD : rDec (xs.take K) with
      | none =>
        rw [eD] at hz
        obtain ⟨rfl, hb1⟩ := hz
        have HN := Lib.hid (HR.out none eD)
        have BR1 := Lib.hid (BR0.out.later hb1)
        have HW1 := Lib.hid (step_ (new_ (Below.refl w.heap.size w) _) hb1)
        have HL := Lib.hid (BR0.out.later hb1).lt
        clear hb1 eD
        have hb2 := BR1.out.alloc (.cells (bareC 0 0 0 0) 54)
        have a_0 : (w1.alloc (.cells (bareC 0 0 0 0) 54)).cell? ⟨w.heap.size, 0, none⟩ = some (.int .u8 0) := hb2.cell 0
        have f_0 := hb2.frozen 0
        have a_1 : (w1.alloc (.cells (bareC 0 0 0 0) 54)).cell? ⟨w.heap.size, 1, none⟩ = some (.int .u32 0) := hb2.cell 1
        have f_1 := hb2.frozen 1
        have a_2 : (w1.alloc (.cells (bareC 0 0 0 0) 54)).cell? ⟨w.heap.size, 2, none⟩ = some (.int .u64 0) := hb2.cell 2
        have f_2 := hb2.frozen 2
        have a_3 : (w1.alloc (.cells (bareC 0 0 0 0) 54)).cell? ⟨w.heap.size, 3, none⟩ = some (.int .u64 0) := hb2.cell 3
        have f_3 := hb2.frozen 3
        have a_4 : (w1.alloc (.cells (bareC 0 0 0 0) 54)).cell? ⟨w.heap.size, 4, none⟩ = some (.int .u32 0) := hb2.cell 4
        have f_4 := hb2.frozen 4
        have a_5 : (w1.alloc (.cells (bareC 0 0 0 0) 54)).cell? ⟨w.heap.size, 5, none⟩ = some (.int .u16 0) := hb2.cell 5
        have f_5 := hb2.frozen 5
        have a_6 : (w1.alloc (.cells (bareC 0 0 0 0) 54)).cell? ⟨w.heap.size, 6, none⟩ = some (.bool false) := hb2.cell 6
        have f_6 := hb2.frozen 6
        have a_7 : (w1.alloc (.cells (bareC 0 0 0 0) 54)).cell? ⟨w.heap.size, 7, none⟩ = some (.bool false) := hb2.cell 7
        have f_7 := hb2.frozen 7
        have a_8 : (w1.alloc (.cells (bareC 0 0 0 0) 54)).cell? ⟨w.heap.size, 8, none⟩ = some (.slice none 0 0) := hb2.cell 8
        have f_8 := hb2.frozen 8
        have a_9 : (w1.alloc (.cells (bareC 0 0 0 0) 54)).cell? ⟨w.heap.size, 9, none⟩ = some (.slice none 0 0) := hb2.cell 9
        have f_9 := hb2.frozen 9
        have a_10 : (w1.alloc (.cells (bareC 0 0 0 0) 54)).cell? ⟨w.heap.size, 10, none⟩ = some (.slice none 0 0) := hb2.cell 10
        have f_10 := hb2.frozen 10
        have a_11 : (w1.alloc (.cells (bareC 0 0 0 0) 54)).cell? ⟨w.heap.size, 11, none⟩ = some (.slice none 0 0) := hb2.cell 11
        have f_11 := hb2.frozen 11
        have HB2 := Lib.hid hb2
        clear hb2
        go_wp2
        have b9 := Box.set_ (Box.set_ (Box.set_ (Box.set_ (Box.set_ (Box.set_ (Box.set_ (Box.set_ (Box.set_ (Box.set_ (Box.set_ (Box.set_ (HB2.out) 0 (.int .u8 0)) 1 (.int .u32 0)) 2 (.int .u64 0)) 3 (.int .u64 0)) 4 (.int .u32 0)) 5 (.int .u16 0)) 6 (.bool false)) 7 (.bool false)) 8 (.slice none 0 0)) 9 (.slice none 0 0)) 10 (.slice none 0 0)) 11 (.slice none 0 0)
        simp only [bareC, rcV, List.setIfInBounds_toArray, List.set_cons_zero, List.set_cons_succ] at b9
        have l9 := Below.setCell (Below.setCell (Below.setCell (Below.setCell (Below.setCell (Below.setCell (Below.setCell (Below.setCell (Below.setCell (Below.setCell (Below.setCell (Below.setCell (new_ HW1.out (.cells (bareC 0 0 0 0) 54)) (p := ⟨w.heap.size, 0, none⟩) (Nat.le_refl _) (.int .u8 0)) (p := ⟨w.heap.size, 1, none⟩) (Nat.le_refl _) (.int .u32 0)) (p := ⟨w.heap.size, 2, none⟩) (Nat.le_refl _) (.int .u64 0)) (p := ⟨w.heap.size, 3, none⟩) (Nat.le_refl _) (.int .u64 0)) (p := ⟨w.heap.size, 4, none⟩) (Nat.le_refl _) (.int .u32 0)) (p := ⟨w.heap.size, 5, none⟩) (Nat.le_refl _) (.int .u16 0)) (p := ⟨w.heap.size, 6, none⟩) (Nat.le_refl _) (.bool false)) (p := ⟨w.heap.size, 7, none⟩) (Nat.le_refl _) (.bool false)) (p := ⟨w.heap.size, 8, none⟩) (Nat.le_refl _) (.slice none 0 0)) (p := ⟨w.heap.size, 9, none⟩) (Nat.le_refl _) (.slice none 0 0)) (p := ⟨w.heap.size, 10, none⟩) (Nat.le_refl _) (.slice none 0 0)) (p := ⟨w.heap.size, 11, none⟩) (Nat.le_refl _) (.slice none 0 0)
        clear a_0 f_0 a_1 f_1 a_2 f_2 a_3 f_3 a_4 f_4 a_5 f_5 a_6 f_6 a_7 f_7 a_8 f_8 a_9 f_9 a_10 f_10 a_11 f_11
        generalize World.setCell (World.setCell (World.setCell (World.setCell (World.setCell (World.setCell (World.setCell (World.setCell (World.setCell (World.setCell (World.setCell (World.setCell ((w1.alloc (.cells (bareC 0 0 0 0) 54))) (⟨w.heap.size, 0, none⟩ : Addr) (.int .u8 0)) (⟨w.heap.size, 1, none⟩ : Addr) (.int .u32 0)) (⟨w.heap.size, 2, none⟩ : Addr) (.int .u64 0)) (⟨w.heap.size, 3, none⟩ : Addr) (.int .u64 0)) (⟨w.heap.size, 4, none⟩ : Addr) (.int .u32 0)) (⟨w.heap.size, 5, none⟩ : Addr) (.int .u16 0)) (⟨w.heap.size, 6, none⟩ : Addr) (.bool false)) (⟨w.heap.size, 7, none⟩ : Addr) (.bool false)) (⟨w.heap.size, 8, none⟩ : Addr) (.slice none 0 0)) (⟨w.heap.size, 9, none⟩ : Addr) (.slice none 0 0)) (⟨w.heap.size, 10, none⟩ : Addr) (.slice none 0 0)) (⟨w.heap.size, 11, none⟩ : Addr) (.slice none 0 0) = W9 at *
        have q0 : W9.cell? ⟨w.heap.size, 0, none⟩ = some (.int .u8 0) := b9.cell 0
        have q1 : W9.cell? ⟨w.heap.size, 1, none⟩ = some (.int .u32 0) := b9.cell 1
        have q2 : W9.cell? ⟨w.heap.size, 2, none⟩ = some (.int .u64 0) := b9.cell 2
        have q3 : W9.cell? ⟨w.heap.size, 3, none⟩ = some (.int .u64 0) := b9.cell 3
        have q4 : W9.cell? ⟨w.heap.size, 4, none⟩ = some (.int .u32 0) := b9.cell 4
        have q5 : W9.cell? ⟨w.heap.size, 5, none⟩ = some (.int .u16 0) := b9.cell 5
        have q6 : W9.cell? ⟨w.heap.size, 6, none⟩ = some (.bool false) := b9.cell 6
        have q7 : W9.cell? ⟨w.heap.size, 7, none⟩ = some (.bool false) := b9.cell 7
        have q8 : W9.cell? ⟨w.heap.size, 8, none⟩ = some (.slice none 0 0) := b9.cell 8
        have q9 : W9.cell? ⟨w.heap.size, 9, none⟩ = some (.slice none 0 0) := b9.cell 9
        have q10 : W9.cell? ⟨w.heap.size, 10, none⟩ = some (.slice none 0 0) := b9.cell 10
        have q11 : W9.cell? ⟨w.heap.size, 11, none⟩ = some (.slice none 0 0) := b9.cell 11
        refine bodyPost_ret (v := .tuple #[.agg (bareC 0 0 0 0), .int .i64 0, .int .u16 61]) (by simp [results, Try.results55, go_sem, bareC, q0, q1, q2, q3, q4, q5, q6, q7, q8, q9, q10, q11]) rfl ?_
        exact DecodePost.no HN.out l9
      | some r =>
        rw [eD] at hz
        obtain ⟨a, b, ta, da, rfl, ri, hb1⟩ := hz
        have hV := HR.out (some r) eD
        simp only at hV
        have HV := Lib.hid hV
        obtain ⟨A1, k1, e1, _, _⟩ := ri.in_.a.form
        obtain ⟨A2, k2, e2, _, _⟩ := ri.in_.b.form
        obtain ⟨A3, k3, e3, _, _⟩ := ri.in_.t.form
        obtain ⟨A4, k4, e4, _, _⟩ := ri.in_.d.form
        subst e1 e2 e3 e4
        have BR1 := Lib.hid (BR0.out.later hb1)
        have HW1 := Lib.hid (step_ (new_ (Below.refl w.heap.size w) _) hb1)
        have HL := Lib.hid (BR0.out.later hb1).lt
        have RI := Lib.hid ri
        clear hb1 eD ri hV
        have hb2 := BR1.out.alloc (.cells (rcV r (.slice A1 r.c.xs.length k1) (.slice A2 r.c.ys.length k2) (.slice A3 r.ts.length k3) (.slice A4 r.ds.length k4)) 54)
        have a_0 : (w1.alloc (.cells (rcV r (.slice A1 r.c.xs.length k1) (.slice A2 r.c.ys.length k2) (.slice A3 r.ts.length k3) (.slice A4 r.ds.length k4)) 54)).cell? ⟨w.heap.size, 0, none⟩ = some (.int .u8 0) := hb2.cell 0
        have f_0 := hb2.frozen 0
        have a_1 : (w1.alloc (.cells (rcV r (.slice A1 r.c.xs.length k1) (.slice A2 r.c.ys.length k2) (.slice A3 r.ts.length k3) (.slice A4 r.ds.length k4)) 54)).cell? ⟨w.heap.size, 1, none⟩ = some (.int .u32 0) := hb2.cell 1
        have f_1 := hb2.frozen 1
        have a_2 : (w1.alloc (.cells (rcV r (.slice A1 r.c.xs.length k1) (.slice A2 r.c.ys.length k2) (.slice A3 r.ts.length k3) (.slice A4 r.ds.length k4)) 54)).cell? ⟨w.heap.size, 2, none⟩ = some (.int .u64 0) := hb2.cell 2
        have f_2 := hb2.frozen 2
        have a_3 : (w1.alloc (.cells (rcV r (.slice A1 r.c.xs.length k1) (.slice A2 r.c.ys.length k2) (.slice A3 r.ts.length k3) (.slice A4 r.ds.length k4)) 54)).cell? ⟨w.heap.size, 3, none⟩ = some (.int .u64 0) := hb2.cell 3
        have f_3 := hb2.frozen 3
        have a_4 : (w1.alloc (.cells (rcV r (.slice A1 r.c.xs.length k1) (.slice A2 r.c.ys.length k2) (.slice A3 r.ts.length k3) (.slice A4 r.ds.length k4)) 54)).cell? ⟨w.heap.size, 4, none⟩ = some (.int .u32 0) := hb2.cell 4
        have f_4 := hb2.frozen 4
        have a_5 : (w1.alloc (.cells (rcV r (.slice A1 r.c.xs.length k1) (.slice A2 r.c.ys.length k2) (.slice A3 r.ts.length k3) (.slice A4 r.ds.length k4)) 54)).cell? ⟨w.heap.size, 5, none⟩ = some (.int .u16 0) := hb2.cell 5
        have f_5 := hb2.frozen 5
        have a_6 : (w1.alloc (.cells (rcV r (.slice A1 r.c.xs.length k1) (.slice A2 r.c.ys.length k2) (.slice A3 r.ts.length k3) (.slice A4 r.ds.length k4)) 54)).cell? ⟨w.heap.size, 6, none⟩ = some (.bool false) := hb2.cell 6
        have f_6 := hb2.frozen 6
        have a_7 : (w1.alloc (.cells (rcV r (.slice A1 r.c.xs.length k1) (.slice A2 r.c.ys.length k2) (.slice A3 r.ts.length k3) (.slice A4 r.ds.length k4)) 54)).cell? ⟨w.heap.size, 7, none⟩ = some (.bool false) := hb2.cell 7
        have f_7 := hb2.frozen 7
        have a_8 : (w1.alloc (.cells (rcV r (.slice A1 r.c.xs.length k1) (.slice A2 r.c.ys.length k2) (.slice A3 r.ts.length k3) (.slice A4 r.ds.length k4)) 54)).cell? ⟨w.heap.size, 8, none⟩ = some (.slice none 0 0) := hb2.cell 8
        have f_8 := hb2.frozen 8
        have a_9 : (w1.alloc (.cells (rcV r (.slice A1 r.c.xs.length k1) (.slice A2 r.c.ys.length k2) (.slice A3 r.ts.length k3) (.slice A4 r.ds.length k4)) 54)).cell? ⟨w.heap.size, 9, none⟩ = some (.slice none 0 0) := hb2.cell 9
        have f_9 := hb2.frozen 9
        have a_10 : (w1.alloc (.cells (rcV r (.slice A1 r.c.xs.length k1) (.slice A2 r.c.ys.length k2) (.slice A3 r.ts.length k3) (.slice A4 r.ds.length k4)) 54)).cell? ⟨w.heap.size, 10, none⟩ = some (.slice none 0 0) := hb2.cell 10
        have f_10 := hb2.frozen 10
        have a_11 : (w1.alloc (.cells (rcV r (.slice A1 r.c.xs.length k1) (.slice A2 r.c.ys.length k2) (.slice A3 r.ts.length k3) (.slice A4 r.ds.length k4)) 54)).cell? ⟨w.heap.size, 11, none⟩ = some (.slice none 0 0) := hb2.cell 11
        have f_11 := hb2.frozen 11
        have HB2 := Lib.hid hb2
        clear hb2
        go_wp2
        have b9 := Box.set_ (Box.set_ (Box.set_ (Box.set_ (Box.set_ (Box.set_ (Box.set_ (Box.set_ (Box.set_ (Box.set_ (Box.set_ (Box.set_ (HB2.out) 0 (.int .u8 r.k)) 1 (.int .u32 r.t)) 2 (.int .u64 r.p)) 3 (.int .u64 r.n)) 4 (.int .u32 r.c.pg)) 5 (.int .u16 r.c.sl)) 6 (.bool r.c.had)) 7 (.bool r.c.has)) 8 (.slice A1 r.c.xs.length k1)) 9 (.slice A2 r.c.ys.length k2)) 10 (.slice A3 r.ts.length k3)) 11 (.slice A4 r.ds.length k4)
        simp only [bareC, rcV, List.setIfInBounds_toArray, List.set_cons_zero, List.set_cons_succ] at b9
        have l9 := Below.setCell (Below.setCell (Below.setCell (Below.setCell (Below.setCell (Below.setCell (Below.setCell (Below.setCell (Below.setCell (Below.setCell (Below.setCell (Below.setCell (new_ HW1.out (.cells (rcV r (.slice A1 r.c.xs.length k1) (.slice A2 r.c.ys.length k2) (.slice A3 r.ts.length k3) (.slice A4 r.ds.length k4)) 54)) (p := ⟨w.heap.size, 0, none⟩) (Nat.le_refl _) (.int .u8 r.k)) (p := ⟨w.heap.size, 1, none⟩) (Nat.le_refl _) (.int .u32 r.t)) (p := ⟨w.heap.size, 2, none⟩) (Nat.le_refl _) (.int .u64 r.p)) (p := ⟨w.heap.size, 3, none⟩) (Nat.le_refl _) (.int .u64 r.n)) (p := ⟨w.heap.size, 4, none⟩) (Nat.le_refl _) (.int .u32 r.c.pg)) (p := ⟨w.heap.size, 5, none⟩) (Nat.le_refl _) (.int .u16 r.c.sl)) (p := ⟨w.heap.size, 6, none⟩) (Nat.le_refl _) (.bool r.c.had)) (p := ⟨w.heap.size, 7, none⟩) (Nat.le_refl _) (.bool r.c.has)) (p := ⟨w.heap.size, 8, none⟩) (Nat.le_refl _) (.slice A1 r.c.xs.length k1)) (p := ⟨w.heap.size, 9, none⟩) (Nat.le_refl _) (.slice A2 r.c.ys.length k2)) (p := ⟨w.heap.size, 10, none⟩) (Nat.le_refl _) (.slice A3 r.ts.length k3)) (p := ⟨w.heap.size, 11, none⟩) (Nat.le_refl _) (.slice A4 r.ds.length k4)
        have r9 := RcOwn.far (RcOwn.far (RcOwn.far (RcOwn.far (RcOwn.far (RcOwn.far (RcOwn.far (RcOwn.far (RcOwn.far (RcOwn.far (RcOwn.far (RcOwn.far (RI.out.later (new_ (Below.refl _ _) (.cells (rcV r (.slice A1 r.c.xs.length k1) (.slice A2 r.c.ys.length k2) (.slice A3 r.ts.length k3) (.slice A4 r.ds.length k4)) 54))) (p := ⟨w.heap.size, 0, none⟩) (by simp) (.int .u8 r.k)) (p := ⟨w.heap.size, 1, none⟩) (by simp) (.int .u32 r.t)) (p := ⟨w.heap.size, 2, none⟩) (by simp) (.int .u64 r.p)) (p := ⟨w.heap.size, 3, none⟩) (by simp) (.int .u64 r.n)) (p := ⟨w.heap.size, 4, none⟩) (by simp) (.int .u32 r.c.pg)) (p := ⟨w.heap.size, 5, none⟩) (by simp) (.int .u16 r.c.sl)) (p := ⟨w.heap.size, 6, none⟩) (by simp) (.bool r.c.had)) (p := ⟨w.heap.size, 7, none⟩) (by simp) (.bool r.c.has)) (p := ⟨w.heap.size, 8, none⟩) (by simp) (.slice A1 r.c.xs.length k1)) (p := ⟨w.heap.size, 9, none⟩) (by simp) (.slice A2 r.c.ys.length k2)) (p := ⟨w.heap.size, 10, none⟩) (by simp) (.slice A3 r.ts.length k3)) (p := ⟨w.heap.size, 11, none⟩) (by simp) (.slice A4 r.ds.length k4)
        clear a_0 f_0 a_1 f_1 a_2 f_2 a_3 f_3 a_4 f_4 a_5 f_5 a_6 f_6 a_7 f_7 a_8 f_8 a_9 f_9 a_10 f_10 a_11 f_11
        generalize World.setCell (World.setCell (World.setCell (World.setCell (World.setCell (World.setCell (World.setCell (World.setCell (World.setCell (World.setCell (World.setCell (World.setCell ((w1.alloc (.cells (rcV r (.slice A1 r.c.xs.length k1) (.slice A2 r.c.ys.length k2) (.slice A3 r.ts.length k3) (.slice A4 r.ds.length k4)) 54))) (⟨w.heap.size, 0, none⟩ : Addr) (.int .u8 r.k)) (⟨w.heap.size, 1, none⟩ : Addr) (.int .u32 r.t)) (⟨w.heap.size, 2, none⟩ : Addr) (.int .u64 r.p)) (⟨w.heap.size, 3, none⟩ : Addr) (.int .u64 r.n)) (⟨w.heap.size, 4, none⟩ : Addr) (.int .u32 r.c.pg)) (⟨w.heap.size, 5, none⟩ : Addr) (.int .u16 r.c.sl)) (⟨w.heap.size, 6, none⟩ : Addr) (.bool r.c.had)) (⟨w.heap.size, 7, none⟩ : Addr) (.bool r.c.has)) (⟨w.heap.size, 8, none⟩ : Addr) (.slice A1 r.c.xs.length k1)) (⟨w.heap.size, 9, none⟩ : Addr) (.slice A2 r.c.ys.length k2)) (⟨w.heap.size, 10, none⟩ : Addr) (.slice A3 r.ts.length k3)) (⟨w.heap.size, 11, none⟩ : Addr) (.slice A4 r.ds.length k4) = W9 at *
        have q0 : W9.cell? ⟨w.heap.size, 0, none⟩ = some (.int .u8 r.k) := b9.cell 0
        have q1 : W9.cell? ⟨w.heap.size, 1, none⟩ = some (.int .u32 r.t) := b9.cell 1
        have q2 : W9.cell? ⟨w.heap.size, 2, none⟩ = some (.int .u64 r.p) := b9.cell 2
        have q3 : W9.cell? ⟨w.heap.size, 3, none⟩ = some (.int .u64 r.n) := b9.cell 3
        have q4 : W9.cell? ⟨w.heap.size, 4, none⟩ = some (.int .u32 r.c.pg) := b9.cell 4
        have q5 : W9.cell? ⟨w.heap.size, 5, none⟩ = some (.int .u16 r.c.sl) := b9.cell 5
        have q6 : W9.cell? ⟨w.heap.size, 6, none⟩ = some (.bool r.c.had) := b9.cell 6
        have q7 : W9.cell? ⟨w.heap.size, 7, none⟩ = some (.bool r.c.has) := b9.cell 7
        have q8 : W9.cell? ⟨w.heap.size, 8, none⟩ = some (.slice A1 r.c.xs.length k1) := b9.cell 8
        have q9 : W9.cell? ⟨w.heap.size, 9, none⟩ = some (.slice A2 r.c.ys.length k2) := b9.cell 9
        have q10 : W9.cell? ⟨w.heap.size, 10, none⟩ = some (.slice A3 r.ts.length k3) := b9.cell 10
        have q11 : W9.cell? ⟨w.heap.size, 11, none⟩ = some (.slice A4 r.ds.length k4) := b9.cell 11
        refine bodyPost_ret (v := .tuple #[.agg #[.int .u8 r.k, .int .u32 r.t, .int .u64 r.p, .int .u64 r.n, .int .u32 r.c.pg, .int .u16 r.c.sl, .bool r.c.had, .bool r.c.has, .slice A1 r.c.xs.length k1, .slice A2 r.c.ys.length k2, .slice A3 r.ts.length k3, .slice A4 r.ds.length k4], .int .i64 K, .int .u16 0]) (by simp [results, Try.results55, go_sem, q0, q1, q2, q3, q4, q5, q6, q7, q8, q9, q10, q11]) rfl ?_
        unfold DecodePost
        rw [HV.out, HK.out]
        exact ⟨_, _, _, _, rfl, r9.lower (by simp), l9⟩
end Go.Proofs.Yteggcehjpfmikaa.Rec
namespace Go.Proofs.Yteggcehjpfmikaa.Wal
open Go.ChangeShapes Go.WideShapes Go.ChangeAt Go.RowKit Go.IntWalk Go.Proofs.Mem Go.Proofs.Each Law Go.Proofs.Yteggcehjpfmikaa.Disk Strip Rec
set_option linter.unusedVariables false
set_option linter.unusedSimpArgs false
def ldF (xs : List Int) : Nat → Nat → List Int × Nat
  | 0, a => ([], a)
  | n + 1, a => match (resD (xs.drop a)).1 with
    | none => ([], a)
    | some r => ((a : Int) :: (ldF xs n (a + lenB (xs.drop a))).1, (ldF xs n (a + lenB (xs.drop a))).2)
def ldS (xs : List Int) : List Int := (ldF xs (xs.length + 1) 0).1
def ldE (xs : List Int) : Nat := (ldF xs (xs.length + 1) 0).2
theorem resD_some {xs : List Int} {r : Rc} {e : Int} (h : resD xs = (some r, e)) : 0 < lenB xs ∧ lenB xs ≤ xs.length ∧ 27 ≤ xs.length ∧ e = 0 := by
  unfold resD at h
  split at h
  · cases h
  · split at h
    · cases h
    · split at h
      · cases h
      · injection h with h1 h2
        exact ⟨by omega, by omega, by omega, h2.symm⟩
theorem resD_none {xs : List Int} {e : Int} (h : resD xs = (none, e)) : e = 60 ∨ e = 61 := by
  unfold resD at h
  split at h
  · injection h with _ h; exact .inl h.symm
  · split at h
    · injection h with _ h; exact .inl h.symm
    · split at h
      · injection h with _ h; exact .inr h.symm
      · cases h
theorem ir_tail {w : World} {B : Nat} {k : IntKind} {b o n c : Nat} {xs : List Int} (h : IR w B k (.slice (some ⟨b, o, none⟩) n c) xs) (i : Nat) (hi : i ≤ n) : IR w B k (.slice (some ⟨b, o + i, none⟩) (n - i) (c - i)) (xs.drop i) := by
  have h1 := ir_sub h i n hi (Nat.le_refl _)
  obtain ⟨A, c', e, _⟩ := h
  injection e with _ e _
  rw [List.take_of_length_le (by rw [List.length_drop]; omega)] at h1
  exact h1
theorem ir_add {w : World} {B : Nat} {k : IntKind} {A : Addr} {n c : Nat} {xs : List Int} (h : IR w B k (.slice (some A) n c) xs) (i : Nat) (hi : i ≤ n) : IR w B k (.slice (some (A.add i)) (n - i) (c - i)) (xs.drop i) := by
  obtain ⟨b, o, s⟩ := A
  have h' := h
  obtain ⟨A', c', e, h2, h3, h4, h5⟩ := h'
  injection e with e1 e2 e3
  subst e1 e2 e3
  by_cases h0 : xs.length - i = 0
  · have hd : xs.drop i = [] := List.drop_eq_nil_of_le (by omega)
    rw [h0, hd]
    exact ⟨_, _, rfl, Nat.zero_le _, by omega, (fun hh => by cases hh), fun j hj => by simp at hj⟩
  · obtain ⟨b', o', e, _, _⟩ := h5 0 (by omega)
    injection e with e
    injection e with e1 e2 e3
    subst e1 e2 e3
    rw [Go.WideShapes.add_plain]
    exact ir_tail h i hi
theorem ir_none {w : World} {B : Nat} {k : IntKind} {A : Option Addr} : IR w B k (.slice A 0 0) [] := ⟨A, 0, rfl, Nat.le_refl _, Nat.zero_le _, fun _ => rfl, fun i h => by simp at h⟩
theorem fr_low {S : Nat → Prop} {a b c : World} (h : Fr S a b) (k : Below a.heap.size b c) : Fr S a c := ⟨k.os.trans h.os, k.tape.trans h.tape, k.output.trans h.output, Nat.le_trans h.size k.size, fun i hi hn => (k.block i hi).trans (h.block i hi hn)⟩
set_option maxRecDepth 100000 in
set_option maxHeartbeats 8000000 in
theorem load_any {w : World} {g t : Nat} {H : Hh} {se : Int} (X : Box w t (lgC g H se (.slice none 0 0) (.slice none 0 0) 0) 89) (v : Value) (xs : List Int) (hv : ∀ w', Fr (fun x => x = t) w w' → IR w' w'.heap.size .u8 v xs) (hx : Bytes xs) (hl : xs.length ≤ 88900) :
    Calls Try.prog 35 #[.pointer (some ⟨t, 0, none⟩), v] w fun e w' => e = .returned (.tuple #[]) ∧ ∃ sv tv, Box w' t (lgC g H se sv tv (ldE xs)) 89 ∧ ldE xs ≤ xs.length ∧ w'.ownsRow w.heap.size 5 1 sv (ldE xs) ((xs.take (ldE xs)).map (.int .u8)) ∧ w'.ownsRow w.heap.size 3 1 tv (ldS xs).length ((ldS xs).map (.int .i64)) ∧ Fr (fun x => x = t) w w' := by
  obtain ⟨A, c, rfl, hlc, hcm⟩ := (hv w (Fr.refl _ _)).form
  unfold maxLen at hcm
  obtain ⟨L, hL⟩ : ∃ L, xs.length = L := ⟨_, rfl⟩
  have HL := Lib.hid hL
  have HV := Lib.hid hv
  have HBX := Lib.hid hx
  rw [hL] at hlc hl ⊢
  have HS := Lib.hid (show ldS xs = (ldF xs (L + 1) 0).1 by unfold ldS; rw [hL])
  have HE := Lib.hid (show ldE xs = (ldF xs (L + 1) 0).2 by unfold ldE; rw [hL])
  obtain ⟨i0, hi0, hz0, hz1, hz2⟩ := info_parts int_info
  obtain ⟨EN, hEN⟩ : ∃ EN, ldE xs = EN := ⟨_, rfl⟩
  obtain ⟨SN, hSN⟩ : ∃ SN, ldS xs = SN := ⟨_, rfl⟩
  rw [hEN] at HE ⊢
  rw [hSN] at HS ⊢
  have HX := Lib.hid X
  have HT := Lib.hid X.lt
  clear hL hv hx X hEN hSN
  go_enter Try.func35, Try.ntmps35
  go_wp2
  go_loopw [4] (fun s wr => ∃ (a n : Nat) (ss : List Int) (At : Option Addr) (ct : Nat), s = .int .i64 a ∧ a ≤ L ∧ Hid (L + 1 ≤ n + a) ∧ Hid (SN = ss ++ (ldF xs n a).1 ∧ EN = (ldF xs n a).2) ∧ Hid (ss.length ≤ a) ∧ Hid (Box wr t (lgC g H se (.slice none 0 0) (.slice At ss.length ct) 0) 89) ∧ Hid (wr.ownsRow w.heap.size 3 1 (.slice At ss.length ct) ss.length (ss.map (.int .i64))) ∧ Hid (Fr (fun x => x = t) w wr)) (fun s _ => L + 1 - (intOf s).toNat)
  case atStart => exact ⟨0, L + 1, [], none, 0, rfl, Nat.zero_le _, Lib.hid (Nat.le_refl _), Lib.hid ⟨HS.out, HE.out⟩, Lib.hid (Nat.le_refl _), HX, Lib.hid (World.ownsRow_nil _ _ _ _), Lib.hid (Fr.refl _ _)⟩
  case round =>
    obtain ⟨a, n, ss, At, ct, rfl, ha, HN, HR, HSL, HB, HO, HF⟩ := hrel
    obtain ⟨wa, rfl⟩ : ∃ wa, wa = wr := ⟨wr, rfl⟩
    obtain ⟨n', hn'⟩ : ∃ n', n = n' + 1 := ⟨n - 1, by have := HN.out; omega⟩
    subst hn'
    have hr := HR.out
    rw [ldF] at hr
    have hv := HV.out wa HF.out
    rw [HL.out] at hv
    obtain ⟨ys, hys⟩ : ∃ ys, xs.drop a = ys := ⟨_, rfl⟩
    have hyl : ys.length = L - a := by rw [← hys, List.length_drop, HL.out]
    rw [hys] at hr
    have hby : Bytes ys := by rw [← hys]; exact fun x hx => HBX.out x (List.mem_of_mem_drop hx)
    have a1 : (a : Int) ≤ (L : Int) := by omega
    have a0 : (0 : Int) ≤ (a : Int) := by omega
    have lc : (L : Int) ≤ (c : Int) := by omega
    have HYL := Lib.hid hyl
    have HBY := Lib.hid hby
    have c7 := HB.out.cell 7
    have f7 := HB.out.frozen 7
    have f6 := HB.out.frozen 6
    have f8 := HB.out.frozen 8
    by_cases hca : c = a
    · have hLa : L = a := by omega
      have hy0 : ys = [] := List.eq_nil_of_length_eq_zero (by omega)
      have hlast : SN = ss ∧ EN = a := by
        rw [hy0] at hr
        have : (resD ([] : List Int)).1 = none := rfl
        rw [this] at hr
        exact ⟨by rw [hr.1, List.append_nil], hr.2⟩
      obtain ⟨er, her⟩ : ∃ er, resD ([] : List Int) = (none, er) := ⟨60, rfl⟩
      have CD := Lib.hid (show Calls Try.prog 55 #[.slice A 0 0] wa (fun e w' => ∃ er, e = .returned (.tuple #[.agg (bareC 0 0 0 0), .int .i64 0, .int .u16 er]) ∧ (er = 60 ∨ er = 61) ∧ Below wa.heap.size wa w') from (decode_all_any wa (.slice A 0 0) [] ir_none Bytes.nil (by decide)).mono (by
        intro e w' hp
        unfold DecodePost at hp
        rw [her] at hp
        exact ⟨er, hp.1, resD_none her, hp.2⟩))
      have HLAST := Lib.hid hlast
      have hca' : a = c := hca.symm
      have hLa' : a = L := hLa.symm
      clear hca hLa
      subst hca'
      subst hLa'
      have hv' := Lib.hid hv
      clear hr hlast hy0 hyl hys hby hv her
      go_wp2_with fail
      have CC := Lib.hid (fun W (hb : Below wa.heap.size wa W) => Disk.clone_any (.slice A a a) (xs.take a) W W.heap.size (by rw [List.take_of_length_le (by rw [HL.out]; exact Nat.le_refl _)]; exact (hv'.out.below hb).more hb.size) (Nat.le_refl _) (by rw [List.length_take]; omega))
      (with_reducible refine CD.out.mono ?_)
      rintro e w2 hp
      obtain ⟨er, rfl, her, hb2⟩ := hp
      have d3 : (er != 0) = true := by rcases her with rfl | rfl <;> decide
      have HB2 := Lib.hid hb2
      clear hb2 her
      have b3 := HB2.out.trans ((new_ (Below.refl w2.heap.size w2) (.cells (bareC 0 0 0 0) 54)).mono HB2.out.size)
      obtain ⟨w3, hw3⟩ : ∃ w3, w3 = w2.alloc (.cells (bareC 0 0 0 0) 54) := ⟨_, rfl⟩
      rw [← hw3] at b3
      have HB3 := Lib.hid b3
      have HW3 := Lib.hid hw3
      have C3 := Lib.hid (CC.out w3 b3)
      clear b3 hw3
      go_wp2_with fail
      rw [← HW3.out]
      (with_reducible refine C3.out.mono ?_)
      rintro e w4 ⟨u, rfl, hu, hb4⟩
      have hta : (xs.take a).length = a := by rw [List.length_take, HL.out]; omega
      rw [hta] at hu
      obtain ⟨Au, cu, rfl⟩ := own_slice' hu
      have HB4 := Lib.hid (HB3.out.trans (hb4.mono HB3.out.size))
      have HU := Lib.hid hu
      clear hu hb4
      have x4 := HB.out.later HB4.out
      have c6 := x4.cell 6
      have c8 := x4.cell 8
      have g6 := x4.frozen 6
      have g8 := x4.frozen 8
      have x5 := (x4.set_ 6 (.slice Au a cu)).set_ 8 (.int .i64 a)
      simp only [List.setIfInBounds_toArray, List.set_cons_succ, List.set_cons_zero] at x5
      have HX5 := Lib.hid x5
      clear x4 x5
      clear hta
      go_wp2
      go_end0
      have nu : ∀ k, (Value.slice Au a cu).ownBlock = some k → k ≠ t := fun k hk e => by have := (HU.out.lt k hk).1; have := HB3.out.size; have := HB.out.lt; omega
      have na : ∀ k, (Value.slice At ss.length ct).ownBlock = some k → k ≠ t := fun k hk e => by have := (HO.out.lt k hk).1; have := HT.out; omega
      have szf := HF.out.size
      have sz3 := HB3.out.size
      rw [HLAST.out.1, HLAST.out.2]
      refine ⟨rfl, _, _, HX5.out, by omega, ?_, own_set_far' (p := ⟨t, 8, none⟩) (own_set_far' (p := ⟨t, 6, none⟩) (own_below HO.out HB4.out) (fun e => na t e rfl) _) (fun e => na t e rfl) _, ((HF.out.below HB4.out).setCell (p := ⟨t, 6, none⟩) (.inl rfl) _).setCell (p := ⟨t, 8, none⟩) (.inl rfl) _⟩
      have := own_set_far' (p := ⟨t, 8, none⟩) (own_set_far' (p := ⟨t, 6, none⟩) (own_lower HU.out (show w.heap.size ≤ w3.heap.size by omega)) (fun e => nu t e rfl) (.slice Au a cu)) (fun e => nu t e rfl) (.int .i64 a)
      exact this
    · cases A with
      | none => exact absurd (by obtain ⟨_, _, e, _, _, h4, _⟩ := hv; injection e with e1 _ e3; subst e1 e3; have := h4 rfl; omega : c = a) hca
      | some ad =>
        have hp := ir_add hv a ha
        rw [hys] at hp
        have HV' := Lib.hid hv
        obtain ⟨ro, hro⟩ : ∃ ro, resD ys = ro := ⟨_, rfl⟩
        have DD := decode_all_any wa _ ys hp hby (by omega)
        obtain ⟨o1, er⟩ := ro
        have nca : ¬ c = a := hca
        have gca : (a : Int) ≤ (c : Int) := by omega
        cases o1 with
        | none =>
          have hlast : SN = ss ∧ EN = a := by
            rw [hro] at hr
            exact ⟨by rw [hr.1, List.append_nil], hr.2⟩
          have HLAST := Lib.hid hlast
          have CD := Lib.hid (show Calls Try.prog 55 #[.slice (some (ad.add a)) (L - a) (c - a)] wa (fun e w' => ∃ er, e = .returned (.tuple #[.agg (bareC 0 0 0 0), .int .i64 0, .int .u16 er]) ∧ (er = 60 ∨ er = 61) ∧ Below wa.heap.size wa w') from DD.mono (by
            intro e w' hp
            unfold DecodePost at hp
            rw [hro] at hp
            exact ⟨er, hp.1, resD_none hro, hp.2⟩))
          have hv' := HV'
          clear hr hlast hyl hys hby hv hp DD hro
          go_wp2_with fail
          have CC := Lib.hid (fun W (hb : Below wa.heap.size wa W) => Disk.clone_any (.slice (some ad) a c) (xs.take a) W W.heap.size (((hv'.out.below hb).more hb.size).take ha) (Nat.le_refl _) (by rw [List.length_take]; omega))
          (with_reducible refine CD.out.mono ?_)
          rintro e w2 hp
          obtain ⟨er, rfl, her, hb2⟩ := hp
          have d3 : (er != 0) = true := by rcases her with rfl | rfl <;> decide
          have HB2 := Lib.hid hb2
          clear hb2 her
          have b3 := HB2.out.trans ((new_ (Below.refl w2.heap.size w2) (.cells (bareC 0 0 0 0) 54)).mono HB2.out.size)
          obtain ⟨w3, hw3⟩ : ∃ w3, w3 = w2.alloc (.cells (bareC 0 0 0 0) 54) := ⟨_, rfl⟩
          rw [← hw3] at b3
          have HB3 := Lib.hid b3
          have HW3 := Lib.hid hw3
          have C3 := Lib.hid (CC.out w3 b3)
          clear b3 hw3
          go_wp2_with fail
          rw [← HW3.out]
          (with_reducible refine C3.out.mono ?_)
          rintro e w4 ⟨u, rfl, hu, hb4⟩
          have hta : (xs.take a).length = a := by rw [List.length_take, HL.out]; omega
          rw [hta] at hu
          obtain ⟨Au, cu, rfl⟩ := own_slice' hu
          have HB4 := Lib.hid (HB3.out.trans (hb4.mono HB3.out.size))
          have HU := Lib.hid hu
          clear hu hb4
          have x4 := HB.out.later HB4.out
          have c6 := x4.cell 6
          have c8 := x4.cell 8
          have g6 := x4.frozen 6
          have g8 := x4.frozen 8
          have x5 := (x4.set_ 6 (.slice Au a cu)).set_ 8 (.int .i64 a)
          simp only [List.setIfInBounds_toArray, List.set_cons_succ, List.set_cons_zero] at x5
          have HX5 := Lib.hid x5
          clear x4 x5
          clear hta
          go_wp2
          go_end0
          have nu : ∀ k, (Value.slice Au a cu).ownBlock = some k → k ≠ t := fun k hk e => by have := (HU.out.lt k hk).1; have := HB3.out.size; have := HB.out.lt; omega
          have na : ∀ k, (Value.slice At ss.length ct).ownBlock = some k → k ≠ t := fun k hk e => by have := (HO.out.lt k hk).1; have := HT.out; omega
          have szf := HF.out.size
          have sz3 := HB3.out.size
          rw [HLAST.out.1, HLAST.out.2]
          refine ⟨rfl, _, _, HX5.out, by omega, ?_, own_set_far' (p := ⟨t, 8, none⟩) (own_set_far' (p := ⟨t, 6, none⟩) (own_below HO.out HB4.out) (fun e => na t e rfl) _) (fun e => na t e rfl) _, ((HF.out.below HB4.out).setCell (p := ⟨t, 6, none⟩) (.inl rfl) _).setCell (p := ⟨t, 8, none⟩) (.inl rfl) _⟩
          have := own_set_far' (p := ⟨t, 8, none⟩) (own_set_far' (p := ⟨t, 6, none⟩) (own_lower HU.out (show w.heap.size ≤ w3.heap.size by omega)) (fun e => nu t e rfl) (.slice Au a cu)) (fun e => nu t e rfl) (.int .i64 a)
          exact this
        | some r =>
          have hres := resD_some hro
          obtain ⟨n1, hn1⟩ : ∃ n1, lenB ys = n1 := ⟨_, rfl⟩
          rw [hn1] at hres
          have hnext : SN = (ss ++ [(a : Int)]) ++ (ldF xs n' (a + n1)).1 ∧ EN = (ldF xs n' (a + n1)).2 := by
            rw [hro] at hr
            dsimp only at hr
            rw [hn1] at hr
            exact ⟨by rw [hr.1, List.append_assoc]; rfl, hr.2⟩
          have HNEXT := Lib.hid hnext
          have CD := Lib.hid (show Calls Try.prog 55 #[.slice (some (ad.add a)) (L - a) (c - a)] wa (fun e w' => ∃ A1 c1 A2 c2 A3 c3 A4 c4, e = .returned (.tuple #[.agg (rcV r (.slice A1 r.c.xs.length c1) (.slice A2 r.c.ys.length c2) (.slice A3 r.ts.length c3) (.slice A4 r.ds.length c4)), .int .i64 n1, .int .u16 0]) ∧ Below wa.heap.size wa w') from DD.mono (by
            intro e w' hp
            unfold DecodePost at hp
            rw [hro] at hp
            obtain ⟨p1, p2, p3, p4, h1, h2, h3⟩ := hp
            have hi := RcOwn.in_ h2
            obtain ⟨A1, c1, rfl, _, _⟩ := hi.a.form
            obtain ⟨A2, c2, rfl, _, _⟩ := hi.b.form
            obtain ⟨A3, c3, rfl, _, _⟩ := hi.t.form
            obtain ⟨A4, c4, rfl, _, _⟩ := hi.d.form
            exact ⟨A1, c1, A2, c2, A3, c3, A4, c4, by rw [h1, hn1], h3⟩))
          have bn : a + n1 ≤ L := by omega
          have w1 : IntKind.i64.wrap ((a : Int) + (n1 : Int)) = (a : Int) + (n1 : Int) := IntWalk.i64_in _ (by omega)
          have HN1 := Lib.hid hres
          have HAE := Lib.hid (show ss.length ≤ 100000 by have := HSL.out; omega)
          clear hr hyl hys hby hv hp DD hro hnext hn1 hres bn
          go_wp2_with fail
          (with_reducible refine CD.out.mono ?_)
          rintro e w2 ⟨A1, c1, A2, c2, A3, c3, A4, c4, rfl, hb2⟩
          have b3 := hb2.trans ((new_ (Below.refl w2.heap.size w2) (.cells (rcV r (.slice A1 r.c.xs.length c1) (.slice A2 r.c.ys.length c2) (.slice A3 r.ts.length c3) (.slice A4 r.ds.length c4)) 54)).mono hb2.size)
          have HB3 := Lib.hid b3
          have x3 := HB.out.later b3
          have O3 := Lib.hid (own_below HO.out b3)
          have HX3 := Lib.hid x3
          have c7' := x3.cell 7
          have f7' := x3.frozen 7
          have HZ3 := Lib.hid (show w.heap.size ≤ (w2.alloc (.cells (rcV r (.slice A1 r.c.xs.length c1) (.slice A2 r.c.ys.length c2) (.slice A3 r.ts.length c3) (.slice A4 r.ds.length c4)) 54)).heap.size from Nat.le_trans HF.out.size b3.size)
          have HZ4 := Lib.hid (show w.heap.size ≤ ((w2.alloc (.cells (rcV r (.slice A1 r.c.xs.length c1) (.slice A2 r.c.ys.length c2) (.slice A3 r.ts.length c3) (.slice A4 r.ds.length c4)) 54)).alloc (.cells #[.int .i64 (a : Int)] 3)).heap.size from Nat.le_trans HZ3.out (by simp))
          have CN := Lib.hid (show ((w2.alloc (.cells (rcV r (.slice A1 r.c.xs.length c1) (.slice A2 r.c.ys.length c2) (.slice A3 r.ts.length c3) (.slice A4 r.ds.length c4)) 54)).alloc (.cells #[.int .i64 (a : Int)] 3)).cell? ⟨w2.heap.size + 1, 0, none⟩ = some (.int .i64 (a : Int)) from by have := cell_new (w2.alloc (.cells (rcV r (.slice A1 r.c.xs.length c1) (.slice A2 r.c.ys.length c2) (.slice A3 r.ts.length c3) (.slice A4 r.ds.length c4)) 54)) #[.int .i64 (a : Int)] 3 0; rw [show (w2.alloc (.cells (rcV r (.slice A1 r.c.xs.length c1) (.slice A2 r.c.ys.length c2) (.slice A3 r.ts.length c3) (.slice A4 r.ds.length c4)) 54)).heap.size = w2.heap.size + 1 by simp] at this; exact this)
          clear b3 x3 hb2 c7 f7 f6 f8
          go_wp2_with (at_builtin; refine wpList_push _ rfl _ _ _ rfl w.heap.size 3 i0 .i64 8 Try.underlying87 hi0 hz0 hz1 hz2 _ ss.length ss rfl (World.ownsRow.alloc O3.out _) (w2.heap.size + 1) (a : Int) rfl CN.out (by have := HAE.out; simp only [maxLen]; omega) (by have := HAE.out; omega) HZ4.out ?_; intro v5 w5 ho5 hb5; obtain ⟨A5, c5, e5⟩ := own_slice' ho5; subst e5; have x5 := ((HX3.out.alloc (.cells #[.int .i64 (a : Int)] 3)).below hb5 HT.out); have k5 := x5.cell 7; have n5 := x5.frozen 7; have HX5 := Lib.hid x5; have HO5 := Lib.hid ho5; have HB5 := Lib.hid hb5; clear x5 ho5 hb5)
          have x9 := HX5.out.set_ 7 (.slice A5 (ss.length + 1) c5)
          simp only [List.setIfInBounds_toArray, List.set_cons_succ, List.set_cons_zero] at x9
          have hl1 : (ss ++ [(a : Int)]).length = ss.length + 1 := by rw [List.length_append]; rfl
          have X9 := Lib.hid x9
          have O9 := Lib.hid (own_set_far' (p := ⟨t, 7, none⟩) HO5.out (fun e => row_ne_box HO5.out HX5.out (by decide) e) (.slice A5 (ss.length + 1) c5))
          have F9 := Lib.hid ((fr_low (((HF.out.below HB3.out).alloc (.cells #[.int .i64 (a : Int)] 3))) HB5.out).setCell (p := ⟨t, 7, none⟩) (.inl rfl) (.slice A5 (ss.length + 1) c5))
          clear x9 k5 n5
          go_wp2
          go_roundw
          case rel => exact ⟨a + n1, n', ss ++ [(a : Int)], A5, c5, by go_num, by have := HN1.out; have := HYL.out; omega, Lib.hid (by have := HN.out; have := HN1.out; omega), HNEXT, Lib.hid (by rw [hl1]; have := HSL.out; have := HN1.out; omega), by rw [hl1]; exact X9, by rw [hl1]; exact O9, F9⟩
          case measure => simp [intOf]; have := HN1.out; have := HYL.out; omega
end Go.Proofs.Yteggcehjpfmikaa.Wal
namespace Go.Proofs.Yteggcehjpfmikaa.Wal
open Go.ChangeShapes Go.WideShapes Go.ChangeAt Go.RowKit Go.IntWalk Go.Proofs.Mem Go.Proofs.Each Law Go.Proofs.Yteggcehjpfmikaa.Disk Strip
set_option linter.unusedVariables false
set_option linter.unusedSimpArgs false
theorem bs_size : (Try.prog.info? 48).map (·.size) = some 1 := by kernel_rfl
theorem want_copy {W : World} {z q base top : Nat} {v : Value} {ls : List Rw} (XZ : Box W z (madeCells (Value.slice none 0 0).cells (q * 1)) 48) (T2 : Tab 5 48 W base top v ls) (hz : z < base) (hlen : ls.length ≤ q) (oT : TypeId) :
    ∃ W' r C, (Builtin.copy_ #[76, 76] oT #[.slice (some ⟨z, 0, none⟩) q q, v]).run Try.prog W = .ok r W' ∧ Fr (fun x => x = z) W W' ∧ Box W' z C 48 ∧ (∀ i, i < q → C[i]? = some (((ls.map (·.2.1))[i]?).getD (.slice none 0 0))) ∧ Tab 5 48 W' base top v ls := by
  have hmade := made_nils q
  have hmsz : (madeCells (Value.slice none 0 0).cells (q * 1)).size = q := by rw [size_madeCells]; simp [Value.cells]
  rcases T2.value with ⟨rfl, rfl⟩ | ⟨go, cap, rfl, hgo, _⟩
  · refine ⟨W, _, _, run_copy_nil Try.prog W _ _ _ 48 ⟨z, 0, none⟩ q q Try.underlying76 (by rw [bs_size]; rfl), Fr.refl _ _, XZ, fun i hi => ?_, T2⟩
    rw [hmade i hi]; rfl
  · have hrun := run_copy_row (P := Try.prog) W 76 76 oT 48 z 0 q q ⟨go, 0, none⟩ ls.length cap _ 48 (ls.map (·.2.1)) Try.underlying76 bs_size XZ (by rw [List.length_map]; exact (Nat.min_eq_left hlen).symm) (fun j u hj => by
      have hjl : j < ls.length := by have := (List.getElem?_eq_some_iff.1 hj).1; rwa [List.length_map] at this
      obtain ⟨go', cap', e, hc, _⟩ := T2.cell j hjl
      injection e with e _ _
      injection e with e
      injection e with e
      subst e
      rw [Go.WideShapes.add_plain, Nat.zero_add, hc, ← hj, List.getElem?_map, List.getElem?_eq_getElem hjl]; rfl) (by rw [List.length_map, hmsz]; omega) (fun u hu => by
      obtain ⟨p, hp, rfl⟩ := List.mem_map.1 hu
      obtain ⟨c, e⟩ := (T2.rows p hp).1.form
      rw [e]; rfl)
    refine ⟨_, _, _, hrun, ?_, setRow_heap W z _ _ _ _ XZ, fun i hi => ?_, ?_⟩
    · exact ⟨rfl, rfl, rfl, by simp [World.setRow], fun k _ hk => setRow_other W z k _ hk⟩
    · have hl : (ls.map (fun p : Rw => p.2.1)).length = ls.length := List.length_map _
      simp only [List.take_zero, List.nil_append, Nat.zero_add]
      rw [List.getElem?_toArray]
      by_cases hil : i < ls.length
      · rw [List.getElem?_append_left (by rw [hl]; exact hil), List.getElem?_eq_getElem (by rw [hl]; exact hil)]; rfl
      · have hr : (ls.map (fun p : Rw => p.2.1))[i]? = none := List.getElem?_eq_none (by rw [hl]; omega)
        rw [hr, List.getElem?_append_right (by rw [hl]; omega), List.getElem?_drop, Array.getElem?_toList, hl, show ls.length + (i - ls.length) = i by omega, hmade i hi]; rfl
    · exact tab_fr T2 ⟨rfl, rfl, rfl, by simp [World.setRow], fun k _ hk => setRow_other W z k _ hk⟩ (fun x hx => by rw [hx]; exact hz)
theorem want_sr {w : World} {z q base top : Nat} {v : Value} {ls : List Rw} {C : Array Value} {T : TypeId} (X : Box w z C T) (hC : ∀ i, i < q → C[i]? = some (((ls.map (·.2.1))[i]?).getD (.slice none 0 0))) (T2 : Tab 5 48 w base top v ls) (hb : ∀ p ∈ ls, Bytes p.2.2) (hlen : ls.length ≤ q) (hq : q ≤ 100000) :
    SR w w.heap.size (.slice (some ⟨z, 0, none⟩) q q) (ls.map (·.2) ++ nils (q - ls.length)) := by
  have hl : (ls.map (fun p : Rw => p.2) ++ nils (q - ls.length)).length = q := by rw [List.length_append, List.length_map, nils_len]; omega
  refine ⟨_, q, by rw [hl], by rw [hl]; exact Nat.le_refl _, by unfold maxLen; omega, fun i hi => ?_⟩
  rw [hl] at hi
  by_cases hil : i < ls.length
  · have hm := List.getElem_mem hil
    obtain ⟨r1, _⟩ := T2.rows _ hm
    obtain ⟨_, _, _, _, hgg, _⟩ := r1.heap
    refine ⟨z, 0, ls[i].2.1, ls[i].2.2, rfl, X.lt, by rw [List.getElem?_append_left (by rw [List.length_map]; exact hil), List.getElem?_map, List.getElem?_eq_getElem hil]; rfl, ?_, r1.ir.more (Array.getElem?_eq_some_iff.1 hgg).1, hb _ hm⟩
    rw [Nat.zero_add, X.cell, hC i hi, List.getElem?_map, List.getElem?_eq_getElem hil]; rfl
  · refine ⟨z, 0, .slice none 0 0, [], rfl, X.lt, ?_, ?_, IR.nil _ _ _, Bytes.nil⟩
    · rw [List.getElem?_append_right (by rw [List.length_map]; omega), List.length_map]
      unfold nils
      rw [List.getElem?_replicate, if_pos (by omega)]
    · rw [Nat.zero_add, X.cell, hC i hi, List.getElem?_map, List.getElem?_eq_none (by omega)]; rfl
theorem want_ok {w : World} {base top : Nat} {v : Value} {ls : List Rw} (T2 : Tab 5 48 w base top v ls) (hx : ∀ p ∈ ls, p.2.2.length = 128) (n : Nat) : WantOk (ls.map (·.2) ++ nils n) := fun p hp => by
  rcases List.mem_append.1 hp with hp | hp
  · obtain ⟨r, hr, rfl⟩ := List.mem_map.1 hp
    obtain ⟨c, e⟩ := (T2.rows r hr).1.form
    rw [hx r hr] at e
    exact .inr ⟨hx r hr, _, c, e⟩
  · exact nils_ok n p hp
theorem want_map {ls : List Rw} (hx : ∀ p ∈ ls, p.2.2.length = 128) (n : Nat) : (ls.map (fun p : Rw => p.2) ++ nils n).map (fun p => wantB p.2) = ls.map (·.2.2) ++ List.replicate n z128 := by
  rw [List.map_append, nils_want, List.map_map]
  congr 1
  refine List.map_congr_left fun p hp => ?_
  show wantB p.2.2 = p.2.2
  unfold wantB
  rw [if_neg (fun e => by have := hx p hp; rw [e] at this; cases this)]
end Go.Proofs.Yteggcehjpfmikaa.Wal
namespace Go.Proofs.Yteggcehjpfmikaa.Rec
open Go.ChangeShapes Go.WideShapes Go.ChangeAt Go.RowKit Go.IntWalk Go.Proofs.NumMath Go.Proofs.Mem Go.Proofs.CrcMath NumBytes CrcA
set_option linter.unusedVariables false
set_option linter.unusedSimpArgs false
theorem enc_two (r : Rc) (Y : List Int) : (encS r ++ Y).take 2 = putS (6 + (bodyS r).length) 2 := by
  unfold encS; rw [List.append_assoc, List.append_assoc, List.take_left' (putS_len _ 2)]
theorem lenB_two (r : Rc) (hm : mayS r = true) {xs : List Int} (h : xs.take 2 = putS (6 + (bodyS r).length) 2) : lenB xs = (encS r).length := by
  have hb := len_bd r hm
  unfold lenB
  rw [h, get_put _ 2 (by decide), enc_len, show (2 : Int) ^ (8 * 2) = 65536 from rfl, Int.emod_eq_of_lt hb.1 (by omega)]
  omega
theorem enc_min (r : Rc) (hm : mayS r = true) : 27 ≤ (encS r).length := by
  have := body_len r (may_lens r hm); rw [enc_len]; omega
theorem resD_enc (r : Rc) (hr : r.Ok) (hm : mayS r = true) (Y : List Int) : resD (encS r ++ Y) = (some r, 0) ∧ lenB (encS r ++ Y) = (encS r).length := by
  have hl := lenB_two r hm (enc_two r Y)
  have h27 := enc_min r hm
  refine ⟨?_, hl⟩
  unfold resD
  rw [hl, if_neg (by rw [List.length_append]; omega), if_neg (by rw [List.length_append]; omega), List.take_left' rfl, rDec_put r hr hm]
end Go.Proofs.Yteggcehjpfmikaa.Rec
