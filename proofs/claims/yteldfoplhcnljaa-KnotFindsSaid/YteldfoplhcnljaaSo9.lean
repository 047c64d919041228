import Derived.Test.YteldfoplhcnljaaSo8
import Derived.Test.YteldfoplhcnljaaLen64
import Derived.Laws.BitsAllLaws
/- Patterns are broken. -/
namespace Go.Proofs.Yteldfoplhcnljaa.Srt
open Go.ChangeShapes Go.WideShapes Go.ChangeAt Go.RowKit Go.IntWalk Go.Proofs.Mem
set_option linter.unusedVariables false
theorem xor_bound (a b : Int) : 0 ≤ bits .xor .u64 a b ∧ bits .xor .u64 a b < 18446744073709551616 := by
  have h : bits .xor .u64 a b = IntKind.u64.wrap ((BitVec.ofInt 64 a ^^^ BitVec.ofInt 64 b).toNat : Int) := rfl
  rw [h, IntKind.wrap_u64]; omega
theorem and_bound (a b : Int) (h1 : 0 ≤ a) (h2 : a < 18446744073709551616) (h3 : 0 ≤ b) (h4 : b < 18446744073709551616) : 0 ≤ bits .and .u64 a b ∧ bits .and .u64 a b ≤ b := by
  rw [u64_and a b h1 h2 h3 h4]
  have := Nat.and_le_right (n := a.toNat) (m := b.toNat)
  omega
set_option maxRecDepth 100000 in
theorem next_any (w : World) (sb : Nat) (s : Int) (t : TypeId) (h : Box w sb #[.int .u64 s] t) :
    Calls Try.prog 42 #[.pointer (some ⟨sb, 0, none⟩)] w fun e w' => ∃ x : Int, e = .returned (.int .u64 x) ∧ Hid (0 ≤ x ∧ x < 18446744073709551616) ∧ Hid (Box w' sb #[.int .u64 x] t) ∧ Hid (Fr (fun x => x = sb) w w') := by
  have k0 := h.cell 0
  have f0 := h.frozen 0
  simp only [List.getElem?_toArray, List.getElem?_cons_zero] at k0
  have HB := Lib.hid h
  have HF := Lib.hid (Fr.refl (fun x => x = sb) w)
  clear h
  go_enter Try.func42, Try.ntmps42
  go_upto_region 2 with (go_region)
  generalize bits BinOp.xor .u64 s _ = s1
  have HB1 := Lib.hid (show Box (w.setCell ⟨sb, 0, none⟩ (.int .u64 s1)).drew sb #[.int .u64 s1] t from (HB.out.set_ 0 (.int .u64 s1)).drew)
  have HF1 := Lib.hid (show Fr (fun x => x = sb) w (w.setCell ⟨sb, 0, none⟩ (.int .u64 s1)).drew from (HF.out.setCell (.inl rfl) _).drew)
  generalize World.drew _ = w1 at *
  clear HB HF k0 f0
  have k0 := HB1.out.cell 0
  have f0 := HB1.out.frozen 0
  simp only [List.getElem?_toArray, List.getElem?_cons_zero] at k0
  go_upto_region 3 with (go_region)
  generalize bits BinOp.xor .u64 s1 _ = s2
  have HB2 := Lib.hid (show Box (w1.setCell ⟨sb, 0, none⟩ (.int .u64 s2)).drew sb #[.int .u64 s2] t from (HB1.out.set_ 0 (.int .u64 s2)).drew)
  have HF2 := Lib.hid (show Fr (fun x => x = sb) w (w1.setCell ⟨sb, 0, none⟩ (.int .u64 s2)).drew from (HF1.out.setCell (.inl rfl) _).drew)
  generalize World.drew _ = w2 at *
  clear HB1 HF1 k0 f0
  have k0 := HB2.out.cell 0
  have f0 := HB2.out.frozen 0
  simp only [List.getElem?_toArray, List.getElem?_cons_zero] at k0
  go_upto_region 4 with (go_region)
  have hx := Lib.hid (xor_bound s2 (IntKind.u64.wrap (s2 * 131072)))
  generalize bits BinOp.xor .u64 s2 _ = s3 at *
  have HB3 := Lib.hid (show Box (w2.setCell ⟨sb, 0, none⟩ (.int .u64 s3)).drew sb #[.int .u64 s3] t from (HB2.out.set_ 0 (.int .u64 s3)).drew)
  have HF3 := Lib.hid (show Fr (fun x => x = sb) w (w2.setCell ⟨sb, 0, none⟩ (.int .u64 s3)).drew from (HF2.out.setCell (.inl rfl) _).drew)
  generalize World.drew _ = w3 at *
  clear HB2 HF2 k0 f0
  have k0 := HB3.out.cell 0
  simp only [List.getElem?_toArray, List.getElem?_cons_zero] at k0
  go_wp2
  go_ret
  exact ⟨s3, rfl, hx, HB3, HF3⟩
set_option maxRecDepth 100000 in
theorem len_any (n : Nat) (hn : n ≤ 1000000) (w : World) : Calls Try.prog 28 #[.int .u64 n] w fun e w' => e = .returned (.int .i64 (bitLen n)) ∧ w = w' := by
  have CL := Lib.hid (Money.len64_any (n : Int) (by omega) (by omega) w)
  clear hn
  go_enter Try.func28, Try.ntmps28
  go_wp2_with (go_at_call 39; (with_reducible refine CL.out.mono ?_); rintro e w1 ⟨rfl, rfl⟩)
  go_ret
  exact ⟨by simp, rfl⟩
theorem pow_facts (n : Nat) (h1 : 1 ≤ n) (hn : n ≤ 1000000) : n < 2 ^ bitLen n ∧ 2 ^ bitLen n ≤ 2 * n ∧ bitLen n ≤ 20 := by
  obtain ⟨h2, h3⟩ := bitLen_spec n
  have h4 := h3 (by omega)
  have h0 : bitLen n ≠ 0 := by intro e; rw [e] at h2; simp at h2; omega
  obtain ⟨k, hk⟩ : ∃ k, bitLen n = k + 1 := ⟨bitLen n - 1, by omega⟩
  rw [hk] at h2 h4 ⊢
  simp only [Nat.add_sub_cancel] at h4
  refine ⟨h2, by rw [Nat.pow_succ]; omega, ?_⟩
  rcases Nat.lt_or_ge 19 k with h5 | h5
  · have := Nat.pow_le_pow_right (n := 2) (by omega) (show 20 ≤ k by omega)
    omega
  · omega
set_option maxRecDepth 100000 in
theorem npow_any (n : Nat) (h1 : 1 ≤ n) (hn : n ≤ 1000000) (w : World) : Calls Try.prog 41 #[.int .i64 n] w fun e w' => ∃ m : Nat, e = .returned (.int .u64 m) ∧ Hid (n < m ∧ m ≤ 2 * n) ∧ w = w' := by
  have CL := Lib.hid (len_any n hn w)
  have HP := Lib.hid (pow_facts n h1 hn)
  have cw : IntKind.u64.wrap (n : Int) = n := by rw [IntKind.wrap_u64]; omega
  have bn : (n : Int) ≤ 1000000 := by omega
  obtain ⟨k, hk⟩ : ∃ k, k = bitLen n := ⟨_, rfl⟩
  rw [← hk] at HP CL
  have hk20 : (k : Int) ≤ 20 := by have := HP.out; omega
  clear h1 hn hk
  go_enter Try.func41, Try.ntmps41
  go_wp2_with (go_at_call 28; (with_reducible refine CL.out.mono ?_); rintro e w1 ⟨rfl, rfl⟩)
  go_ret
  obtain ⟨m, hm⟩ : ∃ m, m = 2 ^ k := ⟨_, rfl⟩
  have h1 : ((2 : Int) ^ k) = (m : Int) := by rw [hm]; simp
  have h2 := Nat.pow_le_pow_right (n := 2) (by omega) (show k ≤ 20 by have := HP.out; omega)
  have h3 := HP.out
  rw [← hm] at h2 h3
  refine ⟨m, ?_, Lib.hid ⟨h3.1, h3.2.1⟩, rfl⟩
  have e : IntKind.u64.wrap ((2 : Int) ^ k) = (m : Int) := by
    rw [h1, IntKind.wrap_u64]; omega
  rw [e]; rfl
set_option maxRecDepth 100000 in
set_option maxHeartbeats 8000000 in
theorem brk_any (w : World) (g n cap a b : Nat) (d : Array Int) (h : RA w g cap d) (hn : d.size = n) (h0 : n ≤ 1000000) (h1 : a + 12 < b) (h2 : b ≤ n) :
    Calls Try.prog 32 #[.slice (some ⟨g, 0, none⟩) n cap, .int .i64 a, .int .i64 b] w fun e w' => e = .returned (.tuple #[]) ∧ (∃ d', RA w' g cap d' ∧ Sort.PermIn a b d d') ∧ Fr (fun x => x = g) w w' := by
  obtain ⟨l, hl⟩ : ∃ x, x = b - a := ⟨_, rfl⟩
  obtain ⟨q, hq⟩ : ∃ x, x = l / 4 := ⟨_, rfl⟩
  obtain ⟨q2, hq2⟩ : ∃ x, x = q * 2 := ⟨_, rfl⟩
  obtain ⟨aq, haq⟩ : ∃ x, x = a + q2 := ⟨_, rfl⟩
  obtain ⟨lo, hlo⟩ : ∃ x, x = aq - 1 := ⟨_, rfl⟩
  obtain ⟨hi, hhi⟩ : ∃ x, x = aq + 1 := ⟨_, rfl⟩
  have s1 : (b : Int) - (a : Int) = (l : Int) := by omega
  have s2 : Int.tdiv (l : Int) 4 = (q : Int) := by rw [Int.tdiv_eq_ediv_of_nonneg (by omega)]; omega
  have s3 : (q : Int) * 2 = (q2 : Int) := by omega
  have s4 : (a : Int) + (q2 : Int) = (aq : Int) := by omega
  have s5 : (aq : Int) - 1 = (lo : Int) := by omega
  have s6 : (aq : Int) + 1 = (hi : Int) := by omega
  have cw : IntKind.u64.wrap (l : Int) = l := by rw [IntKind.wrap_u64]; omega
  have bl : (l : Int) ≤ 1000000 := by omega
  have ba : (a : Int) ≤ 1000000 := by omega
  have bb : (b : Int) ≤ 1000000 := by omega
  have bq : (q : Int) ≤ 1000000 := by omega
  have bq2 : (q2 : Int) ≤ 1000000 := by omega
  have baq : (aq : Int) ≤ 1000000 := by omega
  have d8 : decide ((8 : Int) ≤ (l : Int)) = true := by simp; omega
  have d8' : decide (8 ≤ l) = true := by simp; omega
  have HP := Lib.hid (fun W => npow_any l (by omega) (by omega) W)
  have HB := Lib.hid (⟨h0, h1, h2, hl, hq, hq2, haq, hlo, hhi⟩ : n ≤ 1000000 ∧ a + 12 < b ∧ b ≤ n ∧ l = b - a ∧ q = l / 4 ∧ q2 = q * 2 ∧ aq = a + q2 ∧ lo = aq - 1 ∧ hi = aq + 1)
  have hg := h.lt
  have HR := Lib.hid h
  have HN := Lib.hid hn
  obtain ⟨sb, hsb⟩ : ∃ sb, sb = w.heap.size := ⟨_, rfl⟩
  have HSB := Lib.hid (show w.heap.size ≤ sb ∧ g ≠ sb by omega)
  have HW := Lib.hid (fun u => (by
    subst hsb
    exact ⟨Box.new w #[u] 65, (Fr.refl _ w).alloc _, h.later ((Below.refl _ _).alloc (Nat.le_refl _) _)⟩ :
    Box (w.alloc (.cells #[u] 65)) sb #[u] 65 ∧ Fr (fun x => x = g) w (w.alloc (.cells #[u] 65)) ∧ RA (w.alloc (.cells #[u] 65)) g cap d))
  have hsb' := hsb.symm
  clear h hn h0 h1 h2 hl hq hq2 haq hlo hhi hg hsb HR
  go_enter Try.func32, Try.ntmps32
  go_wp2_with fail
  (with_reducible refine (HP.out _).mono ?_)
  rintro e w0 ⟨m, rfl, HM, rfl⟩
  obtain ⟨b1, f1, r1⟩ := HW.out (.int .u64 (l : Int))
  have HX := Lib.hid b1
  have HF := Lib.hid f1
  have HO := Lib.hid r1
  clear b1 f1 r1
  generalize World.alloc _ _ = w0 at *
  have hm1 : 1 ≤ m := by have := HM.out; omega
  have bm : (m : Int) ≤ 2000000 := by have := HM.out; omega
  obtain ⟨m1, hm1'⟩ : ∃ x, m = x + 1 := ⟨m - 1, by omega⟩
  have sm : (m : Int) - 1 = (m1 : Int) := by omega
  have cm : IntKind.u64.wrap ((m : Int) - 1) = (m1 : Int) := by rw [IntKind.wrap_u64]; omega
  have cm' : IntKind.u64.wrap (m1 : Int) = (m1 : Int) := by rw [IntKind.wrap_u64]; omega
  have HM1 := Lib.hid (⟨hm1', hm1⟩ : m = m1 + 1 ∧ 1 ≤ m)
  clear hm1 hm1'
  go_wp2
  go_loopw [9] (fun u wr => ∃ (i : Nat) (ys : Array Int) (s : Int), lo ≤ i ∧ i ≤ hi + 1 ∧ u = .int .i64 i ∧ Hid (RA wr g cap ys) ∧ Hid (Sort.PermIn a b d ys) ∧ Hid (Box wr sb #[.int .u64 s] 65) ∧ Hid (Fr (fun x => x = g) w wr)) (fun u _ => hi + 1 - (intOf u).toNat)
  case atStart => exact ⟨lo, d, _, Nat.le_refl _, by have := HB.out; omega, rfl, HO, Lib.hid (Sort.permIn_refl _ _ _), HX, HF⟩
  case round =>
    obtain ⟨i, ys, s, hi1, hi2, rfl, HO1, HPe, HX1, HF1⟩ := hrel
    obtain ⟨w1, rfl⟩ : ∃ w1, w1 = wr := ⟨wr, rfl⟩
    clear HO HX HF
    have bi : (i : Int) ≤ 1000002 := by have := HB.out; omega
    have bhi : (hi : Int) ≤ 1000001 := by have := HB.out; omega
    by_cases hl : i ≤ hi
    · have d1 : decide ((i : Int) ≤ (hi : Int)) = true := by simp; omega
      have d1' : decide (i ≤ hi) = true := by simp; omega
      obtain ⟨i', hi'⟩ : ∃ x, x = i + 1 := ⟨_, rfl⟩
      have si : (i : Int) + 1 = (i' : Int) := by omega
      have HI := Lib.hid (⟨hi1, hi2, hl, hi'⟩ : lo ≤ i ∧ i ≤ hi + 1 ∧ i ≤ hi ∧ i' = i + 1)
      have hsz : ys.size = n := by rw [HPe.out.1]; exact HN.out
      have in0 : i < n := by have := HB.out; omega
      clear hi1 hi2 hl hi'
      have CN := Lib.hid (next_any w1 sb s _ HX1.out)
      go_wp2_with fail
      (with_reducible refine CN.out.mono ?_)
      rintro e w2 ⟨s2, rfl, HS2, HX2, hF2⟩
      have HO2 := Lib.hid (HO1.out.fr hF2.out (fun e => HSB.out.2 e))
      have HF2 := Lib.hid (HF1.out.trans' hF2.out (fun j hj e => by have := HSB.out; omega))
      obtain ⟨o, ho⟩ : ∃ o : Nat, (o : Int) = bits .and .u64 s2 (m1 : Int) := ⟨(bits .and .u64 s2 (m1 : Int)).toNat, by have := and_bound s2 m1 HS2.out.1 HS2.out.2 (by omega) (by have := HM1.out; omega); omega⟩
      have hom : o ≤ m1 := by have := and_bound s2 m1 HS2.out.1 HS2.out.2 (by omega) (by have := HM1.out; omega); omega
      have ho' := ho.symm
      have bo : (o : Int) ≤ 2000000 := by have := HM1.out; omega
      clear ho
      by_cases hol : l ≤ o
      · have d2 : decide ((l : Int) ≤ (o : Int)) = true := by simp; omega
        have d2' : decide (l ≤ o) = true := by simp; omega
        obtain ⟨o2, ho2⟩ : ∃ x, x = o - l := ⟨_, rfl⟩
        have so : (o : Int) - (l : Int) = (o2 : Int) := by omega
        have bo2 : (o2 : Int) ≤ 2000000 := by omega
        obtain ⟨at_, hat⟩ : ∃ x, x = a + o2 := ⟨_, rfl⟩
        have sa : (a : Int) + (o2 : Int) = (at_ : Int) := by omega
        have hab : at_ < b := by have := HB.out; have := HM.out; have := HM1.out; omega
        have in1 : at_ < n := by have := HB.out; omega
        have ba2 : (at_ : Int) ≤ 1000000 := by omega
        clear hol hom ho2
        have c0 := HO2.out.cell i (by omega)
        have c1 := HO2.out.cell at_ (by omega)
        obtain ⟨x, hx⟩ : ∃ x, ys[i]! = x := ⟨_, rfl⟩
        obtain ⟨y, hy⟩ : ∃ y, ys[at_]! = y := ⟨_, rfl⟩
        rw [hx] at c0
        rw [hy] at c1
        have HXX := Lib.hid hx
        have HYY := Lib.hid hy
        have f0 := HO2.out.frozen i
        have f1 := HO2.out.frozen at_
        have c2 := (HO2.out.set_ i y).cell at_ (by rw [Array.size_setIfInBounds]; omega)
        have f2 := (HO2.out.set_ i y).frozen at_
        generalize (ys.setIfInBounds i y)[at_]! = v2 at c2
        have HSZ := Lib.hid hsz
        have HAT := Lib.hid (⟨hat, hab⟩ : at_ = a + o2 ∧ at_ < b)
        clear hx hy hsz hat hab
        go_upto_region 10 with fail
        go_region
        go_wp2
        go_roundw
        case rel => exact ⟨i', Sort.swp ys i at_, s2, by have := HI.out; omega, by have := HI.out; omega, rfl, Lib.hid (by rw [← HXX.out, ← HYY.out]; exact (HO2.out.swp i at_).drew), Lib.hid (Sort.permIn_trans _ _ _ _ _ HPe.out (Sort.swp_permIn _ _ _ _ _ (by have := HI.out; have := HB.out; omega) (by have := HI.out; have := HB.out; omega) (by have := HAT.out; omega) (by have := HAT.out; omega) (by have := HSZ.out; have := HB.out; omega))), Lib.hid (((HX2.out.far (p := ⟨g, i, none⟩) (fun e => HSB.out.2 e.symm) _).far (p := ⟨g, at_, none⟩) (fun e => HSB.out.2 e.symm) _).drew), Lib.hid (fr_swp HF2.out).drew⟩
        case measure => simp [intOf]; have := HI.out; omega
      · have d2 : decide ((l : Int) ≤ (o : Int)) = false := by simp; omega
        have d2' : decide (l ≤ o) = false := by simp; omega
        obtain ⟨at_, hat⟩ : ∃ x, x = a + o := ⟨_, rfl⟩
        have sa : (a : Int) + (o : Int) = (at_ : Int) := by omega
        have hab : at_ < b := by have := HB.out; omega
        have in1 : at_ < n := by have := HB.out; omega
        have ba2 : (at_ : Int) ≤ 1000000 := by omega
        clear hol hom
        have c0 := HO2.out.cell i (by omega)
        have c1 := HO2.out.cell at_ (by omega)
        obtain ⟨x, hx⟩ : ∃ x, ys[i]! = x := ⟨_, rfl⟩
        obtain ⟨y, hy⟩ : ∃ y, ys[at_]! = y := ⟨_, rfl⟩
        rw [hx] at c0
        rw [hy] at c1
        have HXX := Lib.hid hx
        have HYY := Lib.hid hy
        have f0 := HO2.out.frozen i
        have f1 := HO2.out.frozen at_
        have c2 := (HO2.out.set_ i y).cell at_ (by rw [Array.size_setIfInBounds]; omega)
        have f2 := (HO2.out.set_ i y).frozen at_
        generalize (ys.setIfInBounds i y)[at_]! = v2 at c2
        have HSZ := Lib.hid hsz
        have HAT := Lib.hid (⟨hat, hab⟩ : at_ = a + o ∧ at_ < b)
        clear hx hy hsz hat hab
        go_upto_region 10 with fail
        go_region
        go_wp2
        go_roundw
        case rel => exact ⟨i', Sort.swp ys i at_, s2, by have := HI.out; omega, by have := HI.out; omega, rfl, Lib.hid (by rw [← HXX.out, ← HYY.out]; exact (HO2.out.swp i at_).drew), Lib.hid (Sort.permIn_trans _ _ _ _ _ HPe.out (Sort.swp_permIn _ _ _ _ _ (by have := HI.out; have := HB.out; omega) (by have := HI.out; have := HB.out; omega) (by have := HAT.out; omega) (by have := HAT.out; omega) (by have := HSZ.out; have := HB.out; omega))), Lib.hid (((HX2.out.far (p := ⟨g, i, none⟩) (fun e => HSB.out.2 e.symm) _).far (p := ⟨g, at_, none⟩) (fun e => HSB.out.2 e.symm) _).drew), Lib.hid (fr_swp HF2.out).drew⟩
        case measure => simp [intOf]; have := HI.out; omega
    · have d1 : decide ((i : Int) ≤ (hi : Int)) = false := by simp; omega
      have d1' : decide (i ≤ hi) = false := by simp; omega
      go_wp2
      go_end0
      exact ⟨rfl, ⟨ys, HO1.out, HPe.out⟩, HF1.out⟩
end Go.Proofs.Yteldfoplhcnljaa.Srt
