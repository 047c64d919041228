import Derived.Test.YteggcehjpfmikaaWt1
import Derived.Test.YteggcehjpfmikaaWt7
import Derived.Test.YteggcehjpfmikaaWtA
namespace Go.Proofs.Yteggcehjpfmikaa.Wal
open Go.ChangeShapes Go.WideShapes Go.ChangeAt Go.RowKit Go.IntWalk Go.Proofs.Mem Go.Proofs.Each Law Go.Proofs.Yteggcehjpfmikaa.Disk Strip
set_option linter.unusedVariables false
set_option linter.unusedSimpArgs false
def flD (D : Dv) (a la u : Nat) (ys : List Int) : Dv := (wrs D (a + la / 127) (lay7 ((ys.take u).drop (la / 127 * 127)))).synA 0
theorem flD_lens {D : Dv} {a la u : Nat} {ys : List Int} (k : Nat) : ((flD D a la u ys).f k).length = (D.f k).length := by unfold flD; rw [synA_lens, wrs_lens]
theorem tab_fr {Tu Ts : TypeId} {A B : World} {base top : Nat} {v : Value} {l : List Rw} {S : Nat → Prop} (h : Tab Tu Ts A base top v l) (hf : Fr S A B) (hs : ∀ x, S x → x < base) : Tab Tu Ts B base top v l :=
  ⟨Disk.own_frS h.outer hf (fun k hk hS => by have := (h.outer.lt k hk).1; have := hs k hS; omega), fun p hp => ⟨⟨(h.rows p hp).1.form, Disk.own_frS (h.rows p hp).1.own hf (fun k hk hS => by have := ((h.rows p hp).1.own.lt k hk).1; have := hs k hS; omega)⟩, (h.rows p hp).2⟩, h.apart, h.vtop⟩
theorem ir_cut {w : World} {B : Nat} {k : IntKind} {b o n c : Nat} {xs : List Int} (h : IR w B k (.slice (some ⟨b, o, none⟩) n c) xs) (i u : Nat) (hi : i ≤ u) (ht : u ≤ n) : IR w B k (.slice (some ⟨b, o + i, none⟩) (u - i) (u - i)) ((xs.take u).drop i) := by
  obtain ⟨A', c', e, h2, h3, h4, h5⟩ := h
  injection e with e1 e2 e3
  subst e1 e2 e3
  have hl : ((xs.take u).drop i).length = u - i := by rw [List.length_drop, List.length_take]; omega
  refine ⟨_, u - i, by rw [hl], by rw [hl]; exact Nat.le_refl _, by omega, (fun hh => by cases hh), fun j hj => ?_⟩
  rw [hl] at hj
  obtain ⟨b', off, e, hb, hc⟩ := h5 (i + j) (by omega)
  injection e with e
  injection e with e1 e2
  subst e1 e2
  refine ⟨b, o + i, rfl, hb, ?_⟩
  rw [Nat.add_assoc, hc]
  simp only [List.getD]
  rw [List.getElem?_drop, List.getElem?_take, if_pos (by omega)]
theorem flush_first {w : World} {S : Nat → Prop} {g t : Nat} {fv : Nat → Value} {D : Dv} {H : Hh} {se la : Int} {sv tv : Value} (h : DX w S g fv D) (X : Box w t (lgC g H se sv tv la) 89) (hl : 2 ≤ (D.f 0).length) (a : Nat) (ha : H.ar = a) (ha2 : a ≤ 1) :
    Calls Try.prog 40 #[.pointer (some ⟨t, 0, none⟩)] w fun e w' => e = .returned (.int .i64 (fst D a)) ∧ Below w.heap.size w w' := by
  obtain ⟨col, uv, h'⟩ := h
  exact first_any w t H se sv tv la X h' hl a ha ha2
section
variable {w : World} {S : Nat → Prop} {g t : Nat} {fv : Nat → Value} {D : Dv} {H : Hh} {se : Int} {la : Nat} {A At : Option Addr} {n c nt ct : Nat} {ys : List Int}
theorem flush_none (X : Box w t (lgC g H se (.slice A n c) (.slice At nt ct) la) 89) (lsn : Int) (u : Nat) (CB : Calls Try.prog 73 #[.pointer (some ⟨t, 0, none⟩), .int .u64 lsn] w fun e w' => e = .returned (.int .i64 u) ∧ Below w.heap.size w w') (hto : u ≤ la) :
    Calls Try.prog 47 #[.pointer (some ⟨t, 0, none⟩), .int .u64 lsn] w fun e w' => e = .returned (.tuple #[]) ∧ Below w.heap.size w w' := by
  have HC := Lib.hid CB
  have HX := Lib.hid X
  have d1 : decide ((u : Int) ≤ (la : Int)) = true := by simp; omega
  have d1n : decide (u ≤ la) = true := by simp; omega
  clear CB X hto
  go_enter Try.func47, Try.ntmps47
  go_wp2_with fail
  (with_reducible refine (HC.out).mono ?_)
  rintro e w1 ⟨rfl, hb1⟩
  have k8 := (HX.out.later hb1).cell 8
  have HB1 := Lib.hid hb1
  clear hb1
  go_wp2
  refine bodyPost_ret (results_none rfl _ _ _) rfl ?_
  exact ⟨rfl, HB1.out⟩
set_option maxRecDepth 100000 in
set_option maxHeartbeats 8000000 in
theorem flush_do (X : Box w t (lgC g H se (.slice A n c) (.slice At nt ct) la) 89) (h : DX w S g fv D) (hn : ¬ S t) (m : Nat) (hw : D.Few m) (hm : m ≤ 80000) (hl : 18 ≤ (D.f 0).length) (a : Nat) (ha : H.ar = a) (ha2 : a ≤ 1)
    (hso : w.ownsRow 0 5 1 (.slice A n c) n (ys.map (.int .u8))) (hy : Bytes ys) (hnn : n ≤ sz D * 127) (hs7 : sz D ≤ 700)
    (lsn : Int) (u : Nat) (CB : Calls Try.prog 73 #[.pointer (some ⟨t, 0, none⟩), .int .u64 lsn] w fun e w' => e = .returned (.int .i64 u) ∧ Below w.heap.size w w') (hto : la < u) (hton : u ≤ n) :
    Calls Try.prog 47 #[.pointer (some ⟨t, 0, none⟩), .int .u64 lsn] w fun e w' => e = .returned (.tuple #[]) ∧ Box w' t (lgC g H se (.slice A n c) (.slice At nt ct) u) 89 ∧ ∃ S', DX w' S' g fv (flD D (fst D a) la u ys) ∧ Fr (fun x => S x ∨ x = t) w w' ∧ (∀ x, S' x → S x ∨ w.heap.size ≤ x) ∧ ¬ S' t := by
  have hlen := h.lens 0 (by decide)
  have hs : sz D ≤ 2047 := by unfold sz; omega
  have hyl : ys.length = n := by have := hso.1; simpa using this
  obtain ⟨A', c', e1, h1, h2⟩ := (IR.of_own hso).form
  injection e1 with e2 e3 e4
  subst e2 e4
  have hir := IR.of_own hso
  obtain ⟨b, o, rfl, _, _⟩ := hir.index 0 (by omega)
  unfold maxLen at h2
  obtain ⟨wh, hwh⟩ : ∃ wh, la / 127 = wh := ⟨_, rfl⟩
  have q1 : ((la : Int)).tdiv 127 = (wh : Int) := by rw [Int.tdiv_eq_ediv_of_nonneg (by omega)]; omega
  have q2 : IntKind.i64.wrap (wh : Int) = (wh : Int) := IntWalk.i64_in _ (by omega)
  obtain ⟨i0, hi0⟩ : ∃ i0, wh * 127 = i0 := ⟨_, rfl⟩
  have q3 : (wh : Int) * 127 = (i0 : Int) := by omega
  have q4 : IntKind.i64.wrap (i0 : Int) = (i0 : Int) := IntWalk.i64_in _ (by omega)
  have hilt : i0 < u := by omega
  have d1 : decide ((u : Int) ≤ (la : Int)) = false := by simp; omega
  have d1n : decide (u ≤ la) = false := by simp; omega
  have HC := Lib.hid CB
  have HX := Lib.hid X
  have HD := Lib.hid h
  have HIR := Lib.hid hir
  have bn1 : (0 : Int) ≤ (i0 : Int) := by omega
  have bn2 : (i0 : Int) ≤ (u : Int) := by omega
  have bn3 : (u : Int) ≤ (c : Int) := by omega
  have LAY := Lib.hid (fun W (hb : Below w.heap.size w W) => lay_any W w.heap.size _ _ (ir_cut (hir.below hb) i0 u (by omega) hton) hb.size (by rw [List.length_drop, List.length_take]; omega))
  have hlb : ∀ p ∈ lay7 ((ys.take u).drop i0), Bytes p := lay_bytes (fun x hx => hy x (List.mem_of_mem_take (List.mem_of_mem_drop hx)))
  have hll : ∀ p ∈ lay7 ((ys.take u).drop i0), p.length = 128 := fun p hp => by obtain ⟨k, _, rfl⟩ := List.mem_map.1 hp; exact sec_len _ _
  have hlc : (lay7 ((ys.take u).drop i0)).length = cnt (u - i0) := by rw [lay_len]; congr 1; rw [List.length_drop, List.length_take]; omega
  obtain ⟨L, hL⟩ : ∃ L, lay7 ((ys.take u).drop i0) = L := ⟨_, rfl⟩
  rw [hL] at LAY hlb hll hlc
  have HLB := Lib.hid hlb
  have HLL := Lib.hid hll
  have hLp : 0 < L.length := by rw [hlc]; unfold cnt; omega
  have hcb : wh + L.length ≤ sz D := by rw [hlc]; unfold cnt; omega
  have hfst : fst D a + wh + L.length ≤ (D.f 0).length := by unfold fst; unfold sz at *; rcases (show a = 0 ∨ a = 1 by omega) with rfl | rfl <;> omega
  have hE : flD D (fst D a) la u ys = (wrs D (fst D a + wh) L).synA 0 := by unfold flD; rw [hwh, hi0, hL]
  rw [hE]
  obtain ⟨F, hF⟩ : ∃ F, fst D a = F := ⟨_, rfl⟩
  rw [hF] at hfst ⊢
  have HF := Lib.hid hF
  have HFS := Lib.hid hfst
  have HN := Lib.hid hn
  have HW := Lib.hid hw
  have HLP := Lib.hid hLp
  have HLEN := Lib.hid (show (D.f 0).length ≤ 4096 ∧ 18 ≤ (D.f 0).length from ⟨hlen, hl⟩)
  have HHA := Lib.hid (show H.ar = a ∧ a ≤ 1 from ⟨ha, ha2⟩)
  clear CB X h hir hlb hll hlc hcb hfst hE hF hn hw hlen hl ha ha2 hL hwh hi0 hyl hy hso hs h1 hnn hs7 hLp
  go_enter Try.func47, Try.ntmps47
  go_wp2_with fail
  (with_reducible refine (HC.out).mono ?_)
  rintro e w1 ⟨rfl, hb1⟩
  have k8 := (HX.out.later hb1).cell 8
  have k6 := (HX.out.later hb1).cell 6
  have CL := Lib.hid (LAY.out w1 hb1)
  have HB1 := Lib.hid hb1
  clear hb1
  go_wp2_with fail
  (with_reducible refine (CL.out).mono ?_)
  rintro e w2 ⟨v, ls, rfl, ht, hm2, hb2⟩
  obtain ⟨g2, c2, rfl, hg2⟩ : ∃ g2 c2, v = .slice (some ⟨g2, 0, none⟩) L.length c2 ∧ w1.heap.size ≤ g2 := by
    rcases ht.value with ⟨_, e2⟩ | ⟨g2, c2, e2, e3, _⟩
    · exfalso
      rw [e2] at hm2
      have := HLP.out
      rw [← hm2] at this
      exact absurd this (by decide)
    · exact ⟨g2, c2, by rw [e2, ← hm2, List.length_map], e3⟩
  have HT := Lib.hid ht
  have HM := Lib.hid hm2
  have HB2 := Lib.hid (HB1.out.trans (hb2.mono HB1.out.size))
  have HS1 := Lib.hid (show ∀ x, S x → x < w1.heap.size from (HD.out.later HB1.out).old)
  have hLl : L.length ≤ 4096 := by have := HFS.out; have := HLEN.out; omega
  clear hg2 ht hm2 hb2
  have e0 := (HX.out.later HB2.out).cell 0
  clear k6 k8
  go_wp2
  go_loopw [33] (fun i wr => ∃ (k : Nat) (D1 : Dv) (S1 : Nat → Prop), i = .int .i64 k ∧ k ≤ L.length ∧ Hid (DX wr S1 g fv D1) ∧ Hid (Mv w2 S wr S1) ∧ Hid (D1.Few (m + k)) ∧ Hid (D1 = wrs D (F + wh) (L.take k))) (fun i _ => L.length - (intOf i).toNat)
  case atStart => exact ⟨0, D, S, rfl, by omega, Lib.hid (HD.out.later HB2.out), Lib.hid (Mv.refl _ _), HW, Lib.hid rfl⟩
  case round =>
    obtain ⟨k, D1, S1, rfl, hk, HD1, HM1, HW1, HE1⟩ := hrel
    obtain ⟨wa, rfl⟩ : ∃ wa, wa = wr := ⟨wr, rfl⟩
    have hT1 := tab_fr HT.out HM1.out.fr HS1.out
    have hx1 := mv_box (HX.out.later HB2.out) HM1.out HN.out
    have HX1 := Lib.hid hx1
    have e0 := hx1.1.cell 0
    by_cases hlt : k < L.length
    · have d1 : decide ((k : Int) < (L.length : Int)) = true := decide_eq_true (by omega)
      have d1' : decide (k < L.length) = true := decide_eq_true hlt
      have hkl : k < ls.length := by rw [← List.length_map (f := fun p => p.2.2), HM.out]; exact hlt
      obtain ⟨go, cp, ego, hcl, _, _, _⟩ := hT1.cell k hkl
      have ego2 : go = g2 := by injection ego with e1 _ _; injection e1 with e1; injection e1 with e1; exact e1.symm
      rw [ego2] at hcl
      clear ego ego2
      obtain ⟨hrk, htop⟩ := hT1.rows _ (List.getElem_mem hkl)
      have hxk : ls[k].2.2 = L[k] := by
        have : (ls.map (·.2.2))[k]? = L[k]? := by rw [HM.out]
        rw [List.getElem?_map, List.getElem?_eq_getElem hkl, List.getElem?_eq_getElem hlt] at this
        exact Option.some.inj this
      obtain ⟨pk, hpk⟩ : ∃ pk, ls[k] = pk := ⟨_, rfl⟩
      rw [hpk] at hcl hrk htop hxk
      obtain ⟨gk, uk, xk⟩ := pk
      dsimp only at hcl hrk htop hxk
      have hxl : xk.length = 128 := by rw [hxk]; exact HLL.out _ (List.getElem_mem hlt)
      have hxb : Bytes xk := by rw [hxk]; exact HLB.out _ (List.getElem_mem hlt)
      have htk : L.take (k + 1) = L.take k ++ [xk] := by rw [hxk, List.take_succ_eq_append_getElem hlt]
      obtain ⟨ck, ek⟩ := hrk.form
      subst ek
      have hown := hrk.own
      rw [hxl] at hcl hown
      have hlens : (D1.f 0).length = (D.f 0).length := by rw [HE1.out, wrs_lens]
      have hF1 : fst D1 a = F := by rw [← HF.out]; unfold fst sz; rw [hlens]
      have CF := Lib.hid (flush_first (S := S1) (g := g) (fv := fv) (D := D1) (w := wa.drew) (HD1.out.later (Below.refl _ _).drew) hx1.1.drew (by rw [hlens]; have := HLEN.out; omega) a HHA.out.1 HHA.out.2)
      rw [hF1] at CF
      have hhas : D1.has 0 ((F : Int) + (wh : Int) + (k : Int)) := ⟨by decide, by omega, by rw [hlens]; have := HFS.out; omega⟩
      have WR := Lib.hid (fun W (hb : Below wa.heap.size wa W) => ds_write (HD1.out.later hb) (HW1.out.more (by omega)) ((F : Int) + (wh : Int) + (k : Int)) (.slice (some ⟨gk, 0, none⟩) 128 ck) xk (fun w' hf => own_ir' (Disk.own_frS (own_below hown hb) hf (fun j hj hS => by
        injection hj with hj
        have h1 := HS1.out j
        rcases HM1.out.new j hS with h2 | h2
        · have := (hown.lt j (by rw [← hj]; rfl)).1; have := h1 h2; omega
        · have : gk = j := hj; omega)) hxl) hxb hxl hhas)
      have k0 : (0 : Int) ≤ (k : Int) := by omega
      have kL : (k : Int) < (L.length : Int) := by omega
      have bF : F + wh + L.length ≤ 4096 := by have := HFS.out; have := HLEN.out; omega
      have p1 : IntKind.i64.wrap ((F : Int) + (wh : Int)) = (F : Int) + (wh : Int) := IntWalk.i64_in _ (by omega)
      have p2 : IntKind.i64.wrap ((F : Int) + (wh : Int) + (k : Int)) = (F : Int) + (wh : Int) + (k : Int) := IntWalk.i64_in _ (by omega)
      have p3 : IntKind.i64.wrap ((k : Int) + 1) = (k : Int) + 1 := IntWalk.i64_in _ (by omega)
      have HE2 := Lib.hid (show D1.wrA 0 ((F : Int) + (wh : Int) + (k : Int)) xk = wrs D (F + wh) (L.take (k + 1)) by
        rw [htk, wrs_snoc, ← HE1.out]
        congr 1
        rw [List.length_take, Nat.min_eq_left hk]; omega)
      have HW2 := Lib.hid (wrA_few' HW1.out 0 ((F : Int) + (wh : Int) + (k : Int)) xk)
      have HCL := Lib.hid (show ∀ W, Below wa.heap.size wa W → W.cell? ⟨t, 0, none⟩ = some (.pointer (some ⟨g, 0, none⟩)) from fun W hb => (hx1.1.later hb).cell 0)
      have HDW := Lib.hid (show Below wa.heap.size wa wa.drew from (Below.refl _ _).drew)
      have HTN := Lib.hid hx1.2
      clear hT1 hx1 hkl hrk htop hxk hpk hxl hxb htk hown hlens hF1 hhas HE1
      go_wp2_with fail
      have K0 := Lib.hid (HCL.out _ HDW.out)
      go_region_held3 (fun W => W.cell? ⟨t, 0, none⟩ = some (.pointer (some ⟨g, 0, none⟩)))
        (first | exact K0.out | exact K1.out | exact K2.out)
        (first
        | (go_at_call 40
           (with_reducible refine CF.out.mono ?_)
           rintro er w3 ⟨rfl, hb⟩
           have HB3 := Lib.hid (HDW.out.trans hb)
           have K1 := Lib.hid (HCL.out _ HB3.out)
           clear hb)
        | (go_at_call 60
           (with_reducible refine (WR.out _ HB3.out).mono ?_)
           rintro er w4 ⟨rfl, S4, hd, hm⟩
           have HD4 := Lib.hid hd
           have HM4 := Lib.hid (((HM1.out.later HB3.out).trans hm))
           have K2 := Lib.hid ((mv_box (HX1.out.1.later HB3.out) hm HTN.out).1.cell 0)
           clear hd hm))
      go_wp2
      go_roundw
      case rel => exact ⟨k + 1, _, S4, by go_num, by omega, HD4, HM4, HW2, HE2⟩
      case measure => simp [intOf]; omega
    · have d1 : decide ((k : Int) < (L.length : Int)) = false := decide_eq_false (by omega)
      have d1' : decide (k < L.length) = false := decide_eq_false hlt
      have hkL : k = L.length := by omega
      have HE2 := Lib.hid (show D1 = wrs D (F + wh) L by rw [HE1.out, hkL, List.take_length])
      have SY := Lib.hid (ds_sync HD1.out (HW1.out.more (by omega)))
      clear hT1 hx1 HE1 hkL
      go_wp2_with fail
      (with_reducible refine SY.out.mono ?_)
      rintro e w5 ⟨rfl, S5, hd, hm⟩
      have hx5 := mv_box HX1.out.1 hm HX1.out.2
      have HM5 := Lib.hid (HM1.out.trans hm)
      have HD5 := Lib.hid hd
      have HX5 := Lib.hid hx5
      have k9 := hx5.1.cell 8
      have f9 := hx5.1.frozen 8
      have b9 := hx5.1.set_ 8 (.int .i64 u)
      have d9 := hd.far ((Fr.refl (fun x => x = t) w5).setCell (p := ⟨t, 8, none⟩) (.inl rfl) (.int .i64 u)) (fun x hx e => hx5.2 (e ▸ hx))
      simp only [List.setIfInBounds_toArray, List.set_cons_succ, List.set_cons_zero] at b9
      have H9 := Lib.hid b9
      have D9 := Lib.hid d9
      clear hd hm hx5 b9 d9
      go_wp2
      go_end0
      have hf := (((Mv.of_below HB2.out S).trans HM5.out).fr.mono (S' := fun x => S x ∨ x = t) (fun _ _ h => .inl h)).setCell (p := ⟨t, 8, none⟩) (.inl (.inr rfl)) (.int .i64 u)
      exact ⟨rfl, H9.out, S5, by rw [← HE2.out]; exact D9.out, hf, ((Mv.of_below HB2.out S).trans HM5.out).new, HX5.out.2⟩
end
end Go.Proofs.Yteggcehjpfmikaa.Wal
namespace Go.Proofs.Yteggcehjpfmikaa.Wal
open Go.ChangeShapes Go.WideShapes Go.ChangeAt Go.RowKit Go.IntWalk Go.Proofs.Mem Go.Proofs.Each Law Go.Proofs.Yteggcehjpfmikaa.Disk Strip
set_option linter.unusedVariables false
set_option linter.unusedSimpArgs false
theorem first_yes (f : Nat → Bool) (n : Nat) (hm : ∀ i j, i ≤ j → f i = true → f j = true) : ∃ r, FirstYes f n r := by
  induction n with
  | zero => exact ⟨0, Nat.le_refl _, fun k hk => by omega, fun k h1 h2 => by omega⟩
  | succ n ih =>
    obtain ⟨r, h1, h2, h3⟩ := ih
    by_cases hr : r = n ∧ f n = false
    · refine ⟨n + 1, Nat.le_refl _, fun k hk => ?_, fun k h4 h5 => by omega⟩
      rcases Nat.lt_or_ge k n with h | h
      · exact h2 k (by omega)
      · rw [show k = n by omega]; exact hr.2
    · refine ⟨r, by omega, h2, fun k h4 h5 => ?_⟩
      rcases Nat.lt_or_ge k n with h | h
      · exact h3 k h4 h
      · rw [show k = n by omega]
        by_cases e : r = n
        · cases hf : f n with
          | true => rfl
          | false => exact absurd ⟨e, hf⟩ hr
        · exact hm r n (by omega) (h3 r (Nat.le_refl _) (by omega))
theorem first_eq {f : Nat → Bool} {n r s : Nat} (h : FirstYes f n r) (k : FirstYes f n s) : r = s := by
  obtain ⟨a1, a2, a3⟩ := h
  obtain ⟨b1, b2, b3⟩ := k
  rcases Nat.lt_trichotomy r s with hh | hh | hh
  · have h1 := b2 r hh
    rw [a3 r (Nat.le_refl _) (by omega)] at h1
    cases h1
  · exact hh
  · have h1 := a2 s hh
    rw [b3 s (Nat.le_refl _) (by omega)] at h1
    cases h1
structure Lv where
  h : Hh
  se : Nat
  ys : List Int
  ss : List Int
  la : Nat
def LgAt (w : World) (T : Nat → Prop) (t g : Nat) (fv : Nat → Value) (D : Dv) (L : Lv) : Prop :=
  ∃ S A c At ct, Box w t (lgC g L.h L.se (.slice A L.ys.length c) (.slice At L.ss.length ct) L.la) 89 ∧ DX w S g fv D ∧
    w.ownsRow 0 5 1 (.slice A L.ys.length c) L.ys.length (L.ys.map (.int .u8)) ∧ w.ownsRow 0 3 1 (.slice At L.ss.length ct) L.ss.length (L.ss.map (.int .i64)) ∧
    ¬ S t ∧ (∀ k, (Value.slice A L.ys.length c).ownBlock = some k → ¬ S k ∧ T k) ∧ (∀ k, (Value.slice At L.ss.length ct).ownBlock = some k → ¬ S k ∧ T k) ∧ (∀ x, S x → T x) ∧ T t
structure LvOk (D : Dv) (L : Lv) : Prop where
  sz : 8 ≤ sz D ∧ sz D ≤ 700
  ok : L.h.Ok
  ar : L.h.ar ≤ 1
  se : L.se ≤ 1
  ba : 1 ≤ L.h.ba ∧ L.h.ba ≤ 9223372036854775808
  st : L.h.st ≤ 1000000
  by_ : Bytes L.ys
  len : L.ys.length ≤ Wal.sz D * 127
  ri : Rising L.ss L.ys.length
  ssl : L.ss.length ≤ 100000
  la : L.la ≤ L.ys.length
section
variable {w w' : World} {T : Nat → Prop} {t g : Nat} {fv : Nat → Value} {D : Dv} {L : Lv}
theorem LgAt.far {U : Nat → Prop} (h : LgAt w T t g fv D L) (hf : Fr U w w') (hu : ∀ x, T x → ¬ U x) : LgAt w' T t g fv D L := by
  obtain ⟨S, A, c, At, ct, h1, h2, h3, h4, h5, h6, h7, h8, h9⟩ := h
  exact ⟨S, A, c, At, ct, h1.fr hf (hu t h9), h2.far hf (fun x hx => hu x (h8 x hx)), Disk.own_frS h3 hf (fun k hk => hu k (h6 k hk).2), Disk.own_frS h4 hf (fun k hk => hu k (h7 k hk).2), h5, h6, h7, h8, h9⟩
theorem LgAt.later (h : LgAt w T t g fv D L) (hb : Below w.heap.size w w') : LgAt w' T t g fv D L := h.far (U := fun _ => False) (Fr.of_below hb) (fun _ _ h => h)
theorem LgAt.more {T' : Nat → Prop} (h : LgAt w T t g fv D L) (ht : ∀ x, T x → T' x) : LgAt w T' t g fv D L := by
  obtain ⟨S, A, c, At, ct, h1, h2, h3, h4, h5, h6, h7, h8, h9⟩ := h
  exact ⟨S, A, c, At, ct, h1, h2, h3, h4, h5, fun k hk => ⟨(h6 k hk).1, ht k (h6 k hk).2⟩, fun k hk => ⟨(h7 k hk).1, ht k (h7 k hk).2⟩, fun x hx => ht x (h8 x hx), ht t h9⟩
theorem LvOk.len18 (ok : LvOk D L) : 18 ≤ (D.f 0).length := by have := ok.sz; unfold Wal.sz at this; omega
theorem LvOk.nn (ok : LvOk D L) : L.ys.length ≤ 88900 := by have := ok.sz; have := ok.len; omega
def endK (L : Lv) (k : Nat) : Nat := (endS L.ss L.ys.length ((k : Int) - 1)).toNat
theorem endK_eq (ok : LvOk D L) (k : Nat) : endS L.ss L.ys.length ((k : Int) - 1) = (endK L k : Int) ∧ endK L k ≤ L.ys.length := by
  unfold endK
  have h : 0 ≤ endS L.ss L.ys.length ((k : Int) - 1) ∧ endS L.ss L.ys.length ((k : Int) - 1) ≤ L.ys.length := by
    unfold endS
    split
    · omega
    · split
      · rename_i h1 h2
        exact ok.ri.nn _ (by omega)
      · omega
  omega
theorem endK_all (k : Nat) (hk : k = L.ss.length) (h0 : L.ss.length = 0 → L.ys.length = 0) : endK L k = L.ys.length := by
  unfold endK endS
  subst hk
  by_cases h : L.ss.length = 0
  · rw [if_pos (by omega), h0 h]; rfl
  · rw [if_neg (by omega), if_neg (by omega)]; omega
def upK (L : Lv) (lsn : Int) (k : Nat) : Prop := FirstYes (behF L.h.ba lsn L.ss) L.ss.length k
theorem upK_all (ok : LvOk D L) {k : Nat} (h : upK L 18446744073709551615 k) : k = L.ss.length := by
  obtain ⟨h1, h2, h3⟩ := h
  rcases Nat.lt_or_ge k L.ss.length with hlt | hge
  · have := h3 k (Nat.le_refl _) hlt
    unfold behF at this
    rw [if_pos hlt] at this
    have h4 := of_decide_eq_true this
    have h5 := (ok.ri.nn k hlt).2
    have := ok.ba.2
    have := ok.nn
    omega
  · omega
def flA (D : Dv) (L : Lv) (u : Nat) : Dv := if u ≤ L.la then D else flD D (fst D L.h.ar.toNat) L.la u L.ys
theorem flA_lens (u : Nat) (k : Nat) : ((flA D L u).f k).length = (D.f k).length := by
  unfold flA
  split
  · rfl
  · exact flD_lens k
def flL (L : Lv) (u : Nat) : Lv := { L with la := max L.la u }
theorem sz_eq {D D' : Dv} (h : (D'.f 0).length = (D.f 0).length) : sz D' = sz D := by unfold sz; rw [h]
theorem LvOk.dev {D' : Dv} (ok : LvOk D L) (h : (D'.f 0).length = (D.f 0).length) : LvOk D' L := by
  obtain ⟨a, b, c, d, e, f, g, i, j, k, l⟩ := ok
  exact ⟨by rw [sz_eq h]; exact a, b, c, d, e, f, g, by rw [sz_eq h]; exact i, j, k, l⟩
theorem flA_few {m : Nat} (hm : D.Few m) (ok : LvOk D L) (u : Nat) (hu : u ≤ L.ys.length) : (flA D L u).Few (m + 701) := by
  unfold flA
  split
  · exact hm.more (by omega)
  · unfold flD
    refine synA_few' ((wrs_few _ D _ m hm).more ?_) 0
    have h1 : (lay7 ((L.ys.take u).drop (L.la / 127 * 127))).length ≤ 701 := by
      rw [lay_len, List.length_drop, List.length_take]
      unfold cnt
      have := ok.nn
      omega
    omega
theorem flush_any (h : LgAt w T t g fv D L) (ok : LvOk D L) (m : Nat) (hw : D.Few m) (hm : m ≤ 80000) (lsn : Int) :
    Calls Try.prog 47 #[.pointer (some ⟨t, 0, none⟩), .int .u64 lsn] w fun e w' => e = .returned (.tuple #[]) ∧ ∃ k, upK L lsn k ∧ LgAt w' (growS w w' T) t g fv (flA D L (endK L k)) (flL L (endK L k)) ∧ Fr T w w' := by
  obtain ⟨S, A, c, At, ct, h1, h2, h3, h4, h5, h6, h7, h8, h9⟩ := id h
  have hb : 0 ≤ L.h.ba ∧ L.h.ba + L.ys.length ≤ 18446744073709551615 := by have := ok.ba; have := ok.nn; omega
  have CB := behind_any w h1 L.ss (IR.of_own h4) ok.ssl lsn ok.ri (by have := ok.nn; omega) hb
  obtain ⟨k, hk⟩ : ∃ k, upK L lsn k := first_yes (behF L.h.ba lsn L.ss) L.ss.length (fun i j hij hi => behF_mono ok.ri i j hij hi)
  obtain ⟨e1, e2⟩ := endK_eq ok k
  have CB2 : Calls Try.prog 73 #[.pointer (some ⟨t, 0, none⟩), .int .u64 lsn] w fun e w' => e = .returned (.int .i64 (endK L k)) ∧ Below w.heap.size w w' := by
    refine CB.mono ?_
    rintro e w' ⟨r, rfl, hr, hbl⟩
    rw [first_eq hr hk, e1]
    exact ⟨rfl, hbl⟩
  obtain ⟨a, ha⟩ : ∃ a : Nat, L.h.ar = a := ⟨L.h.ar.toNat, by have := ok.ok.ar; omega⟩
  have ha1 : a ≤ 1 := by have := ok.ar; omega
  by_cases hu : endK L k ≤ L.la
  · refine (flush_none h1 lsn _ CB2 hu).mono ?_
    rintro e w' ⟨rfl, hbl⟩
    have f1 : flA D L (endK L k) = D := if_pos hu
    have f2 : flL L (endK L k) = L := by unfold flL; rw [Nat.max_eq_left hu]
    refine ⟨rfl, k, hk, ?_⟩
    rw [f1, f2]
    exact ⟨(h.later hbl).more (fun x hx => .inl hx), Fr.of_below hbl⟩
  · refine (flush_do h1 h2 h5 m hw hm ok.len18 a ha ha1 h3 ok.by_ ok.len ok.sz.2 lsn _ CB2 (by omega) e2).mono ?_
    rintro e w' ⟨rfl, b1, S', b2, b3, b4, b5⟩
    have f1 : flA D L (endK L k) = flD D (fst D a) L.la (endK L k) L.ys := by unfold flA; rw [if_neg hu, ha]; rfl
    have f2 : flL L (endK L k) = { L with la := endK L k } := by unfold flL; rw [Nat.max_eq_right (by omega)]
    have hfT : Fr T w w' := b3.mono (fun x _ hx => by
      rcases hx with hx | hx
      · exact h8 x hx
      · rw [hx]; exact h9)
    have hn' : ∀ {v : Value} {n : Nat} {tt : TypeId} {xs : List Value}, w.ownsRow 0 tt 1 v n xs → 89 ≠ tt → (∀ k, v.ownBlock = some k → ¬ S k ∧ T k) → w'.ownsRow 0 tt 1 v n xs ∧ ∀ k, v.ownBlock = some k → ¬ S' k ∧ growS w w' T k := fun {v n tt xs} ho hne hS =>
      ⟨Disk.own_frS ho b3 (fun k hk hx => by
        rcases hx with hx | hx
        · exact (hS k hk).1 hx
        · exact row_ne_box ho h1 (Ne.symm hne) (hx ▸ hk)), fun k hk => ⟨fun hx => by
        rcases b4 k hx with h10 | h10
        · exact (hS k hk).1 h10
        · have := (ho.lt k hk).2; omega, .inl (hS k hk).2⟩⟩
    obtain ⟨o1, o2⟩ := hn' h3 (by decide) h6
    obtain ⟨o3, o4⟩ := hn' h4 (by decide) h7
    refine ⟨rfl, k, hk, ?_⟩
    rw [f1, f2]
    refine ⟨⟨S', A, c, At, ct, b1, b2, o1, o3, b5, o2, o4, fun x hx => ?_, .inl h9⟩, hfT⟩
    rcases b4 x hx with h10 | h10
    · exact .inl (h8 x h10)
    · exact .inr ⟨h10, b2.old x hx⟩
end
end Go.Proofs.Yteggcehjpfmikaa.Wal
namespace Go.Proofs.Yteggcehjpfmikaa.Wal
open Go.ChangeShapes Go.WideShapes Go.ChangeAt Go.RowKit Go.IntWalk Go.Proofs.Mem Go.Proofs.Each Law Go.Proofs.Yteggcehjpfmikaa.Disk Strip
set_option linter.unusedVariables false
set_option linter.unusedSimpArgs false
theorem lg_step {w w' : World} {T S S' : Nat → Prop} {t g : Nat} {fv : Nat → Value} {D' : Dv} {L : Lv} {A At : Option Addr} {c ct : Nat} {C : Array Value}
    (h1 : Box w t C 89) (h3 : w.ownsRow 0 5 1 (.slice A L.ys.length c) L.ys.length (L.ys.map (.int .u8))) (h4 : w.ownsRow 0 3 1 (.slice At L.ss.length ct) L.ss.length (L.ss.map (.int .i64)))
    (h6 : ∀ k, (Value.slice A L.ys.length c).ownBlock = some k → ¬ S k ∧ T k) (h7 : ∀ k, (Value.slice At L.ss.length ct).ownBlock = some k → ¬ S k ∧ T k) (h8 : ∀ x, S x → T x) (h9 : T t)
    (h' : Hh) (se' la' : Nat) (b1 : Box w' t (lgC g h' se' (.slice A L.ys.length c) (.slice At L.ss.length ct) la') 89) (b2 : DX w' S' g fv D') (b3 : Fr (fun x => S x ∨ x = t) w w') (b4 : ∀ x, S' x → S x ∨ w.heap.size ≤ x) (b5 : ¬ S' t) :
    LgAt w' (growS w w' T) t g fv D' ⟨h', se', L.ys, L.ss, la'⟩ ∧ Fr T w w' := by
  have hfT : Fr T w w' := b3.mono (fun x _ hx => by
    rcases hx with hx | hx
    · exact h8 x hx
    · rw [hx]; exact h9)
  have hn' : ∀ {v : Value} {n : Nat} {tt : TypeId} {xs : List Value}, w.ownsRow 0 tt 1 v n xs → 89 ≠ tt → (∀ k, v.ownBlock = some k → ¬ S k ∧ T k) → w'.ownsRow 0 tt 1 v n xs ∧ ∀ k, v.ownBlock = some k → ¬ S' k ∧ growS w w' T k := fun {v n tt xs} ho hne hS =>
    ⟨Disk.own_frS ho b3 (fun k hk hx => by
      rcases hx with hx | hx
      · exact (hS k hk).1 hx
      · exact row_ne_box ho h1 (Ne.symm hne) (hx ▸ hk)), fun k hk => ⟨fun hx => by
      rcases b4 k hx with h10 | h10
      · exact (hS k hk).1 h10
      · have := (ho.lt k hk).2; omega, .inl (hS k hk).2⟩⟩
  obtain ⟨o1, o2⟩ := hn' h3 (by decide) h6
  obtain ⟨o3, o4⟩ := hn' h4 (by decide) h7
  refine ⟨⟨S', A, c, At, ct, b1, b2, o1, o3, b5, o2, o4, fun x hx => ?_, .inl h9⟩, hfT⟩
  rcases b4 x hx with h10 | h10
  · exact .inl (h8 x h10)
  · exact .inr ⟨h10, b2.old x hx⟩
theorem grow_grow {a b c : World} {T : Nat → Prop} (hab : a.heap.size ≤ b.heap.size) (hbc : b.heap.size ≤ c.heap.size) : ∀ x, growS b c (growS a b T) x → growS a c T x := fun x hx => by
  rcases hx with (hx | hx) | hx
  · exact .inl hx
  · exact .inr (by omega)
  · exact .inr (by omega)
theorem fr_grow {a b c : World} {T : Nat → Prop} (h : Fr T a b) (k : Fr (growS a b T) b c) : Fr T a c := h.trans' k (fun i hi hx => by
  rcases hx with hx | hx
  · exact hx
  · omega)
section
variable {w : World} {T : Nat → Prop} {t g : Nat} {fv : Nat → Value} {D : Dv} {L : Lv}
def mkL (L : Lv) (ch : Int) : Lv := ⟨⟨L.h.st + 1, L.h.ar, L.h.ba, ch⟩, 1 - L.se, L.ys, L.ss, L.ys.length⟩
def mkD (D : Dv) (L : Lv) (ch : Int) : Dv := hdD (flA D L L.ys.length) (1 - L.se) (mkL L ch).h.img
theorem fl_all (ok : LvOk D L) : flL L L.ys.length = { L with la := L.ys.length } := by unfold flL; rw [Nat.max_eq_right ok.la]
theorem flush_all (h : LgAt w T t g fv D L) (ok : LvOk D L) (h0 : L.ss.length = 0 → L.ys.length = 0) (m : Nat) (hw : D.Few m) (hm : m ≤ 80000) :
    Calls Try.prog 47 #[.pointer (some ⟨t, 0, none⟩), .int .u64 18446744073709551615] w fun e w' => e = .returned (.tuple #[]) ∧ LgAt w' (growS w w' T) t g fv (flA D L L.ys.length) { L with la := L.ys.length } ∧ Fr T w w' := by
  refine (flush_any h ok m hw hm 18446744073709551615).mono ?_
  rintro e w' ⟨rfl, k, hk, h1, h2⟩
  rw [endK_all k (upK_all ok hk) h0, fl_all ok] at h1
  exact ⟨rfl, h1, h2⟩
set_option maxRecDepth 100000 in
set_option maxHeartbeats 8000000 in
theorem mark_any (h : LgAt w T t g fv D L) (ok : LvOk D L) (h0 : L.ss.length = 0 → L.ys.length = 0) (m : Nat) (hw : D.Few m) (hm : m ≤ 80000) (lsn : Int) (hlsn : 0 ≤ lsn ∧ lsn ≤ 18446744073709551615) :
    Calls Try.prog 26 #[.pointer (some ⟨t, 0, none⟩), .int .u64 lsn] w fun e w' => e = .returned (.tuple #[]) ∧ LgAt w' (growS w w' T) t g fv (mkD D L lsn) (mkL L lsn) ∧ Fr T w w' := by
  have CF := Lib.hid (flush_all h ok h0 m hw hm)
  have hfw := flA_few hw ok L.ys.length (Nat.le_refl _)
  have hlen := flA_lens (D := D) (L := L) L.ys.length 0
  have h18 := ok.len18
  have OK := Lib.hid ok
  have HFW := Lib.hid (hfw.more (show m + 701 ≤ 90000 by omega))
  have HLEN := Lib.hid (show 2 ≤ ((flA D L L.ys.length).f 0).length by rw [hlen]; omega)
  have HLS := Lib.hid hlsn
  have hgoal : mkD D L lsn = hdD (flA D L L.ys.length) (1 - L.se) (Hh.img { (⟨L.h.st, L.h.ar, L.h.ba, lsn⟩ : Hh) with st := L.h.st + 1 }) := rfl
  rw [hgoal]
  obtain ⟨D1, hD1⟩ : ∃ D1, flA D L L.ys.length = D1 := ⟨_, rfl⟩
  rw [hD1] at CF HFW HLEN ⊢
  clear h ok hw hm hfw hlen h18 hD1 hgoal h0 hlsn
  go_enter Try.func26, Try.ntmps26
  go_wp2_with fail
  (with_reducible refine (CF.out).mono ?_)
  rintro e w1 ⟨rfl, h1, hf1⟩
  obtain ⟨S, A, c, At, ct, g1, g2, g3, g4, g5, g6, g7, g8, g9⟩ := h1
  dsimp only at g1 g3 g4 g6 g7
  have k4 := g1.cell 4
  have n4 := g1.frozen 4
  have X2 := g1.set_ 4 (.int .u64 lsn)
  simp only [List.setIfInBounds_toArray, List.set_cons_succ, List.set_cons_zero] at X2
  have hf2 := (Fr.refl (fun x => x = t) w1).setCell (p := ⟨t, 4, none⟩) (.inl rfl) (.int .u64 lsn)
  have hd2 := g2.far hf2 (fun x hx e => g5 (e ▸ hx))
  obtain ⟨w2, hw2⟩ : ∃ w2, w1.setCell ⟨t, 4, none⟩ (.int .u64 lsn) = w2 := ⟨_, rfl⟩
  rw [hw2] at X2 hf2 hd2
  have CH := Lib.hid (head_any hd2 HFW.out t ⟨L.h.st, L.h.ar, L.h.ba, lsn⟩ L.se L.ys.length _ _ X2 g5 ⟨OK.out.ok.st, OK.out.ok.ar, OK.out.ok.ba, HLS.out⟩ (by have := OK.out.st; dsimp only; omega) OK.out.se HLEN.out)
  have P := Lib.hid (⟨g1, g3, g4, g6, g7, g8, g9⟩ : _ ∧ _ ∧ _ ∧ _ ∧ _ ∧ _ ∧ _)
  have HF1 := Lib.hid hf1
  have HF2 := Lib.hid hf2
  clear g1 g2 g3 g4 g5 g6 g7 g8 g9 X2 hd2 hf1 hf2
  go_wp2_with fail
  (with_reducible refine (CH.out).mono ?_)
  rintro e w3 ⟨rfl, b1, S3, b2, b3, b4, b5⟩
  go_wp2
  go_end0
  obtain ⟨g1, g3, g4, g6, g7, g8, g9⟩ := P.out
  have hb3 : Fr (fun x => S x ∨ x = t) w1 w3 := (HF2.out.mono (fun _ _ hx => .inr hx)).trans b3
  have hs2 := HF2.out.size
  obtain ⟨r1, r2⟩ := lg_step (L := L) g1 g3 g4 g6 g7 g8 g9 ⟨L.h.st + 1, L.h.ar, L.h.ba, lsn⟩ (1 - L.se) L.ys.length b1 b2 hb3 (fun x hx => (b4 x hx).imp id (fun h => by omega)) b5
  exact ⟨rfl, r1.more (grow_grow HF1.out.size r2.size), fr_grow HF1.out r2⟩
end
end Go.Proofs.Yteggcehjpfmikaa.Wal
namespace Go.Proofs.Yteggcehjpfmikaa.Wal
open Go.ChangeShapes Go.WideShapes Go.ChangeAt Go.RowKit Go.IntWalk Go.Proofs.Mem Go.Proofs.Each Law Go.Proofs.Yteggcehjpfmikaa.Disk Strip
set_option linter.unusedVariables false
set_option linter.unusedSimpArgs false
section
variable {w : World} {T : Nat → Prop} {t g : Nat} {fv : Nat → Value} {D : Dv} {L : Lv}
def rnL (L : Lv) : Lv := ⟨⟨L.h.st + 1, 1 - L.h.ar, L.h.ba + L.ys.length, 0⟩, 1 - L.se, [], [], 0⟩
def rnC (D : Dv) (L : Lv) : Dv := clnD (flA D L L.ys.length) (fst D (1 - L.h.ar.toNat)) (List.replicate (Wal.sz D) z128)
def rnD (D : Dv) (L : Lv) : Dv := hdD (rnC D L) (1 - L.se) (rnL L).h.img
theorem other_dx {w : World} {S : Nat → Prop} {H : Hh} {se la : Int} {sv tv : Value} (h : DX w S g fv D) (X : Box w t (lgC g H se sv tv la) 89) (hl : 2 ≤ (D.f 0).length) (a : Nat) (ha : H.ar = a) (ha2 : a ≤ 1) :
    Calls Try.prog 48 #[.pointer (some ⟨t, 0, none⟩)] w fun e w' => e = .returned (.int .i64 (fst D (1 - a))) ∧ Below w.heap.size w w' := by
  obtain ⟨col, uv, h'⟩ := h
  exact other_any w t H se sv tv la X h' hl a ha ha2
theorem size_dx {w : World} {S : Nat → Prop} (h : DX w S g fv D) (hl : 2 ≤ (D.f 0).length) :
    Calls Try.prog 33 #[.pointer (some ⟨g, 0, none⟩)] w fun e w' => e = .returned (.int .i64 (Wal.sz D)) ∧ w = w' := by
  obtain ⟨col, uv, h'⟩ := h
  exact wsize_any w h' hl
set_option maxRecDepth 100000 in
set_option maxHeartbeats 8000000 in
theorem renew_any (h : LgAt w T t g fv D L) (ok : LvOk D L) (h0 : L.ss.length = 0 → L.ys.length = 0) (m : Nat) (hw : D.Few m) (hm : m ≤ 80000) :
    Calls Try.prog 24 #[.pointer (some ⟨t, 0, none⟩)] w fun e w' => e = .returned (.tuple #[]) ∧ LgAt w' (growS w w' T) t g fv (rnD D L) (rnL L) ∧ Fr T w w' := by
  have CF := Lib.hid (flush_all h ok h0 m hw hm)
  have hfw := flA_few hw ok L.ys.length (Nat.le_refl _)
  have hlen := flA_lens (D := D) (L := L) L.ys.length 0
  have h18 := ok.len18
  have hszq := sz_eq hlen
  obtain ⟨a, ha⟩ : ∃ a : Nat, L.h.ar = a := ⟨L.h.ar.toNat, by have := ok.ok.ar; omega⟩
  have ha1 : a ≤ 1 := by have := ok.ar; omega
  have hfs : fst (flA D L L.ys.length) (1 - a) = fst D (1 - a) := by unfold fst; rw [hszq]
  have OK := Lib.hid ok
  have HFW := Lib.hid hfw
  have HM := Lib.hid hm
  have HLEN := Lib.hid (show 18 ≤ ((flA D L L.ys.length).f 0).length by rw [hlen]; omega)
  have hcl : rnC D L = clnD (flA D L L.ys.length) (fst D (1 - a)) (List.replicate (Wal.sz D) z128) := by unfold rnC; rw [ha]; rfl
  have hgoal : rnD D L = hdD (clnD (flA D L L.ys.length) (fst D (1 - a)) (List.replicate (Wal.sz D) z128)) (1 - L.se) (Hh.img { (⟨L.h.st, 1 - L.h.ar, L.h.ba + L.ys.length, 0⟩ : Hh) with st := L.h.st + 1 }) := by unfold rnD; rw [hcl]; rfl
  rw [hgoal]
  have hsz := ok.sz
  have hfit : fst D (1 - a) + Wal.sz D ≤ ((flA D L L.ys.length).f 0).length := by
    rw [hlen]; unfold fst; unfold Wal.sz at *
    rcases (show a = 0 ∨ a = 1 by omega) with rfl | rfl <;> omega
  obtain ⟨D1, hD1⟩ : ∃ D1, flA D L L.ys.length = D1 := ⟨_, rfl⟩
  rw [hD1] at CF HFW HLEN hfit hfs hszq ⊢
  obtain ⟨q, hq⟩ : ∃ q, Wal.sz D = q := ⟨_, rfl⟩
  rw [hq] at hfit hszq hsz ⊢
  obtain ⟨F, hF⟩ : ∃ F, fst D (1 - a) = F := ⟨_, rfl⟩
  rw [hF] at hfit hfs ⊢
  have hcf := clnD_few F (List.replicate q z128) HFW.out
  rw [List.length_replicate] at hcf
  have HCF := Lib.hid (hcf.more (show m + 701 + q ≤ 90000 by omega))
  have HCL := Lib.hid (show 2 ≤ ((clnD D1 F (List.replicate q z128)).f 0).length by rw [clnD_lens]; have := HLEN.out; omega)
  have MK := rows_made q (by omega)
  obtain ⟨AN, hAN⟩ : ∃ AN, madeCells (Value.slice none 0 0).cells (q * 1) = AN := ⟨_, rfl⟩
  have HAN := Lib.hid hAN
  rw [hAN] at MK
  clear hAN
  have HF := Lib.hid hfs
  have HQ := Lib.hid hszq
  have HFIT := Lib.hid hfit
  have HSZ := Lib.hid hsz
  obtain ⟨D2, hD2⟩ : ∃ D2, clnD D1 F (List.replicate q z128) = D2 := ⟨_, rfl⟩
  have HD2 := Lib.hid hD2
  rw [hD2] at HCF HCL ⊢
  have HA := Lib.hid ha
  have HA1 := Lib.hid ha1
  clear h ok hw hm hfw hlen h18 hD1 hgoal h0 ha hcl hF hq hfit hfs hszq hsz hcf hD2
  go_enter Try.func24, Try.ntmps24
  go_wp2_with fail
  (with_reducible refine (CF.out).mono ?_)
  rintro e w1 ⟨rfl, h1, hf1⟩
  obtain ⟨S, A, c, At, ct, g1, g2, g3, g4, g5, g6, g7, g8, g9⟩ := h1
  dsimp only at g1 g3 g4 g6 g7
  have X1 := Lib.hid g1
  have X2 := Lib.hid g2
  have HSO := Lib.hid (show ∀ x, S x → x < w1.heap.size from g2.old)
  have G5 := Lib.hid g5
  have P := Lib.hid (⟨g3, g4, g6, g7, g8, g9⟩ : _ ∧ _ ∧ _ ∧ _ ∧ _ ∧ _)
  have HF1 := Lib.hid hf1
  have CO := Lib.hid (fun W (hb : Below w1.heap.size w1 W) => by
    have := other_dx (g2.later hb) (g1.later hb) (by have := HLEN.out; omega) a HA.out HA1.out
    rw [HF.out] at this
    exact this)
  have CS := Lib.hid (fun W (hb : Below w1.heap.size w1 W) => by
    have := size_dx (g2.later hb) (by have := HLEN.out; omega)
    rw [HQ.out] at this
    exact this)
  clear g1 g2 g3 g4 g5 g6 g7 g8 g9 hf1
  go_upto_region 1 with fail
  refine wp_region_end (by kernel_rfl) (by kernel_rfl) 12 (fun W W' => Fr S W W') (fun W => ∃ S2, DX W S2 g fv D2 ∧ Mv w1 S W S2) [(fun v _ => v = .pointer (some ⟨t, 0, none⟩)), (fun v _ => v = .pointer (some ⟨t, 0, none⟩)), (fun v _ => v = .pointer (some ⟨t, 0, none⟩)), (fun v _ => v = .pointer (some ⟨g, 0, none⟩)), (fun v _ => v = .pointer (some ⟨t, 0, none⟩)), (fun v _ => v = .int .i64 F), (fun v _ => v = .pointer (some ⟨t, 0, none⟩)), (fun v _ => v = .pointer (some ⟨t, 0, none⟩)), (fun v _ => v = .pointer (some ⟨t, 0, none⟩)), (fun v _ => v = .pointer (some ⟨g, 0, none⟩)), (fun v _ => v = .int .i64 q), (fun v W => ∃ z, v = .slice (some ⟨z, 0, none⟩) q q ∧ w1.heap.size ≤ z ∧ Box W z AN 48), (fun v _ => v = undef)] (fun W W' hb h => by obtain ⟨S2, h1, h2⟩ := h; exact ⟨S2, h1.later hb, h2.later hb⟩) ?_ (fun vals => ?_) (fun vals W hfin hall => ?_) (by decide)
  · intro j v W W' hj hr h
    match j, hj, h with
    | 0, _, h => exact h
    | 1, _, h => exact h
    | 2, _, h => exact h
    | 3, _, h => exact h
    | 4, _, h => exact h
    | 5, _, h => exact h
    | 6, _, h => exact h
    | 7, _, h => exact h
    | 8, _, h => exact h
    | 9, _, h => exact h
    | 10, _, h => exact h
    | 11, _, h => obtain ⟨z, e1, e2, e3⟩ := h; exact ⟨z, e1, e2, by rcases hr with hr | hr; (exact e3.fr hr (fun hs => by have := HSO.out _ hs; omega)); (exact e3.later hr)⟩
    | 12, hj, _ => exact absurd rfl hj
    | _ + 13, _, _ => trivial
  · simp only [ObL, Act.put, List.setIfInBounds_toArray, List.set_cons_succ, List.set_cons_zero]
    refine ⟨?_, ?_, ?_, ?_, ?_, ?_, ?_, ?_, ?_, ?_, ?_, ?_, ?_, trivial⟩
    · intro LL W hL hk hC hw
      clear hw
      clear hL hC hk
      refine step_plain rfl ?_
      go_simp
      first | exact ⟨Re.same (by decide), Fe.val (by decide) rfl rfl⟩ | exact ⟨_, rfl, Re.same (by decide), Fe.val (by decide) rfl rfl⟩
    · intro LL W hL hk hC hw
      have f0 : vals 0 = .pointer (some ⟨t, 0, none⟩) := Fe.get (hw ⟨0, .data⟩ (by simp) rfl) (by decide)
      clear hw
      clear hL hC hk
      refine step_plain rfl ?_
      go_simp
      first | exact ⟨Re.same (by decide), Fe.val (by decide) rfl rfl⟩ | exact ⟨_, rfl, Re.same (by decide), Fe.val (by decide) rfl rfl⟩
    · intro LL W hL hk hC hw
      have f1 : vals 1 = .pointer (some ⟨t, 0, none⟩) := Fe.get (hw ⟨1, .data⟩ (by simp) rfl) (by decide)
      clear hw
      clear hL hC hk
      refine step_plain rfl ?_
      go_simp
      first | exact ⟨Re.same (by decide), Fe.val (by decide) rfl rfl⟩ | exact ⟨_, rfl, Re.same (by decide), Fe.val (by decide) rfl rfl⟩
    · intro LL W hL hk hC hw
      have f2 : vals 2 = .pointer (some ⟨t, 0, none⟩) := Fe.get (hw ⟨2, .data⟩ (by simp) rfl) (by decide)
      clear hw
      have hb := hC (hL.not_yet hk 12 8 (by decide +kernel))
      have kc : W.cell? ⟨t, 0, none⟩ = some (.pointer (some ⟨g, 0, none⟩)) := (X1.out.later hb).cell 0
      clear hL hC hk hb
      refine step_plain rfl ?_
      go_simp
      first | exact ⟨Re.same (by decide), Fe.val (by decide) rfl rfl⟩ | exact ⟨_, rfl, Re.same (by decide), Fe.val (by decide) rfl rfl⟩
    · intro LL W hL hk hC hw
      clear hw
      clear hL hC hk
      refine step_plain rfl ?_
      go_simp
      first | exact ⟨Re.same (by decide), Fe.val (by decide) rfl rfl⟩ | exact ⟨_, rfl, Re.same (by decide), Fe.val (by decide) rfl rfl⟩
    · intro LL W hL hk hC hw
      have f4 : vals 4 = .pointer (some ⟨t, 0, none⟩) := Fe.get (hw ⟨4, .data⟩ (by simp) rfl) (by decide)
      clear hw
      have hb := hC (hL.not_yet hk 12 8 (by decide +kernel))
      have CL := Lib.hid (CO.out W hb)
      clear hL hC hk hb
      refine step_plain rfl ?_
      go_simp
      (with_reducible refine CL.out.mono ?_)
      rintro e w8 ⟨rfl, hb8⟩
      first | exact ⟨Re.of (by decide) hb8, Fe.val (by decide) rfl rfl⟩ | exact ⟨_, rfl, Re.of (by decide) hb8, Fe.val (by decide) rfl rfl⟩
    · intro LL W hL hk hC hw
      clear hw
      clear hL hC hk
      refine step_plain rfl ?_
      go_simp
      first | exact ⟨Re.same (by decide), Fe.val (by decide) rfl rfl⟩ | exact ⟨_, rfl, Re.same (by decide), Fe.val (by decide) rfl rfl⟩
    · intro LL W hL hk hC hw
      have f6 : vals 6 = .pointer (some ⟨t, 0, none⟩) := Fe.get (hw ⟨6, .data⟩ (by simp) rfl) (by decide)
      clear hw
      clear hL hC hk
      refine step_plain rfl ?_
      go_simp
      first | exact ⟨Re.same (by decide), Fe.val (by decide) rfl rfl⟩ | exact ⟨_, rfl, Re.same (by decide), Fe.val (by decide) rfl rfl⟩
    · intro LL W hL hk hC hw
      have f7 : vals 7 = .pointer (some ⟨t, 0, none⟩) := Fe.get (hw ⟨7, .data⟩ (by simp) rfl) (by decide)
      clear hw
      clear hL hC hk
      refine step_plain rfl ?_
      go_simp
      first | exact ⟨Re.same (by decide), Fe.val (by decide) rfl rfl⟩ | exact ⟨_, rfl, Re.same (by decide), Fe.val (by decide) rfl rfl⟩
    · intro LL W hL hk hC hw
      have f8 : vals 8 = .pointer (some ⟨t, 0, none⟩) := Fe.get (hw ⟨8, .data⟩ (by simp) rfl) (by decide)
      clear hw
      have hb := hC (hL.not_yet hk 12 8 (by decide +kernel))
      have kc : W.cell? ⟨t, 0, none⟩ = some (.pointer (some ⟨g, 0, none⟩)) := (X1.out.later hb).cell 0
      clear hL hC hk hb
      refine step_plain rfl ?_
      go_simp
      first | exact ⟨Re.same (by decide), Fe.val (by decide) rfl rfl⟩ | exact ⟨_, rfl, Re.same (by decide), Fe.val (by decide) rfl rfl⟩
    · intro LL W hL hk hC hw
      have f9 : vals 9 = .pointer (some ⟨g, 0, none⟩) := Fe.get (hw ⟨9, .data⟩ (by simp) rfl) (by decide)
      clear hw
      have hb := hC (hL.not_yet hk 12 8 (by decide +kernel))
      have CL := Lib.hid (CS.out W hb)
      clear hL hC hk hb
      refine step_plain rfl ?_
      go_simp
      (with_reducible refine CL.out.mono ?_)
      rintro e w8 ⟨rfl, rfl⟩
      first | exact ⟨Re.same (by decide), Fe.val (by decide) rfl rfl⟩ | exact ⟨_, rfl, Re.same (by decide), Fe.val (by decide) rfl rfl⟩
    · intro LL W hL hk hC hw
      have f10 : vals 10 = .int .i64 q := Fe.get (hw ⟨10, .data⟩ (by simp) rfl) (by decide)
      clear hw
      have hb := hC (hL.not_yet hk 12 8 (by decide +kernel))
      have mk := MK W
      have hz := new_ (Below.refl W.heap.size W) (.cells AN 48)
      have hs := Lib.hid hb.size
      clear hL hC hk hb
      refine step_plain rfl ?_
      go_simp
      first | exact ⟨Re.of (by decide) hz, Fe.val (by decide) rfl ⟨_, rfl, hs.out, Box.new _ _ _⟩⟩ | exact ⟨_, rfl, Re.of (by decide) hz, Fe.val (by decide) rfl ⟨_, rfl, hs.out, Box.new _ _ _⟩⟩
    · intro LL W hL hk hC hw
      have f3 : vals 3 = .pointer (some ⟨g, 0, none⟩) := Fe.get (hw ⟨3, .data⟩ (by simp) rfl) (by decide)
      have f5 : vals 5 = .int .i64 F := Fe.get (hw ⟨5, .data⟩ (by simp) rfl) (by decide)
      have f11 : ∃ z, (vals 11) = .slice (some ⟨z, 0, none⟩) q q ∧ w1.heap.size ≤ z ∧ Box W z AN 48 := Fe.get (hw ⟨11, .data⟩ (by simp) rfl) (by decide)
      clear hw
      have hb := hC hk
      obtain ⟨z, e11, hz, bz⟩ := f11
      have CL := Lib.hid (clean_any (X2.out.later hb) (m + 701) HFW.out (by have := HM.out; omega) F (.slice (some ⟨z, 0, none⟩) q q) (nils q) (fun w' S' hm => nils_sr (by rw [HAN.out]; exact bz.fr hm.fr (fun hs => by have := HSO.out _ hs; omega)) (by have := HSZ.out; omega)) (nils_ok q) (by rw [nils_len]; exact HFIT.out))
      rw [nils_want, HD2.out] at CL
      have HB9 := Lib.hid hb
      clear hL hC hk hb bz
      refine step_plain rfl ?_
      go_simp
      (with_reducible refine CL.out.mono ?_)
      rintro e w8 ⟨rfl, S8, hd8, hm8⟩
      first | exact ⟨Re.last hm8.fr, Fe.last ⟨S8, hd8, (Mv.of_below HB9.out S).trans hm8⟩⟩ | exact ⟨_, rfl, Re.last hm8.fr, Fe.last ⟨S8, hd8, (Mv.of_below HB9.out S).trans hm8⟩⟩
  · simp only [TL, Act.put, List.setIfInBounds_toArray, List.set_cons_succ, List.set_cons_zero]
    obtain ⟨w3, rfl⟩ : ∃ w3, w3 = W := ⟨W, rfl⟩
    obtain ⟨S2, hd2, hm2⟩ := hfin
    have X3 := mv_box X1.out hm2 G5.out
    have HX3 := Lib.hid X3
    have HD3 := Lib.hid hd2
    have HM3 := Lib.hid hm2
    clear hall hd2 hm2 X3
    have nb := HX3.out.1
    have CE := Lib.hid (fun W' (hb : Below w3.heap.size w3 W') => end_any W' (nb.later hb) (by have := OK.out.ba; have := OK.out.nn; omega) (by have := OK.out.nn; omega))
    obtain ⟨st, hst⟩ : ∃ st, L.h.st = st := ⟨_, rfl⟩
    obtain ⟨ba, hba⟩ : ∃ ba, L.h.ba + (L.ys.length : Int) = ba := ⟨_, rfl⟩
    rw [hba] at CE
    obtain ⟨ar2, har2⟩ : ∃ ar2, 1 - L.h.ar = ar2 := ⟨_, rfl⟩
    have r1 : IntKind.u8.wrap (1 - L.h.ar) = ar2 := by have := OK.out.ok.ar; have := OK.out.ar; rw [IntKind.wrap_u8]; omega
    have HST := Lib.hid hst
    have HBA := Lib.hid hba
    have HAR := Lib.hid har2
    clear nb hst hba har2
    have HW0 := Lib.hid (show DX w3 S2 g fv D2 ∧ ¬ S2 t ∧ Mv w1 S w3 S2 from ⟨HD3.out, HX3.out.2, HM3.out⟩)
    go_upto_region 2 with fail
    refine wp_region_end (by kernel_rfl) (by kernel_rfl) 17 (fun W W' => Fr (fun x => x = t) W W') (fun V => Box V t #[.pointer (some ⟨g, 0, none⟩), .int .u64 st, .int .u8 ar2, .int .u64 ba, .int .u64 0, .int .i64 L.se, .slice A L.ys.length c, .slice At L.ss.length ct, .int .i64 (L.ys.length : Nat)] 89 ∧ Fr (fun x => x = t) w3 V) [(fun v _ => v = .pointer (some ⟨t, 0, none⟩)), (fun v _ => v = .pointer (some ⟨t, 0, none⟩)), (fun v _ => v = .pointer (some ⟨t, 0, none⟩)), (fun v _ => v = .pointer (some ⟨t, 1, none⟩)), (fun v _ => v = .pointer (some ⟨t, 1, none⟩)), (fun v _ => v = .int .u64 st), (fun v _ => v = .pointer (some ⟨t, 0, none⟩)), (fun v _ => v = .pointer (some ⟨t, 0, none⟩)), (fun v _ => v = .pointer (some ⟨t, 1, none⟩)), (fun v _ => v = .pointer (some ⟨t, 2, none⟩)), (fun v _ => v = .int .u8 L.h.ar), (fun v _ => v = .int .u8 ar2), (fun v _ => v = .pointer (some ⟨t, 0, none⟩)), (fun v _ => v = .int .u64 ba), (fun v _ => v = .agg #[.int .u64 st, .int .u8 ar2, .int .u64 ba, .int .u64 0]), (fun v _ => v = .pointer (some ⟨t, 0, none⟩)), (fun v _ => v = .pointer (some ⟨t, 1, none⟩)), (fun v _ => v = undef)] (fun W W' hb h => ⟨h.1.later hb, h.2.below hb⟩) ?_ (fun vals => ?_) (fun vals W hfin hall => ?_) (by decide)
    · intro j v W W' hj hr h
      match j, hj, h with
      | 0, _, h => exact h
      | 1, _, h => exact h
      | 2, _, h => exact h
      | 3, _, h => exact h
      | 4, _, h => exact h
      | 5, _, h => exact h
      | 6, _, h => exact h
      | 7, _, h => exact h
      | 8, _, h => exact h
      | 9, _, h => exact h
      | 10, _, h => exact h
      | 11, _, h => exact h
      | 12, _, h => exact h
      | 13, _, h => exact h
      | 14, _, h => exact h
      | 15, _, h => exact h
      | 16, _, h => exact h
      | 17, hj, _ => exact absurd rfl hj
      | _ + 18, _, _ => trivial
    · simp only [ObL, Act.put, List.setIfInBounds_toArray, List.set_cons_succ, List.set_cons_zero]
      refine ⟨?_, ?_, ?_, ?_, ?_, ?_, ?_, ?_, ?_, ?_, ?_, ?_, ?_, ?_, ?_, ?_, ?_, ?_, trivial⟩
      · intro LL W hL hk hC hw
        clear hw
        clear hL hC hk
        refine step_plain rfl ?_
        go_simp
        first | exact ⟨Re.same (by decide), Fe.val (by decide) rfl rfl⟩ | exact ⟨_, rfl, Re.same (by decide), Fe.val (by decide) rfl rfl⟩
      · intro LL W hL hk hC hw
        clear hw
        clear hL hC hk
        refine step_plain rfl ?_
        go_simp
        first | exact ⟨Re.same (by decide), Fe.val (by decide) rfl rfl⟩ | exact ⟨_, rfl, Re.same (by decide), Fe.val (by decide) rfl rfl⟩
      · intro LL W hL hk hC hw
        have f1 : vals 1 = .pointer (some ⟨t, 0, none⟩) := Fe.get (hw ⟨1, .data⟩ (by simp) rfl) (by decide)
        clear hw
        clear hL hC hk
        refine step_plain rfl ?_
        go_simp
        first | exact ⟨Re.same (by decide), Fe.val (by decide) rfl rfl⟩ | exact ⟨_, rfl, Re.same (by decide), Fe.val (by decide) rfl rfl⟩
      · intro LL W hL hk hC hw
        have f2 : vals 2 = .pointer (some ⟨t, 0, none⟩) := Fe.get (hw ⟨2, .data⟩ (by simp) rfl) (by decide)
        clear hw
        clear hL hC hk
        refine step_plain rfl ?_
        go_simp
        first | exact ⟨Re.same (by decide), Fe.val (by decide) rfl rfl⟩ | exact ⟨_, rfl, Re.same (by decide), Fe.val (by decide) rfl rfl⟩
      · intro LL W hL hk hC hw
        have f3 : vals 3 = .pointer (some ⟨t, 1, none⟩) := Fe.get (hw ⟨3, .data⟩ (by simp) rfl) (by decide)
        clear hw
        clear hL hC hk
        refine step_plain rfl ?_
        go_simp
        first | exact ⟨Re.same (by decide), Fe.val (by decide) rfl rfl⟩ | exact ⟨_, rfl, Re.same (by decide), Fe.val (by decide) rfl rfl⟩
      · intro LL W hL hk hC hw
        have f4 : vals 4 = .pointer (some ⟨t, 1, none⟩) := Fe.get (hw ⟨4, .data⟩ (by simp) rfl) (by decide)
        clear hw
        have hb := hC (hL.not_yet hk 17 8 (by decide +kernel))
        have kc : W.cell? ⟨t, 1, none⟩ = some (.int .u64 st) := by rw [← HST.out]; exact (HX3.out.1.later hb).cell 1
        clear hL hC hk hb
        refine step_plain rfl ?_
        go_simp
        first | exact ⟨Re.same (by decide), Fe.val (by decide) rfl rfl⟩ | exact ⟨_, rfl, Re.same (by decide), Fe.val (by decide) rfl rfl⟩
      · intro LL W hL hk hC hw
        clear hw
        clear hL hC hk
        refine step_plain rfl ?_
        go_simp
        first | exact ⟨Re.same (by decide), Fe.val (by decide) rfl rfl⟩ | exact ⟨_, rfl, Re.same (by decide), Fe.val (by decide) rfl rfl⟩
      · intro LL W hL hk hC hw
        have f6 : vals 6 = .pointer (some ⟨t, 0, none⟩) := Fe.get (hw ⟨6, .data⟩ (by simp) rfl) (by decide)
        clear hw
        clear hL hC hk
        refine step_plain rfl ?_
        go_simp
        first | exact ⟨Re.same (by decide), Fe.val (by decide) rfl rfl⟩ | exact ⟨_, rfl, Re.same (by decide), Fe.val (by decide) rfl rfl⟩
      · intro LL W hL hk hC hw
        have f7 : vals 7 = .pointer (some ⟨t, 0, none⟩) := Fe.get (hw ⟨7, .data⟩ (by simp) rfl) (by decide)
        clear hw
        clear hL hC hk
        refine step_plain rfl ?_
        go_simp
        first | exact ⟨Re.same (by decide), Fe.val (by decide) rfl rfl⟩ | exact ⟨_, rfl, Re.same (by decide), Fe.val (by decide) rfl rfl⟩
      · intro LL W hL hk hC hw
        have f8 : vals 8 = .pointer (some ⟨t, 1, none⟩) := Fe.get (hw ⟨8, .data⟩ (by simp) rfl) (by decide)
        clear hw
        clear hL hC hk
        refine step_plain rfl ?_
        go_simp
        first | exact ⟨Re.same (by decide), Fe.val (by decide) rfl rfl⟩ | exact ⟨_, rfl, Re.same (by decide), Fe.val (by decide) rfl rfl⟩
      · intro LL W hL hk hC hw
        have f9 : vals 9 = .pointer (some ⟨t, 2, none⟩) := Fe.get (hw ⟨9, .data⟩ (by simp) rfl) (by decide)
        clear hw
        have hb := hC (hL.not_yet hk 17 8 (by decide +kernel))
        have kc : W.cell? ⟨t, 2, none⟩ = some (.int .u8 L.h.ar) := (HX3.out.1.later hb).cell 2
        clear hL hC hk hb
        refine step_plain rfl ?_
        go_simp
        first | exact ⟨Re.same (by decide), Fe.val (by decide) rfl rfl⟩ | exact ⟨_, rfl, Re.same (by decide), Fe.val (by decide) rfl rfl⟩
      · intro LL W hL hk hC hw
        have f10 : vals 10 = .int .u8 L.h.ar := Fe.get (hw ⟨10, .data⟩ (by simp) rfl) (by decide)
        clear hw
        clear hL hC hk
        refine step_plain rfl ?_
        go_simp
        first | exact ⟨Re.same (by decide), Fe.val (by decide) rfl rfl⟩ | exact ⟨_, rfl, Re.same (by decide), Fe.val (by decide) rfl rfl⟩
      · intro LL W hL hk hC hw
        clear hw
        clear hL hC hk
        refine step_plain rfl ?_
        go_simp
        first | exact ⟨Re.same (by decide), Fe.val (by decide) rfl rfl⟩ | exact ⟨_, rfl, Re.same (by decide), Fe.val (by decide) rfl rfl⟩
      · intro LL W hL hk hC hw
        have f12 : vals 12 = .pointer (some ⟨t, 0, none⟩) := Fe.get (hw ⟨12, .data⟩ (by simp) rfl) (by decide)
        clear hw
        have hb := hC (hL.not_yet hk 17 8 (by decide +kernel))
        have CL := Lib.hid (CE.out W hb)
        clear hL hC hk hb
        refine step_plain rfl ?_
        go_simp
        (with_reducible refine CL.out.mono ?_)
        rintro e w8 ⟨rfl, rfl⟩
        first | exact ⟨Re.same (by decide), Fe.val (by decide) rfl rfl⟩ | exact ⟨_, rfl, Re.same (by decide), Fe.val (by decide) rfl rfl⟩
      · intro LL W hL hk hC hw
        have f5 : vals 5 = .int .u64 st := Fe.get (hw ⟨5, .data⟩ (by simp) rfl) (by decide)
        have f11 : vals 11 = .int .u8 ar2 := Fe.get (hw ⟨11, .data⟩ (by simp) rfl) (by decide)
        have f13 : vals 13 = .int .u64 ba := Fe.get (hw ⟨13, .data⟩ (by simp) rfl) (by decide)
        clear hw
        clear hL hC hk
        refine step_plain rfl ?_
        go_simp
        first | exact ⟨Re.same (by decide), Fe.val (by decide) rfl rfl⟩ | exact ⟨_, rfl, Re.same (by decide), Fe.val (by decide) rfl rfl⟩
      · intro LL W hL hk hC hw
        have f0 : vals 0 = .pointer (some ⟨t, 0, none⟩) := Fe.get (hw ⟨0, .data⟩ (by simp) rfl) (by decide)
        clear hw
        clear hL hC hk
        refine step_plain rfl ?_
        go_simp
        first | exact ⟨Re.same (by decide), Fe.val (by decide) rfl rfl⟩ | exact ⟨_, rfl, Re.same (by decide), Fe.val (by decide) rfl rfl⟩
      · intro LL W hL hk hC hw
        have f15 : vals 15 = .pointer (some ⟨t, 0, none⟩) := Fe.get (hw ⟨15, .data⟩ (by simp) rfl) (by decide)
        clear hw
        clear hL hC hk
        refine step_plain rfl ?_
        go_simp
        first | exact ⟨Re.same (by decide), Fe.val (by decide) rfl rfl⟩ | exact ⟨_, rfl, Re.same (by decide), Fe.val (by decide) rfl rfl⟩
      · intro LL W hL hk hC hw
        have f16 : vals 16 = .pointer (some ⟨t, 1, none⟩) := Fe.get (hw ⟨16, .data⟩ (by simp) rfl) (by decide)
        have f14 : vals 14 = .agg #[.int .u64 st, .int .u8 ar2, .int .u64 ba, .int .u64 0] := Fe.get (hw ⟨14, .data⟩ (by simp) rfl) (by decide)
        clear hw
        have hb := hC hk
        have bx := HX3.out.1.later hb
        have HB9 := Lib.hid hb
        have c1 : W.cell? ⟨t, 1, none⟩ = some (.int .u64 L.h.st) := bx.cell 1
        have f1 := bx.frozen 1
        have f2 := bx.frozen 2
        have f3 := bx.frozen 3
        have f4 := bx.frozen 4
        have c2 : W.cell? ⟨t, 2, none⟩ = some (.int .u8 L.h.ar) := bx.cell 2
        have c3 : W.cell? ⟨t, 3, none⟩ = some (.int .u64 L.h.ba) := bx.cell 3
        have c4 : W.cell? ⟨t, 4, none⟩ = some (.int .u64 L.h.ch) := bx.cell 4
        have b4 := (((bx.set_ 1 (.int .u64 st)).set_ 2 (.int .u8 ar2)).set_ 3 (.int .u64 ba)).set_ 4 (.int .u64 0)
        have f9 := ((((Fr.refl (fun x => x = t) W).setCell (p := ⟨t, 1, none⟩) (.inl rfl) (.int .u64 st)).setCell (p := ⟨t, 2, none⟩) (.inl rfl) (.int .u8 ar2)).setCell (p := ⟨t, 3, none⟩) (.inl rfl) (.int .u64 ba)).setCell (p := ⟨t, 4, none⟩) (.inl rfl) (.int .u64 0)
        simp only [List.setIfInBounds_toArray, List.set_cons_succ, List.set_cons_zero] at b4
        clear hL hC hk hb bx
        refine step_plain rfl ?_
        go_simp
        exact ⟨Re.last f9, undef, Fe.last ⟨b4, (Fr.of_below HB9.out).trans f9⟩⟩
    · simp only [TL, Act.put, List.setIfInBounds_toArray, List.set_cons_succ, List.set_cons_zero]
      obtain ⟨b4, f4⟩ := hfin
      clear hall
      have k6 := b4.cell 6
      have k7 := b4.cell 7
      have k8 := b4.cell 8
      have n6 := b4.frozen 6
      have n7 := b4.frozen 7
      have n8 := b4.frozen 8
      have b5 := ((b4.set_ 6 (.slice none 0 0)).set_ 7 (.slice none 0 0)).set_ 8 (.int .i64 0)
      simp only [List.setIfInBounds_toArray, List.set_cons_succ, List.set_cons_zero] at b5
      have f5 := (((Fr.refl (fun x => x = t) W).setCell (p := ⟨t, 6, none⟩) (.inl rfl) (.slice none 0 0)).setCell (p := ⟨t, 7, none⟩) (.inl rfl) (.slice none 0 0)).setCell (p := ⟨t, 8, none⟩) (.inl rfl) (.int .i64 0)
      obtain ⟨w5, hw5⟩ : ∃ w5, (((W.setCell ⟨t, 6, none⟩ (.slice none 0 0)).setCell ⟨t, 7, none⟩ (.slice none 0 0)).setCell ⟨t, 8, none⟩ (.int .i64 0)) = w5 := ⟨_, rfl⟩
      rw [hw5] at b5 f5
      have hd5 := (HW0.out.1.far f4 (fun x hx e => HW0.out.2.1 (e ▸ hx))).far f5 (fun x hx e => HW0.out.2.1 (e ▸ hx))
      have CH := Lib.hid (head_any hd5 HCF.out t ⟨st, ar2, ba, 0⟩ L.se 0 _ _ b5 HW0.out.2.1 (by
        have h1 := OK.out
        have := h1.ok.st; have := h1.st; have := h1.ok.ar; have := h1.ar; have := h1.ba; have := h1.nn; have := HST.out; have := HBA.out; have := HAR.out
        exact ⟨by dsimp only; omega, by dsimp only; omega, by dsimp only; omega, by dsimp only; omega⟩) (by have := OK.out.st; have := HST.out; dsimp only; omega) OK.out.se HCL.out)
      have HF5 := Lib.hid (f4.trans f5)
      clear b4 f4 b5 f5 hd5
      go_wp2_with fail
      (with_reducible refine CH.out.mono ?_)
      rintro e w6 ⟨rfl, c1, S6, c2, c3, c4, c5⟩
      have C1 := Lib.hid c1
      have C2 := Lib.hid c2
      have C3 := Lib.hid c3
      have C4 := Lib.hid c4
      have C5 := Lib.hid c5
      clear c1 c2 c3 c4 c5
      go_wp2
      go_end0
      obtain ⟨p3, p4, p6, p7, p8, p9⟩ := P.out
      obtain ⟨d1, d2, d3⟩ := HW0.out
      have z1 := d3.fr.size
      have z2 := HF5.out.size
      have z3 := C3.out.size
      have fT : Fr T w w6 := fr_grow HF1.out ((d3.fr.mono (fun x _ hx => p8 x hx)).trans' ((HF5.out.mono (S' := fun x => S2 x ∨ x = t) (fun _ _ hx => .inr hx)).trans C3.out) (fun x hx hx2 => by
        rcases hx2 with h | h
        · exact p8 x ((d3.new x h).resolve_right (by omega))
        · rw [h]; exact p9))
      have e1 : rnL L = ⟨⟨st + 1, ar2, ba, 0⟩, 1 - L.se, [], [], 0⟩ := by unfold rnL; rw [HST.out, HBA.out, HAR.out]
      rw [HST.out, HBA.out, HAR.out, e1]
      have z0 := HF1.out.size
      refine ⟨rfl, ⟨S6, none, 0, none, 0, C1.out, C2.out, World.ownsRow_nil _ _ _ _, World.ownsRow_nil _ _ _ _, C5.out, (fun k hk => by cases hk), (fun k hk => by cases hk), fun x hx => ?_, ?_⟩, fT⟩
      · rcases C4.out x hx with h | h
        · rcases d3.new x h with h' | h'
          · rcases p8 x h' with h2 | h2
            · exact .inl h2
            · exact .inr ⟨h2.1, by omega⟩
          · exact .inr ⟨by omega, C2.out.old x hx⟩
        · exact .inr ⟨by omega, C2.out.old x hx⟩
      · rcases p9 with h2 | h2
        · exact .inl h2
        · exact .inr ⟨h2.1, by omega⟩
end
end Go.Proofs.Yteggcehjpfmikaa.Wal
