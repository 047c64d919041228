/- The law manciplelaw06.RecOnly returns true whatever it is called with, and what it was called with reads as it did. No condition. -/
import Derived.Test.YtbbphfhkedldmaaLaw
import Derived.Test.YtbbphfhkedldmaaRecX
import Derived.Test.YtbbphfhkedldmaaRecJ
namespace Go.Proofs.Ytbbphfhkedldmaa.LRecOnly
open Go.ChangeShapes Go.WideShapes Go.ChangeAt Go.RowKit Go.IntWalk Go.Proofs.Mem Law
set_option linter.unusedVariables false
open NumBytes CrcA Rec
set_option linter.unusedSimpArgs false
theorem resD_no {xs : List Int} {er : Int} (h : resD xs = (none, er)) : er = 60 ∨ er = 61 := by
  unfold resD at h
  split at h
  · injection h with _ h; exact .inl h.symm
  split at h
  · injection h with _ h; exact .inl h.symm
  cases e : rDec (xs.take (lenB xs)) with
  | none => rw [e] at h; injection h with _ h; exact .inr h.symm
  | some r => rw [e] at h; injection h with h _; cases h
theorem own_form {W : World} {base : Nat} {e : TypeId} {size : Nat} {v : Value} {k : Nat} {xs : List Value} (h : W.ownsRow base e size v k xs) (hk : 0 < k) : ∃ g cap, v = .slice (some ⟨g, 0, none⟩) k cap ∧ base ≤ g := by
  rcases h.2 with ⟨_, h0⟩ | ⟨g, cap, _, e1, hg, _⟩
  · omega
  · exact ⟨g, cap, e1, hg⟩
theorem own_ir {W : World} {b E : Nat} {v : Value} {xs : List Int} (h : W.ownsRow b 5 1 v E (xs.map (.int .u8))) (hl : xs.length = E) : IR W W.heap.size .u8 v xs := by
  subst hl; exact IR.of_own h
theorem byt_set {xs : List Int} (h : Bytes xs) {i : Nat} {y : Int} (hy : 0 ≤ y ∧ y ≤ 255) : Bytes (xs.set i y) := fun x hx => by
  rcases List.mem_or_eq_of_mem_set hx with h1 | h1
  · exact h x h1
  · rw [h1]; exact hy
set_option maxRecDepth 100000 in
set_option maxHeartbeats 16000000 in
theorem walk (w : World) (b : Value) (xb : List Int) (hb : IR w w.heap.size .u8 b xb) (bb : Bytes xb) (k : Int) (hk : -9223372036854775808 ≤ k ∧ k ≤ 9223372036854775807) (c : Int) (hc : 0 ≤ c ∧ c ≤ 255) :
    Calls Try.prog 6 #[b, .int .i64 k, .int .u8 c] w fun e w' => e = .returned (.bool true) ∧ Below w.heap.size w w' := by
  obtain ⟨A1, c1, e1, hl1, hm1⟩ := hb.form
  subst e1
  unfold maxLen at hm1
  obtain ⟨L, hL⟩ : ∃ n, n = xb.length := ⟨_, rfl⟩
  rw [← hL] at hb hl1 ⊢
  obtain ⟨q2, hq2⟩ : ∃ q, q = decide (3000 < L) := ⟨_, rfl⟩
  have d2 : decide ((3000 : Int) < (L : Int)) = q2 := by rw [hq2, decide_eq_decide]; omega
  have HLEN := Lib.hid (show q2 = false → L ≤ 3000 from fun h => by rw [hq2] at h; simpa using h)
  have HLM := Lib.hid hL
  have HB0 := Lib.hid hb
  have HBB := Lib.hid bb
  clear hq2 hL hb bb
  go_enter Try.func6, Try.ntmps6
  go_wp2_with (go_at_call 10; (with_reducible refine (known_any _).mono ?_); rintro e w2 ⟨rfl, hb2⟩; have HW2 := Lib.hid hb2; clear hb2)
  all_goals first
    | (go_ret; exact ⟨rfl, HW2.out⟩)
    | skip
  have hL3 : L ≤ 3000 := HLEN.out (by simpa using (show ¬ q2 = true by assumption))
  clear d2
  have DA := Lib.hid (decode_all_any w2 _ xb ((HB0.out.below HW2.out).more HW2.out.size) HBB.out (by have := HLM.out; omega))
  rcases hz : resD xb with ⟨o, er⟩
  cases o with
  | none =>
    (with_reducible refine DA.out.mono ?_)
    rintro e w3 h
    unfold DecodePost at h
    rw [hz] at h
    obtain ⟨rfl, hb3⟩ := h
    have HW3 := Lib.hid (step_ HW2.out hb3)
    clear hb3
    rcases resD_no hz with rfl | rfl
    · go_wp2
      go_ret
      exact ⟨rfl, new_ HW3.out _⟩
    · go_wp2
      go_ret
      exact ⟨rfl, new_ HW3.out _⟩
  | some r =>
    obtain ⟨rfl, hr, hm, ht, hle, hln⟩ := resD_inv hz HBB.out
    (with_reducible refine DA.out.mono ?_)
    rintro e w3 h
    unfold DecodePost at h
    rw [hz] at h
    obtain ⟨sa, sb, st, sd, rfl, ro, hb3⟩ := h
    obtain ⟨B1, l1, e1, _, _⟩ := ro.in_.a.form
    obtain ⟨B2, l2, e2, _, _⟩ := ro.in_.b.form
    obtain ⟨B3, l3, e3, _, _⟩ := ro.in_.t.form
    obtain ⟨B4, l4, e4, _, _⟩ := ro.in_.d.form
    subst e1 e2 e3 e4
    have hemin := enc_min r hm
    obtain ⟨E, hE⟩ : ∃ E, E = (encS r).length := ⟨_, rfl⟩
    have heE : lenB xb = E := by rw [hE]; exact hln
    rw [heE]
    have HEX := Lib.hid (show xb.take E = encS r by rw [← heE]; exact ht)
    have hEL : E ≤ L := by rw [HLM.out, ← heE]; exact hle
    rw [← hE] at hemin
    have HE := Lib.hid hE
    have RO3 := Lib.hid ro.in_
    have HW3 := Lib.hid (step_ HW2.out hb3)
    have BX4 := Lib.hid (Box.new w3 (rcV r (.slice B1 r.c.xs.length l1) (.slice B2 r.c.ys.length l2) (.slice B3 r.ts.length l3) (.slice B4 r.ds.length l4)) 31)
    have HW4 := Lib.hid (new_ HW3.out (.cells (rcV r (.slice B1 r.c.xs.length l1) (.slice B2 r.c.ys.length l2) (.slice B3 r.ts.length l3) (.slice B4 r.ds.length l4)) 31))
    have RO4 := Lib.hid ((RO3.out.alloc (Nat.le_refl _) (.cells (rcV r (.slice B1 r.c.xs.length l1) (.slice B2 r.c.ys.length l2) (.slice B3 r.ts.length l3) (.slice B4 r.ds.length l4)) 31)))
    have HS4 := Lib.hid (new_ (Below.refl w3.heap.size w3) (.cells (rcV r (.slice B1 r.c.xs.length l1) (.slice B2 r.c.ys.length l2) (.slice B3 r.ts.length l3) (.slice B4 r.ds.length l4)) 31)).size
    have k4 := BX4.out.cell
    clear hb3 ro ht hle hln heE hE
    go_wp2_with fail
    (with_reducible refine (encode_yes r hr hm _ _ _ _ _ _ HS4.out RO4.out).mono ?_)
    rintro e w5 ⟨u5, rfl, o5, hb5⟩
    obtain ⟨g5, c5, rfl, hg5⟩ := own_form o5 (by have := HE.out; omega)
    have O5 := Lib.hid o5
    have HW5 := Lib.hid (step_ HW4.out hb5)
    have I5 := Lib.hid ((IR.of_own o5))
    have IB5 := Lib.hid (show IR w5 w5.heap.size .u8 (.slice A1 E c1) (encS r) from by rw [← HEX.out]; exact ((HB0.out.below HW5.out).more HW5.out.size).take hEL)
    have dEL : decide ((L : Int) < (E : Int)) = false := by simp; omega
    clear hb5 o5
    rw [← HE.out]
    have O51 := Lib.hid (show w5.ownsRow (w3.alloc (.cells (rcV r (.slice B1 r.c.xs.length l1) (.slice B2 r.c.ys.length l2) (.slice B3 r.ts.length l3) (.slice B4 r.ds.length l4)) 31)).heap.size 5 1 (.slice (some ⟨g5, 0, none⟩) E c5) E ((encS r).map (.int .u8)) from by have := O5.out; rw [← HE.out] at this; exact this)
    have I51 := Lib.hid (show IR w5 w5.heap.size .u8 (.slice (some ⟨g5, 0, none⟩) E c5) (encS r) from by have := I5.out; rw [← HE.out] at this; exact this)
    have hEi : (27 : Int) ≤ (E : Int) := by omega
    have hE2 : ¬ ((E : Int) - 2 = 0) := by omega
    have wE2 : IntKind.i64.wrap ((E : Int) - 2) = (E : Int) - 2 := i64_in _ (by omega)
    have hc0 := hc
    clear hc
    by_cases hk0 : k < 0
    · have hk1 : ¬ (0 ≤ k) := by omega
      
      have hM2 : 2 ≤ 2 := by omega
      have hMl : 2 < (encS r).length := by have := HE.out; omega
      have hc : w5.cell? ⟨g5, 2, none⟩ = some (.int .u8 ((encS r).getD (2) 0)) := by
        rw [O51.out.cellAt (2) (by have := HE.out; omega), List.getElem?_map, List.getElem?_eq_getElem hMl, List.getD_eq_getElem?_getD, List.getElem?_eq_getElem hMl]; rfl
      have hf : w5.frozen? ⟨g5, 2, none⟩ = false := O51.out.frozenAt (2)
      have hst := O51.out.stored (2) (.int .u8 c)
      rw [← List.map_set] at hst
      have HST := Lib.hid hst.1
      have HG5 := Lib.hid (Nat.le_trans HW4.out.size hg5)
      clear hst
      obtain ⟨y, hy⟩ : ∃ y, y = (encS r).getD (2) 0 := ⟨_, rfl⟩
      rw [← hy] at hc
      have HY := Lib.hid hy
      obtain ⟨qs, hqs⟩ : ∃ q, q = decide (y = c) := ⟨_, rfl⟩
      have dq : (y == c) = qs := by rw [hqs, Bool.eq_iff_iff]; simp
      have HQ := Lib.hid hqs
      clear hy hqs
      have DA2 := Lib.hid (fun W (h : W.ownsRow w.heap.size 5 1 (.slice (some ⟨g5, 0, none⟩) E c5) E (((encS r).set (2) c).map (.int .u8))) => decode_all_any W (.slice (some ⟨g5, 0, none⟩) E c5) ((encS r).set (2) c) (own_ir h (by rw [List.length_set, ← HE.out])) (byt_set (enc_bytes r hr) hc0) (by rw [List.length_set, ← HE.out]; omega))
      have hqe : qs = true ∨ qs = false := by cases qs <;> simp
      rcases hqe with rfl | rfl
      · have hyc : y = c := by simpa using HQ.out.symm
        have ers : resD ((encS r).set (2) c) = (some r, 0) ∧ lenB ((encS r).set (2) c) = E := by
          rw [← hyc, HY.out, set_getD _ _ hMl]
          have := resD_enc r hr hm []
          rw [List.append_nil, ← HE.out] at this
          exact this
        have RS := Lib.hid ers
        clear ers hyc
        go_wp2_with (go_at_call 14; (with_reducible refine (same_any _ _ (encS r) (encS r) _ _ _ I51.out IB5.out (enc_bytes r hr) (enc_bytes r hr)).mono ?_); rintro e w6 ⟨rfl, rfl⟩)
        (with_reducible refine (DA2.out _ (own_lower HST.out (Nat.le_trans HW3.out.size HS4.out))).mono ?_)
        rintro e w7 h
        unfold DecodePost at h
        rw [RS.out.1, RS.out.2] at h
        obtain ⟨sa, sb, st, sd, rfl, ro, hb7⟩ := h
        obtain ⟨F1, m1, e1, _, _⟩ := ro.in_.a.form
        obtain ⟨F2, m2, e2, _, _⟩ := ro.in_.b.form
        obtain ⟨F3, m3, e3, _, _⟩ := ro.in_.t.form
        obtain ⟨F4, m4, e4, _, _⟩ := ro.in_.d.form
        subst e1 e2 e3 e4
        have HW7 := Lib.hid (step_ (HW5.out.setCell (p := ⟨g5, 2, none⟩) HG5.out (.int .u8 c)) hb7)
        clear hb7 ro
        go_wp2
        go_ret
        exact ⟨rfl, new_ HW7.out _⟩
      · have hyc : ¬ y = c := by simpa using HQ.out.symm
        have ers : resD ((encS r).set (2) c) = (none, 61) := resD_turn r hr hm (2) c hc0 hM2 hMl (by rw [← HY.out]; exact hyc)
        have RS := Lib.hid ers
        clear ers hyc
        go_wp2_with (go_at_call 14; (with_reducible refine (same_any _ _ (encS r) (encS r) _ _ _ I51.out IB5.out (enc_bytes r hr) (enc_bytes r hr)).mono ?_); rintro e w6 ⟨rfl, rfl⟩)
        (with_reducible refine (DA2.out _ (own_lower HST.out (Nat.le_trans HW3.out.size HS4.out))).mono ?_)
        rintro e w7 h
        unfold DecodePost at h
        rw [RS.out] at h
        obtain ⟨rfl, hb7⟩ := h
        have HW7 := Lib.hid (step_ (HW5.out.setCell (p := ⟨g5, 2, none⟩) HG5.out (.int .u8 c)) hb7)
        clear hb7
        go_wp2
        go_ret
        exact ⟨rfl, new_ HW7.out _⟩
    · have hk1 : 0 ≤ k := by omega
      have bm0 : (0 : Int) ≤ k % ((E : Int) - 2) := Int.emod_nonneg k (by omega)
      have bm2 : k % ((E : Int) - 2) < (E : Int) - 2 := Int.emod_lt_of_pos k (by omega)
      have hM2 : 2 ≤ (2 + k % ((E : Int) - 2)).toNat := by omega
      have hMl : (2 + k % ((E : Int) - 2)).toNat < (encS r).length := by have := HE.out; omega
      have hc : w5.cell? ⟨g5, (2 + k % ((E : Int) - 2)).toNat, none⟩ = some (.int .u8 ((encS r).getD ((2 + k % ((E : Int) - 2)).toNat) 0)) := by
        rw [O51.out.cellAt ((2 + k % ((E : Int) - 2)).toNat) (by have := HE.out; omega), List.getElem?_map, List.getElem?_eq_getElem hMl, List.getD_eq_getElem?_getD, List.getElem?_eq_getElem hMl]; rfl
      have hf : w5.frozen? ⟨g5, (2 + k % ((E : Int) - 2)).toNat, none⟩ = false := O51.out.frozenAt ((2 + k % ((E : Int) - 2)).toNat)
      have hst := O51.out.stored ((2 + k % ((E : Int) - 2)).toNat) (.int .u8 c)
      rw [← List.map_set] at hst
      have HST := Lib.hid hst.1
      have HG5 := Lib.hid (Nat.le_trans HW4.out.size hg5)
      clear hst
      obtain ⟨y, hy⟩ : ∃ y, y = (encS r).getD ((2 + k % ((E : Int) - 2)).toNat) 0 := ⟨_, rfl⟩
      rw [← hy] at hc
      have HY := Lib.hid hy
      obtain ⟨qs, hqs⟩ : ∃ q, q = decide (y = c) := ⟨_, rfl⟩
      have dq : (y == c) = qs := by rw [hqs, Bool.eq_iff_iff]; simp
      have HQ := Lib.hid hqs
      clear hy hqs
      have DA2 := Lib.hid (fun W (h : W.ownsRow w.heap.size 5 1 (.slice (some ⟨g5, 0, none⟩) E c5) E (((encS r).set ((2 + k % ((E : Int) - 2)).toNat) c).map (.int .u8))) => decode_all_any W (.slice (some ⟨g5, 0, none⟩) E c5) ((encS r).set ((2 + k % ((E : Int) - 2)).toNat) c) (own_ir h (by rw [List.length_set, ← HE.out])) (byt_set (enc_bytes r hr) hc0) (by rw [List.length_set, ← HE.out]; omega))
      have hqe : qs = true ∨ qs = false := by cases qs <;> simp
      rcases hqe with rfl | rfl
      · have hyc : y = c := by simpa using HQ.out.symm
        have ers : resD ((encS r).set ((2 + k % ((E : Int) - 2)).toNat) c) = (some r, 0) ∧ lenB ((encS r).set ((2 + k % ((E : Int) - 2)).toNat) c) = E := by
          rw [← hyc, HY.out, set_getD _ _ hMl]
          have := resD_enc r hr hm []
          rw [List.append_nil, ← HE.out] at this
          exact this
        have RS := Lib.hid ers
        clear ers hyc
        go_wp2_with (go_at_call 14; (with_reducible refine (same_any _ _ (encS r) (encS r) _ _ _ I51.out IB5.out (enc_bytes r hr) (enc_bytes r hr)).mono ?_); rintro e w6 ⟨rfl, rfl⟩)
        (with_reducible refine (DA2.out _ (own_lower HST.out (Nat.le_trans HW3.out.size HS4.out))).mono ?_)
        rintro e w7 h
        unfold DecodePost at h
        rw [RS.out.1, RS.out.2] at h
        obtain ⟨sa, sb, st, sd, rfl, ro, hb7⟩ := h
        obtain ⟨F1, m1, e1, _, _⟩ := ro.in_.a.form
        obtain ⟨F2, m2, e2, _, _⟩ := ro.in_.b.form
        obtain ⟨F3, m3, e3, _, _⟩ := ro.in_.t.form
        obtain ⟨F4, m4, e4, _, _⟩ := ro.in_.d.form
        subst e1 e2 e3 e4
        have HW7 := Lib.hid (step_ (HW5.out.setCell (p := ⟨g5, (2 + k % ((E : Int) - 2)).toNat, none⟩) HG5.out (.int .u8 c)) hb7)
        clear hb7 ro
        go_wp2
        go_ret
        exact ⟨rfl, new_ HW7.out _⟩
      · have hyc : ¬ y = c := by simpa using HQ.out.symm
        have ers : resD ((encS r).set ((2 + k % ((E : Int) - 2)).toNat) c) = (none, 61) := resD_turn r hr hm ((2 + k % ((E : Int) - 2)).toNat) c hc0 hM2 hMl (by rw [← HY.out]; exact hyc)
        have RS := Lib.hid ers
        clear ers hyc
        go_wp2_with (go_at_call 14; (with_reducible refine (same_any _ _ (encS r) (encS r) _ _ _ I51.out IB5.out (enc_bytes r hr) (enc_bytes r hr)).mono ?_); rintro e w6 ⟨rfl, rfl⟩)
        (with_reducible refine (DA2.out _ (own_lower HST.out (Nat.le_trans HW3.out.size HS4.out))).mono ?_)
        rintro e w7 h
        unfold DecodePost at h
        rw [RS.out] at h
        obtain ⟨rfl, hb7⟩ := h
        have HW7 := Lib.hid (step_ (HW5.out.setCell (p := ⟨g5, (2 + k % ((E : Int) - 2)).toNat, none⟩) HG5.out (.int .u8 c)) hb7)
        clear hb7
        go_wp2
        go_ret
        exact ⟨rfl, new_ HW7.out _⟩


set_option maxRecDepth 100000 in
theorem lifted (os : Os) (started : os.Started) (H : Type) (enc : TypeId × Value → H) :
    ReturnsInHanded {} Try.checked os 6 .any (Rows.recOnlySpec.pre6 enc Try.prog Try.f6 Rows.recOnlyRow.domain false) (Rows.recOnlySpec.post enc Try.prog Try.f6 false true false false) := by
  refine returnsInHanded_of_change (C := Try.checked) own started (by kernel_rfl) Try.func6
    (ChangeSpec.witness6 (enc := enc) (C := Try.checked) false ⟨#[], #[.slice none 0 0, .int .i64 0, .int .u8 0], []⟩ 8 (by kernel_rfl) (by kernel_rfl) (by kernel_rfl) (by kernel_rfl)) ?_
  intro W base args ds gs before hval0 hW hcnd _
  have hval : ∀ (j : Nat) t v, Try.f6.params[j]? = some t → args[j]? = some v → Value.okWide Try.prog W .any base t v := hval0
  have hW' := hW
  obtain ⟨p, q, hA0, hV, rfl, hfz, hnd⟩ := hW
  have hA1 : DataW.TrodAll enc Try.prog W 0 (fun _ => true) true Try.f6.params.toList args.toList ds p := hA0
  have hA := hA1
  rw [Try.params6] at hA hval
  obtain ⟨v0, vs0, d0, ds0, p0, q0, hargs, rfl, rfl, h0, r0⟩ := trodAll_cons hA
  obtain ⟨v1, vs1, d1, ds1, p1, q1, rfl, rfl, rfl, h1, r1⟩ := trodAll_cons r0
  obtain ⟨v2, vs2, d2, ds2, p2, q2, rfl, rfl, rfl, h2, r2⟩ := trodAll_cons r1
  obtain ⟨rfl, rfl, rfl⟩ := trodAll_nil r2
  obtain rfl : args = #[v0, v1, v2] := by cases args; simp_all
  obtain ⟨rfl, rfl⟩ := trodVars_none hV
  obtain ⟨xb, i0, wf0⟩ := open_IR Try.underlying25 Try.underlying5 (by kernel_rfl) (hval 0 25 v0 rfl rfl) h0
  obtain ⟨k, rfl, rfl, rfl, wf1⟩ := open_int Try.underlying3 (hval 1 3 v1 rfl rfl) h1
  obtain ⟨c, rfl, rfl, rfl, wf2⟩ := open_int Try.underlying5 (hval 2 5 v2 rfl rfl) h2
  clear hA0 hval0
  refine (walk W v0 xb i0 (fun n hn => bounds_u8 (wf0 n hn)) k (bounds_i64 wf1) c (bounds_u8 wf2)).mono fun e W' ⟨he, bel⟩ => ?_
  subst he
  exact ⟨_, rfl, _, _, _, [], _, [], hW', trodAll_mk1 (shut_bool Try.underlying4 _), args_again laidOut bel (by kernel_rfl) hA1, rfl, bel.frame _, fun h => by cases h⟩

theorem over : Rows.recOnlyRow.holds Try.pinned (OpenSpec.ofChange Rows.recOnlySpec) :=
  OpenClaim.holds_of_wide 6 Try.f6 rfl rfl rfl rfl rfl rfl rfl ⟨rfl, rfl, rfl, rfl, rfl⟩ rfl rfl rfl rfl rfl (by kernel_rfl) Try.func6 (by kernel_rfl)
    (of_decide_eq_true (by kernel_rfl)) (by unfold Func.isWrapper; first | (rw [if_pos (by decide +kernel)]; kernel_rfl) | (rw [if_neg (by decide +kernel)]; exact ⟨rfl, rfl⟩))
    (fun os started H enc _ => lifted os started H enc)

theorem proved : Rows.RecOnlySaid := over
end Go.Proofs.Ytbbphfhkedldmaa.LRecOnly
