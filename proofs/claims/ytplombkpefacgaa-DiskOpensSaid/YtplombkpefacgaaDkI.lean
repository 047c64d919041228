import Derived.Test.YtplombkpefacgaaDkH
import Derived.Test.YtplombkpefacgaaEachC
/- plays. -/
namespace Go.Proofs.Ytplombkpefacgaa.Disk
open Go.ChangeShapes Go.WideShapes Go.ChangeAt Go.RowKit Go.IntWalk Go.Proofs.Mem Go.Proofs.Each Law
set_option linter.unusedVariables false
set_option linter.unusedSimpArgs false
/-- a call -/
structure Opn where
  k : Int
  f : Int
  s : Int
  xs : List Int
  fs : List Ft
def Opn.Ok (o : Opn) : Prop := (0 ≤ o.k ∧ o.k ≤ 255) ∧ (0 ≤ o.f ∧ o.f ≤ 255) ∧ (-9223372036854775808 ≤ o.s ∧ o.s ≤ 9223372036854775807) ∧ Bytes o.xs ∧ ∀ x ∈ o.fs, x.Ok
@[reducible] def opC (o : Opn) (a b : Value) : Array Value := #[.int .u8 o.k, .int .u8 o.f, .int .i64 o.s, a, b]
def plD (D : Dv) (o : Opn) : Dv := if o.k % 9 < 3 then D.wrA o.f.toNat o.s (fullS o.xs) else if o.k % 9 = 3 then D.wrA o.f.toNat o.s o.xs else if o.k % 9 = 5 then D.synA o.f.toNat else D
def plB (D : Dv) (o : Opn) : Bool := if o.k % 9 < 3 then decide (D.wrE o.f.toNat o.s 128 = 0) else if o.k % 9 = 3 then decide (D.wrE o.f.toNat o.s o.xs.length = 0) else true
set_option maxRecDepth 100000 in
set_option maxHeartbeats 16000000 in
theorem plays_any {w : World} {S : Nat → Prop} {b : Nat} {D : Dv} {col : Nat → Nat} {fv : Nat → Value} {uv : Nat → List Pl} (h : DA w S b D col fv uv) (hw : ∀ k, k < 2 → ∀ s ∈ D.f k, s.wait.length ≤ 100000) (o : Opn) (ho : o.Ok) (a lb : Value)
    (hdf : ∀ w', Fr S w w' → IR w' w'.heap.size .u8 a o.xs) (hlb : ∃ A L c, lb = .slice A L c) :
    Calls Try.prog 29 #[.pointer (some ⟨b, 0, none⟩), .agg (opC o a lb)] w fun e w' => e = .returned (.bool (plB D o)) ∧ (∃ col' uv', DA w' (growS w w' S) b (plD D o) col' fv uv') ∧ Fr S w w' := by
  obtain ⟨f, hfi⟩ : ∃ f : Nat, o.f = f := ⟨o.f.toNat, by have := ho.2.1; omega⟩
  have hfn : o.f.toNat = f := by omega
  have hf255 : f ≤ 255 := by have := ho.2.1; omega
  obtain ⟨A1, c1, ea, hla, hca⟩ := (hdf w (Fr.refl _ _)).form
  obtain ⟨B2, L2, c2, rfl⟩ := hlb
  obtain ⟨L1, hL1⟩ : ∃ L, L = o.xs.length := ⟨_, rfl⟩
  rw [← hL1] at ea
  subst ea
  have HFI := Lib.hid hfi
  have HF := Lib.hid hf255
  have HWT := Lib.hid hw
  have HXB := Lib.hid ho.2.2.2.1
  have HH := Lib.hid h
  have HDF := Lib.hid hdf
  have HL1 := Lib.hid hL1
  obtain ⟨w1, hw1⟩ : ∃ w1, w1 = w.alloc (.cells (opC o (.slice A1 L1 c1) (.slice B2 L2 c2)) 33) := ⟨_, rfl⟩
  have hbw : Below w.heap.size w w1 := by rw [hw1]; exact new_ (Below.refl _ _) _
  have BO1 := Lib.hid (show Box w1 w.heap.size (opC o (.slice A1 L1 c1) (.slice B2 L2 c2)) 33 by rw [hw1]; exact Box.new _ _ _)
  have HB1 := Lib.hid hbw
  have HD1 := Lib.hid (h.later hbw)
  have IX1 := Lib.hid (hdf w1 (Fr.of_below hbw))
  have kb := BO1.out.cell
  have hm9 : o.k.tmod 9 = o.k % 9 := Int.tmod_eq_emod_of_nonneg ho.1.1
  have hmr : 0 ≤ o.k % 9 ∧ o.k % 9 < 9 := by omega
  obtain ⟨m, hm⟩ : ∃ m, m = o.k % 9 := ⟨_, rfl⟩
  rw [← hm] at hm9 hmr
  have HM := Lib.hid hm
  have HFN := Lib.hid hfn
  have finish : ∀ (W : World) (D2 : Dv), (∃ col' uv', DA W (growS w1 W S) b D2 col' fv uv') ∧ Fr S w1 W → (∃ col' uv', DA W (growS w W S) b D2 col' fv uv') ∧ Fr S w W := fun W D2 hz => by
    obtain ⟨⟨c9, u9, h9⟩, f9⟩ := hz
    exact ⟨⟨c9, u9, h9.mono (fun x hx => by rcases hx with hx | hx; (exact .inl hx); (exact .inr ⟨Nat.le_trans HB1.out.size hx.1, hx.2⟩)) (fun x hx => by rcases hx with hx | hx; (exact Nat.lt_of_lt_of_le (HH.out.old x hx) (Nat.le_trans HB1.out.size f9.size)); (exact hx.2))⟩, Fr.sub (Fr.of_below HB1.out) f9 (fun x _ hs => hs)⟩
  have FN := Lib.hid finish
  clear h hw ho hdf hla hca hfi hf255 hL1 hbw hm hfn finish
  by_cases h3 : m < 3
  · have e1 : plD D o = D.wrA f o.s (fullS o.xs) := by unfold plD; rw [← HM.out, if_pos h3, HFN.out]
    have e2 : plB D o = decide (D.wrE f o.s 128 = 0) := by unfold plB; rw [← HM.out, if_pos h3, HFN.out]
    rw [e1, e2]
    obtain ⟨D2, hD2⟩ : ∃ D2, D2 = D.wrA f o.s (fullS o.xs) := ⟨_, rfl⟩
    obtain ⟨E, hE⟩ : ∃ E, E = D.wrE f o.s 128 := ⟨_, rfl⟩
    obtain ⟨q, hq⟩ : ∃ q, q = decide (E = 0) := ⟨_, rfl⟩
    rw [← hD2, ← hE, ← hq]
    have HD2 := Lib.hid hD2
    have HE := Lib.hid hE.symm
    have dq : (E == 0) = q := by rw [hq, Bool.eq_iff_iff]; simp
    have DQ := Lib.hid dq
    clear hD2 hE hq e1 e2
    have hm3 : m = 0 ∨ m = 1 ∨ m = 2 := by omega
    have dm : ∃ q0 q1 q2 : Bool, (m == 0) = q0 ∧ (m == 1) = q1 ∧ (m == 2) = q2 := ⟨_, _, _, rfl, rfl, rfl⟩
    rcases hm3 with h9 | h9 | h9
    · rw [h9] at hm9
      clear hmr h3 h9 dm
      go_enter Try.func29, Try.ntmps29
      go_wp2
      rw [← hw1]
      clear hw1
      refine wp_region_endv (by kernel_rfl) (by kernel_rfl) 8 (fun W W' => Fr S W W') (fun v W => v = .int .u16 E ∧ (∃ col' uv', DA W (growS w1 W S) b D2 col' fv uv') ∧ Fr S w1 W) [(fun v _ => v = .pointer (some ⟨b, 0, none⟩)), (fun v _ => v = .pointer (some ⟨w.heap.size, 1, none⟩)), (fun v _ => v = .int .u8 o.f), (fun v _ => v = .pointer (some ⟨w.heap.size, 2, none⟩)), (fun v _ => v = .int .i64 o.s), (fun v _ => v = .pointer (some ⟨w.heap.size, 3, none⟩)), (fun v _ => v = .slice A1 L1 c1), (fun v W => W.ownsRow w1.heap.size 5 1 v 128 ((fullS o.xs).map (.int .u8))), (fun v _ => v = undef), (fun v _ => v = .bool q), (fun v _ => v = .bool q)] (fun v W W' hb h => ⟨h.1, by obtain ⟨c1, u1, h1⟩ := h.2.1; exact ⟨c1, u1, (h1.later hb).mono (fun x hx => by rcases hx with hx | hx; (exact .inl hx); (exact .inr ⟨hx.1, Nat.lt_of_lt_of_le hx.2 hb.size⟩)) (fun x hx => by rcases hx with hx | hx; (exact Nat.lt_of_lt_of_le (HD1.out.old x hx) (Nat.le_trans h.2.2.size hb.size)); (exact hx.2))⟩, h.2.2.below hb⟩) ?_ (fun vals => ?_) (fun vals W hfin hall => ?_) (by decide)
      · intro j v W W' hj hr h
        match j, hj, h with
        | 0, _, h => exact h
        | 1, _, h => exact h
        | 2, _, h => exact h
        | 3, _, h => exact h
        | 4, _, h => exact h
        | 5, _, h => exact h
        | 6, _, h => exact h
        | 7, _, h => rcases hr with h9 | h9; (exact own_frS h h9 (fun k hk hS => by have := (h.lt k hk).1; have := HD1.out.old k hS; omega)); (exact own_below h h9)
        | 8, hj, _ => exact absurd rfl hj
        | 9, _, h => exact h
        | 10, _, h => exact h
        | _ + 11, _, _ => trivial
      · simp only [ObL, Act.put, List.setIfInBounds_toArray, List.set_cons_succ, List.set_cons_zero]
        refine ⟨?_, ?_, ?_, ?_, ?_, ?_, ?_, ?_, ?_, ?_, ?_, trivial⟩
        · intro L W hL hk hC hw
          clear hw
          clear hL hC hk
          refine step_plain rfl ?_
          go_simp
          first | exact ⟨Rv.same (by decide), Fv.val (by decide) rfl rfl⟩ | exact ⟨_, rfl, Rv.same (by decide), Fv.val (by decide) rfl rfl⟩
        · intro L W hL hk hC hw
          clear hw
          clear hL hC hk
          refine step_plain rfl ?_
          go_simp
          first | exact ⟨Rv.same (by decide), Fv.val (by decide) rfl rfl⟩ | exact ⟨_, rfl, Rv.same (by decide), Fv.val (by decide) rfl rfl⟩
        · intro L W hL hk hC hw
          have f1 : vals 1 = .pointer (some ⟨w.heap.size, 1, none⟩) := Fv.get (hw ⟨1, .data⟩ (by simp) rfl) (by decide)
          clear hw
          have hb := hC (hL.not_yet hk 8 8 (by decide +kernel))
          have kc : W.cell? ⟨w.heap.size, 1, none⟩ = some (.int .u8 o.f) := (BO1.out.later hb).cell 1
          clear hL hC hk hb
          refine step_plain rfl ?_
          go_simp
          first | exact ⟨Rv.same (by decide), Fv.val (by decide) rfl rfl⟩ | exact ⟨_, rfl, Rv.same (by decide), Fv.val (by decide) rfl rfl⟩
        · intro L W hL hk hC hw
          clear hw
          clear hL hC hk
          refine step_plain rfl ?_
          go_simp
          first | exact ⟨Rv.same (by decide), Fv.val (by decide) rfl rfl⟩ | exact ⟨_, rfl, Rv.same (by decide), Fv.val (by decide) rfl rfl⟩
        · intro L W hL hk hC hw
          have f3 : vals 3 = .pointer (some ⟨w.heap.size, 2, none⟩) := Fv.get (hw ⟨3, .data⟩ (by simp) rfl) (by decide)
          clear hw
          have hb := hC (hL.not_yet hk 8 8 (by decide +kernel))
          have kc : W.cell? ⟨w.heap.size, 2, none⟩ = some (.int .i64 o.s) := (BO1.out.later hb).cell 2
          clear hL hC hk hb
          refine step_plain rfl ?_
          go_simp
          first | exact ⟨Rv.same (by decide), Fv.val (by decide) rfl rfl⟩ | exact ⟨_, rfl, Rv.same (by decide), Fv.val (by decide) rfl rfl⟩
        · intro L W hL hk hC hw
          clear hw
          clear hL hC hk
          refine step_plain rfl ?_
          go_simp
          first | exact ⟨Rv.same (by decide), Fv.val (by decide) rfl rfl⟩ | exact ⟨_, rfl, Rv.same (by decide), Fv.val (by decide) rfl rfl⟩
        · intro L W hL hk hC hw
          have f5 : vals 5 = .pointer (some ⟨w.heap.size, 3, none⟩) := Fv.get (hw ⟨5, .data⟩ (by simp) rfl) (by decide)
          clear hw
          have hb := hC (hL.not_yet hk 8 8 (by decide +kernel))
          have kc : W.cell? ⟨w.heap.size, 3, none⟩ = some (.slice A1 L1 c1) := (BO1.out.later hb).cell 3
          clear hL hC hk hb
          refine step_plain rfl ?_
          go_simp
          first | exact ⟨Rv.same (by decide), Fv.val (by decide) rfl rfl⟩ | exact ⟨_, rfl, Rv.same (by decide), Fv.val (by decide) rfl rfl⟩
        · intro L W hL hk hC hw
          have f6 : vals 6 = .slice A1 L1 c1 := Fv.get (hw ⟨6, .data⟩ (by simp) rfl) (by decide)
          clear hw
          have hb := hC (hL.not_yet hk 8 8 (by decide +kernel))
          have FU := Lib.hid (full_any (.slice A1 L1 c1) o.xs W W.heap.size (Nat.le_refl _) ((IX1.out.below hb).more hb.size) HXB.out)
          have hsz := hb.size
          clear hL hC hk hb
          refine step_plain rfl ?_
          go_simp
          (with_reducible refine FU.out.mono ?_)
          rintro e w8 ⟨u, rfl, hu, hb8⟩
          have hu2 := own_lower hu hsz
          first | exact ⟨Rv.of (by decide) hb8, Fv.val (by decide) rfl hu2⟩ | exact ⟨_, rfl, Rv.of (by decide) hb8, Fv.val (by decide) rfl hu2⟩
        · intro L W hL hk hC hw
          have f0 : vals 0 = .pointer (some ⟨b, 0, none⟩) := Fv.get (hw ⟨0, .data⟩ (by simp) rfl) (by decide)
          have f2 : vals 2 = .int .u8 o.f := Fv.get (hw ⟨2, .data⟩ (by simp) rfl) (by decide)
          have f4 : vals 4 = .int .i64 o.s := Fv.get (hw ⟨4, .data⟩ (by simp) rfl) (by decide)
          have f7 : W.ownsRow w1.heap.size 5 1 (vals 7) 128 ((fullS o.xs).map (.int .u8)) := Fv.get (hw ⟨7, .data⟩ (by simp) rfl) (by decide)
          clear hw
          have hb := hC hk
          obtain ⟨A7, c7, e7⟩ := own_slice' f7
          have WR := Lib.hid (write_any (HD1.out.later hb) o.f o.s f HFI.out HF.out HWT.out (vals 7) (fullS o.xs) (fun w' hf => own_far_ir f7 (fullS_len _) (fun x hx => HD1.out.old x hx) hf) (fullS_bytes HXB.out))
          rw [fullS_len, HE.out] at WR
          have HBB := Lib.hid hb
          rw [e7] at WR
          clear hL hC hk hb f7
          refine step_plain rfl ?_
          go_simp
          (with_reducible refine WR.out.mono ?_)
          rintro e w8 ⟨rfl, ⟨c9, u9, h9⟩, hf8⟩
          have hfin8 : (∃ col' uv', DA w8 (growS w1 w8 S) b D2 col' fv uv') ∧ Fr S w1 w8 := ⟨⟨c9, u9, by rw [HD2.out]; exact h9.mono (fun x hx => by rcases hx with hx | hx; (exact .inl hx); (exact .inr ⟨Nat.le_trans HBB.out.size hx.1, hx.2⟩)) (fun x hx => by rcases hx with hx | hx; (exact Nat.lt_of_lt_of_le (HD1.out.old x hx) (Nat.le_trans HBB.out.size hf8.size)); (exact hx.2))⟩, Fr.sub (Fr.of_below HBB.out) hf8 (fun x _ hs => hs)⟩
          first | exact ⟨Rv.last hf8, Fv.last ⟨rfl, hfin8⟩⟩ | exact ⟨_, rfl, Rv.last hf8, Fv.last ⟨rfl, hfin8⟩⟩
        · intro L W hL hk hC hw
          have f8 := Fv.out (hw ⟨8, .data⟩ (by simp) rfl)
          clear hw
          obtain ⟨e8, _⟩ := f8
          clear hL hC hk
          refine step_plain rfl ?_
          go_simp
          first | exact ⟨Rv.same (by decide), Fv.val (by decide) rfl (by rw [DQ.out])⟩ | exact ⟨Rv.same (by decide), Fv.val (by decide) rfl rfl⟩ | exact ⟨_, rfl, Rv.same (by decide), Fv.val (by decide) rfl (by rw [DQ.out])⟩
        · intro L W hL hk hC hw
          have f9 : vals 9 = .bool q := Fv.get (hw ⟨9, .data⟩ (by simp) rfl) (by decide)
          clear hw
          clear hL hC hk
          refine step_plain rfl ?_
          go_simp
          first | exact ⟨Rv.same (by decide), Fv.val (by decide) rfl rfl⟩ | exact ⟨_, rfl, Rv.same (by decide), Fv.val (by decide) rfl rfl⟩
      · simp only [TL, Act.put, List.setIfInBounds_toArray, List.set_cons_succ, List.set_cons_zero]
        have f10 : vals 10 = .bool q := hall 10 (by decide) (by decide)
        simp only [f10]
        have HZ := Lib.hid (FN.out W _ hfin.2)
        clear hfin hall
        go_wp2
        go_ret
        exact ⟨rfl, HZ.out⟩
    · rw [h9] at hm9
      clear hmr h3 h9 dm
      go_enter Try.func29, Try.ntmps29
      go_wp2
      rw [← hw1]
      clear hw1
      refine wp_region_endv (by kernel_rfl) (by kernel_rfl) 8 (fun W W' => Fr S W W') (fun v W => v = .int .u16 E ∧ (∃ col' uv', DA W (growS w1 W S) b D2 col' fv uv') ∧ Fr S w1 W) [(fun v _ => v = .pointer (some ⟨b, 0, none⟩)), (fun v _ => v = .pointer (some ⟨w.heap.size, 1, none⟩)), (fun v _ => v = .int .u8 o.f), (fun v _ => v = .pointer (some ⟨w.heap.size, 2, none⟩)), (fun v _ => v = .int .i64 o.s), (fun v _ => v = .pointer (some ⟨w.heap.size, 3, none⟩)), (fun v _ => v = .slice A1 L1 c1), (fun v W => W.ownsRow w1.heap.size 5 1 v 128 ((fullS o.xs).map (.int .u8))), (fun v _ => v = undef), (fun v _ => v = .bool q), (fun v _ => v = .bool q)] (fun v W W' hb h => ⟨h.1, by obtain ⟨c1, u1, h1⟩ := h.2.1; exact ⟨c1, u1, (h1.later hb).mono (fun x hx => by rcases hx with hx | hx; (exact .inl hx); (exact .inr ⟨hx.1, Nat.lt_of_lt_of_le hx.2 hb.size⟩)) (fun x hx => by rcases hx with hx | hx; (exact Nat.lt_of_lt_of_le (HD1.out.old x hx) (Nat.le_trans h.2.2.size hb.size)); (exact hx.2))⟩, h.2.2.below hb⟩) ?_ (fun vals => ?_) (fun vals W hfin hall => ?_) (by decide)
      · intro j v W W' hj hr h
        match j, hj, h with
        | 0, _, h => exact h
        | 1, _, h => exact h
        | 2, _, h => exact h
        | 3, _, h => exact h
        | 4, _, h => exact h
        | 5, _, h => exact h
        | 6, _, h => exact h
        | 7, _, h => rcases hr with h9 | h9; (exact own_frS h h9 (fun k hk hS => by have := (h.lt k hk).1; have := HD1.out.old k hS; omega)); (exact own_below h h9)
        | 8, hj, _ => exact absurd rfl hj
        | 9, _, h => exact h
        | 10, _, h => exact h
        | _ + 11, _, _ => trivial
      · simp only [ObL, Act.put, List.setIfInBounds_toArray, List.set_cons_succ, List.set_cons_zero]
        refine ⟨?_, ?_, ?_, ?_, ?_, ?_, ?_, ?_, ?_, ?_, ?_, trivial⟩
        · intro L W hL hk hC hw
          clear hw
          clear hL hC hk
          refine step_plain rfl ?_
          go_simp
          first | exact ⟨Rv.same (by decide), Fv.val (by decide) rfl rfl⟩ | exact ⟨_, rfl, Rv.same (by decide), Fv.val (by decide) rfl rfl⟩
        · intro L W hL hk hC hw
          clear hw
          clear hL hC hk
          refine step_plain rfl ?_
          go_simp
          first | exact ⟨Rv.same (by decide), Fv.val (by decide) rfl rfl⟩ | exact ⟨_, rfl, Rv.same (by decide), Fv.val (by decide) rfl rfl⟩
        · intro L W hL hk hC hw
          have f1 : vals 1 = .pointer (some ⟨w.heap.size, 1, none⟩) := Fv.get (hw ⟨1, .data⟩ (by simp) rfl) (by decide)
          clear hw
          have hb := hC (hL.not_yet hk 8 8 (by decide +kernel))
          have kc : W.cell? ⟨w.heap.size, 1, none⟩ = some (.int .u8 o.f) := (BO1.out.later hb).cell 1
          clear hL hC hk hb
          refine step_plain rfl ?_
          go_simp
          first | exact ⟨Rv.same (by decide), Fv.val (by decide) rfl rfl⟩ | exact ⟨_, rfl, Rv.same (by decide), Fv.val (by decide) rfl rfl⟩
        · intro L W hL hk hC hw
          clear hw
          clear hL hC hk
          refine step_plain rfl ?_
          go_simp
          first | exact ⟨Rv.same (by decide), Fv.val (by decide) rfl rfl⟩ | exact ⟨_, rfl, Rv.same (by decide), Fv.val (by decide) rfl rfl⟩
        · intro L W hL hk hC hw
          have f3 : vals 3 = .pointer (some ⟨w.heap.size, 2, none⟩) := Fv.get (hw ⟨3, .data⟩ (by simp) rfl) (by decide)
          clear hw
          have hb := hC (hL.not_yet hk 8 8 (by decide +kernel))
          have kc : W.cell? ⟨w.heap.size, 2, none⟩ = some (.int .i64 o.s) := (BO1.out.later hb).cell 2
          clear hL hC hk hb
          refine step_plain rfl ?_
          go_simp
          first | exact ⟨Rv.same (by decide), Fv.val (by decide) rfl rfl⟩ | exact ⟨_, rfl, Rv.same (by decide), Fv.val (by decide) rfl rfl⟩
        · intro L W hL hk hC hw
          clear hw
          clear hL hC hk
          refine step_plain rfl ?_
          go_simp
          first | exact ⟨Rv.same (by decide), Fv.val (by decide) rfl rfl⟩ | exact ⟨_, rfl, Rv.same (by decide), Fv.val (by decide) rfl rfl⟩
        · intro L W hL hk hC hw
          have f5 : vals 5 = .pointer (some ⟨w.heap.size, 3, none⟩) := Fv.get (hw ⟨5, .data⟩ (by simp) rfl) (by decide)
          clear hw
          have hb := hC (hL.not_yet hk 8 8 (by decide +kernel))
          have kc : W.cell? ⟨w.heap.size, 3, none⟩ = some (.slice A1 L1 c1) := (BO1.out.later hb).cell 3
          clear hL hC hk hb
          refine step_plain rfl ?_
          go_simp
          first | exact ⟨Rv.same (by decide), Fv.val (by decide) rfl rfl⟩ | exact ⟨_, rfl, Rv.same (by decide), Fv.val (by decide) rfl rfl⟩
        · intro L W hL hk hC hw
          have f6 : vals 6 = .slice A1 L1 c1 := Fv.get (hw ⟨6, .data⟩ (by simp) rfl) (by decide)
          clear hw
          have hb := hC (hL.not_yet hk 8 8 (by decide +kernel))
          have FU := Lib.hid (full_any (.slice A1 L1 c1) o.xs W W.heap.size (Nat.le_refl _) ((IX1.out.below hb).more hb.size) HXB.out)
          have hsz := hb.size
          clear hL hC hk hb
          refine step_plain rfl ?_
          go_simp
          (with_reducible refine FU.out.mono ?_)
          rintro e w8 ⟨u, rfl, hu, hb8⟩
          have hu2 := own_lower hu hsz
          first | exact ⟨Rv.of (by decide) hb8, Fv.val (by decide) rfl hu2⟩ | exact ⟨_, rfl, Rv.of (by decide) hb8, Fv.val (by decide) rfl hu2⟩
        · intro L W hL hk hC hw
          have f0 : vals 0 = .pointer (some ⟨b, 0, none⟩) := Fv.get (hw ⟨0, .data⟩ (by simp) rfl) (by decide)
          have f2 : vals 2 = .int .u8 o.f := Fv.get (hw ⟨2, .data⟩ (by simp) rfl) (by decide)
          have f4 : vals 4 = .int .i64 o.s := Fv.get (hw ⟨4, .data⟩ (by simp) rfl) (by decide)
          have f7 : W.ownsRow w1.heap.size 5 1 (vals 7) 128 ((fullS o.xs).map (.int .u8)) := Fv.get (hw ⟨7, .data⟩ (by simp) rfl) (by decide)
          clear hw
          have hb := hC hk
          obtain ⟨A7, c7, e7⟩ := own_slice' f7
          have WR := Lib.hid (write_any (HD1.out.later hb) o.f o.s f HFI.out HF.out HWT.out (vals 7) (fullS o.xs) (fun w' hf => own_far_ir f7 (fullS_len _) (fun x hx => HD1.out.old x hx) hf) (fullS_bytes HXB.out))
          rw [fullS_len, HE.out] at WR
          have HBB := Lib.hid hb
          rw [e7] at WR
          clear hL hC hk hb f7
          refine step_plain rfl ?_
          go_simp
          (with_reducible refine WR.out.mono ?_)
          rintro e w8 ⟨rfl, ⟨c9, u9, h9⟩, hf8⟩
          have hfin8 : (∃ col' uv', DA w8 (growS w1 w8 S) b D2 col' fv uv') ∧ Fr S w1 w8 := ⟨⟨c9, u9, by rw [HD2.out]; exact h9.mono (fun x hx => by rcases hx with hx | hx; (exact .inl hx); (exact .inr ⟨Nat.le_trans HBB.out.size hx.1, hx.2⟩)) (fun x hx => by rcases hx with hx | hx; (exact Nat.lt_of_lt_of_le (HD1.out.old x hx) (Nat.le_trans HBB.out.size hf8.size)); (exact hx.2))⟩, Fr.sub (Fr.of_below HBB.out) hf8 (fun x _ hs => hs)⟩
          first | exact ⟨Rv.last hf8, Fv.last ⟨rfl, hfin8⟩⟩ | exact ⟨_, rfl, Rv.last hf8, Fv.last ⟨rfl, hfin8⟩⟩
        · intro L W hL hk hC hw
          have f8 := Fv.out (hw ⟨8, .data⟩ (by simp) rfl)
          clear hw
          obtain ⟨e8, _⟩ := f8
          clear hL hC hk
          refine step_plain rfl ?_
          go_simp
          first | exact ⟨Rv.same (by decide), Fv.val (by decide) rfl (by rw [DQ.out])⟩ | exact ⟨Rv.same (by decide), Fv.val (by decide) rfl rfl⟩ | exact ⟨_, rfl, Rv.same (by decide), Fv.val (by decide) rfl (by rw [DQ.out])⟩
        · intro L W hL hk hC hw
          have f9 : vals 9 = .bool q := Fv.get (hw ⟨9, .data⟩ (by simp) rfl) (by decide)
          clear hw
          clear hL hC hk
          refine step_plain rfl ?_
          go_simp
          first | exact ⟨Rv.same (by decide), Fv.val (by decide) rfl rfl⟩ | exact ⟨_, rfl, Rv.same (by decide), Fv.val (by decide) rfl rfl⟩
      · simp only [TL, Act.put, List.setIfInBounds_toArray, List.set_cons_succ, List.set_cons_zero]
        have f10 : vals 10 = .bool q := hall 10 (by decide) (by decide)
        simp only [f10]
        have HZ := Lib.hid (FN.out W _ hfin.2)
        clear hfin hall
        go_wp2
        go_ret
        exact ⟨rfl, HZ.out⟩
    · rw [h9] at hm9
      clear hmr h3 h9 dm
      go_enter Try.func29, Try.ntmps29
      go_wp2
      rw [← hw1]
      clear hw1
      refine wp_region_endv (by kernel_rfl) (by kernel_rfl) 8 (fun W W' => Fr S W W') (fun v W => v = .int .u16 E ∧ (∃ col' uv', DA W (growS w1 W S) b D2 col' fv uv') ∧ Fr S w1 W) [(fun v _ => v = .pointer (some ⟨b, 0, none⟩)), (fun v _ => v = .pointer (some ⟨w.heap.size, 1, none⟩)), (fun v _ => v = .int .u8 o.f), (fun v _ => v = .pointer (some ⟨w.heap.size, 2, none⟩)), (fun v _ => v = .int .i64 o.s), (fun v _ => v = .pointer (some ⟨w.heap.size, 3, none⟩)), (fun v _ => v = .slice A1 L1 c1), (fun v W => W.ownsRow w1.heap.size 5 1 v 128 ((fullS o.xs).map (.int .u8))), (fun v _ => v = undef), (fun v _ => v = .bool q), (fun v _ => v = .bool q)] (fun v W W' hb h => ⟨h.1, by obtain ⟨c1, u1, h1⟩ := h.2.1; exact ⟨c1, u1, (h1.later hb).mono (fun x hx => by rcases hx with hx | hx; (exact .inl hx); (exact .inr ⟨hx.1, Nat.lt_of_lt_of_le hx.2 hb.size⟩)) (fun x hx => by rcases hx with hx | hx; (exact Nat.lt_of_lt_of_le (HD1.out.old x hx) (Nat.le_trans h.2.2.size hb.size)); (exact hx.2))⟩, h.2.2.below hb⟩) ?_ (fun vals => ?_) (fun vals W hfin hall => ?_) (by decide)
      · intro j v W W' hj hr h
        match j, hj, h with
        | 0, _, h => exact h
        | 1, _, h => exact h
        | 2, _, h => exact h
        | 3, _, h => exact h
        | 4, _, h => exact h
        | 5, _, h => exact h
        | 6, _, h => exact h
        | 7, _, h => rcases hr with h9 | h9; (exact own_frS h h9 (fun k hk hS => by have := (h.lt k hk).1; have := HD1.out.old k hS; omega)); (exact own_below h h9)
        | 8, hj, _ => exact absurd rfl hj
        | 9, _, h => exact h
        | 10, _, h => exact h
        | _ + 11, _, _ => trivial
      · simp only [ObL, Act.put, List.setIfInBounds_toArray, List.set_cons_succ, List.set_cons_zero]
        refine ⟨?_, ?_, ?_, ?_, ?_, ?_, ?_, ?_, ?_, ?_, ?_, trivial⟩
        · intro L W hL hk hC hw
          clear hw
          clear hL hC hk
          refine step_plain rfl ?_
          go_simp
          first | exact ⟨Rv.same (by decide), Fv.val (by decide) rfl rfl⟩ | exact ⟨_, rfl, Rv.same (by decide), Fv.val (by decide) rfl rfl⟩
        · intro L W hL hk hC hw
          clear hw
          clear hL hC hk
          refine step_plain rfl ?_
          go_simp
          first | exact ⟨Rv.same (by decide), Fv.val (by decide) rfl rfl⟩ | exact ⟨_, rfl, Rv.same (by decide), Fv.val (by decide) rfl rfl⟩
        · intro L W hL hk hC hw
          have f1 : vals 1 = .pointer (some ⟨w.heap.size, 1, none⟩) := Fv.get (hw ⟨1, .data⟩ (by simp) rfl) (by decide)
          clear hw
          have hb := hC (hL.not_yet hk 8 8 (by decide +kernel))
          have kc : W.cell? ⟨w.heap.size, 1, none⟩ = some (.int .u8 o.f) := (BO1.out.later hb).cell 1
          clear hL hC hk hb
          refine step_plain rfl ?_
          go_simp
          first | exact ⟨Rv.same (by decide), Fv.val (by decide) rfl rfl⟩ | exact ⟨_, rfl, Rv.same (by decide), Fv.val (by decide) rfl rfl⟩
        · intro L W hL hk hC hw
          clear hw
          clear hL hC hk
          refine step_plain rfl ?_
          go_simp
          first | exact ⟨Rv.same (by decide), Fv.val (by decide) rfl rfl⟩ | exact ⟨_, rfl, Rv.same (by decide), Fv.val (by decide) rfl rfl⟩
        · intro L W hL hk hC hw
          have f3 : vals 3 = .pointer (some ⟨w.heap.size, 2, none⟩) := Fv.get (hw ⟨3, .data⟩ (by simp) rfl) (by decide)
          clear hw
          have hb := hC (hL.not_yet hk 8 8 (by decide +kernel))
          have kc : W.cell? ⟨w.heap.size, 2, none⟩ = some (.int .i64 o.s) := (BO1.out.later hb).cell 2
          clear hL hC hk hb
          refine step_plain rfl ?_
          go_simp
          first | exact ⟨Rv.same (by decide), Fv.val (by decide) rfl rfl⟩ | exact ⟨_, rfl, Rv.same (by decide), Fv.val (by decide) rfl rfl⟩
        · intro L W hL hk hC hw
          clear hw
          clear hL hC hk
          refine step_plain rfl ?_
          go_simp
          first | exact ⟨Rv.same (by decide), Fv.val (by decide) rfl rfl⟩ | exact ⟨_, rfl, Rv.same (by decide), Fv.val (by decide) rfl rfl⟩
        · intro L W hL hk hC hw
          have f5 : vals 5 = .pointer (some ⟨w.heap.size, 3, none⟩) := Fv.get (hw ⟨5, .data⟩ (by simp) rfl) (by decide)
          clear hw
          have hb := hC (hL.not_yet hk 8 8 (by decide +kernel))
          have kc : W.cell? ⟨w.heap.size, 3, none⟩ = some (.slice A1 L1 c1) := (BO1.out.later hb).cell 3
          clear hL hC hk hb
          refine step_plain rfl ?_
          go_simp
          first | exact ⟨Rv.same (by decide), Fv.val (by decide) rfl rfl⟩ | exact ⟨_, rfl, Rv.same (by decide), Fv.val (by decide) rfl rfl⟩
        · intro L W hL hk hC hw
          have f6 : vals 6 = .slice A1 L1 c1 := Fv.get (hw ⟨6, .data⟩ (by simp) rfl) (by decide)
          clear hw
          have hb := hC (hL.not_yet hk 8 8 (by decide +kernel))
          have FU := Lib.hid (full_any (.slice A1 L1 c1) o.xs W W.heap.size (Nat.le_refl _) ((IX1.out.below hb).more hb.size) HXB.out)
          have hsz := hb.size
          clear hL hC hk hb
          refine step_plain rfl ?_
          go_simp
          (with_reducible refine FU.out.mono ?_)
          rintro e w8 ⟨u, rfl, hu, hb8⟩
          have hu2 := own_lower hu hsz
          first | exact ⟨Rv.of (by decide) hb8, Fv.val (by decide) rfl hu2⟩ | exact ⟨_, rfl, Rv.of (by decide) hb8, Fv.val (by decide) rfl hu2⟩
        · intro L W hL hk hC hw
          have f0 : vals 0 = .pointer (some ⟨b, 0, none⟩) := Fv.get (hw ⟨0, .data⟩ (by simp) rfl) (by decide)
          have f2 : vals 2 = .int .u8 o.f := Fv.get (hw ⟨2, .data⟩ (by simp) rfl) (by decide)
          have f4 : vals 4 = .int .i64 o.s := Fv.get (hw ⟨4, .data⟩ (by simp) rfl) (by decide)
          have f7 : W.ownsRow w1.heap.size 5 1 (vals 7) 128 ((fullS o.xs).map (.int .u8)) := Fv.get (hw ⟨7, .data⟩ (by simp) rfl) (by decide)
          clear hw
          have hb := hC hk
          obtain ⟨A7, c7, e7⟩ := own_slice' f7
          have WR := Lib.hid (write_any (HD1.out.later hb) o.f o.s f HFI.out HF.out HWT.out (vals 7) (fullS o.xs) (fun w' hf => own_far_ir f7 (fullS_len _) (fun x hx => HD1.out.old x hx) hf) (fullS_bytes HXB.out))
          rw [fullS_len, HE.out] at WR
          have HBB := Lib.hid hb
          rw [e7] at WR
          clear hL hC hk hb f7
          refine step_plain rfl ?_
          go_simp
          (with_reducible refine WR.out.mono ?_)
          rintro e w8 ⟨rfl, ⟨c9, u9, h9⟩, hf8⟩
          have hfin8 : (∃ col' uv', DA w8 (growS w1 w8 S) b D2 col' fv uv') ∧ Fr S w1 w8 := ⟨⟨c9, u9, by rw [HD2.out]; exact h9.mono (fun x hx => by rcases hx with hx | hx; (exact .inl hx); (exact .inr ⟨Nat.le_trans HBB.out.size hx.1, hx.2⟩)) (fun x hx => by rcases hx with hx | hx; (exact Nat.lt_of_lt_of_le (HD1.out.old x hx) (Nat.le_trans HBB.out.size hf8.size)); (exact hx.2))⟩, Fr.sub (Fr.of_below HBB.out) hf8 (fun x _ hs => hs)⟩
          first | exact ⟨Rv.last hf8, Fv.last ⟨rfl, hfin8⟩⟩ | exact ⟨_, rfl, Rv.last hf8, Fv.last ⟨rfl, hfin8⟩⟩
        · intro L W hL hk hC hw
          have f8 := Fv.out (hw ⟨8, .data⟩ (by simp) rfl)
          clear hw
          obtain ⟨e8, _⟩ := f8
          clear hL hC hk
          refine step_plain rfl ?_
          go_simp
          first | exact ⟨Rv.same (by decide), Fv.val (by decide) rfl (by rw [DQ.out])⟩ | exact ⟨Rv.same (by decide), Fv.val (by decide) rfl rfl⟩ | exact ⟨_, rfl, Rv.same (by decide), Fv.val (by decide) rfl (by rw [DQ.out])⟩
        · intro L W hL hk hC hw
          have f9 : vals 9 = .bool q := Fv.get (hw ⟨9, .data⟩ (by simp) rfl) (by decide)
          clear hw
          clear hL hC hk
          refine step_plain rfl ?_
          go_simp
          first | exact ⟨Rv.same (by decide), Fv.val (by decide) rfl rfl⟩ | exact ⟨_, rfl, Rv.same (by decide), Fv.val (by decide) rfl rfl⟩
      · simp only [TL, Act.put, List.setIfInBounds_toArray, List.set_cons_succ, List.set_cons_zero]
        have f10 : vals 10 = .bool q := hall 10 (by decide) (by decide)
        simp only [f10]
        have HZ := Lib.hid (FN.out W _ hfin.2)
        clear hfin hall
        go_wp2
        go_ret
        exact ⟨rfl, HZ.out⟩
  · by_cases h33 : m = 3
    · have e1 : plD D o = D.wrA f o.s o.xs := by unfold plD; rw [← HM.out, if_neg h3, if_pos h33, HFN.out]
      have e2 : plB D o = decide (D.wrE f o.s o.xs.length = 0) := by unfold plB; rw [← HM.out, if_neg h3, if_pos h33, HFN.out]
      rw [e1, e2]
      obtain ⟨D2, hD2⟩ : ∃ D2, D2 = D.wrA f o.s o.xs := ⟨_, rfl⟩
      obtain ⟨E, hE⟩ : ∃ E, E = D.wrE f o.s o.xs.length := ⟨_, rfl⟩
      obtain ⟨q, hq⟩ : ∃ q, q = decide (E = 0) := ⟨_, rfl⟩
      have WR := Lib.hid (write_any HD1.out o.f o.s f HFI.out HF.out HWT.out (.slice A1 L1 c1) o.xs (fun w' hf => HDF.out w' (Fr.sub (Fr.of_below HB1.out) hf (fun x _ hx => hx))) HXB.out)
      rw [← hD2, ← hE] at WR
      rw [← hD2, ← hE, ← hq]
      have dq : (E == 0) = q := by rw [hq, Bool.eq_iff_iff]; simp
      rw [h33] at hm9
      clear hD2 hE hq e1 e2 hmr h3 h33
      go_enter Try.func29, Try.ntmps29
      go_wp2_with fail
      rw [← hw1]
      (with_reducible refine WR.out.mono ?_)
      rintro e w8 ⟨rfl, hd8, hf8⟩
      have HZ := Lib.hid (FN.out w8 _ ⟨hd8, hf8⟩)
      clear hd8 hf8
      go_wp2
      go_ret
      exact ⟨rfl, HZ.out⟩
    · by_cases h5 : m = 5
      · have e1 : plD D o = D.synA f := by unfold plD; rw [← HM.out, if_neg h3, if_neg h33, if_pos h5, HFN.out]
        have e2 : plB D o = true := by unfold plB; rw [← HM.out, if_neg h3, if_neg h33]
        rw [e1, e2]
        have SY := Lib.hid (sync_any HD1.out o.f f HFI.out HF.out HWT.out)
        rw [h5] at hm9
        clear e1 e2 hmr h3 h33 h5
        go_enter Try.func29, Try.ntmps29
        go_wp2_with fail
        rw [← hw1]
        (with_reducible refine SY.out.mono ?_)
        rintro e w8 ⟨rfl, hd8, hf8⟩
        have HZ := Lib.hid (FN.out w8 _ ⟨hd8, hf8⟩)
        clear hd8 hf8
        go_wp2
        go_ret
        exact ⟨rfl, HZ.out⟩
      · have e1 : plD D o = D := by unfold plD; rw [← HM.out, if_neg h3, if_neg h33, if_neg h5]
        have e2 : plB D o = true := by unfold plB; rw [← HM.out, if_neg h3, if_neg h33]
        rw [e1, e2]
        have HZ := Lib.hid (FN.out w1 D ⟨⟨col, uv, HD1.out.grow⟩, Fr.refl _ _⟩)
        have q0 : (m == 0) = false := by rw [beq_eq_false_iff_ne]; omega
        have q1 : (m == 1) = false := by rw [beq_eq_false_iff_ne]; omega
        have q2 : (m == 2) = false := by rw [beq_eq_false_iff_ne]; omega
        have q3 : (m == 3) = false := by rw [beq_eq_false_iff_ne]; omega
        have q5 : (m == 5) = false := by rw [beq_eq_false_iff_ne]; omega
        clear e1 e2 hmr h3 h33 h5
        go_enter Try.func29, Try.ntmps29
        go_wp2
        go_ret
        rw [← hw1]
        exact ⟨rfl, HZ.out⟩
end Go.Proofs.Ytplombkpefacgaa.Disk
