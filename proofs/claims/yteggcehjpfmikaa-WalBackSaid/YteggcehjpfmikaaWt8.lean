import Derived.Test.YteggcehjpfmikaaWt5
import Derived.Test.YteggcehjpfmikaaWt7
import Derived.Lib.SliceRun
namespace Go.Proofs.Yteggcehjpfmikaa.Wal
open Go.ChangeShapes Go.WideShapes Go.ChangeAt Go.RowKit Go.IntWalk Go.Proofs.Mem Go.Proofs.Each Law Go.Proofs.Yteggcehjpfmikaa.Disk
set_option linter.unusedVariables false
set_option linter.unusedSimpArgs false
def WantOk (vs : List (Value × List Int)) : Prop := ∀ p ∈ vs, (p.1 = .slice none 0 0 ∧ p.2 = []) ∨ (p.2.length = 128 ∧ ∃ a c, p.1 = .slice (some a) 128 c)
theorem want_len {vs : List (Value × List Int)} (h : WantOk vs) {p : Value × List Int} (hp : p ∈ vs) : (wantB p.2).length = 128 := by
  unfold wantB
  rcases h p hp with ⟨_, h1⟩ | ⟨h1, _⟩
  · rw [if_pos h1]; exact z128_len
  · rw [if_neg (fun e => by rw [e] at h1; cases h1)]; exact h1
set_option maxRecDepth 100000 in
set_option maxHeartbeats 8000000 in
theorem clean_any {w : World} {S : Nat → Prop} {g : Nat} {fv : Nat → Value} {D0 : Dv} (h : DX w S g fv D0) (m : Nat) (hw : D0.Few m) (hm : m ≤ 90000) (first : Nat) (v : Value) (vs : List (Value × List Int))
    (hv : ∀ w' S', Mv w S w' S' → SR w' w'.heap.size v vs) (each : WantOk vs) (hl : first + vs.length ≤ (D0.f 0).length) :
    Calls Try.prog 39 #[.pointer (some ⟨g, 0, none⟩), .int .i64 first, v] w fun e w' => e = .returned (.tuple #[]) ∧ ∃ S', DX w' S' g fv (clnD D0 first (vs.map fun p => wantB p.2)) ∧ Mv w S w' S' := by
  obtain ⟨i0, hi0, hz0, hz1, hz2⟩ := info_parts NumBytes.u8_info
  obtain ⟨AC, hAC, hACs, hACr⟩ := made_run (P := Try.prog) (t := 48) (e := 5) (z := .int .u8 0) Try.underlying48 hi0 hz0 hz1 128 128 (Nat.le_refl _) (by rw [hz2]; omega) (by omega)
  have hACr' : ∀ W : World, (Instr.makeSlice 48 (.int .i64 128) (.int .i64 128)).run Try.prog W = .ok (.slice (some ⟨W.heap.size, 0, none⟩) 128 128) (W.alloc (.cells AC 5)) := hACr
  have HM0 := Lib.hid hACr'
  clear hACr'
  have ROW := Lib.hid (fun W => Strip.row_made W AC 128 hAC (by decide))
  have hlen := h.lens 0 (by decide)
  obtain ⟨A, c, rfl, hlc, hcm⟩ := (hv w S (Mv.refl _ _)).form
  unfold maxLen at hcm
  obtain ⟨L, hL⟩ : ∃ L, vs.length = L := ⟨_, rfl⟩
  have HL := Lib.hid hL
  rw [hL] at hlc hl ⊢
  have HV := Lib.hid hv
  have HE := Lib.hid each
  have HN := Lib.hid hl
  have HW := Lib.hid hw
  obtain ⟨ws, hws⟩ : ∃ ws, vs.map (fun p => wantB p.2) = ws := ⟨_, rfl⟩
  have HWS := Lib.hid hws
  rw [hws]
  have bn : first + L ≤ 4096 := by omega
  clear hACr hAC hACs hi0 hz0 hz1 hz2 hw each hL hws
  go_enter Try.func39, Try.ntmps39
  go_wp2
  go_loopw [6, 13] (fun q i wr => ∃ (k : Nat) (b : Bool) (D : Dv) (S1 : Nat → Prop), i = .int .i64 k ∧ q = .bool b ∧ k ≤ L ∧ Hid (DX wr S1 g fv D) ∧ Hid (Mv w S wr S1) ∧ Hid (D.Few (m + k)) ∧ Hid ((D.f 0).length = (D0.f 0).length) ∧ Hid (clnF D0 false first ws = clnF D b (first + k) (ws.drop k))) (fun _ i _ => L - (intOf i).toNat)
  case atStart => exact ⟨0, false, D0, S, rfl, rfl, by omega, Lib.hid h, Lib.hid (Mv.refl _ _), HW, Lib.hid rfl, Lib.hid rfl⟩
  case round =>
    obtain ⟨k, b, D, S1, rfl, rfl, hk, HD, HF, HM, HZ, HC⟩ := hrel
    obtain ⟨w1, rfl⟩ : ∃ w1, w1 = wr := ⟨wr, rfl⟩
    by_cases hlt : k < L
    · have d1 : decide ((k : Int) < (L : Int)) = true := decide_eq_true (by omega)
      have d1' : decide (k < L) = true := decide_eq_true hlt
      obtain ⟨b1, o1, u1, x1, rfl, hb1, g1, e1, r1, y1⟩ := (HV.out w1 S1 HF.out).index k (by rw [HL.out]; exact hlt)
      have hmem : (u1, x1) ∈ vs := List.mem_of_getElem? g1
      have hxw : ws[k]? = some (wantB x1) := by rw [← HWS.out, List.getElem?_map, g1]; rfl
      have hdr : ws.drop k = wantB x1 :: ws.drop (k + 1) := by
        obtain ⟨hk', e⟩ := List.getElem?_eq_some_iff.1 hxw
        rw [List.drop_eq_getElem_cons hk', e]
      have g1' := g1
      have G1 := Lib.hid g1
      clear g1'
      have k0 : (0 : Int) ≤ (k : Int) := by omega
      have kL : (k : Int) < (L : Int) := by omega
      have eN : ((first + k : Nat) : Int) = (first : Int) + (k : Int) := by omega
      have hhas : D.has 0 ((first : Int) + (k : Int)) := ⟨by decide, by omega, by rw [HZ.out]; have := HN.out; omega⟩
      have q1 : IntKind.i64.wrap ((first : Int) + (k : Int)) = (first : Int) + (k : Int) := IntWalk.i64_in _ (by omega)
      have q2 : IntKind.i64.wrap ((k : Int) + 1) = (k : Int) + 1 := IntWalk.i64_in _ (by omega)
      have hfew : D.Few 100000 := HM.out.more (by omega)
      obtain ⟨xs, hxs⟩ : ∃ xs, wantB x1 = xs := ⟨_, rfl⟩
      have hxl : xs.length = 128 := by rw [← hxs]; exact want_len HE.out hmem
      have hbx : Bytes xs := by
        rw [← hxs]; unfold wantB
        split
        · exact z128_bytes
        · exact y1
      rw [hxs] at hdr
      have HC0 := HC.out
      rw [hdr, clnF, eN] at HC0
      have RD := Lib.hid (fun W (hb : Below w1.heap.size w1 W) => ds_read (HD.out.later hb) hfew ((first : Int) + (k : Int)))
      have EQ := Lib.hid (fun W (hb : Below w1.heap.size w1 W) u B (hu : IR W B .u8 u (D.rd 0 ((first : Int) + (k : Int)))) v B' (hv : IR W B' .u8 v xs) (hB : Bytes (D.rd 0 ((first : Int) + (k : Int)))) => beq_any u v _ xs W B B' hu hv hB hbx)
      obtain ⟨qe, hqe⟩ : ∃ q, q = decide (D.rd 0 ((first : Int) + (k : Int)) = xs) := ⟨_, rfl⟩
      rw [← hqe] at EQ
      have WR := Lib.hid (fun W (hb : Below w1.heap.size w1 W) dv hdf => ds_write (HD.out.later hb) hfew ((first : Int) + (k : Int)) dv xs hdf hbx hxl hhas)
      have HC1 := Lib.hid (show qe = true → clnF D0 false first ws = clnF D b (first + (k + 1)) (ws.drop (k + 1)) from fun e => by
        rw [HC0, if_pos (of_decide_eq_true (by rw [← hqe]; exact e))]; rfl)
      have HC2 := Lib.hid (show qe = false → clnF D0 false first ws = clnF (D.wrA 0 ((first : Int) + (k : Int)) xs) true (first + (k + 1)) (ws.drop (k + 1)) from fun e => by
        rw [HC0, if_neg (of_decide_eq_false (by rw [← hqe]; exact e))]; rfl)
      have HM1 := Lib.hid (wrA_few' HM.out 0 ((first : Int) + (k : Int)) xs)
      have HZ1 := Lib.hid (show ((D.wrA 0 ((first : Int) + (k : Int)) xs).f 0).length = (D0.f 0).length by rw [wrA_lens]; exact HZ.out)
      have HTP := Lib.hid HD.out.old
      clear hqe HC0 hdr hxw hhas hfew hbx eN HC g1
      rcases HE.out _ hmem with ⟨h1, h2⟩ | ⟨h2, a2, c2, h1⟩
      · dsimp only at h1 h2
        subst h1 h2
        have hz : xs = z128 := by rw [← hxs]; rfl
        subst hz
        have HR := Lib.hid (ROW.out w1)
        have HB1 := Lib.hid (new_ (Below.refl w1.heap.size w1) (.cells AC 5))
        have hM := HM0.out w1
        clear hxs hxl y1 r1 hmem
        have hq : ∀ W, (binOp .eql 48 (.slice none 0 0) (.slice none 0 0)).run Try.prog W = .ok (.bool true) W := fun _ => by kernel_rfl
        go_wp2_with fail
        (with_reducible refine ((RD.out _ HB1.out)).mono ?_)
        rintro e w3 ⟨ur, rfl, hu, hby, hb3⟩
        have HB3 := Lib.hid (HB1.out.trans (hb3.mono HB1.out.size))
        have HRW := Lib.hid (HR.out.sc (Sc.of_below hb3))
        have CE := Lib.hid (EQ.out w3 HB3.out ur _ hu _ _ (HRW.out.ir) hby)
        have HXD := Lib.hid (show ∀ w', Fr S1 w3 w' → IR w' w'.heap.size .u8 (.slice (some ⟨w1.heap.size, 0, none⟩) 128 128) z128 from fun w' hf => own_far_ir (HRW.out.own) z128_len HTP.out hf)
        clear hu hby hb3
        go_wp2_with fail
        (with_reducible refine (CE.out).mono ?_)
        rintro e w4 ⟨rfl, rfl⟩
        have HFD := Lib.hid (show Mv w S w3 S1 from HF.out.later HB3.out)
        cases qe with
        | true =>
          have HC3 := Lib.hid (HC1.out rfl)
          clear HC1 HC2
          go_wp2
          go_roundw
          case rel => exact ⟨k + 1, b, D, S1, by go_num, rfl, by omega, Lib.hid (HD.out.later HB3.out), HFD, Lib.hid (HM.out.more (by omega)), HZ, HC3⟩
          case measure => simp [intOf]; omega
        | false =>
          have HC3 := Lib.hid (HC2.out rfl)
          clear HC1 HC2
          go_wp2_with fail
          (with_reducible refine ((WR.out _ HB3.out _ HXD.out)).mono ?_)
          rintro e w5 ⟨rfl, S5, hds, hmv⟩
          have HD5 := Lib.hid hds
          have HF5 := Lib.hid (HFD.out.trans hmv)
          clear hds hmv
          go_wp2
          go_roundw
          case rel => exact ⟨k + 1, true, _, S5, by go_num, rfl, by omega, HD5, HF5, HM1, HZ1, HC3⟩
          case measure => simp [intOf]; omega
      · dsimp only at h1 h2
        subst h1
        have hq : ∀ W, (binOp .eql 48 (.slice (some a2) 128 c2) (.slice none 0 0)).run Try.prog W = .ok (.bool false) W := fun W => Go.Lib.run_eql_slice_nil W 48 5 (some a2) 128 c2 0 0 Try.underlying48
        have hx1 : x1 = xs := by
          rw [← hxs]; unfold wantB; rw [if_neg (fun e => by rw [e] at h2; cases h2)]
        subst hx1
        have HX := Lib.hid (show ∀ W, Below w1.heap.size w1 W → IR W w1.heap.size .u8 (.slice (some a2) 128 c2) x1 from fun W hb => r1.below hb)
        have HXF := Lib.hid (show ∀ W, Below w1.heap.size w1 W → ∀ w', Fr S1 W w' → IR w' w'.heap.size .u8 (.slice (some a2) 128 c2) x1 from fun W hb w' hf => by
          obtain ⟨b3, o3, u3, x3, e3, _, g3, e4, r3, _⟩ := (HV.out w' S1 ⟨(HF.out.later hb).fr.trans' hf (fun i hi hi2 => ((HF.out.new i hi2).resolve_right (by omega))), HF.out.new⟩).index k (by rw [HL.out]; exact hlt)
          rw [G1.out] at g3
          injection g3 with g3
          injection g3 with g5 g6
          subst g5 g6
          exact r3)
        clear hxs hxl y1 r1 hmem
        go_wp2_with fail
        go_wp2_with fail
        (with_reducible refine ((RD.out _ (Below.refl _ _))).mono ?_)
        rintro e w3 ⟨ur, rfl, hu, hby, hb3⟩
        have HB3 := Lib.hid hb3
        have CE := Lib.hid (EQ.out w3 HB3.out ur _ hu _ _ (HX.out w3 HB3.out) hby)
        have HXD := Lib.hid (show ∀ w', Fr S1 w3 w' → IR w' w'.heap.size .u8 (.slice (some a2) 128 c2) x1 from fun w' hf => HXF.out w3 HB3.out w' hf)
        clear hu hby hb3
        go_wp2_with fail
        (with_reducible refine (CE.out).mono ?_)
        rintro e w4 ⟨rfl, rfl⟩
        have HFD := Lib.hid (show Mv w S w3 S1 from HF.out.later HB3.out)
        cases qe with
        | true =>
          have HC3 := Lib.hid (HC1.out rfl)
          clear HC1 HC2
          go_wp2
          go_roundw
          case rel => exact ⟨k + 1, b, D, S1, by go_num, rfl, by omega, Lib.hid (HD.out.later HB3.out), HFD, Lib.hid (HM.out.more (by omega)), HZ, HC3⟩
          case measure => simp [intOf]; omega
        | false =>
          have HC3 := Lib.hid (HC2.out rfl)
          clear HC1 HC2
          go_wp2_with fail
          (with_reducible refine ((WR.out _ HB3.out _ HXD.out)).mono ?_)
          rintro e w5 ⟨rfl, S5, hds, hmv⟩
          have HD5 := Lib.hid hds
          have HF5 := Lib.hid (HFD.out.trans hmv)
          clear hds hmv
          go_wp2
          go_roundw
          case rel => exact ⟨k + 1, true, _, S5, by go_num, rfl, by omega, HD5, HF5, HM1, HZ1, HC3⟩
          case measure => simp [intOf]; omega
    · have d1 : decide ((k : Int) < (L : Int)) = false := decide_eq_false (by omega)
      have d1' : decide (k < L) = false := decide_eq_false hlt
      have hkL : k = L := by omega
      subst hkL
      have hd0 : ws.drop k = [] := List.drop_eq_nil_of_le (by rw [← HWS.out, List.length_map, HL.out]; exact Nat.le_refl _)
      have HE1 := Lib.hid (show clnD D0 first ws = if b = true then D.synA 0 else D by
        have := HC.out
        rw [hd0, clnF] at this
        unfold clnD; rw [this])
      have SY := Lib.hid (ds_sync HD.out (HM.out.more (by omega)))
      clear hd0 HC
      cases b with
      | true =>
        have HE2 := Lib.hid (show clnD D0 first ws = D.synA 0 from by rw [HE1.out, if_pos rfl])
        clear HE1
        go_wp2_with fail
        (with_reducible refine SY.out.mono ?_)
        rintro e w5 ⟨rfl, S5, hds, hmv⟩
        have HD5 := Lib.hid hds
        have HF5 := Lib.hid (HF.out.trans hmv)
        clear hds hmv
        go_wp2
        go_end0
        exact ⟨rfl, S5, by rw [HE2.out]; exact HD5.out, HF5.out⟩
      | false =>
        have HE2 := Lib.hid (show clnD D0 first ws = D from by rw [HE1.out, if_neg (by decide)])
        clear HE1
        go_wp2
        go_end0
        exact ⟨rfl, S1, by rw [HE2.out]; exact HD.out, HF.out⟩
end Go.Proofs.Yteggcehjpfmikaa.Wal
namespace Go.Proofs.Yteggcehjpfmikaa.Wal
open Go.ChangeShapes Go.WideShapes Go.ChangeAt Go.RowKit Go.IntWalk Go.Proofs.Mem Go.Proofs.Each Law Go.Proofs.Yteggcehjpfmikaa.Disk
set_option linter.unusedVariables false
set_option linter.unusedSimpArgs false
theorem mv_box {w w' : World} {S S' : Nat → Prop} {t : Nat} {C : Array Value} {T : TypeId} (h : Box w t C T) (hm : Mv w S w' S') (hn : ¬ S t) : Box w' t C T ∧ ¬ S' t :=
  ⟨h.fr hm.fr hn, fun hs => by
    rcases hm.new t hs with h1 | h1
    · exact hn h1
    · have := h.lt; omega⟩
set_option maxRecDepth 100000 in
set_option maxHeartbeats 8000000 in
theorem head_any {w : World} {S : Nat → Prop} {g : Nat} {fv : Nat → Value} {D : Dv} (h : DX w S g fv D) (hw : D.Few 90000) (t : Nat) (H : Hh) (se la : Nat) (sv tv : Value) (X : Box w t (lgC g H se sv tv la) 89) (hn : ¬ S t) (ok : H.Ok) (hst : H.st < 18446744073709551615) (hse : se ≤ 1) (hl : 2 ≤ (D.f 0).length) :
    Calls Try.prog 49 #[.pointer (some ⟨t, 0, none⟩)] w fun e w' => e = .returned (.tuple #[]) ∧ Box w' t (lgC g { H with st := H.st + 1 } ((1 - se : Nat) : Int) sv tv la) 89 ∧ ∃ S', DX w' S' g fv (hdD D (1 - se) (Hh.img { H with st := H.st + 1 })) ∧ Fr (fun x => S x ∨ x = t) w w' ∧ (∀ x, S' x → S x ∨ w.heap.size ≤ x) ∧ ¬ S' t := by
  obtain ⟨st, ar, ba, ch⟩ := H
  have okn := ok
  obtain ⟨⟨k1, k2⟩, k3, k4, k5⟩ := id ok
  dsimp only at k1 k2 hst ⊢
  obtain ⟨sn, hsn⟩ : ∃ sn, st + 1 = sn := ⟨_, rfl⟩
  obtain ⟨en, hen⟩ : ∃ en : Nat, 1 - se = en := ⟨_, rfl⟩
  rw [hsn, hen]
  have q1 : IntKind.u64.wrap (st + 1) = sn := by rw [IntKind.wrap_u64]; omega
  have q2 : IntKind.i64.wrap ((1 : Int) - (se : Int)) = (en : Int) := by rw [IntKind.wrap_i64]; omega
  have ok2 : Hh.Ok ⟨sn, ar, ba, ch⟩ := ⟨by dsimp only; omega, k3, k4, k5⟩
  have c1 : w.cell? ⟨t, 1, none⟩ = some (.int .u64 st) := X.cell 1
  have c5 : w.cell? ⟨t, 5, none⟩ = some (.int .i64 se) := X.cell 5
  have X2 := (X.set_ 1 (.int .u64 sn)).set_ 5 (.int .i64 en)
  have hf2 := ((Fr.refl (fun x => S x ∨ x = t) w).setCell (p := ⟨t, 1, none⟩) (.inl (.inr rfl)) (.int .u64 sn)).setCell (p := ⟨t, 5, none⟩) (.inl (.inr rfl)) (.int .i64 en)
  have hf3 := ((Fr.refl (fun x => x = t) w).setCell (p := ⟨t, 1, none⟩) (.inl rfl) (.int .u64 sn)).setCell (p := ⟨t, 5, none⟩) (.inl rfl) (.int .i64 en)
  simp only [List.setIfInBounds_toArray, List.set_cons_succ, List.set_cons_zero] at X2
  obtain ⟨w2, hw2⟩ : ∃ w2, (w.setCell ⟨t, 1, none⟩ (.int .u64 sn)).setCell ⟨t, 5, none⟩ (.int .i64 en) = w2 := ⟨_, rfl⟩
  rw [hw2] at X2 hf2 hf3
  have f1 := X.frozen 1
  have f5 := (X.set_ 1 (.int .u64 sn)).frozen 5
  have c5' : (w.setCell ⟨t, 1, none⟩ (.int .u64 sn)).cell? ⟨t, 5, none⟩ = some (.int .i64 se) := (X.set_ 1 (.int .u64 sn)).cell 5
  have d2 : DX w2 S g fv D := h.far hf3 (fun x hx hx2 => hn (hx2 ▸ hx))
  have HD2 := Lib.hid (show DX w2.drew S g fv D from d2.later (Below.refl _ _).drew)
  have HX2 := Lib.hid (show Box w2.drew t _ _ from X2)
  have IM := Lib.hid (image_any ⟨sn, ar, ba, ch⟩ ok2 w2.drew)
  have hil := img_len ⟨sn, ar, ba, ch⟩
  have hib := img_bytes ⟨sn, ar, ba, ch⟩ k3
  have hhas : D.has 0 (en : Int) := ⟨by decide, by omega, by omega⟩
  obtain ⟨im, him⟩ : ∃ im, Hh.img ⟨sn, ar, ba, ch⟩ = im := ⟨_, rfl⟩
  rw [him] at IM hil hib ⊢
  have WR := Lib.hid (fun W (hb : Below w2.drew.heap.size w2.drew W) dv (ho : W.ownsRow w2.drew.heap.size 5 1 dv 128 (im.map (.int .u8))) => ds_write (HD2.out.later hb) (hw.more (by omega)) (en : Int) dv im (fun w' hf => own_far_ir ho hil (fun x hx => HD2.out.old x hx) hf) hib hil hhas)
  have HFW := Lib.hid (wrA_few' hw 0 (en : Int) im)
  have HF2 := Lib.hid hf2
  have HN := Lib.hid hn
  have cells : ∀ W, Box W t #[.pointer (some ⟨g, 0, none⟩), .int .u64 sn, .int .u8 ar, .int .u64 ba, .int .u64 ch, .int .i64 en, sv, tv, .int .i64 la] 89 → (W.cell? ⟨t, 0, none⟩ = some (.pointer (some ⟨g, 0, none⟩)) ∧ W.cell? ⟨t, 5, none⟩ = some (.int .i64 en) ∧ W.cell? ⟨t, 1, none⟩ = some (.int .u64 sn) ∧ W.cell? ⟨t, 2, none⟩ = some (.int .u8 ar) ∧ W.cell? ⟨t, 3, none⟩ = some (.int .u64 ba) ∧ W.cell? ⟨t, 4, none⟩ = some (.int .u64 ch)) := fun W X => ⟨X.cell 0, X.cell 5, X.cell 1, X.cell 2, X.cell 3, X.cell 4⟩
  have CL := Lib.hid cells
  clear h hw X hn ok ok2 k1 k2 k3 k4 k5 X2 hf2 hf3 d2 hil hib hhas him hst hsn hen okn cells
  go_enter Try.func49, Try.ntmps49
  go_upto_region 2 with fail
  have K0 := Lib.hid (CL.out _ HX2.out)
  go_region_held3 (fun W => W.cell? ⟨t, 0, none⟩ = some (.pointer (some ⟨g, 0, none⟩)) ∧ W.cell? ⟨t, 5, none⟩ = some (.int .i64 en) ∧ W.cell? ⟨t, 1, none⟩ = some (.int .u64 sn) ∧ W.cell? ⟨t, 2, none⟩ = some (.int .u8 ar) ∧ W.cell? ⟨t, 3, none⟩ = some (.int .u64 ba) ∧ W.cell? ⟨t, 4, none⟩ = some (.int .u64 ch))
    (first | exact K0.out | exact K1.out | exact K2.out | (go_split_ands; first | exact K0.out | exact K1.out | exact K2.out))
    (first
    | (go_at_call 74
       (with_reducible refine IM.out.mono ?_)
       rintro er w3 ⟨u, rfl, ho, hb⟩
       have HO3 := Lib.hid ho
       have HB3 := Lib.hid hb
       have K1 := Lib.hid (CL.out _ (HX2.out.later hb))
       clear ho hb)
    | (go_at_call 60
       (with_reducible refine (WR.out _ HB3.out _ HO3.out).mono ?_)
       rintro er w4 ⟨rfl, S4, hd, hm⟩
       have HD4 := Lib.hid hd
       have HM4 := Lib.hid hm
       have HX4 := Lib.hid (mv_box (HX2.out.later HB3.out) hm HN.out)
       have K2 := Lib.hid (CL.out _ HX4.out.1)
       clear hd hm))
  have c0 := K2.out.1
  have SY := Lib.hid (ds_sync HD4.out (HFW.out.more (by decide)))
  go_wp2_with fail
  (with_reducible refine SY.out.mono ?_)
  rintro e w5 ⟨rfl, S5, hd, hm⟩
  have HD5 := Lib.hid hd
  have HM5 := Lib.hid hm
  clear hd hm c0
  go_wp2
  go_end0
  have hX := HX4.out
  have hm5 := mv_box hX.1 HM5.out hX.2
  have hb : Below w2.heap.size w2 w3 := ((Below.refl w2.heap.size w2).drew).trans HB3.out
  have hmv := ((Mv.of_below hb S).trans HM4.out).trans HM5.out
  refine ⟨rfl, hm5.1, S5, HD5.out, HF2.out.trans' hmv.fr (fun _ _ h => .inl h), fun x hx => ?_, hm5.2⟩
  rcases hmv.new x hx with h1 | h1
  · exact .inl h1
  · exact .inr (Nat.le_trans HF2.out.size h1)
end Go.Proofs.Yteggcehjpfmikaa.Wal
namespace Go.Proofs.Yteggcehjpfmikaa.Wal
open Go.ChangeShapes Go.WideShapes Go.ChangeAt Go.RowKit Go.IntWalk Go.Proofs.Mem Go.Proofs.Each Law Go.Proofs.Yteggcehjpfmikaa.Disk
set_option linter.unusedVariables false
set_option linter.unusedSimpArgs false
def nils (n : Nat) : List (Value × List Int) := List.replicate n (.slice none 0 0, [])
theorem nils_ok (n : Nat) : WantOk (nils n) := fun p hp => .inl (by rw [(List.mem_replicate.1 hp).2]; exact ⟨rfl, rfl⟩)
theorem nils_want (n : Nat) : (nils n).map (fun p => wantB p.2) = List.replicate n z128 := by unfold nils; rw [List.map_replicate]; rfl
theorem nils_len (n : Nat) : (nils n).length = n := by simp [nils]
theorem made_nils (n : Nat) (j : Nat) (hj : j < n) : (madeCells (Value.slice none 0 0).cells (n * 1))[j]? = some (.slice none 0 0) := by
  have : (madeCells (Value.slice none 0 0).cells (n * 1)).toList = List.replicate n (.slice none 0 0) := by
    rw [Nat.mul_one, show (Value.slice none 0 0).cells = #[Value.slice none 0 0] from rfl, toList_madeCells_one]
  rw [← Array.getElem?_toList, this, List.getElem?_replicate, if_pos hj]
theorem nils_sr {w : World} {z n : Nat} {T : TypeId} (X : Box w z (madeCells (Value.slice none 0 0).cells (n * 1)) T) (hn : n ≤ 1000000) : SR w w.heap.size (.slice (some ⟨z, 0, none⟩) n n) (nils n) := by
  refine ⟨some ⟨z, 0, none⟩, n, by rw [nils_len], by rw [nils_len]; exact Nat.le_refl _, by unfold maxLen; omega, fun i hi => ?_⟩
  rw [nils_len] at hi
  refine ⟨z, 0, .slice none 0 0, [], rfl, X.lt, by unfold nils; rw [List.getElem?_replicate, if_pos hi], ?_, IR.nil _ _ _, Bytes.nil⟩
  rw [Nat.zero_add, X.cell]
  exact made_nils n i hi
theorem rows_made (n : Nat) (hn : n ≤ 100000) : ∀ W : World, (Instr.makeSlice 76 (.int .i64 n) (.int .i64 n)).run Try.prog W = .ok (.slice (some ⟨W.heap.size, 0, none⟩) n n) (W.alloc (.cells (madeCells (Value.slice none 0 0).cells (n * 1)) 48)) := by
  obtain ⟨i0, hi0, hz0, hz1, hz2⟩ := info_parts Disk.bs_info
  obtain ⟨AC, hAC, hACs, hACr⟩ := made_run (P := Try.prog) (t := 76) (e := 48) (z := .slice none 0 0) Try.underlying76 hi0 hz0 hz1 n n (Nat.le_refl _) (by rw [hz2]; omega) (by omega)
  intro W
  rw [← hAC]
  exact hACr W
set_option maxRecDepth 100000 in
set_option maxHeartbeats 8000000 in
theorem new_any {w : World} {S : Nat → Prop} {g : Nat} {fv : Nat → Value} {D : Dv} (h : DX w S g fv D) (m : Nat) (hw : D.Few m) (hm : m ≤ 80000) (hs : 8 ≤ sz D) :
    Calls Try.prog 28 #[.pointer (some ⟨g, 0, none⟩)] w fun e w' => ∃ t S', e = .returned (.tuple #[.pointer (some ⟨t, 0, none⟩), .int .u16 0]) ∧ Box w' t (lgC g ⟨1, 0, 1, 0⟩ 0 (.slice none 0 0) (.slice none 0 0) 0) 89 ∧ DX w' S' g fv (hdD (clnD D 0 (List.replicate (D.f 0).length z128)) 0 (Hh.img ⟨1, 0, 1, 0⟩)) ∧ Mv w S w' S' ∧ ¬ S' t ∧ w.heap.size ≤ t := by
  have hlen := h.lens 0 (by decide)
  have hl : 18 ≤ (D.f 0).length := by unfold sz at hs; omega
  obtain ⟨col, uv, h'⟩ := id h
  have CS := Lib.hid (wsize_any w h' (by omega))
  have CZ := Lib.hid (siz_any h' 0 0 rfl (by decide))
  have e0 : D.siz 0 = (D.f 0).length := if_pos (by decide)
  rw [e0] at CZ
  obtain ⟨q, hq⟩ : ∃ q, sz D = q := ⟨_, rfl⟩
  rw [hq] at CS hs
  have d1 : decide ((q : Int) < 8) = false := by simp; omega
  obtain ⟨n, hn⟩ : ∃ n, (D.f 0).length = n := ⟨_, rfl⟩
  rw [hn] at CZ hlen hl ⊢
  have MK := rows_made n (by omega) w
  have b1 := new_ (Below.refl w.heap.size w) (.cells (madeCells (Value.slice none 0 0).cells (n * 1)) 48)
  have X1 := Box.new w (madeCells (Value.slice none 0 0).cells (n * 1)) 48
  obtain ⟨w1, hw1⟩ : ∃ w1, w.alloc (.cells (madeCells (Value.slice none 0 0).cells (n * 1)) 48) = w1 := ⟨_, rfl⟩
  rw [hw1] at MK b1 X1
  have CC := clean_any (h.later b1) m hw (by omega) 0 _ (nils n) (fun w' S' hm => nils_sr (X1.fr hm.fr (fun hs => by have := h.old _ hs; omega)) (by omega)) (nils_ok n) (by rw [nils_len, hn]; omega)
  rw [nils_want, show ((0 : Nat) : Int) = 0 from rfl] at CC
  have HCC := Lib.hid CC
  have HB1 := Lib.hid b1
  have hcf := clnD_few 0 (List.replicate n z128) hw
  rw [List.length_replicate] at hcf
  have HCF := Lib.hid (hcf.more (show m + n ≤ 90000 by omega))
  have HCL := Lib.hid (show 2 ≤ ((clnD D 0 (List.replicate n z128)).f 0).length by rw [clnD_lens, hn]; omega)
  obtain ⟨D2, hD2⟩ : ∃ D2, clnD D 0 (List.replicate n z128) = D2 := ⟨_, rfl⟩
  rw [hD2] at HCC HCF HCL ⊢
  clear h h' hq hn e0 X1 b1 CC hcf hD2 hw
  go_enter Try.func28, Try.ntmps28
  go_wp2_with (first
    | (go_at_call 33
       (with_reducible refine CS.out.mono ?_)
       rintro er w3 ⟨rfl, rfl⟩)
    | (go_at_call 50
       (with_reducible refine CZ.out.mono ?_)
       rintro er w3 ⟨rfl, rfl⟩)
    | (go_at_call 39
       (with_reducible refine HCC.out.mono ?_)
       rintro er w3 ⟨rfl, S3, hd, hm3⟩
       have HD3 := Lib.hid hd
       have HM3 := Lib.hid hm3
       have b4 := new_ (Below.refl w3.heap.size w3) (.cells (lgC g ⟨0, 0, 1, 0⟩ 1 (.slice none 0 0) (.slice none 0 0) 0) 89)
       have X4 := Box.new w3 (lgC g ⟨0, 0, 1, 0⟩ 1 (.slice none 0 0) (.slice none 0 0) 0) 89
       obtain ⟨w4, hw4⟩ : ∃ w4, w3.alloc (.cells (lgC g ⟨0, 0, 1, 0⟩ 1 (.slice none 0 0) (.slice none 0 0) 0) 89) = w4 := ⟨_, rfl⟩
       rw [hw4] at b4 X4
       have CH := Lib.hid (head_any (HD3.out.later b4) HCF.out w3.heap.size ⟨0, 0, 1, 0⟩ 1 0 _ _ X4 (fun hs => by have := HD3.out.old _ hs; omega) ⟨by decide, by decide, by decide, by decide⟩ (by decide) (by decide) HCL.out)
       have HB4 := Lib.hid b4
       clear hd hm3 b4 X4)
    | (go_at_call 49
       (with_reducible refine CH.out.mono ?_)
       rintro er w5 ⟨rfl, X5, S5, hd5, hf5, hn5, ht5⟩
       have HX5 := Lib.hid X5
       have HD5 := Lib.hid hd5
       have HF5 := Lib.hid hf5
       have HN5 := Lib.hid hn5
       have HT5 := Lib.hid ht5
       clear X5 hd5 hf5 hn5 ht5))
  go_ret2
  have hm4 : Mv w S w4 S3 := ((Mv.of_below HB1.out S).trans HM3.out).later HB4.out
  have hz3 := hm4.fr.size
  have hw3 := ((Mv.of_below HB1.out S).trans HM3.out).fr.size
  refine ⟨w3.heap.size, S5, rfl, HX5.out, HD5.out, ⟨hm4.fr.trans' HF5.out (fun i hi hi2 => ?_), fun x hx => ?_⟩, HT5.out, hw3⟩
  · rcases hi2 with h1 | h1
    · exact (hm4.new i h1).resolve_right (by omega)
    · omega
  · rcases HN5.out x hx with h1 | h1
    · exact hm4.new x h1
    · exact .inr (by omega)
end Go.Proofs.Yteggcehjpfmikaa.Wal
namespace Go.Proofs.Yteggcehjpfmikaa.Rec
open Go.ChangeShapes Go.WideShapes Go.ChangeAt Go.RowKit Go.IntWalk Go.Proofs.NumMath Go.Proofs.Mem Go.Proofs.CrcMath NumBytes CrcA
set_option linter.unusedVariables false
set_option linter.unusedSimpArgs false
theorem u8_wrap {x : Int} (h0 : 0 ≤ x) (h1 : x ≤ 255) : IntKind.u8.wrap x = x := by rw [IntKind.wrap_u8]; omega
theorem u32_wrap {x : Int} (h0 : 0 ≤ x) (h1 : x ≤ 4294967295) : IntKind.u32.wrap x = x := by rw [IntKind.wrap_u32]; omega
theorem box_same {w : World} {g : Nat} {C : Array Value} {t : TypeId} (h : Box w g C t) (i : Nat) (u : Value) (hu : C[i]? = some u) : Box (w.setCell ⟨g, i, none⟩ u) g C t := by
  have e : C.setIfInBounds i u = C := by
    apply Array.ext_getElem?
    intro j
    rw [Array.getElem?_setIfInBounds]
    split
    · rename_i e
      subst e
      rw [if_pos (Array.getElem?_eq_some_iff.1 hu).1, hu]
    · rfl
  have := h.set_ i u
  rwa [e] at this
theorem made3 (w : World) (B : Nat) (hB : B ≤ w.heap.size) (v : Value) (xs : List Int) (hv : IR w B .u8 v xs) :
    Box (((w.alloc (.cells (bareC 0 0 0 0) 54)).alloc (.cells #[.bool false] 4)).alloc (.cells #[v] 151)) (w.heap.size) (bareC 0 0 0 0) 54 ∧
    Box (((w.alloc (.cells (bareC 0 0 0 0) 54)).alloc (.cells #[.bool false] 4)).alloc (.cells #[v] 151)) (w.heap.size + 1) #[.bool false] 4 ∧
    Rd (((w.alloc (.cells (bareC 0 0 0 0) 54)).alloc (.cells #[.bool false] 4)).alloc (.cells #[v] 151)) (w.heap.size + 1 + 1) B v xs := by
  have b1 := ((Box.new w (bareC 0 0 0 0) 54).alloc (.cells #[.bool false] 4)).alloc (.cells #[v] 151)
  have b2 := (Box.new (w.alloc (.cells (bareC 0 0 0 0) 54)) #[.bool false] 4).alloc (.cells #[v] 151)
  have b3 := Box.new ((w.alloc (.cells (bareC 0 0 0 0) 54)).alloc (.cells #[.bool false] 4)) #[v] 151
  rw [World.size_alloc] at b2
  rw [World.size_alloc, World.size_alloc] at b3
  exact ⟨b1, b2, b3, ((hv.alloc hB _).alloc (by simp; omega) _).alloc (by simp; omega) _, by omega⟩
set_option maxRecDepth 100000 in
set_option maxHeartbeats 16000000 in
theorem decode_bare (k t p n : Int) (hk : k = 1 ∨ (4 ≤ k ∧ k ≤ 7)) (ht : 0 ≤ t ∧ t ≤ 4294967295) (hp : 0 ≤ p ∧ p ≤ 18446744073709551615) (hn : 0 ≤ n ∧ n ≤ 18446744073709551615) (w : World) (B : Nat) (hB : B ≤ w.heap.size) (v : Value) (hv : IR w B .u8 v (bareB k t p n)) :
    Calls Try.prog 78 #[v] w fun e w' => e = .returned (.tuple #[.agg (bareC k t p n), .bool true]) ∧ Below w.heap.size w w' := by
  have hmf : ∀ (fn : Fn) (first cap : Array Value) (w : World), (Instr.makeFunc fn first cap).run Try.prog w = .ok (.func fn first cap) w := fun _ _ _ _ => rfl
  obtain ⟨A0, c0, hv0, hl0, hm0⟩ := hv.form
  obtain ⟨L0, hL0⟩ : ∃ L, L = (bareB k t p n).length := ⟨_, rfl⟩
  rw [← hL0] at hv0 hl0
  subst hv0
  clear hL0
  obtain ⟨C, hC⟩ : ∃ C, C = tn (sumF 0#32 (bodyB k t p n)) := ⟨_, rfl⟩
  have hCb := tn_bd (sumF 0#32 (bodyB k t p n))
  rw [← hC] at hCb
  have wC := u64_wrap (x := C) (by omega) (by omega)
  have wk := u8_wrap (x := k) (by omega) (by omega)
  have wt := u32_wrap (x := t) (by omega) (by omega)
  have dC : (C != C) = false := by simp
  have d8 : (k == 8) = false := by simp; omega
  have hk' : k = 1 ∨ (4 ≤ k ∧ k ≤ 8) := by omega
  have hbody : bodyB k t p n = putS k 1 ++ (putS t 4 ++ (putS p 8 ++ (putS n 8 ++ []))) := by simp [bodyB, List.append_assoc]
  have hbare : bareB k t p n = putS 27 2 ++ (putS C 4 ++ bodyB k t p n) := by simp [bareB, hC, List.append_assoc]
  have y4 : Bytes (putS n 8 ++ []) := (putS_bytes _ _).app Bytes.nil
  have y3 := (putS_bytes p 8).app y4
  have y2 := (putS_bytes t 4).app y3
  have y1 := bodyB_bytes k t p n
  have MB := fun W => Lib.hid (may_bare k t p n hk W)
  have CH := fun W => Lib.hid (changes_no k hk' W)
  have N1 := fun W g v (h : Rd W g B v (putS 27 2 ++ (putS C 4 ++ bodyB k t p n))) => Lib.hid (rnumber_put W g B v 27 2 2 rfl _ h ((putS_bytes C 4).app y1) (by decide) (by decide) (by decide))
  have N2 := fun W g v (h : Rd W g B v (putS C 4 ++ bodyB k t p n)) => Lib.hid (rnumber_put W g B v C 4 4 rfl _ h y1 (by decide) hCb.1 (by show C < 4294967296; omega))
  have N3 := fun W g v (h : Rd W g B v (putS k 1 ++ (putS t 4 ++ (putS p 8 ++ (putS n 8 ++ []))))) => Lib.hid (rnumber_put W g B v k 1 1 rfl _ h y2 (by decide) (by omega) (by show k < 256; omega))
  have N4 := fun W g v (h : Rd W g B v (putS t 4 ++ (putS p 8 ++ (putS n 8 ++ [])))) => Lib.hid (rnumber_put W g B v t 4 4 rfl _ h y3 (by decide) ht.1 (by show t < 4294967296; omega))
  have N5 := fun W g v (h : Rd W g B v (putS p 8 ++ (putS n 8 ++ []))) => Lib.hid (rnumber_put W g B v p 8 8 rfl _ h y4 (by decide) hp.1 (by show p < 18446744073709551616; omega))
  have N6 := fun W g v (h : Rd W g B v (putS n 8 ++ [])) => Lib.hid (rnumber_put W g B v n 8 8 rfl _ h Bytes.nil (by decide) hn.1 (by show n < 18446744073709551616; omega))
  have SU : ∀ (W : World) v (h : IR W W.heap.size .u8 v (bodyB k t p n)), Calls Try.prog 71 #[.slice (some ⟨W.heap.size, 0, none⟩) 1 1] (W.alloc (.cells #[v] 48)) fun e w' => e = .returned (.int .u32 C) ∧ W.alloc (.cells #[v] 48) = w' := fun W v h => by rw [hC]; exact sum_one v _ W h (bodyB_bytes k t p n)
  rw [hbare] at hv
  obtain ⟨mr, mk, mg⟩ := made3 w B hB _ _ hv
  have MR := Lib.hid mr
  have MK := Lib.hid mk
  have MG := Lib.hid mg
  have SU' := Lib.hid SU
  have HY := Lib.hid hbody
  clear SU hbare hbody hC hCb hk hk' ht hp hn hv mr mk mg y1 y2 y3 y4
  go_enter_defers Try.func78, Try.ntmps78
  go_wp2_with (first
    | (go_at_call 88; (with_reducible refine (N1 _ _ _ MG.out).out.mono ?_); rintro e w1 ⟨rfl, ⟨v1, rd1⟩, fr1⟩
       have RD1 := Lib.hid rd1
       have R1 := Lib.hid ((MR.out).fr fr1 (by omega))
       have K1 := Lib.hid ((MK.out).fr fr1 (by omega))
       have F1 := Lib.hid (((((Fr.refl (fun x => w.heap.size ≤ x) w).alloc _).alloc _).alloc _).trans' fr1 (fun x _ hx => by rw [hx]; omega))
       skip
       clear rd1 fr1)
    | (go_at_call 88; (with_reducible refine (N2 _ _ _ RD1.out).out.mono ?_); rintro e w2 ⟨rfl, ⟨v2, rd2⟩, fr2⟩
       have RD2 := Lib.hid rd2
       have R2 := Lib.hid ((R1.out).fr fr2 (by omega))
       have K2 := Lib.hid ((K1.out).fr fr2 (by omega))
       have F2 := Lib.hid (F1.out.trans' fr2 (fun x _ hx => by rw [hx]; omega))
       obtain ⟨A2, c2, rfl, hl2, hm2⟩ := RD2.out.ir.form
       have hm2' : c2 ≤ 9223372036854775807 := by unfold maxLen at hm2; omega
       have x2 : w2.cell? ⟨w.heap.size + 1 + 1, 0, none⟩ = some (.slice A2 (bodyB k t p n).length c2) := RD2.out.box.cell 0
       have S2 := Lib.hid (SU'.out w2 _ (RD2.out.ir.more (Nat.le_trans RD2.out.le (Nat.le_of_lt RD2.out.box.lt))))
       have rd2' := RD2.out.alloc (.cells #[.slice A2 (bodyB k t p n).length c2] 48)
       rw [show Rd (w2.alloc (.cells #[.slice A2 (bodyB k t p n).length c2] 48)) (w.heap.size + 1 + 1) B (.slice A2 (bodyB k t p n).length c2) (bodyB k t p n) = Rd (w2.alloc (.cells #[.slice A2 (bodyB k t p n).length c2] 48)) (w.heap.size + 1 + 1) B (.slice A2 (bodyB k t p n).length c2) (putS k 1 ++ (putS t 4 ++ (putS p 8 ++ (putS n 8 ++ [])))) by rw [← HY.out]] at rd2'
       have RD2' := Lib.hid rd2'
       clear rd2'
       clear rd2 fr2)
    | (go_at_call 71; (with_reducible refine S2.out.mono ?_); rintro e w22 ⟨rfl, rfl⟩)
    | (go_at_call 88; (with_reducible refine (N3 _ _ _ RD2'.out).out.mono ?_); rintro e w3 ⟨rfl, ⟨v3, rd3⟩, fr3⟩
       have RD3 := Lib.hid rd3
       have R3 := Lib.hid ((R2.out.alloc _).fr fr3 (by omega))
       have K3 := Lib.hid ((K2.out.alloc _).fr fr3 (by omega))
       have F3 := Lib.hid ((F2.out.alloc _).trans' fr3 (fun x _ hx => by rw [hx]; omega))
       have x3 := R3.out.cell 0
       have y3 := R3.out.frozen 0
       simp only [List.getElem?_toArray, List.getElem?_cons_zero, List.getElem?_cons_succ, List.setIfInBounds_toArray, List.set_cons_zero, List.set_cons_succ] at x3
       clear rd3 fr3)
    | (go_at_call 88; (with_reducible refine (N4 _ _ _ (RD3.out.set (p := ⟨w.heap.size, 0, none⟩) (by simp; omega) hB (.int .u8 k))).out.mono ?_); rintro e w4 ⟨rfl, ⟨v4, rd4⟩, fr4⟩
       have RD4 := Lib.hid rd4
       have R4 := Lib.hid ((R3.out.set_ 0 (.int .u8 k)).fr fr4 (by omega))
       have K4 := Lib.hid ((K3.out.far (p := ⟨w.heap.size, 0, none⟩) (by simp) (.int .u8 k)).fr fr4 (by omega))
       have F4 := Lib.hid ((F3.out.setCell (p := ⟨w.heap.size, 0, none⟩) (.inl (Nat.le_refl _)) _).trans' fr4 (fun x _ hx => by rw [hx]; omega))
       have x4 := R4.out.cell 1
       have y4 := R4.out.frozen 1
       simp only [List.getElem?_toArray, List.getElem?_cons_zero, List.getElem?_cons_succ, List.setIfInBounds_toArray, List.set_cons_zero, List.set_cons_succ] at x4
       clear rd4 fr4)
    | (go_at_call 88; (with_reducible refine (N5 _ _ _ (RD4.out.set (p := ⟨w.heap.size, 1, none⟩) (by simp; omega) hB (.int .u32 t))).out.mono ?_); rintro e w5 ⟨rfl, ⟨v5, rd5⟩, fr5⟩
       have RD5 := Lib.hid rd5
       have R5 := Lib.hid ((R4.out.set_ 1 (.int .u32 t)).fr fr5 (by omega))
       have K5 := Lib.hid ((K4.out.far (p := ⟨w.heap.size, 1, none⟩) (by simp) (.int .u32 t)).fr fr5 (by omega))
       have F5 := Lib.hid ((F4.out.setCell (p := ⟨w.heap.size, 1, none⟩) (.inl (Nat.le_refl _)) _).trans' fr5 (fun x _ hx => by rw [hx]; omega))
       have x5 := R5.out.cell 2
       have y5 := R5.out.frozen 2
       simp only [List.getElem?_toArray, List.getElem?_cons_zero, List.getElem?_cons_succ, List.setIfInBounds_toArray, List.set_cons_zero, List.set_cons_succ] at x5
       clear rd5 fr5)
    | (go_at_call 88; (with_reducible refine (N6 _ _ _ (RD5.out.set (p := ⟨w.heap.size, 2, none⟩) (by simp; omega) hB (.int .u64 p))).out.mono ?_); rintro e w6 ⟨rfl, ⟨v6, rd6⟩, fr6⟩
       have RD6 := Lib.hid rd6
       have R6 := Lib.hid ((R5.out.set_ 2 (.int .u64 p)).fr fr6 (by omega))
       have K6 := Lib.hid ((K5.out.far (p := ⟨w.heap.size, 2, none⟩) (by simp) (.int .u64 p)).fr fr6 (by omega))
       have F6 := Lib.hid ((F5.out.setCell (p := ⟨w.heap.size, 2, none⟩) (.inl (Nat.le_refl _)) _).trans' fr6 (fun x _ hx => by rw [hx]; omega))
       have x6 := R6.out.cell 3
       have y6 := R6.out.frozen 3
       simp only [List.getElem?_toArray, List.getElem?_cons_zero, List.getElem?_cons_succ, List.setIfInBounds_toArray, List.set_cons_zero, List.set_cons_succ] at x6
       have a6_0 : w6.cell? ⟨w.heap.size, 0, none⟩ = some (.int .u8 k) := R6.out.cell 0
       have a6_1 : w6.cell? ⟨w.heap.size, 1, none⟩ = some (.int .u32 t) := R6.out.cell 1
       have a6_2 : w6.cell? ⟨w.heap.size, 2, none⟩ = some (.int .u64 p) := R6.out.cell 2
       have a6_4 : w6.cell? ⟨w.heap.size, 4, none⟩ = some (.int .u32 0) := R6.out.cell 4
       have a6_5 : w6.cell? ⟨w.heap.size, 5, none⟩ = some (.int .u16 0) := R6.out.cell 5
       have a6_6 : w6.cell? ⟨w.heap.size, 6, none⟩ = some (.bool false) := R6.out.cell 6
       have a6_7 : w6.cell? ⟨w.heap.size, 7, none⟩ = some (.bool false) := R6.out.cell 7
       have a6_8 : w6.cell? ⟨w.heap.size, 8, none⟩ = some (.slice none 0 0) := R6.out.cell 8
       have a6_9 : w6.cell? ⟨w.heap.size, 9, none⟩ = some (.slice none 0 0) := R6.out.cell 9
       have a6_10 : w6.cell? ⟨w.heap.size, 10, none⟩ = some (.slice none 0 0) := R6.out.cell 10
       have a6_11 : w6.cell? ⟨w.heap.size, 11, none⟩ = some (.slice none 0 0) := R6.out.cell 11
       obtain ⟨A6, c6, rfl, hl6, hm6⟩ := RD6.out.ir.form
       have g6 : w6.cell? ⟨w.heap.size + 1 + 1, 0, none⟩ = some (.slice A6 0 c6) := RD6.out.box.cell 0
       have R7 : Hid (Box (w6.setCell ⟨w.heap.size, 3, none⟩ (.int .u64 n)) w.heap.size (bareC k t p n) 54) := Lib.hid (R6.out.set_ 3 (.int .u64 n))
       have K7 := Lib.hid (K6.out.far (p := ⟨w.heap.size, 3, none⟩) (by simp) (.int .u64 n))
       have F7 := Lib.hid (F6.out.setCell (p := ⟨w.heap.size, 3, none⟩) (.inl (Nat.le_refl _)) (.int .u64 n))
       clear rd6 fr6)
    | (go_at_call 67; (with_reducible refine (CH _).out.mono ?_); rintro e w7 ⟨rfl, rfl⟩)
    | (go_at_call 65; (with_reducible refine (MB _).out.mono ?_); rintro e w8 ⟨rfl, hb8⟩
       have R8 := Lib.hid (R7.out.later hb8)
       have K8 := Lib.hid (K7.out.later hb8)
       have F8 := Lib.hid (F7.out.trans (.of_below hb8))
       have a8_0 : w8.cell? ⟨w.heap.size, 0, none⟩ = some (.int .u8 k) := R8.out.cell 0
       have f8_0 := R8.out.frozen 0
       have a8_1 : w8.cell? ⟨w.heap.size, 1, none⟩ = some (.int .u32 t) := R8.out.cell 1
       have f8_1 := R8.out.frozen 1
       have a8_2 : w8.cell? ⟨w.heap.size, 2, none⟩ = some (.int .u64 p) := R8.out.cell 2
       have f8_2 := R8.out.frozen 2
       have a8_3 : w8.cell? ⟨w.heap.size, 3, none⟩ = some (.int .u64 n) := R8.out.cell 3
       have f8_3 := R8.out.frozen 3
       have a8_4 : w8.cell? ⟨w.heap.size, 4, none⟩ = some (.int .u32 0) := R8.out.cell 4
       have f8_4 := R8.out.frozen 4
       have a8_5 : w8.cell? ⟨w.heap.size, 5, none⟩ = some (.int .u16 0) := R8.out.cell 5
       have f8_5 := R8.out.frozen 5
       have a8_6 : w8.cell? ⟨w.heap.size, 6, none⟩ = some (.bool false) := R8.out.cell 6
       have f8_6 := R8.out.frozen 6
       have a8_7 : w8.cell? ⟨w.heap.size, 7, none⟩ = some (.bool false) := R8.out.cell 7
       have f8_7 := R8.out.frozen 7
       have a8_8 : w8.cell? ⟨w.heap.size, 8, none⟩ = some (.slice none 0 0) := R8.out.cell 8
       have f8_8 := R8.out.frozen 8
       have a8_9 : w8.cell? ⟨w.heap.size, 9, none⟩ = some (.slice none 0 0) := R8.out.cell 9
       have f8_9 := R8.out.frozen 9
       have a8_10 : w8.cell? ⟨w.heap.size, 10, none⟩ = some (.slice none 0 0) := R8.out.cell 10
       have f8_10 := R8.out.frozen 10
       have a8_11 : w8.cell? ⟨w.heap.size, 11, none⟩ = some (.slice none 0 0) := R8.out.cell 11
       have f8_11 := R8.out.frozen 11
       have a8k : w8.cell? ⟨w.heap.size + 1, 0, none⟩ = some (.bool false) := K8.out.cell 0
       have f8k := K8.out.frozen 0
       clear hb8))
  generalize hW : (World.setCell _ (⟨w.heap.size + 1, 0, none⟩ : Addr) _) = W9
  have hb9 : Box W9 w.heap.size (bareC k t p n) 54 := by rw [← hW]; exact Box.far (box_same (box_same (box_same (box_same (box_same (box_same (box_same (box_same (box_same (box_same (box_same (box_same (R8.out) 0 (.int .u8 k) rfl) 1 (.int .u32 t) rfl) 2 (.int .u64 p) rfl) 3 (.int .u64 n) rfl) 4 (.int .u32 0) rfl) 5 (.int .u16 0) rfl) 6 (.bool false) rfl) 7 (.bool false) rfl) 8 (.slice none 0 0) rfl) 9 (.slice none 0 0) rfl) 10 (.slice none 0 0) rfl) 11 (.slice none 0 0) rfl) (p := ⟨w.heap.size + 1, 0, none⟩) (Nat.ne_of_lt (Nat.lt_succ_self _)) (.bool true)
  have hk9 : Box W9 (w.heap.size + 1) #[.bool true] 4 := by rw [← hW]; exact Box.set_ (Box.far (Box.far (Box.far (Box.far (Box.far (Box.far (Box.far (Box.far (Box.far (Box.far (Box.far (Box.far (K8.out) (p := ⟨w.heap.size, 0, none⟩) (Nat.ne_of_gt (Nat.lt_succ_self _)) (.int .u8 k)) (p := ⟨w.heap.size, 1, none⟩) (Nat.ne_of_gt (Nat.lt_succ_self _)) (.int .u32 t)) (p := ⟨w.heap.size, 2, none⟩) (Nat.ne_of_gt (Nat.lt_succ_self _)) (.int .u64 p)) (p := ⟨w.heap.size, 3, none⟩) (Nat.ne_of_gt (Nat.lt_succ_self _)) (.int .u64 n)) (p := ⟨w.heap.size, 4, none⟩) (Nat.ne_of_gt (Nat.lt_succ_self _)) (.int .u32 0)) (p := ⟨w.heap.size, 5, none⟩) (Nat.ne_of_gt (Nat.lt_succ_self _)) (.int .u16 0)) (p := ⟨w.heap.size, 6, none⟩) (Nat.ne_of_gt (Nat.lt_succ_self _)) (.bool false)) (p := ⟨w.heap.size, 7, none⟩) (Nat.ne_of_gt (Nat.lt_succ_self _)) (.bool false)) (p := ⟨w.heap.size, 8, none⟩) (Nat.ne_of_gt (Nat.lt_succ_self _)) (.slice none 0 0)) (p := ⟨w.heap.size, 9, none⟩) (Nat.ne_of_gt (Nat.lt_succ_self _)) (.slice none 0 0)) (p := ⟨w.heap.size, 10, none⟩) (Nat.ne_of_gt (Nat.lt_succ_self _)) (.slice none 0 0)) (p := ⟨w.heap.size, 11, none⟩) (Nat.ne_of_gt (Nat.lt_succ_self _)) (.slice none 0 0)) 0 (.bool true)
  have hf9 : Fr (fun x => w.heap.size ≤ x) w W9 := by rw [← hW]; exact Fr.setCell (Fr.setCell (Fr.setCell (Fr.setCell (Fr.setCell (Fr.setCell (Fr.setCell (Fr.setCell (Fr.setCell (Fr.setCell (Fr.setCell (Fr.setCell (Fr.setCell (F8.out) (p := ⟨w.heap.size, 0, none⟩) (.inl (Nat.le_refl _)) (.int .u8 k)) (p := ⟨w.heap.size, 1, none⟩) (.inl (Nat.le_refl _)) (.int .u32 t)) (p := ⟨w.heap.size, 2, none⟩) (.inl (Nat.le_refl _)) (.int .u64 p)) (p := ⟨w.heap.size, 3, none⟩) (.inl (Nat.le_refl _)) (.int .u64 n)) (p := ⟨w.heap.size, 4, none⟩) (.inl (Nat.le_refl _)) (.int .u32 0)) (p := ⟨w.heap.size, 5, none⟩) (.inl (Nat.le_refl _)) (.int .u16 0)) (p := ⟨w.heap.size, 6, none⟩) (.inl (Nat.le_refl _)) (.bool false)) (p := ⟨w.heap.size, 7, none⟩) (.inl (Nat.le_refl _)) (.bool false)) (p := ⟨w.heap.size, 8, none⟩) (.inl (Nat.le_refl _)) (.slice none 0 0)) (p := ⟨w.heap.size, 9, none⟩) (.inl (Nat.le_refl _)) (.slice none 0 0)) (p := ⟨w.heap.size, 10, none⟩) (.inl (Nat.le_refl _)) (.slice none 0 0)) (p := ⟨w.heap.size, 11, none⟩) (.inl (Nat.le_refl _)) (.slice none 0 0)) (p := ⟨w.heap.size + 1, 0, none⟩) (.inl (Nat.le_succ _)) (.bool true)
  clear hW
  have HB9 := Lib.hid hf9
  refine leaves_cons (f := 87) (args := #[.pointer (some ⟨w.heap.size, 0, none⟩), .pointer (some ⟨w.heap.size + 1, 0, none⟩)]) (by simp) (by simp [go_sem]) ?_
  refine (catch_none w.heap.size (w.heap.size + 1) _).mono ?_
  rintro en u' w'' ⟨rfl, rfl, rfl⟩
  have b9_0 : W9.cell? ⟨w.heap.size, 0, none⟩ = some (.int .u8 k) := hb9.cell 0
  have b9_1 : W9.cell? ⟨w.heap.size, 1, none⟩ = some (.int .u32 t) := hb9.cell 1
  have b9_2 : W9.cell? ⟨w.heap.size, 2, none⟩ = some (.int .u64 p) := hb9.cell 2
  have b9_3 : W9.cell? ⟨w.heap.size, 3, none⟩ = some (.int .u64 n) := hb9.cell 3
  have b9_4 : W9.cell? ⟨w.heap.size, 4, none⟩ = some (.int .u32 0) := hb9.cell 4
  have b9_5 : W9.cell? ⟨w.heap.size, 5, none⟩ = some (.int .u16 0) := hb9.cell 5
  have b9_6 : W9.cell? ⟨w.heap.size, 6, none⟩ = some (.bool false) := hb9.cell 6
  have b9_7 : W9.cell? ⟨w.heap.size, 7, none⟩ = some (.bool false) := hb9.cell 7
  have b9_8 : W9.cell? ⟨w.heap.size, 8, none⟩ = some (.slice none 0 0) := hb9.cell 8
  have b9_9 : W9.cell? ⟨w.heap.size, 9, none⟩ = some (.slice none 0 0) := hb9.cell 9
  have b9_10 : W9.cell? ⟨w.heap.size, 10, none⟩ = some (.slice none 0 0) := hb9.cell 10
  have b9_11 : W9.cell? ⟨w.heap.size, 11, none⟩ = some (.slice none 0 0) := hb9.cell 11
  have b9_k : W9.cell? ⟨w.heap.size + 1, 0, none⟩ = some (.bool true) := hk9.cell 0
  refine ⟨.tuple #[.agg (bareC k t p n), .bool true], ?_, rfl, ?_⟩
  · simp [results, Try.results78, go_sem, b9_0, b9_1, b9_2, b9_3, b9_4, b9_5, b9_6, b9_7, b9_8, b9_9, b9_10, b9_11, b9_k, bareC]
  · exact HB9.out.to_below (fun x hx => hx) (Nat.le_refl _)
end Go.Proofs.Yteggcehjpfmikaa.Rec
namespace Go.Proofs.Yteggcehjpfmikaa.Rec
open Go.ChangeShapes Go.WideShapes Go.ChangeAt Go.RowKit Go.IntWalk Go.Proofs.NumMath Go.Proofs.Mem Go.Proofs.CrcMath NumBytes CrcA
set_option linter.unusedVariables false
set_option linter.unusedSimpArgs false
set_option maxHeartbeats 2000000 in
theorem decode_few (A : Option Addr) (l c : Nat) (hl : l < 27) (w : World) : Calls Try.prog 55 #[.slice A l c] w fun e w' => e = .returned (.tuple #[.agg (bareC 0 0 0 0), .int .i64 0, .int .u16 60]) ∧ Below w.heap.size w w' := by
  have d1 : decide ((l : Int) < 27) = true := by simp; omega
  go_enter Try.func55, Try.ntmps55
  go_wp2
  refine bodyPost_ret (v := .tuple #[.agg (bareC 0 0 0 0), .int .i64 0, .int .u16 60]) (by simp [results, Try.results55, go_sem]; try rfl) rfl ?_
  exact ⟨rfl, new_ (Below.refl _ _) _⟩
set_option maxRecDepth 100000 in
set_option maxHeartbeats 8000000 in
theorem decode_all (k t p n : Int) (hk : k = 1 ∨ (4 ≤ k ∧ k ≤ 7)) (ht : 0 ≤ t ∧ t ≤ 4294967295) (hp : 0 ≤ p ∧ p ≤ 18446744073709551615) (hn : 0 ≤ n ∧ n ≤ 18446744073709551615) (w : World) (B : Nat) (hB : B ≤ w.heap.size) (A : Option Addr) (c : Nat) (hv : IR w B .u8 (.slice A 27 c) (bareB k t p n)) :
    Calls Try.prog 55 #[.slice A 27 c] w fun e w' => e = .returned (.tuple #[.agg (bareC k t p n), .int .i64 27, .int .u16 0]) ∧ Below w.heap.size w w' := by
  have hc : 27 ≤ c ∧ c ≤ 9223372036854775807 := by
    obtain ⟨A', c', e, h1, h2⟩ := hv.form
    injection e with e1 e2 e3
    rw [bareB_len] at h1
    subst e3
    exact ⟨h1, by unfold maxLen at h2; omega⟩
  obtain ⟨hc1, hc2⟩ := hc
  have hz : IR (w.alloc (.cells (bareC 0 0 0 0) 54)) B .u8 (.slice A 27 c) (bareB k t p n) := hv.alloc hB _
  have GT : ∀ W, IR W B .u8 (.slice A 2 c) (putS 27 2) → Calls Try.prog 77 #[.slice A 2 c] W fun e w' => e = .returned (.int .u64 27) ∧ W = w' := fun W h => by
    have := get_any _ _ W B h (putS_bytes 27 2)
    rwa [get_put 27 2 (by decide), show (27 : Int) % 2 ^ (8 * 2) = 27 by decide] at this
  have h2 : IR (w.alloc (.cells (bareC 0 0 0 0) 54)) B .u8 (.slice A 2 c) (putS 27 2) := by
    have := hz.take (m := 2) (by decide)
    rwa [show (bareB k t p n).take 2 = putS 27 2 by rw [bareB, List.append_assoc, List.take_left' (putS_len 27 2)]] at this
  have G2 := Lib.hid (GT _ h2)
  have DB := Lib.hid (decode_bare k t p n hk ht hp hn (w.alloc (.cells (bareC 0 0 0 0) 54)) B (by simp; omega) _ hz)
  have R0 := Lib.hid (Box.new w (bareC 0 0 0 0) 54)
  clear hz GT h2 hv hk ht hp hn
  go_enter Try.func55, Try.ntmps55
  go_wp2_with (first
    | (go_at_call 77; (with_reducible refine G2.out.mono ?_); rintro e w0 ⟨rfl, rfl⟩)
    | (go_at_call 78; (with_reducible refine DB.out.mono ?_); rintro e w1 ⟨rfl, hb1⟩
       have R1 := Lib.hid ((R0.out.later hb1).alloc (.cells (bareC k t p n) 54))
       have F1 := Lib.hid ((((Fr.refl (fun x => w.heap.size ≤ x) w).alloc (.cells (bareC 0 0 0 0) 54)).trans (.of_below hb1)).alloc (.cells (bareC k t p n) 54))
       have hne : w.heap.size ≠ w1.heap.size := by have := hb1.size; rw [World.size_alloc] at this; omega
       have a_0 : (w1.alloc (.cells (bareC k t p n) 54)).cell? ⟨w.heap.size, 0, none⟩ = some (.int .u8 0) := R1.out.cell 0
       have f_0 := R1.out.frozen 0
       have a_1 : (w1.alloc (.cells (bareC k t p n) 54)).cell? ⟨w.heap.size, 1, none⟩ = some (.int .u32 0) := R1.out.cell 1
       have f_1 := R1.out.frozen 1
       have a_2 : (w1.alloc (.cells (bareC k t p n) 54)).cell? ⟨w.heap.size, 2, none⟩ = some (.int .u64 0) := R1.out.cell 2
       have f_2 := R1.out.frozen 2
       have a_3 : (w1.alloc (.cells (bareC k t p n) 54)).cell? ⟨w.heap.size, 3, none⟩ = some (.int .u64 0) := R1.out.cell 3
       have f_3 := R1.out.frozen 3
       have a_4 : (w1.alloc (.cells (bareC k t p n) 54)).cell? ⟨w.heap.size, 4, none⟩ = some (.int .u32 0) := R1.out.cell 4
       have f_4 := R1.out.frozen 4
       have a_5 : (w1.alloc (.cells (bareC k t p n) 54)).cell? ⟨w.heap.size, 5, none⟩ = some (.int .u16 0) := R1.out.cell 5
       have f_5 := R1.out.frozen 5
       have a_6 : (w1.alloc (.cells (bareC k t p n) 54)).cell? ⟨w.heap.size, 6, none⟩ = some (.bool false) := R1.out.cell 6
       have f_6 := R1.out.frozen 6
       have a_7 : (w1.alloc (.cells (bareC k t p n) 54)).cell? ⟨w.heap.size, 7, none⟩ = some (.bool false) := R1.out.cell 7
       have f_7 := R1.out.frozen 7
       have a_8 : (w1.alloc (.cells (bareC k t p n) 54)).cell? ⟨w.heap.size, 8, none⟩ = some (.slice none 0 0) := R1.out.cell 8
       have f_8 := R1.out.frozen 8
       have a_9 : (w1.alloc (.cells (bareC k t p n) 54)).cell? ⟨w.heap.size, 9, none⟩ = some (.slice none 0 0) := R1.out.cell 9
       have f_9 := R1.out.frozen 9
       have a_10 : (w1.alloc (.cells (bareC k t p n) 54)).cell? ⟨w.heap.size, 10, none⟩ = some (.slice none 0 0) := R1.out.cell 10
       have f_10 := R1.out.frozen 10
       have a_11 : (w1.alloc (.cells (bareC k t p n) 54)).cell? ⟨w.heap.size, 11, none⟩ = some (.slice none 0 0) := R1.out.cell 11
       have f_11 := R1.out.frozen 11
       clear hb1))
  have hb := Box.set_ (Box.set_ (Box.set_ (Box.set_ (Box.set_ (Box.set_ (Box.set_ (Box.set_ (Box.set_ (Box.set_ (Box.set_ (Box.set_ (R1.out) 0 (.int .u8 k)) 1 (.int .u32 t)) 2 (.int .u64 p)) 3 (.int .u64 n)) 4 (.int .u32 0)) 5 (.int .u16 0)) 6 (.bool false)) 7 (.bool false)) 8 (.slice none 0 0)) 9 (.slice none 0 0)) 10 (.slice none 0 0)) 11 (.slice none 0 0)
  have hf9 := Fr.setCell (Fr.setCell (Fr.setCell (Fr.setCell (Fr.setCell (Fr.setCell (Fr.setCell (Fr.setCell (Fr.setCell (Fr.setCell (Fr.setCell (Fr.setCell (F1.out) (p := ⟨w.heap.size, 0, none⟩) (.inl (Nat.le_refl _)) (.int .u8 k)) (p := ⟨w.heap.size, 1, none⟩) (.inl (Nat.le_refl _)) (.int .u32 t)) (p := ⟨w.heap.size, 2, none⟩) (.inl (Nat.le_refl _)) (.int .u64 p)) (p := ⟨w.heap.size, 3, none⟩) (.inl (Nat.le_refl _)) (.int .u64 n)) (p := ⟨w.heap.size, 4, none⟩) (.inl (Nat.le_refl _)) (.int .u32 0)) (p := ⟨w.heap.size, 5, none⟩) (.inl (Nat.le_refl _)) (.int .u16 0)) (p := ⟨w.heap.size, 6, none⟩) (.inl (Nat.le_refl _)) (.bool false)) (p := ⟨w.heap.size, 7, none⟩) (.inl (Nat.le_refl _)) (.bool false)) (p := ⟨w.heap.size, 8, none⟩) (.inl (Nat.le_refl _)) (.slice none 0 0)) (p := ⟨w.heap.size, 9, none⟩) (.inl (Nat.le_refl _)) (.slice none 0 0)) (p := ⟨w.heap.size, 10, none⟩) (.inl (Nat.le_refl _)) (.slice none 0 0)) (p := ⟨w.heap.size, 11, none⟩) (.inl (Nat.le_refl _)) (.slice none 0 0)
  simp only [bareC, List.setIfInBounds_toArray, List.set_cons_zero, List.set_cons_succ] at hb hf9
  generalize hW : (World.setCell _ (⟨w.heap.size, 11, none⟩ : Addr) _) = W9 at hb hf9 ⊢
  clear hW
  have b9_0 : W9.cell? ⟨w.heap.size, 0, none⟩ = some (.int .u8 k) := hb.cell 0
  have b9_1 : W9.cell? ⟨w.heap.size, 1, none⟩ = some (.int .u32 t) := hb.cell 1
  have b9_2 : W9.cell? ⟨w.heap.size, 2, none⟩ = some (.int .u64 p) := hb.cell 2
  have b9_3 : W9.cell? ⟨w.heap.size, 3, none⟩ = some (.int .u64 n) := hb.cell 3
  have b9_4 : W9.cell? ⟨w.heap.size, 4, none⟩ = some (.int .u32 0) := hb.cell 4
  have b9_5 : W9.cell? ⟨w.heap.size, 5, none⟩ = some (.int .u16 0) := hb.cell 5
  have b9_6 : W9.cell? ⟨w.heap.size, 6, none⟩ = some (.bool false) := hb.cell 6
  have b9_7 : W9.cell? ⟨w.heap.size, 7, none⟩ = some (.bool false) := hb.cell 7
  have b9_8 : W9.cell? ⟨w.heap.size, 8, none⟩ = some (.slice none 0 0) := hb.cell 8
  have b9_9 : W9.cell? ⟨w.heap.size, 9, none⟩ = some (.slice none 0 0) := hb.cell 9
  have b9_10 : W9.cell? ⟨w.heap.size, 10, none⟩ = some (.slice none 0 0) := hb.cell 10
  have b9_11 : W9.cell? ⟨w.heap.size, 11, none⟩ = some (.slice none 0 0) := hb.cell 11
  refine bodyPost_ret (v := .tuple #[.agg (bareC k t p n), .int .i64 27, .int .u16 0]) (by simp [results, Try.results55, go_sem, bareC, b9_0, b9_1, b9_2, b9_3, b9_4, b9_5, b9_6, b9_7, b9_8, b9_9, b9_10, b9_11]) rfl ?_
  exact ⟨rfl, hf9.to_below (fun x hx => hx) (Nat.le_refl _)⟩
end Go.Proofs.Yteggcehjpfmikaa.Rec
namespace Go.Proofs.Yteggcehjpfmikaa.Rec
open Go.ChangeShapes Go.WideShapes Go.ChangeAt Go.RowKit Go.IntWalk Go.Proofs.NumMath Go.Proofs.Mem Go.Proofs.CrcMath NumBytes CrcA
set_option linter.unusedVariables false
set_option linter.unusedSimpArgs false
end Go.Proofs.Yteggcehjpfmikaa.Rec
namespace Go.Proofs.Yteggcehjpfmikaa.Rec
open Go.ChangeShapes Go.WideShapes Go.ChangeAt Go.RowKit Go.IntWalk Go.Proofs.NumMath Go.Proofs.Mem Go.Proofs.CrcMath NumBytes CrcA
set_option linter.unusedVariables false
set_option linter.unusedSimpArgs false
set_option maxRecDepth 100000 in
set_option maxHeartbeats 4000000 in
theorem clone_any (v : Value) (xs : List Int) (w : World) (B : Nat) (hv : IR w B .u8 v xs) (hB : B ≤ w.heap.size) (hl : xs.length ≤ 100000) :
    Calls Try.prog 56 #[v] w fun e w' => ∃ u, e = .returned u ∧ w'.ownsRow w.heap.size 5 1 u xs.length (xs.map (.int .u8)) ∧ Below w.heap.size w w' := by
  obtain ⟨i0, hi0, hz0, hz1, hz2⟩ := info_parts u8_info
  obtain ⟨A, c, rfl, hlc, hcm⟩ := hv.form
  cases A with
  | none =>
    have hc : c = 0 := by
      obtain ⟨A', c', e, _, _, h4, _⟩ := hv
      injection e with e1 e2 e3
      subst e1; subst e3
      exact h4 rfl
    subst hc
    have hx : xs = [] := List.eq_nil_of_length_eq_zero (by omega)
    subst hx
    have hq : ∀ W, (binOp .eql 48 (.slice none 0 0) (.slice none 0 0)).run Try.prog W = .ok (.bool true) W := fun W => Go.Lib.run_eql_slice_nil W 48 5 none 0 0 0 0 Try.underlying48
    go_enter Try.func56, Try.ntmps56
    go_wp2
    go_ret
    exact ⟨_, rfl, World.ownsRow_nil _ _ _ _, Below.refl _ _⟩
  | some a =>
    have HV := Lib.hid (hv.alloc hB (.cells #[] 5))
    have OW := Lib.hid (show (w.alloc (.cells #[] 5)).ownsRow w.heap.size 5 1 (.slice (some ⟨w.heap.size, 0, none⟩) 0 0) 0 (([] : List Int).map (.int .u8)) from ⟨rfl, .inr ⟨w.heap.size, 0, _, rfl, Nat.le_refl _, heap_alloc_new w _, Nat.le_refl _, Nat.zero_le _, rfl, rfl⟩⟩)
    clear hv
    have hq : ∀ W, (binOp .eql 48 (.slice (some a) xs.length c) (.slice none 0 0)).run Try.prog W = .ok (.bool false) W := fun W => Go.Lib.run_eql_slice_nil W 48 5 (some a) xs.length c 0 0 Try.underlying48
    go_enter Try.func56, Try.ntmps56
    go_wp2_with (at_builtin; refine wpList_append_tx _ rfl _ _ _ _ rfl w.heap.size 5 5 i0 .u8 1 Try.underlying48 Try.underlying48 hi0 hz0 hz1 hz2 _ 0 [] rfl OW.out B _ xs rfl HV.out (by unfold maxLen; omega) (by omega) (by simp) ?_; intro v2 w2 hown2 hg2 ho2; rw [Nat.zero_add, List.nil_append] at hown2; have OW2 := Lib.hid hown2; have HB2 := Lib.hid (below_row (new_ (Below.refl w.heap.size w) (.cells #[] 5)) OW.out hg2 (Nat.le_refl _) (by simp)); clear hown2 hg2 ho2)
    go_ret
    exact ⟨_, rfl, OW2.out, HB2.out⟩
@[reducible] def cgC (pg sl : Int) (had has : Bool) (a b : Value) : Array Value := #[.int .u32 pg, .int .u16 sl, .bool had, .bool has, a, b]
end Go.Proofs.Yteggcehjpfmikaa.Rec
namespace Go.Proofs.Yteggcehjpfmikaa.Rec
open Go.ChangeShapes Go.WideShapes Go.ChangeAt Go.RowKit Go.IntWalk Go.Proofs.NumMath Go.Proofs.Mem Go.Proofs.CrcMath NumBytes CrcA
set_option linter.unusedVariables false
set_option linter.unusedSimpArgs false
end Go.Proofs.Yteggcehjpfmikaa.Rec

