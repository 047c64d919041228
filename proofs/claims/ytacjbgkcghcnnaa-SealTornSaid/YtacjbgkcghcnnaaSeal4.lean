import Derived.Test.YtacjbgkcghcnnaaSeal3
import Derived.Laws.OwnMore
/- The document's Seal. -/
namespace Go.Proofs.Ytacjbgkcghcnnaa.Seal
open Go.ChangeShapes Go.WideShapes Go.ChangeAt Go.RowKit Go.IntWalk Go.Shelf Go.Proofs.NumMath Go.Proofs.Mem NumBytes
set_option linter.unusedVariables false
theorem upto_map (k : Nat) (hk : k < 4) (f : Nat → List Int) : (upto (k + 1)).map (fun a => f a.1) = (upto k).map (fun a => f a.1) ++ [f (112 * k)] := by
  rw [upto_succ k (112 * k) hk rfl (by omega), List.map_append]; rfl
set_option maxRecDepth 100000 in
set_option maxHeartbeats 8000000 in
theorem ref_seal_yes (w : World) (B b off c : Nat) (xb : List Int) (n : Int) (hv : IR w B .u8 (.slice (some ⟨b, off, none⟩) 448 c) xb) (hB : B ≤ w.heap.size) (hl : xb.length = 448) (hn : 0 ≤ n ∧ n ≤ 18446744073709551615) :
    Calls Try.prog 11 #[.slice (some ⟨b, off, none⟩) 448 c, .int .u64 n] w (SealP w (sealS xb n)) := by
  obtain ⟨i0, hi0, hz0, hz1, hz2⟩ := info_parts u8_info
  obtain ⟨j0, hj0, hy0, hy1, hy2⟩ := info_parts row_info
  have hcm : 448 ≤ c ∧ c ≤ 9223372036854775807 := by
    obtain ⟨A', c', e, h2, h3, _⟩ := hv
    injection e with e1 e2 e3
    subst e3
    unfold maxLen at h3
    omega
  have HV := Lib.hid hv
  have PU := Lib.hid (fun W => put_ref n 8 hn.1 hn.2 (by decide) (by decide) W)
  have HL := Lib.hid hl
  clear hv hl
  go_enter Try.func11, Try.ntmps11
  go_wp2
  go_loopw [5, 6] (fun v i wr => ∃ (k : Nat) (ls : List Rw), i = .int .i64 k ∧ k ≤ 4 ∧ Hid (Tab 5 22 wr w.heap.size wr.heap.size v ls ∧ ls.map (·.2.2) = (upto k).map (fun a => sec xb n a.1)) ∧ Hid (Below w.heap.size w wr)) (fun _ i _ => 4 - (intOf i).toNat)
  case atStart => exact ⟨0, [], rfl, by omega, Lib.hid ⟨Tab.nil _ _ _, rfl⟩, Lib.hid (Below.refl _ _)⟩
  case round =>
    obtain ⟨k, ls, rfl, hk, HT, HB⟩ := hrel
    have hll : ls.length = k := by have := congrArg List.length HT.out.2; simpa [upto_length k hk] using this
    by_cases hlt : k < 4
    · obtain ⟨a, ha⟩ : ∃ a : Nat, a = 112 * k := ⟨112 * k, rfl⟩
      have HA := Lib.hid ha
      have hk4 : k = 0 ∨ k = 1 ∨ k = 2 ∨ k = 3 := by omega
      clear hlt hk ha HA a
      rcases hk4 with rfl | rfl | rfl | rfl
      · have HLL := Lib.hid hll
        clear hll
        go_wp2_with fail
        (with_reducible refine (PU.out _).mono ?_)
        rintro e w1 ⟨v1, rfl, hown1, hb1⟩
        rw [show (8 : Int).toNat = 8 from rfl] at hown1
        have OWN1 := Lib.hid hown1
        have HB1 := Lib.hid hb1
        have PW := Lib.hid (piece_ir (xb := xb) (a := 0) (b := b) (off := off) (c := c) (by rw [HL.out]; exact (HV.out.below ((HB.out.mono hB).trans (hb1.mono (by have := HB.out.size; omega)))).more (B' := w1.heap.size) (by have := HB.out.size; have := hb1.size; omega)) (by have := HL.out; omega))
        have HPL := Lib.hid (show ((xb.drop 0).take 112).length = 112 by have := HL.out; simp; omega)
        clear hown1 hb1
        have HS := Lib.hid (show w.heap.size ≤ wr.heap.size ∧ wr.heap.size ≤ w1.heap.size from ⟨HB.out.size, HB1.out.size⟩)
        go_wp2_with (first
          | (at_builtin; refine wpList_append_all _ rfl _ _ _ rfl wr.heap.size 5 i0 .u8 1 Try.underlying22 hi0 hz0 hz1 hz2 v1 8 (putS n 8) rfl OWN1.out w1.heap.size (piece b off c 0) ((xb.drop 0).take 112) rfl PW.out (by rw [HPL.out]; decide) (by rw [HPL.out]; decide) HS.out.2 ?_
             intro v2 w2 hown2 hb2
             rw [HPL.out] at hown2
             have OWN2 := Lib.hid hown2
             have HB2 := Lib.hid (HB1.out.trans hb2)
             clear hown2 hb2)
          | (refine (PU.out _).mono ?_
             rintro e w3 ⟨v3, rfl, hown3, hb3⟩
             rw [show (8 : Int).toNat = 8 from rfl] at hown3
             have R3 := Lib.hid (RowAt.of_own (xs := putS n 8) (by rw [putS_len]; exact hown3) (by rw [putS_len]; decide))
             have I3 := Lib.hid (IR.of_own hown3)
             have OWN3 := Lib.hid (own_below OWN2.out hb3)
             have HB3 := Lib.hid (step_ HB2.out hb3)
             clear hown3 hb3)
          | (at_builtin; refine wpList_append_all _ rfl _ _ _ rfl wr.heap.size 5 i0 .u8 1 Try.underlying22 hi0 hz0 hz1 hz2 _ (8 + 112) (putS n 8 ++ (xb.drop 0).take 112) rfl OWN3.out _ _ (putS n 8) rfl I3.out (by rw [putS_len]; decide) (by rw [putS_len]; decide) HB3.out.size ?_
             intro v4 w4 hown4 hb4
             rw [show 8 + 112 + (putS n 8).length = (sec xb n 0).length by rw [sec_len (by have := HL.out; omega), putS_len]] at hown4
             obtain ⟨g4, row4, hg4, hl4⟩ := RowAt.of_own (xs := sec xb n 0) hown4 (by rw [sec_len (by have := HL.out; omega)]; decide)
             obtain ⟨cap4, rfl⟩ := row4.form
             have ROW4 := Lib.hid row4
             have G4 := Lib.hid (And.intro hg4 hl4)
             have HB4 := Lib.hid (HB3.out.trans hb4)
             have TAB4 := Lib.hid (HT.out.1.below HB4.out)
             clear hown4 hb4 row4 hg4 hl4)
          | (at_builtin; refine wpList_append_own _ rfl _ _ _ rfl w.heap.size 22 j0 (.slice none 0 0) 1 24 Try.underlying27 hj0 hy0 hy1 hy2 rfl (by decide) _ ls.length (ls.map (·.2.1)) rfl (TAB4.out.outer.alloc _) ⟨w4.heap.size, 0, none⟩ 1 1 [_] rfl rfl (cell_one_new _ _ _) (by simp [Value.oneCell']) (by have := HLL.out; unfold maxLen; omega) (by have := HLL.out; omega) (by have := HB4.out.size; have := HS.out; simp; omega) ?_
             intro v5 w5 hown5 hg5 _
             have OWN5 := Lib.hid hown5
             have HG5 := Lib.hid hg5
             clear hown5 hg5))
        have z54 : w4.heap.size < w5.heap.size := by have := HG5.out.size; simp at this; omega
        have T5 := Tab.push (TAB4.out.later (B := w4.alloc _) (new_ (Below.refl _ _) _)) (by decide) (ROW4.out.sc (Sc.of_below (new_ (Below.refl _ _) _))) HS.out.1 (by have := G4.out; omega) OWN5.out HG5.out (by have := HB4.out.size; omega)
        have LS5 := Lib.hid (show (ls ++ [(g4, Value.slice (some ⟨g4, 0, none⟩) (sec xb n 0).length cap4, sec xb n 0)]).map (·.2.2) = (upto (0 + 1)).map (fun a => sec xb n a.1) by rw [upto_map 0 (by decide), List.map_append, HT.out.2]; rfl)
        have TT := Lib.hid T5
        have HB5 := Lib.hid (below_grown (HB.out.trans ((HB4.out.mono HS.out.1).trans ((Below.refl w.heap.size w4).alloc (by have := HB4.out.size; have := HS.out; omega) _))) (TAB4.out.outer.alloc _) HG5.out (Nat.le_refl _) (by have := HB4.out.size; have := HS.out; simp; omega))
        clear T5 z54
        go_wp2
        go_roundw
        case rel => exact ⟨0 + 1, _, by go_num, by decide, Lib.hid ⟨TT.out, LS5.out⟩, HB5⟩
        case measure => simp [intOf]
      · have HLL := Lib.hid hll
        clear hll
        go_wp2_with fail
        (with_reducible refine (PU.out _).mono ?_)
        rintro e w1 ⟨v1, rfl, hown1, hb1⟩
        rw [show (8 : Int).toNat = 8 from rfl] at hown1
        have OWN1 := Lib.hid hown1
        have HB1 := Lib.hid hb1
        have PW := Lib.hid (piece_ir (xb := xb) (a := 112) (b := b) (off := off) (c := c) (by rw [HL.out]; exact (HV.out.below ((HB.out.mono hB).trans (hb1.mono (by have := HB.out.size; omega)))).more (B' := w1.heap.size) (by have := HB.out.size; have := hb1.size; omega)) (by have := HL.out; omega))
        have HPL := Lib.hid (show ((xb.drop 112).take 112).length = 112 by have := HL.out; simp; omega)
        clear hown1 hb1
        have HS := Lib.hid (show w.heap.size ≤ wr.heap.size ∧ wr.heap.size ≤ w1.heap.size from ⟨HB.out.size, HB1.out.size⟩)
        go_wp2_with (first
          | (at_builtin; refine wpList_append_all _ rfl _ _ _ rfl wr.heap.size 5 i0 .u8 1 Try.underlying22 hi0 hz0 hz1 hz2 v1 8 (putS n 8) rfl OWN1.out w1.heap.size (piece b off c 112) ((xb.drop 112).take 112) rfl PW.out (by rw [HPL.out]; decide) (by rw [HPL.out]; decide) HS.out.2 ?_
             intro v2 w2 hown2 hb2
             rw [HPL.out] at hown2
             have OWN2 := Lib.hid hown2
             have HB2 := Lib.hid (HB1.out.trans hb2)
             clear hown2 hb2)
          | (refine (PU.out _).mono ?_
             rintro e w3 ⟨v3, rfl, hown3, hb3⟩
             rw [show (8 : Int).toNat = 8 from rfl] at hown3
             have R3 := Lib.hid (RowAt.of_own (xs := putS n 8) (by rw [putS_len]; exact hown3) (by rw [putS_len]; decide))
             have I3 := Lib.hid (IR.of_own hown3)
             have OWN3 := Lib.hid (own_below OWN2.out hb3)
             have HB3 := Lib.hid (step_ HB2.out hb3)
             clear hown3 hb3)
          | (at_builtin; refine wpList_append_all _ rfl _ _ _ rfl wr.heap.size 5 i0 .u8 1 Try.underlying22 hi0 hz0 hz1 hz2 _ (8 + 112) (putS n 8 ++ (xb.drop 112).take 112) rfl OWN3.out _ _ (putS n 8) rfl I3.out (by rw [putS_len]; decide) (by rw [putS_len]; decide) HB3.out.size ?_
             intro v4 w4 hown4 hb4
             rw [show 8 + 112 + (putS n 8).length = (sec xb n 112).length by rw [sec_len (by have := HL.out; omega), putS_len]] at hown4
             obtain ⟨g4, row4, hg4, hl4⟩ := RowAt.of_own (xs := sec xb n 112) hown4 (by rw [sec_len (by have := HL.out; omega)]; decide)
             obtain ⟨cap4, rfl⟩ := row4.form
             have ROW4 := Lib.hid row4
             have G4 := Lib.hid (And.intro hg4 hl4)
             have HB4 := Lib.hid (HB3.out.trans hb4)
             have TAB4 := Lib.hid (HT.out.1.below HB4.out)
             clear hown4 hb4 row4 hg4 hl4)
          | (at_builtin; refine wpList_append_own _ rfl _ _ _ rfl w.heap.size 22 j0 (.slice none 0 0) 1 24 Try.underlying27 hj0 hy0 hy1 hy2 rfl (by decide) _ ls.length (ls.map (·.2.1)) rfl (TAB4.out.outer.alloc _) ⟨w4.heap.size, 0, none⟩ 1 1 [_] rfl rfl (cell_one_new _ _ _) (by simp [Value.oneCell']) (by have := HLL.out; unfold maxLen; omega) (by have := HLL.out; omega) (by have := HB4.out.size; have := HS.out; simp; omega) ?_
             intro v5 w5 hown5 hg5 _
             have OWN5 := Lib.hid hown5
             have HG5 := Lib.hid hg5
             clear hown5 hg5))
        have z54 : w4.heap.size < w5.heap.size := by have := HG5.out.size; simp at this; omega
        have T5 := Tab.push (TAB4.out.later (B := w4.alloc _) (new_ (Below.refl _ _) _)) (by decide) (ROW4.out.sc (Sc.of_below (new_ (Below.refl _ _) _))) HS.out.1 (by have := G4.out; omega) OWN5.out HG5.out (by have := HB4.out.size; omega)
        have LS5 := Lib.hid (show (ls ++ [(g4, Value.slice (some ⟨g4, 0, none⟩) (sec xb n 112).length cap4, sec xb n 112)]).map (·.2.2) = (upto (1 + 1)).map (fun a => sec xb n a.1) by rw [upto_map 1 (by decide), List.map_append, HT.out.2]; rfl)
        have TT := Lib.hid T5
        have HB5 := Lib.hid (below_grown (HB.out.trans ((HB4.out.mono HS.out.1).trans ((Below.refl w.heap.size w4).alloc (by have := HB4.out.size; have := HS.out; omega) _))) (TAB4.out.outer.alloc _) HG5.out (Nat.le_refl _) (by have := HB4.out.size; have := HS.out; simp; omega))
        clear T5 z54
        go_wp2
        go_roundw
        case rel => exact ⟨1 + 1, _, by go_num, by decide, Lib.hid ⟨TT.out, LS5.out⟩, HB5⟩
        case measure => simp [intOf]
      · have HLL := Lib.hid hll
        clear hll
        go_wp2_with fail
        (with_reducible refine (PU.out _).mono ?_)
        rintro e w1 ⟨v1, rfl, hown1, hb1⟩
        rw [show (8 : Int).toNat = 8 from rfl] at hown1
        have OWN1 := Lib.hid hown1
        have HB1 := Lib.hid hb1
        have PW := Lib.hid (piece_ir (xb := xb) (a := 224) (b := b) (off := off) (c := c) (by rw [HL.out]; exact (HV.out.below ((HB.out.mono hB).trans (hb1.mono (by have := HB.out.size; omega)))).more (B' := w1.heap.size) (by have := HB.out.size; have := hb1.size; omega)) (by have := HL.out; omega))
        have HPL := Lib.hid (show ((xb.drop 224).take 112).length = 112 by have := HL.out; simp; omega)
        clear hown1 hb1
        have HS := Lib.hid (show w.heap.size ≤ wr.heap.size ∧ wr.heap.size ≤ w1.heap.size from ⟨HB.out.size, HB1.out.size⟩)
        go_wp2_with (first
          | (at_builtin; refine wpList_append_all _ rfl _ _ _ rfl wr.heap.size 5 i0 .u8 1 Try.underlying22 hi0 hz0 hz1 hz2 v1 8 (putS n 8) rfl OWN1.out w1.heap.size (piece b off c 224) ((xb.drop 224).take 112) rfl PW.out (by rw [HPL.out]; decide) (by rw [HPL.out]; decide) HS.out.2 ?_
             intro v2 w2 hown2 hb2
             rw [HPL.out] at hown2
             have OWN2 := Lib.hid hown2
             have HB2 := Lib.hid (HB1.out.trans hb2)
             clear hown2 hb2)
          | (refine (PU.out _).mono ?_
             rintro e w3 ⟨v3, rfl, hown3, hb3⟩
             rw [show (8 : Int).toNat = 8 from rfl] at hown3
             have R3 := Lib.hid (RowAt.of_own (xs := putS n 8) (by rw [putS_len]; exact hown3) (by rw [putS_len]; decide))
             have I3 := Lib.hid (IR.of_own hown3)
             have OWN3 := Lib.hid (own_below OWN2.out hb3)
             have HB3 := Lib.hid (step_ HB2.out hb3)
             clear hown3 hb3)
          | (at_builtin; refine wpList_append_all _ rfl _ _ _ rfl wr.heap.size 5 i0 .u8 1 Try.underlying22 hi0 hz0 hz1 hz2 _ (8 + 112) (putS n 8 ++ (xb.drop 224).take 112) rfl OWN3.out _ _ (putS n 8) rfl I3.out (by rw [putS_len]; decide) (by rw [putS_len]; decide) HB3.out.size ?_
             intro v4 w4 hown4 hb4
             rw [show 8 + 112 + (putS n 8).length = (sec xb n 224).length by rw [sec_len (by have := HL.out; omega), putS_len]] at hown4
             obtain ⟨g4, row4, hg4, hl4⟩ := RowAt.of_own (xs := sec xb n 224) hown4 (by rw [sec_len (by have := HL.out; omega)]; decide)
             obtain ⟨cap4, rfl⟩ := row4.form
             have ROW4 := Lib.hid row4
             have G4 := Lib.hid (And.intro hg4 hl4)
             have HB4 := Lib.hid (HB3.out.trans hb4)
             have TAB4 := Lib.hid (HT.out.1.below HB4.out)
             clear hown4 hb4 row4 hg4 hl4)
          | (at_builtin; refine wpList_append_own _ rfl _ _ _ rfl w.heap.size 22 j0 (.slice none 0 0) 1 24 Try.underlying27 hj0 hy0 hy1 hy2 rfl (by decide) _ ls.length (ls.map (·.2.1)) rfl (TAB4.out.outer.alloc _) ⟨w4.heap.size, 0, none⟩ 1 1 [_] rfl rfl (cell_one_new _ _ _) (by simp [Value.oneCell']) (by have := HLL.out; unfold maxLen; omega) (by have := HLL.out; omega) (by have := HB4.out.size; have := HS.out; simp; omega) ?_
             intro v5 w5 hown5 hg5 _
             have OWN5 := Lib.hid hown5
             have HG5 := Lib.hid hg5
             clear hown5 hg5))
        have z54 : w4.heap.size < w5.heap.size := by have := HG5.out.size; simp at this; omega
        have T5 := Tab.push (TAB4.out.later (B := w4.alloc _) (new_ (Below.refl _ _) _)) (by decide) (ROW4.out.sc (Sc.of_below (new_ (Below.refl _ _) _))) HS.out.1 (by have := G4.out; omega) OWN5.out HG5.out (by have := HB4.out.size; omega)
        have LS5 := Lib.hid (show (ls ++ [(g4, Value.slice (some ⟨g4, 0, none⟩) (sec xb n 224).length cap4, sec xb n 224)]).map (·.2.2) = (upto (2 + 1)).map (fun a => sec xb n a.1) by rw [upto_map 2 (by decide), List.map_append, HT.out.2]; rfl)
        have TT := Lib.hid T5
        have HB5 := Lib.hid (below_grown (HB.out.trans ((HB4.out.mono HS.out.1).trans ((Below.refl w.heap.size w4).alloc (by have := HB4.out.size; have := HS.out; omega) _))) (TAB4.out.outer.alloc _) HG5.out (Nat.le_refl _) (by have := HB4.out.size; have := HS.out; simp; omega))
        clear T5 z54
        go_wp2
        go_roundw
        case rel => exact ⟨2 + 1, _, by go_num, by decide, Lib.hid ⟨TT.out, LS5.out⟩, HB5⟩
        case measure => simp [intOf]
      · have HLL := Lib.hid hll
        clear hll
        go_wp2_with fail
        (with_reducible refine (PU.out _).mono ?_)
        rintro e w1 ⟨v1, rfl, hown1, hb1⟩
        rw [show (8 : Int).toNat = 8 from rfl] at hown1
        have OWN1 := Lib.hid hown1
        have HB1 := Lib.hid hb1
        have PW := Lib.hid (piece_ir (xb := xb) (a := 336) (b := b) (off := off) (c := c) (by rw [HL.out]; exact (HV.out.below ((HB.out.mono hB).trans (hb1.mono (by have := HB.out.size; omega)))).more (B' := w1.heap.size) (by have := HB.out.size; have := hb1.size; omega)) (by have := HL.out; omega))
        have HPL := Lib.hid (show ((xb.drop 336).take 112).length = 112 by have := HL.out; simp; omega)
        clear hown1 hb1
        have HS := Lib.hid (show w.heap.size ≤ wr.heap.size ∧ wr.heap.size ≤ w1.heap.size from ⟨HB.out.size, HB1.out.size⟩)
        go_wp2_with (first
          | (at_builtin; refine wpList_append_all _ rfl _ _ _ rfl wr.heap.size 5 i0 .u8 1 Try.underlying22 hi0 hz0 hz1 hz2 v1 8 (putS n 8) rfl OWN1.out w1.heap.size (piece b off c 336) ((xb.drop 336).take 112) rfl PW.out (by rw [HPL.out]; decide) (by rw [HPL.out]; decide) HS.out.2 ?_
             intro v2 w2 hown2 hb2
             rw [HPL.out] at hown2
             have OWN2 := Lib.hid hown2
             have HB2 := Lib.hid (HB1.out.trans hb2)
             clear hown2 hb2)
          | (refine (PU.out _).mono ?_
             rintro e w3 ⟨v3, rfl, hown3, hb3⟩
             rw [show (8 : Int).toNat = 8 from rfl] at hown3
             have R3 := Lib.hid (RowAt.of_own (xs := putS n 8) (by rw [putS_len]; exact hown3) (by rw [putS_len]; decide))
             have I3 := Lib.hid (IR.of_own hown3)
             have OWN3 := Lib.hid (own_below OWN2.out hb3)
             have HB3 := Lib.hid (step_ HB2.out hb3)
             clear hown3 hb3)
          | (at_builtin; refine wpList_append_all _ rfl _ _ _ rfl wr.heap.size 5 i0 .u8 1 Try.underlying22 hi0 hz0 hz1 hz2 _ (8 + 112) (putS n 8 ++ (xb.drop 336).take 112) rfl OWN3.out _ _ (putS n 8) rfl I3.out (by rw [putS_len]; decide) (by rw [putS_len]; decide) HB3.out.size ?_
             intro v4 w4 hown4 hb4
             rw [show 8 + 112 + (putS n 8).length = (sec xb n 336).length by rw [sec_len (by have := HL.out; omega), putS_len]] at hown4
             obtain ⟨g4, row4, hg4, hl4⟩ := RowAt.of_own (xs := sec xb n 336) hown4 (by rw [sec_len (by have := HL.out; omega)]; decide)
             obtain ⟨cap4, rfl⟩ := row4.form
             have ROW4 := Lib.hid row4
             have G4 := Lib.hid (And.intro hg4 hl4)
             have HB4 := Lib.hid (HB3.out.trans hb4)
             have TAB4 := Lib.hid (HT.out.1.below HB4.out)
             clear hown4 hb4 row4 hg4 hl4)
          | (at_builtin; refine wpList_append_own _ rfl _ _ _ rfl w.heap.size 22 j0 (.slice none 0 0) 1 24 Try.underlying27 hj0 hy0 hy1 hy2 rfl (by decide) _ ls.length (ls.map (·.2.1)) rfl (TAB4.out.outer.alloc _) ⟨w4.heap.size, 0, none⟩ 1 1 [_] rfl rfl (cell_one_new _ _ _) (by simp [Value.oneCell']) (by have := HLL.out; unfold maxLen; omega) (by have := HLL.out; omega) (by have := HB4.out.size; have := HS.out; simp; omega) ?_
             intro v5 w5 hown5 hg5 _
             have OWN5 := Lib.hid hown5
             have HG5 := Lib.hid hg5
             clear hown5 hg5))
        have z54 : w4.heap.size < w5.heap.size := by have := HG5.out.size; simp at this; omega
        have T5 := Tab.push (TAB4.out.later (B := w4.alloc _) (new_ (Below.refl _ _) _)) (by decide) (ROW4.out.sc (Sc.of_below (new_ (Below.refl _ _) _))) HS.out.1 (by have := G4.out; omega) OWN5.out HG5.out (by have := HB4.out.size; omega)
        have LS5 := Lib.hid (show (ls ++ [(g4, Value.slice (some ⟨g4, 0, none⟩) (sec xb n 336).length cap4, sec xb n 336)]).map (·.2.2) = (upto (3 + 1)).map (fun a => sec xb n a.1) by rw [upto_map 3 (by decide), List.map_append, HT.out.2]; rfl)
        have TT := Lib.hid T5
        have HB5 := Lib.hid (below_grown (HB.out.trans ((HB4.out.mono HS.out.1).trans ((Below.refl w.heap.size w4).alloc (by have := HB4.out.size; have := HS.out; omega) _))) (TAB4.out.outer.alloc _) HG5.out (Nat.le_refl _) (by have := HB4.out.size; have := HS.out; simp; omega))
        clear T5 z54
        go_wp2
        go_roundw
        case rel => exact ⟨3 + 1, _, by go_num, by decide, Lib.hid ⟨TT.out, LS5.out⟩, HB5⟩
        case measure => simp [intOf]
    · obtain rfl : k = 4 := by omega
      rcases HT.out.1.value with ⟨_, e⟩ | ⟨g, cap, rfl, hg1, hg2⟩
      · rw [e] at hll; cases hll
      have T4 := HT.out.1
      rw [hll] at T4
      have TT := Lib.hid T4
      clear T4
      rw [hll]
      go_wp2
      go_ret
      exact ⟨_, ls, rfl, TT.out, HT.out.2, HB.out⟩
end Go.Proofs.Ytacjbgkcghcnnaa.Seal
