import Derived.Test.YtplombkpefacgaaDk6
/- Image. -/
namespace Go.Proofs.Ytplombkpefacgaa.Disk
open Go.ChangeShapes Go.WideShapes Go.ChangeAt Go.RowKit Go.IntWalk Go.Proofs.Mem
set_option linter.unusedVariables false
set_option linter.unusedSimpArgs false
theorem row_low {Tu : TypeId} {W : World} {base base' g : Nat} {u : Value} {xs : List Int} (h : RowAt Tu W base g u xs) (hb : base' ≤ base) : RowAt Tu W base' g u xs := ⟨h.form, own_lower h.own hb⟩
set_option maxRecDepth 100000 in
set_option maxHeartbeats 8000000 in
theorem image_yes {w : World} {S : Nat → Prop} {b : Nat} {D : Dv} {col : Nat → Nat} {fv : Nat → Value} {uv : Nat → List Pl} (h : DA w S b D col fv uv) (i : Nat) (hi : i < 2) :
    Calls Try.prog 19 #[.pointer (some ⟨b, 0, none⟩), .int .u8 i] w fun e w' => ∃ (v : Value) (l : List Rw), e = .returned v ∧ Tab 5 30 w' w.heap.size w'.heap.size v l ∧ l.map (·.2.2) = (D.f i).map (·.last) ∧ Below w.heap.size w w' := by
  obtain ⟨A, c, ev, hlc⟩ : ∃ A c, fv i = .slice A (D.f i).length c ∧ (D.f i).length ≤ c := by
    rcases (h.file i hi).row.1.2 with ⟨e, h0⟩ | ⟨g, cap, _, e, _, _, h1, _⟩
    · rw [h0]; exact ⟨none, 0, e, Nat.le_refl _⟩
    · exact ⟨_, cap, e, h1⟩
  have FA := Lib.hid (file_any w b fv D.lim D.left D.dead h.box i (by omega) A (D.f i).length c (fun _ => ev) (fun h => absurd hi h))
  have hmo := h.most i hi
  obtain ⟨L, hL⟩ : ∃ L, L = (D.f i).length := ⟨_, rfl⟩
  rw [← hL] at ev hlc hmo FA
  have HH := Lib.hid h
  have HL := Lib.hid hL
  have EV := Lib.hid ev
  obtain ⟨j0, hj0, hy0, hy1, hy2⟩ := info_parts bs_info
  clear h hL ev
  go_enter Try.func19, Try.ntmps19
  go_wp2_with fail
  (with_reducible refine FA.out.mono ?_)
  rintro e w1 ⟨rfl, rfl⟩
  go_wp2
  go_loopw [5, 12] (fun o x wr => ∃ (j : Nat) (l : List Rw), j ≤ L ∧ x = .int .i64 j ∧ Hid (l.length = j ∧ Tab 5 30 wr w.heap.size wr.heap.size o l ∧ l.map (·.2.2) = ((D.f i).take j).map (·.last)) ∧ Below w.heap.size w wr) (fun _ x _ => L - (intOf x).toNat)
  case atStart => exact ⟨0, [], Nat.zero_le _, rfl, Lib.hid ⟨rfl, Tab.nil _ _ _, rfl⟩, Below.refl _ _⟩
  case round =>
    obtain ⟨j, l, hj, rfl, HT, hbel⟩ := hrel
    have HB := Lib.hid hbel
    clear hbel
    by_cases hlt : j < L
    · have hdj := HH.out.later HB.out
      obtain ⟨g, cap, C, p, s, sp⟩ := (hdj.file i hi).spot j (by rw [← HL.out]; exact hlt)
      have eA : A = some ⟨g, 0, none⟩ := by
        have := sp.hv
        rw [EV.out] at this
        injection this
      subst eA
      obtain ⟨gu, cu, eu⟩ := sp.sec.form_u
      obtain ⟨Av, cv, evv, hlv⟩ := sp.sec.form_v
      have k0 : wr.cell? ⟨g, j * 2, none⟩ = some p.1 := by rw [sp.box.cell, Nat.mul_comm]; exact sp.c0
      have k1 : wr.cell? ⟨g, j * 2 + 1, none⟩ = some p.2.1 := by rw [sp.box.cell, Nat.mul_comm]; exact sp.c1
      rw [eu] at k0
      rw [evv] at k1
      have SP := Lib.hid sp
      have d2 : decide ((j : Int) < (L : Int)) = true := by simp; omega
      obtain ⟨OB, hOB⟩ : ∃ OB : Obj, OB = .cells #[.slice (some ⟨gu, 0, none⟩) 128 cu, .slice Av p.2.2.length cv] 68 := ⟨_, rfl⟩
      have CL := Lib.hid (clone_any (.slice (some ⟨gu, 0, none⟩) 128 cu) s.last (wr.alloc OB) (wr.alloc OB).heap.size (by
        have h1 := sp.sec.last.ir sp.sec.len
        rw [eu] at h1
        exact (h1.alloc (Nat.le_refl _) OB).more (by simp)) (Nat.le_refl _) (by rw [sp.sec.len]; decide))
      rw [hOB] at CL
      have HLL := Lib.hid HT.out.1
      clear sp eu evv hlv hdj hOB
      go_wp2_with fail
      (with_reducible refine CL.out.mono ?_)
      rintro e w2 ⟨u, rfl, hu, hb2⟩
      obtain ⟨g4, row4, hg4, hl4⟩ := RowAt.of_own hu (by rw [SP.out.sec.len]; decide)
      obtain ⟨cap4, rfl⟩ := row4.form
      have ROW4 := Lib.hid row4
      have G4 := Lib.hid (And.intro hg4 hl4)
      have HB2 := Lib.hid (show Below wr.heap.size wr w2 from (new_ (Below.refl wr.heap.size wr) _).trans (hb2.mono (by simp)))
      have TAB4 := Lib.hid (HT.out.2.1.below HB2.out)
      have HO := Lib.hid HT.out.2.2
      have HS2 := Lib.hid HB.out.size
      clear hu hb2 row4 hg4 hl4 k0 k1
      go_wp2_with (at_builtin; refine wpList_append_own _ rfl _ _ _ rfl w.heap.size 30 j0 (.slice none 0 0) 1 24 Try.underlying35 hj0 hy0 hy1 hy2 rfl (by decide) _ l.length (l.map (·.2.1)) rfl (TAB4.out.outer.alloc _) ⟨w2.heap.size, 0, none⟩ 1 1 [_] rfl rfl (cell_one_new _ _ _) (by simp [Value.oneCell']) (by have := HLL.out; unfold maxLen; omega) (by have := HLL.out; omega) (by have := HB2.out.size; have := HS2.out; simp; omega) ?_; intro v5 w5 hown5 hg5 _; have OWN5 := Lib.hid hown5; have HG5 := Lib.hid hg5; clear hown5 hg5)
      have z54 : w2.heap.size < w5.heap.size := by have := HG5.out.size; simp at this; omega
      have T5 := Tab.push (TAB4.out.later (B := w2.alloc _) (new_ (Below.refl _ _) _)) (by decide) ((row_low ROW4.out (base' := wr.heap.size) (by simp)).sc (Sc.of_below (new_ (Below.refl _ _) _))) HS2.out (by have := G4.out; omega) OWN5.out HG5.out (by have := HB2.out.size; omega)
      have LS5 := Lib.hid (show (l ++ [(g4, Value.slice (some ⟨g4, 0, none⟩) s.last.length cap4, s.last)]).map (·.2.2) = ((D.f i).take (j + 1)).map (·.last) by
        have h9 := (List.getElem?_eq_some_iff.1 SP.out.hs)
        rw [List.map_append, HO.out, List.take_succ_eq_append_getElem h9.1, List.map_append, h9.2]; rfl)
      have TT := Lib.hid T5
      have HLN := Lib.hid (show (l ++ [(g4, Value.slice (some ⟨g4, 0, none⟩) s.last.length cap4, s.last)]).length = j + 1 by rw [List.length_append, HLL.out]; rfl)
      have HB5 := Lib.hid (below_row (HB.out.trans ((HB2.out.mono HS2.out).trans ((Below.refl w.heap.size w2).alloc (by have := HB2.out.size; have := HS2.out; omega) _))) (TAB4.out.outer.alloc _) HG5.out (Nat.le_refl _) (by have := HB2.out.size; have := HS2.out; simp; omega))
      clear T5 z54
      go_wp2
      go_roundw
      case rel => exact ⟨j + 1, _, by omega, by go_num, Lib.hid ⟨HLN.out, TT.out, LS5.out⟩, HB5.out⟩
      case measure => simp [intOf]; omega
    · have hjL : j = L := by omega
      have d2 : decide ((j : Int) < (L : Int)) = false := by simp; omega
      have HJ := Lib.hid hjL
      clear hjL
      go_wp2
      go_ret
      exact ⟨_, l, rfl, HT.out.2.1, by rw [HT.out.2.2, HJ.out, HL.out, List.take_length], HB.out⟩
end Go.Proofs.Ytplombkpefacgaa.Disk
