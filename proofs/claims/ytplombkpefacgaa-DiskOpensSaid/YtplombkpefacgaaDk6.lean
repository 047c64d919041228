import Derived.Test.YtplombkpefacgaaDk5
/- Sync. -/
namespace Go.Proofs.Ytplombkpefacgaa.Disk
open Go.ChangeShapes Go.WideShapes Go.ChangeAt Go.RowKit Go.IntWalk Go.Proofs.Mem
set_option linter.unusedVariables false
set_option linter.unusedSimpArgs false
/-- a sector, the first n of whose waiting writes last -/
def Se.keep (s : Se) (n : Nat) : List Int := if n = 0 then s.last else s.wait.getD (n - 1) s.last
def Se.syn (s : Se) : Se := ⟨s.keep s.wait.length, []⟩
theorem SeAt.keep {w : World} {col : Nat → Nat} {k : Nat} {s : Se} {u v : Value} {vs : List Value} (h : SeAt w col k s u v vs) (n : Nat) (hn : n ≤ vs.length) :
    Hd w col k 5 1 (if n = 0 then u else vs.getD (n - 1) u) 128 ((s.keep n).map (.int .u8)) ∧ (s.keep n).length = 128 ∧ Bytes (s.keep n) := by
  unfold Se.keep
  by_cases h0 : n = 0
  · rw [if_pos h0, if_pos h0]; exact ⟨h.last, h.len, h.byt⟩
  · rw [if_neg h0, if_neg h0]
    have h1 : n - 1 < vs.length := by omega
    have h2 : n - 1 < s.wait.length := by rw [← h.n]; exact h1
    have e1 : vs.getD (n - 1) u = vs[n - 1] := by rw [List.getD_eq_getElem?_getD, List.getElem?_eq_getElem h1]; rfl
    have e2 : s.wait.getD (n - 1) s.last = s.wait[n - 1] := by rw [List.getD_eq_getElem?_getD, List.getElem?_eq_getElem h2]; rfl
    rw [e1, e2]
    exact ⟨h.row _ _ _ (List.getElem?_eq_getElem h1) (List.getElem?_eq_getElem h2), h.lens _ (List.getElem_mem h2), h.byts _ (List.getElem_mem h2)⟩
/-- a sector that nothing waits for -/
theorem SeAt.bare {w : World} {col : Nat → Nat} {k : Nat} {u : Value} {xs : List Int} (h : Hd w col k 5 1 u 128 (xs.map (.int .u8))) (hl : xs.length = 128) (hb : Bytes xs) : SeAt w col k ⟨xs, []⟩ u (.slice none 0 0) [] :=
  ⟨hl, fun x hx => (List.not_mem_nil hx).elim, hb, fun x hx => (List.not_mem_nil hx).elim, h, rfl, Hd.nil _ _ _ _ _, fun j x y hx => by simp at hx, List.pairwise_singleton _ _⟩
def Dv.synTo (D : Dv) (i j : Nat) : Dv := { D with f := fun k => if k = i then ((D.f i).take j).map Se.syn ++ (D.f i).drop j else D.f k }
theorem synTo_zero (D : Dv) (i : Nat) : D.synTo i 0 = D := by
  obtain ⟨f, a, b, c⟩ := D
  unfold Dv.synTo
  congr 1
  funext k
  by_cases h : k = i
  · rw [if_pos h, h]; rfl
  · rw [if_neg h]
theorem synTo_at (D : Dv) (i j : Nat) (hj : j < (D.f i).length) : ((D.synTo i j).f i)[j]? = some (D.f i)[j] := by
  simp only [Dv.synTo, if_true]
  rw [List.getElem?_append_right (by simp; omega), List.length_map, List.length_take, Nat.min_eq_left (by omega), Nat.sub_self, List.drop_eq_getElem_cons hj]
  rfl
theorem synTo_succ (D : Dv) (i j : Nat) (hj : j < (D.f i).length) : (D.synTo i j).upd i j (D.f i)[j].syn = D.synTo i (j + 1) := by
  obtain ⟨f, a, b, c⟩ := D
  unfold Dv.upd Dv.synTo
  congr 1
  funext k
  by_cases h : k = i
  · simp only [h, if_true]
    have hl : (((f i).take j).map Se.syn).length = j := by rw [List.length_map, List.length_take]; simp only at hj; omega
    rw [List.set_append_right _ _ (by omega), hl, Nat.sub_self, List.drop_eq_getElem_cons hj, List.set_cons_zero, List.take_succ_eq_append_getElem hj, List.map_append, List.append_assoc]
    rfl
  · simp only [if_neg h]
theorem synTo_len (D : Dv) (i j : Nat) : ((D.synTo i j).f i).length = (D.f i).length := by
  simp only [Dv.synTo, if_true, List.length_append, List.length_map, List.length_take, List.length_drop]; omega
def Dv.syn (D : Dv) (i : Nat) : Dv := if cntB D.lim D.left = true then D.cnt.synTo i (D.f i).length else D.cnt
theorem Fr.sub {S T : Nat → Prop} {a b c : World} (h : Fr S a b) (k : Fr T b c) (ht : ∀ x, x < a.heap.size → T x → S x) : Fr S a c := Fr.trans' h k ht
set_option maxRecDepth 100000 in
set_option maxHeartbeats 8000000 in
theorem sync_yes {w : World} {S : Nat → Prop} {b : Nat} {D : Dv} {col : Nat → Nat} {fv : Nat → Value} {uv : Nat → List Pl} (h : DA w S b D col fv uv) (i : Nat) (hi : i < 2) (hw : ∀ s ∈ D.f i, s.wait.length ≤ 100000) :
    Calls Try.prog 21 #[.pointer (some ⟨b, 0, none⟩), .int .u8 i] w fun e w' => e = .returned (.tuple #[]) ∧ (∃ col' uv', DA w' (growS w w' S) b (D.syn i) col' fv uv') ∧ Fr S w w' := by
  have CT := Lib.hid (counts_any w b fv D.lim D.left D.dead h.box h.left)
  have HH := Lib.hid h
  have HWT := Lib.hid hw
  obtain ⟨A, c, ev, hlc⟩ : ∃ A c, fv i = .slice A (D.f i).length c ∧ (D.f i).length ≤ c := by
    rcases (h.file i hi).row.1.2 with ⟨e, h0⟩ | ⟨g, cap, _, e, _, _, h1, _⟩
    · rw [h0]; exact ⟨none, 0, e, Nat.le_refl _⟩
    · exact ⟨_, cap, e, h1⟩
  have hmo := h.most i hi
  obtain ⟨L, hL⟩ : ∃ L, L = (D.f i).length := ⟨_, rfl⟩
  rw [← hL] at ev hlc hmo
  have EV := Lib.hid ev
  have HL := Lib.hid hL
  have wi := i8_wrap i (by omega)
  have d1 : decide ((2 : Int) ≤ (i : Int)) = false := by simp; omega
  have hi2 : (i : Int) < 2 := by omega
  obtain ⟨q, hq⟩ : ∃ q, q = cntB D.lim D.left := ⟨_, rfl⟩
  rw [← hq] at CT
  have HQ := Lib.hid hq
  clear h hw hq ev hL
  go_enter Try.func21, Try.ntmps21
  go_wp2_with fail
  (with_reducible refine CT.out.mono ?_)
  rintro e w1 ⟨rfl, hb1, hf1⟩
  have h1 := HH.out.head hf1 D.lim _ _ (cnt_left HH.out.left) hb1
  have H1 := Lib.hid h1
  have F1 := Lib.hid (hf1.mono (S' := S) (fun k _ hk => by rw [hk]; exact HH.out.here))
  have kc : w1.cell? ⟨b, i, none⟩ = some (.slice A L c) := by
    rw [hb1.cell i]
    rcases two hi with rfl | rfl
    · rw [← EV.out]; rfl
    · rw [← EV.out]; rfl
  clear h1 hb1 hf1
  cases q
  case false =>
    go_wp2
    refine bodyPost_ret (results_none rfl _ _ _) rfl ?_
    refine ⟨rfl, ⟨col, uv, ?_⟩, F1.out⟩
    unfold Dv.syn
    rw [if_neg (by rw [← HQ.out]; decide)]
    exact H1.out.grow
  case true =>
    go_wp2
    clear kc
    go_loopw [21] (fun x wr => ∃ (j : Nat), j ≤ L ∧ x = .int .i64 j ∧ (∃ col' uv', DA wr (growS w wr S) b (D.cnt.synTo i j) col' fv uv') ∧ Fr S w wr) (fun x _ => L - (intOf x).toNat)
    case atStart => exact ⟨0, Nat.zero_le _, rfl, ⟨col, uv, by rw [synTo_zero]; exact H1.out.grow⟩, F1.out⟩
    case round =>
      obtain ⟨j, hj, rfl, ⟨col1, uv1, hd⟩, hfr⟩ := hrel
      by_cases hlt : j < L
      · have hjl : j < (D.cnt.f i).length := by rw [← show L = (D.cnt.f i).length from HL.out]; exact hlt
        obtain ⟨g, cap, C, p, s, sp⟩ := (hd.file i hi).spot j (by rw [synTo_len]; exact hjl)
        have es : s = (D.cnt.f i)[j] := Option.some.inj (sp.hs.symm.trans (synTo_at D.cnt i j hjl))
        have hwl : s.wait.length ≤ 100000 := HWT.out s (by rw [es]; exact List.getElem_mem _)
        have kc : wr.cell? ⟨b, i, none⟩ = some (.slice A L c) := by
          rw [hd.box.cell i]
          rcases two hi with rfl | rfl
          · rw [← EV.out]; rfl
          · rw [← EV.out]; rfl
        have eA : A = some ⟨g, 0, none⟩ := by
          have := sp.hv
          rw [EV.out] at this
          injection this
        subst eA
        obtain ⟨Av, cv, ev, hlv⟩ := sp.sec.form_v
        have k1 : wr.cell? ⟨g, 2 * j + 1, none⟩ = some p.2.1 := by rw [sp.box.cell]; exact sp.c1
        have f1 := sp.box.frozen (2 * j + 1)
        rw [ev] at k1
        have KP := Lib.hid (keep_any wr g (2 * j) C 68 p.1 p.2.1 p.2.2 sp.box sp.c0 sp.c1 sp.sec.wait.1 p.2.2.length (Nat.le_refl _) (by rw [sp.sec.n]; exact hwl) sp.sec.form_w)
        obtain ⟨V, hV⟩ : ∃ V, V = p.2.2.length := ⟨_, rfl⟩
        rw [← hV] at k1 KP
        have SP := Lib.hid sp
        have HD := Lib.hid hd
        have HFR := Lib.hid hfr
        have ES := Lib.hid es
        have HV := Lib.hid hV
        have d2 : decide ((j : Int) < (L : Int)) = true := by simp; omega
        have kz : ∃ z, z = (if V = 0 then p.1 else p.2.2.getD (V - 1) p.1) := ⟨_, rfl⟩
        obtain ⟨z, hz⟩ := kz
        rw [← hz] at KP
        have HZ := Lib.hid hz
        rw [show 2 * j = j * 2 from Nat.mul_comm 2 j] at k1 KP
        clear sp hd hfr es hV ev hlv hwl f1 hz
        go_wp2_with fail
        (with_reducible refine KP.out.mono ?_)
        rintro e w2 ⟨rfl, hb2, hf2⟩
        have kc2 : ∃ y, w2.cell? ⟨g, j * 2 + 1, none⟩ = some y := ⟨p.2.1, by
          rw [hb2.cell, Array.getElem?_setIfInBounds_ne (by omega), show j * 2 + 1 = 2 * j + 1 by omega]; exact SP.out.c1⟩
        obtain ⟨y, kc2⟩ := kc2
        have fc2 := hb2.frozen (j * 2 + 1)
        have HB2 := Lib.hid hb2
        have HF2 := Lib.hid hf2
        clear hb2 hf2
        go_wp2
        have hb3 := HB2.out.set_ (j * 2 + 1) (.slice none 0 0)
        have hf3 := Fr.setCell (a := wr) HF2.out (p := ⟨g, j * 2 + 1, none⟩) (.inl rfl) (.slice none 0 0)
        obtain ⟨w3, hw3⟩ : ∃ w3, w2.setCell ⟨g, j * 2 + 1, none⟩ (.slice none 0 0) = w3 := ⟨_, rfl⟩
        rw [hw3] at hb3 hf3
        have hff := hf3.mono (S' := fun x => x = g ∨ col1 x = fc i + 1 + j) (fun k _ hk => .inl hk)
        have hkp := SP.out.sec.keep V (by rw [HV.out]; exact Nat.le_refl _)
        have hse : SeAt w3 (colN wr w3 col1 (fc i + 1 + j)) (fc i + 1 + j) s.syn z (.slice none 0 0) [] := by
          refine SeAt.bare ?_ ?_ ?_
          · have e9 : s.keep s.wait.length = s.keep V := by rw [HV.out, SP.out.sec.n]
            rw [e9, HZ.out]
            exact hkp.1.fr hf3 (fun x _ hx => by rw [hx, SP.out.hcol]; omega) (fun x hx => colN_old hx)
          · have e9 : s.keep s.wait.length = s.keep V := by rw [HV.out, SP.out.sec.n]
            rw [e9]; exact hkp.2.1
          · have e9 : s.keep s.wait.length = s.keep V := by rw [HV.out, SP.out.sec.n]
            rw [e9]; exact hkp.2.2
        have hup := HD.out.upd hi SP.out hff s.syn (z, .slice none 0 0, []) (by show Box w3 g ((C.setIfInBounds (2 * j) z).setIfInBounds (2 * j + 1) (.slice none 0 0)) _; rw [show 2 * j = j * 2 from Nat.mul_comm 2 j]; exact hb3) hse
        rw [ES.out, synTo_succ D.cnt i j hjl] at hup
        have hgr := hup.mono (S' := growS w w3 S) (fun x hx => by
          have := HFR.out.size
          rcases hx with (hx | hx) | hx
          · exact .inl hx
          · exact .inr ⟨hx.1, Nat.lt_of_lt_of_le hx.2 hf3.size⟩
          · exact .inr ⟨by omega, hx.2⟩) (fun x hx => by
          rcases hx with hx | hx
          · exact Nat.lt_of_lt_of_le (HH.out.old x hx) (Nat.le_trans HFR.out.size hf3.size)
          · exact hx.2)
        have hfw : Fr S w w3 := Fr.sub HFR.out hf3 (fun x hx hxg => by
          rcases HD.out.mine x (by rw [hxg, SP.out.hcol]; unfold fc; omega) with h9 | h9
          · exact h9
          · omega)
        have HGR := Lib.hid hgr
        have HFW := Lib.hid hfw
        clear hb3 hf3 hff hkp hse hup hgr hfw kc fc2 kc2 k1 d2
        try rw [hw3]
        clear hw3
        go_roundw
        case rel => exact ⟨j + 1, by omega, by go_num, ⟨_, _, HGR.out⟩, HFW.out⟩
        case measure => simp [intOf]; omega
      · have hjL : j = L := by omega
        have HD := Lib.hid hd
        have HFR := Lib.hid hfr
        have d2 : decide ((j : Int) < (L : Int)) = false := by simp; omega
        have HJ := Lib.hid hjL
        clear hd hfr hjL
        go_wp2
        go_end0
        refine ⟨rfl, ⟨col1, uv1, ?_⟩, HFR.out⟩
        unfold Dv.syn
        rw [if_pos HQ.out.symm, ← HL.out, ← HJ.out]
        exact HD.out
end Go.Proofs.Ytplombkpefacgaa.Disk
