import Derived.Test.YtplombkpefacgaaDkD
/- Crash. -/
namespace Go.Proofs.Ytplombkpefacgaa.Disk
open Go.ChangeShapes Go.WideShapes Go.ChangeAt Go.RowKit Go.IntWalk Go.Proofs.Mem Go.Proofs.Each Law
set_option linter.unusedVariables false
set_option linter.unusedSimpArgs false
/-- a sector behind a crash -/
def crS (l : List Ft) (k n : Nat) (s : Se) : Se := s.crash (fateAt l k n).keep (fateAt l k n).torn
/-- a device, the sectors of whose files up to i, and the first j ones of file i, have crashed -/
def Dv.crTo (D : Dv) (l : List Ft) (i j : Nat) : Dv := { D with f := fun k => (D.f k).mapIdx (fun n s => if k < i ∨ (k = i ∧ n < j) then crS l k n s else s) }
theorem crTo_ext {D : Dv} {f g : Nat → List Se} (h : ∀ k, f k = g k) : ({ D with f := f } : Dv) = { D with f := g } := by
  have : f = g := funext h
  rw [this]
theorem crTo_zero (D : Dv) (l : List Ft) : D.crTo l 0 0 = D := by
  have : D = { D with f := D.f } := rfl
  conv => rhs; rw [this]
  unfold Dv.crTo
  refine crTo_ext (fun k => ?_)
  apply List.ext_getElem?
  intro m
  rw [List.getElem?_mapIdx]
  cases (D.f k)[m]? with
  | none => rfl
  | some s => simp
theorem crTo_len (D : Dv) (l : List Ft) (i j k : Nat) : ((D.crTo l i j).f k).length = (D.f k).length := by simp [Dv.crTo]
theorem crTo_at (D : Dv) (l : List Ft) (i j : Nat) (hj : j < (D.f i).length) : ((D.crTo l i j).f i)[j]? = some (D.f i)[j] := by
  simp only [Dv.crTo]
  rw [List.getElem?_mapIdx, List.getElem?_eq_getElem hj]
  simp
theorem crTo_succ (D : Dv) (l : List Ft) (i j : Nat) (hj : j < (D.f i).length) : (D.crTo l i j).upd i j (crS l i j (D.f i)[j]) = D.crTo l i (j + 1) := by
  unfold Dv.upd Dv.crTo
  refine crTo_ext (D := D) (fun k => ?_)
  by_cases hk : k = i
  · subst hk
    simp only [if_true]
    apply List.ext_getElem?
    intro m
    by_cases hm : m = j
    · subst hm
      rw [List.getElem?_set_self (by simpa using hj), List.getElem?_mapIdx, List.getElem?_eq_getElem hj]
      simp
    · rw [List.getElem?_set_ne (Ne.symm hm), List.getElem?_mapIdx, List.getElem?_mapIdx]
      cases (D.f k)[m]? with
      | none => rfl
      | some s =>
        simp only [Option.map_some]
        congr 1
        simp only [Nat.lt_irrefl, false_or, true_and]
        by_cases h1 : m < j
        · rw [if_pos h1, if_pos (by omega)]
        · rw [if_neg h1, if_neg (by omega)]
  · simp only [if_neg hk]
    apply List.ext_getElem?
    intro m
    rw [List.getElem?_mapIdx, List.getElem?_mapIdx]
    cases (D.f k)[m]? with
    | none => rfl
    | some s =>
      simp only [Option.map_some]
      congr 1
      by_cases h1 : k < i
      · rw [if_pos (.inl h1), if_pos (.inl h1)]
      · rw [if_neg (by omega), if_neg (by omega)]
theorem crTo_next (D : Dv) (l : List Ft) (i : Nat) : D.crTo l i (D.f i).length = D.crTo l (i + 1) 0 := by
  unfold Dv.crTo
  refine crTo_ext (D := D) (fun k => ?_)
  apply List.ext_getElem?
  intro m
  rw [List.getElem?_mapIdx, List.getElem?_mapIdx]
  by_cases hm : m < (D.f k).length
  · rw [List.getElem?_eq_getElem hm]
    simp only [Option.map_some]
    congr 1
    by_cases h1 : k < i
    · rw [if_pos (.inl h1), if_pos (.inl (by omega))]
    · by_cases h2 : k = i
      · subst h2
        rw [if_pos (.inr ⟨rfl, hm⟩), if_pos (.inl (by omega))]
      · rw [if_neg (by omega), if_neg (by omega)]
  · rw [List.getElem?_eq_none (by omega)]; rfl
theorem MapAt.fr {w w' : World} {m : Nat} {l : List Ft} {S : Nat → Prop} (h : MapAt w m l) (hf : Fr S w w') (hn : ¬ S m) : MapAt w' m l := by
  have hlt := h.lt
  obtain ⟨n, D, ⟨es, clock, hb, F, hs, hD⟩, h2⟩ := h
  exact ⟨n, D, ⟨es, clock, (hf.block m hlt hn).trans hb, F, hs, hD⟩, h2⟩
/-- a device behind a crash -/
def Dv.crash (D : Dv) (l : List Ft) : Dv := { D.crTo l 2 0 with lim := false, left := 0, dead := false }
set_option maxRecDepth 100000 in
set_option maxHeartbeats 16000000 in
theorem crash_yes {w : World} {S : Nat → Prop} {b : Nat} {D : Dv} {col : Nat → Nat} {fv : Nat → Value} {uv : Nat → List Pl} (h : DA w S b D col fv uv) (v : Value) (l : List Ft) (hv : SS cFt 4 w w.heap.size v l) (ho : ∀ x ∈ l, x.Ok) (hl : l.length ≤ 100000) (hw : ∀ i, i < 2 → ∀ s ∈ D.f i, s.wait.length ≤ 100000) :
    Calls Try.prog 20 #[.pointer (some ⟨b, 0, none⟩), v] w fun e w' => e = .returned (.tuple #[]) ∧ (∃ col' uv', DA w' (growS w w' S) b (D.crash l) col' fv uv') ∧ Fr S w w' := by
  have FT := Lib.hid (fates_any w v l hv ho hl)
  have HH := Lib.hid h
  have HWT := Lib.hid hw
  clear h hv ho hl hw
  go_enter Try.func20, Try.ntmps20
  go_wp2_with fail
  (with_reducible refine FT.out.mono ?_)
  rintro e w1 ⟨q, m, rfl, hq1, hm1, ⟨hqw, hmw⟩, hb1⟩
  have HQ1 := Lib.hid hq1
  have HM1 := Lib.hid hm1
  have HB1 := Lib.hid hb1
  have HD1 := Lib.hid (HH.out.later hb1)
  have HSQ := Lib.hid (show ∀ x, S x → x ≠ q ∧ x ≠ m from fun x hx => by have := HH.out.old x hx; omega)
  clear hq1 hm1 hb1 hqw hmw
  go_wp2
  go_loopw [9] (fun x wr => ∃ i : Nat, i ≤ 2 ∧ x = .int .i64 i ∧ Hid ((∃ col' uv', DA wr (growS w1 wr S) b (D.crTo l i 0) col' fv uv') ∧ Fr S w wr ∧ Box wr q #[.map (some m)] 88 ∧ MapAt wr m l ∧ w1.heap.size ≤ wr.heap.size)) (fun x _ => 2 - (intOf x).toNat)
  case atStart => exact ⟨0, by decide, rfl, Lib.hid ⟨⟨col, uv, by rw [crTo_zero]; exact HD1.out.grow⟩, Fr.of_below HB1.out, HQ1.out, HM1.out, Nat.le_refl _⟩⟩
  case round =>
    obtain ⟨i, hi, rfl, HO⟩ := hrel
    by_cases hlt : i < 2
    · have di : decide ((i : Int) < 2) = true := by simp; omega
      have hi2 : (i : Int) < 2 := by omega
      obtain ⟨⟨col1, uv1, hd⟩, hfr, hqb, hmp, hsz⟩ := HO.out
      obtain ⟨A, c, ev, hlc⟩ : ∃ A c, fv i = .slice A (D.f i).length c ∧ (D.f i).length ≤ c := by
        rcases (HH.out.file i hlt).row.1.2 with ⟨e, h0⟩ | ⟨g, cap, _, e, _, _, h1, _⟩
        · rw [h0]; exact ⟨none, 0, e, Nat.le_refl _⟩
        · exact ⟨_, cap, e, h1⟩
      obtain ⟨LN, hL⟩ : ∃ LN, LN = (D.f i).length := ⟨_, rfl⟩
      rw [← hL] at ev hlc
      have hmo : LN ≤ 4096 := by rw [hL]; exact HH.out.most i hlt
      have kc : wr.cell? ⟨b, i, none⟩ = some (.slice A LN c) := by
        rw [hd.box.cell i, ← ev]
        rcases two hlt with h9 | h9 <;> (subst h9; rfl)
      have EV := Lib.hid ev
      have HL := Lib.hid hL
      have HI := Lib.hid hlt
      have START := Lib.hid (And.intro (⟨col1, uv1, hd⟩ : ∃ col' uv', DA wr (growS w1 wr S) b (D.crTo l i 0) col' fv uv') (And.intro hfr (And.intro hqb hmp)))
      have HZ0 := Lib.hid hsz
      clear hd hfr hqb hmp ev hL HO hsz
      go_wp2
      clear kc
      go_loopw [19] (fun x wr => ∃ j : Nat, j ≤ LN ∧ x = .int .i64 j ∧ Hid (((∃ col' uv', DA wr (growS w1 wr S) b (D.crTo l i j) col' fv uv') ∧ Fr S w wr ∧ Box wr q #[.map (some m)] 88 ∧ MapAt wr m l) ∧ w1.heap.size ≤ wr.heap.size)) (fun x _ => LN - (intOf x).toNat)
      case atStart => exact ⟨0, Nat.zero_le _, rfl, Lib.hid ⟨START.out, HZ0.out⟩⟩
      case round =>
        obtain ⟨j, hj, rfl, HR⟩ := hrel
        by_cases hlt2 : j < LN
        · obtain ⟨⟨⟨col2, uv2, hd⟩, hfr, hqb, hmp⟩, hsz2⟩ := HR.out
          have HZ := Lib.hid hsz2
          have hjl : j < (D.f i).length := by rw [← HL.out]; exact hlt2
          obtain ⟨g, cap, C, p, s, sp⟩ := (hd.file i HI.out).spot j (by rw [crTo_len]; exact hjl)
          have es : s = (D.f i)[j] := Option.some.inj (sp.hs.symm.trans (crTo_at D l i j hjl))
          have eA : A = some ⟨g, 0, none⟩ := by
            have := sp.hv
            rw [EV.out] at this
            injection this
          subst eA
          obtain ⟨y, hy⟩ : ∃ y, y = fateAt l i j := ⟨_, rfl⟩
          have dj : decide ((j : Int) < (LN : Int)) = true := by simp; omega
          have wi8 : IntKind.u8.wrap (i : Int) = (i : Int) := by rw [IntKind.wrap_u8]; omega
          have HD := Lib.hid hd
          have BB1 := Lib.hid (show Box wr b (dC fv (D.crTo l i j).lim (D.crTo l i j).left (D.crTo l i j).dead) 65 from hd.box)
          have HCJ := Lib.hid (show (dC fv (D.crTo l i j).lim (D.crTo l i j).left (D.crTo l i j).dead)[i]? = some (.slice (some ⟨g, 0, none⟩) LN c) by rw [← EV.out]; rcases two HI.out with h9 | h9 <;> (subst h9; rfl))
          have FA := Lib.hid (fun W (hb : Below wr.heap.size wr W) => fate_any W q m l (hqb.later hb) (hmp.later hb) i j (by omega) (by omega))
          rw [← hy] at FA
          have CR := Lib.hid (fun W (hb : Below wr.heap.size wr W) => crash_at (hd.later hb) HI.out (sp.later hb) y.file y.sec y.keep y.torn (HWT.out i HI.out s (by rw [es]; exact List.getElem_mem _)))
          rw [show 2 * j = j * 2 from Nat.mul_comm 2 j] at CR
          have HY := Lib.hid hy
          have ES := Lib.hid es
          have HFR := Lib.hid hfr
          have HQB := Lib.hid hqb
          have HMP := Lib.hid hmp
          clear hd hfr hqb hmp sp hy es HR hsz2
          go_wp2
          refine wp_region_end (by kernel_rfl) (by kernel_rfl) 13 (fun _ _ => True) (fun W => (∃ col' uv', DA W (growS wr W (growS w1 wr S)) b ((Dv.crTo D l i j).upd i j (s.crash y.keep y.torn)) col' fv uv') ∧ Fr (growS w1 wr S) wr W) [(fun v _ => v = .pointer (some ⟨b, 0, none⟩)), (fun v _ => v = .int .i64 i), (fun v _ => v = .pointer (some ⟨b, 0, none⟩)), (fun v _ => v = .pointer (some ⟨b, 0, none⟩)), (fun v _ => v = .pointer (some ⟨b, i, none⟩)), (fun v _ => v = .slice (some ⟨g, 0, none⟩) LN c), (fun v _ => v = .int .i64 j), (fun v _ => v = .pointer (some ⟨g, j * 2, none⟩)), (fun v _ => v = .func (.func 53) #[] #[.pointer (some ⟨q, 0, none⟩)]), (fun v _ => v = .int .i64 i), (fun v _ => v = .int .u8 i), (fun v _ => v = .int .i64 j), (fun v _ => v = Ft.v y), (fun v _ => v = undef)] (fun W W' hb h => ⟨by obtain ⟨c1, u1, h1⟩ := h.1; exact ⟨c1, u1, (h1.later hb).mono (fun x hx => by rcases hx with hx | hx; (exact .inl hx); (exact .inr ⟨hx.1, Nat.lt_of_lt_of_le hx.2 hb.size⟩)) (fun x hx => by rcases hx with hx | hx; (exact Nat.lt_of_lt_of_le (HD.out.old x hx) (Nat.le_trans h.2.size hb.size)); (exact hx.2))⟩, h.2.below hb⟩) ?_ (fun vals => ?_) (fun vals W hfin hall => ?_) (by decide)
          · intro j v W W' hj hr h
            match j, hj, h with
            | 0, _, h => exact h
            | 1, _, h => exact h
            | 2, _, h => exact h
            | 3, _, h => exact h
            | 4, _, h => exact h
            | 5, _, h => exact h
            | 6, _, h => exact h
            | 7, _, h => exact h
            | 8, _, h => exact h
            | 9, _, h => exact h
            | 10, _, h => exact h
            | 11, _, h => exact h
            | 12, _, h => exact h
            | 13, hj, _ => exact absurd rfl hj
            | _ + 14, _, _ => trivial
          · simp only [ObL, Act.put, List.setIfInBounds_toArray, List.set_cons_succ, List.set_cons_zero]
            refine ⟨?_, ?_, ?_, ?_, ?_, ?_, ?_, ?_, ?_, ?_, ?_, ?_, ?_, ?_, trivial⟩
            · intro L W hL hk hC hw
              clear hw
              clear hL hC hk
              refine step_plain rfl ?_
              go_simp
              first | exact ⟨Re.same (by decide), Fe.val (by decide) rfl rfl⟩ | exact ⟨_, rfl, Re.same (by decide), Fe.val (by decide) rfl rfl⟩
            · intro L W hL hk hC hw
              clear hw
              clear hL hC hk
              refine step_plain rfl ?_
              go_simp
              first | exact ⟨Re.same (by decide), Fe.val (by decide) rfl rfl⟩ | exact ⟨_, rfl, Re.same (by decide), Fe.val (by decide) rfl rfl⟩
            · intro L W hL hk hC hw
              have f0 : vals 0 = .pointer (some ⟨b, 0, none⟩) := Fe.get (hw ⟨0, .data⟩ (by simp) rfl) (by decide)
              clear hw
              clear hL hC hk
              refine step_plain rfl ?_
              go_simp
              first | exact ⟨Re.same (by decide), Fe.val (by decide) rfl rfl⟩ | exact ⟨_, rfl, Re.same (by decide), Fe.val (by decide) rfl rfl⟩
            · intro L W hL hk hC hw
              have f2 : vals 2 = .pointer (some ⟨b, 0, none⟩) := Fe.get (hw ⟨2, .data⟩ (by simp) rfl) (by decide)
              clear hw
              clear hL hC hk
              refine step_plain rfl ?_
              go_simp
              first | exact ⟨Re.same (by decide), Fe.val (by decide) rfl rfl⟩ | exact ⟨_, rfl, Re.same (by decide), Fe.val (by decide) rfl rfl⟩
            · intro L W hL hk hC hw
              have f3 : vals 3 = .pointer (some ⟨b, 0, none⟩) := Fe.get (hw ⟨3, .data⟩ (by simp) rfl) (by decide)
              have f1 : vals 1 = .int .i64 i := Fe.get (hw ⟨1, .data⟩ (by simp) rfl) (by decide)
              clear hw
              clear hL hC hk
              refine step_plain rfl ?_
              go_simp
              first | exact ⟨Re.same (by decide), Fe.val (by decide) rfl rfl⟩ | exact ⟨_, rfl, Re.same (by decide), Fe.val (by decide) rfl rfl⟩
            · intro L W hL hk hC hw
              have f4 : vals 4 = .pointer (some ⟨b, i, none⟩) := Fe.get (hw ⟨4, .data⟩ (by simp) rfl) (by decide)
              clear hw
              have hb := hC (hL.not_yet hk 13 8 (by decide +kernel))
              have bx := BB1.out.later hb
              have kc : W.cell? ⟨b, i, none⟩ = some (.slice (some ⟨g, 0, none⟩) LN c) := (bx.cell i).trans HCJ.out
              clear hL hC hk hb bx
              refine step_plain rfl ?_
              go_simp
              first | exact ⟨Re.same (by decide), Fe.val (by decide) rfl rfl⟩ | exact ⟨_, rfl, Re.same (by decide), Fe.val (by decide) rfl rfl⟩
            · intro L W hL hk hC hw
              clear hw
              clear hL hC hk
              refine step_plain rfl ?_
              go_simp
              first | exact ⟨Re.same (by decide), Fe.val (by decide) rfl rfl⟩ | exact ⟨_, rfl, Re.same (by decide), Fe.val (by decide) rfl rfl⟩
            · intro L W hL hk hC hw
              have f5 : vals 5 = .slice (some ⟨g, 0, none⟩) LN c := Fe.get (hw ⟨5, .data⟩ (by simp) rfl) (by decide)
              have f6 : vals 6 = .int .i64 j := Fe.get (hw ⟨6, .data⟩ (by simp) rfl) (by decide)
              clear hw
              clear hL hC hk
              refine step_plain rfl ?_
              go_simp
              first | exact ⟨Re.same (by decide), Fe.val (by decide) rfl rfl⟩ | exact ⟨_, rfl, Re.same (by decide), Fe.val (by decide) rfl rfl⟩
            · intro L W hL hk hC hw
              clear hw
              clear hL hC hk
              refine step_plain rfl ?_
              go_simp
              first | exact ⟨Re.same (by decide), Fe.val (by decide) rfl rfl⟩ | exact ⟨_, rfl, Re.same (by decide), Fe.val (by decide) rfl rfl⟩
            · intro L W hL hk hC hw
              clear hw
              clear hL hC hk
              refine step_plain rfl ?_
              go_simp
              first | exact ⟨Re.same (by decide), Fe.val (by decide) rfl rfl⟩ | exact ⟨_, rfl, Re.same (by decide), Fe.val (by decide) rfl rfl⟩
            · intro L W hL hk hC hw
              have f9 : vals 9 = .int .i64 i := Fe.get (hw ⟨9, .data⟩ (by simp) rfl) (by decide)
              clear hw
              clear hL hC hk
              refine step_plain rfl ?_
              go_simp
              first | exact ⟨Re.same (by decide), Fe.val (by decide) rfl rfl⟩ | exact ⟨_, rfl, Re.same (by decide), Fe.val (by decide) rfl rfl⟩
            · intro L W hL hk hC hw
              clear hw
              clear hL hC hk
              refine step_plain rfl ?_
              go_simp
              first | exact ⟨Re.same (by decide), Fe.val (by decide) rfl rfl⟩ | exact ⟨_, rfl, Re.same (by decide), Fe.val (by decide) rfl rfl⟩
            · intro L W hL hk hC hw
              have f8 : vals 8 = .func (.func 53) #[] #[.pointer (some ⟨q, 0, none⟩)] := Fe.get (hw ⟨8, .data⟩ (by simp) rfl) (by decide)
              have f10 : vals 10 = .int .u8 i := Fe.get (hw ⟨10, .data⟩ (by simp) rfl) (by decide)
              have f11 : vals 11 = .int .i64 j := Fe.get (hw ⟨11, .data⟩ (by simp) rfl) (by decide)
              clear hw
              have hb := hC (hL.not_yet hk 13 8 (by decide +kernel))
              have FTC := Lib.hid (FA.out W hb)
              clear hL hC hk hb
              refine step_plain rfl ?_
              go_simp
              (with_reducible refine FTC.out.mono ?_)
              rintro e w8 ⟨rfl, hb8⟩
              first | exact ⟨Re.of (by decide) hb8, Fe.val (by decide) rfl rfl⟩ | exact ⟨_, rfl, Re.of (by decide) hb8, Fe.val (by decide) rfl rfl⟩
            · intro L W hL hk hC hw
              have f7 : vals 7 = .pointer (some ⟨g, j * 2, none⟩) := Fe.get (hw ⟨7, .data⟩ (by simp) rfl) (by decide)
              have f12 : vals 12 = Ft.v y := Fe.get (hw ⟨12, .data⟩ (by simp) rfl) (by decide)
              clear hw
              have hb := hC hk
              have CRC := Lib.hid (CR.out W hb)
              have HBB := Lib.hid hb
              clear hL hC hk hb
              refine step_plain rfl ?_
              go_simp
              (with_reducible refine CRC.out.mono ?_)
              rintro e w8 ⟨rfl, hd8, hf8⟩
              have hd9 : ∃ col' uv', DA w8 (growS wr w8 (growS w1 wr S)) b ((Dv.crTo D l i j).upd i j (s.crash y.keep y.torn)) col' fv uv' := by
                      obtain ⟨c9, u9, h9⟩ := hd8
                      exact ⟨c9, u9, h9.mono (fun x hx => by rcases hx with hx | hx; (exact .inl hx); (exact .inr ⟨Nat.le_trans HBB.out.size hx.1, hx.2⟩)) (fun x hx => by rcases hx with hx | hx; (exact Nat.lt_of_lt_of_le (HD.out.old x hx) (Nat.le_trans HBB.out.size hf8.size)); (exact hx.2))⟩
              have hfin8 := And.intro hd9 (Fr.sub (Fr.of_below HBB.out) hf8 (fun x _ hs => hs))
              first | exact ⟨Re.last trivial, Fe.last hfin8⟩ | exact ⟨_, rfl, Re.last trivial, Fe.last hfin8⟩
          · simp only [TL, Act.put, List.setIfInBounds_toArray, List.set_cons_succ, List.set_cons_zero]
            obtain ⟨⟨c9, u9, h9⟩, f9⟩ := hfin
            have e9 : (D.crTo l i j).upd i j (s.crash y.keep y.torn) = D.crTo l i (j + 1) := by
              have := crTo_succ D l i j hjl
              rw [← this, ← ES.out, HY.out]; rfl
            rw [e9] at h9
            have hz : w1.heap.size ≤ wr.heap.size := HZ.out
            have hgr := h9.mono (S' := growS w1 W S) (fun x hx => by
              rcases hx with (hx | hx) | hx
              · exact .inl hx
              · exact .inr ⟨hx.1, Nat.lt_of_lt_of_le hx.2 f9.size⟩
              · exact .inr ⟨Nat.le_trans hz hx.1, hx.2⟩) (fun x hx => by
              rcases hx with hx | hx
              · exact Nat.lt_of_lt_of_le (HH.out.old x hx) (Nat.le_trans HFR.out.size f9.size)
              · exact hx.2)
            have HNX := Lib.hid (show (∃ col' uv', DA W (growS w1 W S) b (D.crTo l i (j + 1)) col' fv uv') ∧ Fr S w W ∧ Box W q #[.map (some m)] 88 ∧ MapAt W m l from
              ⟨⟨_, _, hgr⟩, Fr.sub HFR.out f9 (fun x hx hs => by rcases hs with hs | hs; (exact hs); (have := HB1.out.size; omega)),
                HQB.out.fr f9 (fun hs => by rcases hs with hs | hs; (exact (HSQ.out q hs).1 rfl); (have := HQ1.out.lt; omega)),
                HMP.out.fr f9 (fun hs => by rcases hs with hs | hs; (exact (HSQ.out m hs).2 rfl); (have := HM1.out.lt; omega))⟩)
            have HZ2 := Lib.hid (Nat.le_trans hz f9.size)
            clear h9 f9 e9 hz hgr hall
            go_wp2
            go_roundw
            case rel => exact ⟨j + 1, by omega, by go_num, Lib.hid ⟨HNX.out, HZ2.out⟩⟩
            case measure => simp [intOf]; omega
        · have hjL : j = LN := by omega
          have dj : decide ((j : Int) < (LN : Int)) = false := by simp; omega
          have HN := Lib.hid (show (∃ col' uv', DA wr (growS w1 wr S) b (D.crTo l (i + 1) 0) col' fv uv') ∧ Fr S w wr ∧ Box wr q #[.map (some m)] 88 ∧ MapAt wr m l by
            have h9 := HR.out.1
            rw [hjL, HL.out, crTo_next] at h9
            exact h9)
          have HZ3 := Lib.hid HR.out.2
          clear HR hjL
          go_wp2
          go_roundw
          case rel => exact ⟨i + 1, by omega, by go_num, Lib.hid ⟨HN.out.1, HN.out.2.1, HN.out.2.2.1, HN.out.2.2.2, HZ3.out⟩⟩
          case measure => simp [intOf]; omega
    · have hi2 : i = 2 := by omega
      subst hi2
      obtain ⟨⟨col1, uv1, hd⟩, hfr, hqb, hmp, hsz⟩ := HO.out
      have HD := Lib.hid hd
      have HFR := Lib.hid hfr
      have HZ := Lib.hid hsz
      have kb2 := hd.box.cell
      have fb2 := hd.box.frozen
      clear hd hfr hqb hmp hsz HO
      go_wp2
      have hb4 := Box.set_ (Box.set_ (Box.set_ HD.out.box 2 (.bool false)) 3 (.int .i64 0)) 4 (.bool false)
      have hf4 := Fr.setCell (Fr.setCell (Fr.setCell (Fr.refl (fun x => x = b) wr) (p := ⟨b, 2, none⟩) (.inl rfl) (.bool false)) (p := ⟨b, 3, none⟩) (.inl rfl) (.int .i64 0)) (p := ⟨b, 4, none⟩) (.inl rfl) (.bool false)
      simp only [List.setIfInBounds_toArray, List.set_cons_zero, List.set_cons_succ] at hb4
      generalize hW : World.setCell _ (⟨b, 4, none⟩ : Addr) _ = w9 at hb4 hf4 ⊢
      clear hW
      go_end0
      have h9 := HD.out.head hf4 false 0 false (by decide) hb4
      have hgr := h9.mono (S' := growS w w9 S) (fun x hx => by
        rcases hx with hx | hx
        · exact .inl hx
        · exact .inr ⟨Nat.le_trans HB1.out.size hx.1, Nat.lt_of_lt_of_le hx.2 hf4.size⟩) (fun x hx => by
        rcases hx with hx | hx
        · exact Nat.lt_of_lt_of_le (HH.out.old x hx) (Nat.le_trans HFR.out.size hf4.size)
        · exact hx.2)
      exact ⟨rfl, ⟨_, _, hgr⟩, Fr.sub HFR.out hf4 (fun x _ hx => by rw [hx]; exact HH.out.here)⟩
end Go.Proofs.Ytplombkpefacgaa.Disk
