import Derived.Test.YteggcehjpfmikaaFr
import Derived.Test.YteggcehjpfmikaaMem2
import Derived.Test.YteggcehjpfmikaaWs0
import Derived.Test.YteggcehjpfmikaaWs4
import Derived.Deep.RegionHeld3
import Derived.Defers
import Derived.Recover
import Derived.WalkLawsBesides
namespace Go.Proofs.Yteggcehjpfmikaa.Disk
open Go.ChangeShapes Go.WideShapes Go.ChangeAt Go.RowKit Go.IntWalk Go.Proofs.Mem Go.Proofs.Each Law
set_option linter.unusedVariables false
set_option maxRecDepth 100000
set_option linter.unusedSimpArgs false
def crS (l : List Ft) (k n : Nat) (s : Se) : Se := s.crash (fateAt l k n).keep (fateAt l k n).torn
def Dv.crTo (D : Dv) (l : List Ft) (i j : Nat) : Dv := { D with f := fun k => (D.f k).mapIdx (fun n s => if k < i ∨ (k = i ∧ n < j) then crS l k n s else s) }
theorem crTo_ext {D : Dv} {f g : Nat → List Se} (h : ∀ k, f k = g k) : ({ D with f := f } : Dv) = { D with f := g } := by
  have : f = g := funext h
  rw [this]
theorem crTo_zero (D : Dv) (l : List Ft) : D.crTo l 0 0 = D := by
  have : D = { D with f := D.f } := rfl
  conv => rhs; rw [this]
  unfold Dv.crTo
  refine crTo_ext (fun k => ?_)
  apply List.ext_getElem?
  intro m
  rw [List.getElem?_mapIdx]
  cases (D.f k)[m]? with
  | none => rfl
  | some s => simp
theorem crTo_len (D : Dv) (l : List Ft) (i j k : Nat) : ((D.crTo l i j).f k).length = (D.f k).length := by simp [Dv.crTo]
theorem crTo_at (D : Dv) (l : List Ft) (i j : Nat) (hj : j < (D.f i).length) : ((D.crTo l i j).f i)[j]? = some (D.f i)[j] := by
  simp only [Dv.crTo]
  rw [List.getElem?_mapIdx, List.getElem?_eq_getElem hj]
  simp
theorem crTo_succ (D : Dv) (l : List Ft) (i j : Nat) (hj : j < (D.f i).length) : (D.crTo l i j).upd i j (crS l i j (D.f i)[j]) = D.crTo l i (j + 1) := by
  unfold Dv.upd Dv.crTo
  refine crTo_ext (D := D) (fun k => ?_)
  by_cases hk : k = i
  · subst hk
    simp only [if_true]
    apply List.ext_getElem?
    intro m
    by_cases hm : m = j
    · subst hm
      rw [List.getElem?_set_self (by simpa using hj), List.getElem?_mapIdx, List.getElem?_eq_getElem hj]
      simp
    · rw [List.getElem?_set_ne (Ne.symm hm), List.getElem?_mapIdx, List.getElem?_mapIdx]
      cases (D.f k)[m]? with
      | none => rfl
      | some s =>
        simp only [Option.map_some]
        congr 1
        simp only [Nat.lt_irrefl, false_or, true_and]
        by_cases h1 : m < j
        · rw [if_pos h1, if_pos (by omega)]
        · rw [if_neg h1, if_neg (by omega)]
  · simp only [if_neg hk]
    apply List.ext_getElem?
    intro m
    rw [List.getElem?_mapIdx, List.getElem?_mapIdx]
    cases (D.f k)[m]? with
    | none => rfl
    | some s =>
      simp only [Option.map_some]
      congr 1
      by_cases h1 : k < i
      · rw [if_pos (.inl h1), if_pos (.inl h1)]
      · rw [if_neg (by omega), if_neg (by omega)]
theorem crTo_next (D : Dv) (l : List Ft) (i : Nat) : D.crTo l i (D.f i).length = D.crTo l (i + 1) 0 := by
  unfold Dv.crTo
  refine crTo_ext (D := D) (fun k => ?_)
  apply List.ext_getElem?
  intro m
  rw [List.getElem?_mapIdx, List.getElem?_mapIdx]
  by_cases hm : m < (D.f k).length
  · rw [List.getElem?_eq_getElem hm]
    simp only [Option.map_some]
    congr 1
    by_cases h1 : k < i
    · rw [if_pos (.inl h1), if_pos (.inl (by omega))]
    · by_cases h2 : k = i
      · subst h2
        rw [if_pos (.inr ⟨rfl, hm⟩), if_pos (.inl (by omega))]
      · rw [if_neg (by omega), if_neg (by omega)]
  · rw [List.getElem?_eq_none (by omega)]; rfl
theorem MapAt.fr {w w' : World} {m : Nat} {l : List Ft} {S : Nat → Prop} (h : MapAt w m l) (hf : Fr S w w') (hn : ¬ S m) : MapAt w' m l := by
  have hlt := h.lt
  obtain ⟨n, D, ⟨es, clock, hb, F, hs, hD⟩, h2⟩ := h
  exact ⟨n, D, ⟨es, clock, (hf.block m hlt hn).trans hb, F, hs, hD⟩, h2⟩
def Dv.crash (D : Dv) (l : List Ft) : Dv := { D.crTo l 2 0 with lim := false, left := 0, dead := false }
set_option maxRecDepth 100000 in
set_option maxHeartbeats 16000000 in
theorem crash_yes {w : World} {S : Nat → Prop} {b : Nat} {D : Dv} {col : Nat → Nat} {fv : Nat → Value} {uv : Nat → List Pl} (h : DA w S b D col fv uv) (v : Value) (l : List Ft) (hv : SS cFt 4 w w.heap.size v l) (ho : ∀ x ∈ l, x.Ok) (hl : l.length ≤ 100000) (hw : ∀ i, i < 2 → ∀ s ∈ D.f i, s.wait.length ≤ 100000) :
    Calls Try.prog 11 #[.pointer (some ⟨b, 0, none⟩), v] w fun e w' => e = .returned (.tuple #[]) ∧ (∃ col' uv', DA w' (growS w w' S) b (D.crash l) col' fv uv') ∧ Fr S w w' := by
  have FT := Lib.hid (fates_any w v l hv ho hl)
  have HH := Lib.hid h
  have HWT := Lib.hid hw
  clear h hv ho hl hw
  go_enter Try.func11, Try.ntmps11
  go_wp2_with fail
  (with_reducible refine FT.out.mono ?_)
  rintro e w1 ⟨q, m, rfl, hq1, hm1, ⟨hqw, hmw⟩, hb1⟩
  have HQ1 := Lib.hid hq1
  have HM1 := Lib.hid hm1
  have HB1 := Lib.hid hb1
  have HD1 := Lib.hid (HH.out.later hb1)
  have HSQ := Lib.hid (show ∀ x, S x → x ≠ q ∧ x ≠ m from fun x hx => by have := HH.out.old x hx; omega)
  clear hq1 hm1 hb1 hqw hmw
  go_wp2
  go_loopw [9] (fun x wr => ∃ i : Nat, i ≤ 2 ∧ x = .int .i64 i ∧ Hid ((∃ col' uv', DA wr (growS w1 wr S) b (D.crTo l i 0) col' fv uv') ∧ Fr S w wr ∧ Box wr q #[.map (some m)] 109 ∧ MapAt wr m l ∧ w1.heap.size ≤ wr.heap.size)) (fun x _ => 2 - (intOf x).toNat)
  case atStart => exact ⟨0, by decide, rfl, Lib.hid ⟨⟨col, uv, by rw [crTo_zero]; exact HD1.out.grow⟩, Fr.of_below HB1.out, HQ1.out, HM1.out, Nat.le_refl _⟩⟩
  case round =>
    obtain ⟨i, hi, rfl, HO⟩ := hrel
    by_cases hlt : i < 2
    · have di : decide ((i : Int) < 2) = true := by simp; omega
      have hi2 : (i : Int) < 2 := by omega
      obtain ⟨⟨col1, uv1, hd⟩, hfr, hqb, hmp, hsz⟩ := HO.out
      obtain ⟨A, c, ev, hlc⟩ : ∃ A c, fv i = .slice A (D.f i).length c ∧ (D.f i).length ≤ c := by
        rcases (HH.out.file i hlt).row.1.2 with ⟨e, h0⟩ | ⟨g, cap, _, e, _, _, h1, _⟩
        · rw [h0]; exact ⟨none, 0, e, Nat.le_refl _⟩
        · exact ⟨_, cap, e, h1⟩
      obtain ⟨LN, hL⟩ : ∃ LN, LN = (D.f i).length := ⟨_, rfl⟩
      rw [← hL] at ev hlc
      have hmo : LN ≤ 4096 := by rw [hL]; exact HH.out.most i hlt
      have kc : wr.cell? ⟨b, i, none⟩ = some (.slice A LN c) := by
        rw [hd.box.cell i, ← ev]
        rcases two hlt with h9 | h9 <;> (subst h9; rfl)
      have EV := Lib.hid ev
      have HL := Lib.hid hL
      have HI := Lib.hid hlt
      have START := Lib.hid (And.intro (⟨col1, uv1, hd⟩ : ∃ col' uv', DA wr (growS w1 wr S) b (D.crTo l i 0) col' fv uv') (And.intro hfr (And.intro hqb hmp)))
      have HZ0 := Lib.hid hsz
      clear hd hfr hqb hmp ev hL HO hsz
      go_wp2
      clear kc
      go_loopw [19] (fun x wr => ∃ j : Nat, j ≤ LN ∧ x = .int .i64 j ∧ Hid (((∃ col' uv', DA wr (growS w1 wr S) b (D.crTo l i j) col' fv uv') ∧ Fr S w wr ∧ Box wr q #[.map (some m)] 109 ∧ MapAt wr m l) ∧ w1.heap.size ≤ wr.heap.size)) (fun x _ => LN - (intOf x).toNat)
      case atStart => exact ⟨0, Nat.zero_le _, rfl, Lib.hid ⟨START.out, HZ0.out⟩⟩
      case round =>
        obtain ⟨j, hj, rfl, HR⟩ := hrel
        by_cases hlt2 : j < LN
        · obtain ⟨⟨⟨col2, uv2, hd⟩, hfr, hqb, hmp⟩, hsz2⟩ := HR.out
          have HZ := Lib.hid hsz2
          have hjl : j < (D.f i).length := by rw [← HL.out]; exact hlt2
          obtain ⟨g, cap, C, p, s, sp⟩ := (hd.file i HI.out).spot j (by rw [crTo_len]; exact hjl)
          have es : s = (D.f i)[j] := Option.some.inj (sp.hs.symm.trans (crTo_at D l i j hjl))
          have eA : A = some ⟨g, 0, none⟩ := by
            have := sp.hv
            rw [EV.out] at this
            injection this
          subst eA
          obtain ⟨y, hy⟩ : ∃ y, y = fateAt l i j := ⟨_, rfl⟩
          have dj : decide ((j : Int) < (LN : Int)) = true := by simp; omega
          have wi8 : IntKind.u8.wrap (i : Int) = (i : Int) := by rw [IntKind.wrap_u8]; omega
          have HD := Lib.hid hd
          have BB1 := Lib.hid (show Box wr b (dC fv (D.crTo l i j).lim (D.crTo l i j).left (D.crTo l i j).dead) 75 from hd.box)
          have HCJ := Lib.hid (show (dC fv (D.crTo l i j).lim (D.crTo l i j).left (D.crTo l i j).dead)[i]? = some (.slice (some ⟨g, 0, none⟩) LN c) by rw [← EV.out]; rcases two HI.out with h9 | h9 <;> (subst h9; rfl))
          have FA := Lib.hid (fun W (hb : Below wr.heap.size wr W) => fate_any W q m l (hqb.later hb) (hmp.later hb) i j (by omega) (by omega))
          rw [← hy] at FA
          have CR := Lib.hid (fun W (hb : Below wr.heap.size wr W) => crash_at (hd.later hb) HI.out (sp.later hb) y.file y.sec y.keep y.torn (HWT.out i HI.out s (by rw [es]; exact List.getElem_mem _)))
          rw [show 2 * j = j * 2 from Nat.mul_comm 2 j] at CR
          have HY := Lib.hid hy
          have ES := Lib.hid es
          have HFR := Lib.hid hfr
          have HQB := Lib.hid hqb
          have HMP := Lib.hid hmp
          clear hd hfr hqb hmp sp hy es HR hsz2
          go_wp2
          refine wp_region_end (by kernel_rfl) (by kernel_rfl) 13 (fun _ _ => True) (fun W => (∃ col' uv', DA W (growS wr W (growS w1 wr S)) b ((Dv.crTo D l i j).upd i j (s.crash y.keep y.torn)) col' fv uv') ∧ Fr (growS w1 wr S) wr W) [(fun v _ => v = .pointer (some ⟨b, 0, none⟩)), (fun v _ => v = .int .i64 i), (fun v _ => v = .pointer (some ⟨b, 0, none⟩)), (fun v _ => v = .pointer (some ⟨b, 0, none⟩)), (fun v _ => v = .pointer (some ⟨b, i, none⟩)), (fun v _ => v = .slice (some ⟨g, 0, none⟩) LN c), (fun v _ => v = .int .i64 j), (fun v _ => v = .pointer (some ⟨g, j * 2, none⟩)), (fun v _ => v = .func (.func 51) #[] #[.pointer (some ⟨q, 0, none⟩)]), (fun v _ => v = .int .i64 i), (fun v _ => v = .int .u8 i), (fun v _ => v = .int .i64 j), (fun v _ => v = Ft.v y), (fun v _ => v = undef)] (fun W W' hb h => ⟨by obtain ⟨c1, u1, h1⟩ := h.1; exact ⟨c1, u1, (h1.later hb).mono (fun x hx => by rcases hx with hx | hx; (exact .inl hx); (exact .inr ⟨hx.1, Nat.lt_of_lt_of_le hx.2 hb.size⟩)) (fun x hx => by rcases hx with hx | hx; (exact Nat.lt_of_lt_of_le (HD.out.old x hx) (Nat.le_trans h.2.size hb.size)); (exact hx.2))⟩, h.2.below hb⟩) ?_ (fun vals => ?_) (fun vals W hfin hall => ?_) (by decide)
          · intro j v W W' hj hr h
            match j, hj, h with
            | 0, _, h => exact h
            | 1, _, h => exact h
            | 2, _, h => exact h
            | 3, _, h => exact h
            | 4, _, h => exact h
            | 5, _, h => exact h
            | 6, _, h => exact h
            | 7, _, h => exact h
            | 8, _, h => exact h
            | 9, _, h => exact h
            | 10, _, h => exact h
            | 11, _, h => exact h
            | 12, _, h => exact h
            | 13, hj, _ => exact absurd rfl hj
            | _ + 14, _, _ => trivial
          · simp only [ObL, Act.put, List.setIfInBounds_toArray, List.set_cons_succ, List.set_cons_zero]
            refine ⟨?_, ?_, ?_, ?_, ?_, ?_, ?_, ?_, ?_, ?_, ?_, ?_, ?_, ?_, trivial⟩
            · intro L W hL hk hC hw
              clear hw
              clear hL hC hk
              refine step_plain rfl ?_
              go_simp
              first | exact ⟨Re.same (by decide), Fe.val (by decide) rfl rfl⟩ | exact ⟨_, rfl, Re.same (by decide), Fe.val (by decide) rfl rfl⟩
            · intro L W hL hk hC hw
              clear hw
              clear hL hC hk
              refine step_plain rfl ?_
              go_simp
              first | exact ⟨Re.same (by decide), Fe.val (by decide) rfl rfl⟩ | exact ⟨_, rfl, Re.same (by decide), Fe.val (by decide) rfl rfl⟩
            · intro L W hL hk hC hw
              have f0 : vals 0 = .pointer (some ⟨b, 0, none⟩) := Fe.get (hw ⟨0, .data⟩ (by simp) rfl) (by decide)
              clear hw
              clear hL hC hk
              refine step_plain rfl ?_
              go_simp
              first | exact ⟨Re.same (by decide), Fe.val (by decide) rfl rfl⟩ | exact ⟨_, rfl, Re.same (by decide), Fe.val (by decide) rfl rfl⟩
            · intro L W hL hk hC hw
              have f2 : vals 2 = .pointer (some ⟨b, 0, none⟩) := Fe.get (hw ⟨2, .data⟩ (by simp) rfl) (by decide)
              clear hw
              clear hL hC hk
              refine step_plain rfl ?_
              go_simp
              first | exact ⟨Re.same (by decide), Fe.val (by decide) rfl rfl⟩ | exact ⟨_, rfl, Re.same (by decide), Fe.val (by decide) rfl rfl⟩
            · intro L W hL hk hC hw
              have f3 : vals 3 = .pointer (some ⟨b, 0, none⟩) := Fe.get (hw ⟨3, .data⟩ (by simp) rfl) (by decide)
              have f1 : vals 1 = .int .i64 i := Fe.get (hw ⟨1, .data⟩ (by simp) rfl) (by decide)
              clear hw
              clear hL hC hk
              refine step_plain rfl ?_
              go_simp
              first | exact ⟨Re.same (by decide), Fe.val (by decide) rfl rfl⟩ | exact ⟨_, rfl, Re.same (by decide), Fe.val (by decide) rfl rfl⟩
            · intro L W hL hk hC hw
              have f4 : vals 4 = .pointer (some ⟨b, i, none⟩) := Fe.get (hw ⟨4, .data⟩ (by simp) rfl) (by decide)
              clear hw
              have hb := hC (hL.not_yet hk 13 8 (by decide +kernel))
              have bx := BB1.out.later hb
              have kc : W.cell? ⟨b, i, none⟩ = some (.slice (some ⟨g, 0, none⟩) LN c) := (bx.cell i).trans HCJ.out
              clear hL hC hk hb bx
              refine step_plain rfl ?_
              go_simp
              first | exact ⟨Re.same (by decide), Fe.val (by decide) rfl rfl⟩ | exact ⟨_, rfl, Re.same (by decide), Fe.val (by decide) rfl rfl⟩
            · intro L W hL hk hC hw
              clear hw
              clear hL hC hk
              refine step_plain rfl ?_
              go_simp
              first | exact ⟨Re.same (by decide), Fe.val (by decide) rfl rfl⟩ | exact ⟨_, rfl, Re.same (by decide), Fe.val (by decide) rfl rfl⟩
            · intro L W hL hk hC hw
              have f5 : vals 5 = .slice (some ⟨g, 0, none⟩) LN c := Fe.get (hw ⟨5, .data⟩ (by simp) rfl) (by decide)
              have f6 : vals 6 = .int .i64 j := Fe.get (hw ⟨6, .data⟩ (by simp) rfl) (by decide)
              clear hw
              clear hL hC hk
              refine step_plain rfl ?_
              go_simp
              first | exact ⟨Re.same (by decide), Fe.val (by decide) rfl rfl⟩ | exact ⟨_, rfl, Re.same (by decide), Fe.val (by decide) rfl rfl⟩
            · intro L W hL hk hC hw
              clear hw
              clear hL hC hk
              refine step_plain rfl ?_
              go_simp
              first | exact ⟨Re.same (by decide), Fe.val (by decide) rfl rfl⟩ | exact ⟨_, rfl, Re.same (by decide), Fe.val (by decide) rfl rfl⟩
            · intro L W hL hk hC hw
              clear hw
              clear hL hC hk
              refine step_plain rfl ?_
              go_simp
              first | exact ⟨Re.same (by decide), Fe.val (by decide) rfl rfl⟩ | exact ⟨_, rfl, Re.same (by decide), Fe.val (by decide) rfl rfl⟩
            · intro L W hL hk hC hw
              have f9 : vals 9 = .int .i64 i := Fe.get (hw ⟨9, .data⟩ (by simp) rfl) (by decide)
              clear hw
              clear hL hC hk
              refine step_plain rfl ?_
              go_simp
              first | exact ⟨Re.same (by decide), Fe.val (by decide) rfl rfl⟩ | exact ⟨_, rfl, Re.same (by decide), Fe.val (by decide) rfl rfl⟩
            · intro L W hL hk hC hw
              clear hw
              clear hL hC hk
              refine step_plain rfl ?_
              go_simp
              first | exact ⟨Re.same (by decide), Fe.val (by decide) rfl rfl⟩ | exact ⟨_, rfl, Re.same (by decide), Fe.val (by decide) rfl rfl⟩
            · intro L W hL hk hC hw
              have f8 : vals 8 = .func (.func 51) #[] #[.pointer (some ⟨q, 0, none⟩)] := Fe.get (hw ⟨8, .data⟩ (by simp) rfl) (by decide)
              have f10 : vals 10 = .int .u8 i := Fe.get (hw ⟨10, .data⟩ (by simp) rfl) (by decide)
              have f11 : vals 11 = .int .i64 j := Fe.get (hw ⟨11, .data⟩ (by simp) rfl) (by decide)
              clear hw
              have hb := hC (hL.not_yet hk 13 8 (by decide +kernel))
              have FTC := Lib.hid (FA.out W hb)
              clear hL hC hk hb
              refine step_plain rfl ?_
              go_simp
              (with_reducible refine FTC.out.mono ?_)
              rintro e w8 ⟨rfl, hb8⟩
              first | exact ⟨Re.of (by decide) hb8, Fe.val (by decide) rfl rfl⟩ | exact ⟨_, rfl, Re.of (by decide) hb8, Fe.val (by decide) rfl rfl⟩
            · intro L W hL hk hC hw
              have f7 : vals 7 = .pointer (some ⟨g, j * 2, none⟩) := Fe.get (hw ⟨7, .data⟩ (by simp) rfl) (by decide)
              have f12 : vals 12 = Ft.v y := Fe.get (hw ⟨12, .data⟩ (by simp) rfl) (by decide)
              clear hw
              have hb := hC hk
              have CRC := Lib.hid (CR.out W hb)
              have HBB := Lib.hid hb
              clear hL hC hk hb
              refine step_plain rfl ?_
              go_simp
              (with_reducible refine CRC.out.mono ?_)
              rintro e w8 ⟨rfl, hd8, hf8⟩
              have hd9 : ∃ col' uv', DA w8 (growS wr w8 (growS w1 wr S)) b ((Dv.crTo D l i j).upd i j (s.crash y.keep y.torn)) col' fv uv' := by
                      obtain ⟨c9, u9, h9⟩ := hd8
                      exact ⟨c9, u9, h9.mono (fun x hx => by rcases hx with hx | hx; (exact .inl hx); (exact .inr ⟨Nat.le_trans HBB.out.size hx.1, hx.2⟩)) (fun x hx => by rcases hx with hx | hx; (exact Nat.lt_of_lt_of_le (HD.out.old x hx) (Nat.le_trans HBB.out.size hf8.size)); (exact hx.2))⟩
              have hfin8 := And.intro hd9 (Fr.sub (Fr.of_below HBB.out) hf8 (fun x _ hs => hs))
              first | exact ⟨Re.last trivial, Fe.last hfin8⟩ | exact ⟨_, rfl, Re.last trivial, Fe.last hfin8⟩
          · simp only [TL, Act.put, List.setIfInBounds_toArray, List.set_cons_succ, List.set_cons_zero]
            obtain ⟨⟨c9, u9, h9⟩, f9⟩ := hfin
            have e9 : (D.crTo l i j).upd i j (s.crash y.keep y.torn) = D.crTo l i (j + 1) := by
              have := crTo_succ D l i j hjl
              rw [← this, ← ES.out, HY.out]; rfl
            rw [e9] at h9
            have hz : w1.heap.size ≤ wr.heap.size := HZ.out
            have hgr := h9.mono (S' := growS w1 W S) (fun x hx => by
              rcases hx with (hx | hx) | hx
              · exact .inl hx
              · exact .inr ⟨hx.1, Nat.lt_of_lt_of_le hx.2 f9.size⟩
              · exact .inr ⟨Nat.le_trans hz hx.1, hx.2⟩) (fun x hx => by
              rcases hx with hx | hx
              · exact Nat.lt_of_lt_of_le (HH.out.old x hx) (Nat.le_trans HFR.out.size f9.size)
              · exact hx.2)
            have HNX := Lib.hid (show (∃ col' uv', DA W (growS w1 W S) b (D.crTo l i (j + 1)) col' fv uv') ∧ Fr S w W ∧ Box W q #[.map (some m)] 109 ∧ MapAt W m l from
              ⟨⟨_, _, hgr⟩, Fr.sub HFR.out f9 (fun x hx hs => by rcases hs with hs | hs; (exact hs); (have := HB1.out.size; omega)),
                HQB.out.fr f9 (fun hs => by rcases hs with hs | hs; (exact (HSQ.out q hs).1 rfl); (have := HQ1.out.lt; omega)),
                HMP.out.fr f9 (fun hs => by rcases hs with hs | hs; (exact (HSQ.out m hs).2 rfl); (have := HM1.out.lt; omega))⟩)
            have HZ2 := Lib.hid (Nat.le_trans hz f9.size)
            clear h9 f9 e9 hz hgr hall
            go_wp2
            go_roundw
            case rel => exact ⟨j + 1, by omega, by go_num, Lib.hid ⟨HNX.out, HZ2.out⟩⟩
            case measure => simp [intOf]; omega
        · have hjL : j = LN := by omega
          have dj : decide ((j : Int) < (LN : Int)) = false := by simp; omega
          have HN := Lib.hid (show (∃ col' uv', DA wr (growS w1 wr S) b (D.crTo l (i + 1) 0) col' fv uv') ∧ Fr S w wr ∧ Box wr q #[.map (some m)] 109 ∧ MapAt wr m l by
            have h9 := HR.out.1
            rw [hjL, HL.out, crTo_next] at h9
            exact h9)
          have HZ3 := Lib.hid HR.out.2
          clear HR hjL
          go_wp2
          go_roundw
          case rel => exact ⟨i + 1, by omega, by go_num, Lib.hid ⟨HN.out.1, HN.out.2.1, HN.out.2.2.1, HN.out.2.2.2, HZ3.out⟩⟩
          case measure => simp [intOf]; omega
    · have hi2 : i = 2 := by omega
      subst hi2
      obtain ⟨⟨col1, uv1, hd⟩, hfr, hqb, hmp, hsz⟩ := HO.out
      have HD := Lib.hid hd
      have HFR := Lib.hid hfr
      have HZ := Lib.hid hsz
      have kb2 := hd.box.cell
      have fb2 := hd.box.frozen
      clear hd hfr hqb hmp hsz HO
      go_wp2
      have hb4 := Box.set_ (Box.set_ (Box.set_ HD.out.box 2 (.bool false)) 3 (.int .i64 0)) 4 (.bool false)
      have hf4 := Fr.setCell (Fr.setCell (Fr.setCell (Fr.refl (fun x => x = b) wr) (p := ⟨b, 2, none⟩) (.inl rfl) (.bool false)) (p := ⟨b, 3, none⟩) (.inl rfl) (.int .i64 0)) (p := ⟨b, 4, none⟩) (.inl rfl) (.bool false)
      simp only [List.setIfInBounds_toArray, List.set_cons_zero, List.set_cons_succ] at hb4
      generalize hW : World.setCell _ (⟨b, 4, none⟩ : Addr) _ = w9 at hb4 hf4 ⊢
      clear hW
      go_end0
      have h9 := HD.out.head hf4 false 0 false (by decide) hb4
      have hgr := h9.mono (S' := growS w w9 S) (fun x hx => by
        rcases hx with hx | hx
        · exact .inl hx
        · exact .inr ⟨Nat.le_trans HB1.out.size hx.1, Nat.lt_of_lt_of_le hx.2 hf4.size⟩) (fun x hx => by
        rcases hx with hx | hx
        · exact Nat.lt_of_lt_of_le (HH.out.old x hx) (Nat.le_trans HFR.out.size hf4.size)
        · exact hx.2)
      exact ⟨rfl, ⟨_, _, hgr⟩, Fr.sub HFR.out hf4 (fun x _ hx => by rw [hx]; exact HH.out.here)⟩
end Go.Proofs.Yteggcehjpfmikaa.Disk
namespace Go.Proofs.Yteggcehjpfmikaa.Disk
open Go.ChangeShapes Go.WideShapes Go.ChangeAt Go.RowKit Go.IntWalk Go.Proofs.Mem Go.Proofs.Each Law
set_option linter.unusedVariables false
set_option linter.unusedSimpArgs false
theorem own_far_ir {w w' : World} {S : Nat → Prop} {base : Nat} {v : Value} {xs : List Int} (h : w.ownsRow base 5 1 v 128 (xs.map (.int .u8))) (hl : xs.length = 128) (hs : ∀ x, S x → x < base) (hf : Fr S w w') : IR w' w'.heap.size .u8 v xs :=
  own_ir' (own_frS h hf (fun k hk hS => by have := (h.lt k hk).1; have := hs k hS; omega)) hl
theorem new_at (A B : Int) (w : World) (N0 N1 : Nat) (hA : A = N0) (hB : B = N1) (h0 : N0 ≤ 4096) (h1 : N1 ≤ 4096) :
    Calls Try.prog 27 #[.int .i64 A, .int .i64 B] w fun e w' => e = .returned (.pointer (some ⟨w.heap.size, 0, none⟩)) ∧ Out w w' (fun k => if k = 0 then N0 else N1) 2 := by
  subst hA hB; exact new_yes w N0 N1 h0 h1
def Dv.has (D : Dv) (i : Nat) (N : Int) : Prop := i < 2 ∧ 0 ≤ N ∧ N < (D.f i).length
instance (D : Dv) (i : Nat) (N : Int) : Decidable (D.has i N) := by unfold Dv.has; infer_instance
def Dv.wrE (D : Dv) (i : Nat) (N : Int) (L : Nat) : Int := if D.has i N then (if L = 128 then 0 else 1) else 50
def Dv.wrA (D : Dv) (i : Nat) (N : Int) (xs : List Int) : Dv := if D.has i N ∧ xs.length = 128 then D.wr i N.toNat ((D.f i).getD N.toNat zSe) xs else D
theorem DvAt.formv {tS tD : TypeId} {w : World} {S : Nat → Prop} {b : Nat} {D : Dv} {col : Nat → Nat} {fv : Nat → Value} {uv : Nat → List Pl} (h : DvAt tS tD w S b D col fv uv) (i : Nat) : ∃ A L c, (i < 2 → fv i = .slice A L c ∧ L = (D.f i).length) ∧ (¬ i < 2 → A = none ∧ L = 0 ∧ c = 0) := by
  by_cases hi : i < 2
  · rcases (h.file i hi).row.1.2 with ⟨e, h0⟩ | ⟨g, cap, _, e, _⟩
    · exact ⟨none, 0, 0, fun _ => ⟨e, h0.symm⟩, fun h => absurd hi h⟩
    · exact ⟨_, (D.f i).length, cap, fun _ => ⟨e, rfl⟩, fun h => absurd hi h⟩
  · exact ⟨none, 0, 0, fun h => absurd h hi, fun _ => ⟨rfl, rfl, rfl⟩⟩
theorem write_any {w : World} {S : Nat → Prop} {b : Nat} {D : Dv} {col : Nat → Nat} {fv : Nat → Value} {uv : Nat → List Pl} (h : DA w S b D col fv uv) (I N : Int) (i : Nat) (hI : I = i) (hi : i ≤ 255) (hw : ∀ k, k < 2 → ∀ s ∈ D.f k, s.wait.length ≤ 100000)
    (dv : Value) (xs : List Int) (hdf : ∀ w', Fr S w w' → IR w' w'.heap.size .u8 dv xs) (hxb : Bytes xs) :
    Calls Try.prog 60 #[.pointer (some ⟨b, 0, none⟩), .int .u8 I, .int .i64 N, dv] w fun e w' => e = .returned (.int .u16 (D.wrE i N xs.length)) ∧ (∃ col' uv', DA w' (growS w w' S) b (D.wrA i N xs) col' fv uv') ∧ Fr S w w' := by
  subst hI
  by_cases hh : D.has i N
  · obtain ⟨n, hn⟩ : ∃ n : Nat, N = n := ⟨N.toNat, by have := hh.2.1; omega⟩
    subst hn
    have hnl : n < (D.f i).length := by have := hh.2.2; omega
    have hs : (D.f i)[n]? = some (D.f i)[n] := List.getElem?_eq_getElem hnl
    by_cases hx : xs.length = 128
    · have e1 : D.wrE i n xs.length = 0 := by unfold Dv.wrE; rw [if_pos hh, if_pos hx]
      have e2 : D.wrA i n xs = D.wr i n (D.f i)[n] xs := by unfold Dv.wrA; rw [if_pos ⟨hh, hx⟩, Int.toNat_natCast, List.getD_eq_getElem?_getD, hs]; rfl
      rw [e1, e2]
      exact write_yes h i hh.1 n _ hs (hw i hh.1 _ (List.getElem_mem hnl)) n rfl dv xs hdf hx hxb
    · have e1 : D.wrE i n xs.length = 1 := by unfold Dv.wrE; rw [if_pos hh, if_neg hx]
      have e2 : D.wrA i n xs = D := by unfold Dv.wrA; rw [if_neg (fun h => hx h.2)]
      rw [e1, e2]
      obtain ⟨g, cap, C, p, s', sp⟩ := (h.file i hh.1).spot n hnl
      have AT := Lib.hid (at_yes w b fv D.lim D.left D.dead h.box i hh.1 g _ cap sp.hv n hnl (h.most i hh.1) sp.hcap (n : Int) rfl)
      obtain ⟨Ad, cd, ed, hld, hcd⟩ := (hdf w (Fr.refl _ _)).form
      subst ed
      have hxi : ¬ ((xs.length : Int) = 128) := by omega
      have dx : ((xs.length : Int) != 128) = true := by simpa using hxi
      have HH := Lib.hid h
      clear h hdf hs sp hld hcd hh e1 e2
      go_enter Try.func60, Try.ntmps60
      go_wp2_with fail
      (with_reducible refine AT.out.mono ?_)
      rintro e w1 ⟨rfl, rfl⟩
      go_wp2
      go_ret
      exact ⟨rfl, ⟨col, uv, HH.out.grow⟩, Fr.refl _ _⟩
  · have e1 : D.wrE i N xs.length = 50 := by unfold Dv.wrE; rw [if_neg hh]
    have e2 : D.wrA i N xs = D := by unfold Dv.wrA; rw [if_neg (fun h => hh h.1)]
    rw [e1, e2]
    obtain ⟨A, L, c, f1, f2⟩ := h.formv i
    have AT := Lib.hid (at_no w b fv D.lim D.left D.dead h.box i hi A L c (fun h => (f1 h).1) f2 N (by
      by_cases hi2 : i < 2
      · have := (f1 hi2).2
        unfold Dv.has at hh
        omega
      · have := (f2 hi2).2.1; omega))
    have HH := Lib.hid h
    clear h hdf f1 f2 hh e1 e2
    go_enter Try.func60, Try.ntmps60
    go_wp2_with fail
    (with_reducible refine AT.out.mono ?_)
    rintro e w1 ⟨rfl, rfl⟩
    go_wp2
    go_ret
    exact ⟨rfl, ⟨col, uv, HH.out.grow⟩, Fr.refl _ _⟩
def Dv.synA (D : Dv) (i : Nat) : Dv := if i < 2 then D.syn i else D
theorem sync_any {w : World} {S : Nat → Prop} {b : Nat} {D : Dv} {col : Nat → Nat} {fv : Nat → Value} {uv : Nat → List Pl} (h : DA w S b D col fv uv) (I : Int) (i : Nat) (hI : I = i) (hi : i ≤ 255) (hw : ∀ k, k < 2 → ∀ s ∈ D.f k, s.wait.length ≤ 100000) :
    Calls Try.prog 61 #[.pointer (some ⟨b, 0, none⟩), .int .u8 I] w fun e w' => e = .returned (.tuple #[]) ∧ (∃ col' uv', DA w' (growS w w' S) b (D.synA i) col' fv uv') ∧ Fr S w w' := by
  subst hI
  by_cases h2 : i < 2
  · have e : D.synA i = D.syn i := if_pos h2
    rw [e]
    exact sync_yes h i h2 (hw i h2)
  · have e : D.synA i = D := if_neg h2
    rw [e]
    have wi := i8_wrap i hi
    have d1 : decide ((2 : Int) ≤ (i : Int)) = true := by simp; omega
    have HH := Lib.hid h
    clear h e
    go_enter Try.func61, Try.ntmps61
    go_wp2
    refine bodyPost_ret (results_none rfl _ _ _) rfl ?_
    exact ⟨rfl, ⟨col, uv, HH.out.grow⟩, Fr.refl _ _⟩
def Dv.Few (D : Dv) (m : Nat) : Prop := ∀ k, k < 2 → ∀ s ∈ D.f k, s.wait.length ≤ m
theorem Dv.Few.more {D : Dv} {m n : Nat} (h : D.Few m) (hn : m ≤ n) : D.Few n := fun k hk s hs => Nat.le_trans (h k hk s hs) hn
theorem cur_keep (s : Se) : s.cur = s.keep s.wait.length := by
  unfold Se.cur Se.keep
  split
  · rename_i h
    rw [List.length_eq_zero_iff.1 h]; rfl
  · rw [List.getLast?_eq_getElem?, List.getD_eq_getElem?_getD]
section
variable {tS tD : TypeId} {w w' : World} {S T : Nat → Prop} {b : Nat} {D : Dv} {col : Nat → Nat} {fv : Nat → Value} {uv : Nat → List Pl}
theorem cur_bytes (h : DvAt tS tD w S b D col fv uv) {i n : Nat} {s : Se} (hi : i < 2) (hs : (D.f i)[n]? = some s) : Bytes s.cur := by
  obtain ⟨g, cap, C, p, s', sp⟩ := (h.file i hi).spot n (List.getElem?_eq_some_iff.1 hs).1
  have e : s' = s := by have := sp.hs; rw [hs] at this; injection this with this; exact this.symm
  subst e
  rw [cur_keep]
  exact (sp.sec.keep s'.wait.length (by have := sp.sec.n; omega)).2.2
end
section
variable {tS tD : TypeId} {w w' : World} {S T : Nat → Prop} {b : Nat} {D : Dv} {col : Nat → Nat} {fv : Nat → Value} {uv : Nat → List Pl}
end
theorem read_no {w : World} {S : Nat → Prop} {b : Nat} {D : Dv} {col : Nat → Nat} {fv : Nat → Value} {uv : Nat → List Pl} (h : DA w S b D col fv uv) (i : Nat) (hi : i ≤ 255) (N : Int) (hno : ¬ D.has i N) :
    Calls Try.prog 53 #[.pointer (some ⟨b, 0, none⟩), .int .u8 i, .int .i64 N] w fun e w' => e = .returned (.tuple #[.slice none 0 0, .int .u16 50]) ∧ w = w' := by
  obtain ⟨A, L, c, h1, h2⟩ := h.formv i
  have AT := Lib.hid (at_no w b fv D.lim D.left D.dead h.box i hi A L c (fun h => (h1 h).1) h2 N (by by_cases hi2 : i < 2; (have := (h1 hi2).2; unfold Dv.has at hno; omega); (have := (h2 hi2).2.1; omega)))
  clear h h1 h2 hno
  go_enter Try.func53, Try.ntmps53
  go_wp2_with fail
  (with_reducible refine AT.out.mono ?_)
  rintro e w1 ⟨rfl, rfl⟩
  go_wp2
  go_ret2
  exact ⟨rfl, rfl⟩
def Dv.rd (D : Dv) (i : Nat) (N : Int) : List Int := if D.has i N then ((D.f i).getD N.toNat zSe).cur else []
def Dv.rdE (D : Dv) (i : Nat) (N : Int) : Int := if D.has i N then 0 else 50
def Dv.siz (D : Dv) (i : Nat) : Nat := if i < 2 then (D.f i).length else 0
theorem has_at {D : Dv} {i : Nat} {N : Int} (h : D.has i N) : i < 2 ∧ ∃ n : Nat, N = n ∧ (D.f i)[n]? = some ((D.f i).getD N.toNat zSe) ∧ (D.f i).getD N.toNat zSe ∈ D.f i := by
  refine ⟨h.1, N.toNat, by have := h.2.1; omega, ?_⟩
  have hl : N.toNat < (D.f i).length := by have := h.2; omega
  rw [List.getD_eq_getElem?_getD, List.getElem?_eq_getElem hl]
  exact ⟨rfl, List.getElem_mem hl⟩
theorem nil_ir (w : World) : IR w w.heap.size .u8 (.slice none 0 0) [] := by
  have := IR.of_own (k := .u8) (xs := ([] : List Int)) (World.ownsRow_nil w w.heap.size 5 1)
  exact this
theorem read_any {w : World} {S : Nat → Prop} {b : Nat} {D : Dv} {col : Nat → Nat} {fv : Nat → Value} {uv : Nat → List Pl} (h : DA w S b D col fv uv) (hw : D.Few 100000) (I N : Int) (i : Nat) (hI : I = i) (hi : i ≤ 255) :
    Calls Try.prog 53 #[.pointer (some ⟨b, 0, none⟩), .int .u8 I, .int .i64 N] w fun e w' => ∃ u, e = .returned (.tuple #[u, .int .u16 (D.rdE i N)]) ∧ IR w' w'.heap.size .u8 u (D.rd i N) ∧ Bytes (D.rd i N) ∧ Below w.heap.size w w' := by
  subst hI
  unfold Dv.rdE Dv.rd
  by_cases hh : D.has i N
  · rw [if_pos hh, if_pos hh]
    obtain ⟨hi2, n, rfl, hs, hm⟩ := has_at hh
    have hby := cur_bytes h hi2 hs
    have hcl : ((D.f i).getD ((n : Int)).toNat zSe).cur.length = 128 := by
      obtain ⟨g, cap, C, p, s', sp⟩ := (h.file i hi2).spot n (List.getElem?_eq_some_iff.1 hs).1
      have e : s' = (D.f i).getD ((n : Int)).toNat zSe := by have := sp.hs; rw [hs] at this; injection this with this; exact this.symm
      rw [← e]; exact Se.cur_len sp.sec.len sp.sec.lens
    refine (read_yes h i hi2 n _ hs (hw i hi2 _ hm) n rfl).mono ?_
    rintro e w' ⟨u, rfl, hu, hb⟩
    exact ⟨u, rfl, own_ir' hu hcl, hby, hb⟩
  · rw [if_neg hh, if_neg hh]
    refine (read_no h i hi N hh).mono ?_
    rintro e w' ⟨rfl, rfl⟩
    exact ⟨_, rfl, nil_ir w, (fun x hx => by cases hx), Below.refl _ _⟩
theorem siz_any {w : World} {S : Nat → Prop} {b : Nat} {D : Dv} {col : Nat → Nat} {fv : Nat → Value} {uv : Nat → List Pl} (h : DA w S b D col fv uv) (I : Int) (i : Nat) (hI : I = i) (hi : i ≤ 255) :
    Calls Try.prog 50 #[.pointer (some ⟨b, 0, none⟩), .int .u8 I] w fun e w' => e = .returned (.int .i64 (D.siz i)) ∧ w = w' := by
  subst hI
  obtain ⟨A, L, c, f1, f2⟩ := h.formv i
  have e : D.siz i = L := by
    unfold Dv.siz
    by_cases h2 : i < 2
    · rw [if_pos h2]; exact (f1 h2).2.symm
    · rw [if_neg h2]; exact (f2 h2).2.1.symm
  rw [e]
  exact size_any w b fv D.lim D.left D.dead h.box i hi A L c (fun h => (f1 h).1) f2
end Go.Proofs.Yteggcehjpfmikaa.Disk
namespace Go.Proofs.Yteggcehjpfmikaa.Rec
open Go.ChangeShapes Go.WideShapes Go.ChangeAt Go.RowKit Go.IntWalk Go.Proofs.NumMath Go.Proofs.Mem Go.Proofs.CrcMath NumBytes CrcA
set_option linter.unusedVariables false
set_option linter.unusedSimpArgs false
def bodyB (k t p n : Int) : List Int := putS k 1 ++ putS t 4 ++ putS p 8 ++ putS n 8
theorem bodyB_len (k t p n : Int) : (bodyB k t p n).length = 21 := by simp [bodyB, putS_len]
theorem bodyB_bytes (k t p n : Int) : Bytes (bodyB k t p n) := (((putS_bytes _ _).app (putS_bytes _ _)).app (putS_bytes _ _)).app (putS_bytes _ _)
def bareB (k t p n : Int) : List Int := putS 27 2 ++ putS (tn (sumF 0#32 (bodyB k t p n))) 4 ++ bodyB k t p n
theorem bareB_len (k t p n : Int) : (bareB k t p n).length = 27 := by simp [bareB, putS_len, bodyB_len]
theorem u64_wrap {x : Int} (h0 : 0 ≤ x) (h1 : x ≤ 18446744073709551615) : IntKind.u64.wrap x = x := by rw [NumMath.wrap_u64]; omega
theorem Wr.ir {w : World} {g : Nat} {v : Value} {xs : List Int} (h : Wr w g v xs) : IR w w.heap.size .u8 v xs := IR.of_own h.own
set_option maxRecDepth 100000 in
set_option maxHeartbeats 16000000 in
theorem encode_bare (k t p n : Int) (hk : k = 1 ∨ (4 ≤ k ∧ k ≤ 7)) (ht : 0 ≤ t ∧ t ≤ 4294967295) (hp : 0 ≤ p ∧ p ≤ 18446744073709551615) (hn : 0 ≤ n ∧ n ≤ 18446744073709551615) (w : World) :
    Calls Try.prog 46 #[.agg (bareC k t p n)] w fun e w' => ∃ u, e = .returned (.tuple #[u, .int .u16 0]) ∧ w'.ownsRow w.heap.size 5 1 u 27 ((bareB k t p n).map (.int .u8)) ∧ Below w.heap.size w w' := by
  have d3 : (k == 8) = false := by simp; omega
  have wk := u64_wrap (x := k) (by omega) (by omega)
  have wt := u64_wrap (x := t) (by omega) (by omega)
  have hk' : k = 1 ∨ (4 ≤ k ∧ k ≤ 8) := by omega
  have hkb : 0 ≤ k ∧ k ≤ 18446744073709551615 := by omega
  have htb : 0 ≤ t ∧ t ≤ 18446744073709551615 := by omega
  have MB := fun W => Lib.hid (may_bare k t p n hk W)
  have CH := fun W => Lib.hid (changes_no k hk' W)
  have N1 := fun W g v xs (h : Wr W g v xs) (hl : xs.length ≤ 100000) => Lib.hid (number_any W g v xs h hl k 1 hkb.1 hkb.2 (by decide) (by decide))
  have N2 := fun W g v xs (h : Wr W g v xs) (hl : xs.length ≤ 100000) => Lib.hid (number_any W g v xs h hl t 4 htb.1 htb.2 (by decide) (by decide))
  have N3 := fun W g v xs (h : Wr W g v xs) (hl : xs.length ≤ 100000) => Lib.hid (number_any W g v xs h hl p 8 hp.1 hp.2 (by decide) (by decide))
  have N4 := fun W g v xs (h : Wr W g v xs) (hl : xs.length ≤ 100000) => Lib.hid (number_any W g v xs h hl n 8 hn.1 hn.2 (by decide) (by decide))
  obtain ⟨C, hC⟩ : ∃ C, C = tn (sumF 0#32 (bodyB k t p n)) := ⟨_, rfl⟩
  have hCb := tn_bd (sumF 0#32 (bodyB k t p n))
  rw [← hC] at hCb
  have wC := u64_wrap (x := C) (by omega) (by omega)
  have PA := fun W => Lib.hid (by have h := put_any 27 2 (by decide) (by decide) (by decide) (by decide) W; rw [show (2 : Int).toNat = 2 from rfl] at h; exact h)
  have PB := fun W => Lib.hid (by have h := put_any C 4 (by omega) (by omega) (by decide) (by decide) W; rw [show (4 : Int).toNat = 4 from rfl] at h; exact h)
  have SU : ∀ (W : World) v (h : IR W W.heap.size .u8 v (bodyB k t p n)), Calls Try.prog 71 #[.slice (some ⟨W.heap.size, 0, none⟩) 1 1] (W.alloc (.cells #[v] 48)) fun e w' => e = .returned (.int .u32 C) ∧ W.alloc (.cells #[v] 48) = w' := fun W v h => by rw [hC]; exact sum_one v _ W h (bodyB_bytes k t p n)
  have CO : ∀ (W : World) a b c (ha : IR W W.heap.size .u8 a (putS 27 2)) (hb : IR W W.heap.size .u8 b (putS C 4)) (hc : IR W W.heap.size .u8 c (bodyB k t p n)),
      Calls Try.prog 72 #[.slice (some ⟨W.heap.size, 0, none⟩) 3 3] (W.alloc (.cells #[a, b, c] 129)) fun e w' => ∃ u, e = .returned u ∧ w'.ownsRow (W.heap.size + 1) 5 1 u 27 ((bareB k t p n).map (.int .u8)) ∧ Below W.heap.size W w' := fun W a b c ha hb hc => by
    have hf : flat [(a, putS 27 2), (b, putS C 4), (c, bodyB k t p n)] = bareB k t p n := by simp [flat, bareB, hC]
    have h := concat_any _ _ _ _ (SR.lit W [(a, putS 27 2), (b, putS C 4), (c, bodyB k t p n)] 129 W.heap.size W.heap.size rfl (Nat.le_refl _) (by simp) (by
      intro q hq
      simp only [List.mem_cons, List.not_mem_nil, or_false] at hq
      rcases hq with rfl | rfl | rfl
      · exact ⟨ha, putS_bytes _ _⟩
      · exact ⟨hb, putS_bytes _ _⟩
      · exact ⟨hc, bodyB_bytes _ _ _ _⟩)) (by simp) (by rw [hf, bareB_len]; decide) (by rw [hf, bareB_len]; decide)
    rw [hf, bareB_len] at h
    refine h.mono ?_
    rintro e w' ⟨u, rfl, h1, h2⟩
    refine ⟨u, rfl, by simpa using h1, (new_ (Below.refl W.heap.size W) _).trans (h2.mono (by simp))⟩
  have CO := Lib.hid CO
  have SU := Lib.hid SU
  clear hC hk hk' hkb htb ht hp hn hCb
  have bx := Box.new w (bareC k t p n) 54
  have BX := Lib.hid bx
  clear bx
  go_enter Try.func46, Try.ntmps46
  go_wp2_with (first
    | (go_at_call 65; (with_reducible refine (MB _).out.mono ?_); rintro e w1 ⟨rfl, hb1⟩
       have B1 := Lib.hid ((BX.out.later hb1).alloc (.cells #[.slice none 0 0] 129))
       have HB1 := Lib.hid (new_ (step_ (new_ (Below.refl w.heap.size w) (.cells (bareC k t p n) 54)) hb1) (.cells #[.slice none 0 0] 129))
       have W1 : Wr (w1.alloc (.cells #[.slice none 0 0] 129)) w1.heap.size (.slice none 0 0) [] := ⟨Box.new _ _ _, World.ownsRow_nil _ _ _ _, by simp⟩
       have L1 : w.heap.size < w1.heap.size := (BX.out.later hb1).lt
       have x1 : (w1.alloc (.cells #[.slice none 0 0] 129)).cell? ⟨w.heap.size, 0, none⟩ = some (.int .u8 k) := B1.out.cell 0
       clear hb1)
    | (go_at_call 66; (with_reducible refine (N1 _ _ _ _ W1 (by simp [putS_len])).out.mono ?_); rintro e w2 ⟨rfl, v2, wr2, hb2⟩
       have B2 := Lib.hid (B1.out.below hb2 L1)
       have HB2 := Lib.hid (HB1.out.trans (hb2.mono (Nat.le_of_lt L1)))
       have W2 := wr2
       have x2 : w2.cell? ⟨w.heap.size, 1, none⟩ = some (.int .u32 t) := B2.out.cell 1
       clear wr2 hb2)
    | (go_at_call 66; (with_reducible refine (N2 _ _ _ _ W2 (by simp [putS_len])).out.mono ?_); rintro e w3 ⟨rfl, v3, wr3, hb3⟩
       have B3 := Lib.hid (B2.out.below hb3 L1)
       have HB3 := Lib.hid (HB2.out.trans (hb3.mono (Nat.le_of_lt L1)))
       have W3 := wr3
       have x3 : w3.cell? ⟨w.heap.size, 2, none⟩ = some (.int .u64 p) := B3.out.cell 2
       clear wr3 hb3)
    | (go_at_call 66; (with_reducible refine (N3 _ _ _ _ W3 (by simp [putS_len])).out.mono ?_); rintro e w4 ⟨rfl, v4, wr4, hb4⟩
       have B4 := Lib.hid (B3.out.below hb4 L1)
       have HB4 := Lib.hid (HB3.out.trans (hb4.mono (Nat.le_of_lt L1)))
       have W4 := wr4
       have x4 : w4.cell? ⟨w.heap.size, 3, none⟩ = some (.int .u64 n) := B4.out.cell 3
       clear wr4 hb4)
    | (go_at_call 66; (with_reducible refine (N4 _ _ _ _ W4 (by simp [putS_len])).out.mono ?_); rintro e w5 ⟨rfl, v5, wr5, hb5⟩
       have B5 := Lib.hid (B4.out.below hb5 L1)
       have HB5 := Lib.hid (HB4.out.trans (hb5.mono (Nat.le_of_lt L1)))
       have W5 := wr5
       have x5 : w5.cell? ⟨w.heap.size, 0, none⟩ = some (.int .u8 k) := B5.out.cell 0
       have W6 : Wr w5 w1.heap.size v5 (bodyB k t p n) := W5
       obtain ⟨A5, c5, rfl, hl5, hm5⟩ := W6.ir.form
       rw [bodyB_len] at hl5
       have hm5' : c5 ≤ 9223372036854775807 := by unfold maxLen at hm5; omega
       have z5 : w5.cell? ⟨w1.heap.size, 0, none⟩ = some (.slice A5 21 c5) := by have := W6.box.cell 0; rw [bodyB_len] at this; exact this
       clear wr5 hb5)
    | (go_at_call 67; (with_reducible refine (CH _).out.mono ?_); rintro e w6 ⟨rfl, rfl⟩)
    | (go_at_call 70; (with_reducible refine (PA _).out.mono ?_); rintro e w7 ⟨v7, rfl, hp7, hb7⟩
       obtain ⟨A7, c7, rfl, hl7, hm7⟩ := (IR.of_own hp7).form
       rw [putS_len] at hl7
       have O7 := Lib.hid hp7
       have B7 := Lib.hid (B5.out.later hb7)
       have W7 : Wr w7 w1.heap.size (.slice A5 21 c5) (bodyB k t p n) := by have := W6.later hb7; rwa [bodyB_len] at this
       have HB7 := Lib.hid (step_ HB5.out hb7)
       have z7 : w7.cell? ⟨w1.heap.size, 0, none⟩ = some (.slice A5 21 c5) := W7.box.cell 0
       have S7 := Lib.hid (SU.out w7 (.slice A5 21 c5) W7.ir)
       clear hp7 hb7)
    | (go_at_call 71; (with_reducible refine S7.out.mono ?_); rintro e w8 ⟨rfl, rfl⟩)
    | (go_at_call 70; (with_reducible refine (PB _).out.mono ?_); rintro e w9 ⟨v9, rfl, hp9, hb9⟩
       obtain ⟨A9, c9, rfl, hl9, hm9⟩ := (IR.of_own hp9).form
       rw [putS_len] at hl9
       have hb9' : Below w7.heap.size w7 w9 := (new_ (Below.refl w7.heap.size w7) (.cells #[.slice A5 21 c5] 48)).trans (hb9.mono (by simp))
       have W9 : Wr w9 w1.heap.size (.slice A5 21 c5) (bodyB k t p n) := W7.later hb9'
       have O9 := Lib.hid (own_below O7.out hb9')
       have HB9 := Lib.hid (step_ HB7.out hb9')
       have z9 : w9.cell? ⟨w1.heap.size, 0, none⟩ = some (.slice A5 21 c5) := W9.box.cell 0
       have CC := Lib.hid (CO.out w9 _ _ _ (IR.of_own O9.out) (IR.of_own hp9) W9.ir)
       clear hp9 hb9 hb9')
    | (go_at_call 72; (with_reducible refine CC.out.mono ?_); rintro e w10 ⟨u, rfl, hu, hb10⟩; have HU := Lib.hid hu; have HB10 := Lib.hid hb10; clear hu hb10))
  go_ret2
  exact ⟨_, rfl, own_lower HU.out (Nat.le_succ_of_le HB9.out.size), step_ HB9.out HB10.out⟩
end Go.Proofs.Yteggcehjpfmikaa.Rec
namespace Go.Proofs.Yteggcehjpfmikaa.Rec
open Go.ChangeShapes Go.WideShapes Go.ChangeAt Go.RowKit Go.IntWalk Go.Proofs.NumMath Go.Proofs.Mem Go.Proofs.CrcMath NumBytes CrcA
set_option linter.unusedVariables false
set_option linter.unusedSimpArgs false
theorem ir_drop {w : World} {B : Nat} {k : IntKind} {A : Option Addr} {n c m : Nat} {xs : List Int} (h : IR w B k (.slice A n c) xs) (hm : m ≤ n) (A' : Option Addr) (hA : A' = if c = m then A else A.map (·.add m)) :
    IR w B k (.slice A' (n - m) (c - m)) (xs.drop m) := by
  obtain ⟨A0, c0, e, h2, h3, h4, h5⟩ := h
  injection e with e1 e2 e3
  subst e1; subst e2; subst e3
  have hl : (xs.drop m).length = xs.length - m := List.length_drop
  refine ⟨A', c - m, by rw [hl], by omega, by omega, fun hh => ?_, fun i hi => ?_⟩
  · by_cases hc : c = m
    · omega
    · rw [hA, if_neg hc] at hh
      cases A with
      | none => have := h4 rfl; omega
      | some a => cases hh
  · obtain ⟨b, off, e, hb, hc⟩ := h5 (m + i) (by omega)
    subst e
    rw [if_neg (by omega)] at hA
    refine ⟨b, off + m, by rw [hA]; simp [Go.WideShapes.add_plain], hb, ?_⟩
    rw [show off + m + i = off + (m + i) by omega, hc]
    simp [List.getD]
structure Rd (w : World) (g B : Nat) (v : Value) (xs : List Int) : Prop where
  box : Box w g #[v] 151
  ir : IR w B .u8 v xs
  le : B ≤ g
theorem Rd.fr {w w' : World} {g B : Nat} {v : Value} {xs : List Int} {S : Nat → Prop} (h : Rd w g B v xs) (hf : Fr S w w') (hn : ¬ S g) (hS : ∀ k, S k → B ≤ k) : Rd w' g B v xs :=
  ⟨h.box.fr hf hn, h.ir.below (hf.to_below hS (Nat.le_trans h.le (Nat.le_of_lt h.box.lt))), h.le⟩
set_option maxHeartbeats 2000000 in
theorem take_any (w : World) (g B : Nat) (v : Value) (xs : List Int) (h : Rd w g B v xs) (n : Nat) (hn : n ≤ xs.length) :
    Calls Try.prog 92 #[.pointer (some ⟨g, 0, none⟩), .int .i64 n] w fun e w' => ∃ u, e = .returned u ∧ IR w' B .u8 u (xs.take n) ∧ (∃ v', Rd w' g B v' (xs.drop n)) ∧ Fr (fun x => x = g) w w' := by
  have R := Lib.hid h
  obtain ⟨A, c, rfl, hlc, hcm⟩ := h.ir.form
  have x0 := h.box.cell 0
  have y0 := h.box.frozen 0
  simp only [List.getElem?_toArray, List.getElem?_cons_zero] at x0
  unfold maxLen at hcm
  clear h
  have d1 : decide ((xs.length : Int) < (n : Int)) = false := by simp; omega
  go_enter Try.func92, Try.ntmps92
  go_wp2
  · subst h
    go_ret
    refine ⟨_, rfl, (R.out.ir.take hn).below ((Below.refl B w).setCell (p := ⟨g, 0, none⟩) R.out.le _), ⟨.slice A (xs.length - c) 0, R.out.box.set_ 0 _, ?_, R.out.le⟩, (Fr.refl (fun x => x = g) w).setCell (p := ⟨g, 0, none⟩) (.inl rfl) _⟩
    have := ir_drop R.out.ir hn A (by rw [if_pos rfl])
    rw [Nat.sub_self] at this
    exact this.below ((Below.refl B w).setCell (p := ⟨g, 0, none⟩) R.out.le _)
  · go_ret
    refine ⟨_, rfl, (R.out.ir.take hn).below ((Below.refl B w).setCell (p := ⟨g, 0, none⟩) R.out.le _), ⟨.slice (A.map fun x => x.add n) (xs.length - n) (c - n), R.out.box.set_ 0 _, ?_, R.out.le⟩, (Fr.refl (fun x => x = g) w).setCell (p := ⟨g, 0, none⟩) (.inl rfl) _⟩
    exact (ir_drop R.out.ir hn (A.map fun x => x.add n) (by rw [if_neg h])).below ((Below.refl B w).setCell (p := ⟨g, 0, none⟩) R.out.le _)
set_option maxHeartbeats 2000000 in
theorem rnumber_any (w : World) (g B : Nat) (v : Value) (xs : List Int) (h : Rd w g B v xs) (hx : Bytes xs) (n : Nat) (hn : n ≤ xs.length) :
    Calls Try.prog 88 #[.pointer (some ⟨g, 0, none⟩), .int .i64 n] w fun e w' => e = .returned (.int .u64 (getS (xs.take n))) ∧ (∃ v', Rd w' g B v' (xs.drop n)) ∧ Fr (fun x => x = g) w w' := by
  have TA := Lib.hid (take_any w g B v xs h n hn)
  have hxt : Bytes (xs.take n) := fun y hy => hx y (List.mem_of_mem_take hy)
  clear h
  go_enter Try.func88, Try.ntmps88
  go_wp2_with (first
    | (go_at_call 92; (with_reducible refine TA.out.mono ?_); rintro e w1 ⟨u, rfl, hu, ⟨v1, hr⟩, hf⟩; have HU := Lib.hid hu; have HR := Lib.hid hr; have HF := Lib.hid hf; clear hu hr hf)
    | (go_at_call 77; (with_reducible refine (get_any _ _ _ _ HU.out hxt).mono ?_); rintro e w2 ⟨rfl, rfl⟩))
  go_ret
  exact ⟨rfl, ⟨_, HR.out⟩, HF.out⟩
end Go.Proofs.Yteggcehjpfmikaa.Rec
namespace Go.Proofs.Yteggcehjpfmikaa.Rec
open Go.ChangeShapes Go.WideShapes Go.ChangeAt Go.RowKit Go.IntWalk Go.Proofs.NumMath Go.Proofs.Mem Go.Proofs.CrcMath NumBytes CrcA
set_option linter.unusedVariables false
set_option linter.unusedSimpArgs false
theorem mod_mul (n a b : Int) (ha : 0 < a) : n % (a * b) = n % a + n / a % b * a := by
  rw [Int.emod_def, Int.emod_def n a, Int.emod_def (n / a) b, Int.ediv_ediv_of_nonneg (Int.le_of_lt ha), Int.sub_mul, Int.mul_comm (n / a) a, Int.mul_assoc a b, Int.mul_comm (b * _) a]
  omega
theorem getTo_put (n : Int) (k : Nat) : ∀ j, j ≤ k → getTo (putS n k) j = n % 2 ^ (8 * j) := by
  intro j
  induction j with
  | zero => intro _; simp [getTo, Int.emod_one]
  | succ j ih =>
    intro hj
    have hg : (putS n k).getD j 0 = n / 2 ^ (8 * j) % 256 := by simp [putS, List.getD, show j < k by omega]
    show getTo (putS n k) j + (putS n k).getD j 0 * 2 ^ (8 * j) = _
    rw [ih (by omega), hg]
    have e : (2 : Int) ^ (8 * (j + 1)) = 2 ^ (8 * j) * 256 := by rw [show 8 * (j + 1) = 8 * j + 8 by omega, p2_add]; rfl
    rw [e, mod_mul _ _ _ (p2 _)]
theorem get_put (n : Int) (k : Nat) (hk : k ≤ 8) : getS (putS n k) = n % 2 ^ (8 * k) := by
  unfold getS
  rw [putS_len, Nat.min_eq_left hk, getTo_put n k k (Nat.le_refl _)]
theorem rnumber_put (w : World) (g B : Nat) (v : Value) (a : Int) (m : Nat) (M : Int) (hM : M = (m : Int)) (Y : List Int) (h : Rd w g B v (putS a m ++ Y)) (hY : Bytes Y) (hm : m ≤ 8) (h0 : 0 ≤ a) (h1 : a < 2 ^ (8 * m)) :
    Calls Try.prog 88 #[.pointer (some ⟨g, 0, none⟩), .int .i64 M] w fun e w' => e = .returned (.int .u64 a) ∧ (∃ v', Rd w' g B v' Y) ∧ Fr (fun x => x = g) w w' := by
  subst hM
  have := rnumber_any w g B v _ h ((putS_bytes a m).app hY) m (by rw [List.length_append, putS_len]; omega)
  rwa [List.take_left' (putS_len a m), List.drop_left' (putS_len a m), get_put a m hm, Int.emod_eq_of_lt h0 h1] at this
theorem Rd.set {w : World} {g B : Nat} {v : Value} {xs : List Int} (h : Rd w g B v xs) {p : Addr} (hp : g ≠ p.block) (hB : B ≤ p.block) (u : Value) : Rd (w.setCell p u) g B v xs :=
  ⟨h.box.far hp u, h.ir.below ((Below.refl B w).setCell hB _), h.le⟩
theorem Rd.alloc {w : World} {g B : Nat} {v : Value} {xs : List Int} (h : Rd w g B v xs) (o : Obj) : Rd (w.alloc o) g B v xs :=
  ⟨h.box.alloc o, h.ir.alloc (Nat.le_trans h.le (Nat.le_of_lt h.box.lt)) o, h.le⟩
theorem Rd.below {w w' : World} {g B : Nat} {v : Value} {xs : List Int} (h : Rd w g B v xs) (hb : Below w.heap.size w w') : Rd w' g B v xs :=
  ⟨h.box.later hb, h.ir.below (hb.mono (Nat.le_trans h.le (Nat.le_of_lt h.box.lt))), h.le⟩
set_option maxHeartbeats 2000000 in
theorem catch_none (r k : Nat) (w : World) :
    CallsD Try.prog 87 #[.pointer (some ⟨r, 0, none⟩), .pointer (some ⟨k, 0, none⟩)] .returning w fun en u' w' => en = .returned (.tuple #[]) ∧ u' = .returning ∧ w = w' := by
  refine callsD_of_wpS Try.func87 rfl fun c₀ cs hu => ?_
  simp only [Try.ntmps87, List.size_toArray, List.length_cons, List.length_nil, Nat.reduceAdd, Nat.reduceSub, Array.replicate_succ, Array.replicate_zero, List.push_toArray, List.append_toArray, List.nil_append, List.cons_append]
  apply wpS_seq
  apply wpS_region
  simp [wpOpsS, go_sem, recoverD, hu, Exit.thenS]
  refine wpS_of_wp ?_
  go_wp2
  cases c₀
  simp_all [bodyPostS, results, Try.results87]
end Go.Proofs.Yteggcehjpfmikaa.Rec
namespace Go.Proofs.Yteggcehjpfmikaa.Wal
open Go.RowKit Go.WideShapes Go.Proofs.Mem Go.Proofs.Yteggcehjpfmikaa.NumBytes Go.Proofs.Yteggcehjpfmikaa.Rec
set_option linter.unusedVariables false
structure Hh where
  st : Int
  ar : Int
  ba : Int
  ch : Int
def Hh.img (h : Hh) : List Int := putS h.st 8 ++ ([h.ar] ++ (putS h.ba 8 ++ (putS h.ch 8 ++ (List.replicate 95 0 ++ putS h.st 8))))
structure Hh.Ok (h : Hh) : Prop where
  st : 0 ≤ h.st ∧ h.st ≤ 18446744073709551615
  ar : 0 ≤ h.ar ∧ h.ar ≤ 255
  ba : 0 ≤ h.ba ∧ h.ba ≤ 18446744073709551615
  ch : 0 ≤ h.ch ∧ h.ch ≤ 18446744073709551615
theorem img_len (h : Hh) : h.img.length = 128 := by
  unfold Hh.img
  simp only [List.length_append, putS_len, List.length_replicate, List.length_cons, List.length_nil]
theorem img_bytes (h : Hh) (ha : 0 ≤ h.ar ∧ h.ar ≤ 255) : Bytes h.img := fun x hx => by
  unfold Hh.img at hx
  simp only [List.mem_append, List.mem_singleton, List.mem_replicate] at hx
  rcases hx with h1 | h1 | h1 | h1 | h1 | h1
  · exact putS_bytes _ _ x h1
  · omega
  · exact putS_bytes _ _ x h1
  · exact putS_bytes _ _ x h1
  · omega
  · exact putS_bytes _ _ x h1
def hOf (b : List Int) : Hh := ⟨getS (b.take 8), b.getD 8 0, getS ((b.drop 9).take 8), getS ((b.drop 17).take 8)⟩
theorem get8 {n : Int} (h : 0 ≤ n ∧ n ≤ 18446744073709551615) : getS (putS n 8) = n := by
  rw [get_put n 8 (by decide)]
  exact Int.emod_eq_of_lt h.1 (by have : (2 : Int) ^ (8 * 8) = 18446744073709551616 := by decide
                                  omega)
theorem hOf_img {h : Hh} (ok : h.Ok) : hOf h.img = h := by
  have d1 : h.img.take 8 = putS h.st 8 := by unfold Hh.img; exact List.take_left' (putS_len _ _)
  have d8 : h.img.drop 8 = [h.ar] ++ (putS h.ba 8 ++ (putS h.ch 8 ++ (List.replicate 95 0 ++ putS h.st 8))) := by unfold Hh.img; exact List.drop_left' (putS_len _ _)
  have d9 : h.img.drop 9 = putS h.ba 8 ++ (putS h.ch 8 ++ (List.replicate 95 0 ++ putS h.st 8)) := by
    rw [show 9 = 8 + 1 from rfl, ← List.drop_drop, d8]; rfl
  have d17 : h.img.drop 17 = putS h.ch 8 ++ (List.replicate 95 0 ++ putS h.st 8) := by
    rw [show 17 = 9 + 8 from rfl, ← List.drop_drop, d9]; exact List.drop_left' (putS_len _ _)
  have e8 : h.img.getD 8 0 = h.ar := by
    have : h.img[8]? = (h.img.drop 8)[0]? := by rw [List.getElem?_drop]
    rw [List.getD, this, d8]; rfl
  unfold hOf
  rw [d1, d9, d17, e8, List.take_left' (putS_len _ _), List.take_left' (putS_len _ _), get8 ok.st, get8 ok.ba, get8 ok.ch]
def Hh.may (h : Hh) : Prop := h.st ≠ 0 ∧ h.ar ≤ 1 ∧ 1 ≤ h.ba ∧ h.ba ≤ 9223372036854775808
instance (h : Hh) : Decidable h.may := by unfold Hh.may; infer_instance
def hParse (b : List Int) : Option Hh := if b.length = 128 ∧ (hOf b).may ∧ b = (hOf b).img then some (hOf b) else none
theorem parse_img {h : Hh} (ok : h.Ok) (hm : h.may) : hParse h.img = some h := by
  unfold hParse
  rw [hOf_img ok, if_pos ⟨img_len h, hm, rfl⟩]
def newer (a b : List Int) : Option (Hh × Nat) := match hParse a, hParse b with
  | some h, some k => if h.st < k.st then some (k, 1) else some (h, 0)
  | some h, none => some (h, 0)
  | none, some k => some (k, 1)
  | none, none => none
end Go.Proofs.Yteggcehjpfmikaa.Wal
namespace Go.Proofs.Yteggcehjpfmikaa.Wal
open Go.ChangeShapes Go.WideShapes Go.ChangeAt Go.RowKit Go.IntWalk Go.Proofs.Mem Go.Proofs.Each Law Go.Proofs.Yteggcehjpfmikaa.Disk
set_option linter.unusedVariables false
set_option linter.unusedSimpArgs false
def sz (D : Dv) : Nat := ((D.f 0).length - 2) / 2
def fst (D : Dv) (ar : Nat) : Nat := 2 + ar * sz D
section
variable {S : Nat → Prop} {b : Nat} {D : Dv} {col : Nat → Nat} {fv : Nat → Value} {uv : Nat → List Disk.Pl}
theorem sz_le {w : World} (h : DA w S b D col fv uv) : sz D ≤ 2047 := by have := h.most 0 (by decide); unfold sz; omega
theorem wsize_any (w : World) (h : DA w S b D col fv uv) (hl : 2 ≤ (D.f 0).length) :
    Calls Try.prog 33 #[.pointer (some ⟨b, 0, none⟩)] w fun e w' => e = .returned (.int .i64 (sz D)) ∧ w = w' := by
  have hm := h.most 0 (by decide)
  have CS := Lib.hid (siz_any h 0 0 rfl (by decide))
  have e0 : D.siz 0 = (D.f 0).length := if_pos (by decide)
  rw [e0] at CS
  obtain ⟨n, hn⟩ : ∃ n, (D.f 0).length = n := ⟨_, rfl⟩
  obtain ⟨m, hm2⟩ : ∃ m, sz D = m := ⟨_, rfl⟩
  have hmn : m = (n - 2) / 2 := by rw [← hm2, ← hn]; rfl
  rw [hn] at CS hl hm
  rw [hm2]
  have q1 : ((n : Int) - 2).tdiv 2 = (m : Int) := by rw [Int.tdiv_eq_ediv_of_nonneg (by omega)]; omega
  have q0 : IntKind.i64.wrap ((n : Int) - 2) = (n : Int) - 2 := IntWalk.i64_in _ (by omega)
  have q2 : IntKind.i64.wrap (m : Int) = (m : Int) := IntWalk.i64_in _ (by omega)
  clear hn hm2 hmn e0 h
  go_enter Try.func33, Try.ntmps33
  go_wp2_with fail
  (with_reducible refine (CS.out).mono ?_)
  rintro e w1 ⟨rfl, rfl⟩
  go_wp2
  go_ret
  exact ⟨rfl, rfl⟩
theorem begins_any (w : World) (h : DA w S b D col fv uv) (hl : 2 ≤ (D.f 0).length) :
    Calls Try.prog 62 #[.pointer (some ⟨b, 0, none⟩)] w fun e w' => e = .returned (.agg #[.int .i64 2, .int .i64 (2 + (sz D : Int))]) ∧ Below w.heap.size w w' := by
  have hs := sz_le h
  have b1 := new_ (Below.refl w.heap.size w) (.cells #[.int .i64 0, .int .i64 0] 107)
  have CS := Lib.hid (wsize_any _ (h.later b1) hl)
  obtain ⟨m, hm⟩ : ∃ m, sz D = m := ⟨_, rfl⟩
  rw [hm] at CS hs ⊢
  have X := Box.new w #[.int .i64 0, .int .i64 0] 107
  have q0 : IntKind.i64.wrap (2 + (m : Int)) = 2 + (m : Int) := IntWalk.i64_in _ (by omega)
  have HB := Lib.hid b1
  have HX := Lib.hid X
  clear h hm b1 X
  go_enter Try.func62, Try.ntmps62
  go_wp2_with fail
  (with_reducible refine (CS.out).mono ?_)
  rintro e w1 ⟨rfl, rfl⟩
  go_wp2
  refine bodyPost_ret (v := .agg #[.int .i64 2, .int .i64 (2 + (m : Int))]) (by simp [results, Try.results62, go_sem]) rfl ⟨rfl, ?_⟩
  exact new_ (Below.refl w.heap.size w) _
end
end Go.Proofs.Yteggcehjpfmikaa.Wal
namespace Go.Proofs.Mem
open Go.RowKit Go.WideShapes
set_option linter.unusedVariables false
structure RowTo (w w' : World) (v v' : Value) : Prop where
  fr : Fr (fun x => v.ownBlock = some x) w w'
  own : v'.ownBlock = v.ownBlock ∨ ∃ k, v'.ownBlock = some k ∧ w.heap.size ≤ k
section
variable {a b c : World} {u v x : Value}
theorem RowTo.refl (a : World) (u : Value) : RowTo a a u u := ⟨Fr.refl _ _, .inl rfl⟩
theorem RowTo.trans (h : RowTo a b u v) (k : RowTo b c v x) : RowTo a c u x := by
  refine ⟨h.fr.trans' k.fr (fun i hi hs => ?_), ?_⟩
  · rcases h.own with e | ⟨m, e, hm⟩
    · exact e ▸ hs
    · rw [e] at hs; injection hs with hs; omega
  · rcases k.own with e | ⟨m, e, hm⟩
    · rcases h.own with e' | ⟨m, e', hm⟩
      · exact .inl (e.trans e')
      · exact .inr ⟨m, e.trans e', hm⟩
    · exact .inr ⟨m, e, Nat.le_trans h.fr.size hm⟩
theorem RowTo.of_below (hb : Below a.heap.size a b) (u : Value) : RowTo a b u u := ⟨Fr.of_below hb, .inl rfl⟩
theorem RowTo.later (h : RowTo a b u v) (hb : Below b.heap.size b c) : RowTo a c u v := h.trans (.of_below hb v)
theorem RowTo.made {n size : Nat} {e : TypeId} {xs : List Value} (hb : Below a.heap.size a b) (ho : b.ownsRow a.heap.size e size v n xs) : RowTo a b (.slice none 0 0) v := by
  refine ⟨Fr.of_below hb, ?_⟩
  cases h : v.ownBlock with
  | none => exact .inl rfl
  | some k => exact .inr ⟨k, rfl, (ho.lt k h).1⟩
theorem RowTo.app (hg : a.grownBy b u.ownBlock) (ho : v.ownBlock = u.ownBlock ∨ v.ownBlock = some a.heap.size) : RowTo a b u v :=
  ⟨(Fr.refl _ _).grown hg (fun k e => .inl e), ho.imp id (fun e => ⟨_, e, Nat.le_refl _⟩)⟩
theorem RowTo.box {m : Nat} {C : Array Value} {t : TypeId} (h : RowTo a b u v) (hb : Box a m C t) (hu : u.ownBlock ≠ some m) : Box b m C t := hb.fr h.fr hu
theorem RowTo.below {B : Nat} (h : RowTo a b u v) (hu : ∀ k, u.ownBlock = some k → B ≤ k) (hB : B ≤ a.heap.size) : Below B a b := h.fr.to_below hu hB
theorem RowTo.all (h : RowTo a b (.slice none 0 0) v) : Below a.heap.size a b := h.below (fun k e => by cases e) (Nat.le_refl _)
theorem RowTo.far {m : Nat} (h : RowTo a b u v) (hm : m < a.heap.size) (hu : u.ownBlock ≠ some m) : v.ownBlock ≠ some m := fun e => by
  rcases h.own with e' | ⟨k, e', hk⟩
  · exact hu (e'.symm.trans e)
  · rw [e'] at e; injection e with e; omega
end
end Go.Proofs.Mem
