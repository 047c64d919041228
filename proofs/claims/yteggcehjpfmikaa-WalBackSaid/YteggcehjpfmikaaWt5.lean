import Derived.Test.YteggcehjpfmikaaMem2
import Derived.Test.YteggcehjpfmikaaMem3
import Derived.Test.YteggcehjpfmikaaWt0
import Derived.Test.YteggcehjpfmikaaWt2
import Derived.Test.YteggcehjpfmikaaWt4
import Derived.BigFrameIn
import Derived.Defers
import Derived.Lib.AppendZerosOnto
import Derived.LoopIn
import Derived.LoopNIn
import Derived.OwnWalkIn
import Derived.RangeFuncBound
import Derived.RangeFuncBox
import Derived.RangeFuncCalls
import Derived.RangeFuncFrom
import Derived.RangeFuncLeaves
import Derived.RangeFuncNested
import Derived.Recover
import Derived.Shelf.Abstract
import Derived.Shelf.RegionOpen
import Derived.TacticsInMore
import Derived.WalkLawsBesides
namespace Go.Proofs.Yteggcehjpfmikaa.Disk
open Go.ChangeShapes Go.WideShapes Go.ChangeAt Go.RowKit Go.IntWalk Go.Proofs.Mem Go.Proofs.Each Law
set_option linter.unusedVariables false
set_option maxRecDepth 100000
set_option linter.unusedSimpArgs false
def crS (l : List Ft) (k n : Nat) (s : Se) : Se := s.crash (fateAt l k n).keep (fateAt l k n).torn
def Dv.crTo (D : Dv) (l : List Ft) (i j : Nat) : Dv := { D with f := fun k => (D.f k).mapIdx (fun n s => if k < i ∨ (k = i ∧ n < j) then crS l k n s else s) }
theorem crTo_ext {D : Dv} {f g : Nat → List Se} (h : ∀ k, f k = g k) : ({ D with f := f } : Dv) = { D with f := g } := by
  have : f = g := funext h
  rw [this]
theorem crTo_zero (D : Dv) (l : List Ft) : D.crTo l 0 0 = D := by
  have : D = { D with f := D.f } := rfl
  conv => rhs; rw [this]
  unfold Dv.crTo
  refine crTo_ext (fun k => ?_)
  apply List.ext_getElem?
  intro m
  rw [List.getElem?_mapIdx]
  cases (D.f k)[m]? with
  | none => rfl
  | some s => simp
theorem crTo_len (D : Dv) (l : List Ft) (i j k : Nat) : ((D.crTo l i j).f k).length = (D.f k).length := by simp [Dv.crTo]
theorem crTo_at (D : Dv) (l : List Ft) (i j : Nat) (hj : j < (D.f i).length) : ((D.crTo l i j).f i)[j]? = some (D.f i)[j] := by
  simp only [Dv.crTo]
  rw [List.getElem?_mapIdx, List.getElem?_eq_getElem hj]
  simp
theorem crTo_succ (D : Dv) (l : List Ft) (i j : Nat) (hj : j < (D.f i).length) : (D.crTo l i j).upd i j (crS l i j (D.f i)[j]) = D.crTo l i (j + 1) := by
  unfold Dv.upd Dv.crTo
  refine crTo_ext (D := D) (fun k => ?_)
  by_cases hk : k = i
  · subst hk
    simp only [if_true]
    apply List.ext_getElem?
    intro m
    by_cases hm : m = j
    · subst hm
      rw [List.getElem?_set_self (by simpa using hj), List.getElem?_mapIdx, List.getElem?_eq_getElem hj]
      simp
    · rw [List.getElem?_set_ne (Ne.symm hm), List.getElem?_mapIdx, List.getElem?_mapIdx]
      cases (D.f k)[m]? with
      | none => rfl
      | some s =>
        simp only [Option.map_some]
        congr 1
        simp only [Nat.lt_irrefl, false_or, true_and]
        by_cases h1 : m < j
        · rw [if_pos h1, if_pos (by omega)]
        · rw [if_neg h1, if_neg (by omega)]
  · simp only [if_neg hk]
    apply List.ext_getElem?
    intro m
    rw [List.getElem?_mapIdx, List.getElem?_mapIdx]
    cases (D.f k)[m]? with
    | none => rfl
    | some s =>
      simp only [Option.map_some]
      congr 1
      by_cases h1 : k < i
      · rw [if_pos (.inl h1), if_pos (.inl h1)]
      · rw [if_neg (by omega), if_neg (by omega)]
theorem crTo_next (D : Dv) (l : List Ft) (i : Nat) : D.crTo l i (D.f i).length = D.crTo l (i + 1) 0 := by
  unfold Dv.crTo
  refine crTo_ext (D := D) (fun k => ?_)
  apply List.ext_getElem?
  intro m
  rw [List.getElem?_mapIdx, List.getElem?_mapIdx]
  by_cases hm : m < (D.f k).length
  · rw [List.getElem?_eq_getElem hm]
    simp only [Option.map_some]
    congr 1
    by_cases h1 : k < i
    · rw [if_pos (.inl h1), if_pos (.inl (by omega))]
    · by_cases h2 : k = i
      · subst h2
        rw [if_pos (.inr ⟨rfl, hm⟩), if_pos (.inl (by omega))]
      · rw [if_neg (by omega), if_neg (by omega)]
  · rw [List.getElem?_eq_none (by omega)]; rfl
theorem MapAt.fr {w w' : World} {m : Nat} {l : List Ft} {S : Nat → Prop} (h : MapAt w m l) (hf : Fr S w w') (hn : ¬ S m) : MapAt w' m l := by
  have hlt := h.lt
  obtain ⟨n, D, ⟨es, clock, hb, F, hs, hD⟩, h2⟩ := h
  exact ⟨n, D, ⟨es, clock, (hf.block m hlt hn).trans hb, F, hs, hD⟩, h2⟩
def Dv.crash (D : Dv) (l : List Ft) : Dv := { D.crTo l 2 0 with lim := false, left := 0, dead := false }
set_option maxRecDepth 100000 in
set_option maxHeartbeats 16000000 in
theorem crash_yes {w : World} {S : Nat → Prop} {b : Nat} {D : Dv} {col : Nat → Nat} {fv : Nat → Value} {uv : Nat → List Pl} (h : DA w S b D col fv uv) (v : Value) (l : List Ft) (hv : SS cFt 4 w w.heap.size v l) (ho : ∀ x ∈ l, x.Ok) (hl : l.length ≤ 100000) (hw : ∀ i, i < 2 → ∀ s ∈ D.f i, s.wait.length ≤ 100000) :
    Calls Try.prog 11 #[.pointer (some ⟨b, 0, none⟩), v] w fun e w' => e = .returned (.tuple #[]) ∧ (∃ col' uv', DA w' (growS w w' S) b (D.crash l) col' fv uv') ∧ Fr S w w' := by
  have FT := Lib.hid (fates_any w v l hv ho hl)
  have HH := Lib.hid h
  have HWT := Lib.hid hw
  clear h hv ho hl hw
  go_enter Try.func11, Try.ntmps11
  go_wp2_with fail
  (with_reducible refine FT.out.mono ?_)
  rintro e w1 ⟨q, m, rfl, hq1, hm1, ⟨hqw, hmw⟩, hb1⟩
  have HQ1 := Lib.hid hq1
  have HM1 := Lib.hid hm1
  have HB1 := Lib.hid hb1
  have HD1 := Lib.hid (HH.out.later hb1)
  have HSQ := Lib.hid (show ∀ x, S x → x ≠ q ∧ x ≠ m from fun x hx => by have := HH.out.old x hx; omega)
  clear hq1 hm1 hb1 hqw hmw
  go_wp2
  go_loopw [9] (fun x wr => ∃ i : Nat, i ≤ 2 ∧ x = .int .i64 i ∧ Hid ((∃ col' uv', DA wr (growS w1 wr S) b (D.crTo l i 0) col' fv uv') ∧ Fr S w wr ∧ Box wr q #[.map (some m)] 109 ∧ MapAt wr m l ∧ w1.heap.size ≤ wr.heap.size)) (fun x _ => 2 - (intOf x).toNat)
  case atStart => exact ⟨0, by decide, rfl, Lib.hid ⟨⟨col, uv, by rw [crTo_zero]; exact HD1.out.grow⟩, Fr.of_below HB1.out, HQ1.out, HM1.out, Nat.le_refl _⟩⟩
  case round =>
    obtain ⟨i, hi, rfl, HO⟩ := hrel
    by_cases hlt : i < 2
    · have di : decide ((i : Int) < 2) = true := by simp; omega
      have hi2 : (i : Int) < 2 := by omega
      obtain ⟨⟨col1, uv1, hd⟩, hfr, hqb, hmp, hsz⟩ := HO.out
      obtain ⟨A, c, ev, hlc⟩ : ∃ A c, fv i = .slice A (D.f i).length c ∧ (D.f i).length ≤ c := by
        rcases (HH.out.file i hlt).row.1.2 with ⟨e, h0⟩ | ⟨g, cap, _, e, _, _, h1, _⟩
        · rw [h0]; exact ⟨none, 0, e, Nat.le_refl _⟩
        · exact ⟨_, cap, e, h1⟩
      obtain ⟨LN, hL⟩ : ∃ LN, LN = (D.f i).length := ⟨_, rfl⟩
      rw [← hL] at ev hlc
      have hmo : LN ≤ 4096 := by rw [hL]; exact HH.out.most i hlt
      have kc : wr.cell? ⟨b, i, none⟩ = some (.slice A LN c) := by
        rw [hd.box.cell i, ← ev]
        rcases two hlt with h9 | h9 <;> (subst h9; rfl)
      have EV := Lib.hid ev
      have HL := Lib.hid hL
      have HI := Lib.hid hlt
      have START := Lib.hid (And.intro (⟨col1, uv1, hd⟩ : ∃ col' uv', DA wr (growS w1 wr S) b (D.crTo l i 0) col' fv uv') (And.intro hfr (And.intro hqb hmp)))
      have HZ0 := Lib.hid hsz
      clear hd hfr hqb hmp ev hL HO hsz
      go_wp2
      clear kc
      go_loopw [19] (fun x wr => ∃ j : Nat, j ≤ LN ∧ x = .int .i64 j ∧ Hid (((∃ col' uv', DA wr (growS w1 wr S) b (D.crTo l i j) col' fv uv') ∧ Fr S w wr ∧ Box wr q #[.map (some m)] 109 ∧ MapAt wr m l) ∧ w1.heap.size ≤ wr.heap.size)) (fun x _ => LN - (intOf x).toNat)
      case atStart => exact ⟨0, Nat.zero_le _, rfl, Lib.hid ⟨START.out, HZ0.out⟩⟩
      case round =>
        obtain ⟨j, hj, rfl, HR⟩ := hrel
        by_cases hlt2 : j < LN
        · obtain ⟨⟨⟨col2, uv2, hd⟩, hfr, hqb, hmp⟩, hsz2⟩ := HR.out
          have HZ := Lib.hid hsz2
          have hjl : j < (D.f i).length := by rw [← HL.out]; exact hlt2
          obtain ⟨g, cap, C, p, s, sp⟩ := (hd.file i HI.out).spot j (by rw [crTo_len]; exact hjl)
          have es : s = (D.f i)[j] := Option.some.inj (sp.hs.symm.trans (crTo_at D l i j hjl))
          have eA : A = some ⟨g, 0, none⟩ := by
            have := sp.hv
            rw [EV.out] at this
            injection this
          subst eA
          obtain ⟨y, hy⟩ : ∃ y, y = fateAt l i j := ⟨_, rfl⟩
          have dj : decide ((j : Int) < (LN : Int)) = true := by simp; omega
          have wi8 : IntKind.u8.wrap (i : Int) = (i : Int) := by rw [IntKind.wrap_u8]; omega
          have HD := Lib.hid hd
          have BB1 := Lib.hid (show Box wr b (dC fv (D.crTo l i j).lim (D.crTo l i j).left (D.crTo l i j).dead) 75 from hd.box)
          have HCJ := Lib.hid (show (dC fv (D.crTo l i j).lim (D.crTo l i j).left (D.crTo l i j).dead)[i]? = some (.slice (some ⟨g, 0, none⟩) LN c) by rw [← EV.out]; rcases two HI.out with h9 | h9 <;> (subst h9; rfl))
          have FA := Lib.hid (fun W (hb : Below wr.heap.size wr W) => fate_any W q m l (hqb.later hb) (hmp.later hb) i j (by omega) (by omega))
          rw [← hy] at FA
          have CR := Lib.hid (fun W (hb : Below wr.heap.size wr W) => crash_at (hd.later hb) HI.out (sp.later hb) y.file y.sec y.keep y.torn (HWT.out i HI.out s (by rw [es]; exact List.getElem_mem _)))
          rw [show 2 * j = j * 2 from Nat.mul_comm 2 j] at CR
          have HY := Lib.hid hy
          have ES := Lib.hid es
          have HFR := Lib.hid hfr
          have HQB := Lib.hid hqb
          have HMP := Lib.hid hmp
          clear hd hfr hqb hmp sp hy es HR hsz2
          go_wp2
          refine wp_region_end (by kernel_rfl) (by kernel_rfl) 13 (fun _ _ => True) (fun W => (∃ col' uv', DA W (growS wr W (growS w1 wr S)) b ((Dv.crTo D l i j).upd i j (s.crash y.keep y.torn)) col' fv uv') ∧ Fr (growS w1 wr S) wr W) [(fun v _ => v = .pointer (some ⟨b, 0, none⟩)), (fun v _ => v = .int .i64 i), (fun v _ => v = .pointer (some ⟨b, 0, none⟩)), (fun v _ => v = .pointer (some ⟨b, 0, none⟩)), (fun v _ => v = .pointer (some ⟨b, i, none⟩)), (fun v _ => v = .slice (some ⟨g, 0, none⟩) LN c), (fun v _ => v = .int .i64 j), (fun v _ => v = .pointer (some ⟨g, j * 2, none⟩)), (fun v _ => v = .func (.func 51) #[] #[.pointer (some ⟨q, 0, none⟩)]), (fun v _ => v = .int .i64 i), (fun v _ => v = .int .u8 i), (fun v _ => v = .int .i64 j), (fun v _ => v = Ft.v y), (fun v _ => v = undef)] (fun W W' hb h => ⟨by obtain ⟨c1, u1, h1⟩ := h.1; exact ⟨c1, u1, (h1.later hb).mono (fun x hx => by rcases hx with hx | hx; (exact .inl hx); (exact .inr ⟨hx.1, Nat.lt_of_lt_of_le hx.2 hb.size⟩)) (fun x hx => by rcases hx with hx | hx; (exact Nat.lt_of_lt_of_le (HD.out.old x hx) (Nat.le_trans h.2.size hb.size)); (exact hx.2))⟩, h.2.below hb⟩) ?_ (fun vals => ?_) (fun vals W hfin hall => ?_) (by decide)
          · intro j v W W' hj hr h
            match j, hj, h with
            | 0, _, h => exact h
            | 1, _, h => exact h
            | 2, _, h => exact h
            | 3, _, h => exact h
            | 4, _, h => exact h
            | 5, _, h => exact h
            | 6, _, h => exact h
            | 7, _, h => exact h
            | 8, _, h => exact h
            | 9, _, h => exact h
            | 10, _, h => exact h
            | 11, _, h => exact h
            | 12, _, h => exact h
            | 13, hj, _ => exact absurd rfl hj
            | _ + 14, _, _ => trivial
          · simp only [ObL, Act.put, List.setIfInBounds_toArray, List.set_cons_succ, List.set_cons_zero]
            refine ⟨?_, ?_, ?_, ?_, ?_, ?_, ?_, ?_, ?_, ?_, ?_, ?_, ?_, ?_, trivial⟩
            · intro L W hL hk hC hw
              clear hw
              clear hL hC hk
              refine step_plain rfl ?_
              go_simp
              first | exact ⟨Re.same (by decide), Fe.val (by decide) rfl rfl⟩ | exact ⟨_, rfl, Re.same (by decide), Fe.val (by decide) rfl rfl⟩
            · intro L W hL hk hC hw
              clear hw
              clear hL hC hk
              refine step_plain rfl ?_
              go_simp
              first | exact ⟨Re.same (by decide), Fe.val (by decide) rfl rfl⟩ | exact ⟨_, rfl, Re.same (by decide), Fe.val (by decide) rfl rfl⟩
            · intro L W hL hk hC hw
              have f0 : vals 0 = .pointer (some ⟨b, 0, none⟩) := Fe.get (hw ⟨0, .data⟩ (by simp) rfl) (by decide)
              clear hw
              clear hL hC hk
              refine step_plain rfl ?_
              go_simp
              first | exact ⟨Re.same (by decide), Fe.val (by decide) rfl rfl⟩ | exact ⟨_, rfl, Re.same (by decide), Fe.val (by decide) rfl rfl⟩
            · intro L W hL hk hC hw
              have f2 : vals 2 = .pointer (some ⟨b, 0, none⟩) := Fe.get (hw ⟨2, .data⟩ (by simp) rfl) (by decide)
              clear hw
              clear hL hC hk
              refine step_plain rfl ?_
              go_simp
              first | exact ⟨Re.same (by decide), Fe.val (by decide) rfl rfl⟩ | exact ⟨_, rfl, Re.same (by decide), Fe.val (by decide) rfl rfl⟩
            · intro L W hL hk hC hw
              have f3 : vals 3 = .pointer (some ⟨b, 0, none⟩) := Fe.get (hw ⟨3, .data⟩ (by simp) rfl) (by decide)
              have f1 : vals 1 = .int .i64 i := Fe.get (hw ⟨1, .data⟩ (by simp) rfl) (by decide)
              clear hw
              clear hL hC hk
              refine step_plain rfl ?_
              go_simp
              first | exact ⟨Re.same (by decide), Fe.val (by decide) rfl rfl⟩ | exact ⟨_, rfl, Re.same (by decide), Fe.val (by decide) rfl rfl⟩
            · intro L W hL hk hC hw
              have f4 : vals 4 = .pointer (some ⟨b, i, none⟩) := Fe.get (hw ⟨4, .data⟩ (by simp) rfl) (by decide)
              clear hw
              have hb := hC (hL.not_yet hk 13 8 (by decide +kernel))
              have bx := BB1.out.later hb
              have kc : W.cell? ⟨b, i, none⟩ = some (.slice (some ⟨g, 0, none⟩) LN c) := (bx.cell i).trans HCJ.out
              clear hL hC hk hb bx
              refine step_plain rfl ?_
              go_simp
              first | exact ⟨Re.same (by decide), Fe.val (by decide) rfl rfl⟩ | exact ⟨_, rfl, Re.same (by decide), Fe.val (by decide) rfl rfl⟩
            · intro L W hL hk hC hw
              clear hw
              clear hL hC hk
              refine step_plain rfl ?_
              go_simp
              first | exact ⟨Re.same (by decide), Fe.val (by decide) rfl rfl⟩ | exact ⟨_, rfl, Re.same (by decide), Fe.val (by decide) rfl rfl⟩
            · intro L W hL hk hC hw
              have f5 : vals 5 = .slice (some ⟨g, 0, none⟩) LN c := Fe.get (hw ⟨5, .data⟩ (by simp) rfl) (by decide)
              have f6 : vals 6 = .int .i64 j := Fe.get (hw ⟨6, .data⟩ (by simp) rfl) (by decide)
              clear hw
              clear hL hC hk
              refine step_plain rfl ?_
              go_simp
              first | exact ⟨Re.same (by decide), Fe.val (by decide) rfl rfl⟩ | exact ⟨_, rfl, Re.same (by decide), Fe.val (by decide) rfl rfl⟩
            · intro L W hL hk hC hw
              clear hw
              clear hL hC hk
              refine step_plain rfl ?_
              go_simp
              first | exact ⟨Re.same (by decide), Fe.val (by decide) rfl rfl⟩ | exact ⟨_, rfl, Re.same (by decide), Fe.val (by decide) rfl rfl⟩
            · intro L W hL hk hC hw
              clear hw
              clear hL hC hk
              refine step_plain rfl ?_
              go_simp
              first | exact ⟨Re.same (by decide), Fe.val (by decide) rfl rfl⟩ | exact ⟨_, rfl, Re.same (by decide), Fe.val (by decide) rfl rfl⟩
            · intro L W hL hk hC hw
              have f9 : vals 9 = .int .i64 i := Fe.get (hw ⟨9, .data⟩ (by simp) rfl) (by decide)
              clear hw
              clear hL hC hk
              refine step_plain rfl ?_
              go_simp
              first | exact ⟨Re.same (by decide), Fe.val (by decide) rfl rfl⟩ | exact ⟨_, rfl, Re.same (by decide), Fe.val (by decide) rfl rfl⟩
            · intro L W hL hk hC hw
              clear hw
              clear hL hC hk
              refine step_plain rfl ?_
              go_simp
              first | exact ⟨Re.same (by decide), Fe.val (by decide) rfl rfl⟩ | exact ⟨_, rfl, Re.same (by decide), Fe.val (by decide) rfl rfl⟩
            · intro L W hL hk hC hw
              have f8 : vals 8 = .func (.func 51) #[] #[.pointer (some ⟨q, 0, none⟩)] := Fe.get (hw ⟨8, .data⟩ (by simp) rfl) (by decide)
              have f10 : vals 10 = .int .u8 i := Fe.get (hw ⟨10, .data⟩ (by simp) rfl) (by decide)
              have f11 : vals 11 = .int .i64 j := Fe.get (hw ⟨11, .data⟩ (by simp) rfl) (by decide)
              clear hw
              have hb := hC (hL.not_yet hk 13 8 (by decide +kernel))
              have FTC := Lib.hid (FA.out W hb)
              clear hL hC hk hb
              refine step_plain rfl ?_
              go_simp
              (with_reducible refine FTC.out.mono ?_)
              rintro e w8 ⟨rfl, hb8⟩
              first | exact ⟨Re.of (by decide) hb8, Fe.val (by decide) rfl rfl⟩ | exact ⟨_, rfl, Re.of (by decide) hb8, Fe.val (by decide) rfl rfl⟩
            · intro L W hL hk hC hw
              have f7 : vals 7 = .pointer (some ⟨g, j * 2, none⟩) := Fe.get (hw ⟨7, .data⟩ (by simp) rfl) (by decide)
              have f12 : vals 12 = Ft.v y := Fe.get (hw ⟨12, .data⟩ (by simp) rfl) (by decide)
              clear hw
              have hb := hC hk
              have CRC := Lib.hid (CR.out W hb)
              have HBB := Lib.hid hb
              clear hL hC hk hb
              refine step_plain rfl ?_
              go_simp
              (with_reducible refine CRC.out.mono ?_)
              rintro e w8 ⟨rfl, hd8, hf8⟩
              have hd9 : ∃ col' uv', DA w8 (growS wr w8 (growS w1 wr S)) b ((Dv.crTo D l i j).upd i j (s.crash y.keep y.torn)) col' fv uv' := by
                      obtain ⟨c9, u9, h9⟩ := hd8
                      exact ⟨c9, u9, h9.mono (fun x hx => by rcases hx with hx | hx; (exact .inl hx); (exact .inr ⟨Nat.le_trans HBB.out.size hx.1, hx.2⟩)) (fun x hx => by rcases hx with hx | hx; (exact Nat.lt_of_lt_of_le (HD.out.old x hx) (Nat.le_trans HBB.out.size hf8.size)); (exact hx.2))⟩
              have hfin8 := And.intro hd9 (Fr.sub (Fr.of_below HBB.out) hf8 (fun x _ hs => hs))
              first | exact ⟨Re.last trivial, Fe.last hfin8⟩ | exact ⟨_, rfl, Re.last trivial, Fe.last hfin8⟩
          · simp only [TL, Act.put, List.setIfInBounds_toArray, List.set_cons_succ, List.set_cons_zero]
            obtain ⟨⟨c9, u9, h9⟩, f9⟩ := hfin
            have e9 : (D.crTo l i j).upd i j (s.crash y.keep y.torn) = D.crTo l i (j + 1) := by
              have := crTo_succ D l i j hjl
              rw [← this, ← ES.out, HY.out]; rfl
            rw [e9] at h9
            have hz : w1.heap.size ≤ wr.heap.size := HZ.out
            have hgr := h9.mono (S' := growS w1 W S) (fun x hx => by
              rcases hx with (hx | hx) | hx
              · exact .inl hx
              · exact .inr ⟨hx.1, Nat.lt_of_lt_of_le hx.2 f9.size⟩
              · exact .inr ⟨Nat.le_trans hz hx.1, hx.2⟩) (fun x hx => by
              rcases hx with hx | hx
              · exact Nat.lt_of_lt_of_le (HH.out.old x hx) (Nat.le_trans HFR.out.size f9.size)
              · exact hx.2)
            have HNX := Lib.hid (show (∃ col' uv', DA W (growS w1 W S) b (D.crTo l i (j + 1)) col' fv uv') ∧ Fr S w W ∧ Box W q #[.map (some m)] 109 ∧ MapAt W m l from
              ⟨⟨_, _, hgr⟩, Fr.sub HFR.out f9 (fun x hx hs => by rcases hs with hs | hs; (exact hs); (have := HB1.out.size; omega)),
                HQB.out.fr f9 (fun hs => by rcases hs with hs | hs; (exact (HSQ.out q hs).1 rfl); (have := HQ1.out.lt; omega)),
                HMP.out.fr f9 (fun hs => by rcases hs with hs | hs; (exact (HSQ.out m hs).2 rfl); (have := HM1.out.lt; omega))⟩)
            have HZ2 := Lib.hid (Nat.le_trans hz f9.size)
            clear h9 f9 e9 hz hgr hall
            go_wp2
            go_roundw
            case rel => exact ⟨j + 1, by omega, by go_num, Lib.hid ⟨HNX.out, HZ2.out⟩⟩
            case measure => simp [intOf]; omega
        · have hjL : j = LN := by omega
          have dj : decide ((j : Int) < (LN : Int)) = false := by simp; omega
          have HN := Lib.hid (show (∃ col' uv', DA wr (growS w1 wr S) b (D.crTo l (i + 1) 0) col' fv uv') ∧ Fr S w wr ∧ Box wr q #[.map (some m)] 109 ∧ MapAt wr m l by
            have h9 := HR.out.1
            rw [hjL, HL.out, crTo_next] at h9
            exact h9)
          have HZ3 := Lib.hid HR.out.2
          clear HR hjL
          go_wp2
          go_roundw
          case rel => exact ⟨i + 1, by omega, by go_num, Lib.hid ⟨HN.out.1, HN.out.2.1, HN.out.2.2.1, HN.out.2.2.2, HZ3.out⟩⟩
          case measure => simp [intOf]; omega
    · have hi2 : i = 2 := by omega
      subst hi2
      obtain ⟨⟨col1, uv1, hd⟩, hfr, hqb, hmp, hsz⟩ := HO.out
      have HD := Lib.hid hd
      have HFR := Lib.hid hfr
      have HZ := Lib.hid hsz
      have kb2 := hd.box.cell
      have fb2 := hd.box.frozen
      clear hd hfr hqb hmp hsz HO
      go_wp2
      have hb4 := Box.set_ (Box.set_ (Box.set_ HD.out.box 2 (.bool false)) 3 (.int .i64 0)) 4 (.bool false)
      have hf4 := Fr.setCell (Fr.setCell (Fr.setCell (Fr.refl (fun x => x = b) wr) (p := ⟨b, 2, none⟩) (.inl rfl) (.bool false)) (p := ⟨b, 3, none⟩) (.inl rfl) (.int .i64 0)) (p := ⟨b, 4, none⟩) (.inl rfl) (.bool false)
      simp only [List.setIfInBounds_toArray, List.set_cons_zero, List.set_cons_succ] at hb4
      generalize hW : World.setCell _ (⟨b, 4, none⟩ : Addr) _ = w9 at hb4 hf4 ⊢
      clear hW
      go_end0
      have h9 := HD.out.head hf4 false 0 false (by decide) hb4
      have hgr := h9.mono (S' := growS w w9 S) (fun x hx => by
        rcases hx with hx | hx
        · exact .inl hx
        · exact .inr ⟨Nat.le_trans HB1.out.size hx.1, Nat.lt_of_lt_of_le hx.2 hf4.size⟩) (fun x hx => by
        rcases hx with hx | hx
        · exact Nat.lt_of_lt_of_le (HH.out.old x hx) (Nat.le_trans HFR.out.size hf4.size)
        · exact hx.2)
      exact ⟨rfl, ⟨_, _, hgr⟩, Fr.sub HFR.out hf4 (fun x _ hx => by rw [hx]; exact HH.out.here)⟩
end Go.Proofs.Yteggcehjpfmikaa.Disk
namespace Go.Proofs.Yteggcehjpfmikaa.Disk
open Go.ChangeShapes Go.WideShapes Go.ChangeAt Go.RowKit Go.IntWalk Go.Proofs.Mem Go.Proofs.Each Law
set_option linter.unusedVariables false
set_option linter.unusedSimpArgs false
theorem own_far_ir {w w' : World} {S : Nat → Prop} {base : Nat} {v : Value} {xs : List Int} (h : w.ownsRow base 5 1 v 128 (xs.map (.int .u8))) (hl : xs.length = 128) (hs : ∀ x, S x → x < base) (hf : Fr S w w') : IR w' w'.heap.size .u8 v xs :=
  own_ir' (own_frS h hf (fun k hk hS => by have := (h.lt k hk).1; have := hs k hS; omega)) hl
theorem new_at (A B : Int) (w : World) (N0 N1 : Nat) (hA : A = N0) (hB : B = N1) (h0 : N0 ≤ 4096) (h1 : N1 ≤ 4096) :
    Calls Try.prog 27 #[.int .i64 A, .int .i64 B] w fun e w' => e = .returned (.pointer (some ⟨w.heap.size, 0, none⟩)) ∧ Out w w' (fun k => if k = 0 then N0 else N1) 2 := by
  subst hA hB; exact new_yes w N0 N1 h0 h1
def Dv.has (D : Dv) (i : Nat) (N : Int) : Prop := i < 2 ∧ 0 ≤ N ∧ N < (D.f i).length
instance (D : Dv) (i : Nat) (N : Int) : Decidable (D.has i N) := by unfold Dv.has; infer_instance
def Dv.wrE (D : Dv) (i : Nat) (N : Int) (L : Nat) : Int := if D.has i N then (if L = 128 then 0 else 1) else 50
def Dv.wrA (D : Dv) (i : Nat) (N : Int) (xs : List Int) : Dv := if D.has i N ∧ xs.length = 128 then D.wr i N.toNat ((D.f i).getD N.toNat zSe) xs else D
theorem DvAt.formv {tS tD : TypeId} {w : World} {S : Nat → Prop} {b : Nat} {D : Dv} {col : Nat → Nat} {fv : Nat → Value} {uv : Nat → List Pl} (h : DvAt tS tD w S b D col fv uv) (i : Nat) : ∃ A L c, (i < 2 → fv i = .slice A L c ∧ L = (D.f i).length) ∧ (¬ i < 2 → A = none ∧ L = 0 ∧ c = 0) := by
  by_cases hi : i < 2
  · rcases (h.file i hi).row.1.2 with ⟨e, h0⟩ | ⟨g, cap, _, e, _⟩
    · exact ⟨none, 0, 0, fun _ => ⟨e, h0.symm⟩, fun h => absurd hi h⟩
    · exact ⟨_, (D.f i).length, cap, fun _ => ⟨e, rfl⟩, fun h => absurd hi h⟩
  · exact ⟨none, 0, 0, fun h => absurd h hi, fun _ => ⟨rfl, rfl, rfl⟩⟩
theorem write_any {w : World} {S : Nat → Prop} {b : Nat} {D : Dv} {col : Nat → Nat} {fv : Nat → Value} {uv : Nat → List Pl} (h : DA w S b D col fv uv) (I N : Int) (i : Nat) (hI : I = i) (hi : i ≤ 255) (hw : ∀ k, k < 2 → ∀ s ∈ D.f k, s.wait.length ≤ 100000)
    (dv : Value) (xs : List Int) (hdf : ∀ w', Fr S w w' → IR w' w'.heap.size .u8 dv xs) (hxb : Bytes xs) :
    Calls Try.prog 60 #[.pointer (some ⟨b, 0, none⟩), .int .u8 I, .int .i64 N, dv] w fun e w' => e = .returned (.int .u16 (D.wrE i N xs.length)) ∧ (∃ col' uv', DA w' (growS w w' S) b (D.wrA i N xs) col' fv uv') ∧ Fr S w w' := by
  subst hI
  by_cases hh : D.has i N
  · obtain ⟨n, hn⟩ : ∃ n : Nat, N = n := ⟨N.toNat, by have := hh.2.1; omega⟩
    subst hn
    have hnl : n < (D.f i).length := by have := hh.2.2; omega
    have hs : (D.f i)[n]? = some (D.f i)[n] := List.getElem?_eq_getElem hnl
    by_cases hx : xs.length = 128
    · have e1 : D.wrE i n xs.length = 0 := by unfold Dv.wrE; rw [if_pos hh, if_pos hx]
      have e2 : D.wrA i n xs = D.wr i n (D.f i)[n] xs := by unfold Dv.wrA; rw [if_pos ⟨hh, hx⟩, Int.toNat_natCast, List.getD_eq_getElem?_getD, hs]; rfl
      rw [e1, e2]
      exact write_yes h i hh.1 n _ hs (hw i hh.1 _ (List.getElem_mem hnl)) n rfl dv xs hdf hx hxb
    · have e1 : D.wrE i n xs.length = 1 := by unfold Dv.wrE; rw [if_pos hh, if_neg hx]
      have e2 : D.wrA i n xs = D := by unfold Dv.wrA; rw [if_neg (fun h => hx h.2)]
      rw [e1, e2]
      obtain ⟨g, cap, C, p, s', sp⟩ := (h.file i hh.1).spot n hnl
      have AT := Lib.hid (at_yes w b fv D.lim D.left D.dead h.box i hh.1 g _ cap sp.hv n hnl (h.most i hh.1) sp.hcap (n : Int) rfl)
      obtain ⟨Ad, cd, ed, hld, hcd⟩ := (hdf w (Fr.refl _ _)).form
      subst ed
      have hxi : ¬ ((xs.length : Int) = 128) := by omega
      have dx : ((xs.length : Int) != 128) = true := by simpa using hxi
      have HH := Lib.hid h
      clear h hdf hs sp hld hcd hh e1 e2
      go_enter Try.func60, Try.ntmps60
      go_wp2_with fail
      (with_reducible refine AT.out.mono ?_)
      rintro e w1 ⟨rfl, rfl⟩
      go_wp2
      go_ret
      exact ⟨rfl, ⟨col, uv, HH.out.grow⟩, Fr.refl _ _⟩
  · have e1 : D.wrE i N xs.length = 50 := by unfold Dv.wrE; rw [if_neg hh]
    have e2 : D.wrA i N xs = D := by unfold Dv.wrA; rw [if_neg (fun h => hh h.1)]
    rw [e1, e2]
    obtain ⟨A, L, c, f1, f2⟩ := h.formv i
    have AT := Lib.hid (at_no w b fv D.lim D.left D.dead h.box i hi A L c (fun h => (f1 h).1) f2 N (by
      by_cases hi2 : i < 2
      · have := (f1 hi2).2
        unfold Dv.has at hh
        omega
      · have := (f2 hi2).2.1; omega))
    have HH := Lib.hid h
    clear h hdf f1 f2 hh e1 e2
    go_enter Try.func60, Try.ntmps60
    go_wp2_with fail
    (with_reducible refine AT.out.mono ?_)
    rintro e w1 ⟨rfl, rfl⟩
    go_wp2
    go_ret
    exact ⟨rfl, ⟨col, uv, HH.out.grow⟩, Fr.refl _ _⟩
def Dv.synA (D : Dv) (i : Nat) : Dv := if i < 2 then D.syn i else D
theorem sync_any {w : World} {S : Nat → Prop} {b : Nat} {D : Dv} {col : Nat → Nat} {fv : Nat → Value} {uv : Nat → List Pl} (h : DA w S b D col fv uv) (I : Int) (i : Nat) (hI : I = i) (hi : i ≤ 255) (hw : ∀ k, k < 2 → ∀ s ∈ D.f k, s.wait.length ≤ 100000) :
    Calls Try.prog 61 #[.pointer (some ⟨b, 0, none⟩), .int .u8 I] w fun e w' => e = .returned (.tuple #[]) ∧ (∃ col' uv', DA w' (growS w w' S) b (D.synA i) col' fv uv') ∧ Fr S w w' := by
  subst hI
  by_cases h2 : i < 2
  · have e : D.synA i = D.syn i := if_pos h2
    rw [e]
    exact sync_yes h i h2 (hw i h2)
  · have e : D.synA i = D := if_neg h2
    rw [e]
    have wi := i8_wrap i hi
    have d1 : decide ((2 : Int) ≤ (i : Int)) = true := by simp; omega
    have HH := Lib.hid h
    clear h e
    go_enter Try.func61, Try.ntmps61
    go_wp2
    refine bodyPost_ret (results_none rfl _ _ _) rfl ?_
    exact ⟨rfl, ⟨col, uv, HH.out.grow⟩, Fr.refl _ _⟩
def Dv.Few (D : Dv) (m : Nat) : Prop := ∀ k, k < 2 → ∀ s ∈ D.f k, s.wait.length ≤ m
theorem Dv.Few.more {D : Dv} {m n : Nat} (h : D.Few m) (hn : m ≤ n) : D.Few n := fun k hk s hs => Nat.le_trans (h k hk s hs) hn
theorem cur_keep (s : Se) : s.cur = s.keep s.wait.length := by
  unfold Se.cur Se.keep
  split
  · rename_i h
    rw [List.length_eq_zero_iff.1 h]; rfl
  · rw [List.getLast?_eq_getElem?, List.getD_eq_getElem?_getD]
section
variable {tS tD : TypeId} {w w' : World} {S T : Nat → Prop} {b : Nat} {D : Dv} {col : Nat → Nat} {fv : Nat → Value} {uv : Nat → List Pl}
theorem cur_bytes (h : DvAt tS tD w S b D col fv uv) {i n : Nat} {s : Se} (hi : i < 2) (hs : (D.f i)[n]? = some s) : Bytes s.cur := by
  obtain ⟨g, cap, C, p, s', sp⟩ := (h.file i hi).spot n (List.getElem?_eq_some_iff.1 hs).1
  have e : s' = s := by have := sp.hs; rw [hs] at this; injection this with this; exact this.symm
  subst e
  rw [cur_keep]
  exact (sp.sec.keep s'.wait.length (by have := sp.sec.n; omega)).2.2
end
section
variable {tS tD : TypeId} {w w' : World} {S T : Nat → Prop} {b : Nat} {D : Dv} {col : Nat → Nat} {fv : Nat → Value} {uv : Nat → List Pl}
end
theorem read_no {w : World} {S : Nat → Prop} {b : Nat} {D : Dv} {col : Nat → Nat} {fv : Nat → Value} {uv : Nat → List Pl} (h : DA w S b D col fv uv) (i : Nat) (hi : i ≤ 255) (N : Int) (hno : ¬ D.has i N) :
    Calls Try.prog 53 #[.pointer (some ⟨b, 0, none⟩), .int .u8 i, .int .i64 N] w fun e w' => e = .returned (.tuple #[.slice none 0 0, .int .u16 50]) ∧ w = w' := by
  obtain ⟨A, L, c, h1, h2⟩ := h.formv i
  have AT := Lib.hid (at_no w b fv D.lim D.left D.dead h.box i hi A L c (fun h => (h1 h).1) h2 N (by by_cases hi2 : i < 2; (have := (h1 hi2).2; unfold Dv.has at hno; omega); (have := (h2 hi2).2.1; omega)))
  clear h h1 h2 hno
  go_enter Try.func53, Try.ntmps53
  go_wp2_with fail
  (with_reducible refine AT.out.mono ?_)
  rintro e w1 ⟨rfl, rfl⟩
  go_wp2
  go_ret2
  exact ⟨rfl, rfl⟩
def Dv.rd (D : Dv) (i : Nat) (N : Int) : List Int := if D.has i N then ((D.f i).getD N.toNat zSe).cur else []
def Dv.rdE (D : Dv) (i : Nat) (N : Int) : Int := if D.has i N then 0 else 50
def Dv.siz (D : Dv) (i : Nat) : Nat := if i < 2 then (D.f i).length else 0
theorem has_at {D : Dv} {i : Nat} {N : Int} (h : D.has i N) : i < 2 ∧ ∃ n : Nat, N = n ∧ (D.f i)[n]? = some ((D.f i).getD N.toNat zSe) ∧ (D.f i).getD N.toNat zSe ∈ D.f i := by
  refine ⟨h.1, N.toNat, by have := h.2.1; omega, ?_⟩
  have hl : N.toNat < (D.f i).length := by have := h.2; omega
  rw [List.getD_eq_getElem?_getD, List.getElem?_eq_getElem hl]
  exact ⟨rfl, List.getElem_mem hl⟩
theorem nil_ir (w : World) : IR w w.heap.size .u8 (.slice none 0 0) [] := by
  have := IR.of_own (k := .u8) (xs := ([] : List Int)) (World.ownsRow_nil w w.heap.size 5 1)
  exact this
theorem read_any {w : World} {S : Nat → Prop} {b : Nat} {D : Dv} {col : Nat → Nat} {fv : Nat → Value} {uv : Nat → List Pl} (h : DA w S b D col fv uv) (hw : D.Few 100000) (I N : Int) (i : Nat) (hI : I = i) (hi : i ≤ 255) :
    Calls Try.prog 53 #[.pointer (some ⟨b, 0, none⟩), .int .u8 I, .int .i64 N] w fun e w' => ∃ u, e = .returned (.tuple #[u, .int .u16 (D.rdE i N)]) ∧ IR w' w'.heap.size .u8 u (D.rd i N) ∧ Bytes (D.rd i N) ∧ Below w.heap.size w w' := by
  subst hI
  unfold Dv.rdE Dv.rd
  by_cases hh : D.has i N
  · rw [if_pos hh, if_pos hh]
    obtain ⟨hi2, n, rfl, hs, hm⟩ := has_at hh
    have hby := cur_bytes h hi2 hs
    have hcl : ((D.f i).getD ((n : Int)).toNat zSe).cur.length = 128 := by
      obtain ⟨g, cap, C, p, s', sp⟩ := (h.file i hi2).spot n (List.getElem?_eq_some_iff.1 hs).1
      have e : s' = (D.f i).getD ((n : Int)).toNat zSe := by have := sp.hs; rw [hs] at this; injection this with this; exact this.symm
      rw [← e]; exact Se.cur_len sp.sec.len sp.sec.lens
    refine (read_yes h i hi2 n _ hs (hw i hi2 _ hm) n rfl).mono ?_
    rintro e w' ⟨u, rfl, hu, hb⟩
    exact ⟨u, rfl, own_ir' hu hcl, hby, hb⟩
  · rw [if_neg hh, if_neg hh]
    refine (read_no h i hi N hh).mono ?_
    rintro e w' ⟨rfl, rfl⟩
    exact ⟨_, rfl, nil_ir w, (fun x hx => by cases hx), Below.refl _ _⟩
theorem siz_any {w : World} {S : Nat → Prop} {b : Nat} {D : Dv} {col : Nat → Nat} {fv : Nat → Value} {uv : Nat → List Pl} (h : DA w S b D col fv uv) (I : Int) (i : Nat) (hI : I = i) (hi : i ≤ 255) :
    Calls Try.prog 50 #[.pointer (some ⟨b, 0, none⟩), .int .u8 I] w fun e w' => e = .returned (.int .i64 (D.siz i)) ∧ w = w' := by
  subst hI
  obtain ⟨A, L, c, f1, f2⟩ := h.formv i
  have e : D.siz i = L := by
    unfold Dv.siz
    by_cases h2 : i < 2
    · rw [if_pos h2]; exact (f1 h2).2.symm
    · rw [if_neg h2]; exact (f2 h2).2.1.symm
  rw [e]
  exact size_any w b fv D.lim D.left D.dead h.box i hi A L c (fun h => (f1 h).1) f2
end Go.Proofs.Yteggcehjpfmikaa.Disk
namespace Go.Proofs.Yteggcehjpfmikaa.Rec
open Go.ChangeShapes Go.WideShapes Go.ChangeAt Go.RowKit Go.IntWalk Go.Proofs.NumMath Go.Proofs.Mem Go.Proofs.CrcMath NumBytes CrcA
set_option linter.unusedVariables false
set_option maxRecDepth 100000 in
set_option maxHeartbeats 4000000 in
theorem grow_nil (n : Nat) (h0 : 0 < n) (hn : n ≤ 1000000) (w : World) : Calls Try.prog 85 #[.slice none 0 0, .int .i64 n] w fun e w' => ∃ v, e = .returned v ∧ w'.ownsRow w.heap.size 5 1 v 0 ([] : List Value) ∧ Below w.heap.size w w' := by
  obtain ⟨i0, hi0, hz0, hz1, hz2⟩ := info_parts u8_info
  have h1 : ¬ ((n : Int) < 0) := by omega
  have d1 : decide ((n : Int) < 0) = false := by simp
  have h3 : wrap64 ((n : Int) - 0) = (n : Int) := by unfold wrap64; omega
  have d4 : decide (0 < (n : Int)) = true := by simp; omega
  have hrz : ∀ ty, (Builtin.append_ #[129, 3] ty #[.slice none 0 0, .int .i64 n]).run Try.prog w = .ok (.slice (some ⟨w.heap.size, 0, none⟩) n (grownCap w n 0 5)) (w.drew.alloc (.cells (#[] ++ Builtin.zeroCells (Value.int .u8 0).cells n ++ Builtin.zeroCells (Value.int .u8 0).cells (grownCap w n 0 5 - n)) 5)) := fun ty => by
    have h := Lib.run_append_grow_zeros w 129 3 ty 5 i0 (.int .u8 0) .i64 .i64 Try.underlying129 Try.underlying3 hi0 hz0 none 0 0 [] (run_firstCells_none w.drew i0.size 0 0 0) n (by omega) (by omega) (by omega) (by omega)
      (by rw [hz2]; omega)
      (by rw [Nat.zero_add]; exact growslice_fits (by omega) (by rw [hz2]; omega))
    rw [Nat.zero_add] at h
    exact h
  have hGn : n ≤ grownCap w n 0 5 := grownCap_ge w _ _ _
  have hGm := grownCap_le_maxLen w n 0 5 (by unfold maxLen; omega)
  obtain ⟨G, hG⟩ : ∃ G, G = grownCap w n 0 5 := ⟨_, rfl⟩
  rw [← hG] at hrz hGn hGm
  clear hG
  have hG63 : G ≤ 9223372036854775807 := by unfold maxLen at hGm; omega
  have HR := Lib.hid hrz
  clear hrz
  go_enter Try.func85, Try.ntmps85
  go_wp2_with (at_builtin; refine Lib.wpList_append_run _ rfl _ _ _ _ rfl _ _ rfl rfl _ _ (HR.out _) ?_)
  go_ret
  refine ⟨_, rfl, ⟨rfl, .inr ⟨w.heap.size, G, _, rfl, Nat.le_refl _, heap_alloc_new w.drew _, Nat.zero_le _, hGm, ?_, ?_⟩⟩, new_ (Below.drew (Below.refl _ _)) _⟩
  · simp [size_zeroCells]; omega
  · simp
theorem flat_sum {vs : List (Value × List Int)} {j : Nat} {u : Value} {xs : List Int} (h : vs[j]? = some (u, xs)) : (flat (vs.drop j)).length = xs.length + (flat (vs.drop (j + 1))).length := by
  rw [CrcA.flat_drop vs j u xs h, List.length_append]
set_option maxRecDepth 100000 in
set_option maxHeartbeats 8000000 in
theorem concat_any (v : Value) (vs : List (Value × List Int)) (w : World) (B : Nat) (hv : SR w B v vs) (hB : B ≤ w.heap.size) (h0 : 0 < (flat vs).length) (hT : (flat vs).length ≤ 1000000) :
    Calls Try.prog 72 #[v] w fun e w' => ∃ u, e = .returned u ∧ w'.ownsRow w.heap.size 5 1 u (flat vs).length ((flat vs).map (.int .u8)) ∧ Below w.heap.size w w' := by
  obtain ⟨i0, hi0, hz0, hz1, hz2⟩ := info_parts u8_info
  obtain ⟨A, c, rfl, hlc, hcm⟩ := hv.form
  unfold maxLen at hcm
  have GR := Lib.hid (grow_nil (flat vs).length h0 hT w)
  have HV := Lib.hid hv
  clear hv
  go_enter Try.func72, Try.ntmps72
  go_wp2
  go_loop [3, 11] (fun s i => ∃ (q j : Nat), j ≤ vs.length ∧ s = .int .i64 q ∧ i = .int .i64 j ∧ q + (flat (vs.drop j)).length = (flat vs).length) (fun _ i => vs.length - (intOf i).toNat)
  case atStart => exact ⟨0, 0, by omega, rfl, rfl, by rw [List.drop_zero]; omega⟩
  case round =>
    obtain ⟨q, j, hj, rfl, rfl, hq⟩ := hrel
    by_cases hl : j < vs.length
    · obtain ⟨b, off, u, xs, rfl, hb, hvj, hcell, hr, hx⟩ := SR.index HV.out j hl
      have hs := flat_sum hvj
      have hdl : decide ((j : Int) < (vs.length : Int)) = true := by simp; omega
      obtain ⟨A2, c2, rfl, hlc2, hcm2⟩ := hr.form
      unfold maxLen at hcm2
      obtain ⟨N, hN⟩ : ∃ N : Nat, N = q + xs.length := ⟨_, rfl⟩
      have r1 : N + (flat (vs.drop (j + 1))).length = (flat vs).length := by omega
      have hsum : (q : Int) + (xs.length : Int) = (N : Int) := by omega
      have hn : decide ((N : Int) < 0) = false := by simp
      have hbN : (N : Int) ≤ 1000000 := by omega
      clear hs hq hN
      have R1 := Lib.hid r1
      clear r1
      go_wp2
      go_round
      case rel => exact ⟨N, j + 1, by omega, rfl, by go_num, R1.out⟩
      case measure => simp [intOf]; omega
    · have hdl : decide ((j : Int) < (vs.length : Int)) = false := by simp; omega
      rw [List.drop_eq_nil_of_le (by omega)] at hq
      obtain rfl : q = (flat vs).length := by simpa [flat] using hq
      clear hq
      go_wp2_with (go_at_call 85; (with_reducible refine GR.out.mono ?_); rintro e w1 ⟨u1, rfl, hu1, hb1⟩; have HU1 := Lib.hid hu1; have HB1 := Lib.hid hb1; clear hu1 hb1)
      go_loopw [6, 27] (fun s i wr => ∃ (out : List Int) (k : Nat), k ≤ vs.length ∧ i = .int .i64 k ∧ Hid (wr.ownsRow w.heap.size 5 1 s out.length (out.map (.int .u8))) ∧ Hid (out ++ flat (vs.drop k) = flat vs) ∧ Hid (Below w.heap.size w wr)) (fun _ i _ => vs.length - (intOf i).toNat)
      case atStart => exact ⟨[], 0, by omega, rfl, HU1, Lib.hid rfl, HB1⟩
      case round =>
        obtain ⟨out, k, hk, rfl, HO, HF, HBL⟩ := hrel
        by_cases hkl : k < vs.length
        · have hv2 : SR wr B (.slice A vs.length c) vs := HV.out.keep fun p hp => HBL.out.cell (Nat.lt_of_lt_of_le hp hB)
          obtain ⟨b, off, u, xs, rfl, hb, hvj, hcell, hr, hx⟩ := SR.index hv2 k hkl
          have hf := HF.out
          rw [CrcA.flat_drop vs k u xs hvj, ← List.append_assoc] at hf
          have hfl : out.length + xs.length ≤ 1000000 := by have := congrArg List.length hf; simp only [List.length_append] at this; omega
          have HF2 := Lib.hid hf
          have hdl : decide ((k : Int) < (vs.length : Int)) = true := by simp; omega
          obtain ⟨A2, c2, rfl, hlc2, hcm2⟩ := hr.form
          have HR := Lib.hid hr
          clear hf hv2 hvj hr hx
          go_wp2_with (at_builtin; refine wpList_append_tx _ rfl _ _ _ _ rfl w.heap.size 5 5 i0 .u8 1 Try.underlying129 Try.underlying129 hi0 hz0 hz1 hz2 _ out.length out rfl HO.out B _ xs rfl HR.out (by unfold maxLen; omega) (by omega) HBL.out.size ?_; intro v2 w2 hown2 hg2 ho2; rw [← List.length_append] at hown2; have OW := Lib.hid hown2; have HB2 := Lib.hid (below_row HBL.out HO.out hg2 (Nat.le_refl _) HBL.out.size); clear hown2 hg2 ho2)
          go_roundw
          case rel => exact ⟨out ++ xs, k + 1, by omega, by go_num, OW, HF2, HB2⟩
          case measure => simp [intOf]; omega
        · have hdl : decide ((k : Int) < (vs.length : Int)) = false := by simp; omega
          have hf := HF.out
          rw [List.drop_eq_nil_of_le (by omega)] at hf
          obtain rfl : out = flat vs := by simpa [flat] using hf
          clear hf
          go_wp2
          go_ret
          exact ⟨_, rfl, HO.out, HBL.out⟩
end Go.Proofs.Yteggcehjpfmikaa.Rec
namespace Go.Proofs.Yteggcehjpfmikaa.Rec
open Go.ChangeShapes Go.WideShapes Go.ChangeAt Go.RowKit Go.IntWalk Go.Proofs.NumMath Go.Proofs.Mem Go.Proofs.CrcMath NumBytes CrcA
set_option linter.unusedVariables false
set_option linter.unusedSimpArgs false
def bodyB (k t p n : Int) : List Int := putS k 1 ++ putS t 4 ++ putS p 8 ++ putS n 8
theorem bodyB_len (k t p n : Int) : (bodyB k t p n).length = 21 := by simp [bodyB, putS_len]
theorem bodyB_bytes (k t p n : Int) : Bytes (bodyB k t p n) := (((putS_bytes _ _).app (putS_bytes _ _)).app (putS_bytes _ _)).app (putS_bytes _ _)
def bareB (k t p n : Int) : List Int := putS 27 2 ++ putS (tn (sumF 0#32 (bodyB k t p n))) 4 ++ bodyB k t p n
theorem bareB_len (k t p n : Int) : (bareB k t p n).length = 27 := by simp [bareB, putS_len, bodyB_len]
theorem u64_wrap {x : Int} (h0 : 0 ≤ x) (h1 : x ≤ 18446744073709551615) : IntKind.u64.wrap x = x := by rw [NumMath.wrap_u64]; omega
theorem Wr.ir {w : World} {g : Nat} {v : Value} {xs : List Int} (h : Wr w g v xs) : IR w w.heap.size .u8 v xs := IR.of_own h.own
set_option maxRecDepth 100000 in
set_option maxHeartbeats 16000000 in
theorem encode_bare (k t p n : Int) (hk : k = 1 ∨ (4 ≤ k ∧ k ≤ 7)) (ht : 0 ≤ t ∧ t ≤ 4294967295) (hp : 0 ≤ p ∧ p ≤ 18446744073709551615) (hn : 0 ≤ n ∧ n ≤ 18446744073709551615) (w : World) :
    Calls Try.prog 46 #[.agg (bareC k t p n)] w fun e w' => ∃ u, e = .returned (.tuple #[u, .int .u16 0]) ∧ w'.ownsRow w.heap.size 5 1 u 27 ((bareB k t p n).map (.int .u8)) ∧ Below w.heap.size w w' := by
  have d3 : (k == 8) = false := by simp; omega
  have wk := u64_wrap (x := k) (by omega) (by omega)
  have wt := u64_wrap (x := t) (by omega) (by omega)
  have hk' : k = 1 ∨ (4 ≤ k ∧ k ≤ 8) := by omega
  have hkb : 0 ≤ k ∧ k ≤ 18446744073709551615 := by omega
  have htb : 0 ≤ t ∧ t ≤ 18446744073709551615 := by omega
  have MB := fun W => Lib.hid (may_bare k t p n hk W)
  have CH := fun W => Lib.hid (changes_no k hk' W)
  have N1 := fun W g v xs (h : Wr W g v xs) (hl : xs.length ≤ 100000) => Lib.hid (number_any W g v xs h hl k 1 hkb.1 hkb.2 (by decide) (by decide))
  have N2 := fun W g v xs (h : Wr W g v xs) (hl : xs.length ≤ 100000) => Lib.hid (number_any W g v xs h hl t 4 htb.1 htb.2 (by decide) (by decide))
  have N3 := fun W g v xs (h : Wr W g v xs) (hl : xs.length ≤ 100000) => Lib.hid (number_any W g v xs h hl p 8 hp.1 hp.2 (by decide) (by decide))
  have N4 := fun W g v xs (h : Wr W g v xs) (hl : xs.length ≤ 100000) => Lib.hid (number_any W g v xs h hl n 8 hn.1 hn.2 (by decide) (by decide))
  obtain ⟨C, hC⟩ : ∃ C, C = tn (sumF 0#32 (bodyB k t p n)) := ⟨_, rfl⟩
  have hCb := tn_bd (sumF 0#32 (bodyB k t p n))
  rw [← hC] at hCb
  have wC := u64_wrap (x := C) (by omega) (by omega)
  have PA := fun W => Lib.hid (by have h := put_any 27 2 (by decide) (by decide) (by decide) (by decide) W; rw [show (2 : Int).toNat = 2 from rfl] at h; exact h)
  have PB := fun W => Lib.hid (by have h := put_any C 4 (by omega) (by omega) (by decide) (by decide) W; rw [show (4 : Int).toNat = 4 from rfl] at h; exact h)
  have SU : ∀ (W : World) v (h : IR W W.heap.size .u8 v (bodyB k t p n)), Calls Try.prog 71 #[.slice (some ⟨W.heap.size, 0, none⟩) 1 1] (W.alloc (.cells #[v] 48)) fun e w' => e = .returned (.int .u32 C) ∧ W.alloc (.cells #[v] 48) = w' := fun W v h => by rw [hC]; exact sum_one v _ W h (bodyB_bytes k t p n)
  have CO : ∀ (W : World) a b c (ha : IR W W.heap.size .u8 a (putS 27 2)) (hb : IR W W.heap.size .u8 b (putS C 4)) (hc : IR W W.heap.size .u8 c (bodyB k t p n)),
      Calls Try.prog 72 #[.slice (some ⟨W.heap.size, 0, none⟩) 3 3] (W.alloc (.cells #[a, b, c] 129)) fun e w' => ∃ u, e = .returned u ∧ w'.ownsRow (W.heap.size + 1) 5 1 u 27 ((bareB k t p n).map (.int .u8)) ∧ Below W.heap.size W w' := fun W a b c ha hb hc => by
    have hf : flat [(a, putS 27 2), (b, putS C 4), (c, bodyB k t p n)] = bareB k t p n := by simp [flat, bareB, hC]
    have h := concat_any _ _ _ _ (SR.lit W [(a, putS 27 2), (b, putS C 4), (c, bodyB k t p n)] 129 W.heap.size W.heap.size rfl (Nat.le_refl _) (by simp) (by
      intro q hq
      simp only [List.mem_cons, List.not_mem_nil, or_false] at hq
      rcases hq with rfl | rfl | rfl
      · exact ⟨ha, putS_bytes _ _⟩
      · exact ⟨hb, putS_bytes _ _⟩
      · exact ⟨hc, bodyB_bytes _ _ _ _⟩)) (by simp) (by rw [hf, bareB_len]; decide) (by rw [hf, bareB_len]; decide)
    rw [hf, bareB_len] at h
    refine h.mono ?_
    rintro e w' ⟨u, rfl, h1, h2⟩
    refine ⟨u, rfl, by simpa using h1, (new_ (Below.refl W.heap.size W) _).trans (h2.mono (by simp))⟩
  have CO := Lib.hid CO
  have SU := Lib.hid SU
  clear hC hk hk' hkb htb ht hp hn hCb
  have bx := Box.new w (bareC k t p n) 54
  have BX := Lib.hid bx
  clear bx
  go_enter Try.func46, Try.ntmps46
  go_wp2_with (first
    | (go_at_call 65; (with_reducible refine (MB _).out.mono ?_); rintro e w1 ⟨rfl, hb1⟩
       have B1 := Lib.hid ((BX.out.later hb1).alloc (.cells #[.slice none 0 0] 129))
       have HB1 := Lib.hid (new_ (step_ (new_ (Below.refl w.heap.size w) (.cells (bareC k t p n) 54)) hb1) (.cells #[.slice none 0 0] 129))
       have W1 : Wr (w1.alloc (.cells #[.slice none 0 0] 129)) w1.heap.size (.slice none 0 0) [] := ⟨Box.new _ _ _, World.ownsRow_nil _ _ _ _, by simp⟩
       have L1 : w.heap.size < w1.heap.size := (BX.out.later hb1).lt
       have x1 : (w1.alloc (.cells #[.slice none 0 0] 129)).cell? ⟨w.heap.size, 0, none⟩ = some (.int .u8 k) := B1.out.cell 0
       clear hb1)
    | (go_at_call 66; (with_reducible refine (N1 _ _ _ _ W1 (by simp [putS_len])).out.mono ?_); rintro e w2 ⟨rfl, v2, wr2, hb2⟩
       have B2 := Lib.hid (B1.out.below hb2 L1)
       have HB2 := Lib.hid (HB1.out.trans (hb2.mono (Nat.le_of_lt L1)))
       have W2 := wr2
       have x2 : w2.cell? ⟨w.heap.size, 1, none⟩ = some (.int .u32 t) := B2.out.cell 1
       clear wr2 hb2)
    | (go_at_call 66; (with_reducible refine (N2 _ _ _ _ W2 (by simp [putS_len])).out.mono ?_); rintro e w3 ⟨rfl, v3, wr3, hb3⟩
       have B3 := Lib.hid (B2.out.below hb3 L1)
       have HB3 := Lib.hid (HB2.out.trans (hb3.mono (Nat.le_of_lt L1)))
       have W3 := wr3
       have x3 : w3.cell? ⟨w.heap.size, 2, none⟩ = some (.int .u64 p) := B3.out.cell 2
       clear wr3 hb3)
    | (go_at_call 66; (with_reducible refine (N3 _ _ _ _ W3 (by simp [putS_len])).out.mono ?_); rintro e w4 ⟨rfl, v4, wr4, hb4⟩
       have B4 := Lib.hid (B3.out.below hb4 L1)
       have HB4 := Lib.hid (HB3.out.trans (hb4.mono (Nat.le_of_lt L1)))
       have W4 := wr4
       have x4 : w4.cell? ⟨w.heap.size, 3, none⟩ = some (.int .u64 n) := B4.out.cell 3
       clear wr4 hb4)
    | (go_at_call 66; (with_reducible refine (N4 _ _ _ _ W4 (by simp [putS_len])).out.mono ?_); rintro e w5 ⟨rfl, v5, wr5, hb5⟩
       have B5 := Lib.hid (B4.out.below hb5 L1)
       have HB5 := Lib.hid (HB4.out.trans (hb5.mono (Nat.le_of_lt L1)))
       have W5 := wr5
       have x5 : w5.cell? ⟨w.heap.size, 0, none⟩ = some (.int .u8 k) := B5.out.cell 0
       have W6 : Wr w5 w1.heap.size v5 (bodyB k t p n) := W5
       obtain ⟨A5, c5, rfl, hl5, hm5⟩ := W6.ir.form
       rw [bodyB_len] at hl5
       have hm5' : c5 ≤ 9223372036854775807 := by unfold maxLen at hm5; omega
       have z5 : w5.cell? ⟨w1.heap.size, 0, none⟩ = some (.slice A5 21 c5) := by have := W6.box.cell 0; rw [bodyB_len] at this; exact this
       clear wr5 hb5)
    | (go_at_call 67; (with_reducible refine (CH _).out.mono ?_); rintro e w6 ⟨rfl, rfl⟩)
    | (go_at_call 70; (with_reducible refine (PA _).out.mono ?_); rintro e w7 ⟨v7, rfl, hp7, hb7⟩
       obtain ⟨A7, c7, rfl, hl7, hm7⟩ := (IR.of_own hp7).form
       rw [putS_len] at hl7
       have O7 := Lib.hid hp7
       have B7 := Lib.hid (B5.out.later hb7)
       have W7 : Wr w7 w1.heap.size (.slice A5 21 c5) (bodyB k t p n) := by have := W6.later hb7; rwa [bodyB_len] at this
       have HB7 := Lib.hid (step_ HB5.out hb7)
       have z7 : w7.cell? ⟨w1.heap.size, 0, none⟩ = some (.slice A5 21 c5) := W7.box.cell 0
       have S7 := Lib.hid (SU.out w7 (.slice A5 21 c5) W7.ir)
       clear hp7 hb7)
    | (go_at_call 71; (with_reducible refine S7.out.mono ?_); rintro e w8 ⟨rfl, rfl⟩)
    | (go_at_call 70; (with_reducible refine (PB _).out.mono ?_); rintro e w9 ⟨v9, rfl, hp9, hb9⟩
       obtain ⟨A9, c9, rfl, hl9, hm9⟩ := (IR.of_own hp9).form
       rw [putS_len] at hl9
       have hb9' : Below w7.heap.size w7 w9 := (new_ (Below.refl w7.heap.size w7) (.cells #[.slice A5 21 c5] 48)).trans (hb9.mono (by simp))
       have W9 : Wr w9 w1.heap.size (.slice A5 21 c5) (bodyB k t p n) := W7.later hb9'
       have O9 := Lib.hid (own_below O7.out hb9')
       have HB9 := Lib.hid (step_ HB7.out hb9')
       have z9 : w9.cell? ⟨w1.heap.size, 0, none⟩ = some (.slice A5 21 c5) := W9.box.cell 0
       have CC := Lib.hid (CO.out w9 _ _ _ (IR.of_own O9.out) (IR.of_own hp9) W9.ir)
       clear hp9 hb9 hb9')
    | (go_at_call 72; (with_reducible refine CC.out.mono ?_); rintro e w10 ⟨u, rfl, hu, hb10⟩; have HU := Lib.hid hu; have HB10 := Lib.hid hb10; clear hu hb10))
  go_ret2
  exact ⟨_, rfl, own_lower HU.out (Nat.le_succ_of_le HB9.out.size), step_ HB9.out HB10.out⟩
end Go.Proofs.Yteggcehjpfmikaa.Rec
namespace Go.Proofs.Yteggcehjpfmikaa.Rec
open Go.ChangeShapes Go.WideShapes Go.ChangeAt Go.RowKit Go.IntWalk Go.Proofs.NumMath Go.Proofs.Mem Go.Proofs.CrcMath NumBytes CrcA
set_option linter.unusedVariables false
set_option linter.unusedSimpArgs false
theorem ir_drop {w : World} {B : Nat} {k : IntKind} {A : Option Addr} {n c m : Nat} {xs : List Int} (h : IR w B k (.slice A n c) xs) (hm : m ≤ n) (A' : Option Addr) (hA : A' = if c = m then A else A.map (·.add m)) :
    IR w B k (.slice A' (n - m) (c - m)) (xs.drop m) := by
  obtain ⟨A0, c0, e, h2, h3, h4, h5⟩ := h
  injection e with e1 e2 e3
  subst e1; subst e2; subst e3
  have hl : (xs.drop m).length = xs.length - m := List.length_drop
  refine ⟨A', c - m, by rw [hl], by omega, by omega, fun hh => ?_, fun i hi => ?_⟩
  · by_cases hc : c = m
    · omega
    · rw [hA, if_neg hc] at hh
      cases A with
      | none => have := h4 rfl; omega
      | some a => cases hh
  · obtain ⟨b, off, e, hb, hc⟩ := h5 (m + i) (by omega)
    subst e
    rw [if_neg (by omega)] at hA
    refine ⟨b, off + m, by rw [hA]; simp [Go.WideShapes.add_plain], hb, ?_⟩
    rw [show off + m + i = off + (m + i) by omega, hc]
    simp [List.getD]
structure Rd (w : World) (g B : Nat) (v : Value) (xs : List Int) : Prop where
  box : Box w g #[v] 151
  ir : IR w B .u8 v xs
  le : B ≤ g
theorem Rd.fr {w w' : World} {g B : Nat} {v : Value} {xs : List Int} {S : Nat → Prop} (h : Rd w g B v xs) (hf : Fr S w w') (hn : ¬ S g) (hS : ∀ k, S k → B ≤ k) : Rd w' g B v xs :=
  ⟨h.box.fr hf hn, h.ir.below (hf.to_below hS (Nat.le_trans h.le (Nat.le_of_lt h.box.lt))), h.le⟩
set_option maxHeartbeats 2000000 in
theorem take_any (w : World) (g B : Nat) (v : Value) (xs : List Int) (h : Rd w g B v xs) (n : Nat) (hn : n ≤ xs.length) :
    Calls Try.prog 92 #[.pointer (some ⟨g, 0, none⟩), .int .i64 n] w fun e w' => ∃ u, e = .returned u ∧ IR w' B .u8 u (xs.take n) ∧ (∃ v', Rd w' g B v' (xs.drop n)) ∧ Fr (fun x => x = g) w w' := by
  have R := Lib.hid h
  obtain ⟨A, c, rfl, hlc, hcm⟩ := h.ir.form
  have x0 := h.box.cell 0
  have y0 := h.box.frozen 0
  simp only [List.getElem?_toArray, List.getElem?_cons_zero] at x0
  unfold maxLen at hcm
  clear h
  have d1 : decide ((xs.length : Int) < (n : Int)) = false := by simp; omega
  go_enter Try.func92, Try.ntmps92
  go_wp2
  · subst h
    go_ret
    refine ⟨_, rfl, (R.out.ir.take hn).below ((Below.refl B w).setCell (p := ⟨g, 0, none⟩) R.out.le _), ⟨.slice A (xs.length - c) 0, R.out.box.set_ 0 _, ?_, R.out.le⟩, (Fr.refl (fun x => x = g) w).setCell (p := ⟨g, 0, none⟩) (.inl rfl) _⟩
    have := ir_drop R.out.ir hn A (by rw [if_pos rfl])
    rw [Nat.sub_self] at this
    exact this.below ((Below.refl B w).setCell (p := ⟨g, 0, none⟩) R.out.le _)
  · go_ret
    refine ⟨_, rfl, (R.out.ir.take hn).below ((Below.refl B w).setCell (p := ⟨g, 0, none⟩) R.out.le _), ⟨.slice (A.map fun x => x.add n) (xs.length - n) (c - n), R.out.box.set_ 0 _, ?_, R.out.le⟩, (Fr.refl (fun x => x = g) w).setCell (p := ⟨g, 0, none⟩) (.inl rfl) _⟩
    exact (ir_drop R.out.ir hn (A.map fun x => x.add n) (by rw [if_neg h])).below ((Below.refl B w).setCell (p := ⟨g, 0, none⟩) R.out.le _)
set_option maxHeartbeats 2000000 in
theorem rnumber_any (w : World) (g B : Nat) (v : Value) (xs : List Int) (h : Rd w g B v xs) (hx : Bytes xs) (n : Nat) (hn : n ≤ xs.length) :
    Calls Try.prog 88 #[.pointer (some ⟨g, 0, none⟩), .int .i64 n] w fun e w' => e = .returned (.int .u64 (getS (xs.take n))) ∧ (∃ v', Rd w' g B v' (xs.drop n)) ∧ Fr (fun x => x = g) w w' := by
  have TA := Lib.hid (take_any w g B v xs h n hn)
  have hxt : Bytes (xs.take n) := fun y hy => hx y (List.mem_of_mem_take hy)
  clear h
  go_enter Try.func88, Try.ntmps88
  go_wp2_with (first
    | (go_at_call 92; (with_reducible refine TA.out.mono ?_); rintro e w1 ⟨u, rfl, hu, ⟨v1, hr⟩, hf⟩; have HU := Lib.hid hu; have HR := Lib.hid hr; have HF := Lib.hid hf; clear hu hr hf)
    | (go_at_call 77; (with_reducible refine (get_any _ _ _ _ HU.out hxt).mono ?_); rintro e w2 ⟨rfl, rfl⟩))
  go_ret
  exact ⟨rfl, ⟨_, HR.out⟩, HF.out⟩
end Go.Proofs.Yteggcehjpfmikaa.Rec
namespace Go.Proofs.Yteggcehjpfmikaa.Rec
open Go.ChangeShapes Go.WideShapes Go.ChangeAt Go.RowKit Go.IntWalk Go.Proofs.NumMath Go.Proofs.Mem Go.Proofs.CrcMath NumBytes CrcA
set_option linter.unusedVariables false
set_option linter.unusedSimpArgs false
theorem mod_mul (n a b : Int) (ha : 0 < a) : n % (a * b) = n % a + n / a % b * a := by
  rw [Int.emod_def, Int.emod_def n a, Int.emod_def (n / a) b, Int.ediv_ediv_of_nonneg (Int.le_of_lt ha), Int.sub_mul, Int.mul_comm (n / a) a, Int.mul_assoc a b, Int.mul_comm (b * _) a]
  omega
theorem getTo_put (n : Int) (k : Nat) : ∀ j, j ≤ k → getTo (putS n k) j = n % 2 ^ (8 * j) := by
  intro j
  induction j with
  | zero => intro _; simp [getTo, Int.emod_one]
  | succ j ih =>
    intro hj
    have hg : (putS n k).getD j 0 = n / 2 ^ (8 * j) % 256 := by simp [putS, List.getD, show j < k by omega]
    show getTo (putS n k) j + (putS n k).getD j 0 * 2 ^ (8 * j) = _
    rw [ih (by omega), hg]
    have e : (2 : Int) ^ (8 * (j + 1)) = 2 ^ (8 * j) * 256 := by rw [show 8 * (j + 1) = 8 * j + 8 by omega, p2_add]; rfl
    rw [e, mod_mul _ _ _ (p2 _)]
theorem get_put (n : Int) (k : Nat) (hk : k ≤ 8) : getS (putS n k) = n % 2 ^ (8 * k) := by
  unfold getS
  rw [putS_len, Nat.min_eq_left hk, getTo_put n k k (Nat.le_refl _)]
theorem rnumber_put (w : World) (g B : Nat) (v : Value) (a : Int) (m : Nat) (M : Int) (hM : M = (m : Int)) (Y : List Int) (h : Rd w g B v (putS a m ++ Y)) (hY : Bytes Y) (hm : m ≤ 8) (h0 : 0 ≤ a) (h1 : a < 2 ^ (8 * m)) :
    Calls Try.prog 88 #[.pointer (some ⟨g, 0, none⟩), .int .i64 M] w fun e w' => e = .returned (.int .u64 a) ∧ (∃ v', Rd w' g B v' Y) ∧ Fr (fun x => x = g) w w' := by
  subst hM
  have := rnumber_any w g B v _ h ((putS_bytes a m).app hY) m (by rw [List.length_append, putS_len]; omega)
  rwa [List.take_left' (putS_len a m), List.drop_left' (putS_len a m), get_put a m hm, Int.emod_eq_of_lt h0 h1] at this
theorem Rd.set {w : World} {g B : Nat} {v : Value} {xs : List Int} (h : Rd w g B v xs) {p : Addr} (hp : g ≠ p.block) (hB : B ≤ p.block) (u : Value) : Rd (w.setCell p u) g B v xs :=
  ⟨h.box.far hp u, h.ir.below ((Below.refl B w).setCell hB _), h.le⟩
theorem Rd.alloc {w : World} {g B : Nat} {v : Value} {xs : List Int} (h : Rd w g B v xs) (o : Obj) : Rd (w.alloc o) g B v xs :=
  ⟨h.box.alloc o, h.ir.alloc (Nat.le_trans h.le (Nat.le_of_lt h.box.lt)) o, h.le⟩
theorem Rd.below {w w' : World} {g B : Nat} {v : Value} {xs : List Int} (h : Rd w g B v xs) (hb : Below w.heap.size w w') : Rd w' g B v xs :=
  ⟨h.box.later hb, h.ir.below (hb.mono (Nat.le_trans h.le (Nat.le_of_lt h.box.lt))), h.le⟩
set_option maxHeartbeats 2000000 in
theorem catch_none (r k : Nat) (w : World) :
    CallsD Try.prog 87 #[.pointer (some ⟨r, 0, none⟩), .pointer (some ⟨k, 0, none⟩)] .returning w fun en u' w' => en = .returned (.tuple #[]) ∧ u' = .returning ∧ w = w' := by
  refine callsD_of_wpS Try.func87 rfl fun c₀ cs hu => ?_
  simp only [Try.ntmps87, List.size_toArray, List.length_cons, List.length_nil, Nat.reduceAdd, Nat.reduceSub, Array.replicate_succ, Array.replicate_zero, List.push_toArray, List.append_toArray, List.nil_append, List.cons_append]
  apply wpS_seq
  apply wpS_region
  simp [wpOpsS, go_sem, recoverD, hu, Exit.thenS]
  refine wpS_of_wp ?_
  go_wp2
  cases c₀
  simp_all [bodyPostS, results, Try.results87]
end Go.Proofs.Yteggcehjpfmikaa.Rec
namespace Go.Proofs.Mem
open Go.RowKit Go.WideShapes Go.Shelf
set_option linter.unusedVariables false
theorem Sc.of_own {A B : World} {row : Option Nat} (hg : A.grownBy B row) (hr : ∀ r, row = some r → ∃ o : Obj, A.heap[r]? = some o ∧ o.isCells = false) : Sc A B := fun g C t f e => by
  refine (hg.block g (Array.getElem?_eq_some_iff.1 e).1 (fun h => ?_)).trans e
  obtain ⟨o, h1, h2⟩ := hr g h.symm
  rw [e] at h1
  injection h1 with h1
  subst h1
  cases h2
theorem ownFrom_scz {β : Type} {D : Nat} {I : β → World → Prop} (h : ∀ s A B, I s A → Sc A B → A.heap.size ≤ B.heap.size → I s B) : OwnFrom D I := fun s W W' row hs hg hr => h s W W' hs (Sc.of_own hg (fun r e => (hr r e).2)) hg.size
theorem ownFrom_fr {β : Type} {D : Nat} {S : Nat → Prop} {w0 : World} (hS : ∀ k, D ≤ k → S k) : OwnFrom D (fun (_ : β) W => Fr S w0 W) := fun s W W' row hs hg hr => hs.grown hg (fun g e => .inl (hS g (hr g e).1))
theorem frK_t {S : Nat → Prop} {A B C : World} (h : Fr S A B) (k : Fr S B C) : Fr S A C := h.trans k
theorem frK_b {S : Nat → Prop} {w : World} (hS : ∀ k, w.heap.size ≤ k → S k) (W : World) (l : Nat) (o o' : Obj) (hl : w.heap.size ≤ l) (_ : W.heap[l]? = some o) (_ : o.isCells = false) (_ : o.isWalk = false) : Fr S W (W.putObj l o') :=
  (Fr.refl S W).grown (grownBy_putObj' W l o') (fun g e => by injection e with e; subst e; exact .inl (hS _ hl))
theorem keeps_grown {W w' : World} {base n size : Nat} {e : TypeId} {v : Value} {xs : List Value} (hown : W.ownsRow base e size v n xs) (hg : W.grownBy w' v.ownBlock) : KeepsOthers W w' :=
  KeepsOthers.of_grownBy hg fun j o ej hj => by
    rcases hown.2 with ⟨rfl, _⟩ | ⟨g, cap, cur, rfl, _, hgb, _⟩
    · simp [Value.ownBlock] at ej
    · obtain rfl : g = j := by simpa [Value.ownBlock] using ej
      rw [hgb] at hj; cases hj; rfl
theorem sc_put {W : World} {D : Nat} {o : Obj} (o' : Obj) (h : W.heap[D]? = some o) (ho : o.isCells = false) : Sc W (W.putObj D o') :=
  Sc.of_own (grownBy_putObj' W D o') (fun r e => by injection e with e; subst e; exact ⟨o, h, ho⟩)
end Go.Proofs.Mem
