/- The law manciplelaw05.DiskLasts returns true whatever it is called with, and what it was called with reads as it did. No condition. -/
import Derived.Test.YtplombkpefacgaaLaw
import Derived.Test.YtplombkpefacgaaDlE
import Derived.Deep.RegionWith
import Derived.Outline
namespace Go.Proofs.Ytplombkpefacgaa.LDiskLasts
open Go.ChangeShapes Go.WideShapes Go.ChangeAt Go.RowKit Go.IntWalk Go.Proofs.Mem Law
set_option linter.unusedVariables false
open Go.Proofs.Ytplombkpefacgaa.Disk Go.Proofs.Each
set_option linter.unusedSimpArgs false
theorem int_info : (Try.prog.info? 3).map (fun i => (i.zero, i.size, i.bytes)) = some (some (.int .i64 0), 1, 8) := by kernel_rfl
/-- how many wait for the first n sectors -/
def wtl (D : Dv) (n : Nat) : List Int := (List.range n).map fun (k : Nat) => ((D.wts 0 (k : Int) : Nat) : Int)
theorem wtl_succ (D : Dv) (n : Nat) : wtl D (n + 1) = wtl D n ++ [((D.wts 0 (n : Int) : Nat) : Int)] := by unfold wtl; rw [List.range_succ, List.map_append]; rfl
theorem wtl_len (D : Dv) (n : Nat) : (wtl D n).length = n := by simp [wtl]
theorem wtl_at (D : Dv) (n k : Nat) (h : k < n) : (wtl D n).getD k 0 = ((D.wts 0 (k : Int) : Nat) : Int) := by
  unfold wtl
  rw [List.getD_eq_getElem?_getD, List.getElem?_map, List.getElem?_range h]; rfl
theorem wts_zero {D : Dv} (h : D.Few 0) (N : Int) : D.wts 0 N = 0 := by
  unfold Dv.wts
  split
  · rename_i hh
    have := h 0 (by decide) _ (has_at hh).2.choose_spec.2.2
    omega
  · rfl
theorem tk_or {K P : Nat → Prop} {w : World} {v : Value} {l : List Rw} (h : TK K w v l) : TK (fun x => K x ∨ P x) w v l := h.more (fun x hx => .inl hx)
theorem tab_form {K : Nat → Prop} {w : World} {v : Value} {l : List Rw} (h : TK K w v l) : ∃ A c, v = .slice A l.length c := by
  obtain ⟨_, _, t, _⟩ := h
  exact own_slice' t.outer
theorem map_same {α β γ : Type} {f : α → β × γ} {l : List α} : (l.map f).map (·.2) = l.map (fun p => (f p).2) := by rw [List.map_map]; rfl
set_option maxRecDepth 100000 in
set_option maxHeartbeats 16000000 in
theorem walk (w : World) (lg : Int) (hlg : -9223372036854775808 ≤ lg ∧ lg ≤ 9223372036854775807) (pg : Int) (hpg : -9223372036854775808 ≤ pg ∧ pg ≤ 9223372036854775807) (l : Value) (xl : List Disk.Oi) (hl : SS Disk.cOi 5 w w.heap.size l xl) (bl : ∀ o ∈ xl, Disk.OiAt w w.heap.size o) (fa : Value) (xfa : List Disk.Ft) (hfa : SS Disk.cFt 4 w w.heap.size fa xfa) (bfa : ∀ o ∈ xfa, Disk.Ft.Ok o) (fb : Value) (xfb : List Disk.Ft) (hfb : SS Disk.cFt 4 w w.heap.size fb xfb) (bfb : ∀ o ∈ xfb, Disk.Ft.Ok o) :
    Calls Try.prog 5 #[.int .i64 lg, .int .i64 pg, l, fa, fb] w fun e w' => e = .returned (.bool true) ∧ Below w.heap.size w w' := by
  obtain ⟨A, c, rfl, hlc, hcm⟩ := hl.form
  obtain ⟨Aa, ca, rfl, hac, ham⟩ := hfa.form
  obtain ⟨Ab, cb, rfl, hbc, hbm⟩ := hfb.form
  unfold maxLen at hcm ham hbm
  have HV0 := Lib.hid (heavy_any w lg pg A c xl hcm hlc hl (fun x hx => (bl x hx).ok))
  have HL := Lib.hid hl
  have BL := Lib.hid bl
  have HA := Lib.hid hfa
  have BA := Lib.hid bfa
  have HBF := Lib.hid hfb
  have BBF := Lib.hid bfb
  clear hl bl hfa bfa hfb bfb
  obtain ⟨q, hq⟩ : ∃ q, q = hvy lg pg xl := ⟨_, rfl⟩
  rw [← hq] at HV0
  have HQ := Lib.hid hq
  clear hq
  obtain ⟨La, hLa⟩ : ∃ L, L = xfa.length := ⟨_, rfl⟩
  obtain ⟨Lb, hLb⟩ : ∃ L, L = xfb.length := ⟨_, rfl⟩
  rw [← hLa] at HA hac ⊢
  rw [← hLb] at HBF hbc ⊢
  have HLa := Lib.hid hLa
  have HLb := Lib.hid hLb
  clear hLa hLb
  obtain ⟨qa, hqa⟩ : ∃ q, decide (60 < (La : Int)) = q := ⟨_, rfl⟩
  have hqa2 : decide (60 < La) = qa := by rw [← hqa]; exact decide_eq_decide.2 (by omega)
  obtain ⟨qb, hqb⟩ : ∃ q, decide (60 < (Lb : Int)) = q := ⟨_, rfl⟩
  have hqb2 : decide (60 < Lb) = qb := by rw [← hqb]; exact decide_eq_decide.2 (by omega)
  go_enter Try.func5, Try.ntmps5
  cases q
  case true =>
    go_wp2_with (first
      | (go_at_call 9; (with_reducible refine HV0.out.mono ?_); rintro e w1 ⟨rfl, rfl⟩)
      | (go_at_call 10; (with_reducible refine (known_any _).mono ?_); rintro e w3 ⟨rfl, hb3⟩; have HB3 := Lib.hid hb3; clear hb3)
      | fail)
    go_ret
    exact ⟨rfl, HB3.out⟩
  cases qa
  case true =>
    go_wp2_with (first
      | (go_at_call 9; (with_reducible refine HV0.out.mono ?_); rintro e w1 ⟨rfl, rfl⟩)
      | (go_at_call 10; (with_reducible refine (known_any _).mono ?_); rintro e w3 ⟨rfl, hb3⟩; have HB3 := Lib.hid hb3; clear hb3)
      | fail)
    go_ret
    exact ⟨rfl, HB3.out⟩
  cases qb
  case true =>
    go_wp2_with (first
      | (go_at_call 9; (with_reducible refine HV0.out.mono ?_); rintro e w1 ⟨rfl, rfl⟩)
      | (go_at_call 10; (with_reducible refine (known_any _).mono ?_); rintro e w3 ⟨rfl, hb3⟩; have HB3 := Lib.hid hb3; clear hb3)
      | fail)
    go_ret
    exact ⟨rfl, HB3.out⟩
  have ha60 : La ≤ 60 := by simpa using hqa2
  have hb60 : Lb ≤ 60 := by simpa using hqb2
  have HA60 := Lib.hid ha60
  have HB60 := Lib.hid hb60
  obtain ⟨l1, l2, l3, l4⟩ := hvy_all HQ.out.symm
  have HS := Lib.hid l4
  clear l4 hqa2 hqb2
  go_wp2_with (first
    | (go_at_call 9; (with_reducible refine HV0.out.mono ?_); rintro e w1 ⟨rfl, rfl⟩)
    | (go_at_call 10; (with_reducible refine (known_any _).mono ?_); rintro e w3 ⟨rfl, hb3⟩; have HB3 := Lib.hid hb3; clear hb3)
    | fail)
  by_cases hneg : lg < 0 ∨ pg < 0
  · (with_reducible refine (new_no w3 lg pg (by omega) hneg).mono ?_)
    rintro e w4 ⟨rfl, hb4⟩
    have HB4 := Lib.hid (step_ HB3.out hb4)
    clear hb4
    go_wp2_with fail
    (with_reducible refine (rnew_no w4 lg pg (by omega) hneg).mono ?_)
    rintro e w5 ⟨rfl, hb5⟩
    have HB5 := Lib.hid (step_ HB4.out hb5)
    clear hb5
    go_wp2
    go_ret
    exact ⟨rfl, HB5.out⟩
  · obtain ⟨N0, e0⟩ : ∃ N : Nat, lg = N := ⟨lg.toNat, by omega⟩
    obtain ⟨N1, e1⟩ : ∃ N : Nat, pg = N := ⟨pg.toNat, by omega⟩
    subst e0 e1
    have h40 : N0 ≤ 4096 := by omega
    have h41 : N1 ≤ 4096 := by omega
    (with_reducible refine (new_at N0 N1 w3 N0 N1 rfl rfl h40 h41).mono ?_)
    rintro e w4 ⟨rfl, o1⟩
    have O1 := Lib.hid o1
    have HB4 := Lib.hid (show Below w1.heap.size w1 w4 from by obtain ⟨_, _, _, _, _, h⟩ := o1; exact step_ HB3.out h)
    clear o1
    go_wp2_with fail
    (with_reducible refine (rnew_yes w4 N0 N1 h40 h41).mono ?_)
    rintro e w5 ⟨rfl, o2⟩
    have RS := Lib.hid (RelD.start O1.out o2 HB3.out.size)
    have HB5 := Lib.hid (show Below w1.heap.size w1 w5 from by obtain ⟨_, _, _, _, h⟩ := o2; exact step_ HB4.out h)
    clear o2
    obtain ⟨a, ea⟩ : ∃ a, a = w3.heap.size := ⟨_, rfl⟩
    obtain ⟨b, eb⟩ : ∃ b, b = w4.heap.size := ⟨_, rfl⟩
    rw [← ea, ← eb] at RS
    rw [← ea, ← eb]
    clear ea eb hneg h40 h41 hqa hqb
    go_wp2
    go_loopw [13] (fun i wr => ∃ j : Nat, i = .int .i64 j ∧ j ≤ xl.length ∧ Hid (RelD w1.heap.size wr a b j) ∧ Hid (Below w1.heap.size w1 wr)) (fun i _ => xl.length - (intOf i).toNat)
    case atStart => exact ⟨0, rfl, by omega, RS, HB5⟩
    case round =>
      obtain ⟨j, rfl, hj, HR, HBL⟩ := hrel
      by_cases hlt : j < xl.length
      · have HX := Lib.hid (BL.out xl[j] (List.getElem_mem hlt))
        have HXS := Lib.hid (HS.out xl[j] (List.getElem_mem hlt))
        obtain ⟨bo, off, rfl, hb, hcell⟩ := (HL.out.below HBL.out).at_ (List.getElem?_eq_getElem hlt)
        generalize xl[j] = x at *
        obtain ⟨o, xa, xb⟩ := x
        obtain ⟨A1, c1, ex1, _⟩ := HX.out.2.1.form
        obtain ⟨A2, c2, ex2, _⟩ := HX.out.2.2.form
        simp only at ex1 ex2
        subst ex1 ex2
        have HD := Lib.hid (HR.out.does (by omega) (Nat.le_refl _) HBL.out ⟨o, _, _⟩ A1 _ c1 A2 _ c2 rfl rfl HX.out HXS.out)
        obtain ⟨L1, hL1⟩ : ∃ L, L = o.xs.length := ⟨_, rfl⟩
        obtain ⟨L2, hL2⟩ : ∃ L, L = o.fs.length := ⟨_, rfl⟩
        simp only at HD
        rw [← hL1, ← hL2] at HD hcell
        clear hL1 hL2 HX HXS
        have y0 : wr.cell? ⟨bo, off + j * 5, none⟩ = some (.int .u8 o.k) := hcell 0 _ rfl
        have y1 : wr.cell? ⟨bo, off + j * 5 + 1, none⟩ = some (.int .u8 o.f) := hcell 1 _ rfl
        have y2 : wr.cell? ⟨bo, off + j * 5 + 2, none⟩ = some (.int .i64 o.s) := hcell 2 _ rfl
        have y3 : wr.cell? ⟨bo, off + j * 5 + 3, none⟩ = some (.slice A1 L1 c1) := hcell 3 _ rfl
        have y4 : wr.cell? ⟨bo, off + j * 5 + 4, none⟩ = some (.slice A2 L2 c2) := hcell 4 _ rfl
        clear hcell
        go_wp2_with fail
        (with_reducible refine (HD.out).mono ?_)
        rintro e w6 ⟨rfl, r6, b6⟩
        have HB6 := Lib.hid (HBL.out.trans b6)
        have R6 := Lib.hid r6
        clear b6 r6 y0 y1 y2 y3 y4
        go_wp2
        go_roundw
        case rel => exact ⟨j + 1, by go_num, by omega, R6, HB6⟩
        case measure => simp [intOf]; omega
      · have hj60 : j ≤ 60 := by omega
        obtain ⟨D0, E0, hp, he, hf⟩ := HR.out
        have CR := Lib.hid (qa_crash hp (.slice none 0 0) [] (fun w' _ _ => SS.nil _ _) (fun x hx => by cases hx) (by decide) (hf.more (by omega)))
        have FE0 := Lib.hid ((he.few hf).more hj60)
        clear hp he hf
        go_wp2_with fail
        (with_reducible refine (CR.out).mono ?_)
        rintro e w6 ⟨rfl, p6, b6, _⟩
        have RM := Lib.hid (show RelM w1.heap.size w6 a b 60 from ⟨_, E0, p6, rfl, (crash_few D0 []).more (by decide), FE0.out⟩)
        have HB6 := Lib.hid (HBL.out.trans b6)
        clear p6 b6 HR RS
        go_wp2
        go_loopw [14] (fun i wr => ∃ j : Nat, i = .int .i64 j ∧ j ≤ xl.length ∧ Hid (RelM w1.heap.size wr a b (60 + j)) ∧ Hid (Below w1.heap.size w1 wr)) (fun i _ => xl.length - (intOf i).toNat)
        case atStart => exact ⟨0, rfl, by omega, RM, HB6⟩
        case round =>
          clear HBL
          obtain ⟨j, rfl, hj, HR, HBL⟩ := hrel
          by_cases hlt : j < xl.length ∧ j < 20
          · obtain ⟨hlt, h20⟩ := hlt
            have HX := Lib.hid (BL.out xl[j] (List.getElem_mem hlt))
            have HXS := Lib.hid (HS.out xl[j] (List.getElem_mem hlt))
            obtain ⟨bo, off, rfl, hb, hcell⟩ := (HL.out.below HBL.out).at_ (List.getElem?_eq_getElem hlt)
            generalize xl[j] = x at *
            obtain ⟨o, xa, xb⟩ := x
            obtain ⟨A1, c1, ex1, _⟩ := HX.out.2.1.form
            obtain ⟨A2, c2, ex2, _⟩ := HX.out.2.2.form
            simp only at ex1 ex2
            subst ex1 ex2
            have HD := Lib.hid (fun hk => HR.out.does (by omega) HBL.out ⟨o, _, _⟩ A1 _ c1 A2 _ c2 rfl rfl HX.out HXS.out hk)
            obtain ⟨L1, hL1⟩ : ∃ L, L = o.xs.length := ⟨_, rfl⟩
            obtain ⟨L2, hL2⟩ : ∃ L, L = o.fs.length := ⟨_, rfl⟩
            simp only at HD
            rw [← hL1, ← hL2] at HD hcell
            have hm9 : o.k.tmod 9 = o.k % 9 := Int.tmod_eq_emod_of_nonneg HX.out.1.1.1
            have hmr : 0 ≤ o.k % 9 ∧ o.k % 9 < 9 := by omega
            have HKK := Lib.hid (HR.out)
            clear hL1 hL2 HX HXS
            have y0 : wr.cell? ⟨bo, off + j * 5, none⟩ = some (.int .u8 o.k) := hcell 0 _ rfl
            have y1 : wr.cell? ⟨bo, off + j * 5 + 1, none⟩ = some (.int .u8 o.f) := hcell 1 _ rfl
            have y2 : wr.cell? ⟨bo, off + j * 5 + 2, none⟩ = some (.int .i64 o.s) := hcell 2 _ rfl
            have y3 : wr.cell? ⟨bo, off + j * 5 + 3, none⟩ = some (.slice A1 L1 c1) := hcell 3 _ rfl
            have y4 : wr.cell? ⟨bo, off + j * 5 + 4, none⟩ = some (.slice A2 L2 c2) := hcell 4 _ rfl
            clear hcell
            have hji : (j : Int) < xl.length := by omega
            have h20i : (j : Int) < 20 := by omega
            have dj : decide ((j : Int) < (xl.length : Int)) = true := by simp; omega
            have d20 : decide ((j : Int) < 20) = true := by simp; omega
            by_cases hk : o.k % 9 = 8
            · rw [hk] at hm9
              have R9 := Lib.hid (show RelM w1.heap.size wr a b (60 + (j + 1)) by
                obtain ⟨D, E, p, q1, q2, q3⟩ := HKK.out
                exact ⟨D, E, p, q1, q2.more (by omega), q3.more (by omega)⟩)
              clear HD hk hmr
              go_wp2
              go_roundw
              case rel => exact ⟨j + 1, by go_num, by omega, R9, HBL⟩
              case measure => simp [intOf]; omega
            · have HD2 := Lib.hid (HD.out hk)
              obtain ⟨m, hm⟩ : ∃ m, m = o.k % 9 := ⟨_, rfl⟩
              rw [← hm] at hm9 hmr hk
              have b8 : (m != 8) = true := by simpa using hk
              clear HD hm
              go_wp2_with fail
              (with_reducible refine (HD2.out).mono ?_)
              rintro e w6' ⟨⟨qq, rfl⟩, r6, b6⟩
              have HB7 := Lib.hid (HBL.out.trans b6)
              have R7 := Lib.hid (show RelM w1.heap.size w6' a b (60 + (j + 1)) from r6)
              clear b6 r6 y0 y1 y2 y3 y4
              go_wp2
              go_roundw
              case rel => exact ⟨j + 1, by go_num, by omega, R7, HB7⟩
              case measure => simp [intOf]; omega
          · obtain ⟨D, E, hp, hlim, hf, hg⟩ := HR.out
            have HP := Lib.hid hp
            have HLIM := Lib.hid hlim
            have HF := Lib.hid (hf.more (show 60 + j ≤ 100000 by omega))
            have IM0 := Lib.hid (qa_image hp 0 0 rfl (by decide))
            clear hp hlim hf hg HR
            go_upto_region 13 with fail
            go_cut [74] (fun v wx => v = .bool false ∧ wr = wx)
            case first =>
              by_cases h1 : j < xl.length
              · have h1i : (j : Int) < xl.length := by omega
                have h20 : ¬ j < 20 := fun h => hlt ⟨h1, h⟩
                have h20i : ¬ (j : Int) < 20 := by omega
                have dj : decide ((j : Int) < (xl.length : Int)) = true := by simp; omega
                have d20 : decide ((j : Int) < 20) = false := by simp; omega
                clear hlt
                go_wp2
                go_meet
                exact ⟨rfl, rfl⟩
              · have h1i : ¬ (j : Int) < xl.length := by omega
                have dj : decide ((j : Int) < (xl.length : Int)) = false := by simp; omega
                clear hlt
                go_wp2
                go_meet
                exact ⟨rfl, rfl⟩
            case rest =>
              obtain ⟨rfl, rfl⟩ := hcut
              obtain ⟨ii, hi1, hy0, hy1, hy2⟩ := info_parts int_info
              obtain ⟨K0, hK0⟩ : ∃ K0 : Nat → Prop, K0 = none_ := ⟨_, rfl⟩
              go_wp2_with fail
              (with_reducible refine IM0.out.mono ?_)
              rintro e w7 ⟨v0, l0, rfl, p7, t0, m0, y0, b7⟩
              have P7 := Lib.hid p7
              have T0 := Lib.hid t0
              have M0 := Lib.hid m0
              have Y0 := Lib.hid y0
              have HB7 := Lib.hid (step_ HBL.out b7)
              clear p7 t0 m0 y0 b7
              go_wp2_with fail
              (with_reducible refine (qa_sync P7.out 1 1 rfl (by decide) HF.out).mono ?_)
              rintro e w8 ⟨rfl, p8, b8, f8⟩
              obtain ⟨D4, hD4⟩ : ∃ D4, D4 = D.synA 1 := ⟨_, rfl⟩
              rw [← hD4] at p8
              have S4 := Lib.hid (show D4.f 0 = D.f 0 ∧ ∀ s ∈ D4.f 1, s.wait.length = 0 by rw [hD4]; exact lst_sync HLIM.out)
              have F4 := Lib.hid (show D4.Few 100000 by rw [hD4]; exact synA_few' HF.out 1)
              have P8 := Lib.hid p8
              have T08 := Lib.hid (T0.out.fr f8)
              have HB8 := Lib.hid (HB7.out.trans b8)
              clear p8 b8 f8 hD4
              go_wp2_with fail
              (with_reducible refine (qa_image P8.out 1 1 rfl (by decide)).mono ?_)
              rintro e w9 ⟨v1, l1, rfl, p9, t1, m1, y1, b9⟩
              have P9 := Lib.hid p9
              have T09 := Lib.hid (tk_or (P := fun x => w8.heap.size ≤ x ∧ x < w9.heap.size) (T08.out.later b9))
              have T19 := Lib.hid t1
              have M1 := Lib.hid m1
              have Y1 := Lib.hid y1
              have HB9 := Lib.hid (step_ HB8.out b9)
              clear p9 t1 m1 y1 b9
              obtain ⟨Z, hZ⟩ : ∃ Z, Z = D4.siz 0 := ⟨_, rfl⟩
              have hz4 : Z ≤ 4096 := by
                rw [hZ]
                obtain ⟨S, c0, f0, u0, hd⟩ := P9.out.one
                unfold Dv.siz
                rw [if_pos (by decide)]
                exact hd.most 0 (by decide)
              have HZ := Lib.hid hZ
              clear hZ
              go_wp2
              go_loopw [17, 18] (fun o x wr => ∃ k : Nat, k ≤ Z ∧ x = .int .i64 k ∧ Hid (wr.ownsRow w9.heap.size 3 1 o k ((wtl D4 k).map (.int .i64))) ∧ Hid (Below w9.heap.size w9 wr)) (fun _ x _ => Z - (intOf x).toNat)
              case atStart => exact ⟨0, Nat.zero_le _, rfl, Lib.hid (World.ownsRow_nil _ _ _ _), Lib.hid (Below.refl _ _)⟩
              case round =>
                obtain ⟨k, hk, rfl, HO, HBW⟩ := hrel
                have SZ := Lib.hid (by
                  obtain ⟨S, c0, f0, u0, hd⟩ := (P9.out.later HBW.out).one
                  exact siz_any hd 0 0 rfl (by decide) : Calls Try.prog 22 #[.pointer (some ⟨a, 0, none⟩), .int .u8 0] wr fun e w' => e = .returned (.int .i64 (D4.siz 0)) ∧ wr = w')
                rw [← HZ.out] at SZ
                by_cases hkz : k < Z
                · have dk : decide ((k : Int) < (Z : Int)) = true := by simp; omega
                  have WT := Lib.hid (by
                    obtain ⟨S, c0, f0, u0, hd⟩ := (P9.out.later HBW.out).one
                    exact waits_any hd 0 k 0 rfl (by decide) : Calls Try.prog 23 #[.pointer (some ⟨a, 0, none⟩), .int .u8 0, .int .i64 (k : Int)] wr fun e w' => e = .returned (.int .i64 (D4.wts 0 (k : Int) : Nat)) ∧ wr = w')
                  obtain ⟨q9, hq9⟩ : ∃ q9 : Int, q9 = ((D4.wts 0 (k : Int) : Nat) : Int) := ⟨_, rfl⟩
                  rw [← hq9] at WT
                  have HWS := Lib.hid (show wtl D4 (k + 1) = wtl D4 k ++ [q9] by rw [hq9]; exact wtl_succ D4 k)
                  have HKZ := Lib.hid hkz
                  clear hq9 hkz
                  go_wp2_with fail
                  (with_reducible refine SZ.out.mono ?_)
                  rintro e w' ⟨rfl, rfl⟩
                  go_wp2_with fail
                  (with_reducible refine WT.out.mono ?_)
                  rintro e w' ⟨rfl, rfl⟩
                  go_wp2_with (at_builtin; refine wpList_push _ rfl _ _ _ rfl w9.heap.size 3 ii .i64 8 Try.underlying44 hi1 hy0 hy1 hy2 _ k (wtl D4 k) rfl (HO.out.alloc _) wr.heap.size q9 rfl (cell_new _ _ _ 0) (by simp only [maxLen]; omega) (by omega) (by have := HBW.out.size; simp; omega) ?_; intro v5 w5' hown5 hb5)
                  have HO5 := Lib.hid (show w5'.ownsRow w9.heap.size 3 1 v5 (k + 1) ((wtl D4 (k + 1)).map (.int .i64)) by rw [HWS.out]; exact hown5)
                  have HB5' := Lib.hid (show Below w9.heap.size w9 w5' from (HBW.out.trans ((new_ (Below.refl _ _) _).mono HBW.out.size)).trans hb5)
                  clear hown5 hb5
                  go_wp2
                  go_roundw
                  case rel => exact ⟨k + 1, HKZ.out, by go_num, HO5, HB5'⟩
                  case measure => have := HKZ.out; simp [intOf]; omega
                · have ek : k = Z := by omega
                  have dk : decide ((k : Int) < (Z : Int)) = false := by simp; omega
                  subst ek
                  go_wp2_with fail
                  (with_reducible refine SZ.out.mono ?_)
                  rintro e w' ⟨rfl, rfl⟩
                  have PA := Lib.hid (P9.out.range HBW.out)
                  have T0A := Lib.hid (tk_or (P := fun x => w9.heap.size ≤ x ∧ x < wr.heap.size) (T09.out.later HBW.out))
                  have T1A := Lib.hid (tk_or (P := fun x => w9.heap.size ≤ x ∧ x < wr.heap.size) (T19.out.later HBW.out))
                  have HBA := Lib.hid (step_ HB9.out HBW.out)
                  obtain ⟨wa, rfl⟩ : ∃ wa, wa = wr := ⟨wr, rfl⟩
                  have OA := Lib.hid (HO.out)
                  obtain ⟨Aw, cw, ew⟩ := own_slice' OA.out
                  subst ew
                  have CA := Lib.hid (qa_crash PA.out (.slice Aa La ca) xfa (fun w' hb _ => (HA.out.below (HBA.out.trans hb)).more (Nat.le_trans PA.out.base hb.size)) BA.out (by rw [← HLa.out]; have := HA60.out; omega) F4.out)
                  clear HO HBW SZ
                  go_wp2_with fail
                  (with_reducible refine (CA.out).mono ?_)
                  rintro e wb ⟨rfl, pb, bb, fb'⟩
                  obtain ⟨D5, hD5⟩ : ∃ D5, D5 = D4.crash xfa := ⟨_, rfl⟩
                  rw [← hD5] at pb
                  have HD5 := Lib.hid hD5
                  have F5 := Lib.hid (show D5.Few 0 by rw [hD5]; exact crash_few D4 xfa)
                  have PB := Lib.hid pb
                  have T0B := Lib.hid (T0A.out.fr fb')
                  have T1B := Lib.hid (T1A.out.fr fb')
                  have OB := Lib.hid (Disk.own_frS OA.out fb' (fun g hg hn => hn (.inr ⟨(OA.out.lt g hg).1, (OA.out.lt g hg).2⟩)))
                  have HBB := Lib.hid (HBA.out.trans bb)
                  clear pb bb fb' hD5
                  go_wp2_with fail
                  (with_reducible refine (qa_image PB.out 0 0 rfl (by decide)).mono ?_)
                  rintro e wd ⟨v2, l2, rfl, pd, t2, m2, y2, bd⟩
                  have PD := Lib.hid pd
                  have T0D := Lib.hid (tk_or (P := fun x => wb.heap.size ≤ x ∧ x < wd.heap.size) (T0B.out.later bd))
                  have T1D := Lib.hid (tk_or (P := fun x => wb.heap.size ≤ x ∧ x < wd.heap.size) (T1B.out.later bd))
                  have OD := Lib.hid (own_below OB.out bd)
                  have T2D := Lib.hid t2
                  have M2 := Lib.hid m2
                  have Y2 := Lib.hid y2
                  have HBD := Lib.hid (step_ HBB.out bd)
                  clear pd t2 m2 y2 bd
                  go_wp2_with fail
                  (with_reducible refine (qa_image PD.out 1 1 rfl (by decide)).mono ?_)
                  rintro e we ⟨v3, l3, rfl, pe, t3, m3, y3, be⟩
                  have PE := Lib.hid pe
                  have T0E := Lib.hid (tk_or (P := fun x => wd.heap.size ≤ x ∧ x < we.heap.size) (T0D.out.later be))
                  have T1E := Lib.hid (tk_or (P := fun x => wd.heap.size ≤ x ∧ x < we.heap.size) (T1D.out.later be))
                  have T2E := Lib.hid (tk_or (P := fun x => wd.heap.size ≤ x ∧ x < we.heap.size) (T2D.out.later be))
                  have OE := Lib.hid (own_below OD.out be)
                  have HBE := Lib.hid (step_ HBD.out be)
                  have EQ31 := Lib.hid (show (l3.map (·.2)).map (·.2) = (l1.map (·.2)).map (·.2) from by
                    rw [map_same, map_same, m3, M1.out, HD5.out]
                    exact crash_lasts D4 xfa 1 (by decide) S4.out.2)
                  have LEN := Lib.hid (show l2.length = l0.length from by
                    have h1 := congrArg List.length M2.out
                    have h2 := congrArg List.length M0.out
                    rw [List.length_map, List.length_map] at h1 h2
                    rw [h1, h2, HD5.out, crash_len, S4.out.1])
                  have LZ := Lib.hid (show l2.length = k from by
                    have h1 := congrArg List.length M2.out
                    rw [List.length_map, List.length_map] at h1
                    rw [h1, HD5.out, crash_len, HZ.out]; rfl)
                  obtain ⟨tp3, s3⟩ := t3.sr y3
                  obtain ⟨tp1, s1⟩ := T1E.out.sr Y1.out
                  have SB31 := Lib.hid (Blk.same_blocks _ _ _ _ _ _ _ s3 s1)
                  rw [decide_eq_true EQ31.out] at SB31
                  obtain ⟨A0, c0, e0⟩ := tab_form T0E.out
                  obtain ⟨A2', c2', e2⟩ := tab_form T2E.out
                  rw [LZ.out] at e2
                  rw [← LEN.out, LZ.out] at e0
                  subst e0 e2
                  clear pe t3 m3 y3 be s3 s1
                  go_wp2_with fail
                  (with_reducible refine SB31.out.mono ?_)
                  rintro e wf ⟨rfl, dd, rfl⟩
                  clear T0B T0D T1B T1D T2D OB OD SB31
                  go_wp2
                  go_loopw [20] (fun x wz => ∃ m d : Nat, m ≤ k ∧ x = .int .i64 m ∧ wz = we.drewN d) (fun x _ => k - (intOf x).toNat)
                  case atStart => exact ⟨0, dd, Nat.zero_le _, rfl, rfl⟩
                  case round =>
                    obtain ⟨m, d, hm, rfl, rfl⟩ := hrel
                    by_cases hmk : m < k
                    · have dm : decide ((m : Int) < (k : Int)) = true := by simp; omega
                      have dmn : decide (m < k) = true := by simp; omega
                      have hmi : (m : Int) < k := by omega
                      have iw : IR we we.heap.size .i64 (.slice Aw k cw) (wtl D4 k) := by
                        have h9 := OE.out
                        have h8 : we.ownsRow w9.heap.size 3 1 (.slice Aw k cw) (wtl D4 k).length ((wtl D4 k).map (.int .i64)) := by rw [wtl_len]; exact h9
                        exact IR.of_own h8
                      obtain ⟨b3, of3, rfl, _, q3⟩ := iw.index m hmk
                      rw [wtl_at D4 k m hmk] at q3
                      obtain ⟨tp2, s2⟩ := T2E.out.sr Y2.out
                      obtain ⟨b4, of4, u4, x4, rfl, _, g4, e4, r4, z4⟩ := s2.index m (by rw [List.length_map, LZ.out]; exact hmk)
                      obtain ⟨tp0, s0⟩ := T0E.out.sr Y0.out
                      obtain ⟨b5, of5, u5, x5, rfl, _, g5, e5, r5, z5⟩ := s0.index m (by rw [List.length_map, ← LEN.out, LZ.out]; exact hmk)
                      obtain ⟨B4, L4, c4, rfl⟩ : ∃ A l c, u4 = .slice A l c := by obtain ⟨A, c, e, _⟩ := r4.form; exact ⟨A, _, c, e⟩
                      obtain ⟨B5, L5, c5, rfl⟩ : ∃ A l c, u5 = .slice A l c := by obtain ⟨A, c, e, _⟩ := r5.form; exact ⟨A, _, c, e⟩
                      have WT5 := Lib.hid (fun d' : Nat => (by
                        obtain ⟨S, c0, f0, u0, hd⟩ := (PE.out.later (below_drewN (Below.refl _ _) d')).one
                        have h9 := waits_any hd 0 m 0 rfl (by decide)
                        rw [wts_zero F5.out] at h9
                        exact h9 : Calls Try.prog 23 #[.pointer (some ⟨a, 0, none⟩), .int .u8 0, .int .i64 (m : Int)] (we.drewN d') fun e w' => e = .returned (.int .i64 0) ∧ we.drewN d' = w'))
                      have SM := Lib.hid (fun d' : Nat => Blk.same_any _ _ x4 x5 (we.drewN d') _ _ (r4.below (below_drewN (Below.refl _ _) d')) (r5.below (below_drewN (Below.refl _ _) d')) z4 z5)
                      have XX := Lib.hid (show D4.wts 0 (m : Int) = 0 → x4 = x5 from fun h0 => by
                        have h4 : (l2.map (·.2.2))[m]? = some x4 := by rw [← map_same, List.getElem?_map, g4]; rfl
                        have h5 : (l0.map (·.2.2))[m]? = some x5 := by rw [← map_same, List.getElem?_map, g5]; rfl
                        rw [M2.out, List.getElem?_map] at h4
                        rw [M0.out, ← S4.out.1, List.getElem?_map] at h5
                        cases es : (D4.f 0)[m]? with
                        | none => rw [es] at h5; cases h5
                        | some s =>
                          rw [es] at h5
                          have hlen : m < (D4.f 0).length := (List.getElem?_eq_some_iff.1 es).1
                          have hws : s.wait.length = 0 := by
                            have h9 := h0
                            unfold Dv.wts at h9
                            rw [if_pos ⟨by decide, by omega, by omega⟩, Int.toNat_natCast, List.getD_eq_getElem?_getD, es] at h9
                            exact h9
                          rw [HD5.out, crash_last D4 xfa 0 (by decide) m s es hws] at h4
                          simp only [Option.map_some, Option.some.injEq] at h4 h5
                          rw [← h4, ← h5])
                      obtain ⟨W9, hW9⟩ : ∃ W9 : Int, W9 = ((D4.wts 0 (m : Int) : Nat) : Int) := ⟨_, rfl⟩
                      rw [← hW9] at q3
                      have HMK := Lib.hid hmk
                      clear iw s2 s0 g4 g5 r4 r5 z4 z5 hmk
                      by_cases h0 : D4.wts 0 (m : Int) = 0
                      · have bw : (W9 == 0) = true := by rw [hW9, h0]; rfl
                        have hx := XX.out h0
                        have SM2 := Lib.hid (fun d' : Nat => (by
                          have h9 := SM.out d'
                          rw [decide_eq_true hx] at h9
                          exact h9 : Calls Try.prog 25 #[.slice B4 L4 c4, .slice B5 L5 c5] (we.drewN d') fun e w' => e = .returned (.bool true) ∧ we.drewN d' = w'))
                        clear h0 hx hW9 XX SM
                        go_wp2_with fail
                        go_quiet ((first
                          | (go_at_call 25; (with_reducible exact quiet_add (SM2.out _)))
                          | (go_at_call 23; (with_reducible exact quiet_add (WT5.out _)))))
                        go_wp2
                        go_roundw
                        case rel => exact ⟨m + 1, _, HMK.out, by go_num, rfl⟩
                        case measure => have := HMK.out; simp [intOf]; omega
                      · have bw : (W9 == 0) = false := by rw [hW9, beq_eq_false_iff_ne]; omega
                        clear h0 hW9 XX SM
                        go_wp2_with fail
                        go_quiet ((first
                          | (go_at_call 23; (with_reducible exact quiet_add (WT5.out _)))))
                        go_wp2
                        go_roundw
                        case rel => exact ⟨m + 1, _, HMK.out, by go_num, rfl⟩
                        case measure => have := HMK.out; simp [intOf]; omega
                    · have emk : m = k := by omega
                      have dm : decide ((m : Int) < (k : Int)) = false := by simp; omega
                      have hmi : ¬ (m : Int) < k := by omega
                      have PG := Lib.hid (PE.out.later (below_drewN (Below.refl _ _) d))
                      have T2G := Lib.hid (T2E.out.later (below_drewN (Below.refl _ _) d))
                      have HBG := Lib.hid (below_drewN HBE.out d)
                      obtain ⟨wg, hwg⟩ : ∃ wg, we.drewN d = wg := ⟨_, rfl⟩
                      rw [hwg] at PG T2G HBG ⊢
                      have CB := Lib.hid (qa_crash PG.out (.slice Ab Lb cb) xfb (fun w' hb _ => (HBF.out.below (HBG.out.trans hb)).more (Nat.le_trans PG.out.base hb.size)) BBF.out (by rw [← HLb.out]; have := HB60.out; omega) (F5.out.more (by decide)))
                      clear emk hwg hm
                      go_wp2_with fail
                      (with_reducible refine (CB.out).mono ?_)
                      rintro e wh ⟨rfl, ph, bh, fh⟩
                      have PH := Lib.hid ph
                      have T2H := Lib.hid (T2G.out.fr fh)
                      have HBH := Lib.hid (HBG.out.trans bh)
                      clear ph bh fh
                      go_wp2_with fail
                      (with_reducible refine (qa_image PH.out 0 0 rfl (by decide)).mono ?_)
                      rintro e wi ⟨v4, l4, rfl, pi, t4, m4, y4, bi⟩
                      have EQ42 := Lib.hid (show (l4.map (·.2)).map (·.2) = (l2.map (·.2)).map (·.2) from by
                        rw [map_same, map_same, m4, M2.out]
                        exact crash_lasts D5 xfb 0 (by decide) (fun s hs => by have := F5.out 0 (by decide) s hs; omega))
                      obtain ⟨tp4, s4⟩ := t4.sr y4
                      obtain ⟨tp2, s2⟩ := (T2H.out.later bi).sr Y2.out
                      have SB42 := Lib.hid (Blk.same_blocks _ _ _ _ _ _ _ s4 s2)
                      rw [decide_eq_true EQ42.out] at SB42
                      have HBI := Lib.hid (step_ HBH.out bi)
                      clear pi t4 m4 y4 bi s4 s2
                      go_wp2_with fail
                      (with_reducible refine SB42.out.mono ?_)
                      rintro e wj ⟨rfl, d9, rfl⟩
                      go_wp2
                      go_ret
                      exact ⟨rfl, below_drewN HBI.out d9⟩


set_option maxRecDepth 100000 in
theorem lifted (os : Os) (started : os.Started) (H : Type) (enc : TypeId × Value → H) :
    ReturnsInHanded {} Try.checked os 5 .any (Rows.diskLastsSpec.pre6 enc Try.prog Try.f5 Rows.diskLastsRow.domain false) (Rows.diskLastsSpec.post enc Try.prog Try.f5 false true false false) := by
  refine returnsInHanded_of_change (C := Try.checked) own started (by kernel_rfl) Try.func5
    (ChangeSpec.witness6 (enc := enc) (C := Try.checked) false ⟨#[], #[.int .i64 0, .int .i64 0, .slice none 0 0, .slice none 0 0, .slice none 0 0], []⟩ 8 (by kernel_rfl) (by kernel_rfl) (by kernel_rfl) (by kernel_rfl)) ?_
  intro W base args ds gs before hval0 hW hcnd _
  have hval : ∀ (j : Nat) t v, Try.f5.params[j]? = some t → args[j]? = some v → Value.okWide Try.prog W .any base t v := hval0
  have hW' := hW
  obtain ⟨p, q, hA0, hV, rfl, hfz, hnd⟩ := hW
  have hA1 : DataW.TrodAll enc Try.prog W 0 (fun _ => true) true Try.f5.params.toList args.toList ds p := hA0
  have hA := hA1
  rw [Try.params5] at hA hval
  obtain ⟨v0, vs0, d0, ds0, p0, q0, hargs, rfl, rfl, h0, r0⟩ := trodAll_cons hA
  obtain ⟨v1, vs1, d1, ds1, p1, q1, rfl, rfl, rfl, h1, r1⟩ := trodAll_cons r0
  obtain ⟨v2, vs2, d2, ds2, p2, q2, rfl, rfl, rfl, h2, r2⟩ := trodAll_cons r1
  obtain ⟨v3, vs3, d3, ds3, p3, q3, rfl, rfl, rfl, h3, r3⟩ := trodAll_cons r2
  obtain ⟨v4, vs4, d4, ds4, p4, q4, rfl, rfl, rfl, h4, r4⟩ := trodAll_cons r3
  obtain ⟨rfl, rfl, rfl⟩ := trodAll_nil r4
  obtain rfl : args = #[v0, v1, v2, v3, v4] := by cases args; simp_all
  obtain ⟨rfl, rfl⟩ := trodVars_none hV
  obtain ⟨lg, rfl, rfl, rfl, wf0⟩ := open_int Try.underlying3 (hval 0 3 v0 rfl rfl) h0
  obtain ⟨pg, rfl, rfl, rfl, wf1⟩ := open_int Try.underlying3 (hval 1 3 v1 rfl rfl) h1
  obtain ⟨xl, i2, wf2⟩ := Disk.open_opns (hval 2 22 v2 rfl rfl) h2
  obtain ⟨xfa, i3, wf3⟩ := Disk.open_fts (hval 3 31 v3 rfl rfl) h3
  obtain ⟨xfb, i4, wf4⟩ := Disk.open_fts (hval 4 31 v4 rfl rfl) h4
  clear hA0 hval0
  refine (walk W lg (bounds_i64 wf0) pg (bounds_i64 wf1) v2 xl i2 wf2 v3 xfa i3 wf3 v4 xfb i4 wf4).mono fun e W' ⟨he, bel⟩ => ?_
  subst he
  exact ⟨_, rfl, _, _, _, [], _, [], hW', trodAll_mk1 (shut_bool Try.underlying4 _), args_again laidOut bel (by kernel_rfl) hA1, rfl, bel.frame _, fun h => by cases h⟩

theorem over : Rows.diskLastsRow.holds Try.pinned (OpenSpec.ofChange Rows.diskLastsSpec) :=
  OpenClaim.holds_of_wide 5 Try.f5 rfl rfl rfl rfl rfl rfl rfl ⟨rfl, rfl, rfl, rfl, rfl⟩ rfl rfl rfl rfl rfl (by kernel_rfl) Try.func5 (by kernel_rfl)
    (of_decide_eq_true (by kernel_rfl)) (by unfold Func.isWrapper; first | (rw [if_pos (by decide +kernel)]; kernel_rfl) | (rw [if_neg (by decide +kernel)]; exact ⟨rfl, rfl⟩))
    (fun os started H enc _ => lifted os started H enc)

theorem proved : Rows.DiskLastsSaid := over
end Go.Proofs.Ytplombkpefacgaa.LDiskLasts
