/- The law manciplelaw05.DiskParts returns true whatever it is called with, and what it was called with reads as it did. No condition. -/
import Derived.Test.YtplombkpefacgaaLaw
import Derived.Test.YtplombkpefacgaaDkR
import Derived.Deep.RegionWith
import Derived.Deep.DeepCutAuto
import Derived.Deep.CutRange
import Derived.Deep.QuietTactic
import Derived.Outline
namespace Go.Proofs.Ytplombkpefacgaa.LDiskParts
open Go.ChangeShapes Go.WideShapes Go.ChangeAt Go.RowKit Go.IntWalk Go.Proofs.Mem Law
set_option linter.unusedVariables false
open Go.Proofs.Ytplombkpefacgaa.Disk Go.Proofs.Each
set_option linter.unusedSimpArgs false
theorem sr_below {w w' : World} {B : Nat} {v : Value} {vs : List (Value × List Int)} (h : SR w B v vs) (hb : Below B w w') : SR w' B v vs := h.keep fun _ hp => hb.cell hp
theorem wi1 (i : Nat) (h : i ≤ 200) : wrap64 ((i : Int) + 1) = (i : Int) + 1 ∧ IntKind.i64.wrap ((i : Int) + 1) = (i : Int) + 1 := ⟨wrap64_in _ (by omega), IntWalk.i64_in _ (by omega)⟩
set_option maxRecDepth 100000 in
set_option maxHeartbeats 8000000 in
theorem walk (w : World) (data : Value) (xdata : List (Value × List Int)) (hdata : SR w w.heap.size data xdata) (f : Disk.Ft) (hf : f.Ok) :
    Calls Try.prog 6 #[data, .agg #[.int .u8 f.file, .int .i64 f.sec, .int .i64 f.keep, .int .i64 f.torn]] w fun e w' => e = .returned (.bool true) ∧ Below w.heap.size w w' := by
  obtain ⟨A, c, rfl, hlc, hcm⟩ := hdata.form
  unfold maxLen at hcm
  obtain ⟨L, hL⟩ : ∃ L, L = xdata.length := ⟨_, rfl⟩
  rw [← hL] at hdata hlc
  rw [← hL]
  have HL := Lib.hid hL
  have HD := Lib.hid hdata
  have HFO := Lib.hid hf
  have NW := Lib.hid (fun W => new_at 1 0 W 1 0 rfl rfl (by decide) (by decide))
  obtain ⟨j0, hj0, hy0, hy1, hy2⟩ := info_parts bs_info
  clear hdata hf hL
  go_enter Try.func6, Try.ntmps6
  by_cases h20 : 20 < L
  · go_wp2_with (first
      | (go_at_call 10; (with_reducible refine (known_any _).mono ?_); rintro e w3 ⟨rfl, hb3⟩; have HB3 := Lib.hid hb3; clear hb3)
      | fail)
    go_ret
    exact ⟨rfl, step_ (new_ (Below.refl _ _) _) HB3.out⟩
  have d20 : decide (20 < L) = false := decide_eq_false h20
  have d20' : decide ((20 : Int) < (L : Int)) = false := decide_eq_false (by omega)
  go_upto_region 1 with fail
  obtain ⟨w0, hw0⟩ : ∃ w', w.alloc (.cells #[.int .u8 f.file, .int .i64 f.sec, .int .i64 f.keep, .int .i64 f.torn] 50) = w' := ⟨_, rfl⟩
  obtain ⟨g0, hg0⟩ : ∃ g, w.heap.size = g := ⟨_, rfl⟩
  have BX0 := Lib.hid (Box.new w #[.int .u8 f.file, .int .i64 f.sec, .int .i64 f.keep, .int .i64 f.torn] 50)
  have HB0 := Lib.hid (new_ (Below.refl w.heap.size w) (.cells #[.int .u8 f.file, .int .i64 f.sec, .int .i64 f.keep, .int .i64 f.torn] 50))
  have GZ := Lib.hid (show g0 < w0.heap.size by rw [← hw0, ← hg0]; simp)
  have GW := Lib.hid (show w.heap.size ≤ g0 from Nat.le_of_eq hg0)
  rw [hw0, hg0] at BX0
  rw [hw0] at HB0
  have HS0 := Lib.hid HB0.out.size
  rw [hw0, hg0]
  clear hw0 hg0
  go_wp2_with (first
    | (go_at_call 10; (with_reducible refine (known_any _).mono ?_); rintro e w1 ⟨rfl, hb1⟩; have HB1 := Lib.hid hb1; clear hb1)
    | fail)
  (with_reducible refine (NW.out _).mono ?_)
  rintro e w2 ⟨rfl, o2⟩
  have O2 : Hid (Out w1 w2 (fun k => if k = 0 then 1 else 0) 2) := Lib.hid o2
  have HB2 := Lib.hid (show Below w0.heap.size w0 w2 from by obtain ⟨_, _, _, _, _, h⟩ := o2; exact step_ HB1.out h)
  clear o2
  go_wp2_with fail
  (with_reducible refine (full_any _ [] w2 w2.heap.size (Nat.le_refl _) (IR.nil _ _ _) Bytes.nil).mono ?_)
  rintro e w3 ⟨u3, rfl, o3, b3⟩
  rw [full_nil] at o3
  obtain ⟨gg3, cc3, rfl, _⟩ := own_g o3 (by decide)
  obtain ⟨g3, p3⟩ := Pa.start O2.out HB1.out.size o3 (by rfl) b3
  have HB3 := Lib.hid (new_ (step_ HB2.out b3) (.cells #[.slice (some ⟨gg3, 0, none⟩) 128 cc3] 30))
  have P3 := Lib.hid p3
  clear o3 b3 p3
  obtain ⟨a, ea⟩ : ∃ a, a = w1.heap.size := ⟨_, rfl⟩
  rw [← ea] at P3
  rw [← ea]
  clear ea
  go_wp2
  go_loopw [7, 6] (fun i v wr => ∃ (i' : Nat) (D : Dv) (l : List Rw) (ws : List (List Int)), i = .int .i64 i' ∧ i' ≤ L ∧ Hid (Pa w0.heap.size wr a D v l) ∧ Hid (l.map (·.2.2) = z128 :: ws ∧ PR D ws ∧ ws.length = i' ∧ (∀ x ∈ ws, x.length = 128) ∧ ∀ x ∈ ws, Bytes x) ∧ Hid (Below w0.heap.size w0 wr)) (fun i _ _ => L - (intOf i).toNat)
  case atStart => exact ⟨0, _, _, [], rfl, Nat.zero_le _, P3, Lib.hid ⟨rfl, new10, rfl, fun x hx => (List.not_mem_nil hx).elim, fun x hx => (List.not_mem_nil hx).elim⟩, HB3⟩
  case round =>
    obtain ⟨i, D, l, ws, rfl, hi, HP, HW, HBR⟩ := hrel
    by_cases hlt : i < L
    · obtain ⟨b1, of1, u1, x1, rfl, _, g1, e1, r1, y1⟩ := (sr_below HD.out (HB0.out.trans (HBR.out.mono HS0.out))).index i (by rw [← HL.out]; exact hlt)
      obtain ⟨A1, c1, rfl, hl1, hc1⟩ := r1.form
      obtain ⟨L1, hL1⟩ : ∃ L, L = x1.length := ⟨_, rfl⟩
      rw [← hL1] at r1 e1
      have R1 := Lib.hid r1
      have Y1 := Lib.hid y1
      clear r1 y1 g1 hl1 hc1 hL1
      by_cases h200 : 200 < L1
      · have d200 : decide ((200 : Int) < (L1 : Int)) = true := decide_eq_true (by omega)
        go_wp2
        go_ret
        exact ⟨rfl, HB0.out.trans (HBR.out.mono HB0.out.size)⟩
      · have d200 : decide ((200 : Int) < (L1 : Int)) = false := decide_eq_false (by omega)
        go_wp2_with fail
        (with_reducible refine (full_any _ x1 wr w.heap.size (Nat.le_trans HS0.out HBR.out.size) R1.out Y1.out).mono ?_)
        rintro e w4 ⟨u4, rfl, o4, b4⟩
        obtain ⟨g4, hr4, hg4⟩ := RowAt.of_own (Tu := 5) (xs := fullS x1) (by rw [fullS_len]; exact o4) (by rw [fullS_len]; decide)
        have WRT := Lib.hid (HP.out.write b4 hr4 hg4 (fullS_len _) (fullS_bytes Y1.out) ⟨z128, ws⟩ HW.out.2.1.at_ (by have := HW.out.2.2.1; show ws.length ≤ 100000; omega))
        obtain ⟨c4, e4⟩ := hr4.form
        rw [fullS_len] at e4
        subst e4
        have G4 := Lib.hid hg4
        have HB4 := Lib.hid (HBR.out.trans (b4.mono HBR.out.size))
        have Z4 := Lib.hid b4.size
        clear o4 b4 hr4 hg4
        go_wp2_with fail
        (with_reducible refine WRT.out.mono ?_)
        rintro e w5 ⟨rfl, p5, t5, r5, d5, b5⟩
        have T5 := Lib.hid t5
        have R5 := Lib.hid r5
        have D5 := Lib.hid d5
        have HB5 := Lib.hid (HB4.out.trans b5)
        have Z5 := Lib.hid b5.size
        have HLN := Lib.hid (show l.length = i + 1 from by have h1 := congrArg List.length HW.out.1; rw [List.length_map, List.length_cons, HW.out.2.2.1] at h1; exact h1)
        have HBS := Lib.hid HBR.out.size
        clear p5 t5 r5 d5 b5 e1
        go_wp2_with (at_builtin; refine wpList_append_new _ rfl _ _ _ rfl w0.heap.size 30 j0 (.slice none 0 0) 1 24 Try.underlying35 hj0 hy0 hy1 hy2 rfl (by decide) _ l.length (l.map (·.2.1)) rfl (T5.out.outer.alloc _) ⟨w5.heap.size, 0, none⟩ 1 1 [_] rfl rfl (cell_one_new _ _ _) (by simp [Value.oneCell']) (by have := HLN.out; unfold maxLen; omega) (by have := HLN.out; omega) (by have := Z5.out; have := Z4.out; have := HBS.out; simp; omega) ?_; intro v6 w6 hown6 hg6 hn6; have OWN6 := Lib.hid hown6; have HG6 := Lib.hid hg6; have HN6 := Lib.hid hn6; clear hown6 hg6 hn6)
        have P6 := Lib.hid (Pa.push T5.out R5.out HBS.out (by have := G4.out; have := Z5.out; omega) D5.out OWN6.out HG6.out HN6.out)
        have HB6 := Lib.hid (below_row (HB5.out.alloc HB5.out.size _) (T5.out.outer.alloc _) HG6.out (Nat.le_refl _) (by have := HB5.out.size; simp; omega))
        have HW6 := Lib.hid (show (l ++ [(g4, Value.slice (some ⟨g4, 0, none⟩) 128 c4, fullS x1)]).map (·.2.2) = z128 :: (ws ++ [fullS x1]) ∧ PR (D.wr 0 0 ⟨z128, ws⟩ (fullS x1)) (ws ++ [fullS x1]) ∧ (ws ++ [fullS x1]).length = i + 1 ∧ (∀ x ∈ ws ++ [fullS x1], x.length = 128) ∧ ∀ x ∈ ws ++ [fullS x1], Bytes x from by
          obtain ⟨h1, h2, h3, h4, h5⟩ := HW.out
          refine ⟨by rw [List.map_append, h1]; rfl, h2.wr _, by rw [List.length_append, h3]; rfl, fun x hx => ?_, fun x hx => ?_⟩
          · rcases List.mem_append.1 hx with hx | hx
            · exact h4 x hx
            · rw [List.mem_singleton.1 hx]; exact fullS_len _
          · rcases List.mem_append.1 hx with hx | hx
            · exact h5 x hx
            · rw [List.mem_singleton.1 hx]; exact fullS_bytes Y1.out)
        go_wp2
        go_roundw
        case rel => exact ⟨i + 1, _, _, _, by go_num, by omega, P6, HW6, HB6⟩
        case measure => simp [intOf]; omega
    · have hiL : i = L := by omega
      have hi20 : i ≤ 20 := by omega
      go_upto_region 15 with fail
      have BX := Lib.hid (BX0.out.below HBR.out GZ.out)
      have kb := BX.out.cell
      have fb := BX.out.frozen
      obtain ⟨W2, hW2⟩ : ∃ W, (wr.setCell ⟨g0, 0, none⟩ (.int .u8 0)).setCell ⟨g0, 1, none⟩ (.int .i64 0) = W := ⟨_, rfl⟩
      have hfr := Fr.setCell (Fr.setCell (Fr.refl (fun x => x = g0) wr) (p := ⟨g0, 0, none⟩) (.inl rfl) (.int .u8 0)) (p := ⟨g0, 1, none⟩) (.inl rfl) (.int .i64 0)
      have hbx := (BX.out.set_ 0 (.int .u8 0)).set_ 1 (.int .i64 0)
      simp only [List.setIfInBounds_toArray, List.set_cons_zero, List.set_cons_succ] at hbx
      have hbw := ((HB0.out.trans (HBR.out.mono HS0.out)).setCell (p := ⟨g0, 0, none⟩) GW.out (.int .u8 0)).setCell (p := ⟨g0, 1, none⟩) GW.out (.int .i64 0)
      rw [hW2] at hfr hbx hbw
      have P2 := Lib.hid (HP.out.far hfr (fun x hx => by rw [hx]; exact GZ.out))
      have HBW2 := Lib.hid hbw
      have BX2 := Lib.hid hbx
      clear hfr hbx hbw
      go_upto_region 17 with fail
      clear hW2 kb fb
      have kb := BX2.out.cell
      have P3' := Lib.hid (P2.out.later (new_ (Below.refl _ _) (.cells #[.int .u8 0, .int .i64 0, .int .i64 f.keep, .int .i64 f.torn] 50)))
      have SL := Lib.hid (lit_fate W2 ⟨0, 0, f.keep, f.torn⟩)
      have CR := Lib.hid (P3'.out.crash (.slice (some ⟨W2.heap.size, 0, none⟩) 1 1) [⟨0, 0, f.keep, f.torn⟩] (SL.out.more (by simp)) (fate_ok _ _) (by simp) (HW.out.2.1.few (by have := HW.out.2.2.1; omega)))
      go_wp2_with fail
      (with_reducible refine CR.out.mono ?_)
      rintro e w7 ⟨rfl, p7, b7⟩
      have HB7 := Lib.hid ((new_ HBW2.out (.cells #[.int .u8 0, .int .i64 0, .int .i64 f.keep, .int .i64 f.torn] 50)).trans (b7.mono HS0.out))
      have P7 := Lib.hid p7
      clear kb p7 b7
      go_wp2_with fail
      (with_reducible refine P7.out.image.mono ?_)
      rintro e w8 ⟨v8, l8, rfl, s8, m8, p8, b8⟩
      rw [HW.out.2.1.crash] at m8
      obtain ⟨⟨u8, r8⟩, rfl, er8⟩ := one_map m8
      obtain ⟨nn, tt, hnn, pa1, pa2, pa3⟩ := part_at ws HW.out.2.2.2.1 f.keep f.torn
      simp only at er8
      rw [← er8] at pa1 pa2 pa3
      have PA := Lib.hid (And.intro pa1 (And.intro pa2 hnn))
      obtain ⟨A8, c8, e8, _, _⟩ := s8.form
      rw [e8] at s8
      subst e8
      obtain ⟨bb, of8, u9, x9, rfl, _, g9, k9, i9, _⟩ := s8.index 0 Nat.zero_lt_one
      obtain ⟨rfl, rfl⟩ : u9 = u8 ∧ x9 = r8 := by
        have : some (u8, r8) = some (u9, x9) := g9
        injection this with this
        injection this with h1 h2
        exact ⟨h1.symm, h2.symm⟩
      obtain ⟨A9, c9, e9, _, _⟩ := i9.form
      rw [pa3] at e9
      subst e9
      have I9 := Lib.hid i9
      have k8 : w8.cell? ⟨bb, of8, none⟩ = some (.slice A9 128 c9) := k9
      have hm := HW.out.1
      obtain ⟨VS, hVS⟩ : ∃ VS, l.map (·.2) = VS := ⟨_, rfl⟩
      have hVM : VS.map (·.2) = z128 :: ws := by rw [← hVS, List.map_map]; exact hm
      have hsv := p8.tab.sr (fun p hp => by
        have h1 : p.2.2 ∈ z128 :: ws := by rw [← hm]; exact List.mem_map.2 ⟨p, hp, rfl⟩
        rcases List.mem_cons.1 h1 with h1 | h1
        · rw [h1]; exact z128_bytes
        · exact HW.out.2.2.2.2 _ h1)
      rw [hVS] at hsv
      obtain ⟨N, hN⟩ : ∃ N, VS.length = N := ⟨_, rfl⟩
      have hNn : nn < N ∧ N ≤ 21 := by
        have h1 := congrArg List.length hVM
        rw [List.length_map, List.length_cons] at h1
        rw [List.length_cons] at hnn
        have := HW.out.2.2.1
        omega
      obtain ⟨Av, cv, ev, _, _⟩ := hsv.form
      rw [hN] at ev
      subst ev
      have SV := Lib.hid hsv
      have VM := Lib.hid hVM
      have HN := Lib.hid hN
      have WL := Lib.hid HW.out.2.2.2.1
      have AN := Lib.hid (show (z128 :: ws).length = N from by rw [← hVM, List.length_map, hN])
      have HB8 := Lib.hid (HB7.out.trans (b8.mono HB7.out.size))
      clear s8 m8 p8 b8 er8 pa1 pa2 pa3 hnn i9 k9 g9 hm hVS hVM hsv hN
      go_wp2
      go_loopw [10] (fun i wz => ∃ (i' d : Nat), i = .int .i64 i' ∧ i' ≤ nn ∧ wz = w8.drewN d) (fun i _ => nn + 1 - (intOf i).toNat)
      case atStart => exact ⟨0, 0, rfl, Nat.zero_le _, rfl⟩
      case round =>
        obtain ⟨i, d, rfl, hin, rfl⟩ := hrel
        obtain ⟨b1, of1, u1, x1, rfl, _, g1, e1, r1, y1⟩ := SV.out.index i (by rw [HN.out]; omega)
        have hx1 := row_at VM.out g1
        have hl1 : x1.length = 128 := by rw [hx1]; exact all_len WL.out (by rw [AN.out]; omega)
        obtain ⟨A1, c1, ea1, _, _⟩ := r1.form
        rw [hl1] at ea1
        subst ea1
        have R1 := Lib.hid r1
        have X1 := Lib.hid hx1
        have k1 : w8.cell? ⟨b1, of1 + i, none⟩ = some (.slice A1 128 c1) := e1
        obtain ⟨AO, cO, xo, hoc, hxo, ro, ho2⟩ : ∃ AO cO xo, (i + 1 < N → w8.cell? ⟨b1, of1 + (i + 1), none⟩ = some (.slice AO 128 cO)) ∧ xo = over (z128 :: ws) i ∧ IR w8 w8.heap.size .u8 (.slice AO 128 cO) xo ∧ (¬ i + 1 < N → AO = A1 ∧ cO = c1) := by
          by_cases ho : i + 1 < N
          · obtain ⟨b2, of2, u2, x2, eb, _, g2, e2, r2, y2⟩ := SV.out.index (i + 1) (by rw [HN.out]; exact ho)
            injection eb with eb
            injection eb with eb1 eb2
            subst eb1 eb2
            have hx2 := row_at VM.out g2
            have hl2 : x2.length = 128 := by rw [hx2]; exact all_len WL.out (by rw [AN.out]; omega)
            obtain ⟨A2, c2, ea2, _, _⟩ := r2.form
            rw [hl2] at ea2
            subst ea2
            exact ⟨A2, c2, x2, fun _ => e2, by unfold over; rw [AN.out, if_pos ho]; exact hx2, r2, fun h => absurd ho h⟩
          · exact ⟨A1, c1, x1, fun h => absurd h ho, by unfold over; rw [AN.out, if_neg ho]; exact hx1, R1.out, fun _ => ⟨rfl, rfl⟩⟩
        have RO := Lib.hid ro
        have XO := Lib.hid hxo
        have HL1 := Lib.hid hl1
        have HOC := Lib.hid hoc
        have HO2 := Lib.hid ho2
        clear e1 r1 y1 g1 hx1 hxo ro hl1 hoc ho2
        have di : decide ((i : Int) < (N : Int)) = true := decide_eq_true (by omega)
        have di' : decide (i < N) = true := decide_eq_true (by omega)
        obtain ⟨qo, hqo⟩ : ∃ q, decide ((i : Int) + 1 < (N : Int)) = q := ⟨_, rfl⟩
        have hqo2 : decide (i + 1 < N) = qo := by rw [← hqo]; exact decide_eq_decide.2 (by omega)
        have HQO := Lib.hid (show (qo = true → i + 1 < N) ∧ (qo = false → ¬ i + 1 < N) from ⟨fun h => by rw [h] at hqo2; exact of_decide_eq_true hqo2, fun h => by rw [h] at hqo2; exact of_decide_eq_false hqo2⟩)
        go_upto_if 82 with fail
        go_cut [11] (fun v wx => v = .slice AO 128 cO ∧ wx = w8.drewN d)
        case first =>
          cases qo
          · obtain ⟨rfl, rfl⟩ := HO2.out (HQO.out.2 rfl)
            go_wp2
            go_meet
            exact ⟨rfl, rfl⟩
          · have ko := HOC.out (HQO.out.1 rfl)
            have hon : (i : Int) + 1 < (N : Int) := by have := HQO.out.1 rfl; omega
            go_wp2
            go_meet
            exact ⟨rfl, rfl⟩
        case rest =>
          obtain ⟨rfl, rfl⟩ := hcut
          clear hqo hqo2
          go_wp2
          go_loopw [12] (fun kk wz => ∃ (k d : Nat), kk = .int .i64 k ∧ k ≤ 128 ∧ wz = w8.drewN d) (fun kk _ => 128 - (intOf kk).toNat)
          case atStart => exact ⟨0, d, rfl, Nat.zero_le _, rfl⟩
          case round =>
            obtain ⟨k, d1, rfl, hk, rfl⟩ := hrel
            obtain ⟨c0, hc0⟩ : ∃ q, decide (k < 128 ∧ x9.getD k 0 = xo.getD k 0) = q := ⟨_, rfl⟩
            have HC0 := Lib.hid hc0
            go_upto_region 28 with fail
            go_cut [102] (fun v wx => v = .bool c0 ∧ ∃ d, wx = w8.drewN d)
            case first =>
              by_cases hk1 : k < 128
              · obtain ⟨b3, of3, rfl, _, q3⟩ := I9.out.index k hk1
                obtain ⟨b4, of4, rfl, _, q4⟩ := RO.out.index k hk1
                have dk : decide ((k : Int) < 128) = true := decide_eq_true (by omega)
                have hk1' : (k : Int) < 128 := by omega
                generalize x9.getD k 0 = va at *
                generalize xo.getD k 0 = vb at *
                by_cases hv : va = vb
                · have dv : (va == vb) = true := by rw [hv]; exact beq_self_eq_true _
                  have HC1 := Lib.hid (show c0 = true by rw [← HC0.out]; exact decide_eq_true ⟨hk1, hv⟩)
                  clear hc0 HC0 hv
                  go_quiet (fail)
                  go_wp2
                  go_meet
                  exact ⟨by rw [HC1.out], _, by rw [World.drewN_drewN]⟩
                · have dv : (va == vb) = false := by rw [beq_eq_false_iff_ne]; exact hv
                  have HC1 := Lib.hid (show c0 = false by rw [← HC0.out]; exact decide_eq_false (fun h => hv h.2))
                  clear hc0 HC0 hv
                  go_quiet (fail)
                  go_wp2
                  go_meet
                  exact ⟨by rw [HC1.out], _, by rw [World.drewN_drewN]⟩
              · have dk : decide ((k : Int) < 128) = false := decide_eq_false (by omega)
                have HC1 := Lib.hid (show c0 = false by rw [← HC0.out]; exact decide_eq_false (fun h => hk1 h.1))
                clear hc0 HC0
                go_quiet (fail)
                go_wp2
                go_meet
                exact ⟨by rw [HC1.out], _, by rw [World.drewN_drewN]⟩
            case rest =>
              obtain ⟨rfl, d2, rfl⟩ := hcut
              cases c0
              · have HNO := Lib.hid (show i = nn → tt ≤ k ∨ k = 128 from fun e => by
                  subst e
                  rcases Nat.lt_or_ge k tt with h1 | h1
                  · rcases Nat.lt_or_ge k 128 with h2 | h2
                    · exfalso
                      have h3 := PA.out.1 k h2 h1
                      rw [← XO.out] at h3
                      have h4 : (decide (k < 128 ∧ x9.getD k 0 = xo.getD k 0)) = true := decide_eq_true ⟨h2, h3⟩
                      rw [HC0.out] at h4
                      cases h4
                    · exact .inr (by omega)
                  · exact .inl h1)
                clear hc0 HC0
                go_wp2
                go_loopw [12] (fun kk wz => ∃ (k d : Nat), kk = .int .i64 k ∧ k ≤ 128 ∧ Hid (i = nn → tt ≤ k ∨ k = 128) ∧ wz = w8.drewN d) (fun kk _ => 128 - (intOf kk).toNat)
                case atStart => exact ⟨k, d2, rfl, hk, HNO, rfl⟩
                case round =>
                  clear HNO hk
                  obtain ⟨k, d3, rfl, hk, HNO, rfl⟩ := hrel
                  obtain ⟨c0, hc0⟩ : ∃ q, decide (k < 128 ∧ x9.getD k 0 = x1.getD k 0) = q := ⟨_, rfl⟩
                  have HC0 := Lib.hid hc0
                  go_upto_region 30 with fail
                  go_cut [122] (fun v wx => v = .bool c0 ∧ ∃ d, wx = w8.drewN d)
                  case first =>
                    by_cases hk1 : k < 128
                    · obtain ⟨b3, of3, rfl, _, q3⟩ := I9.out.index k hk1
                      obtain ⟨b4, of4, rfl, _, q4⟩ := R1.out.index k hk1
                      have dk : decide ((k : Int) < 128) = true := decide_eq_true (by omega)
                      have hk1' : (k : Int) < 128 := by omega
                      have hiN : (i : Int) < (N : Int) := by omega
                      generalize x9.getD k 0 = va at *
                      generalize x1.getD k 0 = vb at *
                      by_cases hv : va = vb
                      · have dv : (va == vb) = true := by rw [hv]; exact beq_self_eq_true _
                        have HC1 := Lib.hid (show c0 = true by rw [← HC0.out]; exact decide_eq_true ⟨hk1, hv⟩)
                        clear hc0 HC0 hv
                        go_quiet (fail)
                        go_wp2
                        go_meet
                        exact ⟨by rw [HC1.out], _, by rw [World.drewN_drewN]⟩
                      · have dv : (va == vb) = false := by rw [beq_eq_false_iff_ne]; exact hv
                        have HC1 := Lib.hid (show c0 = false by rw [← HC0.out]; exact decide_eq_false (fun h => hv h.2))
                        clear hc0 HC0 hv
                        go_quiet (fail)
                        go_wp2
                        go_meet
                        exact ⟨by rw [HC1.out], _, by rw [World.drewN_drewN]⟩
                    · have dk : decide ((k : Int) < 128) = false := decide_eq_false (by omega)
                      have HC1 := Lib.hid (show c0 = false by rw [← HC0.out]; exact decide_eq_false (fun h => hk1 h.1))
                      clear hc0 HC0
                      go_quiet (fail)
                      go_wp2
                      go_meet
                      exact ⟨by rw [HC1.out], _, by rw [World.drewN_drewN]⟩
                  case rest =>
                    obtain ⟨rfl, d4, rfl⟩ := hcut
                    cases c0
                    · by_cases h128 : k = 128
                      · have d128 : ((k : Int) == 128) = true := by rw [h128]; rfl
                        clear hc0
                        go_wp2
                        go_ret
                        exact ⟨rfl, below_drewN HB8.out d4⟩
                      · have d128 : ((k : Int) == 128) = false := by rw [beq_eq_false_iff_ne]; omega
                        have hne : i ≠ nn := fun e => by
                          have h1 := HNO.out e
                          have h2 : k < 128 := by omega
                          have h3 := PA.out.2.1 k h2 (by omega)
                          rw [← e, ← X1.out] at h3
                          have h4 : (decide (k < 128 ∧ x9.getD k 0 = x1.getD k 0)) = true := decide_eq_true ⟨h2, h3⟩
                          rw [HC0.out] at h4
                          cases h4
                        clear hc0
                        go_wp2
                        go_roundw
                        case rel => exact ⟨i + 1, d4, by go_num, by omega, rfl⟩
                        case measure => simp [intOf]; omega
                    · have hk1 : k < 128 := (of_decide_eq_true HC0.out).1
                      clear hc0
                      go_wp2
                      go_roundw
                      case rel => exact ⟨k + 1, d4, by go_num, by omega, Lib.hid (fun e => by
                        rcases HNO.out e with h | h
                        · exact .inl (by omega)
                        · omega), rfl⟩
                      case measure => simp [intOf]; omega
              · have hk1 : k < 128 := (of_decide_eq_true HC0.out).1
                clear hc0
                go_wp2
                go_roundw
                case rel => exact ⟨k + 1, d2, by go_num, by omega, rfl⟩
                case measure => simp [intOf]; omega


set_option maxRecDepth 100000 in
theorem lifted (os : Os) (started : os.Started) (H : Type) (enc : TypeId × Value → H) :
    ReturnsInHanded {} Try.checked os 6 .any (Rows.diskPartsSpec.pre6 enc Try.prog Try.f6 Rows.diskPartsRow.domain false) (Rows.diskPartsSpec.post enc Try.prog Try.f6 false true false false) := by
  refine returnsInHanded_of_change (C := Try.checked) own started (by kernel_rfl) Try.func6
    (ChangeSpec.witness6 (enc := enc) (C := Try.checked) false ⟨#[], #[.slice none 0 0, .agg #[.int .u8 0, .int .i64 0, .int .i64 0, .int .i64 0]], []⟩ 8 (by kernel_rfl) (by kernel_rfl) (by kernel_rfl) (by kernel_rfl)) ?_
  intro W base args ds gs before hval0 hW hcnd _
  have hval : ∀ (j : Nat) t v, Try.f6.params[j]? = some t → args[j]? = some v → Value.okWide Try.prog W .any base t v := hval0
  have hW' := hW
  obtain ⟨p, q, hA0, hV, rfl, hfz, hnd⟩ := hW
  have hA1 : DataW.TrodAll enc Try.prog W 0 (fun _ => true) true Try.f6.params.toList args.toList ds p := hA0
  have hA := hA1
  rw [Try.params6] at hA hval
  obtain ⟨v0, vs0, d0, ds0, p0, q0, hargs, rfl, rfl, h0, r0⟩ := trodAll_cons hA
  obtain ⟨v1, vs1, d1, ds1, p1, q1, rfl, rfl, rfl, h1, r1⟩ := trodAll_cons r0
  obtain ⟨rfl, rfl, rfl⟩ := trodAll_nil r1
  obtain rfl : args = #[v0, v1] := by cases args; simp_all
  obtain ⟨rfl, rfl⟩ := trodVars_none hV
  obtain ⟨xdata, i0⟩ := SrOpen.open_sr (hval 0 35 v0 rfl rfl) h0
  obtain ⟨f, ok1, rfl⟩ := Disk.open_ft (hval 1 50 v1 rfl rfl) h1
  clear hA0 hval0
  refine (walk W v0 xdata i0 f ok1).mono fun e W' ⟨he, bel⟩ => ?_
  subst he
  exact ⟨_, rfl, _, _, _, [], _, [], hW', trodAll_mk1 (shut_bool Try.underlying4 _), args_again laidOut bel (by kernel_rfl) hA1, rfl, bel.frame _, fun h => by cases h⟩

theorem over : Rows.diskPartsRow.holds Try.pinned (OpenSpec.ofChange Rows.diskPartsSpec) :=
  OpenClaim.holds_of_wide 6 Try.f6 rfl rfl rfl rfl rfl rfl rfl ⟨rfl, rfl, rfl, rfl, rfl⟩ rfl rfl rfl rfl rfl (by kernel_rfl) Try.func6 (by kernel_rfl)
    (of_decide_eq_true (by kernel_rfl)) (by unfold Func.isWrapper; first | (rw [if_pos (by decide +kernel)]; kernel_rfl) | (rw [if_neg (by decide +kernel)]; exact ⟨rfl, rfl⟩))
    (fun os started H enc _ => lifted os started H enc)

theorem proved : Rows.DiskPartsSaid := over
end Go.Proofs.Ytplombkpefacgaa.LDiskParts
