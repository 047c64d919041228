/- The law manciplelaw21.RuleEnds returns true whatever it is called with, and what it was called with reads as it did. No condition. -/
import Derived.Test.YtneaehimdmachaaLaw
import Derived.Test.YtneaehimdmachaaRmM
import Derived.Test.YtneaehimdmachaaRm7
import Derived.Test.YtneaehimdmachaaRmN
import Derived.Deep.DeepCutAuto
namespace Go.Proofs.Ytneaehimdmachaa.LRuleEnds
open Go.ChangeShapes Go.WideShapes Go.ChangeAt Go.RowKit Go.IntWalk Go.Proofs.Mem Law
set_option linter.unusedVariables false
set_option linter.unusedSimpArgs false
open Go.Proofs.Ytneaehimdmachaa.Rule
theorem out_err {q : Ot} {seen : List Ce} : (dOut (opR q seen)).2.1 = 0 ∨ (dOut (opR q seen)).1 = [] := by
  cases opR q seen with
  | miss k a b => exact .inr rfl
  | err e => exact .inr rfl
  | ok y j => exact .inl rfl
theorem len_none {W : World} {base sz l c : Nat} {e : TypeId} {A : Option Addr} (h : W.ownsRow base e sz (.slice A l c) 0 []) : l = 0 := by
  rcases h.2 with ⟨h1, _⟩ | ⟨g, cap, cur, h1, _⟩
  · injection h1
  · injection h1
set_option maxRecDepth 100000 in
set_option maxHeartbeats 8000000 in
theorem walk (w : World) (op : Rule.Ot) (hop : op.Ok) (values : Value) (xvalues : List Rule.Ce) (hvalues : SS Rule.Ce.cells 6 w w.heap.size values xvalues) (bvalues : ∀ o ∈ xvalues, Rule.Ce.Ok o) (more : Value) (xmore : List Rule.Ce) (hmore : SS Rule.Ce.cells 6 w w.heap.size more xmore) (bmore : ∀ o ∈ xmore, Rule.Ce.Ok o) :
    Calls Try.prog 4 #[.agg (Rule.Ot.cells op), values, more] w fun e w' => e = .returned (.bool true) ∧ Below w.heap.size w w' := by
  have OKS := Lib.hid bvalues
  have OKM := Lib.hid bmore
  have LOOK := Lib.hid (fun (W : World) (val : Value) (vals : List Ce) (hv : SeenAt W W.heap.size val vals) (hok : ∀ c ∈ vals, c.Ok ∧ c.A ≤ 18446744073709551615) (h40 : vals.length ≤ 40) => show Calls Try.prog 26 #[.agg #[.int .u8 op.kd, .int .u32 op.wh, .int .u32 op.wm, .int .u32 op.wt, .int .u32 op.id, .int .u64 op.n, .int .u64 op.pr], val] W fun e w' => ∃ kv sv ks seen, e = .returned (.tuple #[kv, sv, .bool true]) ∧ LS W op ks seen kv sv 18446744073709551615 w' ∧ ∀ k a b, opR op seen ≠ .miss k a b from look_law W op hop val vals _ (by decide) hv hok h40)
  have DO := Lib.hid (fun (W : World) (A : Option Addr) (l c : Nat) (seen : List Ce) (hs : SeenAt W W.heap.size (.slice A l c) seen) (hok : ∀ c ∈ seen, c.Ok) (r : Re (Rp × List Pu)) (hr : opR op seen = r) => show Calls Try.prog 27 #[.agg #[.int .u8 op.kd, .int .u32 op.wh, .int .u32 op.wm, .int .u32 op.wt, .int .u32 op.id, .int .u64 op.n, .int .u64 op.pr], .slice A l c] W fun en w' => ∃ A' l' c', en = .returned (.tuple #[.slice A' l' c', .agg #[.int .u16 (dOut r).2.1, .int .u64 (dOut r).2.2.A, .int .u64 (dOut r).2.2.B, .int .u64 (dOut r).2.2.C]]) ∧ w'.ownsRow W.heap.size 51 6 (.slice A' l' c') (dOut r).1.length (putCells (dOut r).1) ∧ Below W.heap.size W w' from by subst hr; exact do_op op hop W A l c seen hs hok)
  obtain ⟨A, c, rfl, hlc, hcm⟩ := hvalues.form
  obtain ⟨B, d, rfl, hld, hdm⟩ := hmore.form
  obtain ⟨ic, hc0, hc1, hc2, hc3⟩ := info_parts cell_info
  have HV := Lib.hid hvalues
  have HM := Lib.hid hmore
  unfold maxLen at hcm hdm
  unfold Ot.cells
  have B0 := Lib.hid (Box.new w #[.int .u8 op.kd, .int .u32 op.wh, .int .u32 op.wm, .int .u32 op.wt, .int .u32 op.id, .int .u64 op.n, .int .u64 op.pr] 32)
  clear hop bvalues hvalues hmore bmore
  by_cases hl : 40 < xvalues.length
  · have d1 : decide (40 < (xvalues.length : Int)) = true := decide_eq_true (by omega)
    have d1' : decide (40 < xvalues.length) = true := decide_eq_true hl
    go_enter Try.func4, Try.ntmps4
    go_wp2_with (go_at_call 23; (with_reducible refine (known_any _).mono ?_); rintro e w1 ⟨rfl, hb1⟩)
    go_ret
    exact ⟨rfl, step_ (new_ (Below.refl _ _) _) hb1⟩
  have d1 : decide (40 < (xvalues.length : Int)) = false := decide_eq_false (by omega)
  have d1' : decide (40 < xvalues.length) = false := decide_eq_false hl
  by_cases hm : 40 < xmore.length
  · have d2 : decide (40 < (xmore.length : Int)) = true := decide_eq_true (by omega)
    have d2' : decide (40 < xmore.length) = true := decide_eq_true hm
    go_enter Try.func4, Try.ntmps4
    go_wp2_with (go_at_call 23; (with_reducible refine (known_any _).mono ?_); rintro e w1 ⟨rfl, hb1⟩)
    go_ret
    exact ⟨rfl, step_ (new_ (Below.refl _ _) _) hb1⟩
  have d2 : decide (40 < (xmore.length : Int)) = false := decide_eq_false (by omega)
  have d2' : decide (40 < xmore.length) = false := decide_eq_false hm
  go_enter Try.func4, Try.ntmps4
  go_upto_region 8 with (first
    | (go_at_call 23; (with_reducible refine (known_any _).mono ?_); rintro e w1 ⟨rfl, hb1⟩
       have O1 := Lib.hid (B0.out.later hb1)
       have L1 := Lib.hid (step_ (new_ (Below.refl w.heap.size w) (.cells #[.int .u8 op.kd, .int .u32 op.wh, .int .u32 op.wm, .int .u32 op.wt, .int .u32 op.id, .int .u64 op.n, .int .u64 op.pr] 32)) hb1)
       have LK := Lib.hid (LOOK.out w1 (.slice A xvalues.length c) xvalues ((HV.out.below L1.out).more L1.out.size) (fun c hc => ⟨OKS.out c hc, (OKS.out c hc).A.2⟩) (by omega))
       have y1 := O1.out.cell
       clear hb1 d1 d1' d2 d2')
    | (go_at_call 26; (with_reducible refine LK.out.mono ?_); rintro e w2 ⟨kv, sv, ks, seen, rfl, hls, hno⟩
       obtain ⟨A1, c1, rfl, h5, h6⟩ := (SS.of_own kyC_len hls.kr).form
       obtain ⟨A2, c2, rfl, h7, h8⟩ := (SS.of_own Ce.cells_len hls.sr).form
       obtain ⟨r, hr⟩ : ∃ r, opR op seen = r := ⟨_, rfl⟩
       have DOX := Lib.hid (DO.out w2 A2 seen.length c2 seen (SS.of_own Ce.cells_len hls.sr) (fun c hc => (hls.ok c hc).1) r hr)
       have DOM := Lib.hid (fun (W : World) (A : Option Addr) (l c : Nat) (hs : SeenAt W W.heap.size (.slice A l c) (seen ++ xmore)) => DO.out W A l c (seen ++ xmore) hs (fun x hx => by
         rcases List.mem_append.1 hx with hx | hx
         · exact (hls.ok x hx).1
         · exact OKM.out x hx) r (by rw [opR_more xmore hno, hr]))
       have DOP := Lib.hid (fun (W : World) (A : Option Addr) (l c n : Nat) (hn : n < seen.length) (hs : SeenAt W W.heap.size (.slice A l c) (seen.take n)) => (show Calls Try.prog 27 #[.agg #[.int .u8 op.kd, .int .u32 op.wh, .int .u32 op.wm, .int .u32 op.wt, .int .u32 op.id, .int .u64 op.n, .int .u64 op.pr], .slice A l c] W fun en w' => ∃ A' l' c', en = .returned (.tuple #[.slice A' l' c', .agg #[.int .u16 1, .int .u64 0, .int .u64 0, .int .u64 0]]) ∧ w'.ownsRow W.heap.size 51 6 (.slice A' l' c') 0 [] ∧ Below W.heap.size W w' by
         obtain ⟨k, a, b, hm⟩ := hls.pre n hn
         exact DO.out W A l c (seen.take n) hs (fun x hx => (hls.ok x (List.mem_of_mem_take hx)).1) _ hm))
       have OUT := Lib.hid (show (dOut r).2.1 = 0 ∨ (dOut r).1 = [] by rw [← hr]; exact out_err)
       have SHORT := Lib.hid (show ks.length = seen.length ∧ seen.length ≤ 12 from ⟨hls.len, hls.short⟩)
       have SR2 := Lib.hid hls.sr
       have O2 := Lib.hid (O1.out.later hls.bel)
       have L2 := Lib.hid (step_ L1.out hls.bel)
       have y2 := O2.out.cell
       clear hls hno y1 hr)
    | (go_at_call 27; (with_reducible refine DOX.out.mono ?_); rintro e w3 ⟨A3, l3, c3, rfl, how, hb3⟩
       have OW3 := Lib.hid how
       have SR3 := Lib.hid (own_below SR2.out hb3)
       have O3 := Lib.hid (O2.out.later hb3)
       have L3 := Lib.hid (step_ L2.out hb3)
       clear how hb3 y2))
  obtain ⟨PL, hPL⟩ : ∃ PL, (dOut r).1 = PL := ⟨_, rfl⟩
  obtain ⟨E, hE⟩ : ∃ E, (dOut r).2.1 = E := ⟨_, rfl⟩
  obtain ⟨RA, hRA⟩ : ∃ E, (dOut r).2.2.A = E := ⟨_, rfl⟩
  obtain ⟨RB, hRB⟩ : ∃ E, (dOut r).2.2.B = E := ⟨_, rfl⟩
  obtain ⟨RC, hRC⟩ : ∃ E, (dOut r).2.2.C = E := ⟨_, rfl⟩
  rw [hPL, hE, hRA, hRB, hRC] at DOM
  rw [hPL, hE] at OUT
  rw [hPL] at OW3
  simp only [hE, hRA, hRB, hRC]
  clear hPL hE hRA hRB hRC DOX LK LOOK DO O1 O2 L1 L2 SR2
  obtain ⟨W4, hW4⟩ : ∃ W4, w3.alloc (.cells #[.int .u16 E, .int .u64 RA, .int .u64 RB, .int .u64 RC] 41) = W4 := ⟨_, rfl⟩
  have b4 := (new_ (Below.refl w3.heap.size w3) (.cells #[.int .u16 E, .int .u64 RA, .int .u64 RB, .int .u64 RC] 41))
  rw [hW4] at b4
  have RB4 := Lib.hid (show Box W4 w3.heap.size #[.int .u16 E, .int .u64 RA, .int .u64 RB, .int .u64 RC] 41 by rw [← hW4]; exact Box.new _ _ _)
  have SR4 := Lib.hid (own_below SR3.out b4)
  have OW4 := Lib.hid (SS.of_own Pu.cells_len (own_below OW3.out b4))
  have O4 := Lib.hid (O3.out.later b4)
  have L4 := Lib.hid (step_ L3.out b4)
  rw [hW4]
  clear hW4 b4 SR3 OW3 O3 L3
  have hln := SHORT.out
  go_upto_region 10 with (first
    | (at_builtin; refine wpList_append_ss (F := Ce.cells) (sz := 6) _ rfl _ _ _ rfl W4.heap.size 49 ic _ 40 Try.underlying33 hc0 hc1 hc2 hc3 rfl (by decide) Ce.cells_len Ce.cells_one _ ([] : List Ce) rfl (World.ownsRow_nil _ _ _ _) W4.heap.size _ seen rfl (SS.of_own Ce.cells_len SR4.out) (by unfold maxLen; simp; omega) (by simp; omega) (Nat.le_refl _) ?_; intro v5 W5 h5own t5
       have B5 := Lib.hid t5.all
       have M5 := Lib.hid ((HM.out.below L4.out).below (t5.all.mono L4.out.size)))
    | (at_builtin; refine wpList_append_ss (F := Ce.cells) (sz := 6) _ rfl _ _ _ rfl W4.heap.size 49 ic _ 40 Try.underlying33 hc0 hc1 hc2 hc3 rfl (by decide) Ce.cells_len Ce.cells_one _ ([] ++ seen) rfl h5own w.heap.size _ xmore rfl M5.out (by unfold maxLen; simp; omega) (by simp; omega) B5.out.size ?_; intro v6 W6 h6own t6
       have B6 := Lib.hid (B5.out.trans (t6.below (B := W4.heap.size) (fun x e => (h5own.lt x e).1) B5.out.size))
       clear t5 t6 h5own M5 B5))
  rw [List.nil_append] at h6own
  obtain ⟨al, hal⟩ : ∃ al, seen ++ xmore = al := ⟨_, rfl⟩
  rw [hal] at h6own DOM
  clear hal
  obtain ⟨A6, c6, rfl, h9, h10⟩ := (SS.of_own Ce.cells_len h6own).form
  have DO2 := Lib.hid (DOM.out W6 A6 al.length c6 (SS.of_own Ce.cells_len h6own))
  have O6 := Lib.hid (O4.out.later B6.out)
  have y6 := O6.out.cell
  clear h6own h9 h10
  obtain ⟨A3', c3', e3, h11, h12⟩ := OW4.out.form
  injection e3 with e4 e5 e6
  subst e4 e5 e6
  unfold maxLen at h12
  go_upto_region 11 with (go_at_call 27; (with_reducible refine DO2.out.mono ?_); rintro e w7 ⟨A7, l7, c7, rfl, how, hb7⟩; have OW7 := Lib.hid how; have HB7 := Lib.hid hb7; clear how hb7 y6)
  clear DO2 DOM
  obtain ⟨W8, hW8⟩ : ∃ W8, w7.alloc (.cells #[.int .u16 E, .int .u64 RA, .int .u64 RB, .int .u64 RC] 41) = W8 := ⟨_, rfl⟩
  have b8 := (new_ (Below.refl w7.heap.size w7) (.cells #[.int .u16 E, .int .u64 RA, .int .u64 RB, .int .u64 RC] 41))
  rw [hW8] at b8
  have B8 := Lib.hid (show Below W4.heap.size W4 W8 from step_ (step_ B6.out HB7.out) b8)
  have RB8 := Lib.hid (show Box W8 w7.heap.size #[.int .u16 E, .int .u64 RA, .int .u64 RB, .int .u64 RC] 41 by rw [← hW8]; exact Box.new _ _ _)
  have P8 := Lib.hid (SS.of_own Pu.cells_len (own_below OW7.out b8))
  obtain ⟨A7', c7', e7, h13, h14⟩ := P8.out.form
  injection e7 with e8 e9 e10
  subst e8 e9 e10
  have R8 := Lib.hid (RB4.out.later B8.out)
  have Q8 := Lib.hid ((OW4.out.below B8.out).more B8.out.size)
  have SAME := Lib.hid (same_puts W8 _ _ PL Q8.out P8.out)
  have O8 := Lib.hid (O4.out.later B8.out)
  have SR8 := Lib.hid (own_below SR4.out B8.out)
  have L8 := Lib.hid (L4.out.trans (B8.out.mono L4.out.size))
  rw [hW8]
  clear hW8 b8 OW7 HB7 B6 O6 RB4 OW4 O4 SR4 L4 B8
  have D12 : decide (12 < (ks.length : Int)) = false := decide_eq_false (by omega)
  have D12' : decide (12 < ks.length) = false := decide_eq_false (by omega)
  have D13 : decide (12 < (seen.length : Int)) = false := decide_eq_false (by omega)
  have D13' : decide (12 < seen.length) = false := decide_eq_false (by omega)
  have hways : E = 0 ∨ ((E = 0) = False ∧ decide (0 < (PL.length : Int)) = false ∧ decide (0 < PL.length) = false) := by
    by_cases h0 : E = 0
    · exact .inl h0
    · rcases OUT.out with h | h
      · exact absurd h h0
      · exact .inr ⟨eq_false h0, by simp [h], by simp [h]⟩
  clear OUT
  rcases hways with rfl | ⟨e0, e1, e2⟩
  all_goals
    go_upto_region 13 with (go_at_call 28; (with_reducible refine SAME.out.mono ?_); rintro e w9 ⟨rfl, hb9⟩
                            have r9 := (R8.out.later hb9).cell
                            have s9 := (RB8.out.later hb9).cell
                            have HB9 := Lib.hid hb9
                            clear hb9)
    clear r9 s9
    go_wp2
    go_loopw [15] (fun i wr => ∃ n : Nat, n ≤ seen.length ∧ i = .int .i64 n ∧ Hid (Below W8.heap.size W8 wr)) (fun i _ => seen.length - (intOf i).toNat)
    case atStart => exact ⟨0, by omega, rfl, HB9⟩
    case round =>
      clear HB9
      obtain ⟨n, hn, rfl, HB⟩ := hrel
      by_cases hlt : n < seen.length
      · have q1 : decide ((n : Int) < (seen.length : Int)) = true := by simp; omega
        have q2 : decide (n < seen.length) = true := by simp; omega
        have q3 : decide (n ≤ c2) = true := by simp; omega
        have DOPN := Lib.hid (fun W (hb : Below wr.heap.size wr W) => DOP.out W A2 n c2 n hlt ((SS.of_own Ce.cells_len (own_below SR8.out (step_ HB.out hb))).take n (by omega)))
        have OC := Lib.hid (fun W (hb : Below wr.heap.size wr W) => (O8.out.later (step_ HB.out hb)).cell)
        have yr := OC.out wr (Below.refl _ _)
        have HLT := Lib.hid hlt
        have hnc : n ≤ c2 := by omega
        clear hlt
        go_upto_region 16 with fail
        have yr2 := OC.out (wr.alloc (.cells #[.int .u16 0, .int .u64 0, .int .u64 0, .int .u64 0] 41)) (new_ (Below.refl _ _) _)
        go_region_with (go_at_call 27; (with_reducible refine (DOPN.out _ (by first | exact Below.drew (Below.refl _ _) | exact Below.drew (new_ (Below.refl _ _) _))).mono ?_); rintro e w10 ⟨A9, l9, c9, rfl, how, hb10⟩; try (have rb := (Box.new wr #[.int .u16 0, .int .u64 0, .int .u64 0, .int .u64 0] 41).drew.later hb10; have rc := rb.cell; have rf := rb.frozen))
        all_goals
          obtain rfl : l9 = 0 := len_none how
          clear how
          first
          | (obtain ⟨W11, hW⟩ : ∃ W11, w10.alloc (.cells #[.int .u16 1, .int .u64 0, .int .u64 0, .int .u64 0] 41) = W11 := ⟨_, rfl⟩
             rw [hW]
             have b11 := Lib.hid (show Box W11 w10.heap.size #[.int .u16 1, .int .u64 0, .int .u64 0, .int .u64 0] 41 by rw [← hW]; exact Box.new w10 _ _)
             have B11 := Lib.hid (show Below wr.heap.size wr W11 by rw [← hW]; exact new_ (step_ (Below.drew (Below.refl _ _)) hb10) _)
             have yb := b11.out.cell
             clear hW
             go_wp2
             exact ⟨⟨n + 1, by have := HLT.out; omega, rfl, Lib.hid (step_ HB.out B11.out)⟩, by have := HLT.out; simp [intOf]; omega⟩)
          | (obtain ⟨W11, hW⟩ : ∃ W11, (((w10.setCell ⟨wr.heap.size, 0, none⟩ (.int .u16 1)).setCell ⟨wr.heap.size, 1, none⟩ (.int .u64 0)).setCell ⟨wr.heap.size, 2, none⟩ (.int .u64 0)).setCell ⟨wr.heap.size, 3, none⟩ (.int .u64 0) = W11 := ⟨_, rfl⟩
             rw [hW]
             have b11 := Lib.hid (show Box W11 wr.heap.size #[.int .u16 1, .int .u64 0, .int .u64 0, .int .u64 0] 41 by rw [← hW]; exact (((rb.set_ 0 _).set_ 1 _).set_ 2 _).set_ 3 _)
             have A3 := (((((Fr.refl (fun x => x = wr.heap.size) w10).setCell (p := ⟨wr.heap.size, 0, none⟩) (.inl rfl) (.int .u16 1)).setCell (p := ⟨wr.heap.size, 1, none⟩) (.inl rfl) (.int .u64 0)).setCell (p := ⟨wr.heap.size, 2, none⟩) (.inl rfl) (.int .u64 0)).setCell (p := ⟨wr.heap.size, 3, none⟩) (.inl rfl) (.int .u64 0)).to_below (B := wr.heap.size) (fun k e => by omega) (Nat.le_of_lt rb.lt)
             rw [hW] at A3
             have B11 := Lib.hid ((step_ (Below.drew (new_ (Below.refl wr.heap.size wr) _)) hb10).trans A3)
             clear A3 rb rc rf
             have yb := b11.out.cell
             clear hW
             go_wp2
             exact ⟨⟨n + 1, by have := HLT.out; omega, rfl, Lib.hid (step_ HB.out B11.out)⟩, by have := HLT.out; simp [intOf]; omega⟩)
      · have q1 : decide ((n : Int) < (seen.length : Int)) = false := by simp; omega
        have q2 : decide (n < seen.length) = false := by simp; omega
        go_wp2
        go_ret
        exact ⟨rfl, L8.out.trans (HB.out.mono L8.out.size)⟩


set_option maxRecDepth 100000 in
theorem lifted (os : Os) (started : os.Started) (H : Type) (enc : TypeId × Value → H) :
    ReturnsInHanded {} Try.checked os 4 .any (Rows.ruleEndsSpec.pre6 enc Try.prog Try.f4 Rows.ruleEndsRow.domain false) (Rows.ruleEndsSpec.post enc Try.prog Try.f4 false true false false) := by
  refine returnsInHanded_of_change (C := Try.checked) own started (by kernel_rfl) Try.func4
    (ChangeSpec.witness6 (enc := enc) (C := Try.checked) false ⟨#[], #[.agg #[.int .u8 0, .int .u32 0, .int .u32 0, .int .u32 0, .int .u32 0, .int .u64 0, .int .u64 0], .slice none 0 0, .slice none 0 0], []⟩ 8 (by kernel_rfl) (by kernel_rfl) (by kernel_rfl) (by kernel_rfl)) ?_
  intro W base args ds gs before hval0 hW hcnd _
  have hval : ∀ (j : Nat) t v, Try.f4.params[j]? = some t → args[j]? = some v → Value.okWide Try.prog W .any base t v := hval0
  have hW' := hW
  obtain ⟨p, q, hA0, hV, rfl, hfz, hnd⟩ := hW
  have hA1 : DataW.TrodAll enc Try.prog W 0 (fun _ => true) true Try.f4.params.toList args.toList ds p := hA0
  have hA := hA1
  rw [Try.params4] at hA hval
  obtain ⟨v0, vs0, d0, ds0, p0, q0, hargs, rfl, rfl, h0, r0⟩ := trodAll_cons hA
  obtain ⟨v1, vs1, d1, ds1, p1, q1, rfl, rfl, rfl, h1, r1⟩ := trodAll_cons r0
  obtain ⟨v2, vs2, d2, ds2, p2, q2, rfl, rfl, rfl, h2, r2⟩ := trodAll_cons r1
  obtain ⟨rfl, rfl, rfl⟩ := trodAll_nil r2
  obtain rfl : args = #[v0, v1, v2] := by cases args; simp_all
  obtain ⟨rfl, rfl⟩ := trodVars_none hV
  obtain ⟨op, ok0, rfl⟩ := Rule.open_op (hval 0 32 v0 rfl rfl) h0
  obtain ⟨xvalues, i1, wf1⟩ := Rule.open_cells (hval 1 33 v1 rfl rfl) h1
  obtain ⟨xmore, i2, wf2⟩ := Rule.open_cells (hval 2 33 v2 rfl rfl) h2
  clear hA0 hval0
  refine (walk W op ok0 v1 xvalues i1 wf1 v2 xmore i2 wf2).mono fun e W' ⟨he, bel⟩ => ?_
  subst he
  exact ⟨_, rfl, _, _, _, [], _, [], hW', trodAll_mk1 (shut_bool Try.underlying4 _), args_again laidOut bel (by kernel_rfl) hA1, rfl, bel.frame _, fun h => by cases h⟩

theorem over : Rows.ruleEndsRow.holds Try.pinned (OpenSpec.ofChange Rows.ruleEndsSpec) :=
  OpenClaim.holds_of_wide 4 Try.f4 rfl rfl rfl rfl rfl rfl rfl ⟨rfl, rfl, rfl, rfl, rfl⟩ rfl rfl rfl rfl rfl (by kernel_rfl) Try.func4 (by kernel_rfl)
    (of_decide_eq_true (by kernel_rfl)) (by unfold Func.isWrapper; first | (rw [if_pos (by decide +kernel)]; kernel_rfl) | (rw [if_neg (by decide +kernel)]; exact ⟨rfl, rfl⟩))
    (fun os started H enc _ => lifted os started H enc)

theorem proved : Rows.RuleEndsSaid := over
end Go.Proofs.Ytneaehimdmachaa.LRuleEnds
