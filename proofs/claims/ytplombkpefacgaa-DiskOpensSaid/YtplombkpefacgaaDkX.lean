import Derived.Test.YtplombkpefacgaaDlA
import Derived.Test.YtplombkpefacgaaDkE
import Derived.Test.YtplombkpefacgaaTab2
import Derived.Deep.CutRange
/- The document's Crash. -/
namespace Go.Proofs.Ytplombkpefacgaa.Disk
open Go.ChangeShapes Go.WideShapes Go.ChangeAt Go.RowKit Go.IntWalk Go.Proofs.Mem Go.Proofs.Each
set_option linter.unusedVariables false
set_option linter.unusedSimpArgs false
/-- a device behind the document's Crash: the number of calls left stays -/
def Dv.rcrash (D : Dv) (l : List Ft) : Dv := { D.crTo l 2 0 with lim := false, dead := false }
theorem rcrash_eq (D : Dv) (l : List Ft) : D.rcrash l = ({ D with lim := false, dead := false } : Dv).crTo l 2 0 := rfl
@[reducible] def cF (y : Ft) : Array Value := #[.int .u8 y.file, .int .i64 y.sec, .int .i64 y.keep, .int .i64 y.torn]
theorem fate_drop {l : List Ft} {k : Nat} {x : Ft} (hx : l[k]? = some x) (f s : Int) : fateAt (l.drop k) f s = if x.file = f ∧ x.sec = s then x else fateAt (l.drop (k + 1)) f s := by
  obtain ⟨hk, rfl⟩ := List.getElem?_eq_some_iff.1 hx
  rw [List.drop_eq_getElem_cons hk]
  unfold fateAt
  rw [List.find?_cons]
  by_cases h : l[k].file = f ∧ l[k].sec = s
  · rw [if_pos h, show hits f s l[k] = true by simp [hits, h.1, h.2]]; rfl
  · rw [if_neg h, show hits f s l[k] = false by simpa [hits] using h]
theorem crash_bare (s : Se) (K T : Int) : s.crash K T = ⟨(s.crash K T).last, []⟩ := by unfold Se.crash; split <;> rfl
/-- what is left of a sector, ahead of its storing back: its copy's block sb -/
def Lft (wj wx : World) (col : Nat → Nat) (k sb : Nat) (v : Value) (zs : List Int) : Prop :=
  ∃ g4 c4, Box wx sb #[.slice (some ⟨g4, 0, none⟩) 128 c4, v] 74 ∧ Below wj.heap.size wj wx ∧ wx.ownsRow 0 5 1 (.slice (some ⟨g4, 0, none⟩) 128 c4) 128 (zs.map (.int .u8)) ∧ (g4 < wj.heap.size → col g4 = k) ∧ zs.length = 128 ∧ Bytes zs
set_option maxRecDepth 100000 in
set_option maxHeartbeats 16000000 in
theorem rcrash_yes {w : World} {S : Nat → Prop} {b : Nat} {D : Dv} {col : Nat → Nat} {fv : Nat → Value} {uv : Nat → List Pl} (h : DR w S b D col fv uv) (v : Value) (l : List Ft) (hv : ∀ w', Fr S w w' → SS cFt 4 w' w'.heap.size v l) (ho : ∀ x ∈ l, x.Ok) (hl : l.length ≤ 100000) (hw : ∀ i, i < 2 → ∀ s ∈ D.f i, s.wait.length ≤ 100000) :
    Calls Try.prog 35 #[.pointer (some ⟨b, 0, none⟩), v] w fun e w' => e = .returned (.tuple #[]) ∧ (∃ col' uv', DR w' (growS w w' S) b (D.rcrash l) col' fv uv') ∧ Fr S w w' := by
  obtain ⟨N, hN⟩ : ∃ N, N = l.length := ⟨_, rfl⟩
  obtain ⟨VA, VC, rfl, hvc, hvm⟩ := (hv w (Fr.refl _ _)).form
  rw [← hN] at hl hvc
  rw [rcrash_eq]
  have k2 : w.cell? ⟨b, 2, none⟩ = some (.bool D.lim) := h.box.cell 2
  have k4 : w.cell? ⟨b, 4, none⟩ = some (.bool D.dead) := h.box.cell 4
  have f2 := h.box.frozen 2
  have f4 := h.box.frozen 4
  have hb1 := (h.box.set_ 2 (.bool false)).set_ 4 (.bool false)
  have hf1 := Fr.setCell (Fr.setCell (Fr.refl (fun x => x = b) w) (p := ⟨b, 2, none⟩) (.inl rfl) (.bool false)) (p := ⟨b, 4, none⟩) (.inl rfl) (.bool false)
  simp only [List.setIfInBounds_toArray, List.set_cons_zero, List.set_cons_succ] at hb1
  obtain ⟨w1, hw1⟩ : ∃ w1, (w.setCell ⟨b, 2, none⟩ (.bool false)).setCell ⟨b, 4, none⟩ (.bool false) = w1 := ⟨_, rfl⟩
  rw [hw1] at hb1 hf1
  have h1 := h.head hf1 false D.left false h.left hb1
  obtain ⟨E, hE⟩ : ∃ E : Dv, E = { D with lim := false, dead := false } := ⟨_, rfl⟩
  have hEf : ∀ i, E.f i = D.f i := fun i => by rw [hE]
  have h1' : DR w1 S b E col fv uv := by rw [hE]; exact h1
  rw [← hE]
  have HV := Lib.hid hv
  have HH := Lib.hid h
  have H1 := Lib.hid h1'
  have F1 := Lib.hid (hf1.mono (S' := S) (fun k _ hk => by rw [hk]; exact h.here))
  have HWT := Lib.hid (show ∀ i, i < 2 → ∀ s ∈ E.f i, s.wait.length ≤ 100000 from fun i hi s hs => hw i hi s (by rw [← hEf]; exact hs))
  have HN := Lib.hid hN
  have HO := Lib.hid ho
  clear h hv ho hw h1 h1' hb1 hf1 hE hEf
  try rw [← hN]
  clear hN
  go_enter Try.func35, Try.ntmps35
  go_wp2
  try rw [hw1]
  clear hw1 k2 k4 f2 f4
  go_loopw [4] (fun x wr => ∃ i : Nat, i ≤ 2 ∧ x = .int .i64 i ∧ Hid ((∃ col' uv', DR wr (growS w1 wr S) b (E.crTo l i 0) col' fv uv') ∧ Fr S w1 wr)) (fun x _ => 2 - (intOf x).toNat)
  case atStart => exact ⟨0, by decide, rfl, Lib.hid ⟨⟨col, uv, by rw [crTo_zero]; exact H1.out.grow⟩, Fr.refl _ _⟩⟩
  case round =>
    obtain ⟨i, hi, rfl, HO1⟩ := hrel
    by_cases hlt : i < 2
    · have di : decide ((i : Int) < 2) = true := by simp; omega
      have hi2 : (i : Int) < 2 := by omega
      obtain ⟨⟨col1, uv1, hd⟩, hfr⟩ := HO1.out
      obtain ⟨A, c, ev, hlc⟩ : ∃ A c, fv i = .slice A (E.f i).length c ∧ (E.f i).length ≤ c := by
        rcases (H1.out.file i hlt).row.1.2 with ⟨e, h0⟩ | ⟨g, cap, _, e, _, _, h1, _⟩
        · rw [h0]; exact ⟨none, 0, e, Nat.le_refl _⟩
        · exact ⟨_, cap, e, h1⟩
      obtain ⟨LN, hL⟩ : ∃ LN, LN = (E.f i).length := ⟨_, rfl⟩
      rw [← hL] at ev hlc
      have hmo : LN ≤ 4096 := by rw [hL]; exact H1.out.most i hlt
      have EV := Lib.hid ev
      have HL := Lib.hid hL
      have HI := Lib.hid hlt
      have START := Lib.hid (And.intro (⟨col1, uv1, hd⟩ : ∃ col' uv', DR wr (growS w1 wr S) b (E.crTo l i 0) col' fv uv') hfr)
      clear hd hfr ev hL HO1
      go_wp2
      go_loopw [5] (fun x wr => ∃ j : Nat, j ≤ LN ∧ x = .int .i64 j ∧ Hid ((∃ col' uv', DR wr (growS w1 wr S) b (E.crTo l i j) col' fv uv') ∧ Fr S w1 wr)) (fun x _ => LN - (intOf x).toNat)
      case atStart => exact ⟨0, Nat.zero_le _, rfl, START⟩
      case round =>
        clear START
        obtain ⟨j, hj, rfl, HR⟩ := hrel
        obtain ⟨wj, rfl⟩ : ∃ wj, wj = wr := ⟨wr, rfl⟩
        by_cases hlt2 : j < LN
        · obtain ⟨⟨col2, uv2, hd⟩, hfr⟩ := HR.out
          have hjl : j < (E.f i).length := by rw [← HL.out]; exact hlt2
          obtain ⟨g, cap, C, p, s, sp⟩ := (hd.file i HI.out).spot j (by rw [crTo_len]; exact hjl)
          have es : s = (E.f i)[j] := Option.some.inj (sp.hs.symm.trans (crTo_at E l i j hjl))
          have hwl : s.wait.length ≤ 100000 := HWT.out i HI.out s (by rw [es]; exact List.getElem_mem _)
          have eA : A = some ⟨g, 0, none⟩ := by
            have := sp.hv
            rw [EV.out] at this
            injection this
          subst eA
          have dj : decide ((j : Int) < (LN : Int)) = true := by simp; omega
          have kc : wj.cell? ⟨b, i, none⟩ = some (.slice (some ⟨g, 0, none⟩) LN c) := by
            rw [hd.box.cell i, ← EV.out]
            rcases two HI.out with h9 | h9 <;> (subst h9; rfl)
          obtain ⟨gu, cu, eu⟩ := sp.sec.form_u
          obtain ⟨Av, cv, evv, hlv⟩ := sp.sec.form_v
          obtain ⟨V, hV⟩ : ∃ V, V = p.2.2.length := ⟨_, rfl⟩
          rw [← hV] at evv hlv
          have k0 : wj.cell? ⟨g, j * 2, none⟩ = some p.1 := by rw [sp.box.cell, Nat.mul_comm]; exact sp.c0
          have k1 : wj.cell? ⟨g, j * 2 + 1, none⟩ = some p.2.1 := by rw [sp.box.cell, Nat.mul_comm]; exact sp.c1
          rw [eu] at k0
          rw [evv] at k1
          have SP := Lib.hid sp
          have HD := Lib.hid hd
          have HFR := Lib.hid hfr
          have ES := Lib.hid es
          have EU := Lib.hid eu
          have EVV := Lib.hid evv
          have HVL := Lib.hid hV
          have HVB := Lib.hid (show V ≤ 100000 by rw [hV, sp.sec.n]; exact hwl)
          obtain ⟨w2, hw2⟩ : ∃ w2, wj.alloc (.cells #[.slice (some ⟨gu, 0, none⟩) 128 cu, .slice Av V cv] 74) = w2 := ⟨_, rfl⟩
          obtain ⟨w3, hw3⟩ : ∃ w3, w2.alloc (.cells #[.int .u8 0, .int .i64 0, .int .i64 0, .int .i64 0] 50) = w3 := ⟨_, rfl⟩
          have hz2 : w2.heap.size = wj.heap.size + 1 := by rw [← hw2]; simp
          have hz3 : w3.heap.size = wj.heap.size + 2 := by rw [← hw3]; simp [hz2]
          have HB3 := Lib.hid (show Below wj.heap.size wj w3 by rw [← hw3, ← hw2]; exact new_ (new_ (Below.refl _ _) _) _)
          have BS3 := Lib.hid (show Box w3 wj.heap.size #[.slice (some ⟨gu, 0, none⟩) 128 cu, .slice Av V cv] 74 by rw [← hw3, ← hw2]; exact (Box.new _ _ _).alloc _)
          have BF3 := Lib.hid (show Box w3 (wj.heap.size + 1) (cF (fateAt (l.drop N) i j)) 50 by
            have h9 := Box.new w2 (cF noFt) 50
            rw [hz2] at h9
            rw [HN.out, List.drop_eq_nil_of_le (Nat.le_refl _), ← hw3]
            exact h9)
          have HZ3 := Lib.hid hz3
          have wn1 : wrap64 ((N : Int) - 1) = (N : Int) - 1 := wrap64_in _ (by omega)
          have HW2 := Lib.hid hw2
          have HW3 := Lib.hid hw3
          clear hd hfr sp es eu evv hwl hV HR hlv hw2 hw3 hz2 hz3
          go_wp2
          rw [HW2.out, HW3.out]
          clear kc k0 k1 HW2 HW3
          go_loopw [8] (fun x wr => ∃ (m : Nat) (z : Int), m ≤ N ∧ x = .int .i64 z ∧ z = (m : Int) - 1 ∧ Hid (Box wr (wj.heap.size + 1) (cF (fateAt (l.drop m) i j)) 50 ∧ Fr (fun x => x = wj.heap.size + 1) w3 wr)) (fun x _ => (intOf x + 1).toNat)
          case atStart => exact ⟨N, _, Nat.le_refl _, rfl, by omega, Lib.hid ⟨BF3.out, Fr.refl _ _⟩⟩
          case round =>
            obtain ⟨m, z, hm, rfl, hz, HK⟩ := hrel
            cases m with
            | zero =>
              obtain rfl : z = -1 := by omega
              have dm : decide (0 ≤ (-1 : Int)) = false := by decide
              have BF := Lib.hid HK.out.1
              have HF := Lib.hid HK.out.2
              rw [List.drop_zero] at BF
              clear HK hz hm
              obtain ⟨y, hy⟩ : ∃ y, y = fateAt l i j := ⟨_, rfl⟩
              rw [← hy] at BF
              have HY := Lib.hid hy
              obtain ⟨K, hK⟩ : ∃ K, K = y.keep := ⟨_, rfl⟩
              obtain ⟨n, hn⟩ : ∃ n, n = kp K V := ⟨_, rfl⟩
              have kf2 : wr.cell? ⟨wj.heap.size + 1, 2, none⟩ = some (.int .i64 K) := by rw [hK]; exact BF.out.cell 2
              have BS := Lib.hid (BS3.out.fr HF.out (by omega))
              have kv : wr.cell? ⟨wj.heap.size, 1, none⟩ = some (.slice Av V cv) := BS.out.cell 1
              have HKE := Lib.hid hK
              clear hy hK
              go_upto_region 15 with fail
              go_cut [9] (fun v wx => v = .int .i64 n ∧ wr = wx)
              case first =>
                have hVb := HVB.out
                by_cases hK0 : K < 0
                · have : n = 0 := by rw [hn]; unfold kp; omega
                  subst this
                  clear hn
                  go_wp2
                  go_meet
                  exact ⟨rfl, rfl⟩
                · by_cases hKV : K ≤ V
                  · have : (n : Int) = K := by rw [hn]; unfold kp; omega
                    clear hn
                    go_wp2
                    go_meet
                    exact ⟨by rw [this], rfl⟩
                  · have : n = V := by rw [hn]; unfold kp; omega
                    clear hn
                    go_wp2
                    go_meet
                    exact ⟨by rw [this], rfl⟩
              case rest =>
                obtain ⟨rfl, rfl⟩ := hcut
                have HNK := Lib.hid hn
                have hnV : n ≤ V := by rw [hn]; unfold kp; omega
                have HBR := Lib.hid (show Below wj.heap.size wj wr from HB3.out.trans (HF.out.to_below (B := wj.heap.size) (fun k hk => by omega) (by have := HZ3.out; omega)))
                have hkeep := SP.out.sec.keep n (by rw [← HVL.out]; exact hnV)
                obtain ⟨z, hz⟩ : ∃ z, z = (if n = 0 then p.1 else p.2.2.getD (n - 1) p.1) := ⟨_, rfl⟩
                rw [← hz] at hkeep
                obtain ⟨gz, cz, ez, _⟩ := own_g hkeep.1.1 (by decide)
                subst ez
                obtain ⟨zs, hzs⟩ : ∃ zs, zs = s.keep n := ⟨_, rfl⟩
                rw [← hzs] at hkeep
                have HKP := Lib.hid hkeep
                have HZS := Lib.hid hzs
                have HZ := Lib.hid hz
                have HNV := Lib.hid hnV
                have OW := Lib.hid (own_below SP.out.sec.wait.1 HBR.out)
                clear hn hkeep hzs hz kf2 hnV
                have f0s := BS.out.frozen 0
                have k0s : wr.cell? ⟨wj.heap.size, 0, none⟩ = some (.slice (some ⟨gu, 0, none⟩) 128 cu) := BS.out.cell 0
                go_upto_if 79 with fail
                go_cut [9] (fun v wx => v = .int .i64 n ∧ Hid (Box wx wj.heap.size #[.slice (some ⟨gz, 0, none⟩) 128 cz, .slice Av V cv] 74 ∧ Fr (fun x => x = wj.heap.size) wr wx))
                case first =>
                  by_cases h0 : n = 0
                  · subst h0
                    have HZ0 := HZ.out
                    rw [if_pos rfl, EU.out] at HZ0
                    injection HZ0 with e1 e2 e3
                    injection e1 with e1
                    injection e1 with e1
                    subst e1 e3
                    go_wp2
                    go_meet
                    exact ⟨rfl, Lib.hid ⟨BS.out, Fr.refl _ _⟩⟩
                  · have hlt9 : n - 1 < p.2.2.length := by have := HNV.out; have := HVL.out; omega
                    have HZ1 := HZ.out
                    rw [if_neg h0, List.getD_eq_getElem?_getD, List.getElem?_eq_getElem hlt9] at HZ1
                    simp only [Option.getD_some] at HZ1
                    have ow := OW.out
                    rw [EVV.out, ← HVL.out] at ow
                    obtain ⟨gv, cv', eva, hcv⟩ := own_g ow (by have := HNV.out; omega)
                    injection eva with eva1 eva2 eva3
                    subst eva1 eva3
                    obtain ⟨m, hm⟩ : ∃ m, m = n - 1 := ⟨_, rfl⟩
                    have kx : wr.cell? ⟨gv, m, none⟩ = some (.slice (some ⟨gz, 0, none⟩) 128 cz) := by
                      rw [hm, ow.cellAt (n - 1) (by have := HVL.out; omega), List.getElem?_eq_getElem hlt9, HZ1]
                    have d1 : decide (0 < (n : Int)) = true := by simp; omega
                    have d1n : decide (0 < n) = true := by simp; omega
                    have hVb := HVB.out
                    have hnv := HNV.out
                    have wn : wrap64 ((n : Int) - 1) = (m : Int) := by rw [wrap64_in _ (by omega)]; omega
                    have wn' : IntKind.i64.wrap ((n : Int) - 1) = (m : Int) := by rw [IntWalk.i64_in _ (by omega)]; omega
                    have hm1 : m < V := by omega
                    have hcv2 : V ≤ cv := hcv
                    have hpos : 0 < n := by omega
                    clear hm hlt9 HZ1 ow hcv hVb hnv h0
                    go_wp2
                    go_meet
                    exact ⟨rfl, Lib.hid ⟨by have h9 := BS.out.set_ 0 (.slice (some ⟨gz, 0, none⟩) 128 cz); simpa only [List.setIfInBounds_toArray, List.set_cons_zero, List.set_cons_succ] using h9, Fr.setCell (Fr.refl (fun x => x = wj.heap.size) wr) (p := ⟨wj.heap.size, 0, none⟩) (.inl rfl) _⟩⟩
                case rest =>
                  obtain ⟨rfl, HC5⟩ := hcut
                  have BS5 := Lib.hid HC5.out.1
                  have HF5 := Lib.hid HC5.out.2
                  have HB5 := Lib.hid (show Below wj.heap.size wj wc from HBR.out.trans (HC5.out.2.to_below (fun k hk => by omega) HBR.out.size))
                  have kv5 : wc.cell? ⟨wj.heap.size, 1, none⟩ = some (.slice Av V cv) := BS5.out.cell 1
                  have k05 : wc.cell? ⟨wj.heap.size, 0, none⟩ = some (.slice (some ⟨gz, 0, none⟩) 128 cz) := BS5.out.cell 0
                  have f05 := BS5.out.frozen 0
                  have RZ5 := Lib.hid (own_below HKP.out.1.1 HB5.out)
                  obtain ⟨T, hT⟩ : ∃ T, T = y.torn := ⟨_, rfl⟩
                  have kt5 : wc.cell? ⟨wj.heap.size + 1, 3, none⟩ = some (.int .i64 T) := by rw [hT]; exact (BF.out.fr HF5.out (by omega)).cell 3
                  have BT5 := Lib.hid (BF.out.fr HF5.out (by omega))
                  have HT := Lib.hid hT
                  clear HC5 kv k0s f0s hT
                  go_upto_if 91 with fail
                  go_cut [9] (fun v wx => v = .int .i64 n ∧ Hid (Lft wj wx col2 (fc i + 1 + j) wj.heap.size (.slice Av V cv) (s.crash K T).last))
                  case first =>
                    have hcr : (s.crash K T).last = if n < V then (s.wait.getD n []).take (tp T) ++ zs.drop (tp T) else zs := by
                      have e1 : s.wait.length = V := by rw [HVL.out, SP.out.sec.n]
                      unfold Se.crash
                      rw [e1, ← HNK.out, ← HZS.out]
                      split <;> rfl
                    have HCR := Lib.hid hcr
                    clear hcr
                    by_cases hV : n < V
                    · have dn : decide ((n : Int) < (V : Int)) = true := by simp; omega
                      have hnv : (n : Int) < V := by omega
                      have CL := Lib.hid (rlent_any (.slice (some ⟨gz, 0, none⟩) 128 cz) zs wc wc.heap.size (own_ir' RZ5.out HKP.out.2.1) (by rw [HKP.out.2.1]; decide))
                      rw [HKP.out.2.1] at CL
                      have HVV := Lib.hid hV
                      go_wp2_with fail
                      (with_reducible refine CL.out.mono ?_)
                      rintro e w6 ⟨u, rfl, hu, hb6⟩
                      obtain ⟨g4, row4, hg4, hl4⟩ := RowAt.of_own (xs := zs) (by rw [HKP.out.2.1]; exact hu) (by rw [HKP.out.2.1]; decide)
                      obtain ⟨c4, e4⟩ := row4.form
                      rw [HKP.out.2.1] at e4
                      subst e4
                      have hlv : n < p.2.2.length := by rw [← HVL.out]; exact hV
                      have hlw : n < s.wait.length := by rw [← SP.out.sec.n]; exact hlv
                      have hrow := SP.out.sec.row n _ _ (List.getElem?_eq_getElem hlv) (List.getElem?_eq_getElem hlw)
                      have hrl := SP.out.sec.lens _ (List.getElem_mem hlw)
                      have hrb := SP.out.sec.byts _ (List.getElem_mem hlw)
                      obtain ⟨xs, hxs⟩ : ∃ xs, xs = s.wait[n] := ⟨_, rfl⟩
                      rw [← hxs] at hrow hrl hrb
                      have HXS := Lib.hid (show s.wait.getD n [] = xs by rw [List.getD_eq_getElem?_getD, List.getElem?_eq_getElem hlw, hxs]; rfl)
                      obtain ⟨gx, cx, ex, hcx⟩ := own_g hrow.1 (by decide)
                      rw [ex] at hrow
                      have HB6 := Lib.hid (HB5.out.trans (hb6.mono HB5.out.size))
                      have IX6 := Lib.hid (show RowAt 5 w6 0 gx (.slice (some ⟨gx, 0, none⟩) 128 cx) xs from ⟨⟨cx, by rw [hrl]⟩, by rw [hrl]; exact own_below hrow.1 HB6.out⟩)
                      have ow := own_below SP.out.sec.wait.1 HB6.out
                      rw [EVV.out, ← HVL.out] at ow
                      obtain ⟨gv, cv', eva, hcv⟩ := own_g ow (by omega)
                      injection eva with eva1 eva2 eva3
                      subst eva1 eva3
                      have kx : w6.cell? ⟨gv, n, none⟩ = some (.slice (some ⟨gx, 0, none⟩) 128 cx) := by
                        rw [ow.cellAt n (by omega), List.getElem?_eq_getElem hlv, ex]
                      have HGV := Lib.hid (show gv < wj.heap.size from by
                        have h9 := SP.out.sec.wait.1
                        rw [EVV.out] at h9
                        exact (h9.lt gv rfl).2)
                      have HGX := Lib.hid (show gx < wj.heap.size from (hrow.1.lt gx rfl).2)
                      have KX := Lib.hid kx
                      have BS6 := Lib.hid (BS5.out.later hb6)
                      have BT6 := Lib.hid (BT5.out.later hb6)
                      have ROW4 := Lib.hid row4
                      have HG4 := Lib.hid (show wc.heap.size ≤ g4 ∧ wj.heap.size + 2 ≤ wc.heap.size from ⟨hg4, by have := HF.out.size; have := HF5.out.size; have := HZ3.out; omega⟩)
                      have HXL := Lib.hid hrl
                      have HXB := Lib.hid hrb
                      obtain ⟨tt, htt⟩ : ∃ tt, tt = tp T := ⟨_, rfl⟩
                      have HTT := Lib.hid htt
                      have ht128 : tt ≤ 128 := by rw [htt]; unfold tp; omega
                      clear kx hu hb6 row4 hg4 hl4 hrow hrl hrb hxs ex ow hlv hlw kv5 k05 f05 kt5 htt
                      go_wp2
                      go_loopw [11] (fun x wr => ∃ t : Nat, t ≤ tt ∧ x = .int .i64 t ∧ Hid (RowAt 5 wr 0 g4 (.slice (some ⟨g4, 0, none⟩) 128 c4) (xs.take t ++ zs.drop t) ∧ Fr (fun x => x = g4) w6 wr)) (fun x _ => 128 - (intOf x).toNat)
                      case atStart => exact ⟨0, Nat.zero_le _, rfl, Lib.hid ⟨row_low ROW4.out (Nat.zero_le _), Fr.refl _ _⟩⟩
                      case round =>
                        obtain ⟨tz, htz, rfl, HR6⟩ := hrel
                        have hne : g4 ≠ wj.heap.size + 1 ∧ g4 ≠ wj.heap.size ∧ g4 ≠ gv ∧ g4 ≠ gx := by
                          have := HG4.out; have := HGV.out; have := HGX.out; omega
                        have kt : wr.cell? ⟨wj.heap.size + 1, 3, none⟩ = some (.int .i64 T) := by rw [HT.out]; exact (BT6.out.fr HR6.out.2 (Ne.symm hne.1)).cell 3
                        have bs := BS6.out.fr HR6.out.2 (Ne.symm hne.2.1)
                        have kv : wr.cell? ⟨wj.heap.size, 1, none⟩ = some (.slice (some ⟨gv, 0, none⟩) V cv) := bs.cell 1
                        have k0 : wr.cell? ⟨wj.heap.size, 0, none⟩ = some (.slice (some ⟨gz, 0, none⟩) 128 cz) := bs.cell 0
                        have f0 := bs.frozen 0
                        have hfl : (xs.take tz ++ zs.drop tz).length = 128 := by rw [List.length_append, List.length_take, List.length_drop, HXL.out, HKP.out.2.1]; omega
                        have BSR := Lib.hid bs
                        have HRR := Lib.hid HR6.out
                        have HFL := Lib.hid hfl
                        have HNE := Lib.hid hne
                        by_cases hlt9 : tz < tt
                        · have d1 : decide ((tz : Int) < 128) = true := by simp; omega
                          have d2 : decide ((tz : Int) < T) = true := by
                            have := HTT.out
                            unfold tp at this
                            simp; omega
                          have hvw : gv < w6.heap.size := by have := HGV.out; have := HB6.out.size; omega
                          have hxw : gx < w6.heap.size := by have := HGX.out; have := HB6.out.size; omega
                          have kx : wr.cell? ⟨gv, n, none⟩ = some (.slice (some ⟨gx, 0, none⟩) 128 cx) := (HR6.out.2.cell (p := ⟨gv, n, none⟩) hvw (Ne.symm hne.2.2.1)).trans KX.out
                          have kb : wr.cell? ⟨gx, tz, none⟩ = some (.int .u8 (xs.getD tz 0)) := (HR6.out.2.cell (p := ⟨gx, tz, none⟩) hxw (Ne.symm hne.2.2.2)).trans (row_cell IX6.out tz (by rw [HXL.out]; omega))
                          have kr : ∃ q, wr.cell? ⟨g4, tz, none⟩ = some q := ⟨_, row_cell HR6.out.1 tz (by rw [hfl]; omega)⟩
                          obtain ⟨q4, kr⟩ := kr
                          have fr4 := row_frozen HR6.out.1 tz
                          have hput := HR6.out.1.put tz (xs.getD tz 0)
                          have eset : (xs.take tz ++ zs.drop tz).set tz (xs.getD tz 0) = xs.take (tz + 1) ++ zs.drop (tz + 1) := by
                            have h1 : tz < xs.length := by rw [HXL.out]; omega
                            have h2 : tz < zs.length := by rw [HKP.out.2.1]; omega
                            rw [List.set_append_right _ _ (by rw [List.length_take]; omega), List.length_take, Nat.min_eq_left (by omega), Nat.sub_self, List.drop_eq_getElem_cons h2, List.set_cons_zero, List.take_succ_eq_append_getElem h1, List.append_assoc, List.getD_eq_getElem?_getD, List.getElem?_eq_getElem h1]
                            rfl
                          rw [eset] at hput
                          generalize xs.getD tz 0 = xv at *
                          have HP := Lib.hid hput
                          have htz128 : (tz : Int) < 128 := by omega
                          have htzn : tz < 128 := by omega
                          have hcvV : V ≤ cv := hcv
                          have HLT := Lib.hid hlt9
                          clear hput eset hfl hne HR6 bs hvw hxw htz hlt9 k0 f0
                          go_wp2
                          go_roundw
                          case rel => exact ⟨tz + 1, by have := HLT.out; omega, by go_num, Lib.hid ⟨HP.out, Fr.setCell HRR.out.2 (p := ⟨g4, tz, none⟩) (.inl rfl) _⟩⟩
                          case measure => simp [intOf]; omega
                        · have etz : tz = tt := by omega
                          subst etz
                          have HFIN := Lib.hid (show Lft wj (wr.setCell ⟨wj.heap.size, 0, none⟩ (.slice (some ⟨g4, 0, none⟩) 128 c4)) col2 (fc i + 1 + j) wj.heap.size (.slice (some ⟨gv, 0, none⟩) V cv) (s.crash K T).last by
                            have hbx := bs.set_ 0 (.slice (some ⟨g4, 0, none⟩) 128 c4)
                            simp only [List.setIfInBounds_toArray, List.set_cons_zero, List.set_cons_succ] at hbx
                            refine ⟨g4, c4, hbx, ?_, ?_, fun h9 => ?_, ?_, ?_⟩
                            · exact (HB6.out.trans (HR6.out.2.to_below (B := wj.heap.size) (fun k hk => by have := HG4.out; omega) HB6.out.size)).trans (Fr.to_below (Fr.setCell (Fr.refl (fun x => x = wj.heap.size) wr) (p := ⟨wj.heap.size, 0, none⟩) (.inl rfl) _) (fun k hk => by omega) (by have := HB6.out.size; have := HR6.out.2.size; omega))
                            · have h9 := HR6.out.1.own
                              rw [hfl] at h9
                              rw [HCR.out, if_pos HVV.out, HXS.out, ← HTT.out]
                              exact own_set_far' h9 (fun e => by injection e with e; exact hne.2.1 e) _
                            · have := HG4.out; omega
                            · rw [HCR.out, if_pos HVV.out, HXS.out, ← HTT.out]; exact hfl
                            · rw [HCR.out, if_pos HVV.out, HXS.out, ← HTT.out]
                              intro a ha
                              rcases List.mem_append.1 ha with ha | ha
                              · exact HXB.out a (List.mem_of_mem_take ha)
                              · exact HKP.out.2.2 a (List.mem_of_mem_drop ha))
                          have hend : (tz : Int) < 128 → ¬ (tz : Int) < T := fun h1 h2 => by
                            have := HTT.out
                            unfold tp at this
                            omega
                          by_cases h128 : (tz : Int) < 128
                          · have d1 : decide ((tz : Int) < 128) = true := by simpa using h128
                            have d2 : decide ((tz : Int) < T) = false := by simpa using hend h128
                            clear hend HR6 hfl hne bs htz hlt9
                            go_wp2
                            go_meet
                            exact ⟨rfl, HFIN⟩
                          · have d1 : decide ((tz : Int) < 128) = false := by simpa using h128
                            clear hend HR6 hfl hne bs htz hlt9
                            go_wp2
                            go_meet
                            exact ⟨rfl, HFIN⟩
                    · have dn : decide ((n : Int) < (V : Int)) = false := by simp; omega
                      have hnv : ¬ (n : Int) < V := by omega
                      go_wp2
                      go_meet
                      exact ⟨rfl, Lib.hid (by rw [HCR.out, if_neg hV]; exact ⟨gz, cz, BS5.out, HB5.out, RZ5.out, fun h9 => HKP.out.1.2 gz rfl, HKP.out.2.1, HKP.out.2.2⟩)⟩
                  case rest =>
                    obtain ⟨rfl, HL5⟩ := hcut
                    obtain ⟨w7, rfl⟩ : ∃ w7, w7 = wc := ⟨wc, rfl⟩
                    obtain ⟨g4, c4, hs7, hb7, ho7, hc7, hl7, hy7⟩ := HL5.out
                    have k17 : w7.cell? ⟨wj.heap.size, 1, none⟩ = some (.slice Av V cv) := hs7.cell 1
                    have f17 := hs7.frozen 1
                    obtain ⟨w8, hw8⟩ : ∃ w8, w7.setCell ⟨wj.heap.size, 1, none⟩ (.slice none 0 0) = w8 := ⟨_, rfl⟩
                    have hs8 := hs7.set_ 1 (.slice none 0 0)
                    simp only [List.setIfInBounds_toArray, List.set_cons_zero, List.set_cons_succ] at hs8
                    have hf8 := Fr.setCell (Fr.refl (fun x => x = wj.heap.size) w7) (p := ⟨wj.heap.size, 1, none⟩) (.inl rfl) (.slice none 0 0)
                    have ho8 := own_set_far' ho7 (p := ⟨wj.heap.size, 1, none⟩) (fun e => by
                      injection e with e
                      rcases ho7.2 with ⟨h9, _⟩ | ⟨q, _, _, eq, _, hq, _⟩
                      · cases h9
                      · injection eq with eq
                        injection eq with eq
                        injection eq with eq
                        have h9 : w7.heap[wj.heap.size]? = some (.cells _ 74 (0, 0)) := hs7
                        simp only at e
                        rw [← e, eq, hq] at h9
                        injection h9 with h9
                        injection h9 with _ h9 _
                        exact absurd h9 (by decide)) (.slice none 0 0)
                    rw [hw8] at hs8 hf8 ho8
                    have hb8 : Below wj.heap.size wj w8 := hb7.trans (hf8.to_below (fun k hk => by omega) hb7.size)
                    have BS8 := Lib.hid hs8
                    have OW8 := Lib.hid ho8
                    have HB8 := Lib.hid hb8
                    have HC7 := Lib.hid hc7
                    have HL7 := Lib.hid (And.intro hl7 hy7)
                    have BG8 := Lib.hid (SP.out.box.later hb8)
                    have BB8 := Lib.hid (show Box w8 b (dC fv (E.crTo l i j).lim (E.crTo l i j).left (E.crTo l i j).dead) 72 from HD.out.box.later hb8)
                    have HCJ := Lib.hid (show (dC fv (E.crTo l i j).lim (E.crTo l i j).left (E.crTo l i j).dead)[i]? = some (.slice (some ⟨g, 0, none⟩) LN c) by rw [← EV.out]; rcases two HI.out with h9 | h9 <;> (subst h9; rfl))
                    clear hs7 hb7 ho7 hc7 hl7 hy7 hs8 hf8 ho8 hb8 HL5
                    go_upto_region 26 with fail
                    try rw [hw8]
                    clear hw8 k17 f17
                    refine wp_region_end (by kernel_rfl) (by kernel_rfl) 9 (fun _ _ => True) (fun W => Box W g ((C.setIfInBounds (j * 2) (.slice (some ⟨g4, 0, none⟩) 128 c4)).setIfInBounds (j * 2 + 1) (.slice none 0 0)) 74 ∧ Fr (fun x => x = g) w8 W) [(fun v _ => v = .pointer (some ⟨b, 0, none⟩)), (fun v _ => v = .int .i64 i), (fun v _ => v = .pointer (some ⟨b, 0, none⟩)), (fun v _ => v = .pointer (some ⟨b, 0, none⟩)), (fun v _ => v = .pointer (some ⟨b, i, none⟩)), (fun v _ => v = .slice (some ⟨g, 0, none⟩) LN c), (fun v _ => v = .int .i64 j), (fun v _ => v = .agg #[.slice (some ⟨g4, 0, none⟩) 128 c4, .slice none 0 0]), (fun v _ => v = .pointer (some ⟨g, j * 2, none⟩)), (fun v _ => v = undef)] (fun W W' hb h => ⟨h.1.later hb, h.2.below hb⟩) ?_ (fun vals => ?_) (fun vals W hfin hall => ?_) (by decide)
                    · intro j v W W' hj hr h
                      match j, hj, h with
                      | 0, _, h => exact h
                      | 1, _, h => exact h
                      | 2, _, h => exact h
                      | 3, _, h => exact h
                      | 4, _, h => exact h
                      | 5, _, h => exact h
                      | 6, _, h => exact h
                      | 7, _, h => exact h
                      | 8, _, h => exact h
                      | 9, hj, _ => exact absurd rfl hj
                      | _ + 10, _, _ => trivial
                    · simp only [ObL, Act.put, List.setIfInBounds_toArray, List.set_cons_succ, List.set_cons_zero]
                      refine ⟨?_, ?_, ?_, ?_, ?_, ?_, ?_, ?_, ?_, ?_, trivial⟩
                      · intro L W hL hk hC hw
                        clear hw
                        clear hL hC hk
                        refine step_plain rfl ?_
                        go_simp
                        first | exact ⟨Re.same (by decide), Fe.val (by decide) rfl rfl⟩ | exact ⟨_, rfl, Re.same (by decide), Fe.val (by decide) rfl rfl⟩
                      · intro L W hL hk hC hw
                        clear hw
                        clear hL hC hk
                        refine step_plain rfl ?_
                        go_simp
                        first | exact ⟨Re.same (by decide), Fe.val (by decide) rfl rfl⟩ | exact ⟨_, rfl, Re.same (by decide), Fe.val (by decide) rfl rfl⟩
                      · intro L W hL hk hC hw
                        have f0 : vals 0 = .pointer (some ⟨b, 0, none⟩) := Fe.get (hw ⟨0, .data⟩ (by simp) rfl) (by decide)
                        clear hw
                        clear hL hC hk
                        refine step_plain rfl ?_
                        go_simp
                        first | exact ⟨Re.same (by decide), Fe.val (by decide) rfl rfl⟩ | exact ⟨_, rfl, Re.same (by decide), Fe.val (by decide) rfl rfl⟩
                      · intro L W hL hk hC hw
                        have f2 : vals 2 = .pointer (some ⟨b, 0, none⟩) := Fe.get (hw ⟨2, .data⟩ (by simp) rfl) (by decide)
                        clear hw
                        clear hL hC hk
                        refine step_plain rfl ?_
                        go_simp
                        first | exact ⟨Re.same (by decide), Fe.val (by decide) rfl rfl⟩ | exact ⟨_, rfl, Re.same (by decide), Fe.val (by decide) rfl rfl⟩
                      · intro L W hL hk hC hw
                        have f3 : vals 3 = .pointer (some ⟨b, 0, none⟩) := Fe.get (hw ⟨3, .data⟩ (by simp) rfl) (by decide)
                        have f1 : vals 1 = .int .i64 i := Fe.get (hw ⟨1, .data⟩ (by simp) rfl) (by decide)
                        clear hw
                        clear hL hC hk
                        refine step_plain rfl ?_
                        go_simp
                        first | exact ⟨Re.same (by decide), Fe.val (by decide) rfl rfl⟩ | exact ⟨_, rfl, Re.same (by decide), Fe.val (by decide) rfl rfl⟩
                      · intro L W hL hk hC hw
                        have f4 : vals 4 = .pointer (some ⟨b, i, none⟩) := Fe.get (hw ⟨4, .data⟩ (by simp) rfl) (by decide)
                        clear hw
                        have hb := hC (hL.not_yet hk 9 8 (by decide +kernel))
                        have bx := BB8.out.later hb
                        have kc : W.cell? ⟨b, i, none⟩ = some (.slice (some ⟨g, 0, none⟩) LN c) := (bx.cell i).trans HCJ.out
                        clear hL hC hk hb bx
                        refine step_plain rfl ?_
                        go_simp
                        first | exact ⟨Re.same (by decide), Fe.val (by decide) rfl rfl⟩ | exact ⟨_, rfl, Re.same (by decide), Fe.val (by decide) rfl rfl⟩
                      · intro L W hL hk hC hw
                        clear hw
                        clear hL hC hk
                        refine step_plain rfl ?_
                        go_simp
                        first | exact ⟨Re.same (by decide), Fe.val (by decide) rfl rfl⟩ | exact ⟨_, rfl, Re.same (by decide), Fe.val (by decide) rfl rfl⟩
                      · intro L W hL hk hC hw
                        clear hw
                        have hb := hC (hL.not_yet hk 9 8 (by decide +kernel))
                        have bx := BS8.out.later hb
                        have kc0 : W.cell? ⟨wj.heap.size, 0, none⟩ = some (.slice (some ⟨g4, 0, none⟩) 128 c4) := bx.cell 0
                        have kc1 : W.cell? ⟨wj.heap.size, 1, none⟩ = some (.slice none 0 0) := bx.cell 1
                        clear hL hC hk hb bx
                        refine step_plain rfl ?_
                        go_simp
                        first | exact ⟨Re.same (by decide), Fe.val (by decide) rfl rfl⟩ | exact ⟨_, rfl, Re.same (by decide), Fe.val (by decide) rfl rfl⟩
                      · intro L W hL hk hC hw
                        have f5 : vals 5 = .slice (some ⟨g, 0, none⟩) LN c := Fe.get (hw ⟨5, .data⟩ (by simp) rfl) (by decide)
                        have f6 : vals 6 = .int .i64 j := Fe.get (hw ⟨6, .data⟩ (by simp) rfl) (by decide)
                        clear hw
                        clear hL hC hk
                        refine step_plain rfl ?_
                        go_simp
                        first | exact ⟨Re.same (by decide), Fe.val (by decide) rfl rfl⟩ | exact ⟨_, rfl, Re.same (by decide), Fe.val (by decide) rfl rfl⟩
                      · intro L W hL hk hC hw
                        have f8 : vals 8 = .pointer (some ⟨g, j * 2, none⟩) := Fe.get (hw ⟨8, .data⟩ (by simp) rfl) (by decide)
                        have f7 : vals 7 = .agg #[.slice (some ⟨g4, 0, none⟩) 128 c4, .slice none 0 0] := Fe.get (hw ⟨7, .data⟩ (by simp) rfl) (by decide)
                        clear hw
                        have hb := hC hk
                        have bx := BG8.out.later hb
                        have kc0 : ∃ y, W.cell? ⟨g, j * 2, none⟩ = some y := ⟨_, by rw [bx.cell, Nat.mul_comm]; exact SP.out.c0⟩
                        have kc1 : ∃ y, W.cell? ⟨g, j * 2 + 1, none⟩ = some y := ⟨_, by rw [bx.cell, Nat.mul_comm]; exact SP.out.c1⟩
                        obtain ⟨y0, kc0⟩ := kc0
                        obtain ⟨y1, kc1⟩ := kc1
                        have fc0 := bx.frozen (j * 2)
                        have fc1 := bx.frozen (j * 2 + 1)
                        have hb3 := (bx.set_ (j * 2) (.slice (some ⟨g4, 0, none⟩) 128 c4)).set_ (j * 2 + 1) (.slice none 0 0)
                        have hf3 := Fr.setCell (Fr.setCell (Fr.of_below (S := fun x => x = g) hb) (p := ⟨g, j * 2, none⟩) (.inl rfl) (.slice (some ⟨g4, 0, none⟩) 128 c4)) (p := ⟨g, j * 2 + 1, none⟩) (.inl rfl) (.slice none 0 0)
                        have HFN := Lib.hid (And.intro hb3 hf3)
                        clear hL hC hk hb bx hb3 hf3
                        refine step_plain rfl ?_
                        go_simp
                        exact ⟨Re.last trivial, undef, Fe.last HFN.out⟩
                    · simp only [TL, Act.put, List.setIfInBounds_toArray, List.set_cons_succ, List.set_cons_zero]
                      obtain ⟨hgb, hgf⟩ := hfin
                      have hf3 : Fr (fun x => x = g ∨ col2 x = fc i + 1 + j) wj W := Fr.sub (Fr.of_below HB8.out) hgf (fun x _ hx => .inl hx)
                      have hse : SeAt W (colN wj W col2 (fc i + 1 + j)) (fc i + 1 + j) (s.crash y.keep y.torn) (.slice (some ⟨g4, 0, none⟩) 128 c4) (.slice none 0 0) [] := by
                        rw [← HKE.out, ← HT.out, crash_bare]
                        have hgl : g < wj.heap.size := SP.out.box.lt
                        have hgg : g4 ≠ g := fun e => by
                          have h1 := HC7.out (by rw [e]; exact hgl)
                          rw [e, SP.out.hcol] at h1
                          omega
                        have hw8 : g4 < w8.heap.size := (OW8.out.lt g4 rfl).2
                        refine SeAt.bare ⟨own_frS OW8.out hgf (fun x hx hs => ?_), fun x hx => ?_⟩ HL7.out.1 HL7.out.2
                        · injection hx with hx
                          simp only at hx
                          exact hgg (hx.trans hs)
                        · injection hx with hx
                          simp only at hx
                          rw [← hx]
                          by_cases h9 : g4 < wj.heap.size
                          · rw [colN_old h9]; exact HC7.out h9
                          · exact colN_new (by omega) (Nat.lt_of_lt_of_le hw8 hgf.size)
                      have hup := HD.out.upd HI.out SP.out hf3 (s.crash y.keep y.torn) (.slice (some ⟨g4, 0, none⟩) 128 c4, .slice none 0 0, []) (by show Box W g ((C.setIfInBounds (2 * j) _).setIfInBounds (2 * j + 1) (.slice none 0 0)) _; rw [show 2 * j = j * 2 from Nat.mul_comm 2 j]; exact hgb) hse
                      have ecr : (E.crTo l i j).upd i j (s.crash y.keep y.torn) = E.crTo l i (j + 1) := by
                        rw [← crTo_succ E l i j hjl, ← ES.out, HY.out]; rfl
                      rw [ecr] at hup
                      have hgr := hup.mono (S' := growS w1 W S) (fun x hx => by
                        have := HFR.out.size
                        rcases hx with (hx | hx) | hx
                        · exact .inl hx
                        · exact .inr ⟨hx.1, Nat.lt_of_lt_of_le hx.2 hf3.size⟩
                        · exact .inr ⟨by omega, hx.2⟩) (fun x hx => by
                        rcases hx with hx | hx
                        · exact Nat.lt_of_lt_of_le (H1.out.old x hx) (Nat.le_trans HFR.out.size hf3.size)
                        · exact hx.2)
                      have hfw : Fr S w1 W := Fr.sub HFR.out hf3 (fun x hx hxg => by
                        rcases hxg with hxg | hxg
                        · rcases HD.out.mine x (by rw [hxg, SP.out.hcol]; unfold fc; omega) with h9 | h9
                          · exact h9
                          · omega
                        · rcases HD.out.mine x (by rw [hxg]; omega) with h9 | h9
                          · exact h9
                          · omega)
                      have HNX := Lib.hid (And.intro (⟨_, _, hgr⟩ : ∃ col' uv', DR W (growS w1 W S) b (E.crTo l i (j + 1)) col' fv uv') hfw)
                      clear hgb hgf hf3 hse hup hgr hfw hall
                      go_wp2
                      go_roundw
                      case rel => exact ⟨j + 1, by omega, by go_num, Lib.hid HNX.out⟩
                      case measure => simp [intOf]; omega
            | succ k =>
              obtain rfl : z = (k : Int) := by omega
              have hkl : k < l.length := by rw [← HN.out]; omega
              obtain ⟨x, hx⟩ : ∃ x, x = l[k] := ⟨_, rfl⟩
              have hxe : l[k]? = some x := by rw [hx]; exact List.getElem?_eq_getElem hkl
              have hok := HO.out x (by rw [hx]; exact List.getElem_mem _)
              obtain ⟨b5, off5, eA, hb5, hcell⟩ := (HV.out wj (F1.out.trans HFR.out)).at_ hxe
              subst eA
              have hfw : Fr (fun x => x = wj.heap.size + 1) wj wr := (Fr.of_below HB3.out).trans HK.out.2
              have kx : ∀ (q : Nat) u, (cFt x)[q]? = some u → wr.cell? ⟨b5, off5 + k * 4 + q, none⟩ = some u := fun q u hq => (hfw.cell (p := ⟨b5, off5 + k * 4 + q, none⟩) hb5 (by simp only; omega)).trans (hcell q u hq)
              have kx0 : wr.cell? ⟨b5, off5 + k * 4, none⟩ = some (.int .u8 x.file) := kx 0 _ rfl
              have kx1 : wr.cell? ⟨b5, off5 + k * 4 + 1, none⟩ = some (.int .i64 x.sec) := kx 1 _ rfl
              have kx2 : wr.cell? ⟨b5, off5 + k * 4 + 2, none⟩ = some (.int .i64 x.keep) := kx 2 _ rfl
              have kx3 : wr.cell? ⟨b5, off5 + k * 4 + 3, none⟩ = some (.int .i64 x.torn) := kx 3 _ rfl
              have kf0 : ∃ y, wr.cell? ⟨wj.heap.size + 1, 0, none⟩ = some y := ⟨_, HK.out.1.cell 0⟩
              have kf1 : ∃ y, wr.cell? ⟨wj.heap.size + 1, 1, none⟩ = some y := ⟨_, HK.out.1.cell 1⟩
              have kf2 : ∃ y, wr.cell? ⟨wj.heap.size + 1, 2, none⟩ = some y := ⟨_, HK.out.1.cell 2⟩
              have kf3 : ∃ y, wr.cell? ⟨wj.heap.size + 1, 3, none⟩ = some y := ⟨_, HK.out.1.cell 3⟩
              obtain ⟨y0, kf0⟩ := kf0
              obtain ⟨y1, kf1⟩ := kf1
              obtain ⟨y2, kf2⟩ := kf2
              obtain ⟨y3, kf3⟩ := kf3
              have ff := HK.out.1.frozen
              have hfd := fate_drop hxe (i : Int) (j : Int)
              have wif : IntKind.i64.wrap x.file = x.file := IntWalk.i64_in _ (by have := hok.1; omega)
              have dm : decide (0 ≤ (k : Int)) = true := by simp
              have wk1 : wrap64 ((k : Int) - 1) = (k : Int) - 1 := wrap64_in _ (by omega)
              have HX := Lib.hid HK
              have HM := Lib.hid hm
              have HFD := Lib.hid hfd
              clear HK hx hxe hok hb5 hcell hfw kx hfd hz hm hkl
              by_cases h1 : x.file = i
              · have b1 : (x.file == (i : Int)) = true := by simpa using h1
                by_cases h2 : x.sec = j
                · have b2 : (x.sec == (j : Int)) = true := by simpa using h2
                  have HE := Lib.hid (show fateAt (l.drop k) i j = x by rw [HFD.out, if_pos ⟨h1, h2⟩])
                  obtain ⟨w9, hw9⟩ : ∃ w9, (((wr.setCell ⟨wj.heap.size + 1, 0, none⟩ (.int .u8 x.file)).setCell ⟨wj.heap.size + 1, 1, none⟩ (.int .i64 x.sec)).setCell ⟨wj.heap.size + 1, 2, none⟩ (.int .i64 x.keep)).setCell ⟨wj.heap.size + 1, 3, none⟩ (.int .i64 x.torn) = w9 := ⟨_, rfl⟩
                  have hb9 := (((HX.out.out.1.set_ 0 (.int .u8 x.file)).set_ 1 (.int .i64 x.sec)).set_ 2 (.int .i64 x.keep)).set_ 3 (.int .i64 x.torn)
                  have hf9 := Fr.setCell (Fr.setCell (Fr.setCell (Fr.setCell HX.out.out.2 (p := ⟨wj.heap.size + 1, 0, none⟩) (.inl rfl) (.int .u8 x.file)) (p := ⟨wj.heap.size + 1, 1, none⟩) (.inl rfl) (.int .i64 x.sec)) (p := ⟨wj.heap.size + 1, 2, none⟩) (.inl rfl) (.int .i64 x.keep)) (p := ⟨wj.heap.size + 1, 3, none⟩) (.inl rfl) (.int .i64 x.torn)
                  simp only [cF, List.setIfInBounds_toArray, List.set_cons_zero, List.set_cons_succ] at hb9
                  rw [hw9] at hb9 hf9
                  have HB9 := Lib.hid hb9
                  have HF9 := Lib.hid hf9
                  clear h1 h2 HFD hb9 hf9
                  go_wp2
                  try rw [hw9]
                  clear hw9
                  go_roundw
                  case rel => exact ⟨k, _, by have := HM.out; omega, rfl, rfl, Lib.hid ⟨by rw [HE.out]; exact HB9.out, HF9.out⟩⟩
                  case measure => simp [intOf]
                · have b2 : (x.sec == (j : Int)) = false := by simpa using h2
                  have HE := Lib.hid (show fateAt (l.drop k) i j = fateAt (l.drop (k + 1)) i j by rw [HFD.out, if_neg (fun h => h2 h.2)])
                  clear h1 h2 HFD
                  go_wp2
                  go_roundw
                  case rel => exact ⟨k, _, by have := HM.out; omega, rfl, rfl, Lib.hid ⟨by rw [HE.out]; exact HX.out.out.1, HX.out.out.2⟩⟩
                  case measure => simp [intOf]
              · have b1 : (x.file == (i : Int)) = false := by simpa using h1
                have HE := Lib.hid (show fateAt (l.drop k) i j = fateAt (l.drop (k + 1)) i j by rw [HFD.out, if_neg (fun h => h1 h.1)])
                clear h1 HFD
                go_wp2
                go_roundw
                case rel => exact ⟨k, _, by have := HM.out; omega, rfl, rfl, Lib.hid ⟨by rw [HE.out]; exact HX.out.out.1, HX.out.out.2⟩⟩
                case measure => simp [intOf]
        · have hjL : j = LN := by omega
          have dj : decide ((j : Int) < (LN : Int)) = false := by simp; omega
          have kc : ∃ A' c', wj.cell? ⟨b, i, none⟩ = some (.slice A' LN c') := by
            obtain ⟨⟨col2, uv2, hd⟩, _⟩ := HR.out
            exact ⟨A, c, by rw [hd.box.cell i, ← EV.out]; rcases two HI.out with h9 | h9 <;> (subst h9; rfl)⟩
          obtain ⟨A', c', kc⟩ := kc
          have HN2 := Lib.hid (show (∃ col' uv', DR wj (growS w1 wj S) b (E.crTo l (i + 1) 0) col' fv uv') ∧ Fr S w1 wj by
            have h9 := HR.out
            rw [hjL, HL.out, crTo_next] at h9
            exact h9)
          clear HR hjL
          go_wp2
          go_roundw
          case rel => exact ⟨i + 1, by omega, by go_num, Lib.hid HN2.out⟩
          case measure => simp [intOf]; omega
    · have hi2 : i = 2 := by omega
      have di : decide ((i : Int) < 2) = false := by simp; omega
      have HO2 := Lib.hid HO1.out
      subst hi2
      clear HO1 hi
      go_wp2
      go_end0
      refine ⟨rfl, ?_, F1.out.trans HO2.out.2⟩
      obtain ⟨col9, uv9, h9⟩ := HO2.out.1
      exact ⟨col9, uv9, h9.mono (fun x hx => by rcases hx with hx | hx; (exact .inl hx); (exact .inr ⟨Nat.le_trans F1.out.size hx.1, hx.2⟩)) (fun x hx => by rcases hx with hx | hx; (exact Nat.lt_of_lt_of_le (H1.out.old x hx) HO2.out.2.size); (exact hx.2))⟩
end Go.Proofs.Ytplombkpefacgaa.Disk
