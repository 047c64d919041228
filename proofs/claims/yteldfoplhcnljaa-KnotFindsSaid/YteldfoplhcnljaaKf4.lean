import Derived.Test.YteldfoplhcnljaaKf3
/- The plain answer: the ring, step by step. -/
namespace Go.Proofs.Ring
set_option linter.unusedVariables false
theorem rf_here {G : Int → List Int} {fr cur : Int} {k : Nat} {pre : List Int} (h : fr ∈ G cur) : rf G fr (k + 1) pre cur = pre ++ [cur] := by
  show (if fr ∈ G cur then pre ++ [cur] else _) = _
  rw [if_pos h]
open Classical in
theorem rf_none {G : Int → List Int} {fr cur : Int} {k : Nat} {pre : List Int} (h : fr ∉ G cur) (hn : ∀ n ∈ G cur, ¬ Bk G fr (pre ++ [cur]) n) : rf G fr (k + 1) pre cur = [] := by
  show (if fr ∈ G cur then pre ++ [cur] else match (G cur).find? (fun n => decide (Bk G fr (pre ++ [cur]) n)) with | none => [] | some n => rf G fr k (pre ++ [cur]) n) = _
  rw [if_neg h, List.find?_eq_none.2 (fun n hm => by simpa using hn n hm)]
open Classical in
theorem rf_some {G : Int → List Int} {fr cur y : Int} {k : Nat} {pre A B : List Int} (h : fr ∉ G cur) (e : G cur = A ++ y :: B) (hn : ∀ n ∈ A, ¬ Bk G fr (pre ++ [cur]) n) (hy : Bk G fr (pre ++ [cur]) y) : rf G fr (k + 1) pre cur = rf G fr k (pre ++ [cur]) y := by
  show (if fr ∈ G cur then pre ++ [cur] else match (G cur).find? (fun n => decide (Bk G fr (pre ++ [cur]) n)) with | none => [] | some n => rf G fr k (pre ++ [cur]) n) = _
  have : (G cur).find? (fun n => decide (Bk G fr (pre ++ [cur]) n)) = some y := by
    rw [e, List.find?_append, List.find?_eq_none.2 (fun n hm => by simpa using hn n hm), List.find?_cons_of_pos (by simpa using hy)]
    rfl
  rw [if_neg h, this]
end Go.Proofs.Ring
namespace Go.Proofs.Yteldfoplhcnljaa.Knot
open Go.ChangeShapes Go.WideShapes Go.ChangeAt Go.RowKit Go.IntWalk Go.Proofs.Mem Go.Proofs.Ring Srt
set_option linter.unusedVariables false
set_option linter.unusedSimpArgs false
theorem nx_len (l : List Ed) (x : Int) : (nx l x).length ≤ l.length := by
  have h1 : (nx l x).Pairwise (· < ·) := dd_sorted _ (srt_sorted l x)
  have h2 : (nx l x).Nodup := h1.imp (fun h => by omega)
  have := nodup_le (m := us l) h2 (fun n hn => tos_us (nx_mem.1 hn))
  rwa [us_len] at this
/-- t steps have been gone -/
structure Go1 (l : List Ed) (fr : Int) (t : Nat) (pre : List Int) (cur : Int) : Prop where
  eq : cyc l fr = rf (nx l) fr (l.length + 1 - t) pre cur
  first : fr ∈ pre ++ [cur]
  len : pre.length = t
theorem Go1.start (l : List Ed) (fr : Int) : Go1 l fr 0 [] fr := ⟨cyc_rf l fr, by simp, rfl⟩
section
variable {l : List Ed} {fr cur : Int} {t : Nat} {pre : List Int}
theorem Go1.here (h : Go1 l fr t pre cur) (ht : t ≤ l.length) (hf : fr ∈ nx l cur) : cyc l fr = pre ++ [cur] := by
  rw [h.eq, show l.length + 1 - t = (l.length - t) + 1 by omega, rf_here hf]
theorem Go1.none (h : Go1 l fr t pre cur) (ht : t ≤ l.length) (hf : fr ∉ nx l cur) (hn : ∀ n ∈ nx l cur, ¬ Ring.Bk (nx l) fr (pre ++ [cur]) n) : cyc l fr = [] := by
  rw [h.eq, show l.length + 1 - t = (l.length - t) + 1 by omega, rf_none hf hn]
theorem Go1.end_ (h : Go1 l fr t pre cur) (ht : t = l.length + 1) : cyc l fr = [] := by
  rw [h.eq, show l.length + 1 - t = 0 by omega]; rfl
theorem Go1.on (h : Go1 l fr t pre cur) (ht : t ≤ l.length) (hf : fr ∉ nx l cur) {j : Nat} {y : Int} (hj : (nx l cur)[j]? = some y) (hn : ∀ n ∈ (nx l cur).take j, ¬ Ring.Bk (nx l) fr (pre ++ [cur]) n) (hy : Ring.Bk (nx l) fr (pre ++ [cur]) y) : Go1 l fr (t + 1) (pre ++ [cur]) y := by
  have hjl := (List.getElem?_eq_some_iff.1 hj).1
  have e : nx l cur = (nx l cur).take j ++ y :: (nx l cur).drop (j + 1) := by
    have h1 := (List.getElem?_eq_some_iff.1 hj).2
    rw [← h1, ← List.drop_eq_getElem_cons hjl, List.take_append_drop]
  refine ⟨?_, List.mem_append_left _ h.first, by rw [List.length_append, h.len]; rfl⟩
  rw [h.eq, show l.length + 1 - t = (l.length - t) + 1 by omega, rf_some hf e hn hy]
  congr 1
  omega
end
set_option maxRecDepth 100000 in
set_option maxHeartbeats 16000000 in
theorem rcycle_any (w : World) (v : Value) (xs : List Ed) (fr : Int) (hv : SS cEd 2 w w.heap.size v xs) (hl : xs.length ≤ 100) :
    Calls Try.prog 10 #[v, .int .u32 fr] w fun e w' => (∃ u, e = .returned u ∧ IR w' w'.heap.size .u32 u (cyc xs fr)) ∧ Below w.heap.size w w' := by
  obtain ⟨j0, hj0, hj1, hj2, hj3⟩ := info_parts u32_info
  have HV0 := Lib.hid hv
  obtain ⟨A, c, rfl, hlc, hcm⟩ := hv.form
  obtain ⟨N, hN⟩ : ∃ N, N = xs.length := ⟨_, rfl⟩
  have CN := Lib.hid (fun (W : World) (x : Int) (hb : Below w.heap.size w W) => next_any W _ xs x ((HV0.out.below hb).more hb.size) (by omega))
  have CR := Lib.hid (fun (W : World) (wv : Value) (ws : List Int) (hb : Below w.heap.size w W) (hw : IR W W.heap.size .u32 wv ws) (hwl : ws.length ≤ 200) => reaches_any W _ wv xs ws fr ((HV0.out.below hb).more hb.size) hl hw hwl)
  rw [← hN] at CN CR ⊢
  have HN := Lib.hid (⟨hN, hl⟩ : N = xs.length ∧ xs.length ≤ 100)
  have bN : (N : Int) ≤ 100 := by omega
  clear hv hlc hcm hN hl HV0
  have hrow : (w.alloc (.cells #[.int .u32 fr] 23)).ownsRow w.heap.size 23 1 (.slice (some ⟨w.heap.size, 0, none⟩) 1 1) 1 (([fr] : List Int).map (.int .u32)) := ⟨rfl, .inr ⟨w.heap.size, 1, _, rfl, Nat.le_refl _, heap_alloc_new w _, Nat.le_refl _, by decide, rfl, rfl⟩⟩
  have HRW := Lib.hid hrow
  have HBA := Lib.hid (new_ (Below.refl w.heap.size w) (.cells #[.int .u32 fr] 23))
  clear hrow
  go_enter Try.func10, Try.ntmps10
  go_wp2
  go_loopw [5, 6] (fun sv si wr => ∃ (t g cp SL : Nat) (pre : List Int) (cur : Int), SL = t + 1 ∧ t ≤ N + 1 ∧ sv = .slice (some ⟨g, 0, none⟩) SL cp ∧ si = .int .i64 t ∧ Hid (Go1 xs fr t pre cur) ∧ Hid (wr.ownsRow w.heap.size 23 1 (.slice (some ⟨g, 0, none⟩) SL cp) SL ((pre ++ [cur]).map (.int .u32))) ∧ Hid (Below w.heap.size w wr)) (fun _ si _ => 110 - (intOf si).toNat)
  case atStart => exact ⟨0, w.heap.size, 1, 1, [], fr, rfl, by omega, rfl, rfl, Lib.hid (Go1.start _ _), HRW, HBA⟩
  case round =>
    obtain ⟨t, g, cp, SL, pre, cur, hSL, ht, rfl, rfl, HG, HO, HW⟩ := hrel
    obtain ⟨w3, rfl⟩ : ∃ w3, w3 = wr := ⟨wr, rfl⟩
    clear HRW HBA
    have bt : (t : Int) ≤ 101 := by omega
    have bSL : (SL : Int) ≤ 102 := by omega
    have HT := Lib.hid (⟨hSL, ht⟩ : SL = t + 1 ∧ t ≤ N + 1)
    by_cases hin : t ≤ N
    · have d1 : decide ((t : Int) ≤ (N : Int)) = true := by simp; omega
      have d1' : decide (t ≤ N) = true := by simp; omega
      obtain ⟨t', ht'⟩ : ∃ t', t' = t + 1 := ⟨_, rfl⟩
      have st : (t : Int) + 1 = (t' : Int) := by omega
      have sL : (SL : Int) - 1 = (t : Int) := by omega
      have htS : t < SL := by omega
      have hIR : IR w3 w3.heap.size .u32 (.slice (some ⟨g, 0, none⟩) SL cp) (pre ++ [cur]) := IR.of_own HO.out
      obtain ⟨g', o', eq, _, q3⟩ := hIR.index t htS
      injection eq with eq
      injection eq with eq1 eq2
      subst eq1 eq2
      rw [Nat.zero_add, show (pre ++ [cur]).getD t 0 = cur by rw [← HG.out.len]; simp [List.getD_eq_getElem?_getD]] at q3
      have HII := Lib.hid (⟨ht', hin⟩ : t' = t + 1 ∧ t ≤ N)
      have C1 := Lib.hid (CN.out w3 cur HW.out)
      have HWL := Lib.hid (show (pre ++ [cur]).length = SL by rw [List.length_append, HG.out.len, HT.out.1]; rfl)
      clear hIR ht' hSL ht hin
      go_wp2_with fail
      (with_reducible refine (C1.out).mono ?_)
      rintro e w4 ⟨⟨u4, rfl, hu4⟩, hb4⟩
      obtain ⟨R, hR⟩ : ∃ R, R = nx xs cur := ⟨_, rfl⟩
      rw [← hR] at hu4
      have HR := Lib.hid hR
      have HRL := Lib.hid (show R.length ≤ 100 by rw [hR]; have := nx_len xs cur; have := HN.out; omega)
      have HU4 := Lib.hid hu4
      have C2 := Lib.hid (has_any w4 w4.heap.size u4 R fr hu4 (by have := HRL.out; omega))
      obtain ⟨A4, c4, rfl, _, _⟩ := hu4.form
      obtain ⟨n, hn⟩ : ∃ n, n = R.length := ⟨_, rfl⟩
      rw [← hn] at HU4 C2 ⊢
      have HNR := Lib.hid hn
      have bn : (n : Int) ≤ 100 := by have := HRL.out; omega
      have HW4 := Lib.hid (HW.out.trans (hb4.mono HW.out.size))
      have HO4 := Lib.hid (own_below HO.out hb4)
      clear hR hu4 hn hb4 q3 C1
      by_cases hf : fr ∈ R
      · rw [decide_eq_true hf] at C2
        have HC := Lib.hid (HG.out.here (by have := HII.out; have := HN.out; omega) (by rw [← HR.out]; exact hf))
        have HI := Lib.hid (show IR w4 w4.heap.size .u32 (.slice (some ⟨g, 0, none⟩) SL cp) (pre ++ [cur]) from IR.of_own HO4.out)
        clear hf
        go_wp2_with fail
        (with_reducible refine (C2.out).mono ?_)
        rintro e w5 ⟨rfl, rfl⟩
        go_wp2
        go_ret
        exact ⟨⟨_, rfl, by rw [HC.out]; exact HI.out⟩, HW4.out⟩
      · rw [decide_eq_false hf] at C2
        have HF := Lib.hid hf
        have HI := Lib.hid (show IR w4 w4.heap.size .u32 (.slice (some ⟨g, 0, none⟩) SL cp) (pre ++ [cur]) from IR.of_own HO4.out)
        have C3 := Lib.hid (CR.out w4 _ (pre ++ [cur]) HW4.out HI.out (by rw [HWL.out]; omega))
        clear hf
        go_wp2_with fail
        (with_reducible refine (C2.out).mono ?_)
        rintro e w5 ⟨rfl, rfl⟩
        go_wp2_with fail
        (with_reducible refine (C3.out).mono ?_)
        rintro e w6 ⟨⟨u6, BS, rfl, hu6, hbl, hbk⟩, hb6⟩
        obtain ⟨A6, c6, rfl, _, _⟩ := hu6.form
        have HU6 := Lib.hid hu6
        obtain ⟨nb, hnb⟩ : ∃ n, n = BS.length := ⟨_, rfl⟩
        rw [← hnb] at HU6 ⊢
        have HBL := Lib.hid (⟨hbl, hnb⟩ : BS.length ≤ 101 ∧ nb = BS.length)
        have HBK := Lib.hid hbk
        have HW6 := Lib.hid (HW4.out.trans (hb6.mono HW4.out.size))
        have HO6 := Lib.hid (own_below HO4.out hb6)
        have HU4' := Lib.hid ((HU4.out.below hb6).more hb6.size)
        clear hu6 hbl hbk hb6 hnb HU4 HO4 HI C2 C3
        go_wp2
        go_loopw [5, 10, 11] (fun sv sb sj wr => ∃ (j g cp SL' : Nat) (bf : Bool) (y : Int), j ≤ n ∧ sb = .bool bf ∧ sj = .int .i64 j ∧ sv = .slice (some ⟨g, 0, none⟩) SL' cp ∧ SL' = (if bf then SL + 1 else SL) ∧
          Hid ((bf = false → ∀ m ∈ R.take j, ¬ Ring.Bk (nx xs) fr (pre ++ [cur]) m) ∧ (bf = true → Go1 xs fr (t + 1) (pre ++ [cur]) y)) ∧
          Hid (wr.ownsRow w.heap.size 23 1 (.slice (some ⟨g, 0, none⟩) SL' cp) SL' ((if bf then pre ++ [cur] ++ [y] else pre ++ [cur]).map (.int .u32))) ∧ Hid (Below w.heap.size w wr) ∧ Hid (bf = false → ∃ d, wr = w6.drewN d)) (fun _ _ sj _ => n - (intOf sj).toNat)
        case atStart => exact ⟨0, g, cp, SL, false, 0, Nat.zero_le _, rfl, rfl, rfl, rfl, Lib.hid ⟨fun _ m hm => by simp at hm, fun h => by cases h⟩, HO6, HW6, Lib.hid (fun _ => ⟨0, rfl⟩)⟩
        case round =>
          obtain ⟨j, g, cp, SL', bf, y, hj, rfl, rfl, rfl, hSL', HX, HO7, HW7, HE7⟩ := hrel
          obtain ⟨w7, rfl⟩ : ∃ w7, w7 = wr := ⟨wr, rfl⟩
          have bj : (j : Int) ≤ 100 := by omega
          clear HO6
          cases bf with
          | true =>
            obtain rfl : SL' = SL + 1 := hSL'
            have HG2 := Lib.hid (HX.out.2 rfl)
            have HO8 := Lib.hid (show w7.ownsRow w.heap.size 23 1 (.slice (some ⟨g, 0, none⟩) (SL + 1) cp) (SL + 1) ((pre ++ [cur] ++ [y]).map (.int .u32)) from HO7.out)
            clear HX HO7 HE7
            obtain ⟨z, hz⟩ : ∃ z, decide ((j : Int) < (n : Int)) = z := ⟨_, rfl⟩
            have hz' : decide (j < n) = z := by rw [← hz]; simp
            cases z <;> (go_wp2; go_roundw; (case rel => exact ⟨t', g, cp, SL + 1, pre ++ [cur], y, by have := HT.out; have := HII.out; omega, by have := HII.out; omega, rfl, rfl, by rw [HII.out.1]; exact HG2, HO8, HW7⟩); (case measure => simp [intOf]; have := HII.out; have := HN.out; omega))
          | false =>
            obtain rfl : SL' = SL := hSL'
            have HNB := Lib.hid (HX.out.1 rfl)
            have HO8 := Lib.hid (show w7.ownsRow w.heap.size 23 1 (.slice (some ⟨g, 0, none⟩) SL' cp) SL' ((pre ++ [cur]).map (.int .u32)) from HO7.out)
            obtain ⟨d, hd⟩ := HE7.out rfl
            clear HX HO7 HE7
            by_cases hjn : j < n
            · have d3 : decide ((j : Int) < (n : Int)) = true := by simp; omega
              have d3' : decide (j < n) = true := by simp; omega
              obtain ⟨j', hj'⟩ : ∃ j', j' = j + 1 := ⟨_, rfl⟩
              have sj : (j : Int) + 1 = (j' : Int) := by omega
              have HJ := Lib.hid (⟨hj', hjn⟩ : j' = j + 1 ∧ j < n)
              have hIR7 : IR w7 w7.heap.size .u32 (.slice A4 n c4) R := by rw [hd]; exact HU4'.out
              obtain ⟨gn, on, hA, _, q4⟩ := hIR7.index j hjn
              subst hA
              have hRj : R[j]? = some (R.getD j 0) := by
                have h2 : j < R.length := by have := HNR.out; omega
                rw [List.getElem?_eq_getElem h2]
                simp [List.getD_eq_getElem?_getD, h2]
              obtain ⟨x, hx⟩ : ∃ x, R.getD j 0 = x := ⟨_, rfl⟩
              rw [hx] at q4 hRj
              have HRJ := Lib.hid hRj
              have hxR : x ∈ R := List.mem_of_getElem? hRj
              have e4 := fun d' => (show (w7.drewN d').cell? ⟨gn, on + j, none⟩ = some (.int .u32 x) from q4)
              have hxf : x ≠ fr := fun e => HF.out (e ▸ hxR)
              have C5 := Lib.hid (has_any w7 w7.heap.size (.slice A6 nb c6) BS x (by rw [hd]; exact HU6.out) (by have := HBL.out; omega))
              have C6 := Lib.hid (has_any w7 w7.heap.size (.slice (some ⟨g, 0, none⟩) SL' cp) (pre ++ [cur]) x (IR.of_own HO8.out) (by rw [HWL.out]; have := HT.out; have := HN.out; omega))
              have HD := Lib.hid hd
              clear hIR7 hRj hx hd hj hj'
              by_cases hb : Ring.Bk (nx xs) fr (pre ++ [cur]) x
              · have h1 : x ∈ BS := (HBK.out x).2 (.inr hb)
                have h2 : x ∉ pre ++ [cur] := hb.out
                rw [decide_eq_true h1] at C5
                rw [decide_eq_false h2] at C6
                have HG2 := Lib.hid (HG.out.on (by have := HII.out; have := HN.out; omega) (by rw [← HR.out]; exact HF.out) (j := j) (y := x) (by rw [← HR.out]; exact HRJ.out) (by rw [← HR.out]; exact HNB.out) hb)
                clear hb h1 h2 hxR hxf
                go_wp2_with fail
                (with_reducible refine (C5.out).mono ?_)
                rintro e w8 ⟨rfl, rfl⟩
                go_wp2_with fail
                (with_reducible refine (C6.out).mono ?_)
                rintro e w8 ⟨rfl, rfl⟩
                go_wp2_with (first
                  | (at_builtin; refine wpList_append_own_at _ rfl _ _ 24 rfl w.heap.size 23 j0 (.int .u32 0) 1 4 Try.underlying24 hj0 hj1 hj2 hj3 rfl (by decide) _ _ _ rfl (HO8.out.alloc _) ⟨w7.heap.size, 0, none⟩ 1 1 [.int .u32 x] rfl rfl (cell_one_new _ _ _) (ints_oneCell .u32 [x]) (by have := HT.out; have := HN.out; simp only [maxLen]; omega) (by have := HT.out; have := HN.out; omega) (by have := HW7.out.size; simp; omega) ?_; intro v9 w9 hown9 hgr9 hnil9 hloc9
                     obtain ⟨g9, cp9, e9, hcp9⟩ := own_form hown9 (by omega)
                     subst e9
                     have HB9 := Lib.hid (below_row (new_ HW7.out (.cells #[.int .u32 x] 23)) (HO8.out.alloc _) hgr9 (Nat.le_refl _) (by have := HW7.out.size; simp; omega))
                     have HO9 := Lib.hid hown9
                     clear hown9 hgr9 hnil9 hloc9 hcp9))
                go_roundw
                case rel => exact ⟨j', g9, cp9, SL' + 1, true, x, by have := HJ.out; omega, rfl, rfl, rfl, rfl, Lib.hid ⟨(fun h => by cases h), fun _ => HG2.out⟩, Lib.hid (by rw [show (if (true : Bool) = true then pre ++ [cur] ++ [x] else pre ++ [cur]) = pre ++ [cur] ++ [x] from rfl, List.map_append]; exact HO9.out), HB9, Lib.hid (fun h => by cases h)⟩
                case measure => simp [intOf]; have := HJ.out; omega
              · have h1 : x ∉ BS := fun h => ((HBK.out x).1 h).elim hxf hb
                rw [decide_eq_false h1] at C5
                have HNB2 := Lib.hid (show ∀ m ∈ R.take j', ¬ Ring.Bk (nx xs) fr (pre ++ [cur]) m from fun m hm => by
                  rw [HJ.out.1, List.take_add_one, HRJ.out] at hm
                  rcases List.mem_append.1 hm with h | h
                  · exact HNB.out m h
                  · have : m = x := by simpa using h
                    rw [this]; exact hb)
                clear hb h1 hxR hxf
                go_wp2_with fail
                (with_reducible refine (C5.out).mono ?_)
                rintro e w8 ⟨rfl, rfl⟩
                go_wp2
                go_roundw
                case rel => exact ⟨j', g, cp, SL', false, 0, by have := HJ.out; omega, rfl, rfl, rfl, rfl, Lib.hid ⟨fun _ => HNB2.out, fun h => by cases h⟩, HO8, HW7, Lib.hid (fun _ => ⟨d, HD.out⟩)⟩
                case measure => simp [intOf]; have := HJ.out; omega
            · have d3 : decide ((j : Int) < (n : Int)) = false := by simp; omega
              have d3' : decide (j < n) = false := by simp; omega
              obtain rfl : j = n := by omega
              have HC := Lib.hid (HG.out.none (by have := HII.out; have := HN.out; omega) (by rw [← HR.out]; exact HF.out) (fun m hm => HNB.out m (by rw [List.take_of_length_le (by have := HNR.out; omega), HR.out]; exact hm)))
              clear hjn hj hd
              go_wp2
              go_ret
              exact ⟨⟨_, rfl, by rw [HC.out]; exact IR.nil _ _ _⟩, HW7.out⟩
    · have d1 : decide ((t : Int) ≤ (N : Int)) = false := by simp; omega
      have d1' : decide (t ≤ N) = false := by simp; omega
      have HC := Lib.hid (HG.out.end_ (by have := HT.out; have := HN.out; omega))
      clear hin
      go_wp2
      go_ret
      exact ⟨⟨_, rfl, by rw [HC.out]; exact IR.nil _ _ _⟩, HW.out⟩
end Go.Proofs.Yteldfoplhcnljaa.Knot
