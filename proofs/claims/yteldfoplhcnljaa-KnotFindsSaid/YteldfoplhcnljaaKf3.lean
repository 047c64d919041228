import Derived.Test.YteldfoplhcnljaaKf2
/- The plain answer: who comes back to the start outside the way. -/
namespace Go.Proofs.Yteldfoplhcnljaa.Knot
open Go.ChangeShapes Go.WideShapes Go.ChangeAt Go.RowKit Go.IntWalk Go.Proofs.Mem Go.Proofs.Ring Srt
set_option linter.unusedVariables false
set_option linter.unusedSimpArgs false
structure Rc (l : List Ed) (fr : Int) (ws : List Int) (i k : Nat) (S : List Int) : Prop where
  nd : S.Nodup
  bk : ∀ x ∈ S, x = fr ∨ Ring.Bk (nx l) fr ws x
  first : fr ∈ S
  sub : ∀ x ∈ S, x = fr ∨ x ∈ l.map (·.a)
  shut : ∀ j, j < i → ∀ e ∈ l, e.b = S.getD j 0 → e.a ∈ S ∨ e.a ∈ ws
  part : ∀ e ∈ l.take k, e.b = S.getD i 0 → e.a ∈ S ∨ e.a ∈ ws
  lt : i ≤ S.length
section
variable {l : List Ed} {fr : Int} {ws : List Int} {i k : Nat} {S : List Int} {e : Ed}
theorem Rc.len (h : Rc l fr ws i k S) : S.length ≤ l.length + 1 := by
  have := nodup_le (m := fr :: l.map (·.a)) h.nd (fun x hx => List.mem_cons.2 (h.sub x hx))
  simpa using this
theorem Rc.start (l : List Ed) (fr : Int) (ws : List Int) : Rc l fr ws 0 0 [fr] :=
  ⟨by simp, fun x hx => .inl (List.mem_singleton.1 hx), by simp, fun x hx => .inl (List.mem_singleton.1 hx), fun j hj => by omega, fun e he => by simp at he, Nat.zero_le _⟩
theorem take_mem {l : List Ed} {k : Nat} {e x : Ed} (he : l[k]? = some e) (h : x ∈ l.take (k + 1)) : x ∈ l.take k ∨ x = e := by
  rw [List.take_add_one, he] at h
  rcases List.mem_append.1 h with h | h
  · exact .inl h
  · exact .inr (by simpa using h)
theorem Rc.skip (h : Rc l fr ws i k S) (he : l[k]? = some e) (hn : e.b ≠ S.getD i 0) : Rc l fr ws i (k + 1) S :=
  ⟨h.nd, h.bk, h.first, h.sub, h.shut, fun x hx hb => by
    rcases take_mem he hx with h1 | rfl
    · exact h.part x h1 hb
    · exact absurd hb hn, h.lt⟩
theorem Rc.in_ (h : Rc l fr ws i k S) (he : l[k]? = some e) (hm : e.a ∈ S ∨ e.a ∈ ws) : Rc l fr ws i (k + 1) S :=
  ⟨h.nd, h.bk, h.first, h.sub, h.shut, fun x hx hb => by
    rcases take_mem he hx with h1 | rfl
    · exact h.part x h1 hb
    · exact hm, h.lt⟩
theorem Rc.new (h : Rc l fr ws i k S) (hi : i < S.length) (he : l[k]? = some e) (hn : e.b = S.getD i 0) (hm : e.a ∉ S) (hw : e.a ∉ ws) : Rc l fr ws i (k + 1) (S ++ [e.a]) := by
  have hel : e ∈ l := List.mem_of_getElem? he
  have hnx : e.b ∈ nx l e.a := nx_mem.2 (tos_mem.2 hel)
  refine ⟨?_, fun x hx => ?_, List.mem_append_left _ h.first, fun x hx => ?_, fun j hj x hx hb => ?_, fun x hx hb => ?_, by rw [List.length_append]; have := h.lt; omega⟩
  · rw [List.nodup_append]
    exact ⟨h.nd, by simp, fun a ha b hb e' => hm (by simp at hb; rw [← hb, ← e']; exact ha)⟩
  · rcases List.mem_append.1 hx with h1 | h1
    · exact h.bk x h1
    · rw [List.mem_singleton.1 h1]
      right
      rcases h.bk e.b (by rw [hn]; exact getD_mem hi) with h2 | h2
      · exact .here (h2 ▸ hnx) hw
      · exact .step hnx h2 hw
  · rcases List.mem_append.1 hx with h1 | h1
    · exact h.sub x h1
    · rw [List.mem_singleton.1 h1]
      exact .inr (List.mem_map.2 ⟨e, hel, rfl⟩)
  · rw [getD_app _ (by omega)] at hb
    exact (h.shut j hj x hx hb).imp (List.mem_append_left _) id
  · rw [getD_app _ hi] at hb
    rcases take_mem he hx with h1 | rfl
    · exact (h.part x h1 hb).imp (List.mem_append_left _) id
    · exact .inl (by simp)
theorem Rc.next (h : Rc l fr ws i l.length S) (hi : i < S.length) : Rc l fr ws (i + 1) 0 S := by
  have hp := h.part
  rw [List.take_length] at hp
  refine ⟨h.nd, h.bk, h.first, h.sub, fun j hj x hx hb => ?_, fun e he => by simp at he, hi⟩
  rcases Nat.lt_or_ge j i with h1 | h1
  · exact h.shut j h1 x hx hb
  · obtain rfl : j = i := by omega
    exact hp x hx hb
theorem Rc.end_ (h : Rc l fr ws i 0 S) (hi : i = S.length) : ∀ x, x ∈ S ↔ x = fr ∨ Ring.Bk (nx l) fr ws x := fun x => by
  refine ⟨h.bk x, fun hx => ?_⟩
  have cl : ∀ y n, n ∈ nx l y → n ∈ S → y ∉ ws → y ∈ S := fun y n hn hm hy => by
    obtain ⟨j, hj, e⟩ := mem_getD hm
    exact (h.shut j (by omega) ⟨y, n⟩ (tos_mem.1 (nx_mem.1 hn)) e.symm).resolve_right hy
  rcases hx with rfl | hx
  · exact h.first
  · induction hx with
    | here h1 h2 => exact cl _ _ h1 h.first h2
    | step h1 h2 h3 ih => exact cl _ _ h1 ih h3
end
set_option maxRecDepth 100000 in
set_option maxHeartbeats 16000000 in
theorem reaches_any (w : World) (v wv : Value) (xs : List Ed) (ws : List Int) (fr : Int) (hv : SS cEd 2 w w.heap.size v xs) (hl : xs.length ≤ 100) (hw : IR w w.heap.size .u32 wv ws) (hwl : ws.length ≤ 200) :
    Calls Try.prog 22 #[v, .int .u32 fr, wv] w fun e w' => (∃ u S, e = .returned u ∧ IR w' w'.heap.size .u32 u S ∧ S.length ≤ 101 ∧ ∀ x, x ∈ S ↔ x = fr ∨ Ring.Bk (nx xs) fr ws x) ∧ Below w.heap.size w w' := by
  obtain ⟨j0, hj0, hj1, hj2, hj3⟩ := info_parts u32_info
  obtain ⟨A, c, rfl, hlc, hcm⟩ := hv.form
  obtain ⟨Aw, cw, rfl, _, _⟩ := hw.form
  obtain ⟨N, hN⟩ : ∃ N, N = xs.length := ⟨_, rfl⟩
  obtain ⟨M, hM⟩ : ∃ M, M = ws.length := ⟨_, rfl⟩
  rw [← hN] at hv ⊢
  rw [← hM] at hw ⊢
  have HV := Lib.hid hv
  have HWS := Lib.hid hw
  have HN := Lib.hid (⟨hN, hl, hwl⟩ : N = xs.length ∧ xs.length ≤ 100 ∧ ws.length ≤ 200)
  have bN : (N : Int) ≤ 100 := by omega
  clear hv hw hlc hcm hN hM hl hwl
  have hrow : (w.alloc (.cells #[.int .u32 fr] 23)).ownsRow w.heap.size 23 1 (.slice (some ⟨w.heap.size, 0, none⟩) 1 1) 1 (([fr] : List Int).map (.int .u32)) := ⟨rfl, .inr ⟨w.heap.size, 1, _, rfl, Nat.le_refl _, heap_alloc_new w _, Nat.le_refl _, by decide, rfl, rfl⟩⟩
  have HRW := Lib.hid hrow
  have HBA := Lib.hid (new_ (Below.refl w.heap.size w) (.cells #[.int .u32 fr] 23))
  clear hrow
  go_enter Try.func22, Try.ntmps22
  go_wp2
  go_loopw [7, 8] (fun sv si wr => ∃ (i g cp SL : Nat) (S : List Int), SL = S.length ∧ i ≤ SL ∧ SL ≤ 101 ∧ 0 < SL ∧ sv = .slice (some ⟨g, 0, none⟩) SL cp ∧ si = .int .i64 i ∧ Hid (Rc xs fr ws i 0 S) ∧ Hid (wr.ownsRow w.heap.size 23 1 (.slice (some ⟨g, 0, none⟩) SL cp) SL (S.map (.int .u32))) ∧ Hid (Below w.heap.size w wr)) (fun _ si _ => 110 - (intOf si).toNat)
  case atStart => exact ⟨0, w.heap.size, 1, 1, [fr], rfl, Nat.zero_le _, by omega, by omega, rfl, rfl, Lib.hid (Rc.start _ _ _), HRW, HBA⟩
  case round =>
    obtain ⟨i, g, cp, SL, S, hSL, hi, hS41, hS0, rfl, rfl, HBf, HO, HW⟩ := hrel
    obtain ⟨w3, rfl⟩ : ∃ w3, w3 = wr := ⟨wr, rfl⟩
    clear HRW HBA
    have bi : (i : Int) ≤ 101 := by omega
    have bSL : (SL : Int) ≤ 101 := by omega
    have HSL := Lib.hid (⟨hSL, hi, hS41, hS0⟩ : SL = S.length ∧ i ≤ SL ∧ SL ≤ 101 ∧ 0 < SL)
    clear hSL hi hS41 hS0
    by_cases hin : i < SL
    · have d1 : decide ((i : Int) < (SL : Int)) = true := by simp; omega
      have d1' : decide (i < SL) = true := by simp; omega
      obtain ⟨i', hi'⟩ : ∃ i', i' = i + 1 := ⟨_, rfl⟩
      have si : (i : Int) + 1 = (i' : Int) := by omega
      have HII := Lib.hid (⟨hi', hin, HSL.out.2.2.1⟩ : i' = i + 1 ∧ i < SL ∧ SL ≤ 101)
      clear hi'
      go_wp2
      go_loopw [7, 9] (fun sv sk wr => ∃ (k g cp SL : Nat) (S : List Int), SL = S.length ∧ i < SL ∧ SL ≤ 101 ∧ k ≤ N ∧ sv = .slice (some ⟨g, 0, none⟩) SL cp ∧ sk = .int .i64 k ∧ Hid (Rc xs fr ws i k S) ∧ Hid (wr.ownsRow w.heap.size 23 1 (.slice (some ⟨g, 0, none⟩) SL cp) SL (S.map (.int .u32))) ∧ Hid (Below w.heap.size w wr)) (fun _ sk _ => N - (intOf sk).toNat)
      case atStart => exact ⟨0, g, cp, SL, S, HSL.out.1, hin, HSL.out.2.2.1, Nat.zero_le _, rfl, rfl, HBf, HO, HW⟩
      case round =>
        obtain ⟨k, g, cp, SL, S, hSL, hin, hS41, hk, rfl, rfl, HBf, HO, HW⟩ := hrel
        obtain ⟨w4, rfl⟩ : ∃ w4, w4 = wr := ⟨wr, rfl⟩
        have bSL : (SL : Int) ≤ 101 := by omega
        have HS4 := Lib.hid (⟨hSL, hin, hS41⟩ : SL = S.length ∧ i < SL ∧ SL ≤ 101)
        clear hS41
        by_cases hkN : k < N
        · have d2 : decide ((k : Int) < (N : Int)) = true := by simp; omega
          have d2' : decide (k < N) = true := by simp; omega
          have bk' : (k : Int) ≤ 100 := by omega
          obtain ⟨k', hk'⟩ : ∃ k', k' = k + 1 := ⟨_, rfl⟩
          have sk : (k : Int) + 1 = (k' : Int) := by omega
          obtain ⟨e, he⟩ : ∃ e, xs[k]? = some e := ⟨_, List.getElem?_eq_getElem (by have := HN.out; omega)⟩
          obtain ⟨ge, oe, hA, hge, hcell⟩ := HV.out.at_ he
          subst hA
          have q1 : w4.cell? ⟨ge, oe + k * 2, none⟩ = some (.int .u32 e.a) := by rw [HW.out.cell (p := ⟨ge, oe + k * 2, none⟩) hge]; simpa using hcell 0 _ rfl
          have q2 : w4.cell? ⟨ge, oe + k * 2 + 1, none⟩ = some (.int .u32 e.b) := by rw [HW.out.cell (p := ⟨ge, oe + k * 2 + 1, none⟩) hge]; simpa using hcell 1 _ rfl
          have e1 := fun d => (show (w4.drewN d).cell? ⟨ge, oe + k * 2, none⟩ = _ from q1)
          have e2 := fun d => (show (w4.drewN d).cell? ⟨ge, oe + k * 2 + 1, none⟩ = _ from q2)
          have hIR : IR w4 w4.heap.size .u32 (.slice (some ⟨g, 0, none⟩) SL cp) S := IR.of_own HO.out
          have HIR := Lib.hid hIR
          obtain ⟨g', o', eq, _, q3⟩ := hIR.index i hin
          injection eq with eq
          injection eq with eq1 eq2
          subst eq1 eq2
          rw [Nat.zero_add] at q3
          obtain ⟨x, hx⟩ : ∃ x, S.getD i 0 = x := ⟨_, rfl⟩
          rw [hx] at q3
          have e3 := fun d => (show (w4.drewN d).cell? ⟨g, i, none⟩ = _ from q3)
          have HX := Lib.hid hx
          have HE := Lib.hid he
          have HKK := Lib.hid (⟨hk', hkN⟩ : k' = k + 1 ∧ k < N)
          obtain ⟨ea, eb⟩ := e
          have C1 := Lib.hid (fun d => has_any (w4.drewN d) w4.heap.size _ S ea HIR.out (by have := HS4.out; omega))
          have C2 := Lib.hid (fun d => has_any (w4.drewN d) w4.heap.size _ ws ea (show IR (w4.drewN d) w4.heap.size .u32 (.slice Aw M cw) ws from (HWS.out.below HW.out).more HW.out.size) (by have := HN.out; omega))
          clear he hx hcell q2 q3 hIR hk' hk hSL
          by_cases hbx : eb = x
          · have dx : decide (eb = x) = true := by simp [hbx]
            have dx2 : (eb == x) = true := by simp [hbx]
            have HBX := Lib.hid hbx
            clear hbx
            by_cases hm : ea ∈ S
            · rw [decide_eq_true hm] at C1
              have HB7 := Lib.hid (HBf.out.in_ HE.out (.inl hm))
              rw [← HKK.out.1] at HB7
              clear hm
              go_upto_region 8 with fail
              go_quiet (first | (go_at_call 21; with_reducible exact quiet_l (C1.out _)))
              go_wp2
              go_roundw
              case rel => exact ⟨k', g, cp, SL, S, HS4.out.1, HS4.out.2.1, HS4.out.2.2, by have := HKK.out; omega, rfl, rfl, HB7, Lib.hid HO.out, Lib.hid (below_drewN HW.out _)⟩
              case measure => simp [intOf]; have := HKK.out; omega
            · by_cases hm2 : ea ∈ ws
              · rw [decide_eq_false hm] at C1
                rw [decide_eq_true hm2] at C2
                have HB7 := Lib.hid (HBf.out.in_ HE.out (.inr hm2))
                rw [← HKK.out.1] at HB7
                clear hm hm2
                go_upto_region 8 with fail
                go_quiet (first | (go_at_call 21; with_reducible exact quiet_l (C1.out _)) | (go_at_call 21; with_reducible exact quiet_l (C2.out _)))
                go_wp2
                go_roundw
                case rel => exact ⟨k', g, cp, SL, S, HS4.out.1, HS4.out.2.1, HS4.out.2.2, by have := HKK.out; omega, rfl, rfl, HB7, Lib.hid HO.out, Lib.hid (below_drewN HW.out _)⟩
                case measure => simp [intOf]; have := HKK.out; omega
              · rw [decide_eq_false hm] at C1
                rw [decide_eq_false hm2] at C2
                have HB7 := Lib.hid (HBf.out.new (by have := HS4.out; omega) HE.out (by rw [HX.out]; exact HBX.out) hm hm2)
                rw [← HKK.out.1] at HB7
                clear hm hm2
                go_upto_region 8 with fail
                go_quiet (first | (go_at_call 21; with_reducible exact quiet_l (C1.out _)) | (go_at_call 21; with_reducible exact quiet_l (C2.out _)))
                have HO6 := Lib.hid (show (w4.drewN nq).ownsRow w.heap.size 23 1 (.slice (some ⟨g, 0, none⟩) SL cp) SL (S.map (.int .u32)) from HO.out)
                have HW6 := Lib.hid (below_drewN HW.out nq)
                have e7 := e1 nq
                clear e1 e2 e3 q1 HO HW C1 C2 HIR
                generalize w4.drewN nq = w6 at *
                go_wp2_with (first
                  | (at_builtin; refine wpList_append_own_at _ rfl _ _ 24 rfl w.heap.size 23 j0 (.int .u32 0) 1 4 Try.underlying24 hj0 hj1 hj2 hj3 rfl (by decide) _ _ _ rfl (HO6.out.alloc _) ⟨w6.heap.size, 0, none⟩ 1 1 [.int .u32 ea] rfl rfl (cell_one_new _ _ _) (ints_oneCell .u32 [ea]) (by have := HS4.out; simp only [maxLen]; omega) (by have := HS4.out; omega) (by have := HW6.out.size; simp; omega) ?_; intro v7 w7 hown7 hgr7 hnil7 hloc7
                     obtain ⟨g7, cp7, e7, hcp7⟩ := own_form hown7 (by omega)
                     subst e7
                     have HB8 := Lib.hid (below_row (new_ HW6.out (.cells #[.int .u32 ea] 23)) (HO6.out.alloc _) hgr7 (Nat.le_refl _) (by have := HW6.out.size; simp; omega))
                     have HO7 := Lib.hid hown7
                     clear hown7 hgr7 hnil7 hloc7 hcp7))
                go_roundw
                case rel => exact ⟨k', g7, cp7, SL + 1, S ++ [ea], by have := HS4.out; simp; omega, by have := HS4.out; omega, by
                  have h1 := HB7.out.len
                  have h2 := HS4.out
                  have h3 := HN.out
                  simp at h1
                  omega, by have := HKK.out; omega, rfl, rfl, HB7, Lib.hid (by rw [List.map_append]; exact HO7.out), HB8⟩
                case measure => simp [intOf]; have := HKK.out; omega
          · have dx : decide (eb = x) = false := by simp; exact hbx
            have dx2 : (eb == x) = false := by simp; exact hbx
            have HB7 := Lib.hid (HBf.out.skip HE.out (by rw [HX.out]; exact hbx))
            rw [← HKK.out.1] at HB7
            clear hbx
            go_upto_region 8 with fail
            go_quiet (fail)
            go_wp2
            go_roundw
            case rel => exact ⟨k', g, cp, SL, S, HS4.out.1, HS4.out.2.1, HS4.out.2.2, by have := HKK.out; omega, rfl, rfl, HB7, Lib.hid HO.out, Lib.hid (below_drewN HW.out _)⟩
            case measure => simp [intOf]; have := HKK.out; omega
        · have d2 : decide ((k : Int) < (N : Int)) = false := by simp; omega
          have d2' : decide (k < N) = false := by simp; omega
          obtain rfl : k = N := by omega
          have HB7 := Lib.hid (show Rc xs fr ws (i + 1) 0 S by
            have h := HBf.out
            rw [HN.out.1] at h
            exact h.next (by have := HS4.out; omega))
          rw [← HII.out.1] at HB7
          clear hkN hk
          go_wp2
          go_roundw
          case rel => exact ⟨i', g, cp, SL, S, HS4.out.1, by have := HII.out; have := HS4.out; omega, HS4.out.2.2, by have := HS4.out; omega, rfl, rfl, HB7, HO, HW⟩
          case measure => simp [intOf]; have := HII.out; omega
    · have d1 : decide ((i : Int) < (SL : Int)) = false := by simp; omega
      have d1' : decide (i < SL) = false := by simp; omega
      have HEND := Lib.hid (HBf.out.end_ (by have := HSL.out; omega))
      have HI := Lib.hid (IR.of_own HO.out)
      clear hin
      go_wp2
      go_ret
      exact ⟨⟨_, S, rfl, HI.out, by have := HSL.out; omega, HEND.out⟩, HW.out⟩
end Go.Proofs.Yteldfoplhcnljaa.Knot
