import Derived.Test.YtacjbgkcghcnnaaSealB
/- The document's Open. -/
namespace Go.Proofs.Ytacjbgkcghcnnaa.Seal
open Go.ChangeShapes Go.WideShapes Go.ChangeAt Go.RowKit Go.IntWalk Go.Shelf Go.Proofs.NumMath Go.Proofs.Mem NumBytes
set_option linter.unusedVariables false
theorem getTo_take (xs : List Int) : ∀ j, j ≤ 8 → getTo (xs.take 8) j = getTo xs j := by
  intro j
  induction j with
  | zero => intro _; rfl
  | succ j ih =>
    intro hj
    show getTo (xs.take 8) j + (xs.take 8).getD j 0 * 2 ^ (8 * j) = getTo xs j + xs.getD j 0 * 2 ^ (8 * j)
    rw [ih (by omega)]
    congr 2
    simp [List.getD, show j < 8 by omega]
theorem get_front {xs : List Int} (h : xs.length = 128) : getS xs = getS (xs.take 8) := by
  unfold getS
  rw [List.length_take, h]
  exact (getTo_take xs 8 (by decide)).symm
theorem stampOf_eq {xs : List Int} {n : Int} (h : xs.length = 128) (h1 : getS (xs.take 8) = n) (h2 : getS (xs.drop 120) = n) : stampOf xs = [n, n] := by
  unfold stampOf; rw [if_pos h, h1, h2]
theorem whole_of {vs : Sects} (hl : vs.length = 4) (h : ∀ j, j < 4 → (sect vs j).length = 128 ∧ stampOf (sect vs j) = [head0 vs, head0 vs]) : Whole vs := by
  refine ⟨hl, fun k hk => (h k (by omega)).1, fun y hy => ?_⟩
  obtain ⟨p, hp, hy⟩ := List.mem_flatMap.1 hy
  obtain ⟨k, hk, rfl⟩ := List.mem_iff_getElem.1 hp
  have := (h k (by omega)).2
  rw [sect_at (u := vs[k].1) (xs := vs[k].2) (by rw [List.getElem?_eq_getElem hk])] at this
  rw [this] at hy
  simpa using hy
theorem stamp_first {vs : Sects} (hw : Whole vs) {k : Nat} {u : Value} {xs : List Int} (h : vs[k]? = some (u, xs)) : xs.length = 128 ∧ getS (xs.take 8) = head0 vs ∧ getS (xs.drop 120) = head0 vs := by
  have hk : k < vs.length := (List.getElem?_eq_some_iff.1 h).1
  have hl : xs.length = 128 := by have := hw.2.1 k hk; rwa [sect_at h] at this
  have hm : ∀ y ∈ stampOf xs, y = head0 vs := fun y hy => hw.2.2 y (List.mem_flatMap.2 ⟨(u, xs), List.mem_of_getElem? h, hy⟩)
  unfold stampOf at hm
  rw [if_pos hl] at hm
  exact ⟨hl, hm _ (by simp), hm _ (by simp)⟩
set_option maxRecDepth 100000 in
set_option maxHeartbeats 8000000 in
theorem ref_open_any (w : World) (B : Nat) (v : Value) (vs : Sects) (hv : SR w B v vs) (hB : B ≤ w.heap.size) : Calls Try.prog 15 #[v] w (OpenP w vs) := by
  obtain ⟨i0, hi0, hz0, hz1, hz2⟩ := info_parts u8_info
  obtain ⟨A, c, rfl, hlc, hcm⟩ := hv.form
  unfold maxLen at hcm
  have HV := Lib.hid hv
  by_cases hl : vs.length = 4
  · obtain ⟨b1, o1, u1, x1, rfl, hb1, g1, e1, r1, y1⟩ := hv.index 0 (by omega)
    rw [hl]
    clear hv
    have HL := Lib.hid hl
    clear hl
    obtain ⟨A1, c1', rfl, hl1, hm1⟩ := r1.form
    unfold maxLen at hm1
    have e1' : w.cell? ⟨b1, o1, none⟩ = some (.slice A1 x1.length c1') := e1
    by_cases hx : x1.length = 128
    · have HH := Lib.hid (show head0 vs = getS x1 by unfold head0; rw [sect_at g1, get_front hx])
      have R1 := Lib.hid r1
      have Y1 := Lib.hid y1
      have HX := Lib.hid hx
      rw [hx] at e1'
      rw [hx] at e1
      clear r1 g1 y1
      rw [hx] at R1
      clear hx
      go_enter Try.func15, Try.ntmps15
      go_wp2_with fail
      (with_reducible refine (get_ref _ x1 w B R1.out Y1.out).mono ?_)
      rintro e w1 ⟨rfl, d1, rfl⟩
      rw [← HH.out]
      go_wp2
      go_loopw [5, 7] (fun s i wr => ∃ k : Nat, i = .int .i64 k ∧ k ≤ 4 ∧ Hid (wr.ownsRow w.heap.size 5 1 s (112 * k) ((bodyOf (vs.take k)).map (.int .u8))) ∧
        Hid (∀ j, j < k → (sect vs j).length = 128 ∧ stampOf (sect vs j) = [head0 vs, head0 vs]) ∧ Hid (Below w.heap.size w wr)) (fun _ i _ => 4 - (intOf i).toNat)
      case atStart => exact ⟨0, rfl, by omega, Lib.hid (World.ownsRow_nil _ _ _ _), Lib.hid (fun j h => by omega), Lib.hid (below_drewN (Below.refl _ _) _)⟩
      case round =>
        clear e1 e1' R1
        obtain ⟨k, rfl, hk, HO, HK, HB⟩ := hrel
        by_cases hlt : k < 4
        · obtain ⟨b2, o2, u2, x2, e, hb2, g2, e2, r2, y2⟩ := (HV.out.keep (w' := wr) (fun p hp => HB.out.cell (by omega))).index k (by have := HL.out; omega)
          injection e with e
          injection e with ea eb
          subst ea eb
          have q1 : decide ((k : Int) < 4) = true := decide_eq_true (by omega)
          have q1' : decide (k < 4) = true := decide_eq_true hlt
          obtain ⟨A2, c2', rfl, hl2, hm2⟩ := r2.form
          unfold maxLen at hm2
          have SA := Lib.hid (sect_at g2)
          have HS := Lib.hid (bodyOf_succ g2)
          have SF := Lib.hid (fun h : Whole vs => stamp_first h g2)
          have G2 := Lib.hid g2
          by_cases hx2 : x2.length = 128
          · have GF := Lib.hid (get_front hx2)
            obtain ⟨b3, o3, rfl, _, _⟩ := r2.index 0 (by omega)
            have HX2 := Lib.hid hx2
            rw [hx2] at r2 e2
            have hc2 : 128 ≤ c2' := by omega
            have MI := Lib.hid (mid_ir r2 hx2)
            have ML := Lib.hid (mid_len hx2)
            have R2 := Lib.hid r2
            have Y2 := Lib.hid y2
            have T2 := Lib.hid (IR.tail_ r2 120 (by decide))
            have YT := Lib.hid (Bytes.drop y2 120)
            clear r2 g2 y2 hx2
            by_cases ha : getS x2 = head0 vs
            · have dA : (getS x2 == head0 vs) = true := by simpa using ha
              have dA' : (getS x2 != head0 vs) = false := by simpa using ha
              have HA := Lib.hid (GF.out.symm.trans ha)
              clear ha
              by_cases hb : getS (x2.drop 120) = head0 vs
              · have dB : (getS (x2.drop 120) == head0 vs) = true := by simpa using hb
                have dB' : (getS (x2.drop 120) != head0 vs) = false := by simpa using hb
                have HSt := Lib.hid (stampOf_eq HX2.out HA.out hb)
                clear hb
                go_wp2_with fail
                (with_reducible refine (get_ref _ x2 wr B R2.out Y2.out).mono ?_)
                rintro e w2 ⟨rfl, d2, rfl⟩
                go_wp2_with fail
                (with_reducible refine (get_ref _ (x2.drop 120) (wr.drewN d2) B (T2.out.drewN d2) YT.out).mono ?_)
                rintro e w3 ⟨rfl, d3, rfl⟩
                go_wp2_with (at_builtin; refine wpList_append_all _ rfl _ _ _ rfl w.heap.size 5 i0 .u8 1 Try.underlying22 hi0 hz0 hz1 hz2 _ (112 * k) (bodyOf (vs.take k)) rfl (own_drewN (own_drewN HO.out d2) d3) B (.slice (some ⟨b3, o3 + 8, none⟩) 112 (c2' - 8)) ((x2.drop 8).take 112) rfl ((MI.out.drewN d2).drewN d3) (by rw [ML.out]; simp only [maxLen]; omega) (by rw [ML.out]; omega) HB.out.size ?_; intro v4 w4 hown4 hb4)
                rw [ML.out, ← HS.out] at hown4
                have OW4 := Lib.hid hown4
                have HB4 := Lib.hid ((below_drewN HB.out (d2 + d3)).trans hb4)
                clear hown4 hb4
                go_wp2
                go_roundw
                case rel => exact ⟨k + 1, by go_num, by omega, OW4, Lib.hid (fun j hj => by
                    by_cases e : j = k
                    · rw [e, SA.out]; exact ⟨HX2.out, HSt.out⟩
                    · exact HK.out j (by omega)), HB4⟩
                case measure => simp [intOf]; omega
              · have dB : (getS (x2.drop 120) == head0 vs) = false := by simpa using hb
                have dB' : (getS (x2.drop 120) != head0 vs) = true := by simpa using hb
                have NW := Lib.hid (show ¬ Whole vs from fun h => hb (SF.out h).2.2)
                clear hb
                go_wp2_with fail
                (with_reducible refine (get_ref _ x2 wr B R2.out Y2.out).mono ?_)
                rintro e w2 ⟨rfl, d2, rfl⟩
                go_wp2_with fail
                (with_reducible refine (get_ref _ (x2.drop 120) (wr.drewN d2) B (T2.out.drewN d2) YT.out).mono ?_)
                rintro e w3 ⟨rfl, d3, rfl⟩
                go_wp2
                refine bodyPost_ret (v := .tuple #[.slice none 0 0, .int .u64 0, .bool false]) (by simp [results, Try.results15, go_sem]; try rfl) rfl ?_
                exact .inr ⟨NW.out, rfl, below_drewN HB.out _⟩
            · have dA : (getS x2 == head0 vs) = false := by simpa using ha
              have dA' : (getS x2 != head0 vs) = true := by simpa using ha
              have NW := Lib.hid (show ¬ Whole vs from fun h => ha (GF.out.trans (SF.out h).2.1))
              clear ha
              go_wp2_with fail
              (with_reducible refine (get_ref _ x2 wr B R2.out Y2.out).mono ?_)
              rintro e w2 ⟨rfl, d2, rfl⟩
              go_wp2
              refine bodyPost_ret (v := .tuple #[.slice none 0 0, .int .u64 0, .bool false]) (by simp [results, Try.results15, go_sem]; try rfl) rfl ?_
              exact .inr ⟨NW.out, rfl, below_drewN HB.out _⟩
          · have d3 : ((x2.length : Int) == 128) = false := by simp; omega
            have d4 : ((x2.length : Int) != 128) = true := by simp; omega
            have d5 : (x2.length == 128) = false := by simpa using hx2
            have NW := Lib.hid (show ¬ Whole vs from fun h => hx2 (SF.out h).1)
            clear r2 g2 hx2
            go_wp2
            refine bodyPost_ret (v := .tuple #[.slice none 0 0, .int .u64 0, .bool false]) (by simp [results, Try.results15, go_sem]; try rfl) rfl ?_
            exact .inr ⟨NW.out, rfl, HB.out⟩
        · obtain rfl : k = 4 := by omega
          have HW := Lib.hid (whole_of HL.out HK.out)
          have OW := Lib.hid (show wr.ownsRow w.heap.size 5 1 _ 448 ((bodyOf vs).map (.int .u8)) by have := HO.out; rw [List.take_of_length_le (by have := HL.out; omega)] at this; exact this)
          clear HO
          obtain ⟨gv, cv, hve⟩ := ownsRow_succ (k := 447) OW.out
          subst hve
          go_wp2
          refine bodyPost_ret (v := .tuple #[.slice (some ⟨gv, 0, none⟩) 448 cv, .int .u64 (head0 vs), .bool true]) (by simp [results, Try.results15, go_sem]; try rfl) rfl ?_
          exact .inl ⟨HW.out, _, rfl, OW.out, HB.out⟩
    · have d3 : ((x1.length : Int) == 128) = false := by simp; omega
      have d4 : ((x1.length : Int) != 128) = true := by simp; omega
      have d5 : (x1.length == 128) = false := by simpa using hx
      have NW := Lib.hid (show ¬ Whole vs from fun h => hx (by have := h.2.1 0 (by have := HL.out; omega); rwa [sect_at g1] at this))
      clear r1 g1 hx y1
      go_enter Try.func15, Try.ntmps15
      go_wp2
      refine bodyPost_ret (v := .tuple #[.slice none 0 0, .int .u64 0, .bool false]) (by simp [results, Try.results15, go_sem]; try rfl) rfl ?_
      exact .inr ⟨NW.out, rfl, Below.refl _ _⟩
  · have d1 : ((vs.length : Int) == 4) = false := by simp; omega
    have d2 : ((vs.length : Int) != 4) = true := by simp; omega
    have d3 : (vs.length == 4) = false := by simpa using hl
    have HN := Lib.hid (show ¬ Whole vs from fun h => hl h.1)
    clear hv hl
    go_enter Try.func15, Try.ntmps15
    go_wp2
    refine bodyPost_ret (v := .tuple #[.slice none 0 0, .int .u64 0, .bool false]) (by simp [results, Try.results15, go_sem]; try rfl) rfl ?_
    exact .inr ⟨HN.out, rfl, Below.refl _ _⟩
end Go.Proofs.Ytacjbgkcghcnnaa.Seal
