import Derived.Test.YtkhjkmelajlpeaaStrip4
/- Read, and the document's. -/
namespace Go.Proofs.Ytkhjkmelajlpeaa.Strip
open Go.ChangeShapes Go.WideShapes Go.ChangeAt Go.RowKit Go.IntWalk Go.Shelf Go.Proofs.Mem Blk
set_option linter.unusedVariables false
def ReadP (w : World) (L : List Int) (e : Ending) (w' : World) : Prop := ∃ v, e = .returned v ∧ w'.ownsRow w.heap.size 5 1 v L.length (L.map (.int .u8)) ∧ Below w.heap.size w w'
theorem read_len : ∀ (l : List (List Int)), (readS l).length ≤ 127 * l.length
  | [] => by simp [readS]
  | b :: t => by
    have ih := read_len t
    simp only [readS]
    split
    · rename_i h
      have : (b.take (b.getD 127 0).toNat).length ≤ 127 := by rw [List.length_take]; omega
      split
      · simp only [List.length_append, List.length_nil, List.length_cons]; omega
      · simp only [List.length_append, List.length_cons]; omega
    · simp
set_option maxRecDepth 100000 in
set_option maxHeartbeats 8000000 in
theorem read_any (w : World) (B : Nat) (v : Value) (vs : List (Value × List Int)) (hv : SR w B v vs) (hB : B ≤ w.heap.size) (hl : vs.length ≤ 1000) :
    Calls Try.prog 17 #[v] w (ReadP w (readS (vs.map (·.2)))) := by
  obtain ⟨i0, hi0, hz0, hz1, hz2⟩ := info_parts u8_info
  obtain ⟨A, c, rfl, hlc, hcm⟩ := hv.form
  unfold maxLen at hcm
  have HV := Lib.hid hv
  obtain ⟨L, hL⟩ : ∃ L, vs.map (·.2) = L := ⟨_, rfl⟩
  have HL := Lib.hid hL
  have HLL := Lib.hid (show L.length = vs.length by rw [← hL, List.length_map])
  rw [hL]
  clear hv hL
  go_enter Try.func17, Try.ntmps17
  go_wp2
  go_loopw [3, 9] (fun o i wr => ∃ (k : Nat) (out : List Int), i = .int .i64 k ∧ k ≤ vs.length ∧ Hid (wr.ownsRow w.heap.size 5 1 o out.length (out.map (.int .u8))) ∧ Hid (readS L = out ++ readS (L.drop k)) ∧ Hid (out.length ≤ 127 * k) ∧ Hid (Below w.heap.size w wr)) (fun _ i _ => vs.length - (intOf i).toNat)
  case atStart => exact ⟨0, [], rfl, by omega, Lib.hid (World.ownsRow_nil _ _ _ _), Lib.hid rfl, Lib.hid (by simp), Lib.hid (Below.refl _ _)⟩
  case round =>
    obtain ⟨k, out, rfl, hk, HO, HR, HN, HBL⟩ := hrel
    by_cases hlt : k < vs.length
    · obtain ⟨b1, o1, u1, x1, rfl, _, g1, e1, r1, y1⟩ := (HV.out.keep (w' := wr) (fun p hp => HBL.out.cell (by omega))).index k hlt
      have q1 : decide ((k : Int) < (vs.length : Int)) = true := decide_eq_true (by omega)
      have q1' : decide (k < vs.length) = true := decide_eq_true hlt
      have hlk : L[k]? = some x1 := by rw [← HL.out]; exact map_at g1
      have DR := Lib.hid (drop_at hlk)
      obtain ⟨A1, c1, rfl, hl1, hm1⟩ := r1.form
      unfold maxLen at hm1
      clear hlk g1
      by_cases h128 : x1.length = 128
      · rw [h128] at r1 e1 hl1
        have d1 : ((x1.length : Int) != 128) = false := by simp; omega
        obtain ⟨b2, o2, rfl, hb2, hc2⟩ := r1.index 127 (by omega)
        have R1 := Lib.hid r1
        have hy := y1.at_ 127
        have LAST := Lib.hid (read_last (b := x1) (L.drop (k + 1)) h128)
        have MORE := Lib.hid (read_more (b := x1) (L.drop (k + 1)) h128)
        have BAD := Lib.hid (read_bad (b := x1) (L.drop (k + 1)))
        have TL := Lib.hid (fun u => show (x1.take u).length = min u 128 by rw [List.length_take, h128])
        obtain ⟨m, hm⟩ : ∃ m : Nat, x1.getD 127 0 = (m : Int) := ⟨(x1.getD 127 0).toNat, by omega⟩
        rw [hm] at hc2 hy
        have HM := Lib.hid hm
        clear r1 h128 hm
        by_cases h1 : 127 < m
        · have q2 : decide ((127 : Int) < (m : Int)) = true := decide_eq_true (by omega)
          have q2' : decide (127 < m) = true := decide_eq_true h1
          have RE := Lib.hid (show readS L = out by rw [HR.out, DR.out, BAD.out (by rw [HM.out]; omega), List.append_nil])
          go_wp2
          go_ret
          exact ⟨_, rfl, by rw [RE.out]; exact HO.out, HBL.out⟩
        · have q2 : decide ((127 : Int) < (m : Int)) = false := decide_eq_false (by omega)
          have q2' : decide (127 < m) = false := decide_eq_false h1
          by_cases h2 : m < 127
          · have q3 : decide ((m : Int) < 127) = true := decide_eq_true (by omega)
            have q3' : decide (m < 127) = true := decide_eq_true h2
            have RE := Lib.hid (show readS L = out ++ x1.take m by rw [HR.out, DR.out, LAST.out (by rw [HM.out]; omega), HM.out, Int.toNat_natCast])
            go_wp2_with (at_builtin; refine wpList_append_all _ rfl _ _ _ rfl w.heap.size 5 i0 .u8 1 Try.underlying22 hi0 hz0 hz1 hz2 u3 out.length out rfl HO.out B (.slice (some ⟨b2, o2, none⟩) m c1) (x1.take m) rfl (R1.out.take (by omega)) (by have := HN.out; rw [TL.out m]; unfold maxLen; omega) (by have := HN.out; rw [TL.out m]; omega) HBL.out.size ?_; intro v2 w2 hown2 hb2'; rw [← List.length_append] at hown2; have OW := Lib.hid hown2; have HB2 := Lib.hid (HBL.out.trans hb2'); clear hown2 hb2')
            go_ret
            exact ⟨_, rfl, by rw [RE.out]; exact OW.out, HB2.out⟩
          · obtain rfl : m = 127 := by omega
            have q3 : decide (((127 : Nat) : Int) < 127) = false := by decide
            have RE := Lib.hid (show readS L = (out ++ x1.take 127) ++ readS (L.drop (k + 1)) by rw [HR.out, DR.out, MORE.out HM.out, HM.out, Int.toNat_natCast, List.append_assoc])
            go_wp2_with (at_builtin; refine wpList_append_all _ rfl _ _ _ rfl w.heap.size 5 i0 .u8 1 Try.underlying22 hi0 hz0 hz1 hz2 u3 out.length out rfl HO.out B (.slice (some ⟨b2, o2, none⟩) 127 c1) (x1.take 127) rfl (R1.out.take (by omega)) (by have := HN.out; rw [TL.out 127]; unfold maxLen; omega) (by have := HN.out; rw [TL.out 127]; omega) HBL.out.size ?_; intro v2 w2 hown2 hb2'; rw [← List.length_append] at hown2; have OW := Lib.hid hown2; have HB2 := Lib.hid (HBL.out.trans hb2'); clear hown2 hb2')
            go_roundw
            case rel => exact ⟨k + 1, out ++ x1.take 127, by go_num, by omega, OW, RE, Lib.hid (by have := HN.out; rw [List.length_append, TL.out]; omega), HB2⟩
            case measure => simp [intOf]; omega
      · have d1 : ((x1.length : Int) == 128) = false := by simp; omega
        have d2 : ((x1.length : Int) != 128) = true := by simp; omega
        have d3 : (x1.length == 128) = false := by simpa using h128
        have RE := Lib.hid (show readS L = out by rw [HR.out, DR.out, read_bad _ (fun h => h128 h.1), List.append_nil])
        clear h128
        go_wp2
        go_ret
        exact ⟨_, rfl, by rw [RE.out]; exact HO.out, HBL.out⟩
    · obtain rfl : k = vs.length := by omega
      have RE := Lib.hid (show readS L = out by rw [HR.out, List.drop_of_length_le (by rw [HLL.out]; exact Nat.le_refl _)]; simp [readS])
      go_wp2
      go_ret
      exact ⟨_, rfl, by rw [RE.out]; exact HO.out, HBL.out⟩
set_option maxRecDepth 100000 in
set_option maxHeartbeats 8000000 in
theorem ref_read_any (w : World) (B : Nat) (v : Value) (vs : List (Value × List Int)) (hv : SR w B v vs) (hB : B ≤ w.heap.size) (hl : vs.length ≤ 1000) :
    Calls Try.prog 18 #[v] w (ReadP w (readS (vs.map (·.2)))) := by
  obtain ⟨i0, hi0, hz0, hz1, hz2⟩ := info_parts u8_info
  obtain ⟨A, c, rfl, hlc, hcm⟩ := hv.form
  unfold maxLen at hcm
  have HV := Lib.hid hv
  obtain ⟨L, hL⟩ : ∃ L, vs.map (·.2) = L := ⟨_, rfl⟩
  have HL := Lib.hid hL
  have HLL := Lib.hid (show L.length = vs.length by rw [← hL, List.length_map])
  rw [hL]
  clear hv hL
  go_enter Try.func18, Try.ntmps18
  go_wp2
  go_loopw [3, 4] (fun o i wr => ∃ (k : Nat) (out : List Int), i = .int .i64 k ∧ k ≤ vs.length ∧ Hid (wr.ownsRow w.heap.size 5 1 o out.length (out.map (.int .u8))) ∧ Hid (readS L = out ++ readS (L.drop k)) ∧ Hid (out.length ≤ 127 * k) ∧ Hid (Below w.heap.size w wr)) (fun _ i _ => vs.length - (intOf i).toNat)
  case atStart => exact ⟨0, [], rfl, by omega, Lib.hid (World.ownsRow_nil _ _ _ _), Lib.hid rfl, Lib.hid (by simp), Lib.hid (Below.refl _ _)⟩
  case round =>
    obtain ⟨k, out, rfl, hk, HO, HR, HN, HBL⟩ := hrel
    by_cases hlt : k < vs.length
    · obtain ⟨b1, o1, u1, x1, rfl, _, g1, e1, r1, y1⟩ := (HV.out.keep (w' := wr) (fun p hp => HBL.out.cell (by omega))).index k hlt
      have q1 : decide ((k : Int) < (vs.length : Int)) = true := decide_eq_true (by omega)
      have q1' : decide (k < vs.length) = true := decide_eq_true hlt
      have hlk : L[k]? = some x1 := by rw [← HL.out]; exact map_at g1
      have DR := Lib.hid (drop_at hlk)
      obtain ⟨A1, c1, rfl, hl1, hm1⟩ := r1.form
      unfold maxLen at hm1
      clear hlk g1
      by_cases h128 : x1.length = 128
      · rw [h128] at r1 e1 hl1
        have d1 : ((x1.length : Int) != 128) = false := by simp; omega
        obtain ⟨b2, o2, rfl, hb2, hc2⟩ := r1.index 127 (by omega)
        have R1 := Lib.hid r1
        have hy := y1.at_ 127
        have LAST := Lib.hid (read_last (b := x1) (L.drop (k + 1)) h128)
        have MORE := Lib.hid (read_more (b := x1) (L.drop (k + 1)) h128)
        have BAD := Lib.hid (read_bad (b := x1) (L.drop (k + 1)))
        have TL := Lib.hid (fun u => show (x1.take u).length = min u 128 by rw [List.length_take, h128])
        obtain ⟨m, hm⟩ : ∃ m : Nat, x1.getD 127 0 = (m : Int) := ⟨(x1.getD 127 0).toNat, by omega⟩
        rw [hm] at hc2 hy
        have HM := Lib.hid hm
        clear r1 h128 hm
        by_cases h1 : 127 < m
        · have q2 : decide ((127 : Int) < (m : Int)) = true := decide_eq_true (by omega)
          have q2' : decide (127 < m) = true := decide_eq_true h1
          have RE := Lib.hid (show readS L = out by rw [HR.out, DR.out, BAD.out (by rw [HM.out]; omega), List.append_nil])
          go_wp2
          go_ret
          exact ⟨_, rfl, by rw [RE.out]; exact HO.out, HBL.out⟩
        · have q2 : decide ((127 : Int) < (m : Int)) = false := decide_eq_false (by omega)
          have q2' : decide (127 < m) = false := decide_eq_false h1
          by_cases h2 : m < 127
          · have q3 : decide ((m : Int) < 127) = true := decide_eq_true (by omega)
            have q3' : decide (m < 127) = true := decide_eq_true h2
            have RE := Lib.hid (show readS L = out ++ x1.take m by rw [HR.out, DR.out, LAST.out (by rw [HM.out]; omega), HM.out, Int.toNat_natCast])
            go_wp2_with (at_builtin; refine wpList_append_all _ rfl _ _ _ rfl w.heap.size 5 i0 .u8 1 Try.underlying22 hi0 hz0 hz1 hz2 u3 out.length out rfl HO.out B (.slice (some ⟨b2, o2, none⟩) m c1) (x1.take m) rfl (R1.out.take (by omega)) (by have := HN.out; rw [TL.out m]; unfold maxLen; omega) (by have := HN.out; rw [TL.out m]; omega) HBL.out.size ?_; intro v2 w2 hown2 hb2'; rw [← List.length_append] at hown2; have OW := Lib.hid hown2; have HB2 := Lib.hid (HBL.out.trans hb2'); clear hown2 hb2')
            go_ret
            exact ⟨_, rfl, by rw [RE.out]; exact OW.out, HB2.out⟩
          · obtain rfl : m = 127 := by omega
            have q3 : decide (((127 : Nat) : Int) < 127) = false := by decide
            have RE := Lib.hid (show readS L = (out ++ x1.take 127) ++ readS (L.drop (k + 1)) by rw [HR.out, DR.out, MORE.out HM.out, HM.out, Int.toNat_natCast, List.append_assoc])
            go_wp2_with (at_builtin; refine wpList_append_all _ rfl _ _ _ rfl w.heap.size 5 i0 .u8 1 Try.underlying22 hi0 hz0 hz1 hz2 u3 out.length out rfl HO.out B (.slice (some ⟨b2, o2, none⟩) 127 c1) (x1.take 127) rfl (R1.out.take (by omega)) (by have := HN.out; rw [TL.out 127]; unfold maxLen; omega) (by have := HN.out; rw [TL.out 127]; omega) HBL.out.size ?_; intro v2 w2 hown2 hb2'; rw [← List.length_append] at hown2; have OW := Lib.hid hown2; have HB2 := Lib.hid (HBL.out.trans hb2'); clear hown2 hb2')
            go_roundw
            case rel => exact ⟨k + 1, out ++ x1.take 127, by go_num, by omega, OW, RE, Lib.hid (by have := HN.out; rw [List.length_append, TL.out]; omega), HB2⟩
            case measure => simp [intOf]; omega
      · have d1 : ((x1.length : Int) == 128) = false := by simp; omega
        have d2 : ((x1.length : Int) != 128) = true := by simp; omega
        have d3 : (x1.length == 128) = false := by simpa using h128
        have RE := Lib.hid (show readS L = out by rw [HR.out, DR.out, read_bad _ (fun h => h128 h.1), List.append_nil])
        clear h128
        go_wp2
        go_ret
        exact ⟨_, rfl, by rw [RE.out]; exact HO.out, HBL.out⟩
    · obtain rfl : k = vs.length := by omega
      have RE := Lib.hid (show readS L = out by rw [HR.out, List.drop_of_length_le (by rw [HLL.out]; exact Nat.le_refl _)]; simp [readS])
      go_wp2
      go_ret
      exact ⟨_, rfl, by rw [RE.out]; exact HO.out, HBL.out⟩
end Go.Proofs.Ytkhjkmelajlpeaa.Strip
