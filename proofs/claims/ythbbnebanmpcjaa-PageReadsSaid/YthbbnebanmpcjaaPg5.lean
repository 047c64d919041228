import Derived.Test.YthbbnebanmpcjaaPg4
/- A page: Get, Slots, lowest. -/
namespace Go.Proofs.Ythbbnebanmpcjaa.Pg
open Go.ChangeShapes Go.WideShapes Go.ChangeAt Go.RowKit Go.IntWalk Go.Proofs.Mem
set_option linter.unusedVariables false
set_option linter.unusedSimpArgs false
theorem data_no (w : World) (b : Nat) (xs : List Int) (h : PgAt w b xs) (N : Int) (hN : N < 0 ∨ (cnt xs : Int) ≤ N) :
    Calls Try.prog 45 #[.pointer (some ⟨b, 0, none⟩), .int .i64 N] w fun e w' => e = .returned (.slice none 0 0) ∧ w = w' := by
  have LA := Lib.hid (length_no w b xs h N hN)
  clear h hN
  go_enter Try.func45, Try.ntmps45
  go_wp2_with fail
  (with_reducible refine LA.out.mono ?_)
  rintro e w1 ⟨rfl, rfl⟩
  go_wp2
  go_ret
  exact ⟨rfl, rfl⟩
theorem get_none (w : World) (b : Nat) (N : Int) (hD : Calls Try.prog 45 #[.pointer (some ⟨b, 0, none⟩), .int .i64 N] w fun e w' => e = .returned (.slice none 0 0) ∧ ∃ d, w' = w.drewN d) :
    Calls Try.prog 24 #[.pointer (some ⟨b, 0, none⟩), .int .i64 N] w fun e w' => e = .returned (.tuple #[.slice none 0 0, .bool false]) ∧ ∃ d, w' = w.drewN d := by
  have HD := Lib.hid hD
  clear hD
  go_enter Try.func24, Try.ntmps24
  go_wp2_with fail
  (with_reducible refine HD.out.mono ?_)
  rintro e w1 ⟨rfl, d, rfl⟩
  go_wp2
  go_ret2
  exact ⟨rfl, d, rfl⟩
set_option maxRecDepth 100000 in
set_option maxHeartbeats 4000000 in
theorem get_yes (w : World) (b : Nat) (xs : List Int) (h : PgAt w b xs) (s : Nat) (hs : s < 107) (hw : off xs s + len xs s ≤ 448) (h0 : len xs s ≠ 0) (N : Int) (hN : N = s) :
    Calls Try.prog 24 #[.pointer (some ⟨b, 0, none⟩), .int .i64 N] w fun e w' => ∃ u, e = .returned (.tuple #[u, .bool true]) ∧ w'.ownsRow w.heap.size 5 1 u (len xs s) ((dat xs s).map (.int .u8)) ∧ Below w.heap.size w w' := by
  subst hN
  have HD := Lib.hid (data_any w b xs h s hs hw (s : Int) rfl)
  obtain ⟨i0, hi0, hz0, hz1, hz2⟩ := info_parts NumBytes.u8_info
  rw [if_neg h0] at HD
  have HI := Lib.hid (fun d : Nat => (h.later (below_drewN (Below.refl _ _) d)).ir (off xs s) (len xs s) hw)
  have HDL := Lib.hid (show (dat xs s).length = len xs s by unfold dat; rw [List.length_take, List.length_drop, h.len]; omega)
  have HDE := Lib.hid (show (xs.drop (off xs s)).take (len xs s) = dat xs s from rfl)
  rw [HDE.out] at HI
  obtain ⟨L, hL⟩ : ∃ L, L = len xs s := ⟨_, rfl⟩
  obtain ⟨O, hO⟩ : ∃ O, O = off xs s := ⟨_, rfl⟩
  rw [← hL] at HD HI HDL hw h0 ⊢
  rw [← hO] at HD HI hw
  have b0 : ((L : Int) == 0) = false := by rw [beq_eq_false_iff_ne]; omega
  have hL448 : L ≤ 448 := by omega
  clear h hL hO HDE
  go_enter Try.func24, Try.ntmps24
  go_wp2_with fail
  (with_reducible refine HD.out.mono ?_)
  rintro e w1 ⟨rfl, d, rfl⟩
  have HB0 := Lib.hid (show Below w.heap.size w (w.drewN d) from below_drewN (Below.refl _ _) d)
  go_wp2_with (first
    | (refine wpList_make_full _ rfl _ _ _ rfl w.heap.size 5 i0 _ 1 Try.underlying31 hi0 hz0 hz1 .i64 .i64 L L L rfl rfl rfl rfl (by rw [hz2]; omega) (by simp only [maxLen]; omega) (Nat.le_refl _) ?_
       intro w1 hown1 hg1
       have ROW := Lib.hid (show RowAt 5 w1 w.heap.size w.heap.size (.slice (some ⟨w.heap.size, 0, none⟩) L L) (List.replicate L 0) from ⟨⟨L, by simp⟩, by rw [madeZero] at hown1; simpa using hown1⟩)
       have HB1 := Lib.hid (show Below w.heap.size w w1 from HB0.out.trans (grown_below hg1))
       have IR1 := Lib.hid ((HI.out d).below (show Below (w.drewN d).heap.size (w.drewN d) w1 from grown_below hg1))
       clear hown1 hg1)
    | (refine wpList_copy_row _ rfl _ _ _ _ rfl 5 Try.underlying31 (by kernel_rfl) 5 w.heap.size w.heap.size L L (List.replicate L 0) List.length_replicate rfl ROW.out _ ⟨b, O, none⟩ (448 - O) L (dat xs s) HDL.out rfl IR1.out (Nat.le_refl _) ?_
       intro w2 hr2 hg2
       have R2 := Lib.hid hr2
       have HB2 := Lib.hid (HB1.out.trans ((Below.refl w.heap.size w1).grown hg2 HB1.out.size (fun g hg => by injection hg with hg; omega)))
       clear hr2 hg2))
  go_ret2
  have h9 := R2.out.own
  rw [show dat xs s ++ (List.replicate L (0 : Int)).drop (dat xs s).length = dat xs s by rw [HDL.out, List.drop_replicate, Nat.sub_self]; simp, HDL.out] at h9
  exact ⟨_, rfl, h9, HB2.out⟩
/-- the slots that have something, up to n -/
def slotsTo (xs : List Int) (n : Nat) : List Int := ((List.range n).filter (fun s => decide (len xs s ≠ 0))).map (fun (s : Nat) => (s : Int))
theorem slotsTo_succ (xs : List Int) (n : Nat) : slotsTo xs (n + 1) = if len xs n = 0 then slotsTo xs n else slotsTo xs n ++ [(n : Int)] := by
  unfold slotsTo
  rw [List.range_succ, List.filter_append]
  by_cases h : len xs n = 0
  · rw [if_pos h]; simp [h]
  · rw [if_neg h]; simp [h]
theorem slotsTo_len (xs : List Int) (n : Nat) : (slotsTo xs n).length ≤ n := by
  unfold slotsTo
  rw [List.length_map]
  have := List.length_filter_le (fun s => decide (len xs s ≠ 0)) (List.range n)
  simpa using this
theorem int_info : (Try.prog.info? 3).map (fun i => (i.zero, i.size, i.bytes)) = some (some (.int .i64 0), 1, 8) := by kernel_rfl
set_option maxRecDepth 100000 in
set_option maxHeartbeats 4000000 in
theorem slots_any (w : World) (b : Nat) (xs : List Int) (h : PgAt w b xs) (hc : cnt xs ≤ 40) :
    Calls Try.prog 23 #[.pointer (some ⟨b, 0, none⟩)] w fun e w' => ∃ u, e = .returned u ∧ w'.ownsRow w.heap.size 3 1 u (slotsTo xs (cnt xs)).length ((slotsTo xs (cnt xs)).map (.int .i64)) ∧ Below w.heap.size w w' := by
  obtain ⟨ii, hi1, hy0, hy1, hy2⟩ := info_parts int_info
  have CA := Lib.hid (count_any w b xs h)
  have LA := Lib.hid (fun W (hb : Below w.heap.size w W) s (hs : s < 107) => length_any W b xs (h.later hb) s hs (s : Int) rfl)
  obtain ⟨C, hC⟩ : ∃ C, C = cnt xs := ⟨_, rfl⟩
  rw [← hC] at CA hc ⊢
  clear h hC
  go_enter Try.func23, Try.ntmps23
  go_wp2_with fail
  (with_reducible refine CA.out.mono ?_)
  rintro e w1 ⟨rfl, rfl⟩
  go_wp2
  go_loopw [3, 7] (fun o x wr => ∃ s : Nat, s ≤ C ∧ x = .int .i64 s ∧ Hid (wr.ownsRow w.heap.size 3 1 o (slotsTo xs s).length ((slotsTo xs s).map (.int .i64))) ∧ Hid (Below w.heap.size w wr)) (fun _ x _ => C - (intOf x).toNat)
  case atStart => exact ⟨0, Nat.zero_le _, rfl, Lib.hid (World.ownsRow_nil _ _ _ _), Lib.hid (Below.refl _ _)⟩
  case round =>
    obtain ⟨s, hs, rfl, HO, HB⟩ := hrel
    by_cases hlt : s < C
    · have ds : decide ((s : Int) < (C : Int)) = true := by simp; omega
      have LS := Lib.hid (LA.out wr HB.out s (by omega))
      have HU := Lib.hid (slotsTo_succ xs s)
      have hln := slotsTo_len xs s
      obtain ⟨L, hL⟩ : ∃ L, L = len xs s := ⟨_, rfl⟩
      rw [← hL] at LS HU
      have HLT := Lib.hid hlt
      clear hL
      by_cases h0 : L = 0
      · subst h0
        have HU2 := HU.out
        rw [if_pos rfl] at HU2
        have HO2 := Lib.hid (show wr.ownsRow w.heap.size 3 1 _ (slotsTo xs (s + 1)).length ((slotsTo xs (s + 1)).map (.int .i64)) by rw [HU2]; exact HO.out)
        clear HU2
        go_wp2_with fail
        (with_reducible refine LS.out.mono ?_)
        rintro e w1 ⟨rfl, rfl⟩
        go_wp2
        go_roundw
        case rel => exact ⟨s + 1, HLT.out, by go_num, HO2, HB⟩
        case measure => have := HLT.out; simp [intOf]; omega
      · have b0 : ((L : Int) != 0) = true := by simp; omega
        have HU2 := HU.out
        rw [if_neg h0] at HU2
        have HU3 := Lib.hid HU2
        clear HU2
        go_wp2_with fail
        (with_reducible refine LS.out.mono ?_)
        rintro e w1 ⟨rfl, rfl⟩
        go_wp2_with (at_builtin; refine wpList_push _ rfl _ _ _ rfl w.heap.size 3 ii .i64 8 Try.underlying50 hi1 hy0 hy1 hy2 _ (slotsTo xs s).length (slotsTo xs s) rfl (HO.out.alloc _) wr.heap.size (s : Int) rfl (cell_new _ _ _ 0) (by simp only [maxLen]; omega) (by omega) (by have := HB.out.size; simp; omega) ?_; intro v5 w5' hown5 hb5)
        have HO5 := Lib.hid (show w5'.ownsRow w.heap.size 3 1 v5 (slotsTo xs (s + 1)).length ((slotsTo xs (s + 1)).map (.int .i64)) by rw [HU3.out, List.length_append]; exact hown5)
        have HB5' := Lib.hid (show Below w.heap.size w w5' from (HB.out.trans ((new_ (Below.refl _ _) _).mono HB.out.size)).trans hb5)
        clear hown5 hb5
        go_wp2
        go_roundw
        case rel => exact ⟨s + 1, HLT.out, by go_num, HO5, HB5'⟩
        case measure => have := HLT.out; simp [intOf]; omega
    · have es : s = C := by omega
      have ds : decide ((s : Int) < (C : Int)) = false := by simp; omega
      subst es
      go_wp2
      go_ret
      exact ⟨_, rfl, HO.out, HB.out⟩
/-- the lowest offset of the first n slots that have something -/
def lowTo (xs : List Int) : Nat → Nat
  | 0 => 448
  | n + 1 => if len xs n = 0 then lowTo xs n else min (lowTo xs n) (off xs n)
theorem lowTo_le (xs : List Int) (n : Nat) : lowTo xs n ≤ 448 := by
  induction n with
  | zero => exact Nat.le_refl _
  | succ n ih => unfold lowTo; split; (exact ih); (exact Nat.le_trans (Nat.min_le_left _ _) ih)
theorem off_le (xs : List Int) (hb : Bytes xs) (hl : xs.length = 448) (s : Nat) (hs : s < 107) : off xs s ≤ 65535 := by
  have := two_b hb (16 + 4 * s) (by rw [hl]; omega)
  unfold off; omega
set_option maxRecDepth 100000 in
set_option maxHeartbeats 4000000 in
theorem lowest_any (w : World) (b : Nat) (xs : List Int) (h : PgAt w b xs) :
    Calls Try.prog 58 #[.pointer (some ⟨b, 0, none⟩)] w fun e w' => e = .returned (.int .i64 (lowTo xs (min (cnt xs) 40))) ∧ w = w' := by
  have CA := Lib.hid (count_any w b xs h)
  have LA := Lib.hid (fun s (hs : s < 107) => length_any w b xs h s hs (s : Int) rfl)
  have OA := Lib.hid (fun s (hs : s < 107) => offset_any w b xs h s (by omega) (s : Int) rfl)
  have LL := Lib.hid (lowTo_le xs)
  obtain ⟨C0, hC0⟩ : ∃ C, C = cnt xs := ⟨_, rfl⟩
  obtain ⟨C, hC⟩ : ∃ C, C = min (cnt xs) 40 := ⟨_, rfl⟩
  rw [← hC0] at CA hC
  rw [← hC0, ← hC]
  have hc : C ≤ 40 := by omega
  have HCC := Lib.hid hC
  clear h hC0 hC
  go_enter Try.func58, Try.ntmps58
  go_upto_region 2 with fail
  go_cut [7, 8] (fun v c wx => v = .int .i64 C ∧ c = .int .i64 0 ∧ w = wx)
  case first =>
    by_cases h40 : C0 ≤ 40
    · have e9 : C = C0 := by have := HCC.out; omega
      have h41 : (C0 : Int) ≤ 40 := by omega
      go_wp2_with fail
      all_goals ((with_reducible refine CA.out.mono ?_); rintro e w1 ⟨rfl, rfl⟩; go_wp2; go_meet; exact ⟨by rw [e9], rfl, rfl⟩)
    · have e9 : C = 40 := by have := HCC.out; omega
      have h41 : ¬ (C0 : Int) ≤ 40 := by omega
      have h42 : (40 : Int) ≤ C0 := by omega
      go_wp2_with fail
      all_goals ((with_reducible refine CA.out.mono ?_); rintro e w1 ⟨rfl, rfl⟩; go_wp2; go_meet; exact ⟨by rw [e9]; rfl, rfl, rfl⟩)
  case rest =>
    obtain ⟨rfl, rfl, rfl⟩ := hcut
    go_wp2
    go_loopw [3, 8] (fun u x wr => ∃ s : Nat, s ≤ C ∧ x = .int .i64 s ∧ u = .int .i64 (lowTo xs s) ∧ w = wr) (fun _ x _ => C - (intOf x).toNat)
    case atStart => exact ⟨0, Nat.zero_le _, rfl, rfl, rfl⟩
    case round =>
      obtain ⟨s, hs, rfl, rfl, rfl⟩ := hrel
      by_cases hlt : s < C
      · have ds : decide ((s : Int) < (C : Int)) = true := by simp; omega
        have LS := Lib.hid (LA.out s (by omega))
        have OS := Lib.hid (OA.out s (by omega))
        have HU := Lib.hid (show lowTo xs (s + 1) = if len xs s = 0 then lowTo xs s else min (lowTo xs s) (off xs s) from rfl)
        obtain ⟨L, hL⟩ : ∃ L, L = len xs s := ⟨_, rfl⟩
        obtain ⟨O, hO⟩ : ∃ O, O = off xs s := ⟨_, rfl⟩
        obtain ⟨M, hM⟩ : ∃ M, M = lowTo xs s := ⟨_, rfl⟩
        rw [← hL] at LS HU
        rw [← hO] at OS HU
        rw [← hM] at HU ⊢
        have HLT := Lib.hid hlt
        clear hL hO hM
        by_cases h0 : L = 0
        · subst h0
          have HU2 := Lib.hid (show lowTo xs (s + 1) = M by rw [HU.out, if_pos rfl])
          go_wp2_with fail
          (with_reducible refine LS.out.mono ?_)
          rintro e w1 ⟨rfl, rfl⟩
          go_wp2
          go_roundw
          case rel => exact ⟨s + 1, HLT.out, by go_num, by rw [HU2.out], trivial⟩
          case measure => have := HLT.out; simp [intOf]; omega
        · have b0 : ((L : Int) != 0) = true := by simp; omega
          by_cases hm : M ≤ O
          · have hmi : (M : Int) ≤ O := by omega
            have HU2 := Lib.hid (show lowTo xs (s + 1) = M by rw [HU.out, if_neg h0]; omega)
            go_wp2_with (first
              | ((with_reducible refine LS.out.mono ?_); rintro e w1 ⟨rfl, rfl⟩)
              | ((with_reducible refine OS.out.mono ?_); rintro e w1 ⟨rfl, rfl⟩)
              | fail)
            go_roundw
            case rel => exact ⟨s + 1, HLT.out, by go_num, by rw [HU2.out], trivial⟩
            case measure => have := HLT.out; simp [intOf]; omega
          · have hmi : ¬ (M : Int) ≤ O := by omega
            have hmj : (O : Int) ≤ M := by omega
            have HU2 := Lib.hid (show lowTo xs (s + 1) = O by rw [HU.out, if_neg h0]; omega)
            go_wp2_with (first
              | ((with_reducible refine LS.out.mono ?_); rintro e w1 ⟨rfl, rfl⟩)
              | ((with_reducible refine OS.out.mono ?_); rintro e w1 ⟨rfl, rfl⟩)
              | fail)
            go_roundw
            case rel => exact ⟨s + 1, HLT.out, by go_num, by rw [HU2.out], trivial⟩
            case measure => have := HLT.out; simp [intOf]; omega
      · have es : s = C := by omega
        have ds : decide ((s : Int) < (C : Int)) = false := by simp; omega
        subst es
        go_wp2
        go_ret
        exact ⟨rfl, rfl⟩
end Go.Proofs.Ythbbnebanmpcjaa.Pg
