import Derived.Test.YthbbnebanmpcjaaPgV
import Derived.Test.YthbbnebanmpcjaaEachB
/- Law's helpers: run. -/
namespace Go.Proofs.Ythbbnebanmpcjaa.Pg
open Go.ChangeShapes Go.WideShapes Go.ChangeAt Go.RowKit Go.IntWalk Go.Proofs.Mem Go.Proofs.Ythbbnebanmpcjaa.Law Go.Proofs.Each
set_option linter.unusedVariables false
set_option linter.unusedSimpArgs false
/-- the page behind the calls -/
def runP (n : Int) (l : List Pi) : List Int := runX (newP n) (l.map (·.o))
theorem runP_take {n : Int} {l : List Pi} {j : Nat} (hj : j < l.length) : runP n (l.take (j + 1)) = opX (runP n (l.take j)) l[j].o := by
  unfold runP
  rw [List.take_succ_eq_append_getElem hj, List.map_append, List.map_singleton, runX_snoc]
theorem Pw.later {w w' : World} {b : Nat} {xs : List Int} (h : Pw w b xs) (hb : Below w.heap.size w w') : Pw w' b xs := ⟨h.at_.later hb, h.wf⟩
theorem Below.low {w W W' : World} {b : Nat} (hb : Below W.heap.size W W') (h : w.heap.size ≤ W.heap.size) (e : b = w.heap.size) : Below b W W' := hb.mono (by omega)
theorem stamp_some (w : World) (b : Nat) (xs : List Int) (h : Pw w b xs) (M : Int) (hM : 0 ≤ M ∧ M ≤ 18446744073709551615) :
    Calls Try.prog 29 #[.pointer (some ⟨b, 0, none⟩), .int .u64 M] w fun e w' => e = .returned (.tuple #[]) ∧ Pw w' b (setN xs 0 8 M) ∧ Fr (fun x => x = b) w w' := by
  refine (stamp_any w b xs h.at_ M hM).mono ?_
  rintro e w1 ⟨rfl, p1, f1⟩
  exact ⟨rfl, ⟨p1, (stamp_wf h.wf (by decide) M).1⟩, f1⟩
set_option maxRecDepth 100000 in
set_option maxHeartbeats 8000000 in
theorem run_any (w : World) (n : Int) (hn : 0 ≤ n ∧ n ≤ 4294967295) (A : Option Addr) (c : Nat) (xl : List Pi) (hcm : c ≤ 9223372036854775807) (hlc : xl.length ≤ c) (hl : SS cPi 4 w w.heap.size (.slice A xl.length c) xl) (bl : ∀ x ∈ xl, PiAt w w.heap.size x) :
    Calls Try.prog 18 #[.int .u32 n, .slice A xl.length c] w fun e w' => e = .returned (.pointer (some ⟨w.heap.size, 0, none⟩)) ∧ Pw w' w.heap.size (runP n xl) ∧ Below w.heap.size w w' := by
  have HL := Lib.hid hl
  have BL := Lib.hid bl
  have NA := Lib.hid (new_any w n hn)
  clear hl bl
  obtain ⟨b, hb⟩ : ∃ b, b = w.heap.size := ⟨_, rfl⟩
  have HB := Lib.hid hb
  rw [← hb] at NA ⊢
  clear hb
  go_enter Try.func18, Try.ntmps18
  go_wp2_with fail
  (with_reducible refine NA.out.mono ?_)
  rintro e w1 ⟨rfl, p1, b1⟩
  have P1 := Lib.hid (show Pw w1 b (runP n (xl.take 0)) from ⟨p1, (new_wf n).1⟩)
  have B1 := Lib.hid b1
  clear p1 b1
  go_wp2
  go_loopw [6] (fun i wr => ∃ j : Nat, i = .int .i64 j ∧ j ≤ xl.length ∧ Hid (Pw wr b (runP n (xl.take j))) ∧ Hid (Below b w wr)) (fun i _ => xl.length - (intOf i).toNat)
  case atStart => exact ⟨0, rfl, by omega, P1, B1⟩
  case round =>
    obtain ⟨j, rfl, hj, HP, HW⟩ := hrel
    by_cases hlt : j < xl.length
    · have HO := Lib.hid (BL.out xl[j] (List.getElem_mem hlt))
      obtain ⟨g, off, rfl, hg, hcell⟩ := HL.out.at_ (List.getElem?_eq_getElem hlt)
      have HC := Lib.hid (fun k u (h : (cPi xl[j])[k]? = some u) => (HW.out.cell (p := ⟨g, off + j * 4 + k, none⟩) (by rw [HB.out]; exact hg)).trans (hcell k u h))
      obtain ⟨A1, c1, e1, _⟩ := HO.out.2.form
      have y0 : wr.cell? ⟨g, off + j * 4, none⟩ = some (.int .u8 xl[j].o.kind) := HC.out 0 _ rfl
      have y1 : wr.cell? ⟨g, off + j * 4 + 1, none⟩ = some (.int .i64 xl[j].o.slot) := HC.out 1 _ rfl
      have y2 : wr.cell? ⟨g, off + j * 4 + 2, none⟩ = some (.slice A1 xl[j].o.xs.length c1) := (HC.out 2 _ rfl).trans (congrArg some e1)
      have y3 : wr.cell? ⟨g, off + j * 4 + 3, none⟩ = some (.int .u64 xl[j].o.lsn) := HC.out 3 _ rfl
      have hm8 : xl[j].o.kind.tmod 8 = xl[j].o.kind % 8 := Int.tmod_eq_emod_of_nonneg HO.out.1.kind.1
      have HR := Lib.hid (fun w' (hf : Fr (fun x => x = b) wr w') => show IR w' w'.heap.size .u8 (.slice A1 xl[j].o.xs.length c1) xl[j].o.xs from by
        have h0 := HO.out.2
        rw [e1] at h0
        have hs := HW.out.size
        refine (h0.keep (fun p hp => ?_)).more (Nat.le_trans hs hf.size)
        rw [← HB.out] at hp
        have hs' := HB.out
        rw [hf.cell (by omega) (by omega)]
        exact HW.out.cell hp)
      have HSE := Lib.hid (fun W (hb : Below wr.heap.size wr W) => set_some W b _ (HP.out.later hb) xl[j].o.slot A1 xl[j].o.xs.length c1 xl[j].o.xs HO.out.1.byt rfl (fun w' hf => HR.out w' ((Fr.of_below (S := fun x => x = b) hb).trans hf)))
      have HGB := Lib.hid (show g < wr.heap.size by have := HW.out.size; have := HB.out; omega)
      have HCL := Lib.hid (clear_some wr b _ HP.out xl[j].o.slot)
      have HST := Lib.hid (stamp_some wr b _ HP.out xl[j].o.lsn HO.out.1.lsn)
      have HT := Lib.hid (runP_take (n := n) hlt)
      unfold opX at HT
      have HN := Lib.hid (fun w' (hf : Fr (fun x => x = b) wr w') => show Below b w w' from HW.out.trans (hf.to_below (fun k hk => by rw [hk]; exact Nat.le_refl _) (by have := HW.out.size; have := HB.out; omega)))
      clear hcell e1 HO HR HC
      obtain ⟨o, ho⟩ : ∃ o, o = xl[j].o := ⟨_, rfl⟩
      rw [← ho] at y0 y1 y2 y3 hm8 HSE HCL HST HT
      clear ho
      have HLT := Lib.hid hlt
      obtain ⟨m, hm⟩ : ∃ m, m = o.kind % 8 := ⟨_, rfl⟩
      rw [← hm] at hm8 HT
      clear hm
      obtain ⟨LN, hLN⟩ : ∃ L, L = o.xs.length := ⟨_, rfl⟩
      rw [← hLN] at y2 HSE
      clear hLN
      by_cases m5 : m = 5
      · have HT5 := HT.out
        rw [if_pos m5] at HT5
        have HT' := Lib.hid HT5
        have t5 : (m == 5) = true := by rw [m5]; rfl
        clear HT HT5 HSE HST m5
        go_wp2_with fail
        (with_reducible refine HCL.out.mono ?_)
        rintro e w2 ⟨rfl, p2, f2⟩
        have P2 := Lib.hid (show Pw w2 b (runP n (xl.take (j + 1))) by rw [HT'.out]; exact p2)
        have B2 := Lib.hid (HN.out w2 f2)
        clear p2 f2
        go_wp2
        go_roundw
        case rel => exact ⟨j + 1, by go_num, by omega, P2, B2⟩
        case measure => simp [intOf]; omega
      · have t5 : (m == 5) = false := by rw [beq_eq_false_iff_ne]; exact m5
        by_cases m7 : m = 7
        · have HT5 := HT.out
          rw [if_neg m5, if_pos m7] at HT5
          have HT' := Lib.hid HT5
          have t7 : (m == 7) = true := by rw [m7]; rfl
          clear HT HT5 HSE HCL m5 m7
          go_wp2_with fail
          (with_reducible refine HST.out.mono ?_)
          rintro e w2 ⟨rfl, p2, f2⟩
          have P2 := Lib.hid (show Pw w2 b (runP n (xl.take (j + 1))) by rw [HT'.out]; exact p2)
          have B2 := Lib.hid (HN.out w2 f2)
          clear p2 f2
          go_wp2
          go_roundw
          case rel => exact ⟨j + 1, by go_num, by omega, P2, B2⟩
          case measure => simp [intOf]; omega
        · have HT5 := HT.out
          rw [if_neg m5, if_neg m7] at HT5
          have HT' := Lib.hid HT5
          have t7 : (m == 7) = false := by rw [beq_eq_false_iff_ne]; exact m7
          have Y1 := Lib.hid y1
          have Y2 := Lib.hid y2
          have Y1 := Lib.hid y1
          have Y2 := Lib.hid y2
          clear HT HT5 HST HCL m5 m7
          go_upto_region 8 with fail
          -- REGION
          refine wp_region_end (by kernel_rfl) (by kernel_rfl) 11 (fun W W' => Fr (fun x => x = b) W W') (fun W => Hid (Pw W b (runP n (xl.take (j + 1)))) ∧ Hid (Below b w W)) [(fun v _ => v = .pointer (some ⟨b, 0, none⟩)), (fun v _ => v = .slice (some ⟨g, off, none⟩) xl.length c), (fun v _ => v = .int .i64 j), (fun v _ => v = .pointer (some ⟨g, off + j * 4, none⟩)), (fun v _ => v = .pointer (some ⟨g, off + j * 4 + 1, none⟩)), (fun v _ => v = .int .i64 o.slot), (fun v _ => v = .slice (some ⟨g, off, none⟩) xl.length c), (fun v _ => v = .int .i64 j), (fun v _ => v = .pointer (some ⟨g, off + j * 4, none⟩)), (fun v _ => v = .pointer (some ⟨g, off + j * 4 + 2, none⟩)), (fun v _ => v = .slice A1 LN c1), (fun v _ => v = undef)] (fun W W' hb h => ⟨Lib.hid (h.1.out.later hb), Lib.hid (h.2.out.trans (Below.low hb h.2.out.size HB.out))⟩) ?_ (fun vals => ?_) (fun vals W hfin hall => ?_) (by decide)
          · intro j v W W' hj hr h
            match j, hj, h with
            | 0, _, h => exact h
            | 1, _, h => exact h
            | 2, _, h => exact h
            | 3, _, h => exact h
            | 4, _, h => exact h
            | 5, _, h => exact h
            | 6, _, h => exact h
            | 7, _, h => exact h
            | 8, _, h => exact h
            | 9, _, h => exact h
            | 10, _, h => exact h
            | 11, hj, _ => exact absurd rfl hj
            | _ + 12, _, _ => trivial
          · simp only [ObL, Act.put, List.setIfInBounds_toArray, List.set_cons_succ, List.set_cons_zero]
            refine ⟨?_, ?_, ?_, ?_, ?_, ?_, ?_, ?_, ?_, ?_, ?_, ?_, trivial⟩
            · intro L W hL hk hC hw
              clear hw
              clear hL hC hk
              refine step_plain rfl ?_
              go_simp
              first | exact ⟨Re.same (by decide), Fe.val (by decide) rfl rfl⟩ | exact ⟨_, rfl, Re.same (by decide), Fe.val (by decide) rfl rfl⟩
            · intro L W hL hk hC hw
              clear hw
              clear hL hC hk
              refine step_plain rfl ?_
              go_simp
              first | exact ⟨Re.same (by decide), Fe.val (by decide) rfl rfl⟩ | exact ⟨_, rfl, Re.same (by decide), Fe.val (by decide) rfl rfl⟩
            · intro L W hL hk hC hw
              clear hw
              clear hL hC hk
              refine step_plain rfl ?_
              go_simp
              first | exact ⟨Re.same (by decide), Fe.val (by decide) rfl rfl⟩ | exact ⟨_, rfl, Re.same (by decide), Fe.val (by decide) rfl rfl⟩
            · intro L W hL hk hC hw
              have f1 : vals 1 = .slice (some ⟨g, off, none⟩) xl.length c := Fe.get (hw ⟨1, .data⟩ (by simp) rfl) (by decide)
              have f2 : vals 2 = .int .i64 j := Fe.get (hw ⟨2, .data⟩ (by simp) rfl) (by decide)
              clear hw
              have h9 : j < xl.length := HLT.out
              clear hL hC hk
              refine step_plain rfl ?_
              go_simp
              first | exact ⟨Re.same (by decide), Fe.val (by decide) rfl rfl⟩ | exact ⟨_, rfl, Re.same (by decide), Fe.val (by decide) rfl rfl⟩
            · intro L W hL hk hC hw
              have f3 : vals 3 = .pointer (some ⟨g, off + j * 4, none⟩) := Fe.get (hw ⟨3, .data⟩ (by simp) rfl) (by decide)
              clear hw
              clear hL hC hk
              refine step_plain rfl ?_
              go_simp
              first | exact ⟨Re.same (by decide), Fe.val (by decide) rfl rfl⟩ | exact ⟨_, rfl, Re.same (by decide), Fe.val (by decide) rfl rfl⟩
            · intro L W hL hk hC hw
              have f4 : vals 4 = .pointer (some ⟨g, off + j * 4 + 1, none⟩) := Fe.get (hw ⟨4, .data⟩ (by simp) rfl) (by decide)
              clear hw
              have hb := hC (hL.not_yet hk 11 8 (by decide +kernel))
              have kc : W.cell? ⟨g, off + j * 4 + 1, none⟩ = some (.int .i64 o.slot) := (hb.cell (by have := HGB.out; exact this)).trans Y1.out
              clear hL hC hk hb
              refine step_plain rfl ?_
              go_simp
              first | exact ⟨Re.same (by decide), Fe.val (by decide) rfl rfl⟩ | exact ⟨_, rfl, Re.same (by decide), Fe.val (by decide) rfl rfl⟩
            · intro L W hL hk hC hw
              clear hw
              clear hL hC hk
              refine step_plain rfl ?_
              go_simp
              first | exact ⟨Re.same (by decide), Fe.val (by decide) rfl rfl⟩ | exact ⟨_, rfl, Re.same (by decide), Fe.val (by decide) rfl rfl⟩
            · intro L W hL hk hC hw
              clear hw
              clear hL hC hk
              refine step_plain rfl ?_
              go_simp
              first | exact ⟨Re.same (by decide), Fe.val (by decide) rfl rfl⟩ | exact ⟨_, rfl, Re.same (by decide), Fe.val (by decide) rfl rfl⟩
            · intro L W hL hk hC hw
              have f6 : vals 6 = .slice (some ⟨g, off, none⟩) xl.length c := Fe.get (hw ⟨6, .data⟩ (by simp) rfl) (by decide)
              have f7 : vals 7 = .int .i64 j := Fe.get (hw ⟨7, .data⟩ (by simp) rfl) (by decide)
              clear hw
              have h9 : j < xl.length := HLT.out
              clear hL hC hk
              refine step_plain rfl ?_
              go_simp
              first | exact ⟨Re.same (by decide), Fe.val (by decide) rfl rfl⟩ | exact ⟨_, rfl, Re.same (by decide), Fe.val (by decide) rfl rfl⟩
            · intro L W hL hk hC hw
              have f8 : vals 8 = .pointer (some ⟨g, off + j * 4, none⟩) := Fe.get (hw ⟨8, .data⟩ (by simp) rfl) (by decide)
              clear hw
              clear hL hC hk
              refine step_plain rfl ?_
              go_simp
              first | exact ⟨Re.same (by decide), Fe.val (by decide) rfl rfl⟩ | exact ⟨_, rfl, Re.same (by decide), Fe.val (by decide) rfl rfl⟩
            · intro L W hL hk hC hw
              have f9 : vals 9 = .pointer (some ⟨g, off + j * 4 + 2, none⟩) := Fe.get (hw ⟨9, .data⟩ (by simp) rfl) (by decide)
              clear hw
              have hb := hC (hL.not_yet hk 11 8 (by decide +kernel))
              have kc : W.cell? ⟨g, off + j * 4 + 2, none⟩ = some (.slice A1 LN c1) := (hb.cell (by have := HGB.out; exact this)).trans Y2.out
              clear hL hC hk hb
              refine step_plain rfl ?_
              go_simp
              first | exact ⟨Re.same (by decide), Fe.val (by decide) rfl rfl⟩ | exact ⟨_, rfl, Re.same (by decide), Fe.val (by decide) rfl rfl⟩
            · intro L W hL hk hC hw
              have f0 : vals 0 = .pointer (some ⟨b, 0, none⟩) := Fe.get (hw ⟨0, .data⟩ (by simp) rfl) (by decide)
              have f5 : vals 5 = .int .i64 o.slot := Fe.get (hw ⟨5, .data⟩ (by simp) rfl) (by decide)
              have f10 : vals 10 = .slice A1 LN c1 := Fe.get (hw ⟨10, .data⟩ (by simp) rfl) (by decide)
              clear hw
              have hb := hC hk
              have CL := Lib.hid (HSE.out W hb)
              have HN2 := Lib.hid (fun w' hf => HN.out w' ((Fr.of_below (S := fun x => x = b) hb).trans hf))
              clear hL hC hk hb
              refine step_plain rfl ?_
              go_simp
              (with_reducible refine CL.out.mono ?_)
              rintro e w8 ⟨rfl, p8, f8⟩
              have Z1 := Lib.hid (show Pw w8 b (runP n (xl.take (j + 1))) by rw [HT'.out]; exact p8)
              have Z2 := Lib.hid (HN2.out w8 f8)
              first | exact ⟨Re.last f8, Fe.last ⟨Z1, Z2⟩⟩ | exact ⟨_, rfl, Re.last f8, Fe.last ⟨Z1, Z2⟩⟩
          · simp only [TL, Act.put, List.setIfInBounds_toArray, List.set_cons_succ, List.set_cons_zero]
            obtain ⟨P2, B2⟩ := hfin
            clear hall HSE HT' HN
            go_wp2
            go_roundw
            case rel => exact ⟨j + 1, by go_num, by omega, P2, B2⟩
            case measure => simp [intOf]; omega
    · have hje : xl.take j = xl := List.take_of_length_le (by omega)
      have HP' := HP.out
      rw [hje] at HP'
      have P9 := Lib.hid HP'
      clear HP HP'
      go_wp2
      go_ret
      exact ⟨rfl, P9.out, HW.out⟩
end Go.Proofs.Ythbbnebanmpcjaa.Pg
