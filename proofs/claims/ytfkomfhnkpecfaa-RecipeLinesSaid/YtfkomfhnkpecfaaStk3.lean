import Derived.Test.YtfkomfhnkpecfaaStk2
/- Recipes: lists compared. -/
namespace Go.Proofs.Ytfkomfhnkpecfaa.Stk
open Go.ChangeShapes Go.WideShapes Go.ChangeAt Go.RowKit Go.IntWalk Go.Proofs.Mem Go.Proofs.Stk
set_option linter.unusedVariables false
theorem take_ext {l m : List Pr} (j : Nat) (hl : j < l.length) (hm : j < m.length) (h : l.take j = m.take j) (he : l.getD j (0, 0) = m.getD j (0, 0)) : l.take (j + 1) = m.take (j + 1) := by
  rw [List.take_succ_eq_append_getElem hl, List.take_succ_eq_append_getElem hm, h]
  simp [List.getD, List.getElem?_eq_getElem hl, List.getElem?_eq_getElem hm] at he
  rw [he]
theorem ne_of_at {l m : List Pr} (j : Nat) (he : l.getD j (0, 0) ≠ m.getD j (0, 0)) : l ≠ m := fun e => he (by rw [e])
set_option maxHeartbeats 1000000 in
theorem sameStacks_any (u v : Value) (l m : List Pr) (hl : l.length ≤ 1000) (hm : m.length ≤ 1000) (w : World) (B B' : Nat) (hu : KR w B u l) (hv : KR w B' v m) :
    Calls Try.prog 20 #[u, v] w fun e w' => e = .returned (.bool (decide (l = m))) ∧ ∃ d, w' = w.drewN d := by
  obtain ⟨A, c, rfl, hlc, hcm⟩ := hu.form
  unfold maxLen at hcm
  obtain ⟨A2, c2, rfl, hlc2, hcm2⟩ := hv.form
  unfold maxLen at hcm2
  by_cases hlen : l.length = m.length
  · have hne : ((l.length : Int) != (m.length : Int)) = false := by simp; omega
    have HL := Lib.hid hlen
    have hl1 : l.length ≤ m.length := by omega
    have hl2 : m.length ≤ l.length := by omega
    clear hlen
    go_enter Try.func20, Try.ntmps20
    go_wp2
    go_loopw [5] (fun i wr => ∃ j d : Nat, j ≤ l.length ∧ i = .int .i64 j ∧ l.take j = m.take j ∧ wr = w.drewN d) (fun i _ => l.length - (intOf i).toNat)
    case atStart => exact ⟨0, 0, by omega, rfl, rfl, rfl⟩
    case round =>
      obtain ⟨j, d, hj, rfl, hg, rfl⟩ := hrel
      have HG := Lib.hid hg
      clear hg
      by_cases hlt : j < l.length
      · have hlt2 : j < m.length := by omega
        obtain ⟨b, off, rfl, hb, hc1, hc2⟩ := hu.index j hlt
        obtain ⟨b2, off2, rfl, hb2, hd1, hd2⟩ := hv.index j hlt2
        have hs := take_ext j hlt hlt2 HG.out
        have hn := ne_of_at (l := l) (m := m) j
        generalize l.getD j (0, 0) = p at *
        generalize m.getD j (0, 0) = q at *
        have HS := Lib.hid hs
        have HN := Lib.hid hn
        clear hs hn
        have h0 : (0 : Int) ≤ (j : Int) := by omega
        have h1 : (j : Int) < (l.length : Int) := by omega
        have h2 : (j : Int) < (m.length : Int) := by omega
        by_cases he : p.1 = q.1
        · have hd : (p.1 == q.1) = true := by simpa using he
          have hd' : (p.1 != q.1) = false := by simpa using he
          have HE := Lib.hid he
          clear he
          by_cases hf : p.2 = q.2
          · have hf1 : (p.2 == q.2) = true := by simpa using hf
            have hf2 : (p.2 != q.2) = false := by simpa using hf
            have HF := Lib.hid hf
            clear hf
            go_wp2
            go_quiet (fail)
            go_wp2
            go_roundw
            case rel => exact ⟨j + 1, _, by omega, by go_num, HS.out (Prod.ext HE.out HF.out), rfl⟩
            case measure => simp [intOf]; omega
          · have hf1 : (p.2 == q.2) = false := by simpa using hf
            have hf2 : (p.2 != q.2) = true := by simpa using hf
            have HF := Lib.hid hf
            clear hf
            go_wp2
            go_quiet (fail)
            go_wp2
            go_ret
            exact ⟨ret_bool (decide_eq_false (HN.out fun e => HF.out (by rw [e]))).symm, _, World.drewN_drewN _ _ _⟩
        · have hd : (p.1 == q.1) = false := by simpa using he
          have hd' : (p.1 != q.1) = true := by simpa using he
          have HE := Lib.hid he
          clear he
          go_wp2
          go_quiet (fail)
          go_wp2
          go_ret
          exact ⟨ret_bool (decide_eq_false (HN.out fun e => HE.out (by rw [e]))).symm, _, World.drewN_drewN _ _ _⟩
      · go_wp2
        go_ret
        have := HG.out
        rw [List.take_of_length_le (by omega), List.take_of_length_le (by omega)] at this
        exact ⟨ret_bool (decide_eq_true this).symm, d, rfl⟩
  · have hne : ((l.length : Int) != (m.length : Int)) = true := by simp; omega
    have hd : decide (l = m) = false := decide_eq_false fun e => hlen (by rw [e])
    have HD := Lib.hid hd
    clear hlen hd
    go_enter Try.func20, Try.ntmps20
    go_wp2
    go_ret
    exact ⟨ret_bool HD.out.symm, 0, rfl⟩
end Go.Proofs.Ytfkomfhnkpecfaa.Stk
