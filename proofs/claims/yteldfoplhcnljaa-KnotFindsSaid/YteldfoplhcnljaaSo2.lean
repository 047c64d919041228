import Derived.Test.YteldfoplhcnljaaSo1
/- Insertion sort of a part of a row of numbers of 32 bits. -/
namespace Go.Proofs.Yteldfoplhcnljaa.Srt
open Go.ChangeShapes Go.WideShapes Go.ChangeAt Go.RowKit Go.IntWalk Go.Proofs.Mem
set_option linter.unusedVariables false
theorem insOuter_go {a b i : Nat} {d : Array Int} (h : i < b) : Sort.insOuter lt a b i d = Sort.insOuter lt a b (i + 1) (Sort.insInner lt a i d) := by
  rw [Sort.insOuter, if_pos h]
theorem insOuter_end {a b i : Nat} {d : Array Int} (h : ¬ i < b) : Sort.insOuter lt a b i d = d := by
  rw [Sort.insOuter, if_neg h]
theorem insInner_end {a j : Nat} {d : Array Int} (h : j ≤ a) : Sort.insInner lt a j d = d := by
  cases j with
  | zero => rfl
  | succ j => rw [Sort.insInner, if_neg (by simp; omega)]
theorem insInner_no {a j : Nat} {d : Array Int} (h : lt d[j + 1]! d[j]! = false) : Sort.insInner lt a (j + 1) d = d := by
  rw [Sort.insInner, if_neg (by simp [h])]
theorem insInner_go {a j : Nat} {d : Array Int} (h1 : a < j + 1) (h : lt d[j + 1]! d[j]! = true) : Sort.insInner lt a (j + 1) d = Sort.insInner lt a j (Sort.swp d (j + 1) j) := by
  rw [Sort.insInner, if_pos (by simp [h]; omega)]
theorem ins_no {a i j : Nat} {d : Array Int} (e : j = i + 1) (h : lt d[j]! d[i]! = false) : Sort.insInner lt a j d = d := by
  subst e; exact insInner_no h
theorem ins_go {a i j : Nat} {d : Array Int} (e : j = i + 1) (h1 : a < j) (h : lt d[j]! d[i]! = true) : Sort.insInner lt a j d = Sort.insInner lt a i (Sort.swp d j i) := by
  subst e; exact insInner_go h1 h
set_option maxRecDepth 100000 in
set_option maxHeartbeats 4000000 in
theorem isort_any (w : World) (g n cap a b : Nat) (d : Array Int) (h : RA w g cap d) (hn : d.size = n) (h0 : n ≤ 1000000) (h1 : a ≤ b) (h2 : b ≤ n) :
    Calls Try.prog 30 #[.slice (some ⟨g, 0, none⟩) n cap, .int .i64 a, .int .i64 b] w fun e w' => e = .returned (.tuple #[]) ∧ RA w' g cap (Sort.insertionSort lt d a b) ∧ Fr (fun x => x = g) w w' := by
  have HR := Lib.hid h
  have HN := Lib.hid hn
  have HS := Lib.hid (show Sort.insOuter lt a b (a + 1) d = Sort.insertionSort lt d a b from rfl)
  generalize Sort.insertionSort lt d a b = R at *
  obtain ⟨a', ha'⟩ : ∃ a', a' = a + 1 := ⟨_, rfl⟩
  have HA := Lib.hid ha'
  have sa : (a : Int) + 1 = (a' : Int) := by omega
  have ba : (a : Int) ≤ 1000000 := by omega
  have bb : (b : Int) ≤ 1000000 := by omega
  rw [← ha'] at HS
  clear h hn ha'
  go_enter Try.func30, Try.ntmps30
  go_wp2
  go_loopw [6] (fun s wr => ∃ (k : Nat) (ys : Array Int), a + 1 ≤ k ∧ k ≤ b + 1 ∧ s = .int .i64 k ∧ Hid (RA wr g cap ys) ∧ Hid (ys.size = n) ∧ Hid (Sort.insOuter lt a b k ys = R) ∧ Hid (Fr (fun x => x = g) w wr)) (fun s _ => b + 1 - (intOf s).toNat)
  case atStart => exact ⟨a', d, by have := HA.out; omega, by have := HA.out; omega, rfl, HR, HN, HS, Lib.hid (Fr.refl _ _)⟩
  case round =>
    obtain ⟨k, ys, hk1, hk, rfl, HO, HZ, HE, HF⟩ := hrel
    obtain ⟨w1, rfl⟩ : ∃ w1, w1 = wr := ⟨wr, rfl⟩
    by_cases hl : k < b
    · have d1 : decide ((k : Int) < (b : Int)) = true := by simp; omega
      have HL := Lib.hid hl
      go_wp2
      obtain ⟨k', hk'⟩ : ∃ k', k' = k + 1 := ⟨_, rfl⟩
      have hks : (k : Int) + 1 = (k' : Int) := by omega
      have HK := Lib.hid hk'
      have HE2 := Lib.hid (show Sort.insOuter lt a b k' (Sort.insInner lt a k ys) = R by rw [hk', ← insOuter_go hl]; exact HE.out)
      have bk : (k : Int) ≤ 1000000 := by omega
      clear hk'
      go_loopw [7] (fun s wr => ∃ (j : Nat) (zs : Array Int), a ≤ j ∧ j ≤ k ∧ s = .int .i64 j ∧ Hid (RA wr g cap zs) ∧ Hid (zs.size = n) ∧ Hid (Sort.insOuter lt a b k' (Sort.insInner lt a j zs) = R) ∧ Hid (Fr (fun x => x = g) w wr)) (fun s _ => (intOf s).toNat)
      case atStart => exact ⟨k, ys, by omega, Nat.le_refl _, rfl, HO, HZ, HE2, HF⟩
      case round =>
        obtain ⟨j, zs, hj1, hj, rfl, HY, HZ2, HD, HG⟩ := hrel
        obtain ⟨w2, rfl⟩ : ∃ w2, w2 = wr := ⟨wr, rfl⟩
        by_cases hja : j ≤ a
        · have d2 : decide ((a : Int) < (j : Int)) = false := by simp; omega
          have d3 : decide (a < j) = false := by simp; omega
          go_upto_region 4 with fail
          go_quiet (fail)
          go_wp2
          go_roundw
          case rel => exact ⟨k', zs, by have := HK.out; omega, by have := HK.out; omega, rfl, Lib.hid (HY.out.drewN nq), HZ2, Lib.hid (by rw [← HD.out, insInner_end hja]), Lib.hid (HG.out.drewN nq)⟩
          case measure => simp [intOf]; have := HK.out; omega
        · obtain ⟨i, hi⟩ : ∃ i, j = i + 1 := ⟨j - 1, by omega⟩
          have d2 : decide ((a : Int) < (j : Int)) = true := by simp; omega
          have d3 : decide (a < j) = true := by simp; omega
          have s2 : (j : Int) - 1 = (i : Int) := by omega
          have ca := fun d => (HY.out.drewN d).cell j (by have := HZ2.out; omega)
          have cb := fun d => (HY.out.drewN d).cell i (by have := HZ2.out; omega)
          have hin : j < n := by omega
          have hin' : i < n := by omega
          have HI := Lib.hid hi
          clear hi
          obtain ⟨q, hq⟩ : ∃ q, lt zs[j]! zs[i]! = q := ⟨_, rfl⟩
          obtain ⟨x, hx⟩ : ∃ x, zs[j]! = x := ⟨_, rfl⟩
          obtain ⟨y, hy⟩ : ∃ y, zs[i]! = y := ⟨_, rfl⟩
          have HX := Lib.hid hx
          have HYY := Lib.hid hy
          have HQ := Lib.hid hq
          rw [hx] at ca hq
          rw [hy] at cb hq
          clear hx hy
          cases q with
          | true =>
            have CL := less_as _ _ hq
            clear hq
            go_upto_region 4 with fail
            go_quiet (first | (go_at_call 25; exact quiet_l (CL.out _)))
            have fa := fun d => (HY.out.drewN d).frozen j
            have fb := fun d => (HY.out.drewN d).frozen i
            go_upto_region 6 with fail
            go_region
            go_wp2
            go_roundw
            case rel => exact ⟨i, Sort.swp zs j i, by have := HI.out; omega, by have := HI.out; omega, rfl, Lib.hid (by rw [← HX.out, ← HYY.out]; exact (HY.out.drewN (nq + 1)).swp j i), Lib.hid (by rw [Sort.swp_size]; exact HZ2.out), Lib.hid (by rw [← HD.out, ins_go HI.out (by omega) HQ.out]), Lib.hid (fr_swp (HG.out.drewN (nq + 1)))⟩
            case measure => simp [intOf]; have := HI.out; omega
          | false =>
            have CL := less_as _ _ hq
            clear hq
            go_upto_region 4 with fail
            go_quiet (first | (go_at_call 25; exact quiet_l (CL.out _)))
            go_wp2
            go_roundw
            case rel => exact ⟨k', zs, by have := HK.out; omega, by have := HK.out; omega, rfl, Lib.hid (HY.out.drewN nq), HZ2, Lib.hid (by rw [← HD.out, ins_no HI.out HQ.out]), Lib.hid (HG.out.drewN nq)⟩
            case measure => simp [intOf]; have := HK.out; omega
    · have d1 : decide ((k : Int) < (b : Int)) = false := by simp; omega
      have e1 := Lib.hid (show ys = R by rw [← HE.out, insOuter_end hl])
      go_wp2
      go_end0
      exact ⟨rfl, by rw [← e1.out]; exact HO.out, HF.out⟩
end Go.Proofs.Yteldfoplhcnljaa.Srt
