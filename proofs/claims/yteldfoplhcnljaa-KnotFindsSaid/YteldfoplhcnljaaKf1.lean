import Derived.Test.YteldfoplhcnljaaKn9
/- The plain answer's helpers: is x there, the greatest, the same edges. -/
namespace Go.Proofs.Yteldfoplhcnljaa.Knot
open Go.ChangeShapes Go.WideShapes Go.ChangeAt Go.RowKit Go.IntWalk Go.Proofs.Mem Go.Proofs.Ring
set_option linter.unusedVariables false
set_option linter.unusedSimpArgs false
set_option maxRecDepth 100000 in
set_option maxHeartbeats 4000000 in
theorem has_any (w : World) (B : Nat) (v : Value) (xs : List Int) (x : Int) (hv : IR w B .u32 v xs) (hl : xs.length ≤ 100000) :
    Calls Try.prog 21 #[v, .int .u32 x] w fun e w' => e = .returned (.bool (decide (x ∈ xs))) ∧ w = w' := by
  obtain ⟨A, c, rfl, _, _⟩ := hv.form
  obtain ⟨F, hF⟩ : ∃ F, F = decide (x ∈ xs) := ⟨_, rfl⟩
  rw [← hF]
  have HF := Lib.hid hF
  have HV := Lib.hid hv
  obtain ⟨n, hn⟩ : ∃ n, n = xs.length := ⟨_, rfl⟩
  rw [← hn] at HV ⊢
  have HN := Lib.hid hn
  have bn : (n : Int) ≤ 100000 := by omega
  clear hF hv hl hn
  go_enter Try.func21, Try.ntmps21
  go_wp2
  go_loopw [5] (fun s wr => ∃ k : Nat, k ≤ n ∧ s = .int .i64 k ∧ Hid (x ∉ xs.take k) ∧ w = wr) (fun s _ => n - (intOf s).toNat)
  case atStart => exact ⟨0, Nat.zero_le _, rfl, Lib.hid (by simp), rfl⟩
  case round =>
    obtain ⟨k, hk, rfl, HT, rfl⟩ := hrel
    by_cases hl : k < n
    · have d1 : decide ((k : Int) < (n : Int)) = true := by simp; omega
      have d1' : decide (k < n) = true := by simp; omega
      have bk : (k : Int) ≤ 100000 := by omega
      obtain ⟨k', hk'⟩ : ∃ k', k' = k + 1 := ⟨_, rfl⟩
      have sk : (k : Int) + 1 = (k' : Int) := by omega
      have HKK := Lib.hid (⟨hk', hl⟩ : k' = k + 1 ∧ k < n)
      obtain ⟨g, o, hA, _, q1⟩ := HV.out.index k hl
      subst hA
      obtain ⟨y, hy⟩ : ∃ y, xs.getD k 0 = y := ⟨_, rfl⟩
      rw [hy] at q1
      have ht : xs.take k' = xs.take k ++ [y] := by
        have h2 : k < xs.length := by have := HN.out; omega
        rw [hk', List.take_add_one, List.getElem?_eq_getElem h2, ← hy]
        simp [List.getD_eq_getElem?_getD, h2]
      have HTT := Lib.hid ht
      clear hk hk' ht hy
      by_cases h1 : y = x
      · subst h1
        have dx : decide (y = y) = true := by simp
        have FF := Lib.hid (show F = true by
          rw [HF.out]
          exact decide_eq_true (List.mem_of_mem_take (i := k') (by rw [HTT.out]; simp)))
        go_wp2
        go_ret
        exact ⟨by rw [FF.out]; rfl, rfl⟩
      · have dx : decide (y = x) = false := by simp; exact h1
        have dx2 : (y == x) = false := by simp; exact h1
        have H1 := Lib.hid h1
        clear h1
        go_wp2
        go_roundw
        case rel => exact ⟨k', by have := HKK.out; omega, rfl, Lib.hid (by
          rw [HTT.out, List.mem_append, List.mem_singleton]
          rintro (h | h)
          · exact HT.out h
          · exact H1.out h.symm), trivial⟩
        case measure => simp [intOf]; have := HKK.out; omega
    · have d1 : decide ((k : Int) < (n : Int)) = false := by simp; omega
      have d1' : decide (k < n) = false := by simp; omega
      obtain rfl : k = n := by omega
      have FF := Lib.hid (show F = false by
        rw [HF.out]
        have h := HT.out
        rw [List.take_of_length_le (by have := HN.out; omega)] at h
        exact decide_eq_false h)
      go_wp2
      go_ret
      exact ⟨by rw [FF.out]; rfl, rfl⟩
set_option maxRecDepth 100000 in
set_option maxHeartbeats 4000000 in
theorem rvictim_any (w : World) (B : Nat) (v : Value) (xs : List Int) (hv : IR w B .u32 v xs) (hl : xs.length ≤ 100000) (hp : ∀ x ∈ xs, U32 x) :
    Calls Try.prog 12 #[v] w fun e w' => e = .returned (.tuple #[.int .u32 (top xs), .bool (decide (0 < xs.length))]) ∧ w = w' := by
  obtain ⟨A, c, rfl, _, _⟩ := hv.form
  have HV := Lib.hid hv
  obtain ⟨n, hn⟩ : ∃ n, n = xs.length := ⟨_, rfl⟩
  rw [← hn] at HV ⊢
  have HN := Lib.hid hn
  have bn : (n : Int) ≤ 100000 := by omega
  clear hv hl hn
  go_enter Try.func12, Try.ntmps12
  go_wp2
  go_loopw [4, 5] (fun s u wr => ∃ k : Nat, k ≤ n ∧ s = .int .u32 (top (xs.take k)) ∧ u = .int .i64 k ∧ w = wr) (fun _ u _ => n - (intOf u).toNat)
  case atStart => exact ⟨0, Nat.zero_le _, rfl, rfl, rfl⟩
  case round =>
    obtain ⟨k, hk, rfl, rfl, rfl⟩ := hrel
    by_cases hl : k < n
    · have d1 : decide ((k : Int) < (n : Int)) = true := by simp; omega
      have d1' : decide (k < n) = true := by simp; omega
      have bk : (k : Int) ≤ 100000 := by omega
      obtain ⟨k', hk'⟩ : ∃ k', k' = k + 1 := ⟨_, rfl⟩
      have sk : (k : Int) + 1 = (k' : Int) := by omega
      have HKK := Lib.hid (⟨hk', hl⟩ : k' = k + 1 ∧ k < n)
      obtain ⟨g, o, hA, _, q1⟩ := HV.out.index k hl
      subst hA
      have HTT := Lib.hid (show top (xs.take k') = if top (xs.take k) < xs.getD k 0 then xs.getD k 0 else top (xs.take k) by rw [hk']; exact top_take xs k (by have := HN.out; omega))
      generalize xs.getD k 0 = y at *
      generalize top (xs.take k) = t at *
      clear hk' hk
      go_wp2
      go_roundw
      case rel => exact ⟨k', by have := HKK.out; omega, by rw [HTT.out], rfl, trivial⟩
      case measure => simp [intOf]; have := HKK.out; omega
    · have d1 : decide ((k : Int) < (n : Int)) = false := by simp; omega
      have d1' : decide (k < n) = false := by simp; omega
      obtain rfl : k = n := by omega
      have ht : xs.take k = xs := List.take_of_length_le (by have := HN.out; omega)
      rw [ht]
      clear ht
      have d5 : decide ((0 : Int) < (k : Int)) = decide (0 < k) := by simp
      go_wp2
      go_ret2
      exact ⟨by simp, rfl⟩
set_option maxRecDepth 100000 in
set_option maxHeartbeats 4000000 in
/-- the same edges twice -/
theorem eds_any (w : World) (B : Nat) (u v : Value) (xs : List Ed) (hu : SS cEd 2 w B u xs) (hv : SS cEd 2 w B v xs) (hl : xs.length ≤ 100000) :
    Calls Try.prog 14 #[u, v] w fun e w' => e = .returned (.bool true) ∧ Below w.heap.size w w' := by
  obtain ⟨A1, c1, rfl, _, _⟩ := hu.form
  obtain ⟨A2, c2, rfl, _, _⟩ := hv.form
  have HU := Lib.hid hu
  have HV := Lib.hid hv
  obtain ⟨n, hn⟩ : ∃ n, n = xs.length := ⟨_, rfl⟩
  rw [← hn] at HU HV ⊢
  have HN := Lib.hid hn
  have bn : (n : Int) ≤ 100000 := by omega
  clear hu hv hl hn
  go_enter Try.func14, Try.ntmps14
  go_wp2
  go_loopw [5] (fun s wr => ∃ k : Nat, k ≤ n ∧ s = .int .i64 k ∧ ∃ d, wr = w.drewN d) (fun s _ => n - (intOf s).toNat)
  case atStart => exact ⟨0, Nat.zero_le _, rfl, 0, rfl⟩
  case round =>
    obtain ⟨k, hk, rfl, d, hd⟩ := hrel
    obtain ⟨w1, rfl⟩ : ∃ w1, w1 = wr := ⟨wr, rfl⟩
    by_cases hl : k < n
    · have d1 : decide ((k : Int) < (n : Int)) = true := by simp; omega
      have d1' : decide (k < n) = true := by simp; omega
      have bk : (k : Int) ≤ 100000 := by omega
      obtain ⟨k', hk'⟩ : ∃ k', k' = k + 1 := ⟨_, rfl⟩
      have sk : (k : Int) + 1 = (k' : Int) := by omega
      have HKK := Lib.hid (⟨hk', hl⟩ : k' = k + 1 ∧ k < n)
      obtain ⟨e, he⟩ : ∃ e, xs[k]? = some e := ⟨_, List.getElem?_eq_getElem (by have := HN.out; omega)⟩
      obtain ⟨g, o, hA, _, hcell⟩ := HU.out.at_ he
      subst hA
      obtain ⟨g2, o2, hA, _, hcell2⟩ := HV.out.at_ he
      subst hA
      have k1 := fun d' => (show (w1.drewN d').cell? ⟨g, o + k * 2, none⟩ = some (.int .u32 e.a) by rw [hd]; simpa using hcell 0 _ rfl)
      have k2 := fun d' => (show (w1.drewN d').cell? ⟨g, o + k * 2 + 1, none⟩ = some (.int .u32 e.b) by rw [hd]; simpa using hcell 1 _ rfl)
      have k3 := fun d' => (show (w1.drewN d').cell? ⟨g2, o2 + k * 2, none⟩ = some (.int .u32 e.a) by rw [hd]; simpa using hcell2 0 _ rfl)
      have k4 := fun d' => (show (w1.drewN d').cell? ⟨g2, o2 + k * 2 + 1, none⟩ = some (.int .u32 e.b) by rw [hd]; simpa using hcell2 1 _ rfl)
      have HD := Lib.hid hd
      obtain ⟨ea, eb⟩ := e
      clear hcell hcell2 he hk hk' hd
      have dx : decide (ea = ea) = true := by simp
      have dy : decide (eb = eb) = true := by simp
      go_upto_region 6 with fail
      go_quiet (fail)
      go_wp2
      go_roundw
      case rel => exact ⟨k', by have := HKK.out; omega, rfl, d + nq, by rw [HD.out, World.drewN_drewN]⟩
      case measure => simp [intOf]; have := HKK.out; omega
    · have d1 : decide ((k : Int) < (n : Int)) = false := by simp; omega
      have d1' : decide (k < n) = false := by simp; omega
      obtain rfl : k = n := by omega
      have HB := Lib.hid (show Below w.heap.size w w1 by rw [hd]; exact below_drewN (Below.refl _ _) d)
      clear hd
      go_wp2
      go_ret
      exact ⟨rfl, HB.out⟩
end Go.Proofs.Yteldfoplhcnljaa.Knot
