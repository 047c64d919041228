import Derived.Test.YteldfoplhcnljaaKn1
import Derived.Test.YteldfoplhcnljaaApp
import Derived.Lib.SliceRun
import Derived.Laws.Cover1
/- slices.BinarySearch, Clone, Max at numbers of 32 bits; who is given up. -/
namespace Go.Proofs.Yteldfoplhcnljaa.Knot
open Go.ChangeShapes Go.WideShapes Go.ChangeAt Go.RowKit Go.IntWalk Go.Proofs.Mem Go.Proofs.Each Srt
set_option linter.unusedVariables false
set_option linter.unusedSimpArgs false
theorem snan_any (x : Int) (w : World) : Calls Try.prog 26 #[.int .u32 x] w fun e w' => e = .returned (.bool false) ∧ w = w' := by
  have d : (x != x) = false := by simp
  go_enter Try.func26, Try.ntmps26
  go_wp2
  go_ret
  exact ⟨by simp, rfl⟩
theorem srt_getD {xs : List Int} (h : xs.Pairwise (· ≤ ·)) {i j : Nat} (hij : i ≤ j) (hj : j < xs.length) : xs.getD i 0 ≤ xs.getD j 0 := by
  rcases Nat.lt_or_ge i j with h1 | h1
  · have := List.pairwise_iff_getElem.1 h i j (by omega) hj h1
    simpa [List.getD_eq_getElem?_getD, hj, show i < xs.length by omega] using this
  · obtain rfl : i = j := by omega
    exact Int.le_refl _
theorem mem_getD {xs : List Int} {t : Int} (h : t ∈ xs) : ∃ k, k < xs.length ∧ xs.getD k 0 = t := by
  obtain ⟨k, hk, e⟩ := List.getElem_of_mem h
  exact ⟨k, hk, by simp [List.getD_eq_getElem?_getD, hk, e]⟩
theorem getD_mem {xs : List Int} {k : Nat} (h : k < xs.length) : xs.getD k 0 ∈ xs := by
  simp [List.getD_eq_getElem?_getD, h]
set_option maxRecDepth 100000 in
set_option maxHeartbeats 4000000 in
theorem bs_any (w : World) (B : Nat) (v : Value) (xs : List Int) (t : Int) (hv : IR w B .u32 v xs) (hB : B ≤ w.heap.size) (hs : xs.Pairwise (· ≤ ·)) (hl : xs.length ≤ 100000) :
    Calls Try.prog 18 #[v, .int .u32 t] w fun e w' => (∃ i : Nat, e = .returned (.tuple #[.int .i64 i, .bool (decide (t ∈ xs))])) ∧ Below w.heap.size w w' := by
  obtain ⟨F, hF⟩ : ∃ F, F = decide (t ∈ xs) := ⟨_, rfl⟩
  rw [← hF]
  have HFF := Lib.hid hF
  clear hF
  obtain ⟨A, c, rfl, hc1, hc2⟩ := hv.form
  have HV := Lib.hid hv
  have HS := Lib.hid hs
  have HBB := Lib.hid hB
  obtain ⟨n, hn⟩ : ∃ n, n = xs.length := ⟨_, rfl⟩
  rw [← hn]
  have HN := Lib.hid (⟨hn, hl⟩ : n = xs.length ∧ xs.length ≤ 100000)
  have bn : (n : Int) ≤ 100000 := by omega
  have hic : n ≤ c := by omega
  clear hv hs hl hn hc1 hB
  go_enter Try.func18, Try.ntmps18
  go_wp2
  go_loopw [7, 8] (fun s u wr => ∃ i j : Nat, i ≤ j ∧ j ≤ n ∧ s = .int .i64 i ∧ u = .int .i64 j ∧ Hid (∀ k, k < i → xs.getD k 0 < t) ∧ Hid (∀ k, j ≤ k → k < n → t ≤ xs.getD k 0) ∧ Hid (Below w.heap.size w wr)) (fun s u _ => (intOf u).toNat - (intOf s).toNat)
  case atStart => exact ⟨0, n, Nat.zero_le _, Nat.le_refl _, rfl, rfl, Lib.hid (fun k h => by omega), Lib.hid (fun k h h' => by omega), Lib.hid (Below.refl _ _)⟩
  case round =>
    obtain ⟨i, j, hij, hj, rfl, rfl, HL, HG, HW⟩ := hrel
    obtain ⟨w1, rfl⟩ : ∃ w1, w1 = wr := ⟨wr, rfl⟩
    have HV1 := Lib.hid (show IR w1 B .u32 (.slice A n c) xs by rw [HN.out.1]; exact HV.out.below (HW.out.mono HBB.out))
    by_cases hl : i < j
    · have d1 : decide ((i : Int) < (j : Int)) = true := by simp; omega
      have d1' : decide (i < j) = true := by simp; omega
      obtain ⟨s, hs⟩ : ∃ s, s = i + j := ⟨_, rfl⟩
      obtain ⟨h, hh⟩ : ∃ h, h = s / 2 := ⟨_, rfl⟩
      have s1 : (i : Int) + (j : Int) = (s : Int) := by omega
      have s2 : (s : Int) / 2 = (h : Int) := by omega
      have bi : (i : Int) ≤ 100000 := by omega
      have bj : (j : Int) ≤ 100000 := by omega
      have bs : (s : Int) ≤ 200000 := by omega
      have cw : IntKind.u64.wrap (s : Int) = (s : Int) := by rw [IntKind.wrap_u64]; omega
      obtain ⟨b, off, hA, hb, hc⟩ := HV1.out.index h (by omega)
      subst hA
      have inn : h < n := by omega
      have bh : (h : Int) ≤ 100000 := by omega
      obtain ⟨h', hh'⟩ : ∃ x, x = h + 1 := ⟨_, rfl⟩
      have s3 : (h : Int) + 1 = (h' : Int) := by omega
      have HH := Lib.hid (⟨hs, hh, hij, hj, hl, hh'⟩ : s = i + j ∧ h = s / 2 ∧ i ≤ j ∧ j ≤ n ∧ i < j ∧ h' = h + 1)
      obtain ⟨x, hx⟩ : ∃ x, xs.getD h 0 = x := ⟨_, rfl⟩
      rw [hx] at hc
      have HX := Lib.hid hx
      obtain ⟨q, hq⟩ : ∃ q, lt x t = q := ⟨_, rfl⟩
      have CL := less_as _ _ hq
      have HQ := Lib.hid hq
      clear hs hh hij hj hl hh' hx hq
      cases q with
      | true =>
        go_wp2_with fail
        (with_reducible refine (CL.out _).mono ?_)
        rintro e w2 ⟨rfl, rfl⟩
        go_wp2
        go_roundw
        case rel => exact ⟨h', j, by have := HH.out; omega, by have := HH.out; omega, rfl, rfl, Lib.hid (fun k hk => by
          have h1 : x < t := by simpa [lt, Sort.ltInt] using HQ.out
          have h2 := srt_getD HS.out (i := k) (j := h) (by have := HH.out; omega) (by have := HN.out; have := HH.out; omega)
          rw [HX.out] at h2; omega), HG, HW⟩
        case measure => simp [intOf]; have := HH.out; omega
      | false =>
        go_wp2_with fail
        (with_reducible refine (CL.out _).mono ?_)
        rintro e w2 ⟨rfl, rfl⟩
        go_wp2
        go_roundw
        case rel => exact ⟨i, h, by have := HH.out; omega, by have := HH.out; omega, rfl, rfl, HL, Lib.hid (fun k hk hk' => by
          have h1 : t ≤ x := by simpa [lt, Sort.ltInt] using HQ.out
          have h2 := srt_getD HS.out (i := h) (j := k) hk (by have := HN.out; omega)
          rw [HX.out] at h2; omega), HW⟩
        case measure => simp [intOf]; have := HH.out; omega
    · have d1 : decide ((i : Int) < (j : Int)) = false := by simp; omega
      have d1' : decide (i < j) = false := by simp; omega
      obtain rfl : i = j := by omega
      have bi : (i : Int) ≤ 100000 := by omega
      by_cases hin : i < n
      · have d2 : decide ((i : Int) < (n : Int)) = true := by simp; omega
        have d2' : decide (i < n) = true := by simp; omega
        obtain ⟨b, off, hA, hb, hc0⟩ := HV1.out.index i hin
        subst hA
        have hc := hc0
        obtain ⟨x, hx⟩ : ∃ x, xs.getD i 0 = x := ⟨_, rfl⟩
        rw [hx] at hc
        have HX := Lib.hid hx
        obtain ⟨q, hq⟩ : ∃ q, (x == t) = q := ⟨_, rfl⟩
        have HQ := Lib.hid (show q = true ↔ t ∈ xs by
          rw [← hq, beq_iff_eq]
          refine ⟨fun e => by rw [← e, ← hx]; exact getD_mem (by have := HN.out; omega), fun hm => ?_⟩
          obtain ⟨k, hk, hk2⟩ := mem_getD hm
          rcases Nat.lt_trichotomy k i with h1 | h1 | h1
          · have := HL.out k h1; omega
          · rw [← hx, ← h1]; exact hk2
          · have h2 := srt_getD HS.out (Nat.le_of_lt h1) hk
            have h3 := HG.out i (Nat.le_refl _) hin
            rw [hx] at h2 h3; omega)
        have NX := Lib.hid (fun W => snan_any x W)
        have hq2 : decide (x = t) = q := by rw [← hq]; cases h : (x == t) <;> simp_all
        clear hx hc0
        cases q with
        | true =>
          go_wp2
          go_ret2
          exact ⟨⟨i, by rw [show F = true by rw [HFF.out]; exact decide_eq_true (HQ.out.1 (by trivial))]; rfl⟩, HW.out⟩
        | false =>
          go_wp2_with (first | (go_at_call 26; (with_reducible refine (NX.out _).mono ?_); rintro e w2 ⟨rfl, rfl⟩))
          go_ret2
          exact ⟨⟨i, by rw [show F = false by rw [HFF.out]; exact decide_eq_false (fun h => by have := HQ.out.2 h; cases this)]; rfl⟩, HW.out⟩
      · have d2 : decide ((i : Int) < (n : Int)) = false := by simp; omega
        have d2' : decide (i < n) = false := by simp; omega
        have HQ := Lib.hid (show false = true ↔ t ∈ xs from ⟨fun h => (by cases h), fun hm => (by
          obtain ⟨k, hk, hk2⟩ := mem_getD hm
          have := HL.out k (by have := HN.out; omega)
          omega)⟩)
        go_wp2
        go_ret2
        exact ⟨⟨i, by rw [show F = false by rw [HFF.out]; exact decide_eq_false (fun h => by have := HQ.out.2 h; cases this)]; rfl⟩, HW.out⟩
theorem below_row {W w' a : World} {B base n size : Nat} {e : TypeId} {v : Value} {xs : List Value} (h : Below B a W) (hown : W.ownsRow base e size v n xs) (hg : W.grownBy w' v.ownBlock) (hb : B ≤ base) (hB : B ≤ W.heap.size) : Below B a w' :=
  h.trans ((Below.refl B W).grown hg hB (fun b hb' => by have := (hown.lt b hb').1; omega))
set_option maxHeartbeats 4000000 in
theorem clone_any (v : Value) (xs : List Int) (w : World) (B : Nat) (hv : IR w B .u32 v xs) (hB : B ≤ w.heap.size) (hl : xs.length ≤ 100000) (h0 : 0 < xs.length) :
    Calls Try.prog 19 #[v] w fun e w' => ∃ u, e = .returned u ∧ w'.ownsRow w.heap.size 23 1 u xs.length (xs.map (.int .u32)) ∧ Below w.heap.size w w' := by
  obtain ⟨i0, hi0, hz0, hz1, hz2⟩ := info_parts u32_info
  obtain ⟨A, c, rfl, hlc, hcm⟩ := hv.form
  obtain ⟨a, rfl⟩ : ∃ a, A = some a := by obtain ⟨b, off, hA, _, _⟩ := hv.index 0 h0; exact ⟨_, hA⟩
  have HV := Lib.hid (hv.alloc hB (.cells #[] 23))
  have OW := Lib.hid (show (w.alloc (.cells #[] 23)).ownsRow w.heap.size 23 1 (.slice (some ⟨w.heap.size, 0, none⟩) 0 0) 0 (([] : List Int).map (.int .u32)) from ⟨rfl, .inr ⟨w.heap.size, 0, _, rfl, Nat.le_refl _, heap_alloc_new w _, Nat.le_refl _, Nat.zero_le _, rfl, rfl⟩⟩)
  clear hv h0
  have hq : ∀ W, (binOp .eql 24 (.slice (some a) xs.length c) (.slice none 0 0)).run Try.prog W = .ok (.bool false) W := fun W => Go.Lib.run_eql_slice_nil W 24 23 (some a) xs.length c 0 0 Try.underlying24
  go_enter Try.func19, Try.ntmps19
  go_wp2_with (at_builtin; refine wpList_append_tx _ rfl _ _ _ _ rfl w.heap.size 23 23 i0 .u32 4 Try.underlying24 Try.underlying24 hi0 hz0 hz1 hz2 _ 0 [] rfl OW.out B _ xs rfl HV.out (by unfold maxLen; omega) (by omega) (by simp) ?_; intro v2 w2 hown2 hg2 ho2; rw [Nat.zero_add, List.nil_append] at hown2; have OW2 := Lib.hid hown2; have HB2 := Lib.hid (below_row (new_ (Below.refl w.heap.size w) (.cells #[] 23)) OW.out hg2 (Nat.le_refl _) (by simp)); clear hown2 hg2 ho2)
  go_ret
  exact ⟨_, rfl, OW2.out, HB2.out⟩
/-- the greatest -/
def top (xs : List Int) : Int := xs.foldl (fun a b => if a < b then b else a) 0
theorem top_take (xs : List Int) (k : Nat) (hk : k < xs.length) : top (xs.take (k + 1)) = if top (xs.take k) < xs.getD k 0 then xs.getD k 0 else top (xs.take k) := by
  unfold top
  rw [List.take_add_one, List.foldl_append]
  simp [List.getD_eq_getElem?_getD, hk]
theorem top_ge {xs : List Int} {x : Int} (h : x ∈ xs) : x ≤ top xs := by
  unfold top
  suffices H : ∀ (l : List Int) (a : Int), a ≤ l.foldl (fun a b => if a < b then b else a) a ∧ ∀ x ∈ l, x ≤ l.foldl (fun a b => if a < b then b else a) a from (H xs 0).2 x h
  intro l
  induction l with
  | nil => intro a; exact ⟨Int.le_refl _, fun x h => by cases h⟩
  | cons y l ih =>
    intro a
    obtain ⟨h1, h2⟩ := ih (if a < y then y else a)
    refine ⟨Int.le_trans ?_ h1, fun x hx => ?_⟩
    · split <;> omega
    · rcases List.mem_cons.1 hx with rfl | hx
      · refine Int.le_trans ?_ h1
        split <;> omega
      · exact h2 x hx
theorem top_mem {xs : List Int} (h : xs ≠ []) (hp : ∀ x ∈ xs, 0 ≤ x) : top xs ∈ xs := by
  suffices H : ∀ (l : List Int) (a : Int), (l.foldl (fun a b => if a < b then b else a) a = a ∨ l.foldl (fun a b => if a < b then b else a) a ∈ l) by
    cases xs with
    | nil => exact absurd rfl h
    | cons y l =>
      have h0 := hp y (List.mem_cons_self ..)
      unfold top
      rw [List.foldl_cons]
      have e : (if (0 : Int) < y then y else 0) = y := by split <;> omega
      rw [e]
      rcases H l y with h1 | h1
      · rw [h1]; exact List.mem_cons_self ..
      · exact List.mem_cons_of_mem _ h1
  intro l
  induction l with
  | nil => intro a; exact .inl rfl
  | cons y l ih =>
    intro a
    rcases ih (if a < y then y else a) with h1 | h1
    · rw [List.foldl_cons, h1]
      by_cases e : a < y
      · rw [if_pos e]; exact .inr (List.mem_cons_self ..)
      · rw [if_neg e]; exact .inl rfl
    · exact .inr (List.mem_cons_of_mem _ h1)
set_option maxRecDepth 100000 in
set_option maxHeartbeats 4000000 in
theorem max_any (w : World) (B : Nat) (v : Value) (xs : List Int) (hv : IR w B .u32 v xs) (h0 : 0 < xs.length) (hl : xs.length ≤ 100000) (hp : ∀ x ∈ xs, 0 ≤ x) :
    Calls Try.prog 23 #[v] w fun e w' => e = .returned (.int .u32 (top xs)) ∧ w = w' := by
  obtain ⟨A, c, rfl, hc1, hc2⟩ := hv.form
  have HV := Lib.hid hv
  obtain ⟨n, hn⟩ : ∃ n, n = xs.length := ⟨_, rfl⟩
  rw [← hn]
  have HN := Lib.hid (⟨hn, hl⟩ : n = xs.length ∧ xs.length ≤ 100000)
  obtain ⟨b, off, rfl, hb, hcell⟩ := HV.out.index 0 h0
  have bn : (n : Int) ≤ 100000 := by omega
  have hn0 : ¬ (n : Int) < 1 := by omega
  have dn : decide ((n : Int) < 1) = false := by simp; omega
  have dn' : decide (n < 1) = false := by simp; omega
  have hn1 : 0 < n := by omega
  obtain ⟨x0, hx0⟩ : ∃ x, xs.getD 0 0 = x := ⟨_, rfl⟩
  rw [hx0, Nat.add_zero] at hcell
  have HT := Lib.hid (show top (xs.take 1) = x0 by
    have h1 := top_take xs 0 h0
    have h2 : 0 ≤ xs.getD 0 0 := hp _ (getD_mem h0)
    rw [hx0] at h1 h2
    simp only [List.take_zero] at h1
    rw [h1]
    show (if (0 : Int) < x0 then x0 else 0) = x0
    split <;> omega)
  have HC := Lib.hid (show ∀ k, k < n → w.cell? ⟨b, off + k, none⟩ = some (.int .u32 (xs.getD k 0)) from fun k hk => by
    obtain ⟨b', off', e, _, h⟩ := HV.out.index k (by omega)
    injection e with e
    injection e with e1 e2
    subst e1 e2
    exact h)
  clear hv hl hc1 hx0 hp hn h0
  go_enter Try.func23, Try.ntmps23
  go_wp2
  go_loopw [3, 4] (fun s u wr => ∃ k : Nat, 1 ≤ k ∧ k ≤ n ∧ s = .int .u32 (top (xs.take k)) ∧ u = .int .i64 k ∧ w = wr) (fun _ u _ => n - (intOf u).toNat)
  case atStart => exact ⟨1, Nat.le_refl _, hn1, by rw [HT.out], rfl, rfl⟩
  case round =>
    obtain ⟨k, hk1, hk, rfl, rfl, rfl⟩ := hrel
    by_cases hl : k < n
    · have d1 : decide ((k : Int) < (n : Int)) = true := by simp; omega
      have d1' : decide (k < n) = true := by simp; omega
      have bk : (k : Int) ≤ 100000 := by omega
      have ck := HC.out k hl
      obtain ⟨k', hk'⟩ : ∃ k', k' = k + 1 := ⟨_, rfl⟩
      have sk : (k : Int) + 1 = (k' : Int) := by omega
      have HK := Lib.hid (⟨hk', hl⟩ : k' = k + 1 ∧ k < n)
      have HTT := Lib.hid (show top (xs.take k') = if top (xs.take k) < xs.getD k 0 then xs.getD k 0 else top (xs.take k) by rw [hk']; exact top_take xs k (by have := HN.out; omega))
      generalize xs.getD k 0 = y at *
      generalize top (xs.take k) = t at *
      clear hk' hk1 hk
      go_wp2
      go_roundw
      case rel => exact ⟨k', by have := HK.out; omega, by have := HK.out; omega, by rw [HTT.out], rfl, trivial⟩
      case measure => simp [intOf]; have := HK.out; omega
    · have d1 : decide ((k : Int) < (n : Int)) = false := by simp; omega
      have d1' : decide (k < n) = false := by simp; omega
      obtain rfl : k = n := by omega
      have e1 : xs.take k = xs := by rw [HN.out.1, List.take_length]
      rw [e1]
      go_wp2
      go_ret
      exact ⟨rfl, rfl⟩
/-- who is given up -/
theorem victim_any (w : World) (B : Nat) (v : Value) (xs : List Int) (hv : IR w B .u32 v xs) (hl : xs.length ≤ 100000) (hp : ∀ x ∈ xs, 0 ≤ x) :
    Calls Try.prog 11 #[v] w fun e w' => e = .returned (.tuple #[.int .u32 (top xs), .bool (decide (0 < xs.length))]) ∧ w = w' := by
  obtain ⟨A, c, rfl, hc1, hc2⟩ := hv.form
  by_cases h0 : xs.length = 0
  · have e := List.eq_nil_of_length_eq_zero h0
    subst e
    go_enter Try.func11, Try.ntmps11
    go_wp2
    go_ret2
    exact ⟨rfl, rfl⟩
  · have CM := Lib.hid (max_any w B _ xs hv (by omega) hl hp)
    have d1 : decide ((xs.length : Int) = 0) = false := by simp; intro e; exact h0 (by rw [e]; rfl)
    have d2 : ((xs.length : Int) == 0) = false := by simp; intro e; exact h0 (by rw [e]; rfl)
    have HZ := Lib.hid (show decide (0 < xs.length) = true by simp; omega)
    generalize xs.length = n at *
    clear hv hp hl h0
    go_enter Try.func11, Try.ntmps11
    go_wp2_with fail
    (with_reducible refine CM.out.mono ?_)
    rintro e w2 ⟨rfl, rfl⟩
    go_wp2
    go_ret2
    exact ⟨by rw [HZ.out]; rfl, rfl⟩
end Go.Proofs.Yteldfoplhcnljaa.Knot
