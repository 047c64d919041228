import Derived.Test.YtpndcpmfcajmdaaLkD
/- Into: a number among others, rising, once. -/
namespace Go.Proofs.Ytpndcpmfcajmdaa.Lock
open Go.ChangeShapes Go.WideShapes Go.ChangeAt Go.RowKit Go.IntWalk Go.Proofs.Mem Law Go.Shelf Go.Proofs.Each
set_option linter.unusedVariables false
set_option linter.unusedSimpArgs false
def into (l : List Int) (n : Int) : List Int :=
  if (l.dropWhile fun x => decide (x < n)).head? = some n then l else (l.takeWhile fun x => decide (x < n)) ++ n :: (l.dropWhile fun x => decide (x < n))
theorem into_mem {l : List Int} {n x : Int} : x ∈ into l n ↔ x = n ∨ x ∈ l := by
  have e := List.takeWhile_append_dropWhile (p := fun x => decide (x < n)) (l := l)
  unfold into
  split
  · rename_i h
    constructor
    · exact .inr
    · rintro (h1 | h1)
      · rw [h1, ← e]
        exact List.mem_append_right _ (List.mem_of_mem_head? h)
      · exact h1
  · conv => rhs; rw [← e]
    simp only [List.mem_append, List.mem_cons]
    constructor
    · rintro (h1 | h1 | h1)
      · exact .inr (.inl h1)
      · exact .inl h1
      · exact .inr (.inr h1)
    · rintro (h1 | h1 | h1)
      · exact .inr (.inl h1)
      · exact .inl h1
      · exact .inr (.inr h1)
theorem into_at {l : List Int} {n : Int} {i : Nat} (h1 : ∀ x ∈ l.take i, x < n) (h2 : ∀ x, l[i]? = some x → ¬ x < n) (hi : i ≤ l.length) : (l.takeWhile fun x => decide (x < n)) = l.take i ∧ (l.dropWhile fun x => decide (x < n)) = l.drop i := by
  induction l generalizing i with
  | nil => simp
  | cons y l ih =>
    cases i with
    | zero =>
      have := h2 y rfl
      simp [this]
    | succ i =>
      have hy : y < n := h1 y (by simp)
      obtain ⟨e1, e2⟩ := ih (i := i) (fun x hx => h1 x (by simp [hx])) (fun x hx => h2 x (by simpa using hx)) (by simpa using hi)
      simp [hy, e1, e2]
theorem u32_inf : (Try.prog.info? 29).map (fun i => (i.zero, i.size, i.bytes)) = some (some (.int .u32 0), 1, 4) := by kernel_rfl
theorem ir_drop {w : World} {B : Nat} {k : IntKind} {A : Option Addr} {n c m : Nat} {xs : List Int} (h : IR w B k (.slice A n c) xs) (hm : m ≤ n) : IR w B k (.slice (if c = m then A else A.map (·.add m)) (n - m) (c - m)) (xs.drop m) := by
  obtain ⟨A', c', e, h2, h3, h4, h5⟩ := h
  injection e with e1 e2 e3
  subst e1; subst e2; subst e3
  refine ⟨_, c - m, by rw [List.length_drop], by rw [List.length_drop]; omega, by omega, ?_, fun i hi => ?_⟩
  · intro hh
    split at hh
    · omega
    · cases A with
      | none => have := h4 rfl; omega
      | some a => cases hh
  · rw [List.length_drop] at hi
    obtain ⟨b, off, e, hb, hc⟩ := h5 (m + i) (by omega)
    subst e
    refine ⟨b, off + m, ?_, hb, ?_⟩
    · rw [if_neg (by omega)]; simp [Go.WideShapes.add_plain]
    · rw [Nat.add_assoc, hc]; simp [List.getD]
set_option maxRecDepth 100000 in
set_option maxHeartbeats 8000000 in
theorem into_any (w : World) (B : Nat) (v : Value) (l : List Int) (n : Int) (hB : B ≤ w.heap.size) (hlen : l.length ≤ 10000) (ho : w.ownsRow B 29 1 v l.length (l.map (.int .u32))) :
    Calls Try.prog 22 #[v, .int .u32 n] w fun e w' => ∃ v', e = .returned v' ∧ w'.ownsRow B 29 1 v' (into l n).length ((into l n).map (.int .u32)) ∧ (v' = v ∨ ∀ b, v'.ownBlock = some b → w.heap.size ≤ b) ∧ Below w.heap.size w w' := by
  obtain ⟨j0, hj0, hj1, hj2, hj3⟩ := info_parts u32_inf
  have hir := IR.of_own ho
  obtain ⟨A, c, rfl, hc1, hc2⟩ := hir.form
  have hform : (A = none ∧ c = 0) ∨ ∃ g, A = some ⟨g, 0, none⟩ := by
    rcases ho.2 with ⟨h1, _⟩ | ⟨g, cap, cur, h1, _⟩
    · injection h1 with h1 _ h3; exact .inl ⟨h1, h3⟩
    · injection h1 with h1 _ _; exact .inr ⟨g, h1⟩
  have HFM := Lib.hid hform
  clear hform
  obtain ⟨N, hN⟩ : ∃ N, l.length = N := ⟨_, rfl⟩
  have HIR := Lib.hid hir
  have HO := Lib.hid ho
  have HNL := Lib.hid hN
  have hN63 : (N : Int) ≤ 10000 := by omega
  have hNc : N ≤ c := by omega
  have HB := Lib.hid hB
  rw [hN]
  rw [hN] at HIR
  clear hir ho hc1 hc2 hN hlen hB
  go_enter Try.func22, Try.ntmps22
  go_wp2
  go_loopw [5] (fun s wr => ∃ i : Nat, i ≤ N ∧ s = .int .i64 i ∧ Hid (∀ x ∈ l.take i, x < n) ∧ w = wr) (fun s _ => N - (intOf s).toNat)
  case atStart => exact ⟨0, Nat.zero_le _, rfl, Lib.hid (fun x hx => by simp at hx), rfl⟩
  case round =>
    obtain ⟨i, hi, rfl, HF, rfl⟩ := hrel
    by_cases hl : i < N
    · have d1 : decide ((i : Int) < (N : Int)) = true := by simp; omega
      have d1' : decide (i < N) = true := by simp; omega
      obtain ⟨x, hx⟩ : ∃ x, l[i]? = some x := ⟨_, List.getElem?_eq_getElem (by have := HNL.out; omega)⟩
      obtain ⟨b, off, hA, hb, hcell⟩ := HIR.out.index i hl
      have hxe : l.getD i 0 = x := by rw [List.getD, hx]; rfl
      rw [hxe] at hcell
      have HX := Lib.hid hx
      subst hA
      clear hb hx hxe
      by_cases hlt : x < n
      · have d2 : decide (x < n) = true := by simpa using hlt
        have hw2 : IntKind.i64.wrap ((i : Int) + 1) = ((i + 1 : Nat) : Int) := by rw [IntKind.wrap_i64]; omega
        have HN2 := Lib.hid (show ∀ y ∈ l.take (i + 1), y < n from fun y hy => by
          rw [List.take_add_one, HX.out] at hy
          rcases List.mem_append.1 hy with h | h
          · exact HF.out y h
          · simp at h; rw [h]; exact hlt)
        clear hlt
        go_wp2
        go_roundw
        case rel => exact ⟨i + 1, by omega, by go_num, HN2, trivial⟩
        case measure => simp [intOf]; omega
      · have d2 : decide (x < n) = false := by simpa using hlt
        have HAT := Lib.hid (into_at HF.out (fun y hy => by rw [HX.out] at hy; injection hy with hy; rw [← hy]; exact hlt) (by have := HNL.out; omega))
        clear hlt
        by_cases he : x = n
        · have d3 : (x == n) = true := by simpa using he
          have d3' : decide (x = n) = true := by simpa using he
          have HE := Lib.hid (show into l n = l by
            unfold into
            rw [HAT.out.2, if_pos]
            rw [List.head?_drop, HX.out, he])
          clear he
          go_wp2
          go_ret
          refine ⟨_, rfl, ?_, .inl rfl, Below.refl _ _⟩
          rw [HE.out]
          have := HO.out
          rw [HNL.out] at this ⊢
          exact this
        · have d3 : (x == n) = false := by simpa using he
          have d3' : decide (x = n) = false := by simpa using he
          have HE := Lib.hid (show into l n = l.take i ++ n :: l.drop i by
            unfold into
            rw [HAT.out.1, HAT.out.2, if_neg]
            rw [List.head?_drop, HX.out]
            intro h; injection h with h; exact he h)
          clear he
          have hL1 : (l.take i).length = i := by rw [List.length_take, HNL.out]; omega
          have hL2 : (l.drop i).length = N - i := by rw [List.length_drop, HNL.out]
          obtain ⟨L1, hl1⟩ : ∃ L1, l.take i = L1 := ⟨_, rfl⟩
          obtain ⟨L2, hl2⟩ : ∃ L2, l.drop i = L2 := ⟨_, rfl⟩
          have HI1 := Lib.hid (HIR.out.take hi)
          have hI2 := ir_drop HIR.out hi
          rw [hl1] at HI1 hL1 HE
          rw [hl2] at hI2 hL2 HE
          have HL := Lib.hid (⟨hL1, hL2⟩ : L1.length = i ∧ L2.length = N - i)
          clear hL1 hL2 hl1 hl2
          have hfm := HFM.out
          have hsz : (IntKind.i64.wrap (i : Int)) = (i : Int) := by rw [IntKind.wrap_i64]; omega
          obtain ⟨g, hg⟩ : ∃ g, (some ⟨b, off, none⟩ : Option Addr) = some ⟨g, 0, none⟩ := hfm.resolve_left (fun h => by cases h.1)
          injection hg with hg
          injection hg with hg1 hg2
          subst hg1
          subst hg2
          rw [Nat.zero_add] at hcell
          have hci : ¬ c = i := by omega
          have HI2 := Lib.hid (show IR w w.heap.size .u32 (.slice (some ⟨b, i, none⟩) (N - i) (c - i)) L2 by
            rw [if_neg hci] at hI2; simpa [Go.WideShapes.add_plain] using hI2)
          clear hI2
          all_goals
            go_wp2_with (first
              | (at_builtin; refine wpList_append_all _ rfl _ _ _ rfl w.heap.size 29 j0 .u32 4 Try.underlying38 hj0 hj1 hj2 hj3 _ 0 [] rfl (World.ownsRow_nil _ _ _ _) w.heap.size _ L1 rfl HI1.out (by have := HL.out; unfold maxLen; omega) (by have := HL.out; omega) (Nat.le_refl _) ?_; intro v1 w1 hown1 hb1; have HO1 := Lib.hid hown1; have HB1 := Lib.hid hb1; clear hown1 hb1)
              | (at_builtin; refine wpList_push _ rfl _ _ _ rfl w.heap.size 29 j0 .u32 4 Try.underlying38 hj0 hj1 hj2 hj3 v1 _ _ rfl (own_below HO1.out (new_ (Below.refl _ _) (.cells #[.int .u32 n] 29))) w1.heap.size n rfl (cell_new _ _ _ 0) (by have := HL.out; unfold maxLen; omega) (by have := HL.out; omega) (by have := HB1.out.size; simp; omega) ?_; intro v2 w2 hown2 hb2; have HO2 := Lib.hid hown2; have HB2 := Lib.hid (HB1.out.trans ((new_ (Below.refl w1.heap.size w1) (.cells #[.int .u32 n] 29)).mono HB1.out.size |>.trans hb2)); clear hown2 hb2)
              | (at_builtin; refine wpList_append_all _ rfl _ _ _ rfl w.heap.size 29 j0 .u32 4 Try.underlying38 hj0 hj1 hj2 hj3 v2 _ _ rfl HO2.out w.heap.size _ L2 rfl (HI2.out.below HB2.out) (by have := HL.out; unfold maxLen; omega) (by have := HL.out; omega) HB2.out.size ?_; intro v3 w3 hown3 hb3; have HO3 := Lib.hid hown3; have HB3 := Lib.hid (HB2.out.trans hb3); clear hown3 hb3))
            go_ret
            refine ⟨_, rfl, ?_, .inr (fun b hb => (HO3.out.lt b hb).1), HB3.out⟩
            have h1 := own_lower HO3.out HB.out
            rw [HE.out, show (L1 ++ n :: L2).length = 0 + L1.length + 1 + L2.length by simp; omega, show L1 ++ n :: L2 = [] ++ L1 ++ [n] ++ L2 by simp]
            exact h1
    · have hiN : i = N := by omega
      have d1 : decide ((i : Int) < (N : Int)) = false := by simp; omega
      have d1' : decide (i < N) = false := by simp; omega
      have HAT := Lib.hid (into_at HF.out (fun y hy => by rw [List.getElem?_eq_none (by rw [HNL.out]; omega)] at hy; cases hy) (by have := HNL.out; omega))
      have HE := Lib.hid (show into l n = l.take i ++ n :: l.drop i by
        unfold into
        rw [HAT.out.1, HAT.out.2, if_neg]
        rw [List.head?_drop, List.getElem?_eq_none (by rw [HNL.out]; omega)]
        intro h; cases h)
      clear hiN
      have hL1 : (l.take i).length = i := by rw [List.length_take, HNL.out]; omega
      have hL2 : (l.drop i).length = N - i := by rw [List.length_drop, HNL.out]
      obtain ⟨L1, hl1⟩ : ∃ L1, l.take i = L1 := ⟨_, rfl⟩
      obtain ⟨L2, hl2⟩ : ∃ L2, l.drop i = L2 := ⟨_, rfl⟩
      have HI1 := Lib.hid (HIR.out.take hi)
      have hI2 := ir_drop HIR.out hi
      rw [hl1] at HI1 hL1 HE
      rw [hl2] at hI2 hL2 HE
      have HL := Lib.hid (⟨hL1, hL2⟩ : L1.length = i ∧ L2.length = N - i)
      clear hL1 hL2 hl1 hl2
      have hfm := HFM.out
      have hsz : (IntKind.i64.wrap (i : Int)) = (i : Int) := by rw [IntKind.wrap_i64]; omega
      rcases hfm with ⟨rfl, hc0⟩ | ⟨g, rfl⟩
      case' inl =>
        have hN0 : N = 0 := by omega
        have hi0 : i = 0 := by omega
        subst hc0
        have HI2 := Lib.hid (show IR w w.heap.size .u32 (.slice none 0 0) L2 by subst hN0 hi0; simpa using hI2)
        subst hi0
        clear hI2
      case' inr =>
        by_cases hci : c = i
        case' pos =>
          have hNi : N = i := by omega
          have HI2 := Lib.hid (show IR w w.heap.size .u32 (.slice (some ⟨g, 0, none⟩) 0 0) L2 by
            rw [if_pos hci] at hI2; subst hci; subst hNi; simpa using hI2)
          subst hci
          subst hNi
          clear hI2
        case' neg =>
          have HI2 := Lib.hid (show IR w w.heap.size .u32 (.slice (some ⟨g, i, none⟩) (N - i) (c - i)) L2 by
            rw [if_neg hci] at hI2; simpa [Go.WideShapes.add_plain] using hI2)
          clear hI2
      all_goals
        go_wp2_with (first
          | (at_builtin; refine wpList_append_all _ rfl _ _ _ rfl w.heap.size 29 j0 .u32 4 Try.underlying38 hj0 hj1 hj2 hj3 _ 0 [] rfl (World.ownsRow_nil _ _ _ _) w.heap.size _ L1 rfl HI1.out (by have := HL.out; unfold maxLen; omega) (by have := HL.out; omega) (Nat.le_refl _) ?_; intro v1 w1 hown1 hb1; have HO1 := Lib.hid hown1; have HB1 := Lib.hid hb1; clear hown1 hb1)
          | (at_builtin; refine wpList_push _ rfl _ _ _ rfl w.heap.size 29 j0 .u32 4 Try.underlying38 hj0 hj1 hj2 hj3 v1 _ _ rfl (own_below HO1.out (new_ (Below.refl _ _) (.cells #[.int .u32 n] 29))) w1.heap.size n rfl (cell_new _ _ _ 0) (by have := HL.out; unfold maxLen; omega) (by have := HL.out; omega) (by have := HB1.out.size; simp; omega) ?_; intro v2 w2 hown2 hb2; have HO2 := Lib.hid hown2; have HB2 := Lib.hid (HB1.out.trans ((new_ (Below.refl w1.heap.size w1) (.cells #[.int .u32 n] 29)).mono HB1.out.size |>.trans hb2)); clear hown2 hb2)
          | (at_builtin; refine wpList_append_all _ rfl _ _ _ rfl w.heap.size 29 j0 .u32 4 Try.underlying38 hj0 hj1 hj2 hj3 v2 _ _ rfl HO2.out w.heap.size _ L2 rfl (HI2.out.below HB2.out) (by have := HL.out; unfold maxLen; omega) (by have := HL.out; omega) HB2.out.size ?_; intro v3 w3 hown3 hb3; have HO3 := Lib.hid hown3; have HB3 := Lib.hid (HB2.out.trans hb3); clear hown3 hb3))
        go_ret
        refine ⟨_, rfl, ?_, .inr (fun b hb => (HO3.out.lt b hb).1), HB3.out⟩
        have h1 := own_lower HO3.out HB.out
        rw [HE.out, show (L1 ++ n :: L2).length = 0 + L1.length + 1 + L2.length by simp; omega, show L1 ++ n :: L2 = [] ++ L1 ++ [n] ++ L2 by simp]
        exact h1
end Go.Proofs.Ytpndcpmfcajmdaa.Lock
