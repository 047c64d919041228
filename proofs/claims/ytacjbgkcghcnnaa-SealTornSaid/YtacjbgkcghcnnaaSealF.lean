import Derived.Test.YtacjbgkcghcnnaaSealC
/- Of two pages' sectors, one of them torn: numbers. -/
namespace Go.Proofs.Ytacjbgkcghcnnaa.Seal
open Go.ChangeShapes Go.WideShapes Go.ChangeAt Go.RowKit Go.IntWalk Go.Shelf Go.Proofs.NumMath Go.Proofs.Mem NumBytes
set_option linter.unusedVariables false
/-- a front of b over a -/
def over (a b : List Int) (k : Nat) : List Int := b.take k ++ a.drop k
theorem over_len {a b : List Int} (ha : a.length = 128) (hb : b.length = 128) {k : Nat} (hk : k ≤ 128) : (over a b k).length = 128 := by
  unfold over; rw [List.length_append, List.length_take, List.length_drop, ha, hb]; omega
theorem over_self (a : List Int) (k : Nat) : over a a k = a := List.take_append_drop k a
theorem over_drop {a b : List Int} (hb : b.length = 128) {k p : Nat} (hk : k ≤ 128) (hp : k ≤ p) : (over a b k).drop p = a.drop p := by
  unfold over
  have hl : (b.take k).length = k := by rw [List.length_take, hb]; omega
  rw [List.drop_append, List.drop_of_length_le (by omega), List.nil_append, hl, List.drop_drop, show k + (p - k) = p by omega]
theorem over_take {a b : List Int} (hb : b.length = 128) {k p : Nat} (hk : k ≤ 128) (hp : p ≤ k) : (over a b k).take p = b.take p := by
  unfold over
  have hl : (b.take k).length = k := by rw [List.length_take, hb]; omega
  rw [List.take_append_of_le_length (by omega), List.take_take, Nat.min_eq_left hp]
def mid (xs : List Int) : List Int := (xs.drop 8).take 112
theorem over_mid_lo {a b : List Int} (hb : b.length = 128) {k : Nat} (hk : k ≤ 8) : mid (over a b k) = mid a := by
  unfold mid; rw [over_drop hb (by omega) hk]
theorem over_mid_hi {a b : List Int} (hb : b.length = 128) {k : Nat} (hk : 120 ≤ k) (hk2 : k ≤ 128) : mid (over a b k) = mid b := by
  have e : ∀ l : List Int, mid l = (l.take 120).drop 8 := fun l => by unfold mid; rw [List.drop_take]
  rw [e, e, over_take hb hk2 hk]
/-- a sector of the one page (with its stamp s) or the other, or torn: all of one stamp N are as the page's of that stamp -/
theorem torn_one {a b : List Int} {s t N : Int} (hst : s ≠ t) (ha : a.length = 128) (hb : b.length = 128) (sa : stampOf a = [s, s]) (sb : stampOf b = [t, t]) {k : Nat} (hk : k ≤ 128) {z : List Int} (hz : z = a ∨ z = b)
    (hN : ∀ y ∈ stampOf (over z b k), y = N) : (N = s ∧ mid (over z b k) = mid a) ∨ (N = t ∧ mid (over z b k) = mid b) := by
  have za : getS (a.take 8) = s ∧ getS (a.drop 120) = s := by unfold stampOf at sa; rw [if_pos ha] at sa; injection sa with h1 h2; injection h2 with h2 _; exact ⟨h1, h2⟩
  have zb : getS (b.take 8) = t ∧ getS (b.drop 120) = t := by unfold stampOf at sb; rw [if_pos hb] at sb; injection sb with h1 h2; injection h2 with h2 _; exact ⟨h1, h2⟩
  rcases hz with rfl | rfl
  · have hl := over_len ha hb hk
    unfold stampOf at hN
    rw [if_pos hl] at hN
    have n1 := hN _ (List.mem_cons_self ..)
    have n2 := hN (getS ((over z b k).drop 120)) (by simp)
    by_cases h8 : k ≤ 8
    · rw [over_drop hb (by omega) (by omega), za.2] at n2
      exact .inl ⟨n2.symm, over_mid_lo hb h8⟩
    · rw [over_take hb hk (by omega), zb.1] at n1
      by_cases h120 : k ≤ 120
      · rw [over_drop hb (by omega) h120, za.2] at n2
        exact absurd (n2.trans n1.symm) hst
      · exact .inr ⟨n1.symm, over_mid_hi hb (by omega) hk⟩
  · rw [over_self] at hN ⊢
    rw [sb] at hN
    exact .inr ⟨(hN t (by simp)).symm, rfl⟩
theorem pure_one {a b z : List Int} {s t N : Int} (sa : stampOf a = [s, s]) (sb : stampOf b = [t, t]) (hz : z = a ∨ z = b) (hN : ∀ y ∈ stampOf z, y = N) : (N = s ∧ mid z = mid a) ∨ (N = t ∧ mid z = mid b) := by
  rcases hz with rfl | rfl
  · rw [sa] at hN; exact .inl ⟨(hN s (by simp)).symm, rfl⟩
  · rw [sb] at hN; exact .inr ⟨(hN t (by simp)).symm, rfl⟩
/-- what sectors of both may open as -/
theorem torn_whole {xs ys : List Int} {s t : Int} (hs : 0 ≤ s ∧ s ≤ 18446744073709551615) (ht : 0 ≤ t ∧ t ≤ 18446744073709551615) (hst : s ≠ t) (hx : xs.length = 448) (hy : ys.length = 448) {vs : Sects} (hw : Whole vs)
    (h : ∀ i, i < 4 → ∃ z k, (z = sec xs s (112 * i) ∨ z = sec ys t (112 * i)) ∧ k ≤ 128 ∧ sect vs i = over z (sec ys t (112 * i)) k ∨ sect vs i = sec xs s (112 * i)) :
    (head0 vs = s ∧ bodyOf vs = xs) ∨ (head0 vs = t ∧ bodyOf vs = ys) := by
  have one : ∀ i, i < 4 → (head0 vs = s ∧ mid (sect vs i) = mid (sec xs s (112 * i))) ∨ (head0 vs = t ∧ mid (sect vs i) = mid (sec ys t (112 * i))) := fun i hi => by
    have hN : ∀ y ∈ stampOf (sect vs i), y = head0 vs := fun y hy => hw.2.2 y (by
      have hlt : i < vs.length := by have := hw.1; omega
      refine List.mem_flatMap.2 ⟨vs[i], List.getElem_mem hlt, ?_⟩
      rw [sect_at (u := vs[i].1) (xs := vs[i].2) (by rw [List.getElem?_eq_getElem hlt])] at hy
      exact hy)
    have la := sec_len (xb := xs) (n := s) (a := 112 * i) (by omega)
    have lb := sec_len (xb := ys) (n := t) (a := 112 * i) (by omega)
    have sa := stampOf_sec (xb := xs) hs (a := 112 * i) (by omega)
    have sb := stampOf_sec (xb := ys) ht (a := 112 * i) (by omega)
    obtain ⟨z, k, h | h⟩ := h i hi
    · obtain ⟨hz, hk, e⟩ := h
      rw [e] at hN ⊢
      exact torn_one hst la lb sa sb hk hz hN
    · rw [h] at hN ⊢
      exact pure_one sa sb (.inl rfl) hN
  have hb4 : bodyOf vs = mid (sect vs 0) ++ (mid (sect vs 1) ++ (mid (sect vs 2) ++ mid (sect vs 3))) := by
    have hl := hw.1
    obtain ⟨a, b, c, d, rfl⟩ := list_4 hl
    simp [bodyOf, sect, mid]
  have full : ∀ (zs : List Int) (n : Int), (0 ≤ n ∧ n ≤ 18446744073709551615) → zs.length = 448 → mid (sec zs n 0) ++ (mid (sec zs n 112) ++ (mid (sec zs n 224) ++ mid (sec zs n 336))) = zs := fun zs n hn hz => by
    have := (sealed (vs := (sealS zs n).map (fun x => (Value.slice none 0 0, x))) hn hz (by rw [List.map_map]; show (sealS zs n).map id = _; exact List.map_id _)).2.2.1
    rw [bodyOf_map, List.map_map] at this
    simpa [sealS_eq, mid, Function.comp] using this
  have h0 := one 0 (by decide)
  have h1 := one 1 (by decide)
  have h2 := one 2 (by decide)
  have h3 := one 3 (by decide)
  rw [hb4]
  by_cases e : head0 vs = s
  · have ne : ¬ head0 vs = t := fun e2 => hst (e.symm.trans e2)
    refine .inl ⟨e, ?_⟩
    rw [(h0.resolve_right (fun x => ne x.1)).2, (h1.resolve_right (fun x => ne x.1)).2, (h2.resolve_right (fun x => ne x.1)).2, (h3.resolve_right (fun x => ne x.1)).2]
    exact full xs s hs hx
  · refine .inr ⟨(h0.resolve_left (fun x => e x.1)).1, ?_⟩
    rw [(h0.resolve_left (fun x => e x.1)).2, (h1.resolve_left (fun x => e x.1)).2, (h2.resolve_left (fun x => e x.1)).2, (h3.resolve_left (fun x => e x.1)).2]
    exact full ys t ht hy
section
variable {W : World} {base g n c : Nat} {e : TypeId} {us : List Value}
theorem own_heap (h : W.ownsRow base e 1 (.slice (some ⟨g, 0, none⟩) n c) n us) : ∃ cur, base ≤ g ∧ Box W g cur e ∧ n ≤ c ∧ c ≤ maxLen ∧ cur.size = c ∧ cur.toList.take n = us := by
  rcases h.2 with ⟨hn, _⟩ | ⟨g', cap, cur, e2, hb, hgg, h1, h2, h3, h4⟩
  · cases hn
  · injection e2 with a1 a2 a3
    injection a1 with a1
    injection a1 with a1
    subst a1 a3
    exact ⟨cur, hb, hgg, h1, h2, by omega, by simpa using h4⟩
theorem own_cell (h : W.ownsRow base e 1 (.slice (some ⟨g, 0, none⟩) n c) n us) {i : Nat} {x : Value} (hx : us[i]? = some x) : W.cell? ⟨g, i, none⟩ = some x := by
  obtain ⟨cur, _, hb, _, _, _, ht⟩ := own_heap h
  rw [hb.cell, ← Array.getElem?_toList]
  rw [← ht, List.getElem?_take] at hx
  split at hx
  · exact hx
  · cases hx
theorem own_frozen (h : W.ownsRow base e 1 (.slice (some ⟨g, 0, none⟩) n c) n us) (i : Nat) : W.frozen? ⟨g, i, none⟩ = false := by
  obtain ⟨cur, _, hb, _⟩ := own_heap h
  exact hb.frozen i
theorem own_set (h : W.ownsRow base e 1 (.slice (some ⟨g, 0, none⟩) n c) n us) (i : Nat) (x : Value) : (W.setCell ⟨g, i, none⟩ x).ownsRow base e 1 (.slice (some ⟨g, 0, none⟩) n c) n (us.set i x) := by
  obtain ⟨cur, hbase, hb, h1, h2, h3, ht⟩ := own_heap h
  refine ⟨by rw [List.length_set]; exact h.1, .inr ⟨g, c, _, rfl, hbase, hb.set_ i x, h1, h2, by simp [h3], ?_⟩⟩
  rw [Nat.mul_one]
  simp only [Array.toList_setIfInBounds]
  rw [List.take_set, ht]
end
/-- four rows: of each its value is a slice of 128 bytes that are owned -/
structure Four (W : World) (base top gl cl : Nat) (ls : List Rw) (L : List (List Int)) : Prop where
  tab : Tab 5 22 W base top (.slice (some ⟨gl, 0, none⟩) 4 cl) ls
  len : ls.length = 4
  eq : ls.map (·.2.2) = L
  all : ∀ xs ∈ L, xs.length = 128 ∧ Bytes xs
theorem four_of {W : World} {base : Nat} {v : Value} {ls : List Rw} {xb : List Int} {n : Int} (tab : Tab 5 22 W base W.heap.size v ls) (hx : xb.length = 448) (hb : Bytes xb) (h : ls.map (·.2.2) = sealS xb n) :
    ∃ gl cl, v = .slice (some ⟨gl, 0, none⟩) 4 cl ∧ Four W base W.heap.size gl cl ls (sealS xb n) := by
  have hll : ls.length = 4 := by have := congrArg List.length h; simpa [sealS_eq] using this
  rcases tab.value with ⟨_, e⟩ | ⟨gl, cl, rfl, _, _⟩
  · rw [e] at hll; cases hll
  · rw [hll] at tab ⊢
    refine ⟨gl, cl, rfl, tab, hll, h, fun xs hxs => ?_⟩
    unfold sealS at hxs
    obtain ⟨a, _, rfl⟩ := List.mem_map.1 hxs
    exact ⟨sec_len (by have := a.2; omega), sec_bytes hb n _⟩
theorem Four.row {W : World} {base top gl cl : Nat} {ls : List Rw} {L : List (List Int)} (f : Four W base top gl cl ls L) (i : Nat) (hi : i < 4) :
    ∃ g c xs, (ls.map (·.2.1))[i]? = some (.slice (some ⟨g, 0, none⟩) 128 c) ∧ L[i]? = some xs ∧ RowAt 5 W base g (.slice (some ⟨g, 0, none⟩) 128 c) xs ∧ xs.length = 128 ∧ Bytes xs ∧ g < top ∧ 128 ≤ c ∧ c ≤ maxLen := by
  have hlt : i < ls.length := by rw [f.len]; exact hi
  obtain ⟨hr, ht⟩ := f.tab.rows _ (List.getElem_mem hlt)
  have hL : L[i]? = some ls[i].2.2 := by rw [← f.eq, List.getElem?_map, List.getElem?_eq_getElem hlt]; rfl
  obtain ⟨h128, hby⟩ := f.all _ (List.mem_of_getElem? hL)
  obtain ⟨_, c, e, _, _, hc, _, hm, _⟩ := hr.heap
  rw [h128] at e hc
  refine ⟨ls[i].1, c, ls[i].2.2, by rw [List.getElem?_map, List.getElem?_eq_getElem hlt]; exact congrArg some e, hL, by rw [← e]; exact hr, h128, hby, ht, hc, hm⟩
theorem over_step {z y : List Int} (hz : z.length = 128) (hy : y.length = 128) {j : Nat} (hj : j < 128) : (over z y j).set j (y.getD j 0) = over z y (j + 1) := by
  apply List.ext_getElem?
  intro i
  unfold over
  simp only [List.getElem?_set, List.getElem?_append, List.length_take, List.length_append, List.length_drop, List.getElem?_take, List.getElem?_drop, hz, hy]
  have e1 : min j 128 = j := by omega
  have e2 : min (j + 1) 128 = j + 1 := by omega
  rw [e1, e2]
  by_cases h1 : j = i
  · subst h1
    simp [show j < j + (128 - j) by omega, List.getD, List.getElem?_eq_getElem (show j < y.length by omega)]
  · rw [if_neg h1]
    by_cases h2 : i < j
    · simp [h2, show i < j + 1 by omega]
    · simp [h2, show ¬ i < j + 1 by omega, show j + (i - j) = i by omega, show j + 1 + (i - (j + 1)) = i by omega]
theorem over_zero (z y : List Int) : over z y 0 = z := by simp [over]
theorem over_bytes {z y : List Int} (hz : Bytes z) (hy : Bytes y) (k : Nat) : Bytes (over z y k) := (Bytes.take hy k).app (Bytes.drop hz k)
theorem sr_four {W : World} {base gl cl : Nat} {us : List Value} {P : Nat → List Int → Prop} (h : W.ownsRow base 22 1 (.slice (some ⟨gl, 0, none⟩) 4 cl) 4 us)
    (hall : ∀ i, i < 4 → ∃ u x, us[i]? = some u ∧ IR W W.heap.size .u8 u x ∧ Bytes x ∧ P i x) :
    ∃ vs : Sects, SR W W.heap.size (.slice (some ⟨gl, 0, none⟩) 4 cl) vs ∧ vs.length = 4 ∧ ∀ i, i < 4 → P i (sect vs i) := by
  obtain ⟨cur, _, hb, h1, h2, _, _⟩ := own_heap h
  obtain ⟨u0, x0, a0, i0, b0, p0⟩ := hall 0 (by decide)
  obtain ⟨u1, x1, a1, i1, b1, p1⟩ := hall 1 (by decide)
  obtain ⟨u2, x2, a2, i2, b2, p2⟩ := hall 2 (by decide)
  obtain ⟨u3, x3, a3, i3, b3, p3⟩ := hall 3 (by decide)
  refine ⟨[(u0, x0), (u1, x1), (u2, x2), (u3, x3)], ⟨_, cl, rfl, h1, h2, fun i hi => ?_⟩, rfl, fun i hi => ?_⟩
  · have hi' : i < 4 := hi
    match i, hi' with
    | 0, _ => exact ⟨gl, 0, u0, x0, rfl, hb.lt, rfl, own_cell h a0, i0, b0⟩
    | 1, _ => exact ⟨gl, 0, u1, x1, rfl, hb.lt, rfl, own_cell h a1, i1, b1⟩
    | 2, _ => exact ⟨gl, 0, u2, x2, rfl, hb.lt, rfl, own_cell h a2, i2, b2⟩
    | 3, _ => exact ⟨gl, 0, u3, x3, rfl, hb.lt, rfl, own_cell h a3, i3, b3⟩
  · match i, hi with
    | 0, _ => exact p0
    | 1, _ => exact p1
    | 2, _ => exact p2
    | 3, _ => exact p3
theorem row_apart {W : World} {base base' g gl cl : Nat} {u : Value} {xs : List Int} {us : List Value} (h : W.ownsRow base 22 1 (.slice (some ⟨gl, 0, none⟩) 4 cl) 4 us) (r : RowAt 5 W base' g u xs) : g ≠ gl := fun e => by
  obtain ⟨cur, _, hb, _⟩ := own_heap h
  obtain ⟨cur', _, _, _, hg, _⟩ := r.heap
  unfold Box at hb
  rw [e, hb] at hg
  injection hg with hg
  injection hg with _ h2 _
  exact absurd h2 (by decide)
theorem sealS_at (xb : List Int) (n : Int) (i : Nat) (hi : i < 4) : (sealS xb n)[i]? = some (sec xb n (112 * i)) := by
  rw [sealS_eq]
  match i, hi with
  | 0, _ => rfl
  | 1, _ => rfl
  | 2, _ => rfl
  | 3, _ => rfl
/-- what stands at a place of l: a row of the one or the other -/
def Pick_ (W : World) (xs ys : List Int) (s t : Int) (us : List Value) (i : Nat) : Prop :=
  ∃ u z base g c, us[i]? = some u ∧ u = .slice (some ⟨g, 0, none⟩) 128 c ∧ RowAt 5 W base g u z ∧ z.length = 128 ∧ Bytes z ∧ (z = sec xs s (112 * i) ∨ z = sec ys t (112 * i)) ∧ 128 ≤ c ∧ c ≤ maxLen
theorem own_fr {A B : World} {S : Nat → Prop} {base n : Nat} {e : TypeId} {v : Value} {us : List Value} (h : A.ownsRow base e 1 v n us) (hf : Fr S A B) (hn : ∀ g, v.ownBlock = some g → ¬ S g) : B.ownsRow base e 1 v n us := by
  refine ⟨h.1, ?_⟩
  rcases h.2 with h0 | ⟨g, cap, cur, rfl, hb, hg, rest⟩
  · exact .inl h0
  · exact .inr ⟨g, cap, cur, rfl, hb, (hf.block g (Array.getElem?_eq_some_iff.1 hg).1 (hn g rfl)).trans hg, rest⟩
theorem row_fr {A B : World} {S : Nat → Prop} {base g : Nat} {u : Value} {xs : List Int} (h : RowAt 5 A base g u xs) (hf : Fr S A B) (hn : ¬ S g) : RowAt 5 B base g u xs :=
  ⟨h.form, own_fr h.own hf (fun k hk => by obtain ⟨c, rfl⟩ := h.form; injection hk with hk; simp only at hk; rw [← hk]; exact hn)⟩
theorem row_lt {A : World} {base g : Nat} {u : Value} {xs : List Int} (h : RowAt 5 A base g u xs) : base ≤ g ∧ g < A.heap.size := by
  obtain ⟨_, _, _, hb, hg, _⟩ := h.heap
  exact ⟨hb, (Array.getElem?_eq_some_iff.1 hg).1⟩
theorem pick_of {A W : World} {xs ys : List Int} {s t : Int} {base base' top top' gl cl gm cm gq cq : Nat} {l m : List Rw} {us : List Value} {i : Nat} (hi : i < 4) (FL : Four A base top gl cl l (sealS xs s)) (FM : Four A base' top' gm cm m (sealS ys t))
    (hq : A.ownsRow gq 22 1 (.slice (some ⟨cq, 0, none⟩) 4 cl) 4 (l.map (·.2.1))) (hf : Fr (fun x => x = cq) A W) (h : us[i]? = (l.map (·.2.1))[i]? ∨ us[i]? = (m.map (·.2.1))[i]?) : Pick_ W xs ys s t us i := by
  rcases h with e | e
  · obtain ⟨g, c, z, hmap, hL, row, h128, hby, _, hc, hcm⟩ := FL.row i hi
    rw [sealS_at xs s i hi] at hL
    injection hL with hL
    exact ⟨_, z, _, g, c, e.trans hmap, rfl, row_fr row hf (row_apart hq row), h128, hby, .inl hL.symm, hc, hcm⟩
  · obtain ⟨g, c, z, hmap, hL, row, h128, hby, _, hc, hcm⟩ := FM.row i hi
    rw [sealS_at ys t i hi] at hL
    injection hL with hL
    exact ⟨_, z, _, g, c, e.trans hmap, rfl, row_fr row hf (row_apart hq row), h128, hby, .inr hL.symm, hc, hcm⟩
end Go.Proofs.Ytacjbgkcghcnnaa.Seal
