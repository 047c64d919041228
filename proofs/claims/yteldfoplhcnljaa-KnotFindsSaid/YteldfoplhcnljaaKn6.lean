import Derived.Test.YteldfoplhcnljaaKn5
import Derived.Deep.RegionWith
/- What the laws ask: the example, lists that are the same, an edge; edges that came in. -/
namespace Go.Proofs.Yteldfoplhcnljaa.Knot
open Go.ChangeShapes Go.WideShapes Go.ChangeAt Go.RowKit Go.IntWalk Go.Proofs.Mem Go.Proofs.Each Srt Go.Proofs.Ring
set_option linter.unusedVariables false
set_option linter.unusedSimpArgs false
section
variable {H : Type} {enc : TypeId × Value → H} {W : World}
theorem cU : Try.prog.cellsOf 23 = 1 := by kernel_rfl
theorem cEdg : Try.prog.cellsOf 35 = 2 := by kernel_rfl
theorem one_int {k : TypeId} {q : IntKind} {n : Nat} {o : Nat} {cs : List Value} {y : Option (DataW H × List MemPlace)} (ht : Try.prog.underlying k = some (.int q)) (hf : DataW.trod enc Try.prog W 0 (fun _ => true) true n k cs = y) (hy : y.isSome = true) : ∃ x, cs = [.int q x] ∧ (Lit.int q x).wf = true := by
  cases y with
  | none => cases hy
  | some y =>
    obtain ⟨x, e, _, hw⟩ := DataW.trod_int ht hf
    exact ⟨x, e, hw⟩
theorem some_at {α : Type} {l : List α} {i : Nat} (h : i < l.length) : (l[i]?).isSome = true := by simp [h]
theorem open_eds {v : Value} {d : DataW H} {p : List MemPlace} {r : Reach} {b0 : Nat} (hv : Value.okWide Try.prog W r b0 22 v) (h : DataW.Trod enc Try.prog W 0 (fun _ => true) true 22 v d p) :
    ∃ xs : List Ed, SS cEd 2 W W.heap.size v xs ∧ ∀ x ∈ xs, x.Ok := by
  refine open_SS cEd Ed.Ok Try.underlying22 cEdg (by omega) (fun cs n y hl hy => ?_) hv h
  match cs, hl with
  | [c0, c1], _ =>
    obtain ⟨ys, m, _, _, _, hyl, hg⟩ := DataW.trod_struct Try.underlying35 hy
    have h0 := hg 0 _ rfl
    have h1 := hg 1 _ rfl
    simp [cU] at h0 h1 hyl
    obtain ⟨x0, e0, w0⟩ := one_int (o := 0) Try.underlying23 h0 (some_at (by omega))
    obtain ⟨x1, e1, w1⟩ := one_int (o := 0) Try.underlying23 h1 (some_at (by omega))
    injection e0 with e0
    injection e1 with e1
    subst e0 e1
    exact ⟨⟨x0, x1⟩, rfl, ku_ok.1 w0, ku_ok.1 w1⟩
end
theorem ss_lit (w : World) (xs : List Ed) (h : xs.length ≤ 1000) : SS cEd 2 (w.alloc (.cells (xs.flatMap cEd).toArray 35)) (w.heap.size + 1) (.slice (some ⟨w.heap.size, 0, none⟩) xs.length xs.length) xs := by
  refine ⟨_, _, rfl, Nat.le_refl _, by unfold maxLen; omega, fun i x hx => ⟨w.heap.size, 0, rfl, by omega, fun j u hu => ?_⟩⟩
  rw [cell_new, Nat.zero_add]
  have hj : j < 2 := (List.getElem?_eq_some_iff.1 hu).1
  have H : ∀ (l : List Ed) (i : Nat), l[i]? = some x → (l.flatMap cEd)[i * 2 + j]? = some u := by
    intro l
    induction l with
    | nil => intro i h; simp at h
    | cons y l ih =>
      intro i h
      cases i with
      | zero =>
        simp at h
        subst h
        rw [List.flatMap_cons, List.getElem?_append_left (by simp [cEd]; omega), Nat.zero_mul, Nat.zero_add]
        exact hu
      | succ i =>
        rw [List.flatMap_cons, List.getElem?_append_right (by simp [cEd]; omega)]
        have := ih i (by simpa using h)
        rw [← this]
        congr 1
        simp [cEd]; omega
  simpa using H xs i hx
theorem cyc_a : cyc [⟨1, 3⟩, ⟨1, 2⟩, ⟨2, 1⟩, ⟨3, 1⟩] 1 = [1, 2] := by decide +kernel
theorem cyc_b : cyc [⟨1, 3⟩, ⟨1, 2⟩, ⟨2, 1⟩, ⟨3, 1⟩] 4 = [] := by decide +kernel
theorem cyc_c : cyc [⟨5, 5⟩] 5 = [5] := by decide +kernel
set_option maxRecDepth 100000 in
set_option maxHeartbeats 4000000 in
theorem known_any (w : World) : Calls Try.prog 8 #[] w fun e w' => e = .returned (.bool true) ∧ Below w.heap.size w w' := by
  have hok : ∀ e ∈ ([⟨1, 3⟩, ⟨1, 2⟩, ⟨2, 1⟩, ⟨3, 1⟩] : List Ed), e.Ok := by
    intro e he
    simp only [List.mem_cons, List.not_mem_nil, or_false] at he
    rcases he with rfl | rfl | rfl | rfl <;> exact ⟨⟨by decide, by decide⟩, by decide, by decide⟩
  have hok5 : ∀ e ∈ ([⟨5, 5⟩] : List Ed), e.Ok := by
    intro e he
    simp only [List.mem_cons, List.not_mem_nil, or_false] at he
    subst he; exact ⟨⟨by decide, by decide⟩, by decide, by decide⟩
  have S1 : SS cEd 2 (w.alloc (.cells #[.int .u32 1, .int .u32 3, .int .u32 1, .int .u32 2, .int .u32 2, .int .u32 1, .int .u32 3, .int .u32 1] 35)) (w.alloc (.cells #[.int .u32 1, .int .u32 3, .int .u32 1, .int .u32 2, .int .u32 2, .int .u32 1, .int .u32 3, .int .u32 1] 35)).heap.size (.slice (some ⟨w.heap.size, 0, none⟩) 4 4) [⟨1, 3⟩, ⟨1, 2⟩, ⟨2, 1⟩, ⟨3, 1⟩] :=
    (ss_lit w [⟨1, 3⟩, ⟨1, 2⟩, ⟨2, 1⟩, ⟨3, 1⟩] (by decide)).more (by simp)
  have HS := Lib.hid S1
  have HB1 := Lib.hid (new_ (Below.refl w.heap.size w) (.cells #[.int .u32 1, .int .u32 3, .int .u32 1, .int .u32 2, .int .u32 2, .int .u32 1, .int .u32 3, .int .u32 1] 35))
  obtain ⟨w1, hw1⟩ : ∃ w1, w1 = w.alloc (.cells #[.int .u32 1, .int .u32 3, .int .u32 1, .int .u32 2, .int .u32 2, .int .u32 1, .int .u32 3, .int .u32 1] 35) := ⟨_, rfl⟩
  rw [← hw1] at HS HB1
  have hw2 := hw1.symm
  have C1 := Lib.hid (cycle_any w1 _ _ 1 HS.out hok (by decide) (by decide))
  have C2 := Lib.hid (fun W (hb : Below w1.heap.size w1 W) => cycle_any W _ _ 4 ((HS.out.below hb).more hb.size) hok (by decide) (by decide))
  have C3 := Lib.hid (fun W => cycle_any (W.alloc (.cells #[.int .u32 5, .int .u32 5] 35)) (.slice (some ⟨W.heap.size, 0, none⟩) 1 1) _ 5 ((ss_lit W [⟨5, 5⟩] (by decide)).more (by simp)) hok5 (by decide) (by decide))
  rw [cyc_a] at C1
  rw [cyc_b] at C2
  rw [cyc_c] at C3
  clear S1 hw1 hok hok5
  go_enter Try.func8, Try.ntmps8
  go_wp2_with fail
  clear hw2
  (with_reducible refine C1.out.mono ?_)
  rintro e w2 ⟨⟨a, rfl, ha⟩, hb2⟩
  obtain ⟨A1, c1, rfl, _, _⟩ := ha.form
  have HA := Lib.hid ha
  have HB2 := Lib.hid hb2
  clear ha hb2
  go_wp2_with fail
  (with_reducible refine (C2.out _ HB2.out).mono ?_)
  rintro e w3 ⟨⟨b, rfl, hb⟩, hb3⟩
  obtain ⟨A2, c2, rfl, _, _⟩ := hb.form
  have HB3 := Lib.hid hb3
  clear hb hb3
  go_wp2_with fail
  (with_reducible refine (C3.out _).mono ?_)
  rintro e w4 ⟨⟨c, rfl, hc⟩, hb4⟩
  obtain ⟨A3, c3, rfl, _, _⟩ := hc.form
  have HB4 := Lib.hid (show Below w3.heap.size w3 w4 from step_ (new_ (Below.refl _ _) _) hb4)
  have HA4 := Lib.hid ((HA.out.below HB3.out).below (HB4.out.mono HB3.out.size))
  clear hc hb4
  have HA5 : IR w4 w2.heap.size .u32 (.slice A1 2 c1) [1, 2] := HA4.out
  have CV := Lib.hid (victim_any w4 _ _ [1, 2] HA5 (by decide) (by decide))
  rw [show top [1, 2] = 2 by decide] at CV
  go_wp2_with fail
  (with_reducible refine CV.out.mono ?_)
  rintro e w5 ⟨rfl, rfl⟩
  obtain ⟨g, off, rfl, _, k0⟩ := HA4.out.index 0 (by decide)
  obtain ⟨g', off', e, _, k1⟩ := HA4.out.index 1 (by decide)
  injection e with e
  injection e with e1 e2
  subst e1 e2
  rw [Nat.add_zero] at k0
  go_wp2
  go_ret
  exact ⟨rfl, ((HB1.out.trans (HB2.out.mono HB1.out.size)).trans (HB3.out.mono (Nat.le_trans HB1.out.size HB2.out.size))).trans (HB4.out.mono (Nat.le_trans (Nat.le_trans HB1.out.size HB2.out.size) HB3.out.size))⟩
theorem way_at {G : Int → List Int} : ∀ {r : List Int} {i : Nat}, Ring.Way G r → i + 1 < r.length → r.getD (i + 1) 0 ∈ G (r.getD i 0)
  | [], i, _, h => by simp at h
  | [a], i, _, h => by simp at h
  | a :: b :: r, 0, hw, h => by simpa using hw.1
  | a :: b :: r, i + 1, hw, h => by
    have := way_at (r := b :: r) (i := i) hw.2 (by simpa using h)
    simpa using this
theorem cyc_facts {l : List Ed} {fr : Int} (h : cyc l fr ≠ []) : (∀ i, i < (cyc l fr).length → (cyc l fr).getD ((i + 1) % (cyc l fr).length) 0 ∈ tos l ((cyc l fr).getD i 0)) ∧ (∀ i k, k < i → i < (cyc l fr).length → (cyc l fr).getD i 0 ≠ (cyc l fr).getD k 0) ∧ (cyc l fr).getD 0 0 = fr := by
  obtain ⟨h1, h2⟩ := ring_is h
  have e0 : (cyc l fr).getD 0 0 = fr := by
    have h3 : (cyc l fr).head? = some fr := h2
    cases e : cyc l fr with
    | nil => exact absurd e h
    | cons a r => rw [e] at h3; simpa using h3
  refine ⟨fun i hi => ?_, fun i k hk hi e => ?_, e0⟩
  · rw [← srt_mem]
    by_cases hl : i + 1 < (cyc l fr).length
    · rw [Nat.mod_eq_of_lt hl]
      exact way_at h1.way hl
    · have e1 : i + 1 = (cyc l fr).length := by omega
      rw [e1, Nat.mod_self, e0]
      obtain ⟨z, hz, hf⟩ := h1.back
      have hz' : (cyc l fr).getLast? = some z := hz
      rw [List.getLast?_eq_getElem?] at hz'
      have : (cyc l fr).getD i 0 = z := by
        rw [List.getD_eq_getElem?_getD, show i = (cyc l fr).length - 1 by omega, hz']
        rfl
      rw [this]
      exact hf
  · have hnd : (cyc l fr).Nodup := h1.nodup
    have hk' : k < (cyc l fr).length := by omega
    rw [List.getD_eq_getElem?_getD, List.getD_eq_getElem?_getD, List.getElem?_eq_getElem hi, List.getElem?_eq_getElem hk'] at e
    exact List.pairwise_iff_getElem.1 hnd k i hk' hi hk e.symm
theorem cyc_u32 {l : List Ed} {fr : Int} (hl : ∀ e ∈ l, e.Ok) (hf : U32 fr) : ∀ x ∈ cyc l fr, U32 x := by
  by_cases h : cyc l fr = []
  · rw [h]; intro x hx; cases hx
  · intro x hx
    obtain ⟨i, hi, rfl⟩ := mem_getD hx
    obtain ⟨h1, _, h3⟩ := cyc_facts h
    cases i with
    | zero => rw [h3]; exact hf
    | succ i =>
      have h4 := h1 i (by omega)
      rw [Nat.mod_eq_of_lt hi] at h4
      obtain ⟨e, he, e2⟩ := List.mem_map.1 (tos_us h4)
      rw [← e2]
      exact (hl e he).2
theorem cyc_len (l : List Ed) (fr : Int) : (cyc l fr).length ≤ l.length + 1 := by
  have h := dfs_len (srt l) fr (l.length + 1) [] fr (fun _ => false)
  unfold cyc ring
  split
  · simpa using h
  · simp
/-- are two lists of numbers alike? -/
theorem words_any (w : World) (B : Nat) (a b : Value) (xs ys : List Int) (ha : IR w B .u32 a xs) (hb : IR w B .u32 b ys) (hl : xs.length ≤ 100000) (hl2 : ys.length ≤ 100000) :
    Calls Try.prog 13 #[a, b] w fun e w' => e = .returned (.bool (decide (xs = ys))) ∧ Below w.heap.size w w' := by
  obtain ⟨A1, c1, rfl, _, _⟩ := ha.form
  obtain ⟨A2, c2, rfl, _, _⟩ := hb.form
  obtain ⟨F, hF⟩ : ∃ F, F = decide (xs = ys) := ⟨_, rfl⟩
  rw [← hF]
  have HF := Lib.hid hF
  have HA := Lib.hid ha
  have HB := Lib.hid hb
  obtain ⟨n, hn⟩ : ∃ n, n = xs.length := ⟨_, rfl⟩
  obtain ⟨m, hm⟩ : ∃ m, m = ys.length := ⟨_, rfl⟩
  rw [← hn, ← hm]
  have HN := Lib.hid (⟨hn, hm⟩ : n = xs.length ∧ m = ys.length)
  have bn : (n : Int) ≤ 100000 := by omega
  have bm : (m : Int) ≤ 100000 := by omega
  clear hF ha hb hl hl2 hn hm
  by_cases hnm : n = m
  · subst hnm
    go_enter Try.func13, Try.ntmps13
    go_wp2
    go_loopw [5] (fun s wr => ∃ k : Nat, k ≤ n ∧ s = .int .i64 k ∧ Hid (xs.take k = ys.take k) ∧ Hid (Below w.heap.size w wr ∧ ∃ d, wr = w.drewN d)) (fun s _ => n - (intOf s).toNat)
    case atStart => exact ⟨0, Nat.zero_le _, rfl, Lib.hid rfl, Lib.hid ⟨Below.refl _ _, 0, rfl⟩⟩
    case round =>
      obtain ⟨k, hk, rfl, HT, HW⟩ := hrel
      obtain ⟨w1, rfl⟩ : ∃ w1, w1 = wr := ⟨wr, rfl⟩
      by_cases hl : k < n
      · have d1 : decide ((k : Int) < (n : Int)) = true := by simp; omega
        have d1' : decide (k < n) = true := by simp; omega
        have bk : (k : Int) ≤ 100000 := by omega
        obtain ⟨k', hk'⟩ : ∃ k', k' = k + 1 := ⟨_, rfl⟩
        have sk : (k : Int) + 1 = (k' : Int) := by omega
        have HKK := Lib.hid (⟨hk', hl⟩ : k' = k + 1 ∧ k < n)
        have hA1 : IR w1 B .u32 (.slice A1 n c1) xs := by rw [HN.out.1]; obtain ⟨d, e⟩ := HW.out.2; rw [e]; exact HA.out
        have hB1 : IR w1 B .u32 (.slice A2 n c2) ys := by rw [HN.out.2]; obtain ⟨d, e⟩ := HW.out.2; rw [e]; exact HB.out
        obtain ⟨g1, o1, rfl, _, q1⟩ := hA1.index k hl
        obtain ⟨g2, o2, rfl, _, q2⟩ := hB1.index k hl
        have k1 := fun d => (show (w1.drewN d).cell? ⟨g1, o1 + k, none⟩ = _ from q1)
        have k2 := fun d => (show (w1.drewN d).cell? ⟨g2, o2 + k, none⟩ = _ from q2)
        obtain ⟨x, hx⟩ : ∃ x, xs.getD k 0 = x := ⟨_, rfl⟩
        obtain ⟨y, hy⟩ : ∃ y, ys.getD k 0 = y := ⟨_, rfl⟩
        rw [hx] at k1
        rw [hy] at k2
        have HX := Lib.hid hx
        have HY := Lib.hid hy
        clear hA1 hB1 q1 q2 hx hy hk hk'
        by_cases e : x = y
        · subst e
          have dx : decide (x = x) = true := by simp
          go_upto_region 6 with fail
          go_quiet (fail)
          go_wp2
          go_roundw
          case rel => exact ⟨k', by have := HKK.out; omega, rfl, Lib.hid (by
            rw [HKK.out.1, List.take_add_one, List.take_add_one, HT.out]
            congr 1
            have h1 := HX.out
            have h2 := HY.out
            have h3 : k < xs.length := by have := HKK.out; have := HN.out; omega
            have h4 : k < ys.length := by have := HKK.out; have := HN.out; omega
            simp only [List.getD_eq_getElem?_getD, List.getElem?_eq_getElem h3, List.getElem?_eq_getElem h4, Option.getD_some] at h1 h2
            rw [List.getElem?_eq_getElem h3, List.getElem?_eq_getElem h4, h1, h2]), Lib.hid ⟨below_drewN HW.out.1 nq, by obtain ⟨d, e⟩ := HW.out.2; exact ⟨d + nq, by rw [e, World.drewN_drewN]⟩⟩⟩
          case measure => simp [intOf]; have := HKK.out; omega
        · have dx : decide (x = y) = false := by simp; exact e
          have dx2 : (x == y) = false := by simp; exact e
          have FF := Lib.hid (show F = false by
            rw [HF.out]
            refine decide_eq_false fun h => e ?_
            rw [← HX.out, ← HY.out, h])
          clear e
          go_upto_region 6 with fail
          go_quiet (fail)
          go_wp2
          go_ret
          exact ⟨by rw [FF.out]; rfl, below_drewN HW.out.1 nq⟩
      · have d1 : decide ((k : Int) < (n : Int)) = false := by simp; omega
        have d1' : decide (k < n) = false := by simp; omega
        obtain rfl : k = n := by omega
        have FF := Lib.hid (show F = true by
          rw [HF.out]
          refine decide_eq_true ?_
          have h := HT.out
          have h2 := HN.out.2
          have h3 := HN.out.1
          rw [List.take_of_length_le (by omega), List.take_of_length_le (by omega)] at h
          exact h)
        go_wp2
        go_ret
        exact ⟨by rw [FF.out]; rfl, HW.out.1⟩
  · have d1 : decide ((n : Int) = (m : Int)) = false := by simp; omega
    have d1' : decide (n = m) = false := by simp; omega
    have d2 : ((n : Int) == (m : Int)) = false := by simp; omega
    have FF := Lib.hid (show F = false by
      rw [HF.out]
      refine decide_eq_false fun h => hnm ?_
      rw [HN.out.1, HN.out.2, h])
    clear hnm
    go_enter Try.func13, Try.ntmps13
    go_wp2
    go_ret
    exact ⟨by rw [FF.out]; rfl, Below.refl _ _⟩
/-- is there an edge? -/
theorem edge_any (w : World) (v : Value) (xs : List Ed) (a b : Int) (hv : SS cEd 2 w w.heap.size v xs) (hl : xs.length ≤ 100000) :
    Calls Try.prog 15 #[v, .int .u32 a, .int .u32 b] w fun e w' => e = .returned (.bool (decide (b ∈ tos xs a))) ∧ w = w' := by
  obtain ⟨A, c, rfl, _, _⟩ := hv.form
  obtain ⟨F, hF⟩ : ∃ F, F = decide (b ∈ tos xs a) := ⟨_, rfl⟩
  rw [← hF]
  have HF := Lib.hid hF
  have HV := Lib.hid hv
  obtain ⟨n, hn⟩ : ∃ n, n = xs.length := ⟨_, rfl⟩
  rw [← hn]
  have HN := Lib.hid hn
  have bn : (n : Int) ≤ 100000 := by omega
  clear hF hv hl hn
  go_enter Try.func15, Try.ntmps15
  go_wp2
  go_loopw [7] (fun s wr => ∃ k : Nat, k ≤ n ∧ s = .int .i64 k ∧ Hid (b ∉ tos (xs.take k) a) ∧ w = wr) (fun s _ => n - (intOf s).toNat)
  case atStart => exact ⟨0, Nat.zero_le _, rfl, Lib.hid (by simp [tos]), rfl⟩
  case round =>
    obtain ⟨k, hk, rfl, HT, rfl⟩ := hrel
    by_cases hl : k < n
    · have d1 : decide ((k : Int) < (n : Int)) = true := by simp; omega
      have d1' : decide (k < n) = true := by simp; omega
      have bk : (k : Int) ≤ 100000 := by omega
      obtain ⟨k', hk'⟩ : ∃ k', k' = k + 1 := ⟨_, rfl⟩
      have sk : (k : Int) + 1 = (k' : Int) := by omega
      have HKK := Lib.hid (⟨hk', hl⟩ : k' = k + 1 ∧ k < n)
      obtain ⟨e, he⟩ : ∃ e, xs[k]? = some e := ⟨_, List.getElem?_eq_getElem (by have := HN.out; omega)⟩
      obtain ⟨g, o, hA, _, hcell⟩ := HV.out.at_ he
      subst hA
      have k1 : w.cell? ⟨g, o + k * 2, none⟩ = some (.int .u32 e.a) := by simpa using hcell 0 _ rfl
      have k2 : w.cell? ⟨g, o + k * 2 + 1, none⟩ = some (.int .u32 e.b) := by simpa using hcell 1 _ rfl
      have HE := Lib.hid he
      obtain ⟨ea, eb⟩ := e
      clear hcell he hk hk'
      by_cases h1 : ea = a
      · subst h1
        have dx : decide (ea = ea) = true := by simp
        by_cases h2 : eb = b
        · subst h2
          have dy : decide (eb = eb) = true := by simp
          have FF := Lib.hid (show F = true by
            rw [HF.out]
            refine decide_eq_true ?_
            unfold tos
            exact List.mem_map.2 ⟨⟨ea, eb⟩, List.mem_filter.2 ⟨List.mem_of_getElem? HE.out, by simp⟩, rfl⟩)
          go_wp2
          go_ret
          exact ⟨by rw [FF.out]; rfl, rfl⟩
        · have dy : decide (eb = b) = false := by simp; exact h2
          have dy2 : (eb == b) = false := by simp; exact h2
          have H2 := Lib.hid h2
          clear h2
          go_wp2
          go_roundw
          case rel => exact ⟨k', by have := HKK.out; omega, rfl, Lib.hid (by
            rw [HKK.out.1, List.take_add_one, HE.out]
            show b ∉ tos (xs.take k ++ [⟨ea, eb⟩]) ea
            rw [tos_snoc_same _ ⟨ea, eb⟩, List.mem_append]
            rintro (h | h)
            · exact HT.out h
            · simp at h; exact H2.out h.symm), trivial⟩
          case measure => simp [intOf]; have := HKK.out; omega
      · have dx : decide (ea = a) = false := by simp; exact h1
        have dx2 : (ea == a) = false := by simp; exact h1
        have H1 := Lib.hid h1
        clear h1
        go_wp2
        go_roundw
        case rel => exact ⟨k', by have := HKK.out; omega, rfl, Lib.hid (by
          rw [HKK.out.1, List.take_add_one, HE.out]
          show b ∉ tos (xs.take k ++ [⟨ea, eb⟩]) a
          rw [tos_snoc_other _ ⟨ea, eb⟩ (fun e => H1.out e.symm)]
          exact HT.out), trivial⟩
        case measure => simp [intOf]; have := HKK.out; omega
    · have d1 : decide ((k : Int) < (n : Int)) = false := by simp; omega
      have d1' : decide (k < n) = false := by simp; omega
      obtain rfl : k = n := by omega
      have FF := Lib.hid (show F = false by
        rw [HF.out]
        refine decide_eq_false ?_
        have h := HT.out
        rwa [List.take_of_length_le (by have := HN.out; omega)] at h)
      go_wp2
      go_ret
      exact ⟨by rw [FF.out]; rfl, rfl⟩
end Go.Proofs.Yteldfoplhcnljaa.Knot
