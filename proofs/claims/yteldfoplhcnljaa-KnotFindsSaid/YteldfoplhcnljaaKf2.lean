import Derived.Test.YteldfoplhcnljaaKf0
import Derived.Test.YteldfoplhcnljaaKf1
/- The plain answer: whom x waits for, in order, each once. -/
namespace Go.Proofs.Yteldfoplhcnljaa.Knot
open Go.ChangeShapes Go.WideShapes Go.ChangeAt Go.RowKit Go.IntWalk Go.Proofs.Mem Go.Proofs.Ring Srt
set_option linter.unusedVariables false
set_option linter.unusedSimpArgs false
/-- r: the ends of the first i edges out of x, rising -/
structure Nx (l : List Ed) (i : Nat) (x : Int) (r : List Int) : Prop where
  rise : r.Pairwise (· < ·)
  mem : ∀ n, n ∈ r ↔ n ∈ tos (l.take i) x
  len : r.length ≤ i
theorem Nx.skip {l : List Ed} {i : Nat} {x : Int} {r : List Int} {e : Ed} (h : Nx l i x r) (he : l[i]? = some e) (hn : e.a ≠ x) : Nx l (i + 1) x r :=
  ⟨h.rise, fun n => by rw [h.mem, tos_take he, if_neg hn], by have := h.len; omega⟩
theorem Nx.same {l : List Ed} {i : Nat} {x : Int} {r : List Int} {e : Ed} (h : Nx l i x r) (he : l[i]? = some e) (hn : e.a = x) (hm : e.b ∈ r) : Nx l (i + 1) x r :=
  ⟨h.rise, fun n => by
    rw [tos_take he, if_pos hn, List.mem_append, List.mem_singleton, ← h.mem]
    exact ⟨.inl, fun h1 => h1.elim id fun h2 => h2 ▸ hm⟩, by have := h.len; omega⟩
theorem rise_take {r : List Int} {j : Nat} {b : Int} (hl : ∀ k, k < j → k < r.length → r.getD k 0 < b) : ∀ y ∈ r.take j, y < b := fun y hy => by
  obtain ⟨k, hk, e⟩ := List.getElem_of_mem hy
  rw [List.length_take] at hk
  have := hl k (by omega) (by omega)
  rw [List.getElem_take] at e
  rw [← e]
  simpa [List.getD_eq_getElem?_getD, show k < r.length by omega] using this
theorem rise_drop {r : List Int} {j : Nat} {b : Int} (hr : r.Pairwise (· < ·)) (hh : j < r.length → b < r.getD j 0) : ∀ y ∈ r.drop j, b < y := fun y hy => by
  obtain ⟨k, hk, e⟩ := List.getElem_of_mem hy
  rw [List.length_drop] at hk
  rw [List.getElem_drop] at e
  have h1 := hh (by omega)
  have h2 := srt_getD (hr.imp (fun h => Int.le_of_lt h)) (i := j) (j := j + k) (by omega) (by omega)
  have h3 : r.getD (j + k) 0 = y := by rw [← e]; simp [List.getD_eq_getElem?_getD, show j + k < r.length by omega]
  omega
theorem Nx.ins {l : List Ed} {i j : Nat} {x : Int} {r : List Int} {e : Ed} (h : Nx l i x r) (he : l[i]? = some e) (hn : e.a = x) (hj : j ≤ r.length)
    (hl : ∀ k, k < j → k < r.length → r.getD k 0 < e.b) (hh : j < r.length → e.b < r.getD j 0) : Nx l (i + 1) x (r.take j ++ [e.b] ++ r.drop j) := by
  have h1 := rise_take hl
  have h2 := rise_drop h.rise hh
  refine ⟨?_, fun n => ?_, ?_⟩
  · rw [List.pairwise_append, List.pairwise_append]
    refine ⟨⟨h.rise.sublist (List.take_sublist _ _), List.pairwise_singleton _ _, fun a ha b hb => by rw [List.mem_singleton.1 hb]; exact h1 a ha⟩, h.rise.sublist (List.drop_sublist _ _), fun a ha b hb => ?_⟩
    rcases List.mem_append.1 ha with h3 | h3
    · exact Int.lt_trans (h1 a h3) (h2 b hb)
    · rw [List.mem_singleton.1 h3]; exact h2 b hb
  · rw [tos_take he, if_pos hn, List.mem_append, List.mem_append, List.mem_append, List.mem_singleton, ← h.mem]
    conv => rhs; rw [← List.take_append_drop j r, List.mem_append]
    constructor
    · rintro ((h3 | h3) | h3)
      · exact .inl (.inl h3)
      · exact .inr h3
      · exact .inl (.inr h3)
    · rintro ((h3 | h3) | h3)
      · exact .inl (.inl h3)
      · exact .inr h3
      · exact .inl (.inr h3)
  · rw [List.length_append, List.length_append, List.length_take, List.length_drop, List.length_singleton]
    have := h.len
    omega
theorem ir_take {w : World} {B : Nat} {A : Option Addr} {c n j : Nat} {r : List Int} (h : IR w B .u32 (.slice A n c) r) (hj : j ≤ n) : IR w B .u32 (.slice A j c) (r.take j) := by
  obtain ⟨A', c', e, h2, h3, h4, h5⟩ := h
  injection e with e1 e2 e3
  subst e1 e2 e3
  have hl : (r.take j).length = j := by rw [List.length_take]; omega
  refine ⟨A, c, by rw [hl], by omega, h3, h4, fun k hk => ?_⟩
  rw [hl] at hk
  obtain ⟨b, off, e, hb, hc⟩ := h5 k (by omega)
  refine ⟨b, off, e, hb, ?_⟩
  rw [hc]
  simp [List.getD_eq_getElem?_getD, List.getElem?_take, hk]
theorem ir_drop {w : World} {B g o : Nat} {c n j : Nat} {r : List Int} (h : IR w B .u32 (.slice (some ⟨g, o, none⟩) n c) r) (hj : j ≤ n) : IR w B .u32 (.slice (some ⟨g, o + j, none⟩) (n - j) (c - j)) (r.drop j) := by
  obtain ⟨A', c', e, h2, h3, h4, h5⟩ := h
  injection e with e1 e2 e3
  subst e1 e2 e3
  refine ⟨_, _, by rw [List.length_drop], by rw [List.length_drop]; omega, by omega, (fun h => by cases h), fun k hk => ?_⟩
  rw [List.length_drop] at hk
  obtain ⟨b, off, e, hb, hc⟩ := h5 (j + k) (by omega)
  injection e with e
  injection e with e1 e2
  subst e1 e2
  refine ⟨g, o + j, rfl, hb, ?_⟩
  rw [Nat.add_assoc, hc]
  simp [List.getD_eq_getElem?_getD]
theorem ir_none {w : World} {B : Nat} {ad : Addr} {n c : Nat} {r : List Int} (hr : r.length = 0) (hn : n = 0) (hc : c ≤ maxLen) : IR w B .u32 (.slice (some ad) n c) r := by
  subst hn
  exact ⟨some ad, c, by rw [hr], by omega, hc, (fun h => by cases h), fun k hk => by omega⟩
set_option maxRecDepth 100000 in
set_option maxHeartbeats 16000000 in
theorem next_any (w : World) (v : Value) (xs : List Ed) (x : Int) (hv : SS cEd 2 w w.heap.size v xs) (hl : xs.length ≤ 500) :
    Calls Try.prog 20 #[v, .int .u32 x] w fun e w' => (∃ u, e = .returned u ∧ IR w' w'.heap.size .u32 u (nx xs x)) ∧ Below w.heap.size w w' := by
  obtain ⟨j0, hj0, hj1, hj2, hj3⟩ := info_parts u32_info
  obtain ⟨A, c, rfl, hlc, hcm⟩ := hv.form
  obtain ⟨N, hN⟩ : ∃ N, N = xs.length := ⟨_, rfl⟩
  rw [← hN] at hv ⊢
  have HV := Lib.hid hv
  have HN := Lib.hid (⟨hN, hl⟩ : N = xs.length ∧ xs.length ≤ 500)
  have bN : (N : Int) ≤ 500 := by omega
  clear hv hlc hcm hN hl
  go_enter Try.func20, Try.ntmps20
  go_wp2
  go_loopw [5, 6] (fun so si wr => ∃ (i : Nat) (Ao : Option Addr) (cp SL : Nat) (r : List Int), i ≤ N ∧ so = .slice Ao SL cp ∧ SL = r.length ∧ si = .int .i64 i ∧ ((Ao = none ∧ cp = 0) ∨ ∃ g o, Ao = some ⟨g, o, none⟩) ∧ Hid (Nx xs i x r) ∧ Hid (IR wr wr.heap.size .u32 (.slice Ao SL cp) r) ∧ Hid (Below w.heap.size w wr)) (fun _ si _ => N - (intOf si).toNat)
  case atStart => exact ⟨0, none, 0, 0, [], Nat.zero_le _, rfl, rfl, rfl, .inl ⟨rfl, rfl⟩, Lib.hid ⟨List.Pairwise.nil, by simp [tos], Nat.le_refl _⟩, Lib.hid (IR.nil _ _ _), Lib.hid (Below.refl _ _)⟩
  case round =>
    obtain ⟨i, Ao, cp, SL, r, hi, rfl, hSL, rfl, HAo, HNx, HI, HW⟩ := hrel
    have HAO := Lib.hid HAo
    clear HAo
    obtain ⟨w3, rfl⟩ : ∃ w3, w3 = wr := ⟨wr, rfl⟩
    have bi : (i : Int) ≤ 500 := by omega
    by_cases hin : i < N
    · have d1 : decide ((i : Int) < (N : Int)) = true := by simp; omega
      have d1' : decide (i < N) = true := by simp; omega
      obtain ⟨i', hi'⟩ : ∃ i', i' = i + 1 := ⟨_, rfl⟩
      have si : (i : Int) + 1 = (i' : Int) := by omega
      obtain ⟨e, he⟩ : ∃ e, xs[i]? = some e := ⟨_, List.getElem?_eq_getElem (by have := HN.out; omega)⟩
      obtain ⟨ge, oe, hA, hge, hcell⟩ := HV.out.at_ he
      subst hA
      have q1 : w3.cell? ⟨ge, oe + i * 2, none⟩ = some (.int .u32 e.a) := by rw [HW.out.cell (p := ⟨ge, oe + i * 2, none⟩) hge]; simpa using hcell 0 _ rfl
      have q2 : w3.cell? ⟨ge, oe + i * 2 + 1, none⟩ = some (.int .u32 e.b) := by rw [HW.out.cell (p := ⟨ge, oe + i * 2 + 1, none⟩) hge]; simpa using hcell 1 _ rfl
      have e2 := fun d => (show (w3.drewN d).cell? ⟨ge, oe + i * 2 + 1, none⟩ = _ from q2)
      have HII := Lib.hid (⟨hi', hin⟩ : i' = i + 1 ∧ i < N)
      have bSL : (SL : Int) ≤ 500 := by have := HNx.out.len; omega
      have HS := Lib.hid (show SL = r.length ∧ SL ≤ 500 by have := HNx.out.len; omega)
      have HE := Lib.hid he
      obtain ⟨ea, eb⟩ := e
      clear he hcell hi' hi hSL
      by_cases hax : ea = x
      · have dx : decide (ea = x) = true := by simp [hax]
        have dx2 : (ea != x) = false := by simp [hax]
        have HA := Lib.hid hax
        clear hax
        go_wp2
        go_loopw [7] (fun sj wr => ∃ j : Nat, j ≤ SL ∧ sj = .int .i64 j ∧ Hid (∀ k, k < j → k < r.length → r.getD k 0 < eb) ∧ ∃ d, wr = w3.drewN d) (fun sj _ => SL - (intOf sj).toNat)
        case atStart => exact ⟨0, Nat.zero_le _, rfl, Lib.hid (fun k hk => by omega), 0, rfl⟩
        case round =>
          obtain ⟨j, hjS, rfl, HLOW, d, hd⟩ := hrel
          obtain ⟨w4, rfl⟩ : ∃ w4, w4 = wr := ⟨wr, rfl⟩
          have bj : (j : Int) ≤ 500 := by omega
          have e3 : ∀ d', (w4.drewN d').cell? ⟨ge, oe + i * 2 + 1, none⟩ = some (.int .u32 eb) := fun d' => by rw [hd]; exact q2
          by_cases hjl : j < SL
          · have d3 : decide ((j : Int) < (SL : Int)) = true := by simp; omega
            have d3' : decide (j < SL) = true := by simp; omega
            obtain ⟨g, o, hA, _, q3⟩ := HI.out.index j hjl
            subst hA
            obtain ⟨y, hy⟩ : ∃ y, r.getD j 0 = y := ⟨_, rfl⟩
            rw [hy] at q3
            have e4 : ∀ d', (w4.drewN d').cell? ⟨g, o + j, none⟩ = some (.int .u32 y) := fun d' => by rw [hd]; exact q3
            by_cases hlt : y < eb
            · have d4 : decide (y < eb) = true := by simp; omega
              obtain ⟨j', hj'⟩ : ∃ j', j' = j + 1 := ⟨_, rfl⟩
              have sj : (j : Int) + 1 = (j' : Int) := by omega
              have HLOW2 := Lib.hid (show ∀ k, k < j' → k < r.length → r.getD k 0 < eb from fun k hk hk2 => by
                rcases Nat.lt_or_ge k j with h1 | h1
                · exact HLOW.out k h1 hk2
                · obtain rfl : k = j := by omega
                  rw [hy]; exact hlt)
              have HJ := Lib.hid (⟨hj', hjl⟩ : j' = j + 1 ∧ j < SL)
              have HD := Lib.hid hd
              clear hd hy hj' hjS hlt
              go_upto_region 7 with fail
              go_quiet (fail)
              go_wp2
              go_roundw
              case rel => exact ⟨j', by have := HJ.out; omega, rfl, HLOW2, d + nq, by rw [HD.out, World.drewN_drewN]⟩
              case measure => simp [intOf]; have := HJ.out; omega
            · have d4 : decide (y < eb) = false := by simp; omega
              have HY := Lib.hid hy
              have HD := Lib.hid hd
              by_cases heq : y = eb
              · have d5 : decide (y = eb) = true := by simp [heq]
                have d5' : (y == eb) = true := by simp [heq]
                have HM := Lib.hid (show eb ∈ r by rw [← heq, ← hy]; exact getD_mem (by have := HS.out; omega))
                clear hd hy hlt heq
                go_upto_region 7 with fail
                go_quiet (fail)
                revert nq
                intro na
                go_upto_region 9 with fail
                go_quiet (fail)
                have HW5 := Lib.hid (show Below w.heap.size w ((w4.drewN na).drewN nq) by rw [HD.out]; exact below_drewN (below_drewN (below_drewN HW.out d) _) _)
                go_wp2
                go_roundw
                case rel => exact ⟨i', _, cp, SL, r, by have := HII.out; omega, rfl, HS.out.1, rfl, .inr ⟨_, _, rfl⟩, by rw [HII.out.1]; exact Lib.hid (HNx.out.same HE.out HA.out HM.out), Lib.hid (by rw [HD.out]; exact HI.out), Lib.hid (by rw [HD.out]; exact below_drewN (below_drewN HW.out d) _)⟩
                case measure => simp [intOf]; have := HII.out; omega
              · have d5 : decide (y = eb) = false := by simp; exact heq
                have d5' : (y == eb) = false := by simp; exact heq
                have HHI : j < r.length → eb < r.getD j 0 := fun _ => by rw [hy]; omega
                clear hd hy hlt heq
                go_upto_region 7 with fail
                go_quiet (fail)
                revert nq
                intro na
                go_upto_region 9 with fail
                go_quiet (fail)
                have HW5 := Lib.hid (show Below w.heap.size w ((w4.drewN na).drewN nq) by rw [HD.out]; exact below_drewN (below_drewN (below_drewN HW.out d) _) _)
                have IR5 := Lib.hid (show IR ((w4.drewN na).drewN nq) ((w4.drewN na).drewN nq).heap.size .u32 (.slice (some ⟨g, o, none⟩) SL cp) r by rw [HD.out]; exact HI.out)
                have e5 : ((w4.drewN na).drewN nq).cell? ⟨ge, oe + i * 2 + 1, none⟩ = some (.int .u32 eb) := by rw [HD.out]; exact q2
                clear e2 e3 e4 q1 q2 q3 HI HW HD
                generalize (w4.drewN na).drewN nq = w5 at *
                have hI5 : IR w5 w5.heap.size .u32 (.slice (some ⟨g, o, none⟩) SL cp) r := IR5.out
                have hSC : SL ≤ cp := by obtain ⟨A', c', e, h2, _⟩ := hI5; injection e with e1 e2 e3; omega
                have hjc : j ≤ cp := by omega
                have hge5 : ge < w5.heap.size := Nat.lt_of_lt_of_le hge HW5.out.size
                have HT := Lib.hid (ir_take hI5 hjS)
                have HDr := Lib.hid (fun (W : World) (hb : Below w5.heap.size w5 W) => (ir_drop hI5 hjS).below hb)
                have hTL : (r.take j).length = j := by rw [List.length_take]; have := HS.out; omega
                have HTL := Lib.hid hTL
                have HNX := Lib.hid (Nx.ins HNx.out HE.out HA.out (j := j) (by have := HS.out; omega) HLOW.out HHI)
                have hDL : (r.drop j).length ≤ 1000 := by rw [List.length_drop]; have := HS.out; omega
                have HDL := Lib.hid hDL
                have bjx : j ≤ 1000 := by have := HS.out; omega
                clear hI5 hTL hDL HHI
                go_wp2_with (first
                  | (at_builtin; refine wpList_append_all _ rfl _ _ _ rfl w5.heap.size 23 j0 .u32 4 Try.underlying24 hj0 hj1 hj2 hj3 (.slice none 0 0) 0 [] rfl ⟨rfl, .inl ⟨rfl, rfl⟩⟩ _ (.slice (some ⟨g, o, none⟩) j cp) (r.take j) rfl HT.out (by rw [HTL.out]; unfold maxLen; omega) (by rw [HTL.out]; omega) (Nat.le_refl _) ?_; intro v1 x1 hown1 hb1; rw [Nat.zero_add, List.nil_append, HTL.out] at hown1
                     have HB1 := Lib.hid hb1
                     have e6 : x1.cell? ⟨ge, oe + i * 2 + 1, none⟩ = some (.int .u32 eb) := (hb1.cell (p := ⟨ge, oe + i * 2 + 1, none⟩) hge5).trans e5
                     have HO1 := Lib.hid hown1
                     clear hown1 hb1)
                  | (at_builtin; refine wpList_push _ rfl _ _ _ rfl w5.heap.size 23 j0 .u32 4 Try.underlying24 hj0 hj1 hj2 hj3 v1 j (r.take j) rfl (own_below HO1.out (new_ (Below.refl _ _) (.cells #[.int .u32 eb] 23))) x1.heap.size eb rfl (cell_new _ _ _ 0) (by unfold maxLen; omega) (by omega) (by have := HB1.out.size; simp; omega) ?_; intro v2 x2 hown2 hb2
                     have HB2 := Lib.hid (HB1.out.trans ((new_ (Below.refl x1.heap.size x1) (.cells #[.int .u32 eb] 23)).mono HB1.out.size |>.trans hb2))
                     have HO2 := Lib.hid hown2
                     clear hown2 hb2 HO1 HB1)
                  | (at_builtin; refine wpList_append_all _ rfl _ _ _ rfl w5.heap.size 23 j0 .u32 4 Try.underlying24 hj0 hj1 hj2 hj3 v2 (j + 1) (r.take j ++ [eb]) rfl HO2.out _ _ (r.drop j) rfl (HDr.out _ HB2.out) (by have := HDL.out; unfold maxLen; omega) (by have := HDL.out; omega) HB2.out.size ?_; intro v3 x3 hown3 hb3
                     have HB3 := Lib.hid (HB2.out.trans hb3)
                     have HI3 := Lib.hid (IR.of_own hown3)
                     clear hown3 hb3 HO2 HB2))
                have HAA := (show ∀ (A3 : Option Addr) (n3 c3 : Nat), IR x3 x3.heap.size .u32 (.slice A3 n3 c3) (r.take j ++ [eb] ++ r.drop j) → ((A3 = none ∧ c3 = 0) ∨ ∃ g o, A3 = some ⟨g, o, none⟩) from fun A3 n3 c3 h => by
                  have hn : 0 < n3 := by
                    obtain ⟨_, _, e, _⟩ := h
                    injection e with e1 e2 e3
                    rw [e2]; simp; omega
                  obtain ⟨b, off, e, _⟩ := h.index 0 hn
                  exact .inr ⟨b, off, e⟩)
                obtain ⟨A3, c3, rfl, _, _⟩ := HI3.out.form
                replace HAA := HAA _ _ _ HI3.out
                go_roundw
                case rel => exact ⟨i', A3, c3, _, r.take j ++ [eb] ++ r.drop j, by have := HII.out; omega, rfl, rfl, rfl, HAA, by rw [HII.out.1]; exact HNX, HI3, Lib.hid (HW5.out.trans (HB3.out.mono HW5.out.size))⟩
                case measure => simp [intOf]; have := HII.out; omega
          · have d3 : decide ((j : Int) < (SL : Int)) = false := by simp; omega
            have d3' : decide (j < SL) = false := by simp; omega
            have HHI : j < r.length → eb < r.getD j 0 := fun h => by have := HS.out; omega
            have HD := Lib.hid hd
            clear hd hjl
            go_upto_region 7 with fail
            go_quiet (fail)
            revert nq
            intro na
            go_upto_region 9 with fail
            go_quiet (fail)
            have HW5 := Lib.hid (show Below w.heap.size w ((w4.drewN na).drewN nq) by rw [HD.out]; exact below_drewN (below_drewN (below_drewN HW.out d) _) _)
            have IR5 := Lib.hid (show IR ((w4.drewN na).drewN nq) ((w4.drewN na).drewN nq).heap.size .u32 (.slice Ao SL cp) r by rw [HD.out]; exact HI.out)
            have e5 : ((w4.drewN na).drewN nq).cell? ⟨ge, oe + i * 2 + 1, none⟩ = some (.int .u32 eb) := by rw [HD.out]; exact q2
            clear e2 e3 q1 q2 HW HD
            generalize (w4.drewN na).drewN nq = w5 at *
            rcases HAO.out with ⟨hAo, hcp⟩ | ⟨g, o, hAo⟩
            · -- nil
              subst hAo hcp
              obtain rfl : SL = 0 := by
                rcases Nat.eq_zero_or_pos SL with h | h
                · exact h
                · obtain ⟨_, _, e, _⟩ := HI.out.index 0 h; cases e
              obtain rfl : r = [] := List.eq_nil_of_length_eq_zero HS.out.1.symm
              obtain rfl : j = 0 := by omega
              have HNX := Lib.hid (Nx.ins HNx.out HE.out HA.out (j := 0) (Nat.zero_le _) HLOW.out HHI)
              have hge5 : ge < w5.heap.size := Nat.lt_of_lt_of_le hge HW5.out.size
              clear HHI
              go_wp2_with (first
                | (at_builtin; refine wpList_append_all _ rfl _ _ _ rfl w5.heap.size 23 j0 .u32 4 Try.underlying24 hj0 hj1 hj2 hj3 (.slice none 0 0) 0 [] rfl ⟨rfl, .inl ⟨rfl, rfl⟩⟩ _ (.slice none 0 0) [] rfl (IR.nil _ w5.heap.size _) (by simp [maxLen]) (by simp) (Nat.le_refl _) ?_; intro v1 x1 hown1 hb1; rw [Nat.zero_add, List.nil_append, List.length_nil] at hown1
                   have HB1 := Lib.hid hb1
                   have e6 : x1.cell? ⟨ge, oe + i * 2 + 1, none⟩ = some (.int .u32 eb) := (hb1.cell (p := ⟨ge, oe + i * 2 + 1, none⟩) hge5).trans e5
                   have HO1 := Lib.hid hown1
                   clear hown1 hb1)
                | (at_builtin; refine wpList_push _ rfl _ _ _ rfl w5.heap.size 23 j0 .u32 4 Try.underlying24 hj0 hj1 hj2 hj3 v1 0 [] rfl (own_below HO1.out (new_ (Below.refl _ _) (.cells #[.int .u32 eb] 23))) x1.heap.size eb rfl (cell_new _ _ _ 0) (by simp [maxLen]) (by simp) (by have := HB1.out.size; simp; omega) ?_; intro v2 x2 hown2 hb2
                   have HB2 := Lib.hid (HB1.out.trans ((new_ (Below.refl x1.heap.size x1) (.cells #[.int .u32 eb] 23)).mono HB1.out.size |>.trans hb2))
                   have HO2 := Lib.hid hown2
                   clear hown2 hb2 HO1 HB1)
                | (at_builtin; refine wpList_append_all _ rfl _ _ _ rfl w5.heap.size 23 j0 .u32 4 Try.underlying24 hj0 hj1 hj2 hj3 v2 (0 + 1) ([] ++ [eb]) rfl HO2.out _ (.slice none 0 0) [] rfl (IR.nil _ w5.heap.size _) (by simp [maxLen]) (by simp) HB2.out.size ?_; intro v3 x3 hown3 hb3
                   have HB3 := Lib.hid (HB2.out.trans hb3)
                   have HI3 := Lib.hid (IR.of_own hown3)
                   clear hown3 hb3 HO2 HB2))
              have HAA := (show ∀ (A3 : Option Addr) (n3 c3 : Nat), IR x3 x3.heap.size .u32 (.slice A3 n3 c3) ([] ++ [eb] ++ []) → ((A3 = none ∧ c3 = 0) ∨ ∃ g o, A3 = some ⟨g, o, none⟩) from fun A3 n3 c3 h => by
                have hn : 0 < n3 := by
                  obtain ⟨_, _, e, _⟩ := h
                  injection e with e1 e2 e3
                  rw [e2]; simp
                obtain ⟨b, off, e, _⟩ := h.index 0 hn
                exact .inr ⟨b, off, e⟩)
              obtain ⟨A3, c3, rfl, _, _⟩ := HI3.out.form
              replace HAA := HAA _ _ _ HI3.out
              go_roundw
              case rel => exact ⟨i', A3, c3, _, [] ++ [eb] ++ [], by have := HII.out; omega, rfl, rfl, rfl, HAA, by rw [HII.out.1]; exact HNX, HI3, Lib.hid (HW5.out.trans (HB3.out.mono HW5.out.size))⟩
              case measure => simp [intOf]; have := HII.out; omega
            · subst hAo
              by_cases hcj : cp = j
              · -- full
                obtain rfl : j = cp := hcj.symm
                have hI5 : IR w5 w5.heap.size .u32 (.slice (some ⟨g, o, none⟩) SL j) r := IR5.out
                have hSC : SL ≤ j := by obtain ⟨A', c', e, h2, _⟩ := hI5; injection e with e1 e2 e3; omega
                have hjc : j ≤ j := Nat.le_refl _
                have hge5 : ge < w5.heap.size := Nat.lt_of_lt_of_le hge HW5.out.size
                have HT := Lib.hid (ir_take hI5 hjS)
                have HDr := Lib.hid (fun (W : World) (hb : Below w5.heap.size w5 W) => (ir_drop hI5 hjS).below hb)
                have hTL : (r.take j).length = j := by rw [List.length_take]; have := HS.out; omega
                have HTL := Lib.hid hTL
                have HNX := Lib.hid (Nx.ins HNx.out HE.out HA.out (j := j) (by have := HS.out; omega) HLOW.out HHI)
                have hDL : (r.drop j).length ≤ 1000 := by rw [List.length_drop]; have := HS.out; omega
                have HDL := Lib.hid hDL
                have HD0 := Lib.hid (show (r.drop j).length = 0 by rw [List.length_drop]; have := HS.out; omega)
                have bjx : j ≤ 1000 := by have := HS.out; omega
                clear hI5 hTL hDL HHI
                go_wp2_with (first
                  | (at_builtin; refine wpList_append_all _ rfl _ _ _ rfl w5.heap.size 23 j0 .u32 4 Try.underlying24 hj0 hj1 hj2 hj3 (.slice none 0 0) 0 [] rfl ⟨rfl, .inl ⟨rfl, rfl⟩⟩ _ (.slice (some ⟨g, o, none⟩) j j) (r.take j) rfl HT.out (by rw [HTL.out]; unfold maxLen; omega) (by rw [HTL.out]; omega) (Nat.le_refl _) ?_; intro v1 x1 hown1 hb1; rw [Nat.zero_add, List.nil_append, HTL.out] at hown1
                     have HB1 := Lib.hid hb1
                     have e6 : x1.cell? ⟨ge, oe + i * 2 + 1, none⟩ = some (.int .u32 eb) := (hb1.cell (p := ⟨ge, oe + i * 2 + 1, none⟩) hge5).trans e5
                     have HO1 := Lib.hid hown1
                     clear hown1 hb1)
                  | (at_builtin; refine wpList_push _ rfl _ _ _ rfl w5.heap.size 23 j0 .u32 4 Try.underlying24 hj0 hj1 hj2 hj3 v1 j (r.take j) rfl (own_below HO1.out (new_ (Below.refl _ _) (.cells #[.int .u32 eb] 23))) x1.heap.size eb rfl (cell_new _ _ _ 0) (by unfold maxLen; omega) (by omega) (by have := HB1.out.size; simp; omega) ?_; intro v2 x2 hown2 hb2
                     have HB2 := Lib.hid (HB1.out.trans ((new_ (Below.refl x1.heap.size x1) (.cells #[.int .u32 eb] 23)).mono HB1.out.size |>.trans hb2))
                     have HO2 := Lib.hid hown2
                     clear hown2 hb2 HO1 HB1)
                  | (at_builtin; refine wpList_append_all _ rfl _ _ _ rfl w5.heap.size 23 j0 .u32 4 Try.underlying24 hj0 hj1 hj2 hj3 v2 (j + 1) (r.take j ++ [eb]) rfl HO2.out w5.heap.size (.slice (some ⟨g, o, none⟩) 0 0) (r.drop j) rfl (ir_none HD0.out rfl (Nat.zero_le _)) (by have := HDL.out; unfold maxLen; omega) (by have := HDL.out; omega) HB2.out.size ?_; intro v3 x3 hown3 hb3
                     have HB3 := Lib.hid (HB2.out.trans hb3)
                     have HI3 := Lib.hid (IR.of_own hown3)
                     clear hown3 hb3 HO2 HB2))
                have HAA := (show ∀ (A3 : Option Addr) (n3 c3 : Nat), IR x3 x3.heap.size .u32 (.slice A3 n3 c3) (r.take j ++ [eb] ++ r.drop j) → ((A3 = none ∧ c3 = 0) ∨ ∃ g o, A3 = some ⟨g, o, none⟩) from fun A3 n3 c3 h => by
                  have hn : 0 < n3 := by
                    obtain ⟨_, _, e, _⟩ := h
                    injection e with e1 e2 e3
                    rw [e2]; simp; omega
                  obtain ⟨b, off, e, _⟩ := h.index 0 hn
                  exact .inr ⟨b, off, e⟩)
                obtain ⟨A3, c3, rfl, _, _⟩ := HI3.out.form
                replace HAA := HAA _ _ _ HI3.out
                go_roundw
                case rel => exact ⟨i', A3, c3, _, r.take j ++ [eb] ++ r.drop j, by have := HII.out; omega, rfl, rfl, rfl, HAA, by rw [HII.out.1]; exact HNX, HI3, Lib.hid (HW5.out.trans (HB3.out.mono HW5.out.size))⟩
                case measure => simp [intOf]; have := HII.out; omega
              · -- not full
                have hI5 : IR w5 w5.heap.size .u32 (.slice (some ⟨g, o, none⟩) SL cp) r := IR5.out
                have hSC : SL ≤ cp := by obtain ⟨A', c', e, h2, _⟩ := hI5; injection e with e1 e2 e3; omega
                have hjc : j ≤ cp := by omega
                have hge5 : ge < w5.heap.size := Nat.lt_of_lt_of_le hge HW5.out.size
                have HT := Lib.hid (ir_take hI5 hjS)
                have HDr := Lib.hid (fun (W : World) (hb : Below w5.heap.size w5 W) => (ir_drop hI5 hjS).below hb)
                have hTL : (r.take j).length = j := by rw [List.length_take]; have := HS.out; omega
                have HTL := Lib.hid hTL
                have HNX := Lib.hid (Nx.ins HNx.out HE.out HA.out (j := j) (by have := HS.out; omega) HLOW.out HHI)
                have hDL : (r.drop j).length ≤ 1000 := by rw [List.length_drop]; have := HS.out; omega
                have HDL := Lib.hid hDL
                have bjx : j ≤ 1000 := by have := HS.out; omega
                clear hI5 hTL hDL HHI
                go_wp2_with (first
                  | (at_builtin; refine wpList_append_all _ rfl _ _ _ rfl w5.heap.size 23 j0 .u32 4 Try.underlying24 hj0 hj1 hj2 hj3 (.slice none 0 0) 0 [] rfl ⟨rfl, .inl ⟨rfl, rfl⟩⟩ _ (.slice (some ⟨g, o, none⟩) j cp) (r.take j) rfl HT.out (by rw [HTL.out]; unfold maxLen; omega) (by rw [HTL.out]; omega) (Nat.le_refl _) ?_; intro v1 x1 hown1 hb1; rw [Nat.zero_add, List.nil_append, HTL.out] at hown1
                     have HB1 := Lib.hid hb1
                     have e6 : x1.cell? ⟨ge, oe + i * 2 + 1, none⟩ = some (.int .u32 eb) := (hb1.cell (p := ⟨ge, oe + i * 2 + 1, none⟩) hge5).trans e5
                     have HO1 := Lib.hid hown1
                     clear hown1 hb1)
                  | (at_builtin; refine wpList_push _ rfl _ _ _ rfl w5.heap.size 23 j0 .u32 4 Try.underlying24 hj0 hj1 hj2 hj3 v1 j (r.take j) rfl (own_below HO1.out (new_ (Below.refl _ _) (.cells #[.int .u32 eb] 23))) x1.heap.size eb rfl (cell_new _ _ _ 0) (by unfold maxLen; omega) (by omega) (by have := HB1.out.size; simp; omega) ?_; intro v2 x2 hown2 hb2
                     have HB2 := Lib.hid (HB1.out.trans ((new_ (Below.refl x1.heap.size x1) (.cells #[.int .u32 eb] 23)).mono HB1.out.size |>.trans hb2))
                     have HO2 := Lib.hid hown2
                     clear hown2 hb2 HO1 HB1)
                  | (at_builtin; refine wpList_append_all _ rfl _ _ _ rfl w5.heap.size 23 j0 .u32 4 Try.underlying24 hj0 hj1 hj2 hj3 v2 (j + 1) (r.take j ++ [eb]) rfl HO2.out _ _ (r.drop j) rfl (HDr.out _ HB2.out) (by have := HDL.out; unfold maxLen; omega) (by have := HDL.out; omega) HB2.out.size ?_; intro v3 x3 hown3 hb3
                     have HB3 := Lib.hid (HB2.out.trans hb3)
                     have HI3 := Lib.hid (IR.of_own hown3)
                     clear hown3 hb3 HO2 HB2))
                have HAA := (show ∀ (A3 : Option Addr) (n3 c3 : Nat), IR x3 x3.heap.size .u32 (.slice A3 n3 c3) (r.take j ++ [eb] ++ r.drop j) → ((A3 = none ∧ c3 = 0) ∨ ∃ g o, A3 = some ⟨g, o, none⟩) from fun A3 n3 c3 h => by
                  have hn : 0 < n3 := by
                    obtain ⟨_, _, e, _⟩ := h
                    injection e with e1 e2 e3
                    rw [e2]; simp; omega
                  obtain ⟨b, off, e, _⟩ := h.index 0 hn
                  exact .inr ⟨b, off, e⟩)
                obtain ⟨A3, c3, rfl, _, _⟩ := HI3.out.form
                replace HAA := HAA _ _ _ HI3.out
                go_roundw
                case rel => exact ⟨i', A3, c3, _, r.take j ++ [eb] ++ r.drop j, by have := HII.out; omega, rfl, rfl, rfl, HAA, by rw [HII.out.1]; exact HNX, HI3, Lib.hid (HW5.out.trans (HB3.out.mono HW5.out.size))⟩
                case measure => simp [intOf]; have := HII.out; omega
      · have dx : decide (ea = x) = false := by simp; exact hax
        have dx2 : (ea != x) = true := by simp; exact hax
        have HNX := Lib.hid (HNx.out.skip HE.out hax)
        clear hax
        go_wp2
        go_roundw
        case rel => exact ⟨i', Ao, cp, SL, r, by have := HII.out; omega, rfl, HS.out.1, rfl, HAO.out, by rw [HII.out.1]; exact HNX, HI, HW⟩
        case measure => simp [intOf]; have := HII.out; omega
    · have d1 : decide ((i : Int) < (N : Int)) = false := by simp; omega
      have d1' : decide (i < N) = false := by simp; omega
      obtain rfl : i = N := by omega
      have HR := Lib.hid (show r = nx xs x from nx_is HNx.out.rise (fun n => by
        have h := HNx.out.mem n
        rwa [List.take_of_length_le (by have := HN.out; omega)] at h))
      clear hin hi hSL
      go_wp2
      go_ret
      exact ⟨⟨_, rfl, by rw [← HR.out]; exact HI.out⟩, HW.out⟩
end Go.Proofs.Yteldfoplhcnljaa.Knot
