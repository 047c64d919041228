import Derived.Test.YtacjbgkcghcnnaaSeal7
import Derived.Test.YtacjbgkcghcnnaaRf2
import Derived.RegionTactic
/- Open of four sectors. -/
namespace Go.Proofs.Ytacjbgkcghcnnaa.Seal
open Go.ChangeShapes Go.WideShapes Go.ChangeAt Go.RowKit Go.IntWalk Go.Shelf Go.Proofs.NumMath Go.Proofs.Mem NumBytes
set_option linter.unusedVariables false
attribute [local go_sem] Oper.semAt_some
theorem bodyOf_len {vs : Sects} {k : Nat} (hk : k ≤ vs.length) (h : ∀ j, j < vs.length → (sect vs j).length = 128) : (bodyOf (vs.take k)).length = 112 * k := by
  induction k with
  | zero => simp [bodyOf]
  | succ k ih =>
    have hlt : k < vs.length := by omega
    have g : vs[k]? = some (vs[k].1, vs[k].2) := by rw [List.getElem?_eq_getElem hlt]
    have hs := h k hlt
    rw [sect_at g] at hs
    rw [bodyOf_succ g, List.length_append, ih (by omega), mid_len hs]; omega
theorem T3.sa {W : World} {b : Nat} {x y z : Value} (t : T3 W b x y z) (u : Value) : T3 (W.setCell ⟨b, 0, none⟩ u) b u y z := ⟨t.ba.set_ 0 u, t.bb.far (by show b + 1 ≠ b; omega) u, t.bc.far (by show b + 1 + 1 ≠ b; omega) u⟩
theorem T3.sb {W : World} {b : Nat} {x y z : Value} (t : T3 W b x y z) (u : Value) : T3 (W.setCell ⟨b + 1, 0, none⟩ u) b x u z := ⟨t.ba.far (by show b ≠ b + 1; omega) u, t.bb.set_ 0 u, t.bc.far (by show b + 1 + 1 ≠ b + 1; omega) u⟩
theorem T3.sd {W : World} {b : Nat} {x y z : Value} (t : T3 W b x y z) (u : Value) : T3 (W.setCell ⟨b + 1 + 1, 0, none⟩ u) b x y u := ⟨t.ba.far (by show b ≠ b + 1 + 1; omega) u, t.bb.far (by show b + 1 ≠ b + 1 + 1; omega) u, t.bc.set_ 0 u⟩
/-- what a round over the stamps leaves -/
def OpI (b b8 : Nat) (n0 : Int) (v : Value) (ys : List Int) (S : Nat → Prop) (w0 : World) (pre : List Int) (W : World) : Prop :=
  ((∀ y ∈ pre, y = n0) ∧ nil3 W b ∧ Box W b8 #[.int .u64 n0] 23 ∧ W.ownsRow (b + 3) 5 1 v 448 (ys.map (.int .u8))) ∧ Fr S w0 W
def OpX (b : Nat) (n0 : Int) (S : Nat → Prop) (w0 : World) (c : Code) (pre : List Int) (W : World) : Prop :=
  (c = .ret ∧ (∃ y ∈ pre, y ≠ n0) ∧ nil3 W b) ∧ Fr S w0 W
theorem opI_own {D b b8 : Nat} {n0 : Int} {v : Value} {ys : List Int} {S : Nat → Prop} {w0 : World} (hS : ∀ k, D ≤ k → S k) : OwnFrom D (OpI b b8 n0 v ys S w0) :=
  OwnFrom.and (ownFrom_sc fun s A B h sc => ⟨h.1, T3.sc h.2.1 sc, h.2.2.1.sc sc, own_sc h.2.2.2 sc⟩) (ownFrom_fr hS)
theorem opX_own {D b : Nat} {n0 : Int} {S : Nat → Prop} {w0 : World} (hS : ∀ k, D ≤ k → S k) (c : Code) : OwnFrom D (OpX b n0 S w0 c) :=
  OwnFrom.and (ownFrom_sc fun s A B h sc => ⟨h.1, h.2.1, T3.sc h.2.2 sc⟩) (ownFrom_fr hS)
set_option maxRecDepth 100000 in
set_option maxHeartbeats 8000000 in
theorem open_four (w : World) (B : Nat) (v : Value) (vs : Sects) (hv : SR w B v vs) (hB : B ≤ w.heap.size) (hl : vs.length = 4) (hn : ∀ k, k < vs.length → (sect vs k).length = 128) : Calls Try.prog 14 #[v] w (OpenP w vs) := by
  obtain ⟨i0, hi0, hz0, hz1, hz2⟩ := info_parts u8_info
  obtain ⟨A, c, rfl, hlc, hcm⟩ := hv.form
  unfold maxLen at hcm
  have HV := Lib.hid hv
  have HNN := Lib.hid hn
  have HL := Lib.hid hl
  clear hv hn
  rw [hl]
  clear hl
  refine (callsIn_wide (n := 3)).1 ?_
  refine callsIn_of_wp_marks Try.func14 rfl trivial ?_ rfl
  simp only [Try.ntmps14, List.size_toArray, List.length_cons, List.length_nil, Nat.reduceAdd, Nat.reduceSub, Array.replicate_succ, Array.replicate_zero, List.push_toArray, List.append_toArray, List.nil_append, List.cons_append]
  gi_wp2
  gi_loopw [5, 15] (fun s i wr => ∃ k : Nat, i = .int .i64 k ∧ k ≤ 4 ∧ Hid (wr.ownsRow (w.heap.size + 3) 5 1 s (112 * k) ((bodyOf (vs.take k)).map (.int .u8))) ∧
    Hid (nil3 wr w.heap.size) ∧ Hid (Below w.heap.size w wr) ∧ w.heap.size + 3 ≤ wr.heap.size) (fun _ i _ => 4 - (intOf i).toNat)
  case atStart => exact ⟨0, rfl, by omega, Lib.hid (World.ownsRow_nil _ _ _ _), Lib.hid (T3.new _ _ _ _), Lib.hid (new_ (new_ (new_ (Below.refl _ _) _) _) _), by simp⟩
  case round =>
    obtain ⟨k, rfl, hk, HO, HT3, HB, hz⟩ := hrel
    by_cases hlt : k < 4
    · obtain ⟨b1, o1, u1, x1, rfl, _, g1, e1, r1, y1⟩ := (HV.out.keep (w' := wr) (fun p hp => HB.out.cell (by omega))).index k (by have := HL.out; omega)
      have q1 : decide ((k : Int) < 4) = true := decide_eq_true (by omega)
      have q1' : decide (k < 4) = true := decide_eq_true hlt
      have hx : x1.length = 128 := by have := HNN.out k (by have := HL.out; omega); rwa [sect_at g1] at this
      obtain ⟨A1, c1', rfl, hl1, hm1⟩ := r1.form
      unfold maxLen at hm1
      rw [hx] at e1 r1
      obtain ⟨b2, o2, rfl, _, _⟩ := r1.index 0 (by decide)
      have hc1 : 128 ≤ c1' := by omega
      have MI := Lib.hid (mid_ir r1 hx)
      have ML := Lib.hid (mid_len hx)
      have HS := Lib.hid (bodyOf_succ g1)
      clear r1 g1 hx y1
      gi_wp2_with (gi_at_builtin; refine wpListIn_append_all _ rfl _ _ _ rfl (w.heap.size + 3) 5 i0 .u8 1 Try.underlying22 hi0 hz0 hz1 hz2 _ (112 * k) (bodyOf (vs.take k)) rfl HO.out B (.slice (some ⟨b2, o2 + 8, none⟩) 112 (c1' - 8)) ((x1.drop 8).take 112) rfl MI.out (by rw [ML.out]; decide) (by rw [ML.out]; simp only [maxLen]; omega) (by rw [ML.out]; omega) hz ?_; intro v2 w2 hown2 hg2)
      have hb2 := below_grown (Below.refl (w.heap.size + 3) wr) HO.out hg2 (Nat.le_refl _) hz
      rw [ML.out, ← HS.out] at hown2
      have OW2 := Lib.hid hown2
      have HB2 := Lib.hid (HB.out.trans (hb2.mono (by omega)))
      have HT32 := Lib.hid (HT3.out.below hb2 (by omega))
      have z2 : w.heap.size + 3 ≤ w2.heap.size := by have := hb2.size; omega
      clear hown2 hb2 hg2
      gi_wp2
      go_roundw
      case rel => exact ⟨k + 1, by go_num, by omega, OW2, HT32, HB2, z2⟩
      case measure => simp [intOf]; omega
    · obtain rfl : k = 4 := by omega
      obtain ⟨b1, o1, u1, x1, rfl, _, g1, e1, r1, y1⟩ := (HV.out.keep (w' := wr) (fun p hp => HB.out.cell (by omega))).index 0 (by have := HL.out; omega)
      have hx : x1.length = 128 := by have := HNN.out 0 (by have := HL.out; omega); rwa [sect_at g1] at this
      obtain ⟨A1, c1', rfl, hl1, hm1⟩ := r1.form
      unfold maxLen at hm1
      rw [hx] at e1 r1
      obtain ⟨b2, o2, rfl, _, _⟩ := r1.index 0 (by decide)
      have hc1 : 128 ≤ c1' := by omega
      have R8 := Lib.hid (r1.take (m := 8) (by decide))
      have Y8 := Lib.hid (Bytes.take y1 8)
      have GH := Lib.hid (show getS (x1.take 8) = head0 vs by unfold head0; rw [sect_at g1])
      have e1' : wr.cell? ⟨b1, o1, none⟩ = some (.slice (some ⟨b2, o2, none⟩) 128 c1') := e1
      clear r1 g1 hx y1
      gi_wp2_with (first
        | (refine ⟨trivial, ?_⟩; gi_at_call 22; refine (callsIn_wide.2 (get_any _ _ wr _ R8.out Y8.out)).mono ?_; rintro e w' ⟨rfl, rfl⟩; rw [GH.out])
        | (refine ⟨trivial, ?_⟩; gi_at_call 23; refine (stamps_in Fence.wide _ trivial rfl _ _ _ _).mono ?_; rintro e w' ⟨rfl, rfl⟩))
      obtain ⟨w0, hw0⟩ : ∃ w0, ((wr.alloc (.cells #[.int .u64 (head0 vs)] 23)).alloc (.cells #[.slice (some ⟨b1, o1, none⟩) 4 c] 27)) = w0 := ⟨_, rfl⟩
      rw [hw0]
      have z3 : Box w0 wr.heap.size #[.int .u64 (head0 vs)] 23 := by rw [← hw0]; exact (Box.new _ _ _).alloc _
      have z4 : Box w0 (wr.heap.size + 1) #[.slice (some ⟨b1, o1, none⟩) 4 c] 27 := by
        rw [← hw0]; have := Box.new (wr.alloc (.cells #[.int .u64 (head0 vs)] 23)) #[.slice (some ⟨b1, o1, none⟩) 4 c] 27; rwa [World.size_alloc] at this
      have hs0 : w0.heap.size = wr.heap.size + 1 + 1 := by rw [← hw0]; simp
      have hb0 : Below wr.heap.size wr w0 := by rw [← hw0]; exact new_ (new_ (Below.refl _ _) _) _
      have HS0 := Lib.hid hs0
      have HB0 := Lib.hid (step_ HB.out hb0)
      have OW0 := Lib.hid (show w0.ownsRow (w.heap.size + 3) 5 1 _ 448 ((bodyOf vs).map (.int .u8)) by have := own_below HO.out hb0; rw [List.take_of_length_le (by have := HL.out; omega)] at this; exact this)
      have HT0 := Lib.hid (HT3.out.below hb0 hz)
      clear hw0 hs0 hb0 HO
      obtain ⟨S, hSd⟩ : ∃ S : Nat → Prop, S = fun k => (w.heap.size ≤ k ∧ k < w.heap.size + 3) ∨ w0.heap.size ≤ k := ⟨_, rfl⟩
      have SD := Lib.hid (fun k => show S k ↔ (w.heap.size ≤ k ∧ k < w.heap.size + 3) ∨ w0.heap.size ≤ k by rw [hSd])
      clear hSd
      refine wpIn_rangeFunc_one 9 rfl (by omega) (gf := 26) (lb := #[.pointer (some ⟨wr.heap.size + 1, 0, none⟩)]) rfl trivial (enters_of Try.func26 (by kernel_rfl) rfl)
        (stamps_stops (wr.heap.size + 1) S _ vs w.heap.size (by have := HS0.out; rw [SD.out]; omega) (fun k hk => by have := HS0.out; rw [SD.out] at hk; omega) w0 (z4.cell 0) (by have h := (HV.out.keep (w' := w0) (fun p hp => HB0.out.cell (by omega))); have := HL.out; rw [← this]; exact sr_more h hB) (by have := HS0.out; omega)) frK_t (frK_b (fun k hk => by rw [SD.out]; exact .inr hk)) (Below.refl _ _)
        (OpI w.heap.size wr.heap.size (head0 vs) _ (bodyOf vs) S w0) (OpX w.heap.size (head0 vs) S w0) (opI_own (fun k hk => by rw [SD.out]; exact .inr hk)) (opX_own (fun k hk => by rw [SD.out]; exact .inr hk))
        ⟨⟨(fun y hy => by cases hy), HT0.out, z3, OW0.out⟩, Fr.refl _ _⟩ ?assign ?body ?done ?stop
      case assign =>
        intro l x W K hK
        gi_wp2
        exact hK
      case body =>
        rintro l pre x W ⟨⟨hp, ht3, hb8, how⟩, hfr⟩ hlt
        have c8 : W.cell? ⟨wr.heap.size, 0, none⟩ = some (.int .u64 (head0 vs)) := hb8.cell 0
        have a0 : W.cell? ⟨w.heap.size, 0, none⟩ = some (.slice none 0 0) := ht3.ba.cell 0
        have a1 : W.cell? ⟨w.heap.size + 1, 0, none⟩ = some (.int .u64 0) := ht3.bb.cell 0
        have a2 : W.cell? ⟨w.heap.size + 1 + 1, 0, none⟩ = some (.bool false) := ht3.bc.cell 0
        have f0 := ht3.ba.frozen 0
        have f1 := ht3.bb.frozen 0
        have f2 := ht3.bc.frozen 0
        have PP := Lib.hid hp
        have TT3 := Lib.hid ht3
        have B8 := Lib.hid hb8
        have OW := Lib.hid how
        have FR := Lib.hid hfr
        clear hp ht3 hb8 how hfr
        by_cases hx : x = head0 vs
        · have d1 : (x == head0 vs) = true := by simpa using hx
          have d2 : (x != head0 vs) = false := by simp [hx]
          have HX := Lib.hid hx
          clear hx
          gi_wp2
          exact ⟨KeepsOthers.refl _, Fr.refl _ _, ⟨fun y hy => (List.mem_append.1 hy).elim (PP.out y) (fun h => by rw [List.mem_singleton.1 h]; exact HX.out), TT3.out, B8.out, OW.out⟩, FR.out⟩
        · have d1 : (x == head0 vs) = false := by simpa using hx
          have d2 : (x != head0 vs) = true := by simpa using hx
          have HX := Lib.hid hx
          clear hx
          gi_wp2
          have s0 : S w.heap.size := by rw [SD.out]; omega
          have s1 : S (w.heap.size + 1) := by rw [SD.out]; omega
          have s2 : S (w.heap.size + 1 + 1) := by rw [SD.out]; omega
          exact ⟨((KeepsOthers.setCell _ _ _).trans (KeepsOthers.setCell _ _ _)).trans (KeepsOthers.setCell _ _ _), ⟨rfl, ⟨x, List.mem_append.2 (.inr (by simp)), HX.out⟩, ((TT3.out.sa _).sb _).sd _⟩, ((FR.out.setCell (.inl s0) _).setCell (.inl s1) _).setCell (.inl s2) _⟩
      case done =>
        rintro D ys W hD rfl ⟨⟨hp, ht3, hb8, how⟩, hfr⟩ hK
        have c8 : W.cell? ⟨wr.heap.size, 0, none⟩ = some (.int .u64 (head0 vs)) := hb8.cell 0
        have a0 : W.cell? ⟨w.heap.size, 0, none⟩ = some (.slice none 0 0) := ht3.ba.cell 0
        have a1 : W.cell? ⟨w.heap.size + 1, 0, none⟩ = some (.int .u64 0) := ht3.bb.cell 0
        have a2 : W.cell? ⟨w.heap.size + 1 + 1, 0, none⟩ = some (.bool false) := ht3.bc.cell 0
        have f0 := ht3.ba.frozen 0
        have f1 := ht3.bb.frozen 0
        have f2 := ht3.bc.frozen 0
        obtain ⟨gv, cv, hve⟩ := ownsRow_succ (k := 447) how
        subst hve
        have WH := Lib.hid (show Whole vs from ⟨HL.out, HNN.out, hp⟩)
        have TT3 := Lib.hid ht3
        have OW := Lib.hid how
        have FR := Lib.hid hfr
        have HK := Lib.hid hK
        clear hp ht3 hb8 how hfr hK
        gi_wp2
        gi_region
        gi_wp2
        obtain ⟨W', hW'⟩ : ∃ W', (((W.setCell ⟨w.heap.size, 0, none⟩ (.slice (some ⟨gv, 0, none⟩) 448 cv)).setCell ⟨w.heap.size + 1, 0, none⟩ (.int .u64 (head0 vs))).setCell ⟨w.heap.size + 1 + 1, 0, none⟩ (.bool true)).drew = W' := ⟨_, rfl⟩
        rw [hW']
        have s0 : S w.heap.size := by rw [SD.out]; omega
        have s1 : S (w.heap.size + 1) := by rw [SD.out]; omega
        have s2 : S (w.heap.size + 1 + 1) := by rw [SD.out]; omega
        have hK2 : W'.heap[D]? = some (.deferred (some [])) := by rw [← hW']; exact ((((KeepsOthers.setCell _ _ _).trans (KeepsOthers.setCell _ _ _)).trans (KeepsOthers.setCell _ _ _)).trans (KeepsOthers.drew _)).same D _ HK.out rfl
        have t3 : T3 W' w.heap.size (.slice (some ⟨gv, 0, none⟩) 448 cv) (.int .u64 (head0 vs)) (.bool true) := by rw [← hW']; exact (((TT3.out.sa _).sb _).sd _).sc (Sc.of_below (Below.drew (Below.refl _ _)))
        have ow : W'.ownsRow w.heap.size 5 1 (.slice (some ⟨gv, 0, none⟩) 448 cv) 448 ((bodyOf vs).map (.int .u8)) := by
          have hne : ∀ k, k < w.heap.size + 3 → (Value.slice (some ⟨gv, 0, none⟩) (447 + 1) cv).ownBlock ≠ some k := fun k hk e => by have := (OW.out.lt k e).1; omega
          rw [← hW']
          exact own_sc (own_lower (((OW.out.kept (grownBy_set _ _ _) (.inr (hne _ (by show w.heap.size < _; omega)))).kept (grownBy_set _ _ _) (.inr (hne _ (by show w.heap.size + 1 < _; omega)))).kept (grownBy_set _ _ _) (.inr (hne _ (by show w.heap.size + 1 + 1 < _; omega)))) (by omega)) (Sc.of_below (Below.drew (Below.refl _ _)))
        have bel : Below w.heap.size w W' := by
          rw [← hW']
          exact HB0.out.trans ((((((FR.out.setCell (.inl s0) _).setCell (.inl s1) _).setCell (.inl s2) _).drew).to_below (fun k hk => by rw [SD.out] at hk; have := HS0.out; omega) HB0.out.size))
        clear hW'
        have sp := sc_put (.deferred none) hK2 rfl
        have t3' := t3.sc sp
        have k0 : (W'.putObj D (.deferred none)).cell? ⟨w.heap.size, 0, none⟩ = some (.slice (some ⟨gv, 0, none⟩) 448 cv) := t3'.ba.cell 0
        have k1 : (W'.putObj D (.deferred none)).cell? ⟨w.heap.size + 1, 0, none⟩ = some (.int .u64 (head0 vs)) := t3'.bb.cell 0
        have k2 : (W'.putObj D (.deferred none)).cell? ⟨w.heap.size + 1 + 1, 0, none⟩ = some (.bool true) := t3'.bc.cell 0
        refine ⟨by simp, .inl ⟨_, _, rfl, run_takeDeferred hK2, ?_⟩⟩
        refine ⟨.tuple #[.slice (some ⟨gv, 0, none⟩) 448 cv, .int .u64 (head0 vs), .bool true], ?_, .inl ⟨WH.out, _, rfl, own_sc ow sp, bel.trans (belowK_b (w := w0) HB0.out.size W' D _ _ hD hK2 rfl rfl)⟩⟩
        simp [results, Try.f14, go_sem, k0, k1, k2]
      case stop =>
        rintro D c pre W hD hpre ⟨⟨rfl, ⟨y, hy, hne⟩, ht3⟩, hfr⟩ hK
        have NW := Lib.hid (show ¬ Whole vs from fun h => hne (h.2.2 y (hpre.subset hy)))
        gi_wp2
        have sp := sc_put (.deferred none) hK rfl
        have t3' := ht3.sc sp
        have k0 : (W.putObj D (.deferred none)).cell? ⟨w.heap.size, 0, none⟩ = some (.slice none 0 0) := t3'.ba.cell 0
        have k1 : (W.putObj D (.deferred none)).cell? ⟨w.heap.size + 1, 0, none⟩ = some (.int .u64 0) := t3'.bb.cell 0
        have k2 : (W.putObj D (.deferred none)).cell? ⟨w.heap.size + 1 + 1, 0, none⟩ = some (.bool false) := t3'.bc.cell 0
        refine ⟨by simp, .inl ⟨_, _, rfl, run_takeDeferred hK, ?_⟩⟩
        refine ⟨.tuple #[.slice none 0 0, .int .u64 0, .bool false], ?_, .inr ⟨NW.out, rfl, (HB0.out.trans (hfr.to_below (fun k hk => by rw [SD.out] at hk; have := HS0.out; omega) HB0.out.size)).trans (belowK_b (w := w0) HB0.out.size W D _ _ hD hK rfl rfl)⟩⟩
        simp [results, Try.f14, go_sem, k0, k1, k2]
theorem open_any (w : World) (B : Nat) (v : Value) (vs : Sects) (hv : SR w B v vs) (hB : B ≤ w.heap.size) : Calls Try.prog 14 #[v] w (OpenP w vs) := by
  by_cases hl : vs.length = 4
  · by_cases hn : ∀ k, k < vs.length → (sect vs k).length = 128
    · exact open_four w B v vs hv hB hl hn
    · exact open_bad w B v vs hv hB hl hn
  · exact open_short w B v vs hv hB hl
end Go.Proofs.Ytacjbgkcghcnnaa.Seal
