import Derived.Test.YtacjbgkcghcnnaaSeal1
/- Seal. -/
namespace Go.Proofs.Ytacjbgkcghcnnaa.Seal
open Go.ChangeShapes Go.WideShapes Go.ChangeAt Go.RowKit Go.IntWalk Go.Shelf Go.Proofs.NumMath Go.Proofs.Mem NumBytes
set_option linter.unusedVariables false
attribute [local go_sem] Oper.semAt_some
theorem row_info : (Try.prog.info? 22).map (fun i => (i.zero, i.size, i.bytes)) = some (some (.slice none 0 0), 1, 24) := by kernel_rfl
/-- a sector -/
def sec (xb : List Int) (n : Int) (a : Nat) : List Int := putS n 8 ++ (xb.drop a).take 112 ++ putS n 8
def sealS (xb : List Int) (n : Int) : List (List Int) := (upto 4).map (fun a => sec xb n a.1)
theorem sec_len {xb : List Int} {n : Int} {a : Nat} (h : a + 112 ≤ xb.length) : (sec xb n a).length = 128 := by
  simp [sec, putS_len]; omega
theorem sec_bytes {xb : List Int} (hx : Bytes xb) (n : Int) (a : Nat) : Bytes (sec xb n a) :=
  ((putS_bytes n 8).app (fun x h => hx x (List.mem_of_mem_drop (List.mem_of_mem_take h)))).app (putS_bytes n 8)
theorem piece_ir {W : World} {B b off c : Nat} {xb : List Int} (h : IR W B .u8 (.slice (some ⟨b, off, none⟩) xb.length c) xb) (a : Nat) (ha : a + 112 ≤ xb.length) : IR W B .u8 (piece b off c a) ((xb.drop a).take 112) := by
  obtain ⟨A, c', e, h2, h3, h4, h5⟩ := h
  injection e with e1 e2 e3
  subst e1 e3
  have hl : ((xb.drop a).take 112).length = 112 := by simp; omega
  refine ⟨_, _, by unfold piece; rw [hl], by omega, by omega, (fun hh => by cases hh), fun i hi => ?_⟩
  obtain ⟨b', off', e, hb, hc⟩ := h5 (a + i) (by omega)
  injection e with e
  injection e with e1 e2
  subst e1 e2
  refine ⟨b, off + a, rfl, hb, ?_⟩
  rw [Nat.add_assoc, hc]
  congr 2
  simp [List.getD, List.getElem?_drop, show i < 112 by omega]
/-- what a round leaves -/
def SealI (base : Nat) (b6 : Nat) (w0 : World) (xb : List Int) (n : Int) (pre : List Pc) (W : World) : Prop :=
  (∃ v ls, Box W b6 #[v] 27 ∧ Tab 5 22 W base W.heap.size v ls ∧ ls.map (·.2.2) = pre.map (fun a => sec xb n a.1)) ∧ Fr (fun k => k = b6 ∨ base ≤ k) w0 W
theorem sealI_own (base b6 : Nat) (w0 : World) (xb : List Int) (n : Int) : OwnFrom base (SealI base b6 w0 xb n) :=
  OwnFrom.and (ownFrom_scz fun s A B h sc hz => by
    obtain ⟨v, ls, h1, h2, h3⟩ := h
    exact ⟨v, ls, h1.sc sc, (h2.sc sc).more hz, h3⟩) (ownFrom_fr fun k hk => .inr hk)
/-- what Seal tells -/
def SealP (w : World) (L : List (List Int)) (e : Ending) (w' : World) : Prop :=
  ∃ v ls, e = .returned v ∧ Tab 5 22 w' w.heap.size w'.heap.size v ls ∧ ls.map (·.2.2) = L ∧ Below w.heap.size w w'
set_option maxRecDepth 100000 in
set_option maxHeartbeats 8000000 in
theorem seal_yes (w : World) (B b off c : Nat) (xb : List Int) (n : Int) (hv : IR w B .u8 (.slice (some ⟨b, off, none⟩) 448 c) xb) (hB : B ≤ w.heap.size) (hl : xb.length = 448) (hn : 0 ≤ n ∧ n ≤ 18446744073709551615) :
    Calls Try.prog 10 #[.slice (some ⟨b, off, none⟩) 448 c, .int .u64 n] w (SealP w (sealS xb n)) := by
  obtain ⟨i0, hi0, hz0, hz1, hz2⟩ := info_parts u8_info
  obtain ⟨j0, hj0, hy0, hy1, hy2⟩ := info_parts row_info
  have hcm : 448 ≤ c ∧ c ≤ 9223372036854775807 := by
    obtain ⟨A', c', e, h2, h3, _⟩ := hv
    injection e with e1 e2 e3
    subst e3
    unfold maxLen at h3
    omega
  obtain ⟨AC, hAC0, hAC, hmk⟩ := made_run (P := Try.prog) Try.underlying22 hi0 hz0 hz1 0 128 (by decide) (by rw [hz2]; decide) (by decide)
  rw [show ((0 : Nat) : Int) = 0 from rfl, show ((128 : Nat) : Int) = 128 from rfl] at hmk
  have HAC := Lib.hid hAC
  clear hAC hAC0
  have HV := Lib.hid hv
  have PU := Lib.hid (fun W => put_any n 8 hn.1 hn.2 (by decide) (by decide) W)
  have HL := Lib.hid hl
  clear hv hl
  refine (callsIn_wide (n := 3)).1 ?_
  refine callsIn_of_wp_marks Try.func10 rfl trivial ?_ rfl
  simp only [Try.ntmps10, List.size_toArray, List.length_cons, List.length_nil, Nat.reduceAdd, Nat.reduceSub, Array.replicate_succ, Array.replicate_zero, List.push_toArray, List.append_toArray, List.nil_append, List.cons_append]
  gi_wp2_with (first
    | (refine ⟨trivial, ?_⟩; gi_at_call 19; refine (callsIn_wide.2 (PU.out _)).mono ?_; rintro e w1 ⟨mk, rfl, hown1, hb1⟩; rw [show (8 : Int).toNat = 8 from rfl] at hown1; have hown1' : w1.ownsRow w.heap.size 5 1 mk (putS n 8).length ((putS n 8).map (.int .u8)) := (by rw [putS_len]; exact hown1); obtain ⟨gm, rowm, hgm, hgm2⟩ := RowAt.of_own hown1' (by rw [putS_len]; omega); obtain ⟨cm, rfl⟩ := rowm.form; rw [putS_len])
    | (refine ⟨trivial, ?_⟩; gi_at_call 20; refine (pieces_in Fence.wide _ trivial rfl _ _ _ _).mono ?_; rintro e w' ⟨rfl, rfl⟩))
  have ROWM := Lib.hid rowm
  have MK := Lib.hid (show w.heap.size ≤ gm ∧ gm < w1.heap.size from ⟨hgm, hgm2⟩)
  have HB1 := Lib.hid hb1
  clear hown1 hown1' rowm hgm hgm2 hb1
  obtain ⟨w0, hw0⟩ : ∃ w0, ((w1.alloc (.cells #[.slice (some ⟨gm, 0, none⟩) 8 cm] 22)).alloc (.cells #[.slice none 0 0] 27)).alloc (.cells #[.slice (some ⟨b, off, none⟩) 448 c] 22) = w0 := ⟨_, rfl⟩
  have z5 : Box w0 w1.heap.size #[.slice (some ⟨gm, 0, none⟩) 8 cm] 22 := by rw [← hw0]; exact ((Box.new _ _ _).alloc _).alloc _
  have z6 : Box w0 (w1.heap.size + 1) #[.slice none 0 0] 27 := by
    rw [← hw0]; have := (Box.new (w1.alloc (.cells #[.slice (some ⟨gm, 0, none⟩) 8 cm] 22)) #[.slice none 0 0] 27).alloc (.cells #[.slice (some ⟨b, off, none⟩) 448 c] 22); rwa [World.size_alloc] at this
  have z7 : Box w0 (w1.heap.size + 1 + 1) #[.slice (some ⟨b, off, none⟩) 448 c] 22 := by
    rw [← hw0]; have := Box.new ((w1.alloc (.cells #[.slice (some ⟨gm, 0, none⟩) 8 cm] 22)).alloc (.cells #[.slice none 0 0] 27)) #[.slice (some ⟨b, off, none⟩) 448 c] 22; rwa [World.size_alloc, World.size_alloc] at this
  have hs0 : w0.heap.size = w1.heap.size + 1 + 1 + 1 := by rw [← hw0]; simp
  have hbw0 : Below w1.heap.size w1 w0 := by rw [← hw0]; exact new_ (new_ (new_ (Below.refl _ _) _) _) _
  rw [hw0]
  have Z5 := Lib.hid z5
  have Z6 := Lib.hid z6
  have Z7 := Lib.hid z7
  have HS0 := Lib.hid hs0
  have HBW0 := Lib.hid (step_ HB1.out hbw0)
  have MKI := Lib.hid ((ROWM.out.sc (Sc.of_below hbw0)).ir)
  have XBI := Lib.hid ((HV.out.below (HBW0.out.mono hB)).more hB)
  rw [putS_len] at MKI
  clear hw0 hs0 hbw0 z5 z6
  refine wpIn_rangeFunc_ownF rfl (by omega) (gf := 25) (lb := #[.pointer (some ⟨w1.heap.size + 1 + 1, 0, none⟩)]) rfl trivial (enters_of Try.func25 (by kernel_rfl) rfl)
    (pieces_stops Fence.wide _ trivial rfl (by omega) (w1.heap.size + 1 + 1) (fun k => k = w1.heap.size + 1 ∨ w0.heap.size ≤ k) b off c (by have := HS0.out; omega) hcm.1 hcm.2 w0 (z7.cell 0)) frK_t (frK_b (fun k hk => .inr hk)) (Below.refl _ _) (fun _ => rfl)
    (SealI w0.heap.size (w1.heap.size + 1) w0 xb n) (fun _ _ _ => False) (sealI_own _ _ _ _ _) (fun _ _ _ _ _ hs _ _ => hs)
    ⟨⟨_, [], Z6.out, Tab.nil _ _ _, rfl⟩, Fr.refl _ _⟩
    (fun x : Pc => { tmps := #[.slice (some ⟨b, off, none⟩) 448 c, .int .u64 n, undef, undef, .slice none 0 0, .pointer (some ⟨w1.heap.size, 0, none⟩), .pointer (some ⟨w1.heap.size + 1, 0, none⟩), piece b off c x.1, undef, .slice (some ⟨b, off, none⟩) 448 c, .int .i64 448, .bool false, .int .u64 n, .slice (some ⟨gm, 0, none⟩) 8 cm, .slice (some ⟨b, off, none⟩) 448 c, .func (.func 25) #[] #[.pointer (some ⟨w1.heap.size + 1 + 1, 0, none⟩)], piece b off c x.1, undef, undef, undef, undef, undef, undef, undef, undef, undef, undef, undef, undef, undef, undef, undef], defers := [] }) ?assign ?body ?done ?stop
  case assign =>
    intro l x W K hK
    gi_wp2
    exact hK
  case body =>
    rintro l pre ⟨x, hx⟩ W ⟨⟨v, ls, hbx, htab, hls⟩, hfr⟩ hlt
    have hz0' : w0.heap.size ≤ W.heap.size := hfr.size
    have hll : ls.length < 4 := by have := congrArg List.length hls; simp at this; omega
    have b5 := Z5.out.fr hfr (by have := HS0.out; omega)
    have c5 : W.cell? ⟨w1.heap.size, 0, none⟩ = some (.slice (some ⟨gm, 0, none⟩) 8 cm) := b5.cell 0
    have y5 : (W.alloc (.cells AC 5)).cell? ⟨w1.heap.size, 0, none⟩ = some (.slice (some ⟨gm, 0, none⟩) 8 cm) := (b5.alloc _).cell 0
    have TAB := Lib.hid htab
    have FR := Lib.hid hfr
    have LS := Lib.hid hls
    have B5 := Lib.hid b5
    have BX := Lib.hid hbx
    have MKW := Lib.hid ((MKI.out.keep (w' := W) (fun p hp => hfr.cell (by have := HS0.out; have := MK.out; omega) (by have := HS0.out; have := MK.out; omega))).more (B' := W.heap.size) (by have := HS0.out; have := MK.out; omega))
    have xw : IR W W.heap.size .u8 (.slice (some ⟨b, off, none⟩) xb.length c) xb := by
      rw [HL.out]
      exact IR.more (B := w.heap.size) (XBI.out.keep (fun p hp => hfr.cell (by have := HBW0.out.size; omega) (by have := HS0.out; have := HB1.out.size; omega))) (by have := HBW0.out.size; omega)
    have PW := Lib.hid (piece_ir xw x (by have := HL.out; omega))
    clear xw
    have HX := Lib.hid hx
    have hpl : ((xb.drop x).take 112).length = 112 := by have := HL.out; simp; omega
    have HPL := Lib.hid hpl
    clear b5 hbx htab hfr hls hpl hlt
    have OWN0 := Lib.hid (World.ownsRow_made (base := W.heap.size) (size := 1) (e := 5) W AC 128 (Nat.le_refl _) (by decide) HAC.out)
    have L5 := Lib.hid (show w1.heap.size < W.heap.size ∧ w1.heap.size + 1 < W.heap.size ∧ w1.heap.size + 1 < w0.heap.size ∧ w0.heap.size ≤ W.heap.size by have := HS0.out; omega)
    have C5 := Lib.hid c5
    clear hz0' c5
    gi_wp2_with (first
      | (gi_at_builtin; refine wpListIn_append_all _ rfl _ _ _ rfl W.heap.size 5 i0 .u8 1 Try.underlying22 hi0 hz0 hz1 hz2 (.slice (some ⟨W.heap.size, 0, none⟩) 0 128) 0 [] rfl OWN0.out W.heap.size (.slice (some ⟨gm, 0, none⟩) 8 cm) (putS n 8) rfl (MKW.out.alloc (Nat.le_refl _) _) (by rw [putS_len]; decide) (by rw [putS_len]; decide) (by rw [putS_len]; decide) (by simp) ?_
         intro v2 w2 hown2 hg2
         rw [Nat.zero_add, List.nil_append, putS_len] at hown2
         have HB2 := Lib.hid (below_grown ((Below.refl W.heap.size W).alloc (Nat.le_refl _) _) OWN0.out hg2 (Nat.le_refl _) (by simp))
         have HK2 := Lib.hid ((KeepsOthers.alloc _ _).trans (keeps_grown OWN0.out hg2))
         have OWN2 := Lib.hid hown2
         clear hown2 hg2)
      | (gi_at_builtin; refine wpListIn_append_all _ rfl _ _ _ rfl W.heap.size 5 i0 .u8 1 Try.underlying22 hi0 hz0 hz1 hz2 v2 8 (putS n 8) rfl OWN2.out W.heap.size (piece b off c x) ((xb.drop x).take 112) rfl (PW.out.below HB2.out) (by rw [HPL.out]; decide) (by rw [HPL.out]; decide) (by rw [HPL.out]; decide) HB2.out.size ?_
         intro v3 w3 hown3 hg3
         rw [HPL.out] at hown3
         have HB3 := Lib.hid (below_grown HB2.out OWN2.out hg3 (Nat.le_refl _) HB2.out.size)
         have HK3 := Lib.hid (HK2.out.trans (keeps_grown OWN2.out hg3))
         have OWN3 := Lib.hid hown3
         have x5 : w3.cell? ⟨w1.heap.size, 0, none⟩ = some (.slice (some ⟨gm, 0, none⟩) 8 cm) := (HB3.out.cell (p := ⟨w1.heap.size, 0, none⟩) L5.out.1).trans C5.out
         clear hown3 hg3)
      | (gi_at_builtin; refine wpListIn_append_all _ rfl _ _ _ rfl W.heap.size 5 i0 .u8 1 Try.underlying22 hi0 hz0 hz1 hz2 v3 (8 + 112) (putS n 8 ++ (xb.drop x).take 112) rfl OWN3.out W.heap.size (.slice (some ⟨gm, 0, none⟩) 8 cm) (putS n 8) rfl (MKW.out.below HB3.out) (by rw [putS_len]; decide) (by rw [putS_len]; decide) (by rw [putS_len]; decide) HB3.out.size ?_
         intro v4 w4 hown4 hg4
         rw [show 8 + 112 + (putS n 8).length = (sec xb n x).length by rw [sec_len (by have := HL.out; have := HX.out; omega), putS_len]] at hown4
         have HB4 := Lib.hid (below_grown HB3.out OWN3.out hg4 (Nat.le_refl _) HB3.out.size)
         have HK4 := Lib.hid (HK3.out.trans (keeps_grown OWN3.out hg4))
         obtain ⟨g4, row4, hb4, hl4⟩ := RowAt.of_own (xs := sec xb n x) hown4 (by rw [sec_len (by have := HL.out; have := HX.out; omega)]; decide)
         obtain ⟨cap4, rfl⟩ := row4.form
         have ROW4 := Lib.hid row4
         have G4 := Lib.hid (And.intro hb4 hl4)
         have TAB4 := Lib.hid (TAB.out.below HB4.out)
         have BX4 := Lib.hid (BX.out.below HB4.out L5.out.2.1)
         have x6 : w4.cell? ⟨w1.heap.size + 1, 0, none⟩ = some v := BX4.out.cell 0
         clear hown4 hg4 row4 hb4 hl4)
      | (gi_at_builtin; refine wpListIn_append_own _ rfl _ _ _ rfl w0.heap.size 22 j0 (.slice none 0 0) 1 24 Try.underlying27 hj0 hy0 hy1 hy2 rfl (by decide) v ls.length (ls.map (·.2.1)) rfl (TAB4.out.outer.alloc _) ⟨w4.heap.size, 0, none⟩ 1 1 [_] rfl rfl (cell_one_new _ _ _) (by simp [Value.oneCell']) (by unfold maxLen; omega) (by omega) (by have := HB4.out.size; have := L5.out; simp; omega) ?_
         intro v5 w5 hown5 hg5 _
         obtain ⟨g5, cap5, rfl⟩ := ownsRow_succ hown5
         have OWN5 := Lib.hid hown5
         have HG5 := Lib.hid hg5
         have BX5 := Lib.hid ((BX4.out.alloc _).grown hg5 (fun e => by have := (TAB4.out.outer.lt _ e).1; have := L5.out; omega))
         have x7 : w5.cell? ⟨w1.heap.size + 1, 0, none⟩ = some v := BX5.out.cell 0
         have x8 : w5.frozen? ⟨w1.heap.size + 1, 0, none⟩ = false := BX5.out.frozen 0
         clear hown5 hg5))
    have KO := (((HK4.out.trans (KeepsOthers.alloc w4 _)).trans (keeps_grown (TAB4.out.outer.alloc _) HG5.out)).trans (KeepsOthers.setCell w5 ⟨w1.heap.size + 1, 0, none⟩ (.slice (some ⟨g5, 0, none⟩) (ls.length + 1) cap5)))
    have F1 : Fr (fun k => k = w1.heap.size + 1 ∨ w0.heap.size ≤ k) W (w5.setCell ⟨w1.heap.size + 1, 0, none⟩ (.slice (some ⟨g5, 0, none⟩) (ls.length + 1) cap5)) :=
      (fr_grown ((Fr.of_below HB4.out).alloc _) (TAB4.out.outer.alloc _) HG5.out (fun k hk => .inr hk)).setCell (p := ⟨w1.heap.size + 1, 0, none⟩) (.inl (.inl rfl)) _
    have z54 : w4.heap.size < w5.heap.size := by have := HG5.out.size; simp at this; omega
    refine ⟨KO, F1, ⟨.slice (some ⟨g5, 0, none⟩) (ls.length + 1) cap5, ls ++ [(g4, .slice (some ⟨g4, 0, none⟩) (sec xb n x).length cap4, sec xb n x)], ?_, ?_, ?_⟩, FR.out.trans F1⟩
    · exact BX5.out.set_ 0 _
    · have T5 := Tab.push (TAB4.out.later (B := w4.alloc _) (new_ (Below.refl _ _) _)) (by decide) (ROW4.out.sc (Sc.of_below (new_ (Below.refl _ _) _))) L5.out.2.2.2 (by have := G4.out; omega) OWN5.out HG5.out (by have := HB4.out.size; omega)
      have T6 := (T5.set_far (p := ⟨w1.heap.size + 1, 0, none⟩) L5.out.2.2.1 (.slice (some ⟨g5, 0, none⟩) (ls.length + 1) cap5)).more (top' := (w5.setCell ⟨w1.heap.size + 1, 0, none⟩ (.slice (some ⟨g5, 0, none⟩) (ls.length + 1) cap5)).heap.size) (by simp [World.setCell])
      exact T6
    · rw [List.map_append, List.map_append, LS.out]; rfl
  case done =>
    rintro D ys W hD rfl ⟨⟨v, ls, hbx, htab, hls⟩, hfr⟩ hK
    have hll : ls.length = 4 := by have := congrArg List.length hls; simpa [upto, pcs] using this
    rcases htab.value with ⟨_, e⟩ | ⟨g, cap, rfl, hg1, hg2⟩
    · rw [e] at hll; cases hll
    rw [hll] at *
    have c6 := hbx.cell 0
    have TB := Lib.hid (htab.sc (sc_put (.deferred none) hK rfl))
    gi_wp2
    refine ⟨by simp, .inl ⟨_, _, rfl, run_takeDeferred hK, ?_⟩⟩
    refine ⟨_, results_tmp rfl _ _ _, _, ls, rfl, ?_, ?_, ?_⟩
    · exact (TB.out.lower (by have := HBW0.out.size; exact this)).more (by simp)
    · exact hls
    · exact (HBW0.out.trans (hfr.to_below (fun k hk => by have := HS0.out; have := HB1.out.size; omega) HBW0.out.size)).trans (belowK_b (w := w0) HBW0.out.size W D _ _ hD hK rfl rfl)
  case stop =>
    rintro D c pre W _ _ h _
    exact h.elim
end Go.Proofs.Ytacjbgkcghcnnaa.Seal
