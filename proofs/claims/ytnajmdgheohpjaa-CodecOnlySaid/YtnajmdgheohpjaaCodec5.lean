import Derived.Test.YtnajmdgheohpjaaCodec1
import Derived.Test.YtnajmdgheohpjaaBox
import Derived.Test.YtnajmdgheohpjaaEach6
/- A reply as bytes -/
namespace Go.Proofs.Ytnajmdgheohpjaa.Codec
open Go.ChangeShapes Go.WideShapes Go.ChangeAt Go.RowKit Go.IntWalk Go.Proofs.NumMath Go.Proofs.Mem NumBytes Go.Proofs.Each
set_option linter.unusedVariables false
def SRF (W : World) (v : Value) (xs : List Int) : Prop := ∃ us, SR W W.heap.size v us ∧ us.length ≤ 9 ∧ flat us = xs
theorem SR.later {w w' : World} {v : Value} {us : List (Value × List Int)} (h : SR w w.heap.size v us) (hb : Below w.heap.size w w') : SR w' w'.heap.size v us := by
  obtain ⟨A, c, h1, h2, h3, h4⟩ := h
  refine ⟨A, c, h1, h2, h3, fun i hi => ?_⟩
  obtain ⟨b, off, u, xs, e, hlt, hu, hc, hr, hx⟩ := h4 i hi
  exact ⟨b, off, u, xs, e, Nat.lt_of_lt_of_le hlt hb.size, hu, (hb.cell (p := ⟨b, off + i, none⟩) hlt).trans hc, (hr.below hb).more hb.size, hx⟩
theorem stays_SRF (xs : List Int) : Stays (fun v W => SRF W v xs) := by
  rintro v W W' hb ⟨us, hs, hl, hf⟩
  exact ⟨us, SR.later hs hb, hl, hf⟩
set_option maxRecDepth 100000 in
set_option maxHeartbeats 8000000 in
theorem tell_any (r : Rp) (h : r.Ok) (w : World) : Calls Try.prog 16 #[.agg (cellsP r)] w fun e w' => ∃ u, e = .returned u ∧ IR w' w'.heap.size .u8 u (tellB r) ∧ Below w.heap.size w w' := by
  obtain ⟨⟨le, ue⟩, ⟨la, ua⟩, ⟨lb, ub⟩, ⟨lc, uc⟩⟩ := h
  obtain ⟨e, a, b, c⟩ := r
  dsimp only at *
  unfold cellsP tellB
  dsimp only
  have bx := Box.new w #[.int .u16 e, .int .u64 a, .int .u64 b, .int .u64 c] 41
  go_enter Try.func16, Try.ntmps16
  go_wp2
  refine wp_region_ob (by kernel_rfl) (by kernel_rfl) [(fun v _ => v = Value.pointer (some ⟨w.heap.size, 0, none⟩)), (fun v _ => v = Value.int .u16 e), (fun v _ => v = Value.int .u64 e), (fun v W => IR W W.heap.size .u8 v (putS e 2)), (fun v _ => v = Value.pointer (some ⟨w.heap.size, 1, none⟩)), (fun v _ => v = Value.int .u64 a), (fun v W => IR W W.heap.size .u8 v (putS a 8)), (fun v _ => v = Value.pointer (some ⟨w.heap.size, 2, none⟩)), (fun v _ => v = Value.int .u64 b), (fun v W => IR W W.heap.size .u8 v (putS b 8)), (fun v _ => v = Value.pointer (some ⟨w.heap.size, 3, none⟩)), (fun v _ => v = Value.int .u64 c), (fun v W => IR W W.heap.size .u8 v (putS c 8)), (fun v W => SRF W v (putS e 2 ++ (putS a 8 ++ (putS b 8 ++ (putS c 8))))), (fun v W => IR W W.heap.size .u8 v (putS e 2 ++ (putS a 8 ++ (putS b 8 ++ (putS c 8))))), (fun v W => IR W W.heap.size .u8 v (putS e 2 ++ (putS a 8 ++ (putS b 8 ++ (putS c 8)))))] ⟨stays_eq _, stays_eq _, stays_eq _, stays_IR _ _, stays_eq _, stays_eq _, stays_IR _ _, stays_eq _, stays_eq _, stays_IR _ _, stays_eq _, stays_eq _, stays_IR _ _, stays_SRF _, stays_IR _ _, stays_IR _ _, trivial⟩ (fun vals => ?_) (fun vals W hbW hall => ?_)
  · simp only [ObF, Act.put, List.setIfInBounds_toArray, List.set_cons_succ, List.set_cons_zero]
    refine ⟨?_, ?_, ?_, ?_, ?_, ?_, ?_, ?_, ?_, ?_, ?_, ?_, ?_, ?_, ?_, ?_, trivial⟩
    · intro W hbW hw
      clear hw
      refine step_plain rfl ?_
      go_simp
      (first | exact Below.refl _ _ | exact ⟨Below.refl _ _, rfl⟩ | exact ⟨_, rfl, Below.refl _ _, rfl⟩)
    · intro W hbW hw
      have f0 : vals 0 = Value.pointer (some ⟨w.heap.size, 0, none⟩) := hw ⟨0, .data⟩ (by simp) rfl
      clear hw
      refine step_plain rfl ?_
      have cc : W.cell? ⟨w.heap.size, 0, none⟩ = some (.int .u16 e) := (bx.later hbW).cell 0
      go_simp
      (first | exact Below.refl _ _ | exact ⟨Below.refl _ _, rfl⟩ | exact ⟨_, rfl, Below.refl _ _, rfl⟩)
    · intro W hbW hw
      have f1 : vals 1 = Value.int .u16 e := hw ⟨1, .data⟩ (by simp) rfl
      clear hw
      refine step_plain rfl ?_
      have hwr : IntKind.u64.wrap e = e := by rw [IntKind.wrap_u64]; omega
      go_simp
      (first | exact Below.refl _ _ | exact ⟨Below.refl _ _, rfl⟩ | exact ⟨_, rfl, Below.refl _ _, rfl⟩)
    · intro W hbW hw
      have f2 : vals 2 = Value.int .u64 e := hw ⟨2, .data⟩ (by simp) rfl
      clear hw
      refine step_plain rfl ?_
      go_simp
      refine (put_any e 2 le (by omega) (by omega) (by omega) _).mono ?_
      rintro e W1 ⟨v, rfl, hown, hbl⟩
      exact ⟨hbl, IR.of_own hown⟩
    · intro W hbW hw
      clear hw
      refine step_plain rfl ?_
      go_simp
      (first | exact Below.refl _ _ | exact ⟨Below.refl _ _, rfl⟩ | exact ⟨_, rfl, Below.refl _ _, rfl⟩)
    · intro W hbW hw
      have f4 : vals 4 = Value.pointer (some ⟨w.heap.size, 1, none⟩) := hw ⟨4, .data⟩ (by simp) rfl
      clear hw
      refine step_plain rfl ?_
      have cc : W.cell? ⟨w.heap.size, 1, none⟩ = some (.int .u64 a) := (bx.later hbW).cell 1
      go_simp
      (first | exact Below.refl _ _ | exact ⟨Below.refl _ _, rfl⟩ | exact ⟨_, rfl, Below.refl _ _, rfl⟩)
    · intro W hbW hw
      have f5 : vals 5 = Value.int .u64 a := hw ⟨5, .data⟩ (by simp) rfl
      have f3 : IR W W.heap.size .u8 (vals 3) (putS e 2) := hw ⟨3, .chain⟩ (by simp) rfl
      clear hw
      refine step_plain rfl ?_
      go_simp
      refine (put_any a 8 la (by omega) (by omega) (by omega) _).mono ?_
      rintro e W1 ⟨v, rfl, hown, hbl⟩
      exact ⟨hbl, IR.of_own hown⟩
    · intro W hbW hw
      clear hw
      refine step_plain rfl ?_
      go_simp
      (first | exact Below.refl _ _ | exact ⟨Below.refl _ _, rfl⟩ | exact ⟨_, rfl, Below.refl _ _, rfl⟩)
    · intro W hbW hw
      have f7 : vals 7 = Value.pointer (some ⟨w.heap.size, 2, none⟩) := hw ⟨7, .data⟩ (by simp) rfl
      clear hw
      refine step_plain rfl ?_
      have cc : W.cell? ⟨w.heap.size, 2, none⟩ = some (.int .u64 b) := (bx.later hbW).cell 2
      go_simp
      (first | exact Below.refl _ _ | exact ⟨Below.refl _ _, rfl⟩ | exact ⟨_, rfl, Below.refl _ _, rfl⟩)
    · intro W hbW hw
      have f8 : vals 8 = Value.int .u64 b := hw ⟨8, .data⟩ (by simp) rfl
      have f6 : IR W W.heap.size .u8 (vals 6) (putS a 8) := hw ⟨6, .chain⟩ (by simp) rfl
      clear hw
      refine step_plain rfl ?_
      go_simp
      refine (put_any b 8 lb (by omega) (by omega) (by omega) _).mono ?_
      rintro e W1 ⟨v, rfl, hown, hbl⟩
      exact ⟨hbl, IR.of_own hown⟩
    · intro W hbW hw
      clear hw
      refine step_plain rfl ?_
      go_simp
      (first | exact Below.refl _ _ | exact ⟨Below.refl _ _, rfl⟩ | exact ⟨_, rfl, Below.refl _ _, rfl⟩)
    · intro W hbW hw
      have f10 : vals 10 = Value.pointer (some ⟨w.heap.size, 3, none⟩) := hw ⟨10, .data⟩ (by simp) rfl
      clear hw
      refine step_plain rfl ?_
      have cc : W.cell? ⟨w.heap.size, 3, none⟩ = some (.int .u64 c) := (bx.later hbW).cell 3
      go_simp
      (first | exact Below.refl _ _ | exact ⟨Below.refl _ _, rfl⟩ | exact ⟨_, rfl, Below.refl _ _, rfl⟩)
    · intro W hbW hw
      have f11 : vals 11 = Value.int .u64 c := hw ⟨11, .data⟩ (by simp) rfl
      have f9 : IR W W.heap.size .u8 (vals 9) (putS b 8) := hw ⟨9, .chain⟩ (by simp) rfl
      clear hw
      refine step_plain rfl ?_
      go_simp
      refine (put_any c 8 lc (by omega) (by omega) (by omega) _).mono ?_
      rintro e W1 ⟨v, rfl, hown, hbl⟩
      exact ⟨hbl, IR.of_own hown⟩
    · intro W hbW hw
      have f3 : IR W W.heap.size .u8 (vals 3) (putS e 2) := hw ⟨3, .data⟩ (by simp) rfl
      have f6 : IR W W.heap.size .u8 (vals 6) (putS a 8) := hw ⟨6, .data⟩ (by simp) rfl
      have f9 : IR W W.heap.size .u8 (vals 9) (putS b 8) := hw ⟨9, .data⟩ (by simp) rfl
      have f12 : IR W W.heap.size .u8 (vals 12) (putS c 8) := hw ⟨12, .data⟩ (by simp) rfl
      clear hw
      refine step_plain rfl ?_
      obtain ⟨A3, c3, e3, _, _⟩ := f3.form
      rw [putS_len] at e3
      rw [e3] at f3
      obtain ⟨A6, c6, e6, _, _⟩ := f6.form
      rw [putS_len] at e6
      rw [e6] at f6
      obtain ⟨A9, c9, e9, _, _⟩ := f9.form
      rw [putS_len] at e9
      rw [e9] at f9
      obtain ⟨A12, c12, e12, _, _⟩ := f12.form
      rw [putS_len] at e12
      rw [e12] at f12
      go_simp
      refine ⟨(Below.refl _ _).alloc (Nat.le_refl _) _, [(.slice A3 2 c3, putS e 2), (.slice A6 8 c6, putS a 8), (.slice A9 8 c9, putS b 8), (.slice A12 8 c12, putS c 8)], ?_, by simp, by simp [flat]⟩
      have hs := SR.lit W [(.slice A3 2 c3, putS e 2), (.slice A6 8 c6, putS a 8), (.slice A9 8 c9, putS b 8), (.slice A12 8 c12, putS c 8)] 28 W.heap.size W.heap.size rfl (Nat.le_refl _) (by simp) ?_
      · simpa using hs
      · intro p hp
        simp only [List.mem_cons, List.not_mem_nil, or_false] at hp
        rcases hp with rfl | rfl | rfl | rfl
        all_goals exact ⟨by assumption, putS_bytes _ _⟩
    · intro W hbW hw
      have f13 : SRF W (vals 13) (putS e 2 ++ (putS a 8 ++ (putS b 8 ++ (putS c 8)))) := hw ⟨13, .data⟩ (by simp) rfl
      have f12 : IR W W.heap.size .u8 (vals 12) (putS c 8) := hw ⟨12, .chain⟩ (by simp) rfl
      clear hw
      refine step_plain rfl ?_
      obtain ⟨us, hs, hl, hfl⟩ := f13
      go_simp
      refine (concat_any _ us _ hs (by omega) (by rw [hfl]; simp [putS_len]) (by rw [hfl]; simp [putS_len])).mono ?_
      rintro e W1 ⟨v, rfl, hown, hbl⟩
      rw [hfl] at hown
      exact ⟨hbl, IR.of_own hown⟩
    · intro W hbW hw
      have f14 : IR W W.heap.size .u8 (vals 14) (putS e 2 ++ (putS a 8 ++ (putS b 8 ++ (putS c 8)))) := hw ⟨14, .data⟩ (by simp) rfl
      have f0 : vals 0 = Value.pointer (some ⟨w.heap.size, 0, none⟩) := hw ⟨0, .phase⟩ (by simp) rfl
      have f1 : vals 1 = Value.int .u16 e := hw ⟨1, .phase⟩ (by simp) rfl
      have f2 : vals 2 = Value.int .u64 e := hw ⟨2, .phase⟩ (by simp) rfl
      have f3 : IR W W.heap.size .u8 (vals 3) (putS e 2) := hw ⟨3, .phase⟩ (by simp) rfl
      have f4 : vals 4 = Value.pointer (some ⟨w.heap.size, 1, none⟩) := hw ⟨4, .phase⟩ (by simp) rfl
      have f5 : vals 5 = Value.int .u64 a := hw ⟨5, .phase⟩ (by simp) rfl
      have f6 : IR W W.heap.size .u8 (vals 6) (putS a 8) := hw ⟨6, .phase⟩ (by simp) rfl
      have f7 : vals 7 = Value.pointer (some ⟨w.heap.size, 2, none⟩) := hw ⟨7, .phase⟩ (by simp) rfl
      have f8 : vals 8 = Value.int .u64 b := hw ⟨8, .phase⟩ (by simp) rfl
      have f9 : IR W W.heap.size .u8 (vals 9) (putS b 8) := hw ⟨9, .phase⟩ (by simp) rfl
      have f10 : vals 10 = Value.pointer (some ⟨w.heap.size, 3, none⟩) := hw ⟨10, .phase⟩ (by simp) rfl
      have f11 : vals 11 = Value.int .u64 c := hw ⟨11, .phase⟩ (by simp) rfl
      have f12 : IR W W.heap.size .u8 (vals 12) (putS c 8) := hw ⟨12, .phase⟩ (by simp) rfl
      have f13 : SRF W (vals 13) (putS e 2 ++ (putS a 8 ++ (putS b 8 ++ (putS c 8)))) := hw ⟨13, .phase⟩ (by simp) rfl
      clear hw
      refine step_plain rfl ?_
      go_simp
      (first | exact Below.refl _ _ | exact ⟨Below.refl _ _, by assumption⟩ | exact ⟨_, rfl, Below.refl _ _, by assumption⟩)
  · simp only [TL, Act.put, List.setIfInBounds_toArray, List.set_cons_succ, List.set_cons_zero]
    have f0 : vals 0 = Value.pointer (some ⟨w.heap.size, 0, none⟩) := hall 0 (by decide)
    have f1 : vals 1 = Value.int .u16 e := hall 1 (by decide)
    have f2 : vals 2 = Value.int .u64 e := hall 2 (by decide)
    have f3 : IR W W.heap.size .u8 (vals 3) (putS e 2) := hall 3 (by decide)
    have f4 : vals 4 = Value.pointer (some ⟨w.heap.size, 1, none⟩) := hall 4 (by decide)
    have f5 : vals 5 = Value.int .u64 a := hall 5 (by decide)
    have f6 : IR W W.heap.size .u8 (vals 6) (putS a 8) := hall 6 (by decide)
    have f7 : vals 7 = Value.pointer (some ⟨w.heap.size, 2, none⟩) := hall 7 (by decide)
    have f8 : vals 8 = Value.int .u64 b := hall 8 (by decide)
    have f9 : IR W W.heap.size .u8 (vals 9) (putS b 8) := hall 9 (by decide)
    have f10 : vals 10 = Value.pointer (some ⟨w.heap.size, 3, none⟩) := hall 10 (by decide)
    have f11 : vals 11 = Value.int .u64 c := hall 11 (by decide)
    have f12 : IR W W.heap.size .u8 (vals 12) (putS c 8) := hall 12 (by decide)
    have f13 : SRF W (vals 13) (putS e 2 ++ (putS a 8 ++ (putS b 8 ++ (putS c 8)))) := hall 13 (by decide)
    have f14 : IR W W.heap.size .u8 (vals 14) (putS e 2 ++ (putS a 8 ++ (putS b 8 ++ (putS c 8)))) := hall 14 (by decide)
    have f15 : IR W W.heap.size .u8 (vals 15) (putS e 2 ++ (putS a 8 ++ (putS b 8 ++ (putS c 8)))) := hall 15 (by decide)
    clear hall
    simp only [f0, f1, f2, f4, f5, f7, f8, f10, f11]
    clear f0 f1 f2 f4 f5 f7 f8 f10 f11
    go_wp2
    go_ret
    exact ⟨_, rfl, f15, step_ (new_ (Below.refl w.heap.size w) _) hbW⟩
end Go.Proofs.Ytnajmdgheohpjaa.Codec
