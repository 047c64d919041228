import Derived.Test.YtneaehimdmachaaRule8
/- An operation that mints coins: what it comes to. -/
namespace Go.Proofs.Ytneaehimdmachaa.Rule
open Go.ChangeShapes Go.WideShapes Go.ChangeAt Go.RowKit Go.IntWalk Go.Proofs.Mem
set_option linter.unusedVariables false
theorem own_one {W : World} {base size : Nat} {e : TypeId} {v : Value} {us : List Value} {n : Nat} (h : W.ownsRow base e size v (n + 1) us) : ∃ g c, v = .slice (some ⟨g, 0, none⟩) (n + 1) c := by
  rcases h.2 with ⟨_, hn⟩ | ⟨g, cap, cur, rfl, _⟩
  · omega
  · exact ⟨g, cap, rfl⟩
set_option maxRecDepth 100000 in
set_option maxHeartbeats 4000000 in
theorem run_mint_hit (w : World) (wh wm wt id n pr : Int) (h0 : wh ≠ 0) (hn0 : n ≠ 0) (b0 o0 l c : Nat) (hi : 0 < l) (hl : l ≤ c) (hm : c ≤ 9223372036854775807)
    (k' a' b' A B : Int) (hc : CellAt w b0 o0 k' a' b' A B true) (hA : 0 ≤ A) (hn : 0 ≤ n) (hs : A + n ≤ 4611686018427387904) :
    RunEx #[.int .u8 2, .int .u32 wh, .int .u32 wm, .int .u32 wt, .int .u32 id, .int .u64 n, .int .u64 pr] (.slice (some ⟨b0, o0, none⟩) l c) w 0 (A + n) 0 0 0 0 0 false (fun v W => W.ownsRow (w.heap.size + 3) 51 6 v 1 (putCells [Pu.mk 1 wh 0 (A + n) 0 false])) := by
  have hmf : ∀ (fn : Fn) (first cap : Array Value) (w : World), (Instr.makeFunc fn first cap).run Try.prog w = .ok (.func fn first cap) w := fun _ _ _ _ => rfl
  have hbl := Law.lt_of_cell hc.h0
  dsimp only at hbl
  obtain ⟨hb1, hb2⟩ := work_new w #[.int .u8 2, .int .u32 wh, .int .u32 wm, .int .u32 wt, .int .u32 id, .int .u64 n, .int .u64 pr] ⟨2, wh, wm, wt, id, n, pr⟩ (.slice (some ⟨b0, o0, none⟩) l c)
  have hc2 : CellAt (((w.alloc (.cells #[.int .u8 2, .int .u32 wh, .int .u32 wm, .int .u32 wt, .int .u32 id, .int .u64 n, .int .u64 pr] 32)).alloc (.cells out0 57)).alloc (.cells (wk ⟨2, wh, wm, wt, id, n, pr⟩ (.slice (some ⟨b0, o0, none⟩) l c) 0 (.slice none 0 0)) 63)) b0 (o0 + 0 * 6) k' a' b' A B true := by
    rw [Nat.zero_mul, Nat.add_zero]
    exact hc.below (new_ (new_ (new_ (Below.refl w.heap.size w) _) _) _) hbl
  have call1 := chk_mint _ _ _ _ _ _ _ _ _ _ _ _ hb2 h0 rfl hn0
  have call2 := do_mint_hit _ _ wh wm wt id n pr b0 o0 l c 0 _ (w.heap.size + 3) [] hb2 hi hl hm k' a' b' A B (by omega) hc2 hA hn hs (World.ownsRow_nil _ _ _ _) (by omega) (by simp) (by simp)
  dsimp only [wk, out0] at call1 call2 hb1
  have CALL1 := Lib.hid call1
  have CALL2 := Lib.hid call2
  have HB1 := Lib.hid hb1
  clear hb1 hb2 call1 call2 hc2 hc
  unfold RunEx
  go_enter_defers Try.func30, Try.ntmps30
  go_wp2_with (first
    | (go_at_call 32; (with_reducible refine CALL1.out.mono ?_); rintro en w1 ⟨rfl, rfl⟩)
    | (go_at_call 33; (with_reducible refine CALL2.out.mono ?_); rintro en w1 ⟨rfl, p', wb, ow, f1⟩; obtain ⟨gp, cp, rfl⟩ := own_one ow; have WB := Lib.hid wb; have OW := Lib.hid ow; have F1 := Lib.hid f1; have OB := Lib.hid (HB1.out.fr f1 (fun h => h.elim (fun h => by omega) (fun h => by cases h))); have hz3 : w.heap.size + 3 ≤ w1.heap.size := (by have := f1.size; simp at this; omega); clear wb ow f1))
  obtain ⟨W2, hW2⟩ : ∃ W2, w1.alloc (.cells #[.int .u16 0, .int .u64 (A + n), .int .u64 0, .int .u64 0] 41) = W2 := ⟨_, rfl⟩
  have bw := OB.out.alloc (.cells #[.int .u16 0, .int .u64 (A + n), .int .u64 0, .int .u64 0] 41)
  have c9 : W2.cell? ⟨w.heap.size + 1 + 1, 9, none⟩ = some (.slice (some ⟨gp, 0, none⟩) 1 cp) := by
    rw [← hW2]; exact (WB.out.alloc _).cell 9
  have rb : Box W2 w1.heap.size #[.int .u16 0, .int .u64 (A + n), .int .u64 0, .int .u64 0] 41 := by rw [← hW2]; exact Box.new _ _ _
  have hb3 := Lib.hid (show Below w.heap.size w W2 by rw [← hW2]; exact new_ ((new_ (new_ (new_ (Below.refl w.heap.size w) _) _) _).trans (F1.out.to_below (fun k hk => hk.elim (fun h => by omega) (fun h => by cases h)) (by simp; omega))) _)
  have OW2 := Lib.hid (show W2.ownsRow (w.heap.size + 3) 51 6 (.slice (some ⟨gp, 0, none⟩) 1 cp) 1 (putCells [Pu.mk 1 wh 0 (A + n) 0 false]) by rw [← hW2]; exact own_below OW.out (new_ (Below.refl _ _) _))
  have r0 := rb.cell 0
  have r1 := rb.cell 1
  have r2 := rb.cell 2
  have r3 := rb.cell 3
  rw [hW2] at bw ⊢
  have BW := Lib.hid bw
  have k0 := bw.cell 0
  have f0 := bw.frozen 0
  have k1 := bw.cell 1
  have f1 := bw.frozen 1
  have k2 := bw.cell 2
  have f2 := bw.frozen 2
  have k3 := bw.cell 3
  have f3 := bw.frozen 3
  have k4 := bw.cell 4
  have f4 := bw.frozen 4
  have k5 := bw.cell 5
  have f5 := bw.frozen 5
  have k6 := bw.cell 6
  have f6 := bw.frozen 6
  have k7 := bw.cell 7
  have f7 := bw.frozen 7
  have k8 := bw.cell 8
  have f8 := bw.frozen 8
  simp only [List.getElem?_toArray, List.getElem?_cons_zero, List.getElem?_cons_succ] at k0 k1 k2 k3 k4 k5 k6 k7 k8 r0 r1 r2 r3
  clear bw rb hW2
  go_region
  all_goals
    go_wp2
    generalize hW : (World.setCell _ (⟨w.heap.size + 1, 8, none⟩ : Addr) _) = W9
    have hb9 : Box W9 (w.heap.size + 1) (outc (.slice (some ⟨gp, 0, none⟩) 1 cp) 0 (A + n) 0 0 0 0 0 false) 57 := by rw [← hW]; exact (((((((((BW.out.set_ 0 _).set_ 1 _).set_ 2 _).set_ 3 _).set_ 4 _).set_ 5 _).set_ 6 _).set_ 7 _).set_ 8 _)
    have hf9 : Fr (fun k => k = w.heap.size + 1) W2 W9 := by rw [← hW]; exact ((((((((((Fr.refl (fun k => k = w.heap.size + 1) W2).setCell (p := ⟨w.heap.size + 1, 0, none⟩) (.inl rfl) _).setCell (p := ⟨w.heap.size + 1, 1, none⟩) (.inl rfl) _).setCell (p := ⟨w.heap.size + 1, 2, none⟩) (.inl rfl) _).setCell (p := ⟨w.heap.size + 1, 3, none⟩) (.inl rfl) _).setCell (p := ⟨w.heap.size + 1, 4, none⟩) (.inl rfl) _).setCell (p := ⟨w.heap.size + 1, 5, none⟩) (.inl rfl) _).setCell (p := ⟨w.heap.size + 1, 6, none⟩) (.inl rfl) _).setCell (p := ⟨w.heap.size + 1, 7, none⟩) (.inl rfl) _).setCell (p := ⟨w.heap.size + 1, 8, none⟩) (.inl rfl) _)
    clear hW k0 k1 k2 k3 k4 k5 k6 k7 k8
    refine leaves_cons (f := 31) (args := #[.pointer (some ⟨w.heap.size + 1, 0, none⟩)]) (by simp) (by simp [go_sem]) ?_
    refine (catch_none (w.heap.size + 1) _).mono ?_
    rintro en u' w'' ⟨rfl, rfl, rfl⟩
    obtain ⟨k0, k1, k2, k3, k4, k5, k6, k7, k8⟩ := oc_of (hbx := hb9)
    refine ⟨.agg (outc (.slice (some ⟨gp, 0, none⟩) 1 cp) 0 (A + n) 0 0 0 0 0 false), ?_, _, _, _, rfl, ?_, ?_⟩
    · simp [results, Try.results30, go_sem, k0, k1, k2, k3, k4, k5, k6, k7, k8, outc]
    · exact own_frs (S := fun k => k = w.heap.size + 1) OW2.out hf9.drew (fun x hx h => own_not_box OW2.out BW.out (by decide) (by rw [hx, h]))
    · exact Below.drew (hb3.out.trans (hf9.to_below (fun k hk => by rw [hk]; omega) hb3.out.size))
end Go.Proofs.Ytneaehimdmachaa.Rule
