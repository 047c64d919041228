import Derived.Test.YtneaehimdmachaaRm1
namespace Go.Proofs.Ytneaehimdmachaa.Rule
open Go.ChangeShapes Go.WideShapes Go.ChangeAt Go.RowKit Go.IntWalk Go.Proofs.Mem
set_option linter.unusedVariables false
set_option linter.unusedSimpArgs false
theorem own_form {W : World} {base n size : Nat} {e : TypeId} {v : Value} {us : List Value} (h : W.ownsRow base e size v n us) : ∃ A l c, v = .slice A l c := by
  rcases h.2 with ⟨rfl, _⟩ | ⟨g, cap, cur, rfl, _⟩
  · exact ⟨none, 0, 0, rfl⟩
  · exact ⟨_, _, _, rfl⟩
abbrev DoIs (w : World) (q : Ot) (v : Value) (m : Om Rp) (seen : List Ce) : Prop :=
  ∀ W, WorkAt W (w.heap.size + 1 + 1) q v 0 (.slice none 0 0) → Below w.heap.size w W → w.heap.size + 3 ≤ W.heap.size → Calls Try.prog 33 #[.pointer (some ⟨w.heap.size + 1 + 1, 0, none⟩)] W (Did W (w.heap.size + 1 + 1) q v (w.heap.size + 3) 0 (.slice none 0 0) [] seen m Rp.enc)
abbrev CkIs (q : Ot) (v : Value) (x : Option Int) : Prop := ∀ W g, WorkAt W g q v 0 (.slice none 0 0) → Calls Try.prog 32 #[.pointer (some ⟨g, 0, none⟩)] W (CkQ x W)
set_option maxRecDepth 100000 in
set_option maxHeartbeats 4000000 in
theorem run_do_err (w : World) (kd wh wm wt id n pr : Int) (A : Option Addr) (l c : Nat) (m : Om Rp) (seen : List Ce) (x : Int) (hr : runOm seen m 0 [] = .err x) (hck : CkIs ⟨kd, wh, wm, wt, id, n, pr⟩ (.slice A l c) none) (hdo : DoIs w ⟨kd, wh, wm, wt, id, n, pr⟩ (.slice A l c) m seen) :
    RunIs #[.int .u8 kd, .int .u32 wh, .int .u32 wm, .int .u32 wt, .int .u32 id, .int .u64 n, .int .u64 pr] (.slice A l c) w none 0 0 x 0 0 0 0 0 0 false (fun _ => True) := by
  have hmf : ∀ (fn : Fn) (first cap : Array Value) (w : World), (Instr.makeFunc fn first cap).run Try.prog w = .ok (.func fn first cap) w := fun _ _ _ _ => rfl
  obtain ⟨hb1, hb2⟩ := work_new w #[.int .u8 kd, .int .u32 wh, .int .u32 wm, .int .u32 wt, .int .u32 id, .int .u64 n, .int .u64 pr] ⟨kd, wh, wm, wt, id, n, pr⟩ (.slice A l c)
  have call1 := hck _ _ hb2
  have DO := Lib.hid (fun (W : World) (h1 : Below (((w.alloc (.cells #[.int .u8 kd, .int .u32 wh, .int .u32 wm, .int .u32 wt, .int .u32 id, .int .u64 n, .int .u64 pr] 32)).alloc (.cells out0 57)).alloc (.cells (wk ⟨kd, wh, wm, wt, id, n, pr⟩ (.slice A l c) 0 (.slice none 0 0)) 63)).heap.size (((w.alloc (.cells #[.int .u8 kd, .int .u32 wh, .int .u32 wm, .int .u32 wt, .int .u32 id, .int .u64 n, .int .u64 pr] 32)).alloc (.cells out0 57)).alloc (.cells (wk ⟨kd, wh, wm, wt, id, n, pr⟩ (.slice A l c) 0 (.slice none 0 0)) 63)) W) => hdo W (hb2.later h1) ((new_ (new_ (new_ (Below.refl w.heap.size w) _) _) _).trans (h1.mono (by simp; omega))) (by have := h1.size; simp at this; omega))
  unfold Did at DO
  rw [hr] at DO
  dsimp only [wk, out0] at call1 hb1 DO
  have CALL1 := Lib.hid call1
  have HB1 := Lib.hid hb1
  clear hck hdo hr hb1 hb2 call1
  unfold CkQ at CALL1
  unfold RunIs
  go_enter_defers Try.func30, Try.ntmps30
  go_wp2_with fail
  (with_reducible refine CALL1.out.mono ?_)
  rintro en w1 ⟨rfl, hk1⟩
  have HK1 := Lib.hid hk1
  have CALL2 := Lib.hid (DO.out w1 hk1)
  clear hk1
  go_wp2_with fail
  (with_reducible refine CALL2.out.mono ?_)
  rintro en w2 ⟨rfl, hk2⟩
  refine leaves_cons (f := 31) (args := #[.pointer (some ⟨w.heap.size + 1, 0, none⟩)]) (by simp) (by simp [go_sem]) ?_
  refine (catch_err (w.heap.size + 1) x _ ((HB1.out.later HK1.out).below hk2 (by omega))).mono ?_
  rintro en u' w'' ⟨rfl, rfl, hbx, hfr⟩
  obtain ⟨k0, k1, k2, k3, k4, k5, k6, k7, k8⟩ := oc_of (hbx := hbx)
  have HB := Lib.hid (show Below w.heap.size w w'' from (((new_ (new_ (new_ (Below.refl w.heap.size w) _) _) _).trans (HK1.out.mono (by simp; omega))).trans (hk2.mono (by omega))).trans (hfr.to_below (fun k hk => by rw [hk]; omega) (by have := HK1.out.size; have := hk2.size; simp at *; omega)))
  refine ⟨.agg (outE x), ?_, rfl, trivial, HB.out⟩
  simp [results, Try.results30, go_sem, k0, k1, k2, k3, k4, k5, k6, k7, k8, outE]
set_option maxRecDepth 100000 in
set_option maxHeartbeats 4000000 in
theorem run_do_miss (w : World) (kd wh wm wt id n pr : Int) (A : Option Addr) (l c : Nat) (m : Om Rp) (seen : List Ce) (k a b : Int) (hr : runOm seen m 0 [] = .miss k a b) (hck : CkIs ⟨kd, wh, wm, wt, id, n, pr⟩ (.slice A l c) none) (hdo : DoIs w ⟨kd, wh, wm, wt, id, n, pr⟩ (.slice A l c) m seen) :
    RunIs #[.int .u8 kd, .int .u32 wh, .int .u32 wm, .int .u32 wt, .int .u32 id, .int .u64 n, .int .u64 pr] (.slice A l c) w none 0 0 0 0 0 0 k a b true (fun _ => True) := by
  have hmf : ∀ (fn : Fn) (first cap : Array Value) (w : World), (Instr.makeFunc fn first cap).run Try.prog w = .ok (.func fn first cap) w := fun _ _ _ _ => rfl
  obtain ⟨hb1, hb2⟩ := work_new w #[.int .u8 kd, .int .u32 wh, .int .u32 wm, .int .u32 wt, .int .u32 id, .int .u64 n, .int .u64 pr] ⟨kd, wh, wm, wt, id, n, pr⟩ (.slice A l c)
  have call1 := hck _ _ hb2
  have DO := Lib.hid (fun (W : World) (h1 : Below (((w.alloc (.cells #[.int .u8 kd, .int .u32 wh, .int .u32 wm, .int .u32 wt, .int .u32 id, .int .u64 n, .int .u64 pr] 32)).alloc (.cells out0 57)).alloc (.cells (wk ⟨kd, wh, wm, wt, id, n, pr⟩ (.slice A l c) 0 (.slice none 0 0)) 63)).heap.size (((w.alloc (.cells #[.int .u8 kd, .int .u32 wh, .int .u32 wm, .int .u32 wt, .int .u32 id, .int .u64 n, .int .u64 pr] 32)).alloc (.cells out0 57)).alloc (.cells (wk ⟨kd, wh, wm, wt, id, n, pr⟩ (.slice A l c) 0 (.slice none 0 0)) 63)) W) => hdo W (hb2.later h1) ((new_ (new_ (new_ (Below.refl w.heap.size w) _) _) _).trans (h1.mono (by simp; omega))) (by have := h1.size; simp at this; omega))
  unfold Did at DO
  rw [hr] at DO
  dsimp only [wk, out0] at call1 hb1 DO
  have CALL1 := Lib.hid call1
  have HB1 := Lib.hid hb1
  clear hck hdo hr hb1 hb2 call1
  unfold CkQ at CALL1
  unfold RunIs
  go_enter_defers Try.func30, Try.ntmps30
  go_wp2_with fail
  (with_reducible refine CALL1.out.mono ?_)
  rintro en w1 ⟨rfl, hk1⟩
  have HK1 := Lib.hid hk1
  have CALL2 := Lib.hid (DO.out w1 hk1)
  clear hk1
  go_wp2_with fail
  (with_reducible refine CALL2.out.mono ?_)
  rintro en w2 ⟨rfl, hk2⟩
  refine leaves_cons (f := 31) (args := #[.pointer (some ⟨w.heap.size + 1, 0, none⟩)]) (by simp) (by simp [go_sem]) ?_
  refine (catch_key (w.heap.size + 1) k a b _ ((HB1.out.later HK1.out).below hk2 (by omega))).mono ?_
  rintro en u' w'' ⟨rfl, rfl, hbx, hfr⟩
  obtain ⟨k0, k1, k2, k3, k4, k5, k6, k7, k8⟩ := oc_of (hbx := hbx)
  have HB := Lib.hid (show Below w.heap.size w w'' from (((new_ (new_ (new_ (Below.refl w.heap.size w) _) _) _).trans (HK1.out.mono (by simp; omega))).trans (hk2.mono (by omega))).trans (hfr.to_below (fun k hk => by rw [hk]; omega) (by have := HK1.out.size; have := hk2.size; simp at *; omega)))
  refine ⟨.agg (outK k a b), ?_, rfl, trivial, HB.out⟩
  simp [results, Try.results30, go_sem, k0, k1, k2, k3, k4, k5, k6, k7, k8, outK]
set_option maxRecDepth 100000 in
set_option maxHeartbeats 4000000 in
theorem run_do_ok (w : World) (kd wh wm wt id n pr : Int) (A : Option Addr) (l c : Nat) (m : Om Rp) (seen : List Ce) (y : Rp × List Pu) (j : Nat) (hr : runOm seen m 0 [] = .ok y j) (hck : CkIs ⟨kd, wh, wm, wt, id, n, pr⟩ (.slice A l c) none) (hdo : DoIs w ⟨kd, wh, wm, wt, id, n, pr⟩ (.slice A l c) m seen) :
    RunEx #[.int .u8 kd, .int .u32 wh, .int .u32 wm, .int .u32 wt, .int .u32 id, .int .u64 n, .int .u64 pr] (.slice A l c) w 0 y.1.A y.1.B y.1.C 0 0 0 false (fun p W => W.ownsRow (w.heap.size + 3) 51 6 p y.2.length (putCells y.2)) := by
  have hmf : ∀ (fn : Fn) (first cap : Array Value) (w : World), (Instr.makeFunc fn first cap).run Try.prog w = .ok (.func fn first cap) w := fun _ _ _ _ => rfl
  obtain ⟨hb1, hb2⟩ := work_new w #[.int .u8 kd, .int .u32 wh, .int .u32 wm, .int .u32 wt, .int .u32 id, .int .u64 n, .int .u64 pr] ⟨kd, wh, wm, wt, id, n, pr⟩ (.slice A l c)
  have call1 := hck _ _ hb2
  have DO := Lib.hid (fun (W : World) (h1 : Below (((w.alloc (.cells #[.int .u8 kd, .int .u32 wh, .int .u32 wm, .int .u32 wt, .int .u32 id, .int .u64 n, .int .u64 pr] 32)).alloc (.cells out0 57)).alloc (.cells (wk ⟨kd, wh, wm, wt, id, n, pr⟩ (.slice A l c) 0 (.slice none 0 0)) 63)).heap.size (((w.alloc (.cells #[.int .u8 kd, .int .u32 wh, .int .u32 wm, .int .u32 wt, .int .u32 id, .int .u64 n, .int .u64 pr] 32)).alloc (.cells out0 57)).alloc (.cells (wk ⟨kd, wh, wm, wt, id, n, pr⟩ (.slice A l c) 0 (.slice none 0 0)) 63)) W) => hdo W (hb2.later h1) ((new_ (new_ (new_ (Below.refl w.heap.size w) _) _) _).trans (h1.mono (by simp; omega))) (by have := h1.size; simp at this; omega))
  unfold Did at DO
  rw [hr] at DO
  unfold Rp.enc at DO
  dsimp only [wk, out0] at call1 hb1 DO
  have CALL1 := Lib.hid call1
  have HB1 := Lib.hid hb1
  clear hck hdo hr hb1 hb2 call1
  unfold CkQ at CALL1
  unfold RunEx
  go_enter_defers Try.func30, Try.ntmps30
  go_wp2_with fail
  (with_reducible refine CALL1.out.mono ?_)
  rintro en w1 ⟨rfl, hk1⟩
  have HK1 := Lib.hid hk1
  have CALL2 := Lib.hid (DO.out w1 hk1)
  clear hk1
  go_wp2_with fail
  (with_reducible refine CALL2.out.mono ?_)
  rintro en w2 ⟨rfl, p', hst, hf, hnw⟩
  obtain ⟨Ap, lp, cp, rfl⟩ := own_form hst.own
  have hz2 : w.heap.size + 3 ≤ w2.heap.size := by have := HK1.out.size; have := hf.size; simp at *; omega
  have OB := Lib.hid ((HB1.out.later HK1.out).fr hf (by rintro (e | e); omega; cases e))
  have hbw : Below w.heap.size w w2 := ((new_ (new_ (new_ (Below.refl w.heap.size w) _) _) _).trans (HK1.out.mono (by simp; omega))).trans (hf.to_below (fun k hk => by rcases hk with e | e; omega; cases e) (by have := HK1.out.size; simp at *; omega))
  have WB := Lib.hid hst.wb
  have OW := Lib.hid hst.own
  have HBW := Lib.hid hbw
  clear hst hf hnw hbw CALL1 CALL2 DO HB1 HK1
  obtain ⟨W2, hW2⟩ : ∃ W2, w2.alloc (.cells #[.int .u16 0, .int .u64 y.1.A, .int .u64 y.1.B, .int .u64 y.1.C] 41) = W2 := ⟨_, rfl⟩
  have bw := OB.out.alloc (.cells #[.int .u16 0, .int .u64 y.1.A, .int .u64 y.1.B, .int .u64 y.1.C] 41)
  rw [hW2] at bw
  have c9 : W2.cell? ⟨w.heap.size + 1 + 1, 9, none⟩ = some (.slice Ap lp cp) := by
    rw [← hW2]; exact (WB.out.alloc _).cell 9
  have rb : Box W2 w2.heap.size #[.int .u16 0, .int .u64 y.1.A, .int .u64 y.1.B, .int .u64 y.1.C] 41 := by rw [← hW2]; exact Box.new _ _ _
  have hb3 := Lib.hid (show Below w.heap.size w W2 by rw [← hW2]; exact new_ HBW.out _)
  have OW2 := Lib.hid (show W2.ownsRow (w.heap.size + 3) 51 6 (.slice Ap lp cp) y.2.length (putCells y.2) by rw [← hW2]; exact own_below OW.out (new_ (Below.refl _ _) _))
  have r0 := rb.cell 0
  have r1 := rb.cell 1
  have r2 := rb.cell 2
  have r3 := rb.cell 3
  have HW2 := Lib.hid hW2
  clear hW2
  go_wp2
  try rw [HW2.out]
  have BW := Lib.hid bw
  have k0 := bw.cell 0
  have f0 := bw.frozen 0
  have k1 := bw.cell 1
  have f1 := bw.frozen 1
  have k2 := bw.cell 2
  have f2 := bw.frozen 2
  have k3 := bw.cell 3
  have f3 := bw.frozen 3
  have k4 := bw.cell 4
  have f4 := bw.frozen 4
  have k5 := bw.cell 5
  have f5 := bw.frozen 5
  have k6 := bw.cell 6
  have f6 := bw.frozen 6
  have k7 := bw.cell 7
  have f7 := bw.frozen 7
  have k8 := bw.cell 8
  have f8 := bw.frozen 8
  simp only [List.getElem?_toArray, List.getElem?_cons_zero, List.getElem?_cons_succ] at k0 k1 k2 k3 k4 k5 k6 k7 k8 r0 r1 r2 r3
  clear bw rb HW2
  go_region
  all_goals
    go_wp2
    generalize hW : (World.setCell _ (⟨w.heap.size + 1, 8, none⟩ : Addr) _) = W9
    have hb9 : Box W9 (w.heap.size + 1) (outc (.slice Ap lp cp) 0 y.1.A y.1.B y.1.C 0 0 0 false) 57 := by rw [← hW]; exact (((((((((BW.out.set_ 0 _).set_ 1 _).set_ 2 _).set_ 3 _).set_ 4 _).set_ 5 _).set_ 6 _).set_ 7 _).set_ 8 _)
    have hf9 : Fr (fun k => k = w.heap.size + 1) W2 W9 := by rw [← hW]; exact ((((((((((Fr.refl (fun k => k = w.heap.size + 1) W2).setCell (p := ⟨w.heap.size + 1, 0, none⟩) (.inl rfl) _).setCell (p := ⟨w.heap.size + 1, 1, none⟩) (.inl rfl) _).setCell (p := ⟨w.heap.size + 1, 2, none⟩) (.inl rfl) _).setCell (p := ⟨w.heap.size + 1, 3, none⟩) (.inl rfl) _).setCell (p := ⟨w.heap.size + 1, 4, none⟩) (.inl rfl) _).setCell (p := ⟨w.heap.size + 1, 5, none⟩) (.inl rfl) _).setCell (p := ⟨w.heap.size + 1, 6, none⟩) (.inl rfl) _).setCell (p := ⟨w.heap.size + 1, 7, none⟩) (.inl rfl) _).setCell (p := ⟨w.heap.size + 1, 8, none⟩) (.inl rfl) _)
    clear hW k0 k1 k2 k3 k4 k5 k6 k7 k8
    refine leaves_cons (f := 31) (args := #[.pointer (some ⟨w.heap.size + 1, 0, none⟩)]) (by simp) (by simp [go_sem]) ?_
    refine (catch_none (w.heap.size + 1) _).mono ?_
    rintro en u' w'' ⟨rfl, rfl, rfl⟩
    obtain ⟨k0, k1, k2, k3, k4, k5, k6, k7, k8⟩ := oc_of (hbx := hb9)
    refine ⟨.agg (outc (.slice Ap lp cp) 0 y.1.A y.1.B y.1.C 0 0 0 false), ?_, _, _, _, rfl, ?_, ?_⟩
    · simp [results, Try.results30, go_sem, k0, k1, k2, k3, k4, k5, k6, k7, k8, outc]
    · exact own_frs (S := fun k => k = w.heap.size + 1) OW2.out hf9.drew (fun x hx h => own_not_box OW2.out BW.out (by decide) (by rw [hx, h]))
    · exact Below.drew (hb3.out.trans (hf9.to_below (fun k hk => by rw [hk]; omega) hb3.out.size))
set_option maxRecDepth 100000 in
set_option maxHeartbeats 4000000 in
theorem run_ck_err (w : World) (kd wh wm wt id n pr : Int) (A : Option Addr) (l c : Nat) (e : Int) (hck : CkIs ⟨kd, wh, wm, wt, id, n, pr⟩ (.slice A l c) (some e)) : RunIs #[.int .u8 kd, .int .u32 wh, .int .u32 wm, .int .u32 wt, .int .u32 id, .int .u64 n, .int .u64 pr] (.slice A l c) w none 0 0 e 0 0 0 0 0 0 false (fun _ => True) := by
  have hmf : ∀ (fn : Fn) (first cap : Array Value) (w : World), (Instr.makeFunc fn first cap).run Try.prog w = .ok (.func fn first cap) w := fun _ _ _ _ => rfl
  obtain ⟨hb1, hb2⟩ := work_new w #[.int .u8 kd, .int .u32 wh, .int .u32 wm, .int .u32 wt, .int .u32 id, .int .u64 n, .int .u64 pr] ⟨kd, wh, wm, wt, id, n, pr⟩ (.slice A l c)
  have call1 := hck _ _ hb2
  dsimp only [wk, out0] at call1 hb1
  have CALL1 := Lib.hid call1
  have HB1 := Lib.hid hb1
  clear hck hb1 hb2 call1
  unfold CkQ at CALL1
  unfold RunIs
  go_enter_defers Try.func30, Try.ntmps30
  go_wp2_with fail
  (with_reducible refine CALL1.out.mono ?_)
  rintro en w1 ⟨rfl, hk1⟩
  refine leaves_cons (f := 31) (args := #[.pointer (some ⟨w.heap.size + 1, 0, none⟩)]) (by simp) (by simp [go_sem]) ?_
  refine (catch_err (w.heap.size + 1) e _ (HB1.out.later hk1)).mono ?_
  rintro en u' w'' ⟨rfl, rfl, hbx, hfr⟩
  obtain ⟨k0, k1, k2, k3, k4, k5, k6, k7, k8⟩ := oc_of (hbx := hbx)
  have HB := Lib.hid (show Below w.heap.size w w'' from ((new_ (new_ (new_ (Below.refl w.heap.size w) _) _) _).trans (hk1.mono (by simp; omega))).trans (hfr.to_below (fun k hk => by rw [hk]; omega) (by have := hk1.size; simp at *; omega)))
  refine ⟨.agg (outE e), ?_, rfl, trivial, HB.out⟩
  simp [results, Try.results30, go_sem, k0, k1, k2, k3, k4, k5, k6, k7, k8, outE]
end Go.Proofs.Ytneaehimdmachaa.Rule
