import Derived.Test.YtneaehimdmachaaRule2
/- An operation that is refused: what it comes to. -/
namespace Go.Proofs.Ytneaehimdmachaa.Rule
open Go.ChangeShapes Go.WideShapes Go.ChangeAt Go.RowKit Go.IntWalk Go.Proofs.Mem
set_option linter.unusedVariables false
structure OC (w : World) (g : Nat) (p e a b c k x y q : Value) : Prop where
  c0 : w.cell? ⟨g, 0, none⟩ = some p
  c1 : w.cell? ⟨g, 1, none⟩ = some e
  c2 : w.cell? ⟨g, 2, none⟩ = some a
  c3 : w.cell? ⟨g, 3, none⟩ = some b
  c4 : w.cell? ⟨g, 4, none⟩ = some c
  c5 : w.cell? ⟨g, 5, none⟩ = some k
  c6 : w.cell? ⟨g, 6, none⟩ = some x
  c7 : w.cell? ⟨g, 7, none⟩ = some y
  c8 : w.cell? ⟨g, 8, none⟩ = some q
theorem oc_of {w : World} {g : Nat} {p e a b c k x y q : Value} (hbx : Box w g #[p, e, a, b, c, k, x, y, q] 57) : OC w g p e a b c k x y q :=
  ⟨hbx.cell 0, hbx.cell 1, hbx.cell 2, hbx.cell 3, hbx.cell 4, hbx.cell 5, hbx.cell 6, hbx.cell 7, hbx.cell 8⟩
theorem work_new (w : World) (q : Array Value) (k : Ot) (v : Value) :
    Box (((w.alloc (.cells q 32)).alloc (.cells out0 57)).alloc (.cells (wk k v 0 (.slice none 0 0)) 63)) (w.heap.size + 1) out0 57 ∧
    WorkAt (((w.alloc (.cells q 32)).alloc (.cells out0 57)).alloc (.cells (wk k v 0 (.slice none 0 0)) 63)) (w.heap.size + 1 + 1) k v 0 (.slice none 0 0) := by
  constructor
  · have := (Box.new (w.alloc (.cells q 32)) out0 57).alloc (.cells (wk k v 0 (.slice none 0 0)) 63)
    rwa [World.size_alloc] at this
  · have := Box.new ((w.alloc (.cells q 32)).alloc (.cells out0 57)) (wk k v 0 (.slice none 0 0)) 63
    rwa [World.size_alloc, World.size_alloc] at this
set_option maxRecDepth 100000 in
set_option maxHeartbeats 4000000 in
theorem run_err (w : World) (kd wh wm wt id n pr : Int) (A : Option Addr) (l c : Nat) (e : Int)
    (hchk : ∀ W g, WorkAt W g ⟨kd, wh, wm, wt, id, n, pr⟩ (.slice A l c) 0 (.slice none 0 0) → Calls Try.prog 32 #[.pointer (some ⟨g, 0, none⟩)] W fun en W' => en = .panicked (raise_ e) ∧ ∃ d, W' = W.drewN d) :
    Calls Try.prog 30 #[.agg #[.int .u8 kd, .int .u32 wh, .int .u32 wm, .int .u32 wt, .int .u32 id, .int .u64 n, .int .u64 pr], .slice A l c] w fun en w' => en = .returned (.agg (outE e)) ∧ Below w.heap.size w w' := by
  have hmf : ∀ (fn : Fn) (first cap : Array Value) (w : World), (Instr.makeFunc fn first cap).run Try.prog w = .ok (.func fn first cap) w := fun _ _ _ _ => rfl
  have CK := Lib.hid hchk
  obtain ⟨hb1, hb2⟩ := work_new w #[.int .u8 kd, .int .u32 wh, .int .u32 wm, .int .u32 wt, .int .u32 id, .int .u64 n, .int .u64 pr] ⟨kd, wh, wm, wt, id, n, pr⟩ (.slice A l c)
  have call := CK.out _ _ hb2
  dsimp only [wk, out0] at call hb1
  have CALL := Lib.hid call
  have HB1 := Lib.hid hb1
  clear hchk hb1 hb2 call CK
  go_enter_defers Try.func30, Try.ntmps30
  go_wp2_with (go_at_call 32; (with_reducible refine CALL.out.mono ?_); rintro en w1 ⟨rfl, d, rfl⟩)
  refine leaves_cons (f := 31) (args := #[.pointer (some ⟨w.heap.size + 1, 0, none⟩)]) (by simp) (by simp [go_sem]) ?_
  refine (catch_err (w.heap.size + 1) e _ (HB1.out.drewN d)).mono ?_
  rintro en u' w'' ⟨rfl, rfl, hbx, hfr⟩
  obtain ⟨k0, k1, k2, k3, k4, k5, k6, k7, k8⟩ := oc_of (hbx := hbx)
  have HB := Lib.hid (show Below w.heap.size w w'' from (below_drewN (new_ (new_ (new_ (Below.refl w.heap.size w) _) _) _) d).trans (hfr.to_below (fun k hk => by rw [hk]; omega) (by simp; omega)))
  refine ⟨.agg (outE e), ?_, rfl, HB.out⟩
  simp [results, Try.results30, go_sem, k0, k1, k2, k3, k4, k5, k6, k7, k8, outE]
set_option maxRecDepth 100000 in
set_option maxHeartbeats 4000000 in
theorem run_none (w : World) (kd wh wm wt id n pr : Int) (A : Option Addr) (l c : Nat) (h0 : wh ≠ 0) (hk : kd = 0 ∨ 19 ≤ kd) :
    Calls Try.prog 30 #[.agg #[.int .u8 kd, .int .u32 wh, .int .u32 wm, .int .u32 wt, .int .u32 id, .int .u64 n, .int .u64 pr], .slice A l c] w fun en w' => en = .returned (.agg (outE 1)) ∧ Below w.heap.size w w' := by
  have hmf : ∀ (fn : Fn) (first cap : Array Value) (w : World), (Instr.makeFunc fn first cap).run Try.prog w = .ok (.func fn first cap) w := fun _ _ _ _ => rfl
  obtain ⟨hb1, hb2⟩ := work_new w #[.int .u8 kd, .int .u32 wh, .int .u32 wm, .int .u32 wt, .int .u32 id, .int .u64 n, .int .u64 pr] ⟨kd, wh, wm, wt, id, n, pr⟩ (.slice A l c)
  have call1 := chk_kind _ _ _ _ _ _ _ _ _ _ _ _ hb2 h0 hk
  have call2 := do_none _ _ _ _ _ _ _ _ _ _ _ _ hb2 hk
  have HB2 := Lib.hid hb2
  dsimp only [wk, out0] at call1 call2 hb1
  have CALL1 := Lib.hid call1
  have CALL2 := Lib.hid call2
  have HB1 := Lib.hid hb1
  clear hb1 hb2 call1 call2
  go_enter_defers Try.func30, Try.ntmps30
  go_wp2_with (first
    | (go_at_call 32; (with_reducible refine CALL1.out.mono ?_); rintro en w1 ⟨rfl, rfl⟩)
    | (go_at_call 33; (with_reducible refine CALL2.out.mono ?_); rintro en w1 ⟨rfl, hb3⟩; have HB3 := Lib.hid hb3; have hz3 := hb3.size; clear hb3))
  obtain ⟨W2, hW2⟩ : ∃ W2, w1.alloc (.cells #[.int .u16 1, .int .u64 0, .int .u64 0, .int .u64 0] 41) = W2 := ⟨_, rfl⟩
  have bw := (HB1.out.later HB3.out).alloc (.cells #[.int .u16 1, .int .u64 0, .int .u64 0, .int .u64 0] 41)
  have c9 : W2.cell? ⟨w.heap.size + 1 + 1, 9, none⟩ = some (.slice none 0 0) := by
    rw [← hW2]; exact ((HB2.out.later HB3.out).alloc _).cell 9
  have rb : Box W2 w1.heap.size #[.int .u16 1, .int .u64 0, .int .u64 0, .int .u64 0] 41 := by rw [← hW2]; exact Box.new _ _ _
  have hb3 := Lib.hid (show Below w.heap.size w W2 by rw [← hW2]; exact new_ ((new_ (new_ (new_ (Below.refl w.heap.size w) _) _) _).trans (HB3.out.mono (by simp; omega))) _)
  have r0 := rb.cell 0
  have r1 := rb.cell 1
  have r2 := rb.cell 2
  have r3 := rb.cell 3
  rw [hW2] at bw ⊢
  have BW := Lib.hid bw
  have k0 := bw.cell 0
  have f0 := bw.frozen 0
  have k1 := bw.cell 1
  have f1 := bw.frozen 1
  have k2 := bw.cell 2
  have f2 := bw.frozen 2
  have k3 := bw.cell 3
  have f3 := bw.frozen 3
  have k4 := bw.cell 4
  have f4 := bw.frozen 4
  have k5 := bw.cell 5
  have f5 := bw.frozen 5
  have k6 := bw.cell 6
  have f6 := bw.frozen 6
  have k7 := bw.cell 7
  have f7 := bw.frozen 7
  have k8 := bw.cell 8
  have f8 := bw.frozen 8
  simp only [List.getElem?_toArray, List.getElem?_cons_zero, List.getElem?_cons_succ] at k0 k1 k2 k3 k4 k5 k6 k7 k8 r0 r1 r2 r3
  clear bw rb hW2 hz3
  go_region
  go_wp2
  generalize hW : (World.setCell _ (⟨w.heap.size + 1, 8, none⟩ : Addr) _) = W9
  have hb9 : Box W9 (w.heap.size + 1) (outE 1) 57 := by rw [← hW]; exact (((((((((BW.out.set_ 0 _).set_ 1 _).set_ 2 _).set_ 3 _).set_ 4 _).set_ 5 _).set_ 6 _).set_ 7 _).set_ 8 _)
  have hf9 : Fr (fun k => k = w.heap.size + 1) W2 W9 := by rw [← hW]; exact ((((((((((Fr.refl (fun k => k = w.heap.size + 1) W2).setCell (p := ⟨w.heap.size + 1, 0, none⟩) (.inl rfl) _).setCell (p := ⟨w.heap.size + 1, 1, none⟩) (.inl rfl) _).setCell (p := ⟨w.heap.size + 1, 2, none⟩) (.inl rfl) _).setCell (p := ⟨w.heap.size + 1, 3, none⟩) (.inl rfl) _).setCell (p := ⟨w.heap.size + 1, 4, none⟩) (.inl rfl) _).setCell (p := ⟨w.heap.size + 1, 5, none⟩) (.inl rfl) _).setCell (p := ⟨w.heap.size + 1, 6, none⟩) (.inl rfl) _).setCell (p := ⟨w.heap.size + 1, 7, none⟩) (.inl rfl) _).setCell (p := ⟨w.heap.size + 1, 8, none⟩) (.inl rfl) _)
  clear hW k0 k1 k2 k3 k4 k5 k6 k7 k8
  refine leaves_cons (f := 31) (args := #[.pointer (some ⟨w.heap.size + 1, 0, none⟩)]) (by simp) (by simp [go_sem]) ?_
  refine (catch_none (w.heap.size + 1) _).mono ?_
  rintro en u' w'' ⟨rfl, rfl, rfl⟩
  obtain ⟨k0, k1, k2, k3, k4, k5, k6, k7, k8⟩ := oc_of (hbx := hb9)
  refine ⟨.agg (outE 1), ?_, rfl, ?_⟩
  · simp [results, Try.results30, go_sem, k0, k1, k2, k3, k4, k5, k6, k7, k8, outE]
  · exact Below.drew (hb3.out.trans (hf9.to_below (fun k hk => by rw [hk]; omega) hb3.out.size))
/-- what an operation comes to -/
def outc (p : Value) (e a b c k x y : Int) (q : Bool) : Array Value := #[p, .int .u16 e, .int .u64 a, .int .u64 b, .int .u64 c, .int .u8 k, .int .u32 x, .int .u32 y, .bool q]
/-- P: what lies behind it -/
def RunIs (op : Array Value) (v : Value) (w : World) (A : Option Addr) (l cc : Nat) (e a b c k x y : Int) (q : Bool) (P : World → Prop) : Prop :=
  Calls Try.prog 30 #[.agg op, v] w fun en w' => en = .returned (.agg (outc (.slice A l cc) e a b c k x y q)) ∧ P w' ∧ Below w.heap.size w w'
def RunEx (op : Array Value) (v : Value) (w : World) (e a b c k x y : Int) (q : Bool) (P : Value → World → Prop) : Prop :=
  Calls Try.prog 30 #[.agg op, v] w fun en w' => ∃ A l cc, en = .returned (.agg (outc (.slice A l cc) e a b c k x y q)) ∧ P (.slice A l cc) w' ∧ Below w.heap.size w w'
set_option maxRecDepth 100000 in
set_option maxHeartbeats 4000000 in
theorem next_any (w : World) (kd wh wm wt id n pr : Int) (v : Value) (A : Option Addr) (l cc : Nat) (e a b c k x y : Int) (q : Bool)
    (h : ∀ W, RunIs #[.int .u8 kd, .int .u32 wh, .int .u32 wm, .int .u32 wt, .int .u32 id, .int .u64 n, .int .u64 pr] v W A l cc e a b c k x y q (fun _ => True)) :
    Calls Try.prog 29 #[.agg #[.int .u8 kd, .int .u32 wh, .int .u32 wm, .int .u32 wt, .int .u32 id, .int .u64 n, .int .u64 pr], v] w fun en w' => en = .returned (.tuple #[.agg #[.int .u8 k, .int .u32 x, .int .u32 y], .bool q]) ∧ Below w.heap.size w w' := by
  unfold RunIs outc at h
  have H := Lib.hid h
  clear h
  go_enter Try.func29, Try.ntmps29
  go_wp2_with (go_at_call 30; (with_reducible refine (H.out _).mono ?_); rintro en w1 ⟨rfl, _, hb1⟩; have HB1 := Lib.hid hb1; have hz1 := hb1.size; clear hb1)
  obtain ⟨W2, hW2⟩ : ∃ W2, w1.alloc (.cells #[.slice A l cc, .int .u16 e, .int .u64 a, .int .u64 b, .int .u64 c, .int .u8 k, .int .u32 x, .int .u32 y, .bool q] 57) = W2 := ⟨_, rfl⟩
  have ob : Box W2 w1.heap.size #[.slice A l cc, .int .u16 e, .int .u64 a, .int .u64 b, .int .u64 c, .int .u8 k, .int .u32 x, .int .u32 y, .bool q] 57 := by rw [← hW2]; exact Box.new _ _ _
  have rb : Box W2 (w.heap.size + 1) #[.int .u8 0, .int .u32 0, .int .u32 0] 24 := by
    rw [← hW2]
    have := Box.new (w.alloc (.cells #[.int .u8 kd, .int .u32 wh, .int .u32 wm, .int .u32 wt, .int .u32 id, .int .u64 n, .int .u64 pr] 32)) #[.int .u8 0, .int .u32 0, .int .u32 0] 24
    rw [World.size_alloc] at this
    exact (this.later HB1.out).alloc _
  have hb3 := Lib.hid (show Below w.heap.size w W2 by rw [← hW2]; exact new_ ((new_ (new_ (Below.refl w.heap.size w) _) _).trans (HB1.out.mono (by simp; omega))) _)
  obtain ⟨o0, o1, o2, o3, o4, o5, o6, o7, o8⟩ := oc_of (hbx := ob)
  have r0 := rb.cell 0
  have r1 := rb.cell 1
  have r2 := rb.cell 2
  have f0 := rb.frozen 0
  have f1 := rb.frozen 1
  have f2 := rb.frozen 2
  simp only [List.getElem?_toArray, List.getElem?_cons_zero, List.getElem?_cons_succ] at r0 r1 r2
  have RB := Lib.hid rb
  rw [hW2]
  clear ob rb hW2 hz1
  go_region
  all_goals
    go_wp2
    generalize hW : (World.setCell _ (⟨w.heap.size + 1, 2, none⟩ : Addr) _) = W9
    have hb9 : Box W9 (w.heap.size + 1) #[.int .u8 k, .int .u32 x, .int .u32 y] 24 := by rw [← hW]; exact (((RB.out.set_ 0 _).set_ 1 _).set_ 2 _)
    have hf9 : Fr (fun k => k = w.heap.size + 1) W2 W9 := by rw [← hW]; exact ((((Fr.refl (fun k => k = w.heap.size + 1) W2).setCell (p := ⟨w.heap.size + 1, 0, none⟩) (.inl rfl) _).setCell (p := ⟨w.heap.size + 1, 1, none⟩) (.inl rfl) _).setCell (p := ⟨w.heap.size + 1, 2, none⟩) (.inl rfl) _)
    have t0 := hb9.cell 0
    have t1 := hb9.cell 1
    have t2 := hb9.cell 2
    simp only [List.getElem?_toArray, List.getElem?_cons_zero, List.getElem?_cons_succ] at t0 t1 t2
    clear hW
    refine bodyPost_ret (v := .tuple #[.agg #[.int .u8 k, .int .u32 x, .int .u32 y], .bool q]) (by simp [results, Try.results29, go_sem, t0, t1, t2]; try rfl) rfl ?_
    exact ⟨rfl, Below.drew (hb3.out.trans (hf9.to_below (fun k hk => by rw [hk]; omega) hb3.out.size))⟩
set_option maxRecDepth 100000 in
set_option maxHeartbeats 4000000 in
theorem do_waits (w : World) (kd wh wm wt id n pr : Int) (v : Value) (A : Option Addr) (l cc : Nat) (e a b c k x y : Int)
    (h : ∀ W, RunIs #[.int .u8 kd, .int .u32 wh, .int .u32 wm, .int .u32 wt, .int .u32 id, .int .u64 n, .int .u64 pr] v W A l cc e a b c k x y true (fun _ => True)) :
    Calls Try.prog 27 #[.agg #[.int .u8 kd, .int .u32 wh, .int .u32 wm, .int .u32 wt, .int .u32 id, .int .u64 n, .int .u64 pr], v] w fun en w' => en = .returned (.tuple #[.slice none 0 0, .agg #[.int .u16 1, .int .u64 0, .int .u64 0, .int .u64 0]]) ∧ Below w.heap.size w w' := by
  unfold RunIs outc at h
  have H := Lib.hid h
  clear h
  go_enter Try.func27, Try.ntmps27
  go_wp2_with (go_at_call 30; (with_reducible refine (H.out _).mono ?_); rintro en w1 ⟨rfl, _, hb1⟩
               have rb := Box.new (w.alloc (.cells #[.int .u8 kd, .int .u32 wh, .int .u32 wm, .int .u32 wt, .int .u32 id, .int .u64 n, .int .u64 pr] 32)) #[.int .u16 0, .int .u64 0, .int .u64 0, .int .u64 0] 41
               rw [World.size_alloc] at rb
               have rb1 := rb.later hb1
               have RB := Lib.hid rb1
               have r0 := rb1.cell 0
               have r1 := rb1.cell 1
               have r2 := rb1.cell 2
               have r3 := rb1.cell 3
               have f0 := rb1.frozen 0
               have f1 := rb1.frozen 1
               have f2 := rb1.frozen 2
               have f3 := rb1.frozen 3
               simp only [List.getElem?_toArray, List.getElem?_cons_zero, List.getElem?_cons_succ] at r0 r1 r2 r3
               have HB1 := Lib.hid hb1
               have hz1 : w.heap.size + 1 < w1.heap.size := by have := hb1.size; simp at this; omega
               clear hb1 rb rb1)
  generalize hW : (World.setCell _ (⟨w.heap.size + 1, 3, none⟩ : Addr) _) = W9
  have hb9 : Box W9 (w.heap.size + 1) #[.int .u16 1, .int .u64 0, .int .u64 0, .int .u64 0] 41 := by rw [← hW]; exact ((((RB.out.set_ 0 _).set_ 1 _).set_ 2 _).set_ 3 _)
  have hf9 : Fr (fun k => k = w.heap.size + 1) w1 W9 := by rw [← hW]; exact (((((Fr.refl (fun k => k = w.heap.size + 1) w1).setCell (p := ⟨w.heap.size + 1, 0, none⟩) (.inl rfl) _).setCell (p := ⟨w.heap.size + 1, 1, none⟩) (.inl rfl) _).setCell (p := ⟨w.heap.size + 1, 2, none⟩) (.inl rfl) _).setCell (p := ⟨w.heap.size + 1, 3, none⟩) (.inl rfl) _)
  have hb3 := Lib.hid ((new_ (new_ (Below.refl w.heap.size w) _) _).trans (HB1.out.mono (by simp; omega)))
  clear hW
  generalize hX : World.alloc _ _ = W10
  have hb10 : Box W10 (w.heap.size + 1) #[.int .u16 1, .int .u64 0, .int .u64 0, .int .u64 0] 41 := by rw [← hX]; exact hb9.alloc _
  have hf10 : Fr (fun k => k = w.heap.size + 1) w1 W10 := by rw [← hX]; exact hf9.alloc _
  have t0 := hb10.cell 0
  have t1 := hb10.cell 1
  have t2 := hb10.cell 2
  have t3 := hb10.cell 3
  simp only [List.getElem?_toArray, List.getElem?_cons_zero, List.getElem?_cons_succ] at t0 t1 t2 t3
  clear hX
  refine bodyPost_ret (v := .tuple #[.slice none 0 0, .agg #[.int .u16 1, .int .u64 0, .int .u64 0, .int .u64 0]]) (by simp [results, Try.results27, go_sem, t0, t1, t2, t3]; try rfl) rfl ?_
  exact ⟨rfl, hb3.out.trans (hf10.to_below (fun k hk => by rw [hk]; omega) hb3.out.size)⟩
set_option maxRecDepth 100000 in
set_option maxHeartbeats 4000000 in
theorem do_done (w : World) (kd wh wm wt id n pr : Int) (v : Value) (e a b c k x y : Int) (P : Value → World → Prop)
    (h : ∀ W, Below w.heap.size w W → RunEx #[.int .u8 kd, .int .u32 wh, .int .u32 wm, .int .u32 wt, .int .u32 id, .int .u64 n, .int .u64 pr] v W e a b c k x y false P) :
    Calls Try.prog 27 #[.agg #[.int .u8 kd, .int .u32 wh, .int .u32 wm, .int .u32 wt, .int .u32 id, .int .u64 n, .int .u64 pr], v] w fun en w' => ∃ A l cc, en = .returned (.tuple #[.slice A l cc, .agg #[.int .u16 e, .int .u64 a, .int .u64 b, .int .u64 c]]) ∧ Below w.heap.size w w' ∧ ∃ w1, P (.slice A l cc) w1 ∧ Box w1 (w.heap.size + 1) #[.int .u16 0, .int .u64 0, .int .u64 0, .int .u64 0] 41 ∧ Fr (fun k => k = w.heap.size + 1) w1 w' := by
  unfold RunEx outc at h
  have H := Lib.hid (h _ (new_ (new_ (Below.refl w.heap.size w) (.cells #[.int .u8 kd, .int .u32 wh, .int .u32 wm, .int .u32 wt, .int .u32 id, .int .u64 n, .int .u64 pr] 32)) (.cells #[.int .u16 0, .int .u64 0, .int .u64 0, .int .u64 0] 41)))
  clear h
  go_enter Try.func27, Try.ntmps27
  go_wp2_with (go_at_call 30; (with_reducible refine H.out.mono ?_); rintro en w1 ⟨A, l, cc, rfl, hP, hb1⟩; have HP := Lib.hid hP; have HB1 := Lib.hid hb1; have hz1 : w.heap.size + 1 < w1.heap.size := (by have := hb1.size; simp at this; omega); clear hb1 hP)
  obtain ⟨W2, hW2⟩ : ∃ W2, w1.alloc (.cells #[.slice A l cc, .int .u16 e, .int .u64 a, .int .u64 b, .int .u64 c, .int .u8 k, .int .u32 x, .int .u32 y, .bool false] 57) = W2 := ⟨_, rfl⟩
  have ob : Box W2 w1.heap.size #[.slice A l cc, .int .u16 e, .int .u64 a, .int .u64 b, .int .u64 c, .int .u8 k, .int .u32 x, .int .u32 y, .bool false] 57 := by rw [← hW2]; exact Box.new _ _ _
  have rw1 : Box w1 (w.heap.size + 1) #[.int .u16 0, .int .u64 0, .int .u64 0, .int .u64 0] 41 := by
    have := Box.new (w.alloc (.cells #[.int .u8 kd, .int .u32 wh, .int .u32 wm, .int .u32 wt, .int .u32 id, .int .u64 n, .int .u64 pr] 32)) #[.int .u16 0, .int .u64 0, .int .u64 0, .int .u64 0] 41
    rw [World.size_alloc] at this
    exact this.later HB1.out
  have RW1 := Lib.hid rw1
  clear rw1
  have rb : Box W2 (w.heap.size + 1) #[.int .u16 0, .int .u64 0, .int .u64 0, .int .u64 0] 41 := by
    rw [← hW2]
    have := Box.new (w.alloc (.cells #[.int .u8 kd, .int .u32 wh, .int .u32 wm, .int .u32 wt, .int .u32 id, .int .u64 n, .int .u64 pr] 32)) #[.int .u16 0, .int .u64 0, .int .u64 0, .int .u64 0] 41
    rw [World.size_alloc] at this
    exact (this.later HB1.out).alloc _
  have hb3 := Lib.hid (show Below w.heap.size w W2 by rw [← hW2]; exact new_ ((new_ (new_ (Below.refl w.heap.size w) _) _).trans (HB1.out.mono (by simp; omega))) _)
  have hb4 := Lib.hid (show Fr (fun k => k = w.heap.size + 1) w1 W2 by rw [← hW2]; exact (Fr.refl _ _).alloc _)
  obtain ⟨o0, o1, o2, o3, o4, o5, o6, o7, o8⟩ := oc_of (hbx := ob)
  have r0 := rb.cell 0
  have r1 := rb.cell 1
  have r2 := rb.cell 2
  have r3 := rb.cell 3
  have f0 := rb.frozen 0
  have f1 := rb.frozen 1
  have f2 := rb.frozen 2
  have f3 := rb.frozen 3
  simp only [List.getElem?_toArray, List.getElem?_cons_zero, List.getElem?_cons_succ] at r0 r1 r2 r3
  have RB := Lib.hid rb
  rw [hW2]
  clear ob rb hW2 hz1
  go_wp2
  go_region
  all_goals
    go_wp2
    generalize hW : (World.setCell _ (⟨w.heap.size + 1, 3, none⟩ : Addr) _) = W9
    have hb9 : Box W9 (w.heap.size + 1) #[.int .u16 e, .int .u64 a, .int .u64 b, .int .u64 c] 41 := by rw [← hW]; exact ((((RB.out.set_ 0 _).set_ 1 _).set_ 2 _).set_ 3 _)
    have hf9 : Fr (fun k => k = w.heap.size + 1) W2 W9 := by rw [← hW]; exact (((((Fr.refl (fun k => k = w.heap.size + 1) W2).setCell (p := ⟨w.heap.size + 1, 0, none⟩) (.inl rfl) _).setCell (p := ⟨w.heap.size + 1, 1, none⟩) (.inl rfl) _).setCell (p := ⟨w.heap.size + 1, 2, none⟩) (.inl rfl) _).setCell (p := ⟨w.heap.size + 1, 3, none⟩) (.inl rfl) _)
    have t0 := hb9.cell 0
    have t1 := hb9.cell 1
    have t2 := hb9.cell 2
    have t3 := hb9.cell 3
    simp only [List.getElem?_toArray, List.getElem?_cons_zero, List.getElem?_cons_succ] at t0 t1 t2 t3
    clear hW
    refine bodyPost_ret (v := .tuple #[.slice A l cc, .agg #[.int .u16 e, .int .u64 a, .int .u64 b, .int .u64 c]]) (by simp [results, Try.results27, go_sem, t0, t1, t2, t3]; try rfl) rfl ?_
    exact ⟨A, l, cc, rfl, Below.drew (hb3.out.trans (hf9.to_below (fun k hk => by rw [hk]; omega) hb3.out.size)), w1, HP.out, RW1.out, (hb4.out.trans hf9).drew⟩
end Go.Proofs.Ytneaehimdmachaa.Rule
