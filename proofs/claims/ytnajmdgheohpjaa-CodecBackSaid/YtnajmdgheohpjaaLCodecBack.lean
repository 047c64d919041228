/- The law manciplelaw23.CodecBack returns true whatever it is called with, and what it was called with reads as it did. No condition. -/
import Derived.Test.YtnajmdgheohpjaaLaw
import Derived.Test.YtnajmdgheohpjaaCodecA
import Derived.Test.YtnajmdgheohpjaaCodec8
import Derived.Test.YtnajmdgheohpjaaCodec4
import Derived.Test.YtnajmdgheohpjaaCodec3
import Derived.Test.YtnajmdgheohpjaaCodecB
import Derived.Test.YtnajmdgheohpjaaCodecOpen
import Derived.Test.YtnajmdgheohpjaaCodecEq
namespace Go.Proofs.Ytnajmdgheohpjaa.LCodecBack
open Go.ChangeShapes Go.WideShapes Go.ChangeAt Go.RowKit Go.IntWalk Go.Proofs.Mem Law
set_option linter.unusedVariables false
open NumBytes Go.Proofs.Each Codec
theorem new' (w : World) (g : Nat) (hg : w.heap.size = g) (C : Array Value) (t : TypeId) : Box (w.alloc (.cells C t)) g C t := by subst hg; exact Box.new w C t
set_option maxRecDepth 100000 in
set_option maxHeartbeats 8000000 in
theorem walk (w : World) (a : Codec.Rq) (ha : a.Ok) (b : Codec.Rq) (hb : b.Ok) (r : Codec.Rp) (hr : r.Ok) (s : Codec.Rp) (hs : s.Ok) :
    Calls Try.prog 5 #[.agg (Codec.cellsQ a), .agg (Codec.cellsQ b), .agg (Codec.cellsP r), .agg (Codec.cellsP s)] w fun e w' => e = .returned (.bool true) ∧ Below w.heap.size w w' := by
  have HA := Lib.hid (fun W => ask_any a ha W)
  have HB := Lib.hid (fun W => ask_any b hb W)
  have HT := Lib.hid (fun W => tell_any r hr W)
  have HS := Lib.hid (fun W => tell_any s hs W)
  have HP := Lib.hid (fun (v : Value) W h => told_any v (tellB r) (tellB_bytes r) W h (by rw [tellB_len]; omega))
  have hp1 : toldP (tellB r) = r := by unfold toldP; rw [if_pos (tellB_len r), of_tell r hr]
  have hp2 : toldE (tellB r) = 0 := by unfold toldE; rw [if_pos (tellB_len r)]
  rw [hp1, hp2] at HP
  have HQ := Lib.hid (fun (v : Value) W h => asked_any v (askB a) (askB_bytes a) W h (by rw [askB_len]; omega))
  obtain ⟨DA, hDA⟩ : ∃ d, d = decide (askB a = askB b) := ⟨_, rfl⟩
  obtain ⟨DR, hDR⟩ : ∃ d, d = decide (tellB r = tellB s) := ⟨_, rfl⟩
  have EDA := Lib.hid (fun W => eqlQ a b ha hb W)
  have GDA := Lib.hid (fun x y W => grdQ a b x y W)
  have EDR := Lib.hid (fun W => eqlP r s hr hs W)
  have GDR := Lib.hid (fun x y W => grdP r s x y W)
  unfold cellsQ at EDA GDA
  unfold cellsP at EDR GDR
  rw [← hDA] at EDA
  rw [← hDR] at EDR
  by_cases hm : mayB a = true
  · have hq1 : askedQ (askB a) = a := by unfold askedQ; rw [if_pos ⟨askB_len a, by rw [of_ask a ha]; exact hm⟩, of_ask a ha]
    have hq2 : askedE (askB a) = 0 := by unfold askedE; rw [if_pos ⟨askB_len a, by rw [of_ask a ha]; exact hm⟩]
    rw [hq1, hq2] at HQ
    clear hq1 hq2 hp1 hp2
    unfold cellsQ at HA HB HQ ⊢
    unfold cellsP at HT HS HP ⊢
    go_enter Try.func5, Try.ntmps5
    have bA0 := (((new' w (w.heap.size) rfl #[.int .u8 a.kind, .int .u32 a.n, .int .u8 a.k, .int .u32 a.who, .int .u32 a.whom, .int .u32 a.what, .int .u32 a.id, .int .u64 a.am, .int .u64 a.price] 27).alloc (.cells #[.int .u8 b.kind, .int .u32 b.n, .int .u8 b.k, .int .u32 b.who, .int .u32 b.whom, .int .u32 b.what, .int .u32 b.id, .int .u64 b.am, .int .u64 b.price] 27)).alloc (.cells #[.int .u16 r.err, .int .u64 r.a, .int .u64 r.b, .int .u64 r.c] 41)).alloc (.cells #[.int .u16 s.err, .int .u64 s.a, .int .u64 s.b, .int .u64 s.c] 41)
    have bB0 := ((new' (w.alloc (.cells #[.int .u8 a.kind, .int .u32 a.n, .int .u8 a.k, .int .u32 a.who, .int .u32 a.whom, .int .u32 a.what, .int .u32 a.id, .int .u64 a.am, .int .u64 a.price] 27)) (w.heap.size + 1) (by simp) #[.int .u8 b.kind, .int .u32 b.n, .int .u8 b.k, .int .u32 b.who, .int .u32 b.whom, .int .u32 b.what, .int .u32 b.id, .int .u64 b.am, .int .u64 b.price] 27).alloc (.cells #[.int .u16 r.err, .int .u64 r.a, .int .u64 r.b, .int .u64 r.c] 41)).alloc (.cells #[.int .u16 s.err, .int .u64 s.a, .int .u64 s.b, .int .u64 s.c] 41)
    have bR0 := (new' ((w.alloc (.cells #[.int .u8 a.kind, .int .u32 a.n, .int .u8 a.k, .int .u32 a.who, .int .u32 a.whom, .int .u32 a.what, .int .u32 a.id, .int .u64 a.am, .int .u64 a.price] 27)).alloc (.cells #[.int .u8 b.kind, .int .u32 b.n, .int .u8 b.k, .int .u32 b.who, .int .u32 b.whom, .int .u32 b.what, .int .u32 b.id, .int .u64 b.am, .int .u64 b.price] 27)) (w.heap.size + 1 + 1) (by simp) #[.int .u16 r.err, .int .u64 r.a, .int .u64 r.b, .int .u64 r.c] 41).alloc (.cells #[.int .u16 s.err, .int .u64 s.a, .int .u64 s.b, .int .u64 s.c] 41)
    have bS0 := new' (((w.alloc (.cells #[.int .u8 a.kind, .int .u32 a.n, .int .u8 a.k, .int .u32 a.who, .int .u32 a.whom, .int .u32 a.what, .int .u32 a.id, .int .u64 a.am, .int .u64 a.price] 27)).alloc (.cells #[.int .u8 b.kind, .int .u32 b.n, .int .u8 b.k, .int .u32 b.who, .int .u32 b.whom, .int .u32 b.what, .int .u32 b.id, .int .u64 b.am, .int .u64 b.price] 27)).alloc (.cells #[.int .u16 r.err, .int .u64 r.a, .int .u64 r.b, .int .u64 r.c] 41)) (w.heap.size + 1 + 1 + 1) (by simp) #[.int .u16 s.err, .int .u64 s.a, .int .u64 s.b, .int .u64 s.c] 41
    have hw0 := new_ (new_ (new_ (new_ (Below.refl w.heap.size w) (.cells #[.int .u8 a.kind, .int .u32 a.n, .int .u8 a.k, .int .u32 a.who, .int .u32 a.whom, .int .u32 a.what, .int .u32 a.id, .int .u64 a.am, .int .u64 a.price] 27)) (.cells #[.int .u8 b.kind, .int .u32 b.n, .int .u8 b.k, .int .u32 b.who, .int .u32 b.whom, .int .u32 b.what, .int .u32 b.id, .int .u64 b.am, .int .u64 b.price] 27)) (.cells #[.int .u16 r.err, .int .u64 r.a, .int .u64 r.b, .int .u64 r.c] 41)) (.cells #[.int .u16 s.err, .int .u64 s.a, .int .u64 s.b, .int .u64 s.c] 41)
    (go_wp2_with fail)
    (with_reducible refine (HA.out _).mono ?_)
    rintro e w1 ⟨v1, rfl, i1, hb1⟩
    have bA1 := bA0.later hb1
    have bB1 := bB0.later hb1
    have bR1 := bR0.later hb1
    have bS1 := bS0.later hb1
    have hw1 := step_ hw0 hb1
    clear bA0 bB0 bR0 bS0 hb1 hw0
    (go_wp2_with fail)
    (with_reducible refine (HQ.out _ _ i1).mono ?_)
    rintro e w2 ⟨rfl, hb2⟩
    have bA2 := bA1.later hb2
    have bB2 := bB1.later hb2
    have bR2 := bR1.later hb2
    have bS2 := bS1.later hb2
    have bA3 := bA2.alloc (.cells #[.int .u8 a.kind, .int .u32 a.n, .int .u8 a.k, .int .u32 a.who, .int .u32 a.whom, .int .u32 a.what, .int .u32 a.id, .int .u64 a.am, .int .u64 a.price] 27)
    have bB3 := bB2.alloc (.cells #[.int .u8 a.kind, .int .u32 a.n, .int .u8 a.k, .int .u32 a.who, .int .u32 a.whom, .int .u32 a.what, .int .u32 a.id, .int .u64 a.am, .int .u64 a.price] 27)
    have bR3 := bR2.alloc (.cells #[.int .u8 a.kind, .int .u32 a.n, .int .u8 a.k, .int .u32 a.who, .int .u32 a.whom, .int .u32 a.what, .int .u32 a.id, .int .u64 a.am, .int .u64 a.price] 27)
    have bS3 := bS2.alloc (.cells #[.int .u8 a.kind, .int .u32 a.n, .int .u8 a.k, .int .u32 a.who, .int .u32 a.whom, .int .u32 a.what, .int .u32 a.id, .int .u64 a.am, .int .u64 a.price] 27)
    have bX3 := Box.new w2 #[.int .u8 a.kind, .int .u32 a.n, .int .u8 a.k, .int .u32 a.who, .int .u32 a.whom, .int .u32 a.what, .int .u32 a.id, .int .u64 a.am, .int .u64 a.price] 27
    have hw3 := new_ (step_ hw1 hb2) (.cells #[.int .u8 a.kind, .int .u32 a.n, .int .u8 a.k, .int .u32 a.who, .int .u32 a.whom, .int .u32 a.what, .int .u32 a.id, .int .u64 a.am, .int .u64 a.price] 27)
    clear bA1 bB1 bR1 bS1 hw1 i1 bA2 bB2 bR2 bS2
    obtain ⟨gx, hgx⟩ : ∃ gx, gx = w2.heap.size := ⟨_, rfl⟩
    have r0 : (w2.alloc (.cells #[.int .u8 a.kind, .int .u32 a.n, .int .u8 a.k, .int .u32 a.who, .int .u32 a.whom, .int .u32 a.what, .int .u32 a.id, .int .u64 a.am, .int .u64 a.price] 27) : World).cell? ⟨w.heap.size + 1 + 1, 0, none⟩ = some (.int .u16 r.err) := bR3.cell 0
    have r1 : (w2.alloc (.cells #[.int .u8 a.kind, .int .u32 a.n, .int .u8 a.k, .int .u32 a.who, .int .u32 a.whom, .int .u32 a.what, .int .u32 a.id, .int .u64 a.am, .int .u64 a.price] 27) : World).cell? ⟨w.heap.size + 1 + 1, 1, none⟩ = some (.int .u64 r.a) := bR3.cell 1
    have r2 : (w2.alloc (.cells #[.int .u8 a.kind, .int .u32 a.n, .int .u8 a.k, .int .u32 a.who, .int .u32 a.whom, .int .u32 a.what, .int .u32 a.id, .int .u64 a.am, .int .u64 a.price] 27) : World).cell? ⟨w.heap.size + 1 + 1, 2, none⟩ = some (.int .u64 r.b) := bR3.cell 2
    have r3 : (w2.alloc (.cells #[.int .u8 a.kind, .int .u32 a.n, .int .u8 a.k, .int .u32 a.who, .int .u32 a.whom, .int .u32 a.what, .int .u32 a.id, .int .u64 a.am, .int .u64 a.price] 27) : World).cell? ⟨w.heap.size + 1 + 1, 3, none⟩ = some (.int .u64 r.c) := bR3.cell 3
    (go_wp2_with fail)
    clear r0 r1 r2 r3
    (with_reducible refine (HT.out _).mono ?_)
    rintro e w4 ⟨v2, rfl, i2, hb3⟩
    have bA4 := bA3.later hb3
    have bB4 := bB3.later hb3
    have bR4 := bR3.later hb3
    have bS4 := bS3.later hb3
    have bX4 := bX3.later hb3
    have hw4 := step_ hw3 hb3
    clear bA3 bB3 bR3 bS3 bX3 hb2 hb3 hw3
    (go_wp2_with fail)
    (with_reducible refine (HP.out _ _ i2).mono ?_)
    rintro e w5 ⟨rfl, hb4⟩
    have bA5 := bA4.later hb4
    have bB5 := bB4.later hb4
    have bR5 := bR4.later hb4
    have bS5 := bS4.later hb4
    have bX5 := bX4.later hb4
    have bA6 := bA5.alloc (.cells #[.int .u16 r.err, .int .u64 r.a, .int .u64 r.b, .int .u64 r.c] 41)
    have bB6 := bB5.alloc (.cells #[.int .u16 r.err, .int .u64 r.a, .int .u64 r.b, .int .u64 r.c] 41)
    have bR6 := bR5.alloc (.cells #[.int .u16 r.err, .int .u64 r.a, .int .u64 r.b, .int .u64 r.c] 41)
    have bS6 := bS5.alloc (.cells #[.int .u16 r.err, .int .u64 r.a, .int .u64 r.b, .int .u64 r.c] 41)
    have bX6 := bX5.alloc (.cells #[.int .u16 r.err, .int .u64 r.a, .int .u64 r.b, .int .u64 r.c] 41)
    have bY6 := Box.new w5 #[.int .u16 r.err, .int .u64 r.a, .int .u64 r.b, .int .u64 r.c] 41
    have hw6 := new_ (step_ hw4 hb4) (.cells #[.int .u16 r.err, .int .u64 r.a, .int .u64 r.b, .int .u64 r.c] 41)
    clear bA4 bB4 bR4 bS4 bX4 hw4 i2 bA5 bB5 bR5 bS5 bX5 hb4
    obtain ⟨gy, hgy⟩ : ∃ gy, gy = w5.heap.size := ⟨_, rfl⟩
    have x0 : (w5.alloc (.cells #[.int .u16 r.err, .int .u64 r.a, .int .u64 r.b, .int .u64 r.c] 41) : World).cell? ⟨w2.heap.size, 0, none⟩ = some (.int .u8 a.kind) := bX6.cell 0
    have x1 : (w5.alloc (.cells #[.int .u16 r.err, .int .u64 r.a, .int .u64 r.b, .int .u64 r.c] 41) : World).cell? ⟨w2.heap.size, 1, none⟩ = some (.int .u32 a.n) := bX6.cell 1
    have x2 : (w5.alloc (.cells #[.int .u16 r.err, .int .u64 r.a, .int .u64 r.b, .int .u64 r.c] 41) : World).cell? ⟨w2.heap.size, 2, none⟩ = some (.int .u8 a.k) := bX6.cell 2
    have x3 : (w5.alloc (.cells #[.int .u16 r.err, .int .u64 r.a, .int .u64 r.b, .int .u64 r.c] 41) : World).cell? ⟨w2.heap.size, 3, none⟩ = some (.int .u32 a.who) := bX6.cell 3
    have x4 : (w5.alloc (.cells #[.int .u16 r.err, .int .u64 r.a, .int .u64 r.b, .int .u64 r.c] 41) : World).cell? ⟨w2.heap.size, 4, none⟩ = some (.int .u32 a.whom) := bX6.cell 4
    have x5 : (w5.alloc (.cells #[.int .u16 r.err, .int .u64 r.a, .int .u64 r.b, .int .u64 r.c] 41) : World).cell? ⟨w2.heap.size, 5, none⟩ = some (.int .u32 a.what) := bX6.cell 5
    have x6 : (w5.alloc (.cells #[.int .u16 r.err, .int .u64 r.a, .int .u64 r.b, .int .u64 r.c] 41) : World).cell? ⟨w2.heap.size, 6, none⟩ = some (.int .u32 a.id) := bX6.cell 6
    have x7 : (w5.alloc (.cells #[.int .u16 r.err, .int .u64 r.a, .int .u64 r.b, .int .u64 r.c] 41) : World).cell? ⟨w2.heap.size, 7, none⟩ = some (.int .u64 a.am) := bX6.cell 7
    have x8 : (w5.alloc (.cells #[.int .u16 r.err, .int .u64 r.a, .int .u64 r.b, .int .u64 r.c] 41) : World).cell? ⟨w2.heap.size, 8, none⟩ = some (.int .u64 a.price) := bX6.cell 8
    have a_0 : (w5.alloc (.cells #[.int .u16 r.err, .int .u64 r.a, .int .u64 r.b, .int .u64 r.c] 41) : World).cell? ⟨w.heap.size, 0, none⟩ = some (.int .u8 a.kind) := bA6.cell 0
    have a_1 : (w5.alloc (.cells #[.int .u16 r.err, .int .u64 r.a, .int .u64 r.b, .int .u64 r.c] 41) : World).cell? ⟨w.heap.size, 1, none⟩ = some (.int .u32 a.n) := bA6.cell 1
    have a_2 : (w5.alloc (.cells #[.int .u16 r.err, .int .u64 r.a, .int .u64 r.b, .int .u64 r.c] 41) : World).cell? ⟨w.heap.size, 2, none⟩ = some (.int .u8 a.k) := bA6.cell 2
    have a_3 : (w5.alloc (.cells #[.int .u16 r.err, .int .u64 r.a, .int .u64 r.b, .int .u64 r.c] 41) : World).cell? ⟨w.heap.size, 3, none⟩ = some (.int .u32 a.who) := bA6.cell 3
    have a_4 : (w5.alloc (.cells #[.int .u16 r.err, .int .u64 r.a, .int .u64 r.b, .int .u64 r.c] 41) : World).cell? ⟨w.heap.size, 4, none⟩ = some (.int .u32 a.whom) := bA6.cell 4
    have a_5 : (w5.alloc (.cells #[.int .u16 r.err, .int .u64 r.a, .int .u64 r.b, .int .u64 r.c] 41) : World).cell? ⟨w.heap.size, 5, none⟩ = some (.int .u32 a.what) := bA6.cell 5
    have a_6 : (w5.alloc (.cells #[.int .u16 r.err, .int .u64 r.a, .int .u64 r.b, .int .u64 r.c] 41) : World).cell? ⟨w.heap.size, 6, none⟩ = some (.int .u32 a.id) := bA6.cell 6
    have a_7 : (w5.alloc (.cells #[.int .u16 r.err, .int .u64 r.a, .int .u64 r.b, .int .u64 r.c] 41) : World).cell? ⟨w.heap.size, 7, none⟩ = some (.int .u64 a.am) := bA6.cell 7
    have a_8 : (w5.alloc (.cells #[.int .u16 r.err, .int .u64 r.a, .int .u64 r.b, .int .u64 r.c] 41) : World).cell? ⟨w.heap.size, 8, none⟩ = some (.int .u64 a.price) := bA6.cell 8
    go_wp2
    clear x0 x1 x2 x3 x4 x5 x6 x7 x8 a_0 a_1 a_2 a_3 a_4 a_5 a_6 a_7 a_8
    rw [← hgx, ← hgy]
    rw [← hgx] at bX6
    rw [← hgy] at bY6
    have BA := Lib.hid bA6
    have BB := Lib.hid bB6
    have BR := Lib.hid bR6
    have BS := Lib.hid bS6
    have BX := Lib.hid bX6
    have BY := Lib.hid bY6
    have HX := Lib.hid hgx
    have HY := Lib.hid hgy
    clear hgx hgy bA6 bB6 bR6 bS6 bX6 bY6
    refine wp_region_ob (by kernel_rfl) (by kernel_rfl) [(fun v _ => v = Value.agg #[.int .u8 a.kind, .int .u32 a.n, .int .u8 a.k, .int .u32 a.who, .int .u32 a.whom, .int .u32 a.what, .int .u32 a.id, .int .u64 a.am, .int .u64 a.price]), (fun v W => IR W W.heap.size .u8 v (Codec.askB a)), (fun v _ => v = Value.agg #[.int .u8 b.kind, .int .u32 b.n, .int .u8 b.k, .int .u32 b.who, .int .u32 b.whom, .int .u32 b.what, .int .u32 b.id, .int .u64 b.am, .int .u64 b.price]), (fun v W => IR W W.heap.size .u8 v (Codec.askB b)), (fun v _ => v = Value.bool DA), (fun v _ => v = Value.agg #[.int .u8 a.kind, .int .u32 a.n, .int .u8 a.k, .int .u32 a.who, .int .u32 a.whom, .int .u32 a.what, .int .u32 a.id, .int .u64 a.am, .int .u64 a.price]), (fun v _ => v = Value.agg #[.int .u8 b.kind, .int .u32 b.n, .int .u8 b.k, .int .u32 b.who, .int .u32 b.whom, .int .u32 b.what, .int .u32 b.id, .int .u64 b.am, .int .u64 b.price]), (fun v _ => v = Value.bool DA), (fun v _ => v = Value.bool true), (fun v _ => v = Value.bool true), (fun v _ => v = Value.agg #[.int .u16 r.err, .int .u64 r.a, .int .u64 r.b, .int .u64 r.c]), (fun v W => IR W W.heap.size .u8 v (Codec.tellB r)), (fun v _ => v = Value.agg #[.int .u16 s.err, .int .u64 s.a, .int .u64 s.b, .int .u64 s.c]), (fun v W => IR W W.heap.size .u8 v (Codec.tellB s)), (fun v _ => v = Value.bool DR), (fun v _ => v = Value.agg #[.int .u16 r.err, .int .u64 r.a, .int .u64 r.b, .int .u64 r.c]), (fun v _ => v = Value.agg #[.int .u16 s.err, .int .u64 s.a, .int .u64 s.b, .int .u64 s.c]), (fun v _ => v = Value.bool DR), (fun v _ => v = Value.bool true), (fun v _ => v = Value.bool true), (fun v _ => v = Value.bool true)] ⟨stays_eq _, stays_IR _ _, stays_eq _, stays_IR _ _, stays_eq _, stays_eq _, stays_eq _, stays_eq _, stays_eq _, stays_eq _, stays_eq _, stays_IR _ _, stays_eq _, stays_IR _ _, stays_eq _, stays_eq _, stays_eq _, stays_eq _, stays_eq _, stays_eq _, stays_eq _, trivial⟩ (fun vals => ?_) (fun vals W hbW hall => ?_)
    · simp only [ObF, Act.put, List.setIfInBounds_toArray, List.set_cons_succ, List.set_cons_zero]
      refine ⟨?_, ?_, ?_, ?_, ?_, ?_, ?_, ?_, ?_, ?_, ?_, ?_, ?_, ?_, ?_, ?_, ?_, ?_, ?_, ?_, ?_, trivial⟩
      · intro W hbW hw
        clear hw
        refine step_plain rfl ?_
        have bw := BA.out.later hbW
        have c0 : (W : World).cell? ⟨w.heap.size, 0, none⟩ = some (.int .u8 a.kind) := bw.cell 0
        have c1 : (W : World).cell? ⟨w.heap.size, 1, none⟩ = some (.int .u32 a.n) := bw.cell 1
        have c2 : (W : World).cell? ⟨w.heap.size, 2, none⟩ = some (.int .u8 a.k) := bw.cell 2
        have c3 : (W : World).cell? ⟨w.heap.size, 3, none⟩ = some (.int .u32 a.who) := bw.cell 3
        have c4 : (W : World).cell? ⟨w.heap.size, 4, none⟩ = some (.int .u32 a.whom) := bw.cell 4
        have c5 : (W : World).cell? ⟨w.heap.size, 5, none⟩ = some (.int .u32 a.what) := bw.cell 5
        have c6 : (W : World).cell? ⟨w.heap.size, 6, none⟩ = some (.int .u32 a.id) := bw.cell 6
        have c7 : (W : World).cell? ⟨w.heap.size, 7, none⟩ = some (.int .u64 a.am) := bw.cell 7
        have c8 : (W : World).cell? ⟨w.heap.size, 8, none⟩ = some (.int .u64 a.price) := bw.cell 8
        go_simp
        (first | exact Below.refl _ _ | exact ⟨Below.refl _ _, rfl⟩ | exact ⟨_, rfl, Below.refl _ _, rfl⟩)
      · intro W hbW hw
        have f0 : vals 0 = Value.agg #[.int .u8 a.kind, .int .u32 a.n, .int .u8 a.k, .int .u32 a.who, .int .u32 a.whom, .int .u32 a.what, .int .u32 a.id, .int .u64 a.am, .int .u64 a.price] := hw ⟨0, .data⟩ (by simp) rfl
        clear hw
        refine step_plain rfl ?_
        go_simp
        refine (HA.out _).mono ?_
        rintro e W1 ⟨v, rfl, hi, hbl⟩
        exact ⟨hbl, hi⟩
      · intro W hbW hw
        clear hw
        refine step_plain rfl ?_
        have bw := BB.out.later hbW
        have c0 : (W : World).cell? ⟨w.heap.size + 1, 0, none⟩ = some (.int .u8 b.kind) := bw.cell 0
        have c1 : (W : World).cell? ⟨w.heap.size + 1, 1, none⟩ = some (.int .u32 b.n) := bw.cell 1
        have c2 : (W : World).cell? ⟨w.heap.size + 1, 2, none⟩ = some (.int .u8 b.k) := bw.cell 2
        have c3 : (W : World).cell? ⟨w.heap.size + 1, 3, none⟩ = some (.int .u32 b.who) := bw.cell 3
        have c4 : (W : World).cell? ⟨w.heap.size + 1, 4, none⟩ = some (.int .u32 b.whom) := bw.cell 4
        have c5 : (W : World).cell? ⟨w.heap.size + 1, 5, none⟩ = some (.int .u32 b.what) := bw.cell 5
        have c6 : (W : World).cell? ⟨w.heap.size + 1, 6, none⟩ = some (.int .u32 b.id) := bw.cell 6
        have c7 : (W : World).cell? ⟨w.heap.size + 1, 7, none⟩ = some (.int .u64 b.am) := bw.cell 7
        have c8 : (W : World).cell? ⟨w.heap.size + 1, 8, none⟩ = some (.int .u64 b.price) := bw.cell 8
        go_simp
        (first | exact Below.refl _ _ | exact ⟨Below.refl _ _, rfl⟩ | exact ⟨_, rfl, Below.refl _ _, rfl⟩)
      · intro W hbW hw
        have f2 : vals 2 = Value.agg #[.int .u8 b.kind, .int .u32 b.n, .int .u8 b.k, .int .u32 b.who, .int .u32 b.whom, .int .u32 b.what, .int .u32 b.id, .int .u64 b.am, .int .u64 b.price] := hw ⟨2, .data⟩ (by simp) rfl
        have f1 : IR W W.heap.size .u8 (vals 1) (Codec.askB a) := hw ⟨1, .chain⟩ (by simp) rfl
        clear hw
        refine step_plain rfl ?_
        go_simp
        refine (HB.out _).mono ?_
        rintro e W1 ⟨v, rfl, hi, hbl⟩
        exact ⟨hbl, hi⟩
      · intro W hbW hw
        have f1 : IR W W.heap.size .u8 (vals 1) (Codec.askB a) := hw ⟨1, .data⟩ (by simp) rfl
        have f3 : IR W W.heap.size .u8 (vals 3) (Codec.askB b) := hw ⟨3, .data⟩ (by simp) rfl
        clear hw
        refine step_plain rfl ?_
        go_simp
        refine (same_any _ _ _ _ _ _ _ f1 f3 (Codec.askB_bytes a) (Codec.askB_bytes b)).mono ?_
        rintro e W1 ⟨rfl, rfl⟩
        exact ⟨rfl, Below.refl _ _⟩
      · intro W hbW hw
        clear hw
        refine step_plain rfl ?_
        have bw := BA.out.later hbW
        have c0 : (W : World).cell? ⟨w.heap.size, 0, none⟩ = some (.int .u8 a.kind) := bw.cell 0
        have c1 : (W : World).cell? ⟨w.heap.size, 1, none⟩ = some (.int .u32 a.n) := bw.cell 1
        have c2 : (W : World).cell? ⟨w.heap.size, 2, none⟩ = some (.int .u8 a.k) := bw.cell 2
        have c3 : (W : World).cell? ⟨w.heap.size, 3, none⟩ = some (.int .u32 a.who) := bw.cell 3
        have c4 : (W : World).cell? ⟨w.heap.size, 4, none⟩ = some (.int .u32 a.whom) := bw.cell 4
        have c5 : (W : World).cell? ⟨w.heap.size, 5, none⟩ = some (.int .u32 a.what) := bw.cell 5
        have c6 : (W : World).cell? ⟨w.heap.size, 6, none⟩ = some (.int .u32 a.id) := bw.cell 6
        have c7 : (W : World).cell? ⟨w.heap.size, 7, none⟩ = some (.int .u64 a.am) := bw.cell 7
        have c8 : (W : World).cell? ⟨w.heap.size, 8, none⟩ = some (.int .u64 a.price) := bw.cell 8
        go_simp
        (first | exact Below.refl _ _ | exact ⟨Below.refl _ _, rfl⟩ | exact ⟨_, rfl, Below.refl _ _, rfl⟩)
      · intro W hbW hw
        clear hw
        refine step_plain rfl ?_
        have bw := BB.out.later hbW
        have c0 : (W : World).cell? ⟨w.heap.size + 1, 0, none⟩ = some (.int .u8 b.kind) := bw.cell 0
        have c1 : (W : World).cell? ⟨w.heap.size + 1, 1, none⟩ = some (.int .u32 b.n) := bw.cell 1
        have c2 : (W : World).cell? ⟨w.heap.size + 1, 2, none⟩ = some (.int .u8 b.k) := bw.cell 2
        have c3 : (W : World).cell? ⟨w.heap.size + 1, 3, none⟩ = some (.int .u32 b.who) := bw.cell 3
        have c4 : (W : World).cell? ⟨w.heap.size + 1, 4, none⟩ = some (.int .u32 b.whom) := bw.cell 4
        have c5 : (W : World).cell? ⟨w.heap.size + 1, 5, none⟩ = some (.int .u32 b.what) := bw.cell 5
        have c6 : (W : World).cell? ⟨w.heap.size + 1, 6, none⟩ = some (.int .u32 b.id) := bw.cell 6
        have c7 : (W : World).cell? ⟨w.heap.size + 1, 7, none⟩ = some (.int .u64 b.am) := bw.cell 7
        have c8 : (W : World).cell? ⟨w.heap.size + 1, 8, none⟩ = some (.int .u64 b.price) := bw.cell 8
        go_simp
        (first | exact Below.refl _ _ | exact ⟨Below.refl _ _, rfl⟩ | exact ⟨_, rfl, Below.refl _ _, rfl⟩)
      · intro W hbW hw
        have f5 : vals 5 = Value.agg #[.int .u8 a.kind, .int .u32 a.n, .int .u8 a.k, .int .u32 a.who, .int .u32 a.whom, .int .u32 a.what, .int .u32 a.id, .int .u64 a.am, .int .u64 a.price] := hw ⟨5, .data⟩ (by simp) rfl
        have f6 : vals 6 = Value.agg #[.int .u8 b.kind, .int .u32 b.n, .int .u8 b.k, .int .u32 b.who, .int .u32 b.whom, .int .u32 b.what, .int .u32 b.id, .int .u64 b.am, .int .u64 b.price] := hw ⟨6, .data⟩ (by simp) rfl
        clear hw
        refine step_plain rfl ?_
        obtain ⟨VA, hVA⟩ : ∃ v, v = Value.agg #[.int .u8 a.kind, .int .u32 a.n, .int .u8 a.k, .int .u32 a.who, .int .u32 a.whom, .int .u32 a.what, .int .u32 a.id, .int .u64 a.am, .int .u64 a.price] := ⟨_, rfl⟩
        obtain ⟨VB, hVB⟩ : ∃ v, v = Value.agg #[.int .u8 b.kind, .int .u32 b.n, .int .u8 b.k, .int .u32 b.who, .int .u32 b.whom, .int .u32 b.what, .int .u32 b.id, .int .u64 b.am, .int .u64 b.price] := ⟨_, rfl⟩
        have q1 := EDA.out W
        have q2 := fun x y => GDA.out x y W
        rw [← hVA, ← hVB] at q1 q2
        rw [← hVA] at f5
        rw [← hVB] at f6
        clear hVA hVB
        go_simp
        (first | exact Below.refl _ _ | exact ⟨Below.refl _ _, rfl⟩ | exact ⟨_, rfl, Below.refl _ _, rfl⟩)
      · intro W hbW hw
        have f4 : vals 4 = Value.bool DA := hw ⟨4, .data⟩ (by simp) rfl
        have f7 : vals 7 = Value.bool DA := hw ⟨7, .data⟩ (by simp) rfl
        clear hw
        refine step_plain rfl ?_
        go_simp
        (first | exact Below.refl _ _ | exact ⟨Below.refl _ _, rfl⟩ | exact ⟨_, rfl, Below.refl _ _, rfl⟩)
      · intro W hbW hw
        have f8 : vals 8 = Value.bool true := hw ⟨8, .data⟩ (by simp) rfl
        have f4 : vals 4 = Value.bool DA := hw ⟨4, .chain⟩ (by simp) rfl
        clear hw
        refine step_plain rfl ?_
        go_simp
        (first | exact Below.refl _ _ | exact ⟨Below.refl _ _, rfl⟩ | exact ⟨_, rfl, Below.refl _ _, rfl⟩)
      · intro W hbW hw
        have f9 : vals 9 = Value.bool true := hw ⟨9, .guard⟩ (by simp) rfl
        clear hw
        refine step_guard rfl (yielded_of rfl f9) ?_
        have bw := BR.out.later hbW
        have c0 : (W : World).cell? ⟨w.heap.size + 1 + 1, 0, none⟩ = some (.int .u16 r.err) := bw.cell 0
        have c1 : (W : World).cell? ⟨w.heap.size + 1 + 1, 1, none⟩ = some (.int .u64 r.a) := bw.cell 1
        have c2 : (W : World).cell? ⟨w.heap.size + 1 + 1, 2, none⟩ = some (.int .u64 r.b) := bw.cell 2
        have c3 : (W : World).cell? ⟨w.heap.size + 1 + 1, 3, none⟩ = some (.int .u64 r.c) := bw.cell 3
        go_simp
        (first | exact Below.refl _ _ | exact ⟨Below.refl _ _, rfl⟩ | exact ⟨_, rfl, Below.refl _ _, rfl⟩)
      · intro W hbW hw
        have f10 : vals 10 = Value.agg #[.int .u16 r.err, .int .u64 r.a, .int .u64 r.b, .int .u64 r.c] := hw ⟨10, .data⟩ (by simp) rfl
        have f9 : vals 9 = Value.bool true := hw ⟨9, .chain⟩ (by simp) rfl
        clear hw
        refine step_guard rfl (yielded_of rfl f9) ?_
        go_simp
        refine (HT.out _).mono ?_
        rintro e W1 ⟨v, rfl, hi, hbl⟩
        exact ⟨hbl, hi⟩
      · intro W hbW hw
        have f9 : vals 9 = Value.bool true := hw ⟨9, .guard⟩ (by simp) rfl
        clear hw
        refine step_guard rfl (yielded_of rfl f9) ?_
        have bw := BS.out.later hbW
        have c0 : (W : World).cell? ⟨w.heap.size + 1 + 1 + 1, 0, none⟩ = some (.int .u16 s.err) := bw.cell 0
        have c1 : (W : World).cell? ⟨w.heap.size + 1 + 1 + 1, 1, none⟩ = some (.int .u64 s.a) := bw.cell 1
        have c2 : (W : World).cell? ⟨w.heap.size + 1 + 1 + 1, 2, none⟩ = some (.int .u64 s.b) := bw.cell 2
        have c3 : (W : World).cell? ⟨w.heap.size + 1 + 1 + 1, 3, none⟩ = some (.int .u64 s.c) := bw.cell 3
        go_simp
        (first | exact Below.refl _ _ | exact ⟨Below.refl _ _, rfl⟩ | exact ⟨_, rfl, Below.refl _ _, rfl⟩)
      · intro W hbW hw
        have f12 : vals 12 = Value.agg #[.int .u16 s.err, .int .u64 s.a, .int .u64 s.b, .int .u64 s.c] := hw ⟨12, .data⟩ (by simp) rfl
        have f11 : IR W W.heap.size .u8 (vals 11) (Codec.tellB r) := hw ⟨11, .chain⟩ (by simp) rfl
        have f9 : vals 9 = Value.bool true := hw ⟨9, .guard⟩ (by simp) rfl
        clear hw
        refine step_guard rfl (yielded_of rfl f9) ?_
        go_simp
        refine (HS.out _).mono ?_
        rintro e W1 ⟨v, rfl, hi, hbl⟩
        exact ⟨hbl, hi⟩
      · intro W hbW hw
        have f11 : IR W W.heap.size .u8 (vals 11) (Codec.tellB r) := hw ⟨11, .data⟩ (by simp) rfl
        have f13 : IR W W.heap.size .u8 (vals 13) (Codec.tellB s) := hw ⟨13, .data⟩ (by simp) rfl
        have f9 : vals 9 = Value.bool true := hw ⟨9, .guard⟩ (by simp) rfl
        clear hw
        refine step_guard rfl (yielded_of rfl f9) ?_
        go_simp
        refine (same_any _ _ _ _ _ _ _ f11 f13 (Codec.tellB_bytes r) (Codec.tellB_bytes s)).mono ?_
        rintro e W1 ⟨rfl, rfl⟩
        exact ⟨rfl, Below.refl _ _⟩
      · intro W hbW hw
        have f9 : vals 9 = Value.bool true := hw ⟨9, .guard⟩ (by simp) rfl
        clear hw
        refine step_guard rfl (yielded_of rfl f9) ?_
        have bw := BR.out.later hbW
        have c0 : (W : World).cell? ⟨w.heap.size + 1 + 1, 0, none⟩ = some (.int .u16 r.err) := bw.cell 0
        have c1 : (W : World).cell? ⟨w.heap.size + 1 + 1, 1, none⟩ = some (.int .u64 r.a) := bw.cell 1
        have c2 : (W : World).cell? ⟨w.heap.size + 1 + 1, 2, none⟩ = some (.int .u64 r.b) := bw.cell 2
        have c3 : (W : World).cell? ⟨w.heap.size + 1 + 1, 3, none⟩ = some (.int .u64 r.c) := bw.cell 3
        go_simp
        (first | exact Below.refl _ _ | exact ⟨Below.refl _ _, rfl⟩ | exact ⟨_, rfl, Below.refl _ _, rfl⟩)
      · intro W hbW hw
        have f9 : vals 9 = Value.bool true := hw ⟨9, .guard⟩ (by simp) rfl
        clear hw
        refine step_guard rfl (yielded_of rfl f9) ?_
        have bw := BS.out.later hbW
        have c0 : (W : World).cell? ⟨w.heap.size + 1 + 1 + 1, 0, none⟩ = some (.int .u16 s.err) := bw.cell 0
        have c1 : (W : World).cell? ⟨w.heap.size + 1 + 1 + 1, 1, none⟩ = some (.int .u64 s.a) := bw.cell 1
        have c2 : (W : World).cell? ⟨w.heap.size + 1 + 1 + 1, 2, none⟩ = some (.int .u64 s.b) := bw.cell 2
        have c3 : (W : World).cell? ⟨w.heap.size + 1 + 1 + 1, 3, none⟩ = some (.int .u64 s.c) := bw.cell 3
        go_simp
        (first | exact Below.refl _ _ | exact ⟨Below.refl _ _, rfl⟩ | exact ⟨_, rfl, Below.refl _ _, rfl⟩)
      · intro W hbW hw
        have f15 : vals 15 = Value.agg #[.int .u16 r.err, .int .u64 r.a, .int .u64 r.b, .int .u64 r.c] := hw ⟨15, .data⟩ (by simp) rfl
        have f16 : vals 16 = Value.agg #[.int .u16 s.err, .int .u64 s.a, .int .u64 s.b, .int .u64 s.c] := hw ⟨16, .data⟩ (by simp) rfl
        have f9 : vals 9 = Value.bool true := hw ⟨9, .guard⟩ (by simp) rfl
        clear hw
        refine step_guard rfl (yielded_of rfl f9) ?_
        obtain ⟨VA, hVA⟩ : ∃ v, v = Value.agg #[.int .u16 r.err, .int .u64 r.a, .int .u64 r.b, .int .u64 r.c] := ⟨_, rfl⟩
        obtain ⟨VB, hVB⟩ : ∃ v, v = Value.agg #[.int .u16 s.err, .int .u64 s.a, .int .u64 s.b, .int .u64 s.c] := ⟨_, rfl⟩
        have q1 := EDR.out W
        have q2 := fun x y => GDR.out x y W
        rw [← hVA, ← hVB] at q1 q2
        rw [← hVA] at f15
        rw [← hVB] at f16
        clear hVA hVB
        go_simp
        (first | exact Below.refl _ _ | exact ⟨Below.refl _ _, rfl⟩ | exact ⟨_, rfl, Below.refl _ _, rfl⟩)
      · intro W hbW hw
        have f14 : vals 14 = Value.bool DR := hw ⟨14, .data⟩ (by simp) rfl
        have f17 : vals 17 = Value.bool DR := hw ⟨17, .data⟩ (by simp) rfl
        have f9 : vals 9 = Value.bool true := hw ⟨9, .guard⟩ (by simp) rfl
        clear hw
        refine step_guard rfl (yielded_of rfl f9) ?_
        go_simp
        (first | exact Below.refl _ _ | exact ⟨Below.refl _ _, rfl⟩ | exact ⟨_, rfl, Below.refl _ _, rfl⟩)
      · intro W hbW hw
        have f9 : vals 9 = Value.bool true := hw ⟨9, .data⟩ (by simp) rfl
        have f18 : vals 18 = Value.bool true := hw ⟨18, .data⟩ (by simp) rfl
        clear hw
        refine step_plain rfl ?_
        go_simp
        (first | exact Below.refl _ _ | exact ⟨Below.refl _ _, rfl⟩ | exact ⟨_, rfl, Below.refl _ _, rfl⟩)
      · intro W hbW hw
        have f19 : vals 19 = Value.bool true := hw ⟨19, .data⟩ (by simp) rfl
        have f14 : vals 14 = Value.bool DR := hw ⟨14, .chain⟩ (by simp) rfl
        have f0 : vals 0 = Value.agg #[.int .u8 a.kind, .int .u32 a.n, .int .u8 a.k, .int .u32 a.who, .int .u32 a.whom, .int .u32 a.what, .int .u32 a.id, .int .u64 a.am, .int .u64 a.price] := hw ⟨0, .phase⟩ (by simp) rfl
        have f1 : IR W W.heap.size .u8 (vals 1) (Codec.askB a) := hw ⟨1, .phase⟩ (by simp) rfl
        have f2 : vals 2 = Value.agg #[.int .u8 b.kind, .int .u32 b.n, .int .u8 b.k, .int .u32 b.who, .int .u32 b.whom, .int .u32 b.what, .int .u32 b.id, .int .u64 b.am, .int .u64 b.price] := hw ⟨2, .phase⟩ (by simp) rfl
        have f3 : IR W W.heap.size .u8 (vals 3) (Codec.askB b) := hw ⟨3, .phase⟩ (by simp) rfl
        have f4 : vals 4 = Value.bool DA := hw ⟨4, .phase⟩ (by simp) rfl
        have f5 : vals 5 = Value.agg #[.int .u8 a.kind, .int .u32 a.n, .int .u8 a.k, .int .u32 a.who, .int .u32 a.whom, .int .u32 a.what, .int .u32 a.id, .int .u64 a.am, .int .u64 a.price] := hw ⟨5, .phase⟩ (by simp) rfl
        have f6 : vals 6 = Value.agg #[.int .u8 b.kind, .int .u32 b.n, .int .u8 b.k, .int .u32 b.who, .int .u32 b.whom, .int .u32 b.what, .int .u32 b.id, .int .u64 b.am, .int .u64 b.price] := hw ⟨6, .phase⟩ (by simp) rfl
        have f7 : vals 7 = Value.bool DA := hw ⟨7, .phase⟩ (by simp) rfl
        have f8 : vals 8 = Value.bool true := hw ⟨8, .phase⟩ (by simp) rfl
        have f9 : vals 9 = Value.bool true := hw ⟨9, .phase⟩ (by simp) rfl
        have f10 : vals 10 = Value.agg #[.int .u16 r.err, .int .u64 r.a, .int .u64 r.b, .int .u64 r.c] := hw ⟨10, .phase⟩ (by simp) rfl
        have f11 : IR W W.heap.size .u8 (vals 11) (Codec.tellB r) := hw ⟨11, .phase⟩ (by simp) rfl
        have f12 : vals 12 = Value.agg #[.int .u16 s.err, .int .u64 s.a, .int .u64 s.b, .int .u64 s.c] := hw ⟨12, .phase⟩ (by simp) rfl
        have f13 : IR W W.heap.size .u8 (vals 13) (Codec.tellB s) := hw ⟨13, .phase⟩ (by simp) rfl
        have f15 : vals 15 = Value.agg #[.int .u16 r.err, .int .u64 r.a, .int .u64 r.b, .int .u64 r.c] := hw ⟨15, .phase⟩ (by simp) rfl
        have f16 : vals 16 = Value.agg #[.int .u16 s.err, .int .u64 s.a, .int .u64 s.b, .int .u64 s.c] := hw ⟨16, .phase⟩ (by simp) rfl
        have f17 : vals 17 = Value.bool DR := hw ⟨17, .phase⟩ (by simp) rfl
        have f18 : vals 18 = Value.bool true := hw ⟨18, .phase⟩ (by simp) rfl
        clear hw
        refine step_plain rfl ?_
        go_simp
        (first | exact Below.refl _ _ | exact ⟨Below.refl _ _, rfl⟩ | exact ⟨_, rfl, Below.refl _ _, rfl⟩)
    · simp only [TL, Act.put, List.setIfInBounds_toArray, List.set_cons_succ, List.set_cons_zero]
      have f0 : vals 0 = Value.agg #[.int .u8 a.kind, .int .u32 a.n, .int .u8 a.k, .int .u32 a.who, .int .u32 a.whom, .int .u32 a.what, .int .u32 a.id, .int .u64 a.am, .int .u64 a.price] := hall 0 (by decide)
      have f1 : IR W W.heap.size .u8 (vals 1) (Codec.askB a) := hall 1 (by decide)
      have f2 : vals 2 = Value.agg #[.int .u8 b.kind, .int .u32 b.n, .int .u8 b.k, .int .u32 b.who, .int .u32 b.whom, .int .u32 b.what, .int .u32 b.id, .int .u64 b.am, .int .u64 b.price] := hall 2 (by decide)
      have f3 : IR W W.heap.size .u8 (vals 3) (Codec.askB b) := hall 3 (by decide)
      have f4 : vals 4 = Value.bool DA := hall 4 (by decide)
      have f5 : vals 5 = Value.agg #[.int .u8 a.kind, .int .u32 a.n, .int .u8 a.k, .int .u32 a.who, .int .u32 a.whom, .int .u32 a.what, .int .u32 a.id, .int .u64 a.am, .int .u64 a.price] := hall 5 (by decide)
      have f6 : vals 6 = Value.agg #[.int .u8 b.kind, .int .u32 b.n, .int .u8 b.k, .int .u32 b.who, .int .u32 b.whom, .int .u32 b.what, .int .u32 b.id, .int .u64 b.am, .int .u64 b.price] := hall 6 (by decide)
      have f7 : vals 7 = Value.bool DA := hall 7 (by decide)
      have f8 : vals 8 = Value.bool true := hall 8 (by decide)
      have f9 : vals 9 = Value.bool true := hall 9 (by decide)
      have f10 : vals 10 = Value.agg #[.int .u16 r.err, .int .u64 r.a, .int .u64 r.b, .int .u64 r.c] := hall 10 (by decide)
      have f11 : IR W W.heap.size .u8 (vals 11) (Codec.tellB r) := hall 11 (by decide)
      have f12 : vals 12 = Value.agg #[.int .u16 s.err, .int .u64 s.a, .int .u64 s.b, .int .u64 s.c] := hall 12 (by decide)
      have f13 : IR W W.heap.size .u8 (vals 13) (Codec.tellB s) := hall 13 (by decide)
      have f14 : vals 14 = Value.bool DR := hall 14 (by decide)
      have f15 : vals 15 = Value.agg #[.int .u16 r.err, .int .u64 r.a, .int .u64 r.b, .int .u64 r.c] := hall 15 (by decide)
      have f16 : vals 16 = Value.agg #[.int .u16 s.err, .int .u64 s.a, .int .u64 s.b, .int .u64 s.c] := hall 16 (by decide)
      have f17 : vals 17 = Value.bool DR := hall 17 (by decide)
      have f18 : vals 18 = Value.bool true := hall 18 (by decide)
      have f19 : vals 19 = Value.bool true := hall 19 (by decide)
      have f20 : vals 20 = Value.bool true := hall 20 (by decide)
      clear hall
      simp only [f0, f2, f4, f5, f6, f7, f8, f9, f10, f12, f14, f15, f16, f17, f18, f19, f20]
      clear f0 f2 f4 f5 f6 f7 f8 f9 f10 f12 f14 f15 f16 f17 f18 f19 f20
      have BA' := Lib.hid (BA.out.later hbW)
      have bR7 := BR.out.later hbW
      have bY7 := BY.out.later hbW
      have hw7 := step_ hw6 hbW
      go_wp2_with fail
      (with_reducible refine (known_any _).mono ?_)
      rintro e w8 ⟨rfl, hb8⟩
      have bR8 := bR7.later hb8
      have bY8 := bY7.later hb8
      have y0 : (w8 : World).cell? ⟨gy, 0, none⟩ = some (.int .u16 r.err) := bY8.cell 0
      have y1 : (w8 : World).cell? ⟨gy, 1, none⟩ = some (.int .u64 r.a) := bY8.cell 1
      have y2 : (w8 : World).cell? ⟨gy, 2, none⟩ = some (.int .u64 r.b) := bY8.cell 2
      have y3 : (w8 : World).cell? ⟨gy, 3, none⟩ = some (.int .u64 r.c) := bY8.cell 3
      have r0 : (w8 : World).cell? ⟨w.heap.size + 1 + 1, 0, none⟩ = some (.int .u16 r.err) := bR8.cell 0
      have r1 : (w8 : World).cell? ⟨w.heap.size + 1 + 1, 1, none⟩ = some (.int .u64 r.a) := bR8.cell 1
      have r2 : (w8 : World).cell? ⟨w.heap.size + 1 + 1, 2, none⟩ = some (.int .u64 r.b) := bR8.cell 2
      have r3 : (w8 : World).cell? ⟨w.heap.size + 1 + 1, 3, none⟩ = some (.int .u64 r.c) := bR8.cell 3
      go_wp2
      go_ret
      exact ⟨rfl, step_ hw7 hb8⟩
  · have hn : ¬ ((askB a).length = 38 ∧ mayB (ofB (askB a)) = true) := fun h => hm (by rw [← of_ask a ha]; exact h.2)
    have hq1 : askedQ (askB a) = zeroQ := by unfold askedQ; rw [if_neg hn]
    have hq2 : askedE (askB a) = 230 := by unfold askedE; rw [if_neg hn]
    rw [hq1, hq2] at HQ
    clear hq1 hq2 hp1 hp2
    unfold cellsQ at HA HB HQ ⊢
    unfold zeroQ at HQ
    unfold cellsP at HT HS HP ⊢
    go_enter Try.func5, Try.ntmps5
    have bA0 := (((new' w (w.heap.size) rfl #[.int .u8 a.kind, .int .u32 a.n, .int .u8 a.k, .int .u32 a.who, .int .u32 a.whom, .int .u32 a.what, .int .u32 a.id, .int .u64 a.am, .int .u64 a.price] 27).alloc (.cells #[.int .u8 b.kind, .int .u32 b.n, .int .u8 b.k, .int .u32 b.who, .int .u32 b.whom, .int .u32 b.what, .int .u32 b.id, .int .u64 b.am, .int .u64 b.price] 27)).alloc (.cells #[.int .u16 r.err, .int .u64 r.a, .int .u64 r.b, .int .u64 r.c] 41)).alloc (.cells #[.int .u16 s.err, .int .u64 s.a, .int .u64 s.b, .int .u64 s.c] 41)
    have bB0 := ((new' (w.alloc (.cells #[.int .u8 a.kind, .int .u32 a.n, .int .u8 a.k, .int .u32 a.who, .int .u32 a.whom, .int .u32 a.what, .int .u32 a.id, .int .u64 a.am, .int .u64 a.price] 27)) (w.heap.size + 1) (by simp) #[.int .u8 b.kind, .int .u32 b.n, .int .u8 b.k, .int .u32 b.who, .int .u32 b.whom, .int .u32 b.what, .int .u32 b.id, .int .u64 b.am, .int .u64 b.price] 27).alloc (.cells #[.int .u16 r.err, .int .u64 r.a, .int .u64 r.b, .int .u64 r.c] 41)).alloc (.cells #[.int .u16 s.err, .int .u64 s.a, .int .u64 s.b, .int .u64 s.c] 41)
    have bR0 := (new' ((w.alloc (.cells #[.int .u8 a.kind, .int .u32 a.n, .int .u8 a.k, .int .u32 a.who, .int .u32 a.whom, .int .u32 a.what, .int .u32 a.id, .int .u64 a.am, .int .u64 a.price] 27)).alloc (.cells #[.int .u8 b.kind, .int .u32 b.n, .int .u8 b.k, .int .u32 b.who, .int .u32 b.whom, .int .u32 b.what, .int .u32 b.id, .int .u64 b.am, .int .u64 b.price] 27)) (w.heap.size + 1 + 1) (by simp) #[.int .u16 r.err, .int .u64 r.a, .int .u64 r.b, .int .u64 r.c] 41).alloc (.cells #[.int .u16 s.err, .int .u64 s.a, .int .u64 s.b, .int .u64 s.c] 41)
    have bS0 := new' (((w.alloc (.cells #[.int .u8 a.kind, .int .u32 a.n, .int .u8 a.k, .int .u32 a.who, .int .u32 a.whom, .int .u32 a.what, .int .u32 a.id, .int .u64 a.am, .int .u64 a.price] 27)).alloc (.cells #[.int .u8 b.kind, .int .u32 b.n, .int .u8 b.k, .int .u32 b.who, .int .u32 b.whom, .int .u32 b.what, .int .u32 b.id, .int .u64 b.am, .int .u64 b.price] 27)).alloc (.cells #[.int .u16 r.err, .int .u64 r.a, .int .u64 r.b, .int .u64 r.c] 41)) (w.heap.size + 1 + 1 + 1) (by simp) #[.int .u16 s.err, .int .u64 s.a, .int .u64 s.b, .int .u64 s.c] 41
    have hw0 := new_ (new_ (new_ (new_ (Below.refl w.heap.size w) (.cells #[.int .u8 a.kind, .int .u32 a.n, .int .u8 a.k, .int .u32 a.who, .int .u32 a.whom, .int .u32 a.what, .int .u32 a.id, .int .u64 a.am, .int .u64 a.price] 27)) (.cells #[.int .u8 b.kind, .int .u32 b.n, .int .u8 b.k, .int .u32 b.who, .int .u32 b.whom, .int .u32 b.what, .int .u32 b.id, .int .u64 b.am, .int .u64 b.price] 27)) (.cells #[.int .u16 r.err, .int .u64 r.a, .int .u64 r.b, .int .u64 r.c] 41)) (.cells #[.int .u16 s.err, .int .u64 s.a, .int .u64 s.b, .int .u64 s.c] 41)
    (go_wp2_with fail)
    (with_reducible refine (HA.out _).mono ?_)
    rintro e w1 ⟨v1, rfl, i1, hb1⟩
    have bA1 := bA0.later hb1
    have bB1 := bB0.later hb1
    have bR1 := bR0.later hb1
    have bS1 := bS0.later hb1
    have hw1 := step_ hw0 hb1
    clear bA0 bB0 bR0 bS0 hb1 hw0
    (go_wp2_with fail)
    (with_reducible refine (HQ.out _ _ i1).mono ?_)
    rintro e w2 ⟨rfl, hb2⟩
    have bA2 := bA1.later hb2
    have bB2 := bB1.later hb2
    have bR2 := bR1.later hb2
    have bS2 := bS1.later hb2
    have bA3 := bA2.alloc (.cells #[.int .u8 0, .int .u32 0, .int .u8 0, .int .u32 0, .int .u32 0, .int .u32 0, .int .u32 0, .int .u64 0, .int .u64 0] 27)
    have bB3 := bB2.alloc (.cells #[.int .u8 0, .int .u32 0, .int .u8 0, .int .u32 0, .int .u32 0, .int .u32 0, .int .u32 0, .int .u64 0, .int .u64 0] 27)
    have bR3 := bR2.alloc (.cells #[.int .u8 0, .int .u32 0, .int .u8 0, .int .u32 0, .int .u32 0, .int .u32 0, .int .u32 0, .int .u64 0, .int .u64 0] 27)
    have bS3 := bS2.alloc (.cells #[.int .u8 0, .int .u32 0, .int .u8 0, .int .u32 0, .int .u32 0, .int .u32 0, .int .u32 0, .int .u64 0, .int .u64 0] 27)
    have bX3 := Box.new w2 #[.int .u8 0, .int .u32 0, .int .u8 0, .int .u32 0, .int .u32 0, .int .u32 0, .int .u32 0, .int .u64 0, .int .u64 0] 27
    have hw3 := new_ (step_ hw1 hb2) (.cells #[.int .u8 0, .int .u32 0, .int .u8 0, .int .u32 0, .int .u32 0, .int .u32 0, .int .u32 0, .int .u64 0, .int .u64 0] 27)
    clear bA1 bB1 bR1 bS1 hw1 i1 bA2 bB2 bR2 bS2
    obtain ⟨gx, hgx⟩ : ∃ gx, gx = w2.heap.size := ⟨_, rfl⟩
    have r0 : (w2.alloc (.cells #[.int .u8 0, .int .u32 0, .int .u8 0, .int .u32 0, .int .u32 0, .int .u32 0, .int .u32 0, .int .u64 0, .int .u64 0] 27) : World).cell? ⟨w.heap.size + 1 + 1, 0, none⟩ = some (.int .u16 r.err) := bR3.cell 0
    have r1 : (w2.alloc (.cells #[.int .u8 0, .int .u32 0, .int .u8 0, .int .u32 0, .int .u32 0, .int .u32 0, .int .u32 0, .int .u64 0, .int .u64 0] 27) : World).cell? ⟨w.heap.size + 1 + 1, 1, none⟩ = some (.int .u64 r.a) := bR3.cell 1
    have r2 : (w2.alloc (.cells #[.int .u8 0, .int .u32 0, .int .u8 0, .int .u32 0, .int .u32 0, .int .u32 0, .int .u32 0, .int .u64 0, .int .u64 0] 27) : World).cell? ⟨w.heap.size + 1 + 1, 2, none⟩ = some (.int .u64 r.b) := bR3.cell 2
    have r3 : (w2.alloc (.cells #[.int .u8 0, .int .u32 0, .int .u8 0, .int .u32 0, .int .u32 0, .int .u32 0, .int .u32 0, .int .u64 0, .int .u64 0] 27) : World).cell? ⟨w.heap.size + 1 + 1, 3, none⟩ = some (.int .u64 r.c) := bR3.cell 3
    (go_wp2_with fail)
    clear r0 r1 r2 r3
    (with_reducible refine (HT.out _).mono ?_)
    rintro e w4 ⟨v2, rfl, i2, hb3⟩
    have bA4 := bA3.later hb3
    have bB4 := bB3.later hb3
    have bR4 := bR3.later hb3
    have bS4 := bS3.later hb3
    have bX4 := bX3.later hb3
    have hw4 := step_ hw3 hb3
    clear bA3 bB3 bR3 bS3 bX3 hb2 hb3 hw3
    (go_wp2_with fail)
    (with_reducible refine (HP.out _ _ i2).mono ?_)
    rintro e w5 ⟨rfl, hb4⟩
    have bA5 := bA4.later hb4
    have bB5 := bB4.later hb4
    have bR5 := bR4.later hb4
    have bS5 := bS4.later hb4
    have bX5 := bX4.later hb4
    have bA6 := bA5.alloc (.cells #[.int .u16 r.err, .int .u64 r.a, .int .u64 r.b, .int .u64 r.c] 41)
    have bB6 := bB5.alloc (.cells #[.int .u16 r.err, .int .u64 r.a, .int .u64 r.b, .int .u64 r.c] 41)
    have bR6 := bR5.alloc (.cells #[.int .u16 r.err, .int .u64 r.a, .int .u64 r.b, .int .u64 r.c] 41)
    have bS6 := bS5.alloc (.cells #[.int .u16 r.err, .int .u64 r.a, .int .u64 r.b, .int .u64 r.c] 41)
    have bX6 := bX5.alloc (.cells #[.int .u16 r.err, .int .u64 r.a, .int .u64 r.b, .int .u64 r.c] 41)
    have bY6 := Box.new w5 #[.int .u16 r.err, .int .u64 r.a, .int .u64 r.b, .int .u64 r.c] 41
    have hw6 := new_ (step_ hw4 hb4) (.cells #[.int .u16 r.err, .int .u64 r.a, .int .u64 r.b, .int .u64 r.c] 41)
    clear bA4 bB4 bR4 bS4 bX4 hw4 i2 bA5 bB5 bR5 bS5 bX5 hb4
    obtain ⟨gy, hgy⟩ : ∃ gy, gy = w5.heap.size := ⟨_, rfl⟩
    have x0 : (w5.alloc (.cells #[.int .u16 r.err, .int .u64 r.a, .int .u64 r.b, .int .u64 r.c] 41) : World).cell? ⟨w2.heap.size, 0, none⟩ = some (.int .u8 0) := bX6.cell 0
    have x1 : (w5.alloc (.cells #[.int .u16 r.err, .int .u64 r.a, .int .u64 r.b, .int .u64 r.c] 41) : World).cell? ⟨w2.heap.size, 1, none⟩ = some (.int .u32 0) := bX6.cell 1
    have x2 : (w5.alloc (.cells #[.int .u16 r.err, .int .u64 r.a, .int .u64 r.b, .int .u64 r.c] 41) : World).cell? ⟨w2.heap.size, 2, none⟩ = some (.int .u8 0) := bX6.cell 2
    have x3 : (w5.alloc (.cells #[.int .u16 r.err, .int .u64 r.a, .int .u64 r.b, .int .u64 r.c] 41) : World).cell? ⟨w2.heap.size, 3, none⟩ = some (.int .u32 0) := bX6.cell 3
    have x4 : (w5.alloc (.cells #[.int .u16 r.err, .int .u64 r.a, .int .u64 r.b, .int .u64 r.c] 41) : World).cell? ⟨w2.heap.size, 4, none⟩ = some (.int .u32 0) := bX6.cell 4
    have x5 : (w5.alloc (.cells #[.int .u16 r.err, .int .u64 r.a, .int .u64 r.b, .int .u64 r.c] 41) : World).cell? ⟨w2.heap.size, 5, none⟩ = some (.int .u32 0) := bX6.cell 5
    have x6 : (w5.alloc (.cells #[.int .u16 r.err, .int .u64 r.a, .int .u64 r.b, .int .u64 r.c] 41) : World).cell? ⟨w2.heap.size, 6, none⟩ = some (.int .u32 0) := bX6.cell 6
    have x7 : (w5.alloc (.cells #[.int .u16 r.err, .int .u64 r.a, .int .u64 r.b, .int .u64 r.c] 41) : World).cell? ⟨w2.heap.size, 7, none⟩ = some (.int .u64 0) := bX6.cell 7
    have x8 : (w5.alloc (.cells #[.int .u16 r.err, .int .u64 r.a, .int .u64 r.b, .int .u64 r.c] 41) : World).cell? ⟨w2.heap.size, 8, none⟩ = some (.int .u64 0) := bX6.cell 8
    have a_0 : (w5.alloc (.cells #[.int .u16 r.err, .int .u64 r.a, .int .u64 r.b, .int .u64 r.c] 41) : World).cell? ⟨w.heap.size, 0, none⟩ = some (.int .u8 a.kind) := bA6.cell 0
    have a_1 : (w5.alloc (.cells #[.int .u16 r.err, .int .u64 r.a, .int .u64 r.b, .int .u64 r.c] 41) : World).cell? ⟨w.heap.size, 1, none⟩ = some (.int .u32 a.n) := bA6.cell 1
    have a_2 : (w5.alloc (.cells #[.int .u16 r.err, .int .u64 r.a, .int .u64 r.b, .int .u64 r.c] 41) : World).cell? ⟨w.heap.size, 2, none⟩ = some (.int .u8 a.k) := bA6.cell 2
    have a_3 : (w5.alloc (.cells #[.int .u16 r.err, .int .u64 r.a, .int .u64 r.b, .int .u64 r.c] 41) : World).cell? ⟨w.heap.size, 3, none⟩ = some (.int .u32 a.who) := bA6.cell 3
    have a_4 : (w5.alloc (.cells #[.int .u16 r.err, .int .u64 r.a, .int .u64 r.b, .int .u64 r.c] 41) : World).cell? ⟨w.heap.size, 4, none⟩ = some (.int .u32 a.whom) := bA6.cell 4
    have a_5 : (w5.alloc (.cells #[.int .u16 r.err, .int .u64 r.a, .int .u64 r.b, .int .u64 r.c] 41) : World).cell? ⟨w.heap.size, 5, none⟩ = some (.int .u32 a.what) := bA6.cell 5
    have a_6 : (w5.alloc (.cells #[.int .u16 r.err, .int .u64 r.a, .int .u64 r.b, .int .u64 r.c] 41) : World).cell? ⟨w.heap.size, 6, none⟩ = some (.int .u32 a.id) := bA6.cell 6
    have a_7 : (w5.alloc (.cells #[.int .u16 r.err, .int .u64 r.a, .int .u64 r.b, .int .u64 r.c] 41) : World).cell? ⟨w.heap.size, 7, none⟩ = some (.int .u64 a.am) := bA6.cell 7
    have a_8 : (w5.alloc (.cells #[.int .u16 r.err, .int .u64 r.a, .int .u64 r.b, .int .u64 r.c] 41) : World).cell? ⟨w.heap.size, 8, none⟩ = some (.int .u64 a.price) := bA6.cell 8
    go_wp2
    clear x0 x1 x2 x3 x4 x5 x6 x7 x8 a_0 a_1 a_2 a_3 a_4 a_5 a_6 a_7 a_8
    rw [← hgx, ← hgy]
    rw [← hgx] at bX6
    rw [← hgy] at bY6
    have BA := Lib.hid bA6
    have BB := Lib.hid bB6
    have BR := Lib.hid bR6
    have BS := Lib.hid bS6
    have BX := Lib.hid bX6
    have BY := Lib.hid bY6
    have HX := Lib.hid hgx
    have HY := Lib.hid hgy
    clear hgx hgy bA6 bB6 bR6 bS6 bX6 bY6
    refine wp_region_ob (by kernel_rfl) (by kernel_rfl) [(fun v _ => v = Value.agg #[.int .u8 a.kind, .int .u32 a.n, .int .u8 a.k, .int .u32 a.who, .int .u32 a.whom, .int .u32 a.what, .int .u32 a.id, .int .u64 a.am, .int .u64 a.price]), (fun v W => IR W W.heap.size .u8 v (Codec.askB a)), (fun v _ => v = Value.agg #[.int .u8 b.kind, .int .u32 b.n, .int .u8 b.k, .int .u32 b.who, .int .u32 b.whom, .int .u32 b.what, .int .u32 b.id, .int .u64 b.am, .int .u64 b.price]), (fun v W => IR W W.heap.size .u8 v (Codec.askB b)), (fun v _ => v = Value.bool DA), (fun v _ => v = Value.agg #[.int .u8 a.kind, .int .u32 a.n, .int .u8 a.k, .int .u32 a.who, .int .u32 a.whom, .int .u32 a.what, .int .u32 a.id, .int .u64 a.am, .int .u64 a.price]), (fun v _ => v = Value.agg #[.int .u8 b.kind, .int .u32 b.n, .int .u8 b.k, .int .u32 b.who, .int .u32 b.whom, .int .u32 b.what, .int .u32 b.id, .int .u64 b.am, .int .u64 b.price]), (fun v _ => v = Value.bool DA), (fun v _ => v = Value.bool true), (fun v _ => v = Value.bool true), (fun v _ => v = Value.agg #[.int .u16 r.err, .int .u64 r.a, .int .u64 r.b, .int .u64 r.c]), (fun v W => IR W W.heap.size .u8 v (Codec.tellB r)), (fun v _ => v = Value.agg #[.int .u16 s.err, .int .u64 s.a, .int .u64 s.b, .int .u64 s.c]), (fun v W => IR W W.heap.size .u8 v (Codec.tellB s)), (fun v _ => v = Value.bool DR), (fun v _ => v = Value.agg #[.int .u16 r.err, .int .u64 r.a, .int .u64 r.b, .int .u64 r.c]), (fun v _ => v = Value.agg #[.int .u16 s.err, .int .u64 s.a, .int .u64 s.b, .int .u64 s.c]), (fun v _ => v = Value.bool DR), (fun v _ => v = Value.bool true), (fun v _ => v = Value.bool true), (fun v _ => v = Value.bool true)] ⟨stays_eq _, stays_IR _ _, stays_eq _, stays_IR _ _, stays_eq _, stays_eq _, stays_eq _, stays_eq _, stays_eq _, stays_eq _, stays_eq _, stays_IR _ _, stays_eq _, stays_IR _ _, stays_eq _, stays_eq _, stays_eq _, stays_eq _, stays_eq _, stays_eq _, stays_eq _, trivial⟩ (fun vals => ?_) (fun vals W hbW hall => ?_)
    · simp only [ObF, Act.put, List.setIfInBounds_toArray, List.set_cons_succ, List.set_cons_zero]
      refine ⟨?_, ?_, ?_, ?_, ?_, ?_, ?_, ?_, ?_, ?_, ?_, ?_, ?_, ?_, ?_, ?_, ?_, ?_, ?_, ?_, ?_, trivial⟩
      · intro W hbW hw
        clear hw
        refine step_plain rfl ?_
        have bw := BA.out.later hbW
        have c0 : (W : World).cell? ⟨w.heap.size, 0, none⟩ = some (.int .u8 a.kind) := bw.cell 0
        have c1 : (W : World).cell? ⟨w.heap.size, 1, none⟩ = some (.int .u32 a.n) := bw.cell 1
        have c2 : (W : World).cell? ⟨w.heap.size, 2, none⟩ = some (.int .u8 a.k) := bw.cell 2
        have c3 : (W : World).cell? ⟨w.heap.size, 3, none⟩ = some (.int .u32 a.who) := bw.cell 3
        have c4 : (W : World).cell? ⟨w.heap.size, 4, none⟩ = some (.int .u32 a.whom) := bw.cell 4
        have c5 : (W : World).cell? ⟨w.heap.size, 5, none⟩ = some (.int .u32 a.what) := bw.cell 5
        have c6 : (W : World).cell? ⟨w.heap.size, 6, none⟩ = some (.int .u32 a.id) := bw.cell 6
        have c7 : (W : World).cell? ⟨w.heap.size, 7, none⟩ = some (.int .u64 a.am) := bw.cell 7
        have c8 : (W : World).cell? ⟨w.heap.size, 8, none⟩ = some (.int .u64 a.price) := bw.cell 8
        go_simp
        (first | exact Below.refl _ _ | exact ⟨Below.refl _ _, rfl⟩ | exact ⟨_, rfl, Below.refl _ _, rfl⟩)
      · intro W hbW hw
        have f0 : vals 0 = Value.agg #[.int .u8 a.kind, .int .u32 a.n, .int .u8 a.k, .int .u32 a.who, .int .u32 a.whom, .int .u32 a.what, .int .u32 a.id, .int .u64 a.am, .int .u64 a.price] := hw ⟨0, .data⟩ (by simp) rfl
        clear hw
        refine step_plain rfl ?_
        go_simp
        refine (HA.out _).mono ?_
        rintro e W1 ⟨v, rfl, hi, hbl⟩
        exact ⟨hbl, hi⟩
      · intro W hbW hw
        clear hw
        refine step_plain rfl ?_
        have bw := BB.out.later hbW
        have c0 : (W : World).cell? ⟨w.heap.size + 1, 0, none⟩ = some (.int .u8 b.kind) := bw.cell 0
        have c1 : (W : World).cell? ⟨w.heap.size + 1, 1, none⟩ = some (.int .u32 b.n) := bw.cell 1
        have c2 : (W : World).cell? ⟨w.heap.size + 1, 2, none⟩ = some (.int .u8 b.k) := bw.cell 2
        have c3 : (W : World).cell? ⟨w.heap.size + 1, 3, none⟩ = some (.int .u32 b.who) := bw.cell 3
        have c4 : (W : World).cell? ⟨w.heap.size + 1, 4, none⟩ = some (.int .u32 b.whom) := bw.cell 4
        have c5 : (W : World).cell? ⟨w.heap.size + 1, 5, none⟩ = some (.int .u32 b.what) := bw.cell 5
        have c6 : (W : World).cell? ⟨w.heap.size + 1, 6, none⟩ = some (.int .u32 b.id) := bw.cell 6
        have c7 : (W : World).cell? ⟨w.heap.size + 1, 7, none⟩ = some (.int .u64 b.am) := bw.cell 7
        have c8 : (W : World).cell? ⟨w.heap.size + 1, 8, none⟩ = some (.int .u64 b.price) := bw.cell 8
        go_simp
        (first | exact Below.refl _ _ | exact ⟨Below.refl _ _, rfl⟩ | exact ⟨_, rfl, Below.refl _ _, rfl⟩)
      · intro W hbW hw
        have f2 : vals 2 = Value.agg #[.int .u8 b.kind, .int .u32 b.n, .int .u8 b.k, .int .u32 b.who, .int .u32 b.whom, .int .u32 b.what, .int .u32 b.id, .int .u64 b.am, .int .u64 b.price] := hw ⟨2, .data⟩ (by simp) rfl
        have f1 : IR W W.heap.size .u8 (vals 1) (Codec.askB a) := hw ⟨1, .chain⟩ (by simp) rfl
        clear hw
        refine step_plain rfl ?_
        go_simp
        refine (HB.out _).mono ?_
        rintro e W1 ⟨v, rfl, hi, hbl⟩
        exact ⟨hbl, hi⟩
      · intro W hbW hw
        have f1 : IR W W.heap.size .u8 (vals 1) (Codec.askB a) := hw ⟨1, .data⟩ (by simp) rfl
        have f3 : IR W W.heap.size .u8 (vals 3) (Codec.askB b) := hw ⟨3, .data⟩ (by simp) rfl
        clear hw
        refine step_plain rfl ?_
        go_simp
        refine (same_any _ _ _ _ _ _ _ f1 f3 (Codec.askB_bytes a) (Codec.askB_bytes b)).mono ?_
        rintro e W1 ⟨rfl, rfl⟩
        exact ⟨rfl, Below.refl _ _⟩
      · intro W hbW hw
        clear hw
        refine step_plain rfl ?_
        have bw := BA.out.later hbW
        have c0 : (W : World).cell? ⟨w.heap.size, 0, none⟩ = some (.int .u8 a.kind) := bw.cell 0
        have c1 : (W : World).cell? ⟨w.heap.size, 1, none⟩ = some (.int .u32 a.n) := bw.cell 1
        have c2 : (W : World).cell? ⟨w.heap.size, 2, none⟩ = some (.int .u8 a.k) := bw.cell 2
        have c3 : (W : World).cell? ⟨w.heap.size, 3, none⟩ = some (.int .u32 a.who) := bw.cell 3
        have c4 : (W : World).cell? ⟨w.heap.size, 4, none⟩ = some (.int .u32 a.whom) := bw.cell 4
        have c5 : (W : World).cell? ⟨w.heap.size, 5, none⟩ = some (.int .u32 a.what) := bw.cell 5
        have c6 : (W : World).cell? ⟨w.heap.size, 6, none⟩ = some (.int .u32 a.id) := bw.cell 6
        have c7 : (W : World).cell? ⟨w.heap.size, 7, none⟩ = some (.int .u64 a.am) := bw.cell 7
        have c8 : (W : World).cell? ⟨w.heap.size, 8, none⟩ = some (.int .u64 a.price) := bw.cell 8
        go_simp
        (first | exact Below.refl _ _ | exact ⟨Below.refl _ _, rfl⟩ | exact ⟨_, rfl, Below.refl _ _, rfl⟩)
      · intro W hbW hw
        clear hw
        refine step_plain rfl ?_
        have bw := BB.out.later hbW
        have c0 : (W : World).cell? ⟨w.heap.size + 1, 0, none⟩ = some (.int .u8 b.kind) := bw.cell 0
        have c1 : (W : World).cell? ⟨w.heap.size + 1, 1, none⟩ = some (.int .u32 b.n) := bw.cell 1
        have c2 : (W : World).cell? ⟨w.heap.size + 1, 2, none⟩ = some (.int .u8 b.k) := bw.cell 2
        have c3 : (W : World).cell? ⟨w.heap.size + 1, 3, none⟩ = some (.int .u32 b.who) := bw.cell 3
        have c4 : (W : World).cell? ⟨w.heap.size + 1, 4, none⟩ = some (.int .u32 b.whom) := bw.cell 4
        have c5 : (W : World).cell? ⟨w.heap.size + 1, 5, none⟩ = some (.int .u32 b.what) := bw.cell 5
        have c6 : (W : World).cell? ⟨w.heap.size + 1, 6, none⟩ = some (.int .u32 b.id) := bw.cell 6
        have c7 : (W : World).cell? ⟨w.heap.size + 1, 7, none⟩ = some (.int .u64 b.am) := bw.cell 7
        have c8 : (W : World).cell? ⟨w.heap.size + 1, 8, none⟩ = some (.int .u64 b.price) := bw.cell 8
        go_simp
        (first | exact Below.refl _ _ | exact ⟨Below.refl _ _, rfl⟩ | exact ⟨_, rfl, Below.refl _ _, rfl⟩)
      · intro W hbW hw
        have f5 : vals 5 = Value.agg #[.int .u8 a.kind, .int .u32 a.n, .int .u8 a.k, .int .u32 a.who, .int .u32 a.whom, .int .u32 a.what, .int .u32 a.id, .int .u64 a.am, .int .u64 a.price] := hw ⟨5, .data⟩ (by simp) rfl
        have f6 : vals 6 = Value.agg #[.int .u8 b.kind, .int .u32 b.n, .int .u8 b.k, .int .u32 b.who, .int .u32 b.whom, .int .u32 b.what, .int .u32 b.id, .int .u64 b.am, .int .u64 b.price] := hw ⟨6, .data⟩ (by simp) rfl
        clear hw
        refine step_plain rfl ?_
        obtain ⟨VA, hVA⟩ : ∃ v, v = Value.agg #[.int .u8 a.kind, .int .u32 a.n, .int .u8 a.k, .int .u32 a.who, .int .u32 a.whom, .int .u32 a.what, .int .u32 a.id, .int .u64 a.am, .int .u64 a.price] := ⟨_, rfl⟩
        obtain ⟨VB, hVB⟩ : ∃ v, v = Value.agg #[.int .u8 b.kind, .int .u32 b.n, .int .u8 b.k, .int .u32 b.who, .int .u32 b.whom, .int .u32 b.what, .int .u32 b.id, .int .u64 b.am, .int .u64 b.price] := ⟨_, rfl⟩
        have q1 := EDA.out W
        have q2 := fun x y => GDA.out x y W
        rw [← hVA, ← hVB] at q1 q2
        rw [← hVA] at f5
        rw [← hVB] at f6
        clear hVA hVB
        go_simp
        (first | exact Below.refl _ _ | exact ⟨Below.refl _ _, rfl⟩ | exact ⟨_, rfl, Below.refl _ _, rfl⟩)
      · intro W hbW hw
        have f4 : vals 4 = Value.bool DA := hw ⟨4, .data⟩ (by simp) rfl
        have f7 : vals 7 = Value.bool DA := hw ⟨7, .data⟩ (by simp) rfl
        clear hw
        refine step_plain rfl ?_
        go_simp
        (first | exact Below.refl _ _ | exact ⟨Below.refl _ _, rfl⟩ | exact ⟨_, rfl, Below.refl _ _, rfl⟩)
      · intro W hbW hw
        have f8 : vals 8 = Value.bool true := hw ⟨8, .data⟩ (by simp) rfl
        have f4 : vals 4 = Value.bool DA := hw ⟨4, .chain⟩ (by simp) rfl
        clear hw
        refine step_plain rfl ?_
        go_simp
        (first | exact Below.refl _ _ | exact ⟨Below.refl _ _, rfl⟩ | exact ⟨_, rfl, Below.refl _ _, rfl⟩)
      · intro W hbW hw
        have f9 : vals 9 = Value.bool true := hw ⟨9, .guard⟩ (by simp) rfl
        clear hw
        refine step_guard rfl (yielded_of rfl f9) ?_
        have bw := BR.out.later hbW
        have c0 : (W : World).cell? ⟨w.heap.size + 1 + 1, 0, none⟩ = some (.int .u16 r.err) := bw.cell 0
        have c1 : (W : World).cell? ⟨w.heap.size + 1 + 1, 1, none⟩ = some (.int .u64 r.a) := bw.cell 1
        have c2 : (W : World).cell? ⟨w.heap.size + 1 + 1, 2, none⟩ = some (.int .u64 r.b) := bw.cell 2
        have c3 : (W : World).cell? ⟨w.heap.size + 1 + 1, 3, none⟩ = some (.int .u64 r.c) := bw.cell 3
        go_simp
        (first | exact Below.refl _ _ | exact ⟨Below.refl _ _, rfl⟩ | exact ⟨_, rfl, Below.refl _ _, rfl⟩)
      · intro W hbW hw
        have f10 : vals 10 = Value.agg #[.int .u16 r.err, .int .u64 r.a, .int .u64 r.b, .int .u64 r.c] := hw ⟨10, .data⟩ (by simp) rfl
        have f9 : vals 9 = Value.bool true := hw ⟨9, .chain⟩ (by simp) rfl
        clear hw
        refine step_guard rfl (yielded_of rfl f9) ?_
        go_simp
        refine (HT.out _).mono ?_
        rintro e W1 ⟨v, rfl, hi, hbl⟩
        exact ⟨hbl, hi⟩
      · intro W hbW hw
        have f9 : vals 9 = Value.bool true := hw ⟨9, .guard⟩ (by simp) rfl
        clear hw
        refine step_guard rfl (yielded_of rfl f9) ?_
        have bw := BS.out.later hbW
        have c0 : (W : World).cell? ⟨w.heap.size + 1 + 1 + 1, 0, none⟩ = some (.int .u16 s.err) := bw.cell 0
        have c1 : (W : World).cell? ⟨w.heap.size + 1 + 1 + 1, 1, none⟩ = some (.int .u64 s.a) := bw.cell 1
        have c2 : (W : World).cell? ⟨w.heap.size + 1 + 1 + 1, 2, none⟩ = some (.int .u64 s.b) := bw.cell 2
        have c3 : (W : World).cell? ⟨w.heap.size + 1 + 1 + 1, 3, none⟩ = some (.int .u64 s.c) := bw.cell 3
        go_simp
        (first | exact Below.refl _ _ | exact ⟨Below.refl _ _, rfl⟩ | exact ⟨_, rfl, Below.refl _ _, rfl⟩)
      · intro W hbW hw
        have f12 : vals 12 = Value.agg #[.int .u16 s.err, .int .u64 s.a, .int .u64 s.b, .int .u64 s.c] := hw ⟨12, .data⟩ (by simp) rfl
        have f11 : IR W W.heap.size .u8 (vals 11) (Codec.tellB r) := hw ⟨11, .chain⟩ (by simp) rfl
        have f9 : vals 9 = Value.bool true := hw ⟨9, .guard⟩ (by simp) rfl
        clear hw
        refine step_guard rfl (yielded_of rfl f9) ?_
        go_simp
        refine (HS.out _).mono ?_
        rintro e W1 ⟨v, rfl, hi, hbl⟩
        exact ⟨hbl, hi⟩
      · intro W hbW hw
        have f11 : IR W W.heap.size .u8 (vals 11) (Codec.tellB r) := hw ⟨11, .data⟩ (by simp) rfl
        have f13 : IR W W.heap.size .u8 (vals 13) (Codec.tellB s) := hw ⟨13, .data⟩ (by simp) rfl
        have f9 : vals 9 = Value.bool true := hw ⟨9, .guard⟩ (by simp) rfl
        clear hw
        refine step_guard rfl (yielded_of rfl f9) ?_
        go_simp
        refine (same_any _ _ _ _ _ _ _ f11 f13 (Codec.tellB_bytes r) (Codec.tellB_bytes s)).mono ?_
        rintro e W1 ⟨rfl, rfl⟩
        exact ⟨rfl, Below.refl _ _⟩
      · intro W hbW hw
        have f9 : vals 9 = Value.bool true := hw ⟨9, .guard⟩ (by simp) rfl
        clear hw
        refine step_guard rfl (yielded_of rfl f9) ?_
        have bw := BR.out.later hbW
        have c0 : (W : World).cell? ⟨w.heap.size + 1 + 1, 0, none⟩ = some (.int .u16 r.err) := bw.cell 0
        have c1 : (W : World).cell? ⟨w.heap.size + 1 + 1, 1, none⟩ = some (.int .u64 r.a) := bw.cell 1
        have c2 : (W : World).cell? ⟨w.heap.size + 1 + 1, 2, none⟩ = some (.int .u64 r.b) := bw.cell 2
        have c3 : (W : World).cell? ⟨w.heap.size + 1 + 1, 3, none⟩ = some (.int .u64 r.c) := bw.cell 3
        go_simp
        (first | exact Below.refl _ _ | exact ⟨Below.refl _ _, rfl⟩ | exact ⟨_, rfl, Below.refl _ _, rfl⟩)
      · intro W hbW hw
        have f9 : vals 9 = Value.bool true := hw ⟨9, .guard⟩ (by simp) rfl
        clear hw
        refine step_guard rfl (yielded_of rfl f9) ?_
        have bw := BS.out.later hbW
        have c0 : (W : World).cell? ⟨w.heap.size + 1 + 1 + 1, 0, none⟩ = some (.int .u16 s.err) := bw.cell 0
        have c1 : (W : World).cell? ⟨w.heap.size + 1 + 1 + 1, 1, none⟩ = some (.int .u64 s.a) := bw.cell 1
        have c2 : (W : World).cell? ⟨w.heap.size + 1 + 1 + 1, 2, none⟩ = some (.int .u64 s.b) := bw.cell 2
        have c3 : (W : World).cell? ⟨w.heap.size + 1 + 1 + 1, 3, none⟩ = some (.int .u64 s.c) := bw.cell 3
        go_simp
        (first | exact Below.refl _ _ | exact ⟨Below.refl _ _, rfl⟩ | exact ⟨_, rfl, Below.refl _ _, rfl⟩)
      · intro W hbW hw
        have f15 : vals 15 = Value.agg #[.int .u16 r.err, .int .u64 r.a, .int .u64 r.b, .int .u64 r.c] := hw ⟨15, .data⟩ (by simp) rfl
        have f16 : vals 16 = Value.agg #[.int .u16 s.err, .int .u64 s.a, .int .u64 s.b, .int .u64 s.c] := hw ⟨16, .data⟩ (by simp) rfl
        have f9 : vals 9 = Value.bool true := hw ⟨9, .guard⟩ (by simp) rfl
        clear hw
        refine step_guard rfl (yielded_of rfl f9) ?_
        obtain ⟨VA, hVA⟩ : ∃ v, v = Value.agg #[.int .u16 r.err, .int .u64 r.a, .int .u64 r.b, .int .u64 r.c] := ⟨_, rfl⟩
        obtain ⟨VB, hVB⟩ : ∃ v, v = Value.agg #[.int .u16 s.err, .int .u64 s.a, .int .u64 s.b, .int .u64 s.c] := ⟨_, rfl⟩
        have q1 := EDR.out W
        have q2 := fun x y => GDR.out x y W
        rw [← hVA, ← hVB] at q1 q2
        rw [← hVA] at f15
        rw [← hVB] at f16
        clear hVA hVB
        go_simp
        (first | exact Below.refl _ _ | exact ⟨Below.refl _ _, rfl⟩ | exact ⟨_, rfl, Below.refl _ _, rfl⟩)
      · intro W hbW hw
        have f14 : vals 14 = Value.bool DR := hw ⟨14, .data⟩ (by simp) rfl
        have f17 : vals 17 = Value.bool DR := hw ⟨17, .data⟩ (by simp) rfl
        have f9 : vals 9 = Value.bool true := hw ⟨9, .guard⟩ (by simp) rfl
        clear hw
        refine step_guard rfl (yielded_of rfl f9) ?_
        go_simp
        (first | exact Below.refl _ _ | exact ⟨Below.refl _ _, rfl⟩ | exact ⟨_, rfl, Below.refl _ _, rfl⟩)
      · intro W hbW hw
        have f9 : vals 9 = Value.bool true := hw ⟨9, .data⟩ (by simp) rfl
        have f18 : vals 18 = Value.bool true := hw ⟨18, .data⟩ (by simp) rfl
        clear hw
        refine step_plain rfl ?_
        go_simp
        (first | exact Below.refl _ _ | exact ⟨Below.refl _ _, rfl⟩ | exact ⟨_, rfl, Below.refl _ _, rfl⟩)
      · intro W hbW hw
        have f19 : vals 19 = Value.bool true := hw ⟨19, .data⟩ (by simp) rfl
        have f14 : vals 14 = Value.bool DR := hw ⟨14, .chain⟩ (by simp) rfl
        have f0 : vals 0 = Value.agg #[.int .u8 a.kind, .int .u32 a.n, .int .u8 a.k, .int .u32 a.who, .int .u32 a.whom, .int .u32 a.what, .int .u32 a.id, .int .u64 a.am, .int .u64 a.price] := hw ⟨0, .phase⟩ (by simp) rfl
        have f1 : IR W W.heap.size .u8 (vals 1) (Codec.askB a) := hw ⟨1, .phase⟩ (by simp) rfl
        have f2 : vals 2 = Value.agg #[.int .u8 b.kind, .int .u32 b.n, .int .u8 b.k, .int .u32 b.who, .int .u32 b.whom, .int .u32 b.what, .int .u32 b.id, .int .u64 b.am, .int .u64 b.price] := hw ⟨2, .phase⟩ (by simp) rfl
        have f3 : IR W W.heap.size .u8 (vals 3) (Codec.askB b) := hw ⟨3, .phase⟩ (by simp) rfl
        have f4 : vals 4 = Value.bool DA := hw ⟨4, .phase⟩ (by simp) rfl
        have f5 : vals 5 = Value.agg #[.int .u8 a.kind, .int .u32 a.n, .int .u8 a.k, .int .u32 a.who, .int .u32 a.whom, .int .u32 a.what, .int .u32 a.id, .int .u64 a.am, .int .u64 a.price] := hw ⟨5, .phase⟩ (by simp) rfl
        have f6 : vals 6 = Value.agg #[.int .u8 b.kind, .int .u32 b.n, .int .u8 b.k, .int .u32 b.who, .int .u32 b.whom, .int .u32 b.what, .int .u32 b.id, .int .u64 b.am, .int .u64 b.price] := hw ⟨6, .phase⟩ (by simp) rfl
        have f7 : vals 7 = Value.bool DA := hw ⟨7, .phase⟩ (by simp) rfl
        have f8 : vals 8 = Value.bool true := hw ⟨8, .phase⟩ (by simp) rfl
        have f9 : vals 9 = Value.bool true := hw ⟨9, .phase⟩ (by simp) rfl
        have f10 : vals 10 = Value.agg #[.int .u16 r.err, .int .u64 r.a, .int .u64 r.b, .int .u64 r.c] := hw ⟨10, .phase⟩ (by simp) rfl
        have f11 : IR W W.heap.size .u8 (vals 11) (Codec.tellB r) := hw ⟨11, .phase⟩ (by simp) rfl
        have f12 : vals 12 = Value.agg #[.int .u16 s.err, .int .u64 s.a, .int .u64 s.b, .int .u64 s.c] := hw ⟨12, .phase⟩ (by simp) rfl
        have f13 : IR W W.heap.size .u8 (vals 13) (Codec.tellB s) := hw ⟨13, .phase⟩ (by simp) rfl
        have f15 : vals 15 = Value.agg #[.int .u16 r.err, .int .u64 r.a, .int .u64 r.b, .int .u64 r.c] := hw ⟨15, .phase⟩ (by simp) rfl
        have f16 : vals 16 = Value.agg #[.int .u16 s.err, .int .u64 s.a, .int .u64 s.b, .int .u64 s.c] := hw ⟨16, .phase⟩ (by simp) rfl
        have f17 : vals 17 = Value.bool DR := hw ⟨17, .phase⟩ (by simp) rfl
        have f18 : vals 18 = Value.bool true := hw ⟨18, .phase⟩ (by simp) rfl
        clear hw
        refine step_plain rfl ?_
        go_simp
        (first | exact Below.refl _ _ | exact ⟨Below.refl _ _, rfl⟩ | exact ⟨_, rfl, Below.refl _ _, rfl⟩)
    · simp only [TL, Act.put, List.setIfInBounds_toArray, List.set_cons_succ, List.set_cons_zero]
      have f0 : vals 0 = Value.agg #[.int .u8 a.kind, .int .u32 a.n, .int .u8 a.k, .int .u32 a.who, .int .u32 a.whom, .int .u32 a.what, .int .u32 a.id, .int .u64 a.am, .int .u64 a.price] := hall 0 (by decide)
      have f1 : IR W W.heap.size .u8 (vals 1) (Codec.askB a) := hall 1 (by decide)
      have f2 : vals 2 = Value.agg #[.int .u8 b.kind, .int .u32 b.n, .int .u8 b.k, .int .u32 b.who, .int .u32 b.whom, .int .u32 b.what, .int .u32 b.id, .int .u64 b.am, .int .u64 b.price] := hall 2 (by decide)
      have f3 : IR W W.heap.size .u8 (vals 3) (Codec.askB b) := hall 3 (by decide)
      have f4 : vals 4 = Value.bool DA := hall 4 (by decide)
      have f5 : vals 5 = Value.agg #[.int .u8 a.kind, .int .u32 a.n, .int .u8 a.k, .int .u32 a.who, .int .u32 a.whom, .int .u32 a.what, .int .u32 a.id, .int .u64 a.am, .int .u64 a.price] := hall 5 (by decide)
      have f6 : vals 6 = Value.agg #[.int .u8 b.kind, .int .u32 b.n, .int .u8 b.k, .int .u32 b.who, .int .u32 b.whom, .int .u32 b.what, .int .u32 b.id, .int .u64 b.am, .int .u64 b.price] := hall 6 (by decide)
      have f7 : vals 7 = Value.bool DA := hall 7 (by decide)
      have f8 : vals 8 = Value.bool true := hall 8 (by decide)
      have f9 : vals 9 = Value.bool true := hall 9 (by decide)
      have f10 : vals 10 = Value.agg #[.int .u16 r.err, .int .u64 r.a, .int .u64 r.b, .int .u64 r.c] := hall 10 (by decide)
      have f11 : IR W W.heap.size .u8 (vals 11) (Codec.tellB r) := hall 11 (by decide)
      have f12 : vals 12 = Value.agg #[.int .u16 s.err, .int .u64 s.a, .int .u64 s.b, .int .u64 s.c] := hall 12 (by decide)
      have f13 : IR W W.heap.size .u8 (vals 13) (Codec.tellB s) := hall 13 (by decide)
      have f14 : vals 14 = Value.bool DR := hall 14 (by decide)
      have f15 : vals 15 = Value.agg #[.int .u16 r.err, .int .u64 r.a, .int .u64 r.b, .int .u64 r.c] := hall 15 (by decide)
      have f16 : vals 16 = Value.agg #[.int .u16 s.err, .int .u64 s.a, .int .u64 s.b, .int .u64 s.c] := hall 16 (by decide)
      have f17 : vals 17 = Value.bool DR := hall 17 (by decide)
      have f18 : vals 18 = Value.bool true := hall 18 (by decide)
      have f19 : vals 19 = Value.bool true := hall 19 (by decide)
      have f20 : vals 20 = Value.bool true := hall 20 (by decide)
      clear hall
      simp only [f0, f2, f4, f5, f6, f7, f8, f9, f10, f12, f14, f15, f16, f17, f18, f19, f20]
      clear f0 f2 f4 f5 f6 f7 f8 f9 f10 f12 f14 f15 f16 f17 f18 f19 f20
      have BA' := Lib.hid (BA.out.later hbW)
      have bR7 := BR.out.later hbW
      have bY7 := BY.out.later hbW
      have hw7 := step_ hw6 hbW
      go_wp2_with fail
      (with_reducible refine (known_any _).mono ?_)
      rintro e w8 ⟨rfl, hb8⟩
      have bR8 := bR7.later hb8
      have bY8 := bY7.later hb8
      have y0 : (w8 : World).cell? ⟨gy, 0, none⟩ = some (.int .u16 r.err) := bY8.cell 0
      have y1 : (w8 : World).cell? ⟨gy, 1, none⟩ = some (.int .u64 r.a) := bY8.cell 1
      have y2 : (w8 : World).cell? ⟨gy, 2, none⟩ = some (.int .u64 r.b) := bY8.cell 2
      have y3 : (w8 : World).cell? ⟨gy, 3, none⟩ = some (.int .u64 r.c) := bY8.cell 3
      have r0 : (w8 : World).cell? ⟨w.heap.size + 1 + 1, 0, none⟩ = some (.int .u16 r.err) := bR8.cell 0
      have r1 : (w8 : World).cell? ⟨w.heap.size + 1 + 1, 1, none⟩ = some (.int .u64 r.a) := bR8.cell 1
      have r2 : (w8 : World).cell? ⟨w.heap.size + 1 + 1, 2, none⟩ = some (.int .u64 r.b) := bR8.cell 2
      have r3 : (w8 : World).cell? ⟨w.heap.size + 1 + 1, 3, none⟩ = some (.int .u64 r.c) := bR8.cell 3
      go_wp2
      go_ret
      exact ⟨rfl, step_ hw7 hb8⟩


set_option maxRecDepth 100000 in
theorem lifted (os : Os) (started : os.Started) (H : Type) (enc : TypeId × Value → H) :
    ReturnsInHanded {} Try.checked os 5 .any (Rows.codecBackSpec.pre6 enc Try.prog Try.f5 Rows.codecBackRow.domain false) (Rows.codecBackSpec.post enc Try.prog Try.f5 false true false false) := by
  refine returnsInHanded_of_change (C := Try.checked) own started (by kernel_rfl) Try.func5
    (ChangeSpec.witness6 (enc := enc) (C := Try.checked) false ⟨#[], #[.agg #[.int .u8 0, .int .u32 0, .int .u8 0, .int .u32 0, .int .u32 0, .int .u32 0, .int .u32 0, .int .u64 0, .int .u64 0], .agg #[.int .u8 0, .int .u32 0, .int .u8 0, .int .u32 0, .int .u32 0, .int .u32 0, .int .u32 0, .int .u64 0, .int .u64 0], .agg #[.int .u16 0, .int .u64 0, .int .u64 0, .int .u64 0], .agg #[.int .u16 0, .int .u64 0, .int .u64 0, .int .u64 0]], []⟩ 8 (by kernel_rfl) (by kernel_rfl) (by kernel_rfl) (by kernel_rfl)) ?_
  intro W base args ds gs before hval0 hW hcnd _
  have hval : ∀ (j : Nat) t v, Try.f5.params[j]? = some t → args[j]? = some v → Value.okWide Try.prog W .any base t v := hval0
  have hW' := hW
  obtain ⟨p, q, hA0, hV, rfl, hfz, hnd⟩ := hW
  have hA1 : DataW.TrodAll enc Try.prog W 0 (fun _ => true) true Try.f5.params.toList args.toList ds p := hA0
  have hA := hA1
  rw [Try.params5] at hA hval
  obtain ⟨v0, vs0, d0, ds0, p0, q0, hargs, rfl, rfl, h0, r0⟩ := trodAll_cons hA
  obtain ⟨v1, vs1, d1, ds1, p1, q1, rfl, rfl, rfl, h1, r1⟩ := trodAll_cons r0
  obtain ⟨v2, vs2, d2, ds2, p2, q2, rfl, rfl, rfl, h2, r2⟩ := trodAll_cons r1
  obtain ⟨v3, vs3, d3, ds3, p3, q3, rfl, rfl, rfl, h3, r3⟩ := trodAll_cons r2
  obtain ⟨rfl, rfl, rfl⟩ := trodAll_nil r3
  obtain rfl : args = #[v0, v1, v2, v3] := by cases args; simp_all
  obtain ⟨rfl, rfl⟩ := trodVars_none hV
  obtain ⟨a, ok0, rfl⟩ := Codec.open_rq (hval 0 27 v0 rfl rfl) h0
  obtain ⟨b, ok1, rfl⟩ := Codec.open_rq (hval 1 27 v1 rfl rfl) h1
  obtain ⟨r, ok2, rfl⟩ := Codec.open_rp (hval 2 41 v2 rfl rfl) h2
  obtain ⟨s, ok3, rfl⟩ := Codec.open_rp (hval 3 41 v3 rfl rfl) h3
  clear hA0 hval0
  refine (walk W a ok0 b ok1 r ok2 s ok3).mono fun e W' ⟨he, bel⟩ => ?_
  subst he
  exact ⟨_, rfl, _, _, _, [], _, [], hW', trodAll_mk1 (shut_bool Try.underlying4 _), args_again laidOut bel (by kernel_rfl) hA1, rfl, bel.frame _, fun h => by cases h⟩

theorem over : Rows.codecBackRow.holds Try.pinned (OpenSpec.ofChange Rows.codecBackSpec) :=
  OpenClaim.holds_of_wide 5 Try.f5 rfl rfl rfl rfl rfl rfl rfl ⟨rfl, rfl, rfl, rfl, rfl⟩ rfl rfl rfl rfl rfl (by kernel_rfl) Try.func5 (by kernel_rfl)
    (of_decide_eq_true (by kernel_rfl)) (by unfold Func.isWrapper; first | (rw [if_pos (by decide +kernel)]; kernel_rfl) | (rw [if_neg (by decide +kernel)]; exact ⟨rfl, rfl⟩))
    (fun os started H enc _ => lifted os started H enc)

theorem proved : Rows.CodecBackSaid := over
end Go.Proofs.Ytnajmdgheohpjaa.LCodecBack
