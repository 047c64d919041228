/- The law manciplelaw23.CodecAsks returns true whatever it is called with, and what it was called with reads as it did. No condition. -/
import Derived.Test.YtnajmdgheohpjaaLaw
import Derived.Test.YtnajmdgheohpjaaCodecA
import Derived.Test.YtnajmdgheohpjaaCodec8
import Derived.Test.YtnajmdgheohpjaaCodec4
import Derived.Test.YtnajmdgheohpjaaCodec3
import Derived.Test.YtnajmdgheohpjaaCodecB
import Derived.Test.YtnajmdgheohpjaaCodecOpen
namespace Go.Proofs.Ytnajmdgheohpjaa.LCodecAsks
open Go.ChangeShapes Go.WideShapes Go.ChangeAt Go.RowKit Go.IntWalk Go.Proofs.Mem Law
set_option linter.unusedVariables false
open NumBytes Go.Proofs.Each Codec
set_option maxRecDepth 100000 in
set_option maxHeartbeats 8000000 in
theorem walk (w : World) (r : Codec.Rq) (hr : r.Ok) (b : Value) (xb : List Int) (hb : IR w w.heap.size .u8 b xb) (bb : Bytes xb) :
    Calls Try.prog 3 #[.agg (Codec.cellsQ r), b] w fun e w' => e = .returned (.bool true) ∧ Below w.heap.size w w' := by
  obtain ⟨A, c, rfl, hlc, hcm⟩ := hb.form
  unfold maxLen at hcm
  by_cases hl : xb.length ≤ 200
  · have hd : decide (200 < (xb.length : Int)) = false := decide_eq_false (by omega)
    have HE := Lib.hid (fun W => ask_any r hr W)
    have HF := Lib.hid (fun W => ask_ref r hr W)
    unfold cellsQ at HE HF ⊢
    have b0 := Box.new w #[.int .u8 r.kind, .int .u32 r.n, .int .u8 r.k, .int .u32 r.who, .int .u32 r.whom, .int .u32 r.what, .int .u32 r.id, .int .u64 r.am, .int .u64 r.price] 27
    have i0 := hb.alloc (Nat.le_refl _) (.cells #[.int .u8 r.kind, .int .u32 r.n, .int .u8 r.k, .int .u32 r.who, .int .u32 r.whom, .int .u32 r.what, .int .u32 r.id, .int .u64 r.am, .int .u64 r.price] 27)
    go_enter Try.func3, Try.ntmps3
    go_wp2_with fail
    (with_reducible refine (known_any _).mono ?_)
    rintro e w1 ⟨rfl, hb1⟩
    have b1 := b0.later hb1
    have i1 := i0.below (hb1.mono (by simp))
    have hw1 := step_ (new_ (Below.refl w.heap.size w) _) hb1
    clear b0 i0 hb1
    go_wp2_with fail
    (with_reducible refine (lent_any _ xb _ _ i1 (by omega)).mono ?_)
    rintro e w2 ⟨vo, rfl, hown, hb2⟩
    have io := IR.of_own hown
    obtain ⟨Ao, co, rfl, _, _⟩ := io.form
    have b2 := b1.later hb2
    have i2 := i1.below (hb2.mono hw1.size)
    have hw2 := step_ hw1 hb2
    clear b1 i1 hown hb2 hw1
    obtain ⟨x, hxq⟩ : ∃ x, askedQ xb = x := ⟨_, rfl⟩
    obtain ⟨E, hE⟩ : ∃ E, askedE xb = E := ⟨_, rfl⟩
    have hEb : 0 ≤ E ∧ E ≤ 230 := by rw [← hE]; unfold askedE; split <;> omega
    obtain ⟨hE0, hE1⟩ := hEb
    have HG := Lib.hid (fun (v : Value) W h => asked_any v xb bb W h (by omega : xb.length ≤ 1000))
    have HK := Lib.hid (fun (v : Value) W h => asked_ref v xb bb W h (by omega : xb.length ≤ 1000))
    rw [hxq, hE] at HG HK
    unfold cellsQ at HG HK
    clear hxq hE
    (go_wp2_with fail)
    (with_reducible refine (HG.out _ _ io).mono ?_)
    rintro e w3 ⟨rfl, hb3⟩
    have b3 := b2.later hb3
    have i3 := i2.below (hb3.mono hw2.size)
    have o3 := (io.below hb3).more hb3.size
    have hw3 := step_ hw2 hb3
    have bx3 := Box.new w3 #[.int .u8 x.kind, .int .u32 x.n, .int .u8 x.k, .int .u32 x.who, .int .u32 x.whom, .int .u32 x.what, .int .u32 x.id, .int .u64 x.am, .int .u64 x.price] 27
    have i3' := (i3.more hw3.size).alloc (Nat.le_refl _) (.cells #[.int .u8 x.kind, .int .u32 x.n, .int .u8 x.k, .int .u32 x.who, .int .u32 x.whom, .int .u32 x.what, .int .u32 x.id, .int .u64 x.am, .int .u64 x.price] 27)
    have i3'' := i3'.more (show w3.heap.size ≤ (w3.alloc (.cells #[.int .u8 x.kind, .int .u32 x.n, .int .u8 x.k, .int .u32 x.who, .int .u32 x.whom, .int .u32 x.what, .int .u32 x.id, .int .u64 x.am, .int .u64 x.price] 27)).heap.size by simp)
    clear b2 i2 io hb3 hw2
    (go_wp2_with fail)
    (with_reducible refine (HK.out _ _ i3'').mono ?_)
    rintro e w4 ⟨rfl, hb4⟩
    have by4 := Box.new w4 #[.int .u8 x.kind, .int .u32 x.n, .int .u8 x.k, .int .u32 x.who, .int .u32 x.whom, .int .u32 x.what, .int .u32 x.id, .int .u64 x.am, .int .u64 x.price] 27
    have bx4 := (bx3.later hb4).alloc (.cells #[.int .u8 x.kind, .int .u32 x.n, .int .u8 x.k, .int .u32 x.who, .int .u32 x.whom, .int .u32 x.what, .int .u32 x.id, .int .u64 x.am, .int .u64 x.price] 27)
    have br4 := ((b3.alloc (.cells #[.int .u8 x.kind, .int .u32 x.n, .int .u8 x.k, .int .u32 x.who, .int .u32 x.whom, .int .u32 x.what, .int .u32 x.id, .int .u64 x.am, .int .u64 x.price] 27)).later hb4).alloc (.cells #[.int .u8 x.kind, .int .u32 x.n, .int .u8 x.k, .int .u32 x.who, .int .u32 x.whom, .int .u32 x.what, .int .u32 x.id, .int .u64 x.am, .int .u64 x.price] 27)
    have hk4 : Below w3.heap.size w3 (w4.alloc (.cells #[.int .u8 x.kind, .int .u32 x.n, .int .u8 x.k, .int .u32 x.who, .int .u32 x.whom, .int .u32 x.what, .int .u32 x.id, .int .u64 x.am, .int .u64 x.price] 27)) := new_ (step_ (new_ (Below.refl _ _) _) hb4) _
    have hw4 := step_ hw3 hk4
    have HB := Lib.hid ((i3.below (hk4.mono hw3.size)).more hw4.size)
    have HO := Lib.hid ((o3.below hk4).more hk4.size)
    have BR := Lib.hid br4
    have BX := Lib.hid bx4
    have BY := Lib.hid by4
    obtain ⟨gx, hgx⟩ : ∃ gx, gx = w3.heap.size := ⟨_, rfl⟩
    obtain ⟨gy, hgy⟩ : ∃ gy, gy = w4.heap.size := ⟨_, rfl⟩
    clear b3 i3 o3 hw3 bx3 i3' i3'' hb4 by4 bx4 br4 hk4
    go_wp2
    rw [← hgx, ← hgy]
    rw [← hgx] at BX
    rw [← hgy] at BY
    have HX := Lib.hid hgx
    have HY := Lib.hid hgy
    clear hgx hgy
    refine wp_region_ob (by kernel_rfl) (by kernel_rfl) [(fun v _ => v = Value.agg #[.int .u8 r.kind, .int .u32 r.n, .int .u8 r.k, .int .u32 r.who, .int .u32 r.whom, .int .u32 r.what, .int .u32 r.id, .int .u64 r.am, .int .u64 r.price]), (fun v W => IR W W.heap.size .u8 v (Codec.askB r)), (fun v _ => v = Value.agg #[.int .u8 r.kind, .int .u32 r.n, .int .u8 r.k, .int .u32 r.who, .int .u32 r.whom, .int .u32 r.what, .int .u32 r.id, .int .u64 r.am, .int .u64 r.price]), (fun v W => IR W W.heap.size .u8 v (Codec.askB r)), (fun v _ => v = Value.bool true), (fun v _ => v = Value.bool true), (fun v _ => v = Value.agg #[.int .u8 x.kind, .int .u32 x.n, .int .u8 x.k, .int .u32 x.who, .int .u32 x.whom, .int .u32 x.what, .int .u32 x.id, .int .u64 x.am, .int .u64 x.price]), (fun v _ => v = Value.agg #[.int .u8 x.kind, .int .u32 x.n, .int .u8 x.k, .int .u32 x.who, .int .u32 x.whom, .int .u32 x.what, .int .u32 x.id, .int .u64 x.am, .int .u64 x.price]), (fun v _ => v = Value.bool true), (fun v _ => v = Value.bool true), (fun v _ => v = Value.bool true), (fun v _ => v = Value.int .u16 E), (fun v _ => v = Value.int .i64 E), (fun v _ => v = Value.int .i64 E), (fun v _ => v = Value.bool true), (fun v _ => v = Value.bool true), (fun v _ => v = Value.bool true), (fun v _ => v = Value.slice Ao xb.length co), (fun v _ => v = Value.slice A xb.length c), (fun v _ => v = Value.bool true), (fun v _ => v = Value.bool true), (fun v _ => v = Value.bool true)] ⟨stays_eq _, stays_IR _ _, stays_eq _, stays_IR _ _, stays_eq _, stays_eq _, stays_eq _, stays_eq _, stays_eq _, stays_eq _, stays_eq _, stays_eq _, stays_eq _, stays_eq _, stays_eq _, stays_eq _, stays_eq _, stays_eq _, stays_eq _, stays_eq _, stays_eq _, stays_eq _, trivial⟩ (fun vals => ?_) (fun vals W hbW hall => ?_)
    · simp only [ObF, Act.put, List.setIfInBounds_toArray, List.set_cons_succ, List.set_cons_zero]
      refine ⟨?_, ?_, ?_, ?_, ?_, ?_, ?_, ?_, ?_, ?_, ?_, ?_, ?_, ?_, ?_, ?_, ?_, ?_, ?_, ?_, ?_, ?_, trivial⟩
      · intro W hbW hw
        clear hw
        refine step_plain rfl ?_
        have bw := BR.out.later hbW
        have c0 : W.cell? ⟨w.heap.size, 0, none⟩ = some (.int .u8 r.kind) := bw.cell 0
        have c1 : W.cell? ⟨w.heap.size, 1, none⟩ = some (.int .u32 r.n) := bw.cell 1
        have c2 : W.cell? ⟨w.heap.size, 2, none⟩ = some (.int .u8 r.k) := bw.cell 2
        have c3 : W.cell? ⟨w.heap.size, 3, none⟩ = some (.int .u32 r.who) := bw.cell 3
        have c4 : W.cell? ⟨w.heap.size, 4, none⟩ = some (.int .u32 r.whom) := bw.cell 4
        have c5 : W.cell? ⟨w.heap.size, 5, none⟩ = some (.int .u32 r.what) := bw.cell 5
        have c6 : W.cell? ⟨w.heap.size, 6, none⟩ = some (.int .u32 r.id) := bw.cell 6
        have c7 : W.cell? ⟨w.heap.size, 7, none⟩ = some (.int .u64 r.am) := bw.cell 7
        have c8 : W.cell? ⟨w.heap.size, 8, none⟩ = some (.int .u64 r.price) := bw.cell 8
        go_simp
        (first | exact Below.refl _ _ | exact ⟨Below.refl _ _, rfl⟩ | exact ⟨_, rfl, Below.refl _ _, rfl⟩)
      · intro W hbW hw
        have f0 : vals 0 = Value.agg #[.int .u8 r.kind, .int .u32 r.n, .int .u8 r.k, .int .u32 r.who, .int .u32 r.whom, .int .u32 r.what, .int .u32 r.id, .int .u64 r.am, .int .u64 r.price] := hw ⟨0, .data⟩ (by simp) rfl
        clear hw
        refine step_plain rfl ?_
        go_simp
        refine (HE.out _).mono ?_
        rintro e W1 ⟨v, rfl, hi, hbl⟩
        exact ⟨hbl, hi⟩
      · intro W hbW hw
        clear hw
        refine step_plain rfl ?_
        have bw := BR.out.later hbW
        have c0 : W.cell? ⟨w.heap.size, 0, none⟩ = some (.int .u8 r.kind) := bw.cell 0
        have c1 : W.cell? ⟨w.heap.size, 1, none⟩ = some (.int .u32 r.n) := bw.cell 1
        have c2 : W.cell? ⟨w.heap.size, 2, none⟩ = some (.int .u8 r.k) := bw.cell 2
        have c3 : W.cell? ⟨w.heap.size, 3, none⟩ = some (.int .u32 r.who) := bw.cell 3
        have c4 : W.cell? ⟨w.heap.size, 4, none⟩ = some (.int .u32 r.whom) := bw.cell 4
        have c5 : W.cell? ⟨w.heap.size, 5, none⟩ = some (.int .u32 r.what) := bw.cell 5
        have c6 : W.cell? ⟨w.heap.size, 6, none⟩ = some (.int .u32 r.id) := bw.cell 6
        have c7 : W.cell? ⟨w.heap.size, 7, none⟩ = some (.int .u64 r.am) := bw.cell 7
        have c8 : W.cell? ⟨w.heap.size, 8, none⟩ = some (.int .u64 r.price) := bw.cell 8
        go_simp
        (first | exact Below.refl _ _ | exact ⟨Below.refl _ _, rfl⟩ | exact ⟨_, rfl, Below.refl _ _, rfl⟩)
      · intro W hbW hw
        have f2 : vals 2 = Value.agg #[.int .u8 r.kind, .int .u32 r.n, .int .u8 r.k, .int .u32 r.who, .int .u32 r.whom, .int .u32 r.what, .int .u32 r.id, .int .u64 r.am, .int .u64 r.price] := hw ⟨2, .data⟩ (by simp) rfl
        have f1 : IR W W.heap.size .u8 (vals 1) (Codec.askB r) := hw ⟨1, .chain⟩ (by simp) rfl
        clear hw
        refine step_plain rfl ?_
        go_simp
        refine (HF.out _).mono ?_
        rintro e W1 ⟨v, rfl, hi, hbl⟩
        exact ⟨hbl, hi⟩
      · intro W hbW hw
        have f1 : IR W W.heap.size .u8 (vals 1) (Codec.askB r) := hw ⟨1, .data⟩ (by simp) rfl
        have f3 : IR W W.heap.size .u8 (vals 3) (Codec.askB r) := hw ⟨3, .data⟩ (by simp) rfl
        clear hw
        refine step_plain rfl ?_
        go_simp
        refine (same_any _ _ _ _ _ _ _ f1 f3 (Codec.askB_bytes r) (Codec.askB_bytes r)).mono ?_
        rintro e W1 ⟨rfl, rfl⟩
        exact ⟨by rw [decide_eq_true rfl], Below.refl _ _⟩
      · intro W hbW hw
        have f4 : vals 4 = Value.bool true := hw ⟨4, .data⟩ (by simp) rfl
        clear hw
        refine step_plain rfl ?_
        go_simp
        (first | exact Below.refl _ _ | exact ⟨Below.refl _ _, rfl⟩ | exact ⟨_, rfl, Below.refl _ _, rfl⟩)
      · intro W hbW hw
        have f5 : vals 5 = Value.bool true := hw ⟨5, .guard⟩ (by simp) rfl
        clear hw
        refine step_guard rfl (yielded_of rfl f5) ?_
        have bw := BX.out.later hbW
        have c0 : W.cell? ⟨gx, 0, none⟩ = some (.int .u8 x.kind) := bw.cell 0
        have c1 : W.cell? ⟨gx, 1, none⟩ = some (.int .u32 x.n) := bw.cell 1
        have c2 : W.cell? ⟨gx, 2, none⟩ = some (.int .u8 x.k) := bw.cell 2
        have c3 : W.cell? ⟨gx, 3, none⟩ = some (.int .u32 x.who) := bw.cell 3
        have c4 : W.cell? ⟨gx, 4, none⟩ = some (.int .u32 x.whom) := bw.cell 4
        have c5 : W.cell? ⟨gx, 5, none⟩ = some (.int .u32 x.what) := bw.cell 5
        have c6 : W.cell? ⟨gx, 6, none⟩ = some (.int .u32 x.id) := bw.cell 6
        have c7 : W.cell? ⟨gx, 7, none⟩ = some (.int .u64 x.am) := bw.cell 7
        have c8 : W.cell? ⟨gx, 8, none⟩ = some (.int .u64 x.price) := bw.cell 8
        go_simp
        (first | exact Below.refl _ _ | exact ⟨Below.refl _ _, rfl⟩ | exact ⟨_, rfl, Below.refl _ _, rfl⟩)
      · intro W hbW hw
        have f5 : vals 5 = Value.bool true := hw ⟨5, .guard⟩ (by simp) rfl
        clear hw
        refine step_guard rfl (yielded_of rfl f5) ?_
        have bw := BY.out.later hbW
        have c0 : W.cell? ⟨gy, 0, none⟩ = some (.int .u8 x.kind) := bw.cell 0
        have c1 : W.cell? ⟨gy, 1, none⟩ = some (.int .u32 x.n) := bw.cell 1
        have c2 : W.cell? ⟨gy, 2, none⟩ = some (.int .u8 x.k) := bw.cell 2
        have c3 : W.cell? ⟨gy, 3, none⟩ = some (.int .u32 x.who) := bw.cell 3
        have c4 : W.cell? ⟨gy, 4, none⟩ = some (.int .u32 x.whom) := bw.cell 4
        have c5 : W.cell? ⟨gy, 5, none⟩ = some (.int .u32 x.what) := bw.cell 5
        have c6 : W.cell? ⟨gy, 6, none⟩ = some (.int .u32 x.id) := bw.cell 6
        have c7 : W.cell? ⟨gy, 7, none⟩ = some (.int .u64 x.am) := bw.cell 7
        have c8 : W.cell? ⟨gy, 8, none⟩ = some (.int .u64 x.price) := bw.cell 8
        go_simp
        (first | exact Below.refl _ _ | exact ⟨Below.refl _ _, rfl⟩ | exact ⟨_, rfl, Below.refl _ _, rfl⟩)
      · intro W hbW hw
        have f6 : vals 6 = Value.agg #[.int .u8 x.kind, .int .u32 x.n, .int .u8 x.k, .int .u32 x.who, .int .u32 x.whom, .int .u32 x.what, .int .u32 x.id, .int .u64 x.am, .int .u64 x.price] := hw ⟨6, .data⟩ (by simp) rfl
        have f7 : vals 7 = Value.agg #[.int .u8 x.kind, .int .u32 x.n, .int .u8 x.k, .int .u32 x.who, .int .u32 x.whom, .int .u32 x.what, .int .u32 x.id, .int .u64 x.am, .int .u64 x.price] := hw ⟨7, .data⟩ (by simp) rfl
        have f5 : vals 5 = Value.bool true := hw ⟨5, .guard⟩ (by simp) rfl
        clear hw
        refine step_guard rfl (yielded_of rfl f5) ?_
        go_simp
        (first | exact Below.refl _ _ | exact ⟨Below.refl _ _, rfl⟩ | exact ⟨_, rfl, Below.refl _ _, rfl⟩)
      · intro W hbW hw
        have f5 : vals 5 = Value.bool true := hw ⟨5, .data⟩ (by simp) rfl
        have f8 : vals 8 = Value.bool true := hw ⟨8, .data⟩ (by simp) rfl
        clear hw
        refine step_plain rfl ?_
        go_simp
        (first | exact Below.refl _ _ | exact ⟨Below.refl _ _, rfl⟩ | exact ⟨_, rfl, Below.refl _ _, rfl⟩)
      · intro W hbW hw
        have f9 : vals 9 = Value.bool true := hw ⟨9, .data⟩ (by simp) rfl
        have f5 : vals 5 = Value.bool true := hw ⟨5, .chain⟩ (by simp) rfl
        clear hw
        refine step_plain rfl ?_
        go_simp
        (first | exact Below.refl _ _ | exact ⟨Below.refl _ _, rfl⟩ | exact ⟨_, rfl, Below.refl _ _, rfl⟩)
      · intro W hbW hw
        have f10 : vals 10 = Value.bool true := hw ⟨10, .guard⟩ (by simp) rfl
        clear hw
        refine step_guard rfl (yielded_of rfl f10) ?_
        go_simp
        (first | exact Below.refl _ _ | exact ⟨Below.refl _ _, rfl⟩ | exact ⟨_, rfl, Below.refl _ _, rfl⟩)
      · intro W hbW hw
        have f11 : vals 11 = Value.int .u16 E := hw ⟨11, .data⟩ (by simp) rfl
        have f10 : vals 10 = Value.bool true := hw ⟨10, .guard⟩ (by simp) rfl
        clear hw
        refine step_guard rfl (yielded_of rfl f10) ?_
        have hwr : IntKind.i64.wrap E = E := IntWalk.i64_in _ (by omega)
        go_simp
        (first | exact Below.refl _ _ | exact ⟨Below.refl _ _, rfl⟩ | exact ⟨_, rfl, Below.refl _ _, rfl⟩)
      · intro W hbW hw
        have f10 : vals 10 = Value.bool true := hw ⟨10, .guard⟩ (by simp) rfl
        clear hw
        refine step_guard rfl (yielded_of rfl f10) ?_
        go_simp
        (first | exact Below.refl _ _ | exact ⟨Below.refl _ _, rfl⟩ | exact ⟨_, rfl, Below.refl _ _, rfl⟩)
      · intro W hbW hw
        have f12 : vals 12 = Value.int .i64 E := hw ⟨12, .data⟩ (by simp) rfl
        have f13 : vals 13 = Value.int .i64 E := hw ⟨13, .data⟩ (by simp) rfl
        have f10 : vals 10 = Value.bool true := hw ⟨10, .guard⟩ (by simp) rfl
        clear hw
        refine step_guard rfl (yielded_of rfl f10) ?_
        go_simp
        (first | exact Below.refl _ _ | exact ⟨Below.refl _ _, rfl⟩ | exact ⟨_, rfl, Below.refl _ _, rfl⟩)
      · intro W hbW hw
        have f10 : vals 10 = Value.bool true := hw ⟨10, .data⟩ (by simp) rfl
        have f14 : vals 14 = Value.bool true := hw ⟨14, .data⟩ (by simp) rfl
        clear hw
        refine step_plain rfl ?_
        go_simp
        (first | exact Below.refl _ _ | exact ⟨Below.refl _ _, rfl⟩ | exact ⟨_, rfl, Below.refl _ _, rfl⟩)
      · intro W hbW hw
        have f15 : vals 15 = Value.bool true := hw ⟨15, .data⟩ (by simp) rfl
        have f10 : vals 10 = Value.bool true := hw ⟨10, .chain⟩ (by simp) rfl
        clear hw
        refine step_plain rfl ?_
        go_simp
        (first | exact Below.refl _ _ | exact ⟨Below.refl _ _, rfl⟩ | exact ⟨_, rfl, Below.refl _ _, rfl⟩)
      · intro W hbW hw
        have f16 : vals 16 = Value.bool true := hw ⟨16, .guard⟩ (by simp) rfl
        clear hw
        refine step_guard rfl (yielded_of rfl f16) ?_
        go_simp
        (first | exact Below.refl _ _ | exact ⟨Below.refl _ _, rfl⟩ | exact ⟨_, rfl, Below.refl _ _, rfl⟩)
      · intro W hbW hw
        have f16 : vals 16 = Value.bool true := hw ⟨16, .guard⟩ (by simp) rfl
        clear hw
        refine step_guard rfl (yielded_of rfl f16) ?_
        go_simp
        (first | exact Below.refl _ _ | exact ⟨Below.refl _ _, rfl⟩ | exact ⟨_, rfl, Below.refl _ _, rfl⟩)
      · intro W hbW hw
        have f17 : vals 17 = Value.slice Ao xb.length co := hw ⟨17, .data⟩ (by simp) rfl
        have f18 : vals 18 = Value.slice A xb.length c := hw ⟨18, .data⟩ (by simp) rfl
        have f16 : vals 16 = Value.bool true := hw ⟨16, .chain⟩ (by simp) rfl
        clear hw
        refine step_guard rfl (yielded_of rfl f16) ?_
        go_simp
        refine (same_any _ _ _ _ _ _ _ (HO.out.below hbW) (HB.out.below hbW) bb bb).mono ?_
        rintro e W1 ⟨rfl, rfl⟩
        exact ⟨by rw [decide_eq_true rfl], Below.refl _ _⟩
      · intro W hbW hw
        have f16 : vals 16 = Value.bool true := hw ⟨16, .data⟩ (by simp) rfl
        have f19 : vals 19 = Value.bool true := hw ⟨19, .data⟩ (by simp) rfl
        clear hw
        refine step_plain rfl ?_
        go_simp
        (first | exact Below.refl _ _ | exact ⟨Below.refl _ _, rfl⟩ | exact ⟨_, rfl, Below.refl _ _, rfl⟩)
      · intro W hbW hw
        have f20 : vals 20 = Value.bool true := hw ⟨20, .data⟩ (by simp) rfl
        have f19 : vals 19 = Value.bool true := hw ⟨19, .chain⟩ (by simp) rfl
        have f0 : vals 0 = Value.agg #[.int .u8 r.kind, .int .u32 r.n, .int .u8 r.k, .int .u32 r.who, .int .u32 r.whom, .int .u32 r.what, .int .u32 r.id, .int .u64 r.am, .int .u64 r.price] := hw ⟨0, .phase⟩ (by simp) rfl
        have f1 : IR W W.heap.size .u8 (vals 1) (Codec.askB r) := hw ⟨1, .phase⟩ (by simp) rfl
        have f2 : vals 2 = Value.agg #[.int .u8 r.kind, .int .u32 r.n, .int .u8 r.k, .int .u32 r.who, .int .u32 r.whom, .int .u32 r.what, .int .u32 r.id, .int .u64 r.am, .int .u64 r.price] := hw ⟨2, .phase⟩ (by simp) rfl
        have f3 : IR W W.heap.size .u8 (vals 3) (Codec.askB r) := hw ⟨3, .phase⟩ (by simp) rfl
        have f4 : vals 4 = Value.bool true := hw ⟨4, .phase⟩ (by simp) rfl
        have f5 : vals 5 = Value.bool true := hw ⟨5, .phase⟩ (by simp) rfl
        have f6 : vals 6 = Value.agg #[.int .u8 x.kind, .int .u32 x.n, .int .u8 x.k, .int .u32 x.who, .int .u32 x.whom, .int .u32 x.what, .int .u32 x.id, .int .u64 x.am, .int .u64 x.price] := hw ⟨6, .phase⟩ (by simp) rfl
        have f7 : vals 7 = Value.agg #[.int .u8 x.kind, .int .u32 x.n, .int .u8 x.k, .int .u32 x.who, .int .u32 x.whom, .int .u32 x.what, .int .u32 x.id, .int .u64 x.am, .int .u64 x.price] := hw ⟨7, .phase⟩ (by simp) rfl
        have f8 : vals 8 = Value.bool true := hw ⟨8, .phase⟩ (by simp) rfl
        have f9 : vals 9 = Value.bool true := hw ⟨9, .phase⟩ (by simp) rfl
        have f10 : vals 10 = Value.bool true := hw ⟨10, .phase⟩ (by simp) rfl
        have f11 : vals 11 = Value.int .u16 E := hw ⟨11, .phase⟩ (by simp) rfl
        have f12 : vals 12 = Value.int .i64 E := hw ⟨12, .phase⟩ (by simp) rfl
        have f13 : vals 13 = Value.int .i64 E := hw ⟨13, .phase⟩ (by simp) rfl
        have f14 : vals 14 = Value.bool true := hw ⟨14, .phase⟩ (by simp) rfl
        have f15 : vals 15 = Value.bool true := hw ⟨15, .phase⟩ (by simp) rfl
        have f16 : vals 16 = Value.bool true := hw ⟨16, .phase⟩ (by simp) rfl
        have f17 : vals 17 = Value.slice Ao xb.length co := hw ⟨17, .phase⟩ (by simp) rfl
        have f18 : vals 18 = Value.slice A xb.length c := hw ⟨18, .phase⟩ (by simp) rfl
        clear hw
        refine step_plain rfl ?_
        go_simp
        (first | exact Below.refl _ _ | exact ⟨Below.refl _ _, rfl⟩ | exact ⟨_, rfl, Below.refl _ _, rfl⟩)
    · simp only [TL, Act.put, List.setIfInBounds_toArray, List.set_cons_succ, List.set_cons_zero]
      have f0 : vals 0 = Value.agg #[.int .u8 r.kind, .int .u32 r.n, .int .u8 r.k, .int .u32 r.who, .int .u32 r.whom, .int .u32 r.what, .int .u32 r.id, .int .u64 r.am, .int .u64 r.price] := hall 0 (by decide)
      have f1 : IR W W.heap.size .u8 (vals 1) (Codec.askB r) := hall 1 (by decide)
      have f2 : vals 2 = Value.agg #[.int .u8 r.kind, .int .u32 r.n, .int .u8 r.k, .int .u32 r.who, .int .u32 r.whom, .int .u32 r.what, .int .u32 r.id, .int .u64 r.am, .int .u64 r.price] := hall 2 (by decide)
      have f3 : IR W W.heap.size .u8 (vals 3) (Codec.askB r) := hall 3 (by decide)
      have f4 : vals 4 = Value.bool true := hall 4 (by decide)
      have f5 : vals 5 = Value.bool true := hall 5 (by decide)
      have f6 : vals 6 = Value.agg #[.int .u8 x.kind, .int .u32 x.n, .int .u8 x.k, .int .u32 x.who, .int .u32 x.whom, .int .u32 x.what, .int .u32 x.id, .int .u64 x.am, .int .u64 x.price] := hall 6 (by decide)
      have f7 : vals 7 = Value.agg #[.int .u8 x.kind, .int .u32 x.n, .int .u8 x.k, .int .u32 x.who, .int .u32 x.whom, .int .u32 x.what, .int .u32 x.id, .int .u64 x.am, .int .u64 x.price] := hall 7 (by decide)
      have f8 : vals 8 = Value.bool true := hall 8 (by decide)
      have f9 : vals 9 = Value.bool true := hall 9 (by decide)
      have f10 : vals 10 = Value.bool true := hall 10 (by decide)
      have f11 : vals 11 = Value.int .u16 E := hall 11 (by decide)
      have f12 : vals 12 = Value.int .i64 E := hall 12 (by decide)
      have f13 : vals 13 = Value.int .i64 E := hall 13 (by decide)
      have f14 : vals 14 = Value.bool true := hall 14 (by decide)
      have f15 : vals 15 = Value.bool true := hall 15 (by decide)
      have f16 : vals 16 = Value.bool true := hall 16 (by decide)
      have f17 : vals 17 = Value.slice Ao xb.length co := hall 17 (by decide)
      have f18 : vals 18 = Value.slice A xb.length c := hall 18 (by decide)
      have f19 : vals 19 = Value.bool true := hall 19 (by decide)
      have f20 : vals 20 = Value.bool true := hall 20 (by decide)
      have f21 : vals 21 = Value.bool true := hall 21 (by decide)
      clear hall
      simp only [f0, f2, f4, f5, f6, f7, f8, f9, f10, f11, f12, f13, f14, f15, f16, f17, f18, f19, f20, f21]
      clear f0 f2 f4 f5 f6 f7 f8 f9 f10 f11 f12 f13 f14 f15 f16 f17 f18 f19 f20 f21
      go_wp2
      go_ret
      exact ⟨rfl, step_ hw4 hbW⟩
  · have hd : decide (200 < (xb.length : Int)) = true := decide_eq_true (by omega)
    unfold cellsQ
    go_enter Try.func3, Try.ntmps3
    go_wp2_with fail
    (with_reducible refine (known_any _).mono ?_)
    rintro e w1 ⟨rfl, hb1⟩
    go_wp2
    go_ret
    exact ⟨rfl, step_ (new_ (Below.refl w.heap.size w) _) hb1⟩


set_option maxRecDepth 100000 in
theorem lifted (os : Os) (started : os.Started) (H : Type) (enc : TypeId × Value → H) :
    ReturnsInHanded {} Try.checked os 3 .any (Rows.codecAsksSpec.pre6 enc Try.prog Try.f3 Rows.codecAsksRow.domain false) (Rows.codecAsksSpec.post enc Try.prog Try.f3 false true false false) := by
  refine returnsInHanded_of_change (C := Try.checked) own started (by kernel_rfl) Try.func3
    (ChangeSpec.witness6 (enc := enc) (C := Try.checked) false ⟨#[], #[.agg #[.int .u8 0, .int .u32 0, .int .u8 0, .int .u32 0, .int .u32 0, .int .u32 0, .int .u32 0, .int .u64 0, .int .u64 0], .slice none 0 0], []⟩ 8 (by kernel_rfl) (by kernel_rfl) (by kernel_rfl) (by kernel_rfl)) ?_
  intro W base args ds gs before hval0 hW hcnd _
  have hval : ∀ (j : Nat) t v, Try.f3.params[j]? = some t → args[j]? = some v → Value.okWide Try.prog W .any base t v := hval0
  have hW' := hW
  obtain ⟨p, q, hA0, hV, rfl, hfz, hnd⟩ := hW
  have hA1 : DataW.TrodAll enc Try.prog W 0 (fun _ => true) true Try.f3.params.toList args.toList ds p := hA0
  have hA := hA1
  rw [Try.params3] at hA hval
  obtain ⟨v0, vs0, d0, ds0, p0, q0, hargs, rfl, rfl, h0, r0⟩ := trodAll_cons hA
  obtain ⟨v1, vs1, d1, ds1, p1, q1, rfl, rfl, rfl, h1, r1⟩ := trodAll_cons r0
  obtain ⟨rfl, rfl, rfl⟩ := trodAll_nil r1
  obtain rfl : args = #[v0, v1] := by cases args; simp_all
  obtain ⟨rfl, rfl⟩ := trodVars_none hV
  obtain ⟨r, ok0, rfl⟩ := Codec.open_rq (hval 0 27 v0 rfl rfl) h0
  obtain ⟨xb, i1, wf1⟩ := open_IR Try.underlying28 Try.underlying5 (by kernel_rfl) (hval 1 28 v1 rfl rfl) h1
  clear hA0 hval0
  refine (walk W r ok0 v1 xb i1 (fun n hn => bounds_u8 (wf1 n hn))).mono fun e W' ⟨he, bel⟩ => ?_
  subst he
  exact ⟨_, rfl, _, _, _, [], _, [], hW', trodAll_mk1 (shut_bool Try.underlying4 _), args_again laidOut bel (by kernel_rfl) hA1, rfl, bel.frame _, fun h => by cases h⟩

theorem over : Rows.codecAsksRow.holds Try.pinned (OpenSpec.ofChange Rows.codecAsksSpec) :=
  OpenClaim.holds_of_wide 3 Try.f3 rfl rfl rfl rfl rfl rfl rfl ⟨rfl, rfl, rfl, rfl, rfl⟩ rfl rfl rfl rfl rfl (by kernel_rfl) Try.func3 (by kernel_rfl)
    (of_decide_eq_true (by kernel_rfl)) (by unfold Func.isWrapper; first | (rw [if_pos (by decide +kernel)]; kernel_rfl) | (rw [if_neg (by decide +kernel)]; exact ⟨rfl, rfl⟩))
    (fun os started H enc _ => lifted os started H enc)

theorem proved : Rows.CodecAsksSaid := over
end Go.Proofs.Ytnajmdgheohpjaa.LCodecAsks
