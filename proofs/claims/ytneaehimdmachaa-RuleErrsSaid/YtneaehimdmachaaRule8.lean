import Derived.Test.YtneaehimdmachaaRule7
/- An operation that mints coins. -/
namespace Go.Proofs.Ytneaehimdmachaa.Rule
open Go.ChangeShapes Go.WideShapes Go.ChangeAt Go.RowKit Go.IntWalk Go.Proofs.Mem
set_option linter.unusedVariables false
set_option maxRecDepth 100000 in
set_option maxHeartbeats 4000000 in
theorem do_mint_miss (w : World) (g : Nat) (wh wm wt id n pr : Int) (A : Option Addr) (l c : Nat) (p : Value) (i : Nat) (hb : WorkAt w g ⟨2, wh, wm, wt, id, n, pr⟩ (.slice A l c) i p) (hi : l ≤ i) (hm : i ≤ 1000000) :
    Calls Try.prog 33 #[.pointer (some ⟨g, 0, none⟩)] w fun e w' => e = .panicked (raiseK 1 wh 0) ∧ Below w.heap.size w w' := by
  have hlt := hb.lt
  have c0 := (wc_of hb).c0
  dsimp only at c0
  have MM := Lib.hid (mint_miss _ g 2 wh wm wt id n pr A l c p i (hb.alloc (.cells #[.int .u16 0, .int .u64 0, .int .u64 0, .int .u64 0] 41)) hi hm)
  clear hb
  go_enter Try.func33, Try.ntmps33
  go_wp2_with (go_at_call 37; (with_reducible refine MM.out.mono ?_); rintro e w1 ⟨rfl, hb1⟩)
  exact ⟨rfl, rfl, step_ (new_ (Below.refl _ _) _) hb1⟩
/-- what is known behind a mint -/
def Minted (w : World) (g : Nat) (q : Ot) (v : Value) (i : Int) (p : Value) (base : Nat) (l : List Pu) (w' : World) : Prop :=
  ∃ p', WorkAt w' g q v i p' ∧ w'.ownsRow base 51 6 p' l.length (putCells l) ∧ Fr (fun x => x = g ∨ p.ownBlock = some x) w w'
set_option maxRecDepth 100000 in
set_option maxHeartbeats 4000000 in
theorem do_mint_hit (w : World) (g : Nat) (wh wm wt id n pr : Int) (b0 o0 : Nat) (l c : Nat) (i : Nat) (p : Value) (base : Nat) (lp : List Pu) (hb : WorkAt w g ⟨2, wh, wm, wt, id, n, pr⟩ (.slice (some ⟨b0, o0, none⟩) l c) i p) (hi : i < l) (hl : l ≤ c) (hm : c ≤ 9223372036854775807)
    (k' a' b' A B : Int) (hbg : b0 ≠ g) (hc : CellAt w b0 (o0 + i * 6) k' a' b' A B true) (hA : 0 ≤ A) (hn : 0 ≤ n) (hs : A + n ≤ 4611686018427387904)
    (hown : w.ownsRow base 51 6 p lp.length (putCells lp)) (hg : g < base) (hlp : lp.length ≤ 1000) (hbase : base ≤ w.heap.size) :
    Calls Try.prog 33 #[.pointer (some ⟨g, 0, none⟩)] w fun e w' => e = .returned (.agg #[.int .u16 0, .int .u64 (A + n), .int .u64 0, .int .u64 0]) ∧ Minted w g ⟨2, wh, wm, wt, id, n, pr⟩ (.slice (some ⟨b0, o0, none⟩) l c) (i + 1 : Nat) p base (lp ++ [Pu.mk 1 wh 0 (A + n) 0 false]) w' := by
  have hlt := hb.lt
  have c0 := (wc_of hb).c0
  dsimp only at c0
  have hpr : p.ownBlock ≠ some w.heap.size := fun e => by have := (hown.lt _ e).2; omega
  have MM := Lib.hid (mint_hit _ g wh wm wt id n pr b0 o0 l c i p base lp (hb.alloc (.cells #[.int .u16 0, .int .u64 0, .int .u64 0, .int .u64 0] 41)) hi hl hm k' a' b' A B hbg (hc.below (new_ (Below.refl w.heap.size w) _) (Law.lt_of_cell hc.h0)) hA hn hs (own_below hown (new_ (Below.refl _ _) _)) hg hlp (by simp; omega))
  have RB := Lib.hid (Box.new w #[.int .u16 0, .int .u64 0, .int .u64 0, .int .u64 0] 41)
  clear hb hc hown
  go_enter Try.func33, Try.ntmps33
  go_wp2_with (go_at_call 37; (with_reducible refine MM.out.mono ?_); rintro e w5 ⟨rfl, p', wb5, ow5, fr5⟩; have rb5 := RB.out.fr fr5 (fun h => h.elim (fun h => by omega) hpr); have s0 := rb5.cell 0; have s1 := rb5.cell 1; have s2 := rb5.cell 2; have s3 := rb5.cell 3; have g0 := rb5.frozen 0; have g1 := rb5.frozen 1; have g2 := rb5.frozen 2; have g3 := rb5.frozen 3; simp only [List.getElem?_toArray, List.getElem?_cons_zero, List.getElem?_cons_succ] at s0 s1 s2 s3; have WB5 := Lib.hid wb5; have OW5 := Lib.hid ow5; have F5 := Lib.hid fr5; have RB5 := Lib.hid rb5; clear wb5 ow5 fr5 rb5)
  generalize hW : (World.setCell _ (⟨w.heap.size, 3, none⟩ : Addr) _) = W9
  have rb9 : Box W9 w.heap.size #[.int .u16 0, .int .u64 (A + n), .int .u64 0, .int .u64 0] 41 := by rw [← hW]; exact ((((RB5.out.set_ 0 _).set_ 1 _).set_ 2 _).set_ 3 _)
  have f9 : Fr (fun x => x = w.heap.size) w5 W9 := by rw [← hW]; exact (((((Fr.refl (fun x => x = w.heap.size) w5).setCell (p := ⟨w.heap.size, 0, none⟩) (.inl rfl) _).setCell (p := ⟨w.heap.size, 1, none⟩) (.inl rfl) _).setCell (p := ⟨w.heap.size, 2, none⟩) (.inl rfl) _).setCell (p := ⟨w.heap.size, 3, none⟩) (.inl rfl) _)
  have wb9 := WB5.out.fr f9 (by omega)
  have ow9 := own_frs OW5.out f9 (fun x hx h => own_not_box OW5.out RB5.out (by decide) (by rw [hx, h]))
  have v0 := rb9.cell 0
  have v1 := rb9.cell 1
  have v2 := rb9.cell 2
  have v3 := rb9.cell 3
  simp only [List.getElem?_toArray, List.getElem?_cons_zero, List.getElem?_cons_succ] at v0 v1 v2 v3
  clear hW s0 s1 s2 s3 g0 g1 g2 g3
  refine bodyPost_ret (v := .agg #[.int .u16 0, .int .u64 (A + n), .int .u64 0, .int .u64 0]) (by simp [results, Try.results33, go_sem, v0, v1, v2, v3]; try rfl) rfl ?_
  exact ⟨rfl, p', wb9, ow9, (((Fr.refl (fun x => x = g ∨ p.ownBlock = some x) w).alloc _).trans F5.out).trans' f9 (fun x hx h => by exfalso; omega)⟩
set_option maxRecDepth 100000 in
set_option maxHeartbeats 4000000 in
theorem run_mint_miss (w : World) (wh wm wt id n pr : Int) (h0 : wh ≠ 0) (hn : n ≠ 0) :
    RunIs #[.int .u8 2, .int .u32 wh, .int .u32 wm, .int .u32 wt, .int .u32 id, .int .u64 n, .int .u64 pr] (.slice none 0 0) w none 0 0 0 0 0 0 1 wh 0 true (fun _ => True) := by
  have hmf : ∀ (fn : Fn) (first cap : Array Value) (w : World), (Instr.makeFunc fn first cap).run Try.prog w = .ok (.func fn first cap) w := fun _ _ _ _ => rfl
  obtain ⟨hb1, hb2⟩ := work_new w #[.int .u8 2, .int .u32 wh, .int .u32 wm, .int .u32 wt, .int .u32 id, .int .u64 n, .int .u64 pr] ⟨2, wh, wm, wt, id, n, pr⟩ (.slice none 0 0)
  have call1 := chk_mint _ _ _ _ _ _ _ _ _ _ _ _ hb2 h0 rfl hn
  have call2 := do_mint_miss _ _ wh wm wt id n pr none 0 0 _ 0 hb2 (Nat.le_refl _) (by omega)
  dsimp only [wk, out0] at call1 call2 hb1
  have CALL1 := Lib.hid call1
  have CALL2 := Lib.hid call2
  have HB1 := Lib.hid hb1
  clear hb1 hb2 call1 call2
  unfold RunIs
  go_enter_defers Try.func30, Try.ntmps30
  go_wp2_with (first
    | (go_at_call 32; (with_reducible refine CALL1.out.mono ?_); rintro en w1 ⟨rfl, rfl⟩)
    | (go_at_call 33; (with_reducible refine CALL2.out.mono ?_); rintro en w1 ⟨rfl, hb3⟩; have HB3 := Lib.hid hb3; clear hb3))
  refine leaves_cons (f := 31) (args := #[.pointer (some ⟨w.heap.size + 1, 0, none⟩)]) (by simp) (by simp [go_sem]) ?_
  refine (catch_key (w.heap.size + 1) 1 wh 0 _ (HB1.out.later HB3.out)).mono ?_
  rintro en u' w'' ⟨rfl, rfl, hbx, hfr⟩
  obtain ⟨k0, k1, k2, k3, k4, k5, k6, k7, k8⟩ := oc_of (hbx := hbx)
  have HB := Lib.hid (show Below w.heap.size w w'' from ((new_ (new_ (new_ (Below.refl w.heap.size w) _) _) _).trans (HB3.out.mono (by simp; omega))).trans (hfr.to_below (fun k hk => by rw [hk]; omega) (by have := HB3.out.size; simp at this; omega)))
  refine ⟨.agg (outc (.slice none 0 0) 0 0 0 0 1 wh 0 true), ?_, rfl, trivial, HB.out⟩
  simp [results, Try.results30, go_sem, k0, k1, k2, k3, k4, k5, k6, k7, k8, outc]
end Go.Proofs.Ytneaehimdmachaa.Rule
