import Derived.Test.YtneaehimdmachaaRule6
import Derived.Deep.DeepCutAuto
/- Coins are minted: all is there. -/
namespace Go.Proofs.Ytneaehimdmachaa.Rule
open Go.ChangeShapes Go.WideShapes Go.ChangeAt Go.RowKit Go.IntWalk Go.Proofs.Mem
set_option linter.unusedVariables false
attribute [local go_sem ↓] Go.wp_at_zero Go.wp_at_succ
theorem box_2 (w : World) (r z : Array Value) (a b : TypeId) : Box (((w.alloc (.cells r a)).alloc (.cells z b)).drew) (w.heap.size + 1) z b := by
  have := Box.new (w.alloc (.cells r a)) z b
  rw [World.size_alloc] at this
  exact this.drew
theorem be_1 (w : World) (o : Obj) : Below (w.heap.size + 1) (w.alloc o) ((w.alloc o).drew) := Below.drew (Below.refl _ _)
theorem be_2 (w : World) (o o2 : Obj) : Below (w.heap.size + 1) (w.alloc o) (((w.alloc o).alloc o2).drew) := by
  have := Below.drew (new_ (Below.refl (w.alloc o).heap.size (w.alloc o)) o2)
  rwa [World.size_alloc] at this
/-- what the look-up leaves -/
def Seen (w : World) (g : Nat) (q : Ot) (v : Value) (i : Int) (p : Value) (A B wh : Int) (s : Value) (wx : World) : Prop :=
  ∃ gt, s = .pointer (some ⟨gt, 0, none⟩) ∧ Box wx gt #[.int .u64 A, .int .u64 B, .int .u8 1, .int .u32 wh, .int .u32 0, .bool true] 69 ∧ w.heap.size < gt ∧ WorkAt wx g q v i p ∧ Fr (fun x => x = g) (w.alloc (.cells #[.int .u16 0, .int .u64 0, .int .u64 0, .int .u64 0] 41)) wx
theorem fr_e1 {S : Nat → Prop} {w w1 : World} {o : Obj} (h : Below (w.heap.size + 1) (w.alloc o) w1) : Fr S (w.alloc o) w1 := Fr.of_below (by rw [World.size_alloc]; exact h)
theorem seen_1 {w w2 : World} {g : Nat} {q : Ot} {v p : Value} {i A B wh : Int} (hz : w.heap.size < w2.heap.size) (wb : WorkAt w2 g q v i p) (fr : Fr (fun x => x = g) (w.alloc (.cells #[.int .u16 0, .int .u64 0, .int .u64 0, .int .u64 0] 41)) w2) :
    Seen w g q v i p A B wh (.pointer (some ⟨w2.heap.size, 0, none⟩)) (w2.alloc (.cells #[.int .u64 A, .int .u64 B, .int .u8 1, .int .u32 wh, .int .u32 0, .bool true] 69)) :=
  ⟨_, rfl, Box.new _ _ _, hz, wb.alloc _, fr.alloc _⟩
theorem seen_2 {w w2 : World} {g gt : Nat} {q : Ot} {v p : Value} {i A B wh : Int} (hz : w.heap.size < gt) (hg : g < w.heap.size) (wb : WorkAt w2 g q v i p) (tb : Box w2 gt #[.int .u64 0, .int .u64 0, .int .u8 0, .int .u32 0, .int .u32 0, .bool false] 69) (fr : Fr (fun x => x = g) (w.alloc (.cells #[.int .u16 0, .int .u64 0, .int .u64 0, .int .u64 0] 41)) w2) :
    Seen w g q v i p A B wh (.pointer (some ⟨gt, 0, none⟩)) ((((((w2.setCell ⟨gt, 0, none⟩ (.int .u64 A)).setCell ⟨gt, 1, none⟩ (.int .u64 B)).setCell ⟨gt, 2, none⟩ (.int .u8 1)).setCell ⟨gt, 3, none⟩ (.int .u32 wh)).setCell ⟨gt, 4, none⟩ (.int .u32 0)).setCell ⟨gt, 5, none⟩ (.bool true)) := by
  have f6 : Fr (fun x => x = gt) w2 ((((((w2.setCell ⟨gt, 0, none⟩ (.int .u64 A)).setCell ⟨gt, 1, none⟩ (.int .u64 B)).setCell ⟨gt, 2, none⟩ (.int .u8 1)).setCell ⟨gt, 3, none⟩ (.int .u32 wh)).setCell ⟨gt, 4, none⟩ (.int .u32 0)).setCell ⟨gt, 5, none⟩ (.bool true)) :=
    (((((((Fr.refl (fun x => x = gt) w2).setCell (p := ⟨gt, 0, none⟩) (.inl rfl) _).setCell (p := ⟨gt, 1, none⟩) (.inl rfl) _).setCell (p := ⟨gt, 2, none⟩) (.inl rfl) _).setCell (p := ⟨gt, 3, none⟩) (.inl rfl) _).setCell (p := ⟨gt, 4, none⟩) (.inl rfl) _).setCell (p := ⟨gt, 5, none⟩) (.inl rfl) _)
  refine ⟨gt, rfl, ?_, hz, wb.fr f6 (by omega), fr.trans' f6 (fun x hx h => by rw [World.size_alloc] at hx; omega)⟩
  exact ((((((tb.set_ 0 _).set_ 1 _).set_ 2 _).set_ 3 _).set_ 4 _).set_ 5 _)
set_option maxRecDepth 100000 in
set_option maxHeartbeats 8000000 in
theorem mint_hit (w : World) (g : Nat) (wh wm wt id n pr : Int) (b0 o0 : Nat) (l c : Nat) (i : Nat) (p : Value) (base : Nat) (lp : List Pu) (hb : WorkAt w g ⟨2, wh, wm, wt, id, n, pr⟩ (.slice (some ⟨b0, o0, none⟩) l c) i p) (hi : i < l) (hl : l ≤ c) (hm : c ≤ 9223372036854775807)
    (k' a' b' A B : Int) (hbg : b0 ≠ g) (hc : CellAt w b0 (o0 + i * 6) k' a' b' A B true) (hA : 0 ≤ A) (hn : 0 ≤ n) (hs : A + n ≤ 4611686018427387904)
    (hown : w.ownsRow base 51 6 p lp.length (putCells lp)) (hg : g < base) (hlp : lp.length ≤ 1000) (hbase : base ≤ w.heap.size) :
    Calls Try.prog 37 #[.pointer (some ⟨g, 0, none⟩)] w fun e w' => e = .returned (.agg #[.int .u16 0, .int .u64 (A + n), .int .u64 0, .int .u64 0]) ∧
      ∃ p', WorkAt w' g ⟨2, wh, wm, wt, id, n, pr⟩ (.slice (some ⟨b0, o0, none⟩) l c) (i + 1 : Nat) p' ∧ w'.ownsRow base 51 6 p' (lp ++ [Pu.mk 1 wh 0 (A + n) 0 false]).length (putCells (lp ++ [Pu.mk 1 wh 0 (A + n) 0 false])) ∧ Fr (fun x => x = g ∨ p.ownBlock = some x) w w' := by
  have hlt := hb.lt
  have hbl := Law.lt_of_cell hc.h0
  have HB := Lib.hid hb
  have HC := Lib.hid hc
  have OWN := Lib.hid hown
  have hpg : p.ownBlock ≠ some g := fun e => by have := (hown.lt g e).1; omega
  have c1 := (wc_of hb).c1
  have c0 := (wc_of hb).c0
  dsimp only at c1 c0
  clear hb hc hown
  go_enter Try.func37, Try.ntmps37
  go_upto_region 1 with fail
  go_cut [3] (fun s wx => Hid (Seen w g ⟨2, wh, wm, wt, id, n, pr⟩ (.slice (some ⟨b0, o0, none⟩) l c) (i + 1 : Nat) p A B wh s wx))
  case first =>
    go_wp2
    go_region_with (first
      | (go_at_call 7; (with_reducible refine (purse_any wh _).mono ?_); rintro e w1 ⟨rfl, hb1⟩; have D1 := Lib.hid (show Below w.heap.size w w1 by first | exact step_ (Below.drew (new_ (Below.refl w.heap.size w) _)) hb1 | exact step_ (Below.drew (new_ (new_ (Below.refl w.heap.size w) _) _)) hb1); have E1 := Lib.hid (show Below (w.heap.size + 1) (w.alloc (.cells #[.int .u16 0, .int .u64 0, .int .u64 0, .int .u64 0] 41)) w1 by first | exact (be_1 w _).trans (hb1.mono (by simp)) | exact (be_2 w _ _).trans (hb1.mono (by simp))); try (have TBX := Lib.hid ((box_2 w _ #[.int .u64 0, .int .u64 0, .int .u8 0, .int .u32 0, .int .u32 0, .bool false] _ 69).later hb1)); clear hb1)
      | (go_at_call 53; refine (there_hit _ g ⟨2, wh, wm, wt, id, n, pr⟩ b0 o0 l c i p (HB.out.below (by first | exact D1.out | exact new_ D1.out _) hlt) hi hl hm 1 wh 0 k' a' b' A B hbg (HC.out.below (by first | exact D1.out | exact new_ D1.out _) hbl)).mono ?_; rintro e w2 ⟨rfl, wb2, fr2⟩; have WB2 := Lib.hid wb2; have FR2 := Lib.hid fr2; unfold thing; first | (have tb2 := TBX.out.fr fr2 (by omega); have q0 := tb2.cell 0; have r0 := tb2.frozen 0; have q1 := tb2.cell 1; have r1 := tb2.frozen 1; have q2 := tb2.cell 2; have r2 := tb2.frozen 2; have q3 := tb2.cell 3; have r3 := tb2.frozen 3; have q4 := tb2.cell 4; have r4 := tb2.frozen 4; have q5 := tb2.cell 5; have r5 := tb2.frozen 5; simp only [List.getElem?_toArray, List.getElem?_cons_zero, List.getElem?_cons_succ] at q0 q1 q2 q3 q4 q5; have TB2 := Lib.hid tb2; clear tb2; clear wb2 fr2) | (have tb2 := (Box.new w1 #[.int .u64 0, .int .u64 0, .int .u8 0, .int .u32 0, .int .u32 0, .bool false] 69).fr fr2 (by have := D1.out.size; omega); have q0 := tb2.cell 0; have r0 := tb2.frozen 0; have q1 := tb2.cell 1; have r1 := tb2.frozen 1; have q2 := tb2.cell 2; have r2 := tb2.frozen 2; have q3 := tb2.cell 3; have r3 := tb2.frozen 3; have q4 := tb2.cell 4; have r4 := tb2.frozen 4; have q5 := tb2.cell 5; have r5 := tb2.frozen 5; simp only [List.getElem?_toArray, List.getElem?_cons_zero, List.getElem?_cons_succ] at q0 q1 q2 q3 q4 q5; have TB2 := Lib.hid tb2; clear tb2; clear wb2 fr2) | (clear wb2 fr2)))
    · go_wp2_with fail
      go_meet
      have h1 := E1.out.size
      have h2 := FR2.out.size
      rw [World.size_alloc] at h1
      exact Lib.hid (seen_1 (by omega) WB2.out ((fr_e1 E1.out).trans FR2.out))
    · go_wp2_with fail
      go_meet
      have h1 := E1.out.size
      rw [World.size_alloc] at h1
      exact Lib.hid (seen_2 (by omega) hlt WB2.out TB2.out (((fr_e1 E1.out).alloc _).trans FR2.out))
    all_goals
      go_wp2_with fail
      go_meet
      exact Lib.hid (seen_2 (by omega) hlt WB2.out TB2.out ((fr_e1 E1.out).trans FR2.out))
  case rest =>
    obtain ⟨gt, rfl, tb, hgt, wb, fr⟩ := hcut.out
    have rb : Box wc w.heap.size #[.int .u16 0, .int .u64 0, .int .u64 0, .int .u64 0] 41 := (Box.new w _ _).fr fr (by omega)
    have hzc : w.heap.size < wc.heap.size := by have := fr.size; rw [World.size_alloc] at this; omega
    have FR := Lib.hid fr
    have WB := Lib.hid wb
    have TB := Lib.hid tb
    have RB := Lib.hid rb
    have OWC := Lib.hid (show wc.ownsRow base 51 6 p lp.length (putCells lp) from own_frs (own_below OWN.out (new_ (Below.refl w.heap.size w) (.cells #[.int .u16 0, .int .u64 0, .int .u64 0, .int .u64 0] 41))) fr (fun x hx h => hpg (by rw [hx, h])))
    have n5 := (wc_of wb).c5
    have n0 := (wc_of wb).c0
    dsimp only at n5 n0
    have t0 := tb.cell 0
    simp only [List.getElem?_toArray, List.getElem?_cons_zero] at t0
    clear hcut rb wb tb fr c0 c1
    go_wp2
    go_region_with (go_at_call 54; (with_reducible refine (more_ok A n hA hn hs _).mono ?_); rintro e w3 ⟨rfl, hb3⟩; have HB3 := Lib.hid (show Below wc.heap.size wc w3 from (Below.drew (Below.refl _ _)).trans hb3); have z0 := (TB.out.later HB3.out).cell 0; have y0 := (TB.out.later HB3.out).frozen 0; simp only [List.getElem?_toArray, List.getElem?_cons_zero] at z0; clear hb3)
    all_goals
      obtain ⟨W4, hW4⟩ : ∃ W4, w3.setCell ⟨gt, 0, none⟩ (.int .u64 (A + n)) = W4 := ⟨_, rfl⟩
      have f4 : Fr (fun x => x = gt) w3 W4 := by rw [← hW4]; exact (Fr.refl (fun x => x = gt) w3).setCell (p := ⟨gt, 0, none⟩) (.inl rfl) _
      have tb4 : Box W4 gt #[.int .u64 (A + n), .int .u64 B, .int .u8 1, .int .u32 wh, .int .u32 0, .bool true] 69 := by rw [← hW4]; exact (TB.out.later HB3.out).set_ 0 _
      have wb4 := (WB.out.later HB3.out).fr f4 (by omega)
      have rb4 := (RB.out.later HB3.out).fr f4 (by omega)
      have ow4 := own_frs (own_below OWC.out HB3.out) f4 (fun x hx h => by have := (OWN.out.lt x hx).2; omega)
      have F4 := Lib.hid ((FR.out.trans (Fr.of_below HB3.out)).trans' f4 (S := fun x => x = g) (fun x hx h => by rw [World.size_alloc] at hx; omega))
      have hz4 : base ≤ W4.heap.size := by have := F4.out.size; rw [World.size_alloc] at this; omega
      have AM := Lib.hid (amount_any W4 g _ _ _ p base lp wb4 ow4 hg hlp hz4 1 wh 0 (A + n) (by decide))
      have k0 := tb4.cell 0
      have k2 := tb4.cell 2
      have k3 := tb4.cell 3
      have k4 := tb4.cell 4
      simp only [List.getElem?_toArray, List.getElem?_cons_zero, List.getElem?_cons_succ] at k0 k2 k3 k4
      have TB4 := Lib.hid tb4
      have RB4 := Lib.hid rb4
      have hpt : p.ownBlock ≠ some gt := fun e => by have := (OWN.out.lt _ e).2; omega
      have hpr : p.ownBlock ≠ some w.heap.size := fun e => by have := (OWN.out.lt _ e).2; omega
      rw [hW4]
      clear hW4 f4 tb4 wb4 rb4 ow4 z0 y0 t0 n0 n5
      go_wp2_with (go_at_call 52; (with_reducible refine AM.out.mono ?_); rintro e w5 ⟨rfl, p', wb5, ow5, fr5⟩; have tb5 := TB4.out.fr fr5 (fun h => h.elim (fun h => by omega) hpt); have rb5 := RB4.out.fr fr5 (fun h => h.elim (fun h => by omega) hpr); have k5 := tb5.cell 0; have s0 := rb5.cell 0; have s1 := rb5.cell 1; have s2 := rb5.cell 2; have s3 := rb5.cell 3; have g0 := rb5.frozen 0; have g1 := rb5.frozen 1; have g2 := rb5.frozen 2; have g3 := rb5.frozen 3; simp only [List.getElem?_toArray, List.getElem?_cons_zero, List.getElem?_cons_succ] at k5 s0 s1 s2 s3; have WB5 := Lib.hid wb5; have OW5 := Lib.hid ow5; have F5 := Lib.hid fr5; have RB5 := Lib.hid rb5; clear wb5 ow5 fr5 tb5 rb5 k0 k2 k3 k4)
      generalize hW : (World.setCell _ (⟨w.heap.size, 3, none⟩ : Addr) _) = W9
      have rb9 : Box W9 w.heap.size #[.int .u16 0, .int .u64 (A + n), .int .u64 0, .int .u64 0] 41 := by rw [← hW]; exact ((((RB5.out.set_ 0 _).set_ 1 _).set_ 2 _).set_ 3 _)
      have f9 : Fr (fun x => x = w.heap.size) w5 W9 := by rw [← hW]; exact (((((Fr.refl (fun x => x = w.heap.size) w5).setCell (p := ⟨w.heap.size, 0, none⟩) (.inl rfl) _).setCell (p := ⟨w.heap.size, 1, none⟩) (.inl rfl) _).setCell (p := ⟨w.heap.size, 2, none⟩) (.inl rfl) _).setCell (p := ⟨w.heap.size, 3, none⟩) (.inl rfl) _)
      have wb9 := WB5.out.fr f9 (by omega)
      have ow9 := own_frs OW5.out f9 (fun x hx h => own_not_box OW5.out RB5.out (by decide) (by rw [hx, h]))
      have v0 := rb9.cell 0
      have v1 := rb9.cell 1
      have v2 := rb9.cell 2
      have v3 := rb9.cell 3
      simp only [List.getElem?_toArray, List.getElem?_cons_zero, List.getElem?_cons_succ] at v0 v1 v2 v3
      clear hW s0 s1 s2 s3 g0 g1 g2 g3 k5
      refine bodyPost_ret (v := .agg #[.int .u16 0, .int .u64 (A + n), .int .u64 0, .int .u64 0]) (by simp [results, Try.results37, go_sem, v0, v1, v2, v3]; try rfl) rfl ?_
      refine ⟨rfl, p', wb9, ow9, ?_⟩
      exact ((((Fr.refl (fun x => x = g ∨ p.ownBlock = some x) w).alloc _).trans' F4.out (fun x hx h => .inl h)).trans F5.out).trans' f9 (fun x hx h => by exfalso; omega)
end Go.Proofs.Ytneaehimdmachaa.Rule
