import Derived.Test.YtneaehimdmachaaRule4
import Derived.Test.YtneaehimdmachaaTab
import Derived.Deep.RegionHeld3
import Derived.Deep.RegionLaw
import Derived.Deep.AppendLies
import Derived.Deep.DrawnRows
/- What must be there; what is put. -/
namespace Go.Proofs.Ytneaehimdmachaa.Rule
open Go.ChangeShapes Go.WideShapes Go.ChangeAt Go.RowKit Go.IntWalk Go.Proofs.Mem
set_option linter.unusedVariables false
attribute [local go_sem ↓] Go.wp_at_zero Go.wp_at_succ
theorem own_frs {A B : World} {S : Nat → Prop} {base n size : Nat} {e : TypeId} {v : Value} {us : List Value} (h : A.ownsRow base e size v n us) (hf : Fr S A B) (hn : ∀ g, v.ownBlock = some g → ¬ S g) : B.ownsRow base e size v n us := by
  refine ⟨h.1, ?_⟩
  rcases h.2 with h0 | ⟨g, cap, cur, rfl, hb, hg, rest⟩
  · exact .inl h0
  · exact .inr ⟨g, cap, cur, rfl, hb, (hf.block g (Array.getElem?_eq_some_iff.1 hg).1 (hn g rfl)).trans hg, rest⟩
theorem own_not_box {W : World} {base n size g : Nat} {e t : TypeId} {v : Value} {us : List Value} {C : Array Value} (h : W.ownsRow base e size v n us) (hb : Box W g C t) (ht : t ≠ e) : v.ownBlock ≠ some g := fun e1 => by
  rcases h.2 with ⟨rfl, _⟩ | ⟨g', cap, cur, rfl, _, hg, _⟩
  · cases e1
  · injection e1 with e1
    simp only at e1
    unfold Box at hb
    rw [e1, hb] at hg
    injection hg with hg
    injection hg with _ h2 _
    exact ht h2
/-- a cell that was seen -/
structure CellAt (w : World) (b0 o : Nat) (k a b A B : Int) (is : Bool) : Prop where
  h0 : w.cell? ⟨b0, o, none⟩ = some (.int .u8 k)
  h1 : w.cell? ⟨b0, o + 1, none⟩ = some (.int .u32 a)
  h2 : w.cell? ⟨b0, o + 2, none⟩ = some (.int .u32 b)
  h3 : w.cell? ⟨b0, o + 3, none⟩ = some (.int .u64 A)
  h4 : w.cell? ⟨b0, o + 4, none⟩ = some (.int .u64 B)
  h5 : w.cell? ⟨b0, o + 5, none⟩ = some (.bool is)
theorem CellAt.below {w w' : World} {b0 o Bn : Nat} {k a b A B : Int} {is : Bool} (h : CellAt w b0 o k a b A B is) (hb : Below Bn w w') (hlt : b0 < Bn) : CellAt w' b0 o k a b A B is := by
  have e : ∀ x, w'.cell? ⟨b0, x, none⟩ = w.cell? ⟨b0, x, none⟩ := fun x => hb.cell (p := ⟨b0, x, none⟩) hlt
  exact ⟨(e _).trans h.h0, (e _).trans h.h1, (e _).trans h.h2, (e _).trans h.h3, (e _).trans h.h4, (e _).trans h.h5⟩
set_option maxHeartbeats 4000000 in
theorem there_miss (w : World) (g : Nat) (q : Ot) (A : Option Addr) (l c : Nat) (i : Nat) (p : Value) (hb : WorkAt w g q (.slice A l c) i p) (hi : l ≤ i) (hm : i ≤ 1000000) (k a b : Int) :
    Calls Try.prog 53 #[.pointer (some ⟨g, 7, none⟩), .agg #[.int .u8 k, .int .u32 a, .int .u32 b]] w fun e w' => e = .panicked (raiseK k a b) ∧ Below w.heap.size w w' := by
  have HB := Lib.hid ((hb.alloc (.cells #[.int .u8 k, .int .u32 a, .int .u32 b] 24)).alloc (.cells #[.int .u64 0, .int .u64 0, .int .u8 0, .int .u32 0, .int .u32 0, .bool false] 69))
  clear hb
  go_enter Try.func53, Try.ntmps53
  go_wp2_with (go_at_call 51; (with_reducible refine (look_miss _ _ _ _ _ _ _ _ HB.out hi hm _ _ _).mono ?_); rintro e w1 ⟨rfl, hb1⟩)
  exact ⟨rfl, rfl, (new_ (new_ (Below.refl _ _) _) _).trans (hb1.mono (by simp; omega))⟩
set_option maxHeartbeats 4000000 in
theorem there_hit (w : World) (g : Nat) (q : Ot) (b0 o0 : Nat) (l c : Nat) (i : Nat) (p : Value) (hb : WorkAt w g q (.slice (some ⟨b0, o0, none⟩) l c) i p) (hi : i < l) (hl : l ≤ c) (hm : c ≤ 9223372036854775807) (k a b : Int)
    (k' a' b' A B : Int) (hbg : b0 ≠ g) (hc : CellAt w b0 (o0 + i * 6) k' a' b' A B true) :
    Calls Try.prog 53 #[.pointer (some ⟨g, 7, none⟩), .agg #[.int .u8 k, .int .u32 a, .int .u32 b]] w fun e w' => e = .returned (.agg (thing A B k a b true)) ∧ WorkAt w' g q (.slice (some ⟨b0, o0, none⟩) l c) (i + 1 : Nat) p ∧ Fr (fun x => x = g) w w' := by
  have hlt := hb.lt
  have hb2 := (hb.alloc (.cells #[.int .u8 k, .int .u32 a, .int .u32 b] 24)).alloc (.cells #[.int .u64 0, .int .u64 0, .int .u8 0, .int .u32 0, .int .u32 0, .bool false] 69)
  have hc2 := hc.below (new_ (new_ (Below.refl w.heap.size w) (.cells #[.int .u8 k, .int .u32 a, .int .u32 b] 24)) (.cells #[.int .u64 0, .int .u64 0, .int .u8 0, .int .u32 0, .int .u32 0, .bool false] 69)) (Law.lt_of_cell hc.h0)
  have call := look_hit _ g q b0 o0 l c i p hb2 hi hl hm k a b k' a' b' A B true hbg hc2.h0 hc2.h1 hc2.h2 hc2.h3 hc2.h4 hc2.h5
  simp only [if_true] at call
  unfold thing at call
  have CALL := Lib.hid call
  have tb := Box.new (w.alloc (.cells #[.int .u8 k, .int .u32 a, .int .u32 b] 24)) #[.int .u64 0, .int .u64 0, .int .u8 0, .int .u32 0, .int .u32 0, .bool false] 69
  rw [World.size_alloc] at tb
  have TB := Lib.hid tb
  clear hb hb2 hc hc2 call tb
  go_enter Try.func53, Try.ntmps53
  go_wp2_with (first
    | (go_at_call 51; (with_reducible refine CALL.out.mono ?_); rintro e w1 ⟨rfl, wb1, fr1⟩
       have tb1 := TB.out.fr fr1 (by omega)
       have zz1 : w.heap.size + 2 ≤ w1.heap.size := (by have := fr1.size; simp at this; omega)
       have tb2 := tb1.alloc (.cells #[.int .u64 A, .int .u64 B, .int .u8 k, .int .u32 a, .int .u32 b, .bool true] 69)
       have q0 := tb2.cell 0
       have q1 := tb2.cell 1
       have q2 := tb2.cell 2
       have q3 := tb2.cell 3
       have q4 := tb2.cell 4
       have q5 := tb2.cell 5
       have r0 := tb2.frozen 0
       have r1 := tb2.frozen 1
       have r2 := tb2.frozen 2
       have r3 := tb2.frozen 3
       have r4 := tb2.frozen 4
       have r5 := tb2.frozen 5
       simp only [List.getElem?_toArray, List.getElem?_cons_zero, List.getElem?_cons_succ] at q0 q1 q2 q3 q4 q5
       have WB1 := Lib.hid wb1
       have FR1 := Lib.hid fr1
       have TB2 := Lib.hid tb2
       clear wb1 fr1 tb1 tb2)
    | (go_at_call 34; (with_reducible refine (deny_no 211 _).mono ?_); rintro e w2 ⟨rfl, rfl⟩))
  obtain ⟨W3, hW3⟩ : ∃ W3, w1.alloc (.cells #[.int .u64 A, .int .u64 B, .int .u8 k, .int .u32 a, .int .u32 b, .bool true] 69) = W3 := ⟨_, rfl⟩
  have tb3 : Box W3 (w.heap.size + 1) #[.int .u64 0, .int .u64 0, .int .u8 0, .int .u32 0, .int .u32 0, .bool false] 69 := by rw [← hW3]; exact TB2.out
  have wb3 : WorkAt W3 g q (.slice (some ⟨b0, o0, none⟩) l c) (i + 1 : Nat) p := by rw [← hW3]; exact WB1.out.alloc _
  have fr3 : Fr (fun x => x = g) w W3 := by
    rw [← hW3]; exact (((Fr.of_below (new_ (new_ (Below.refl w.heap.size w) _) _)).trans FR1.out).alloc _)
  rw [hW3]
  generalize hW : (World.setCell _ (⟨w.heap.size + 1, 5, none⟩ : Addr) _) = W9
  have hf : Fr (fun x => x = w.heap.size + 1) W3 W9 := by
    rw [← hW]
    exact (((((((Fr.refl (fun x => x = w.heap.size + 1) W3).setCell (p := ⟨w.heap.size + 1, 0, none⟩) (.inl rfl) _).setCell (p := ⟨w.heap.size + 1, 1, none⟩) (.inl rfl) _).setCell (p := ⟨w.heap.size + 1, 2, none⟩) (.inl rfl) _).setCell (p := ⟨w.heap.size + 1, 3, none⟩) (.inl rfl) _).setCell (p := ⟨w.heap.size + 1, 4, none⟩) (.inl rfl) _).setCell (p := ⟨w.heap.size + 1, 5, none⟩) (.inl rfl) _)
  have wb9 : WorkAt W9 g q (.slice (some ⟨b0, o0, none⟩) l c) (i + 1 : Nat) p := wb3.fr hf (by omega)
  have tb9 : Box W9 (w.heap.size + 1) #[.int .u64 A, .int .u64 B, .int .u8 k, .int .u32 a, .int .u32 b, .bool true] 69 := by
    rw [← hW]
    exact ((((((tb3.set_ 0 _).set_ 1 _).set_ 2 _).set_ 3 _).set_ 4 _).set_ 5 _)
  have v0 := tb9.cell 0
  have v1 := tb9.cell 1
  have v2 := tb9.cell 2
  have v3 := tb9.cell 3
  have v4 := tb9.cell 4
  have v5 := tb9.cell 5
  simp only [List.getElem?_toArray, List.getElem?_cons_zero, List.getElem?_cons_succ] at v0 v1 v2 v3 v4 v5
  clear hW hW3 q0 q1 q2 q3 q4 q5 r0 r1 r2 r3 r4 r5
  refine bodyPost_ret (v := .agg #[.int .u64 A, .int .u64 B, .int .u8 k, .int .u32 a, .int .u32 b, .bool true]) (by simp [results, Try.results53, go_sem, v0, v1, v2, v3, v4, v5]; try rfl) rfl ?_
  exact ⟨rfl, wb9, fr3.trans' hf (fun x hx h => by exfalso; omega)⟩
/-- what is put: a key with a value, or gone -/
structure Pu where
  k : Int
  a : Int
  b : Int
  A : Int
  B : Int
  gone : Bool
def Pu.cells (x : Pu) : List Value := [.int .u8 x.k, .int .u32 x.a, .int .u32 x.b, .int .u64 x.A, .int .u64 x.B, .bool x.gone]
def putCells (l : List Pu) : List Value := l.flatMap Pu.cells
theorem put_info : (Try.prog.info? 51).map (fun i => (i.zero, i.size, i.bytes)) = some (some (.agg #[.int .u8 0, .int .u32 0, .int .u32 0, .int .u64 0, .int .u64 0, .bool false]), 6, 40) := by kernel_rfl
set_option maxRecDepth 100000 in
set_option maxHeartbeats 4000000 in
theorem put_any (w : World) (g : Nat) (q : Ot) (v : Value) (i : Int) (p : Value) (base : Nat) (l : List Pu) (hb : WorkAt w g q v i p) (hown : w.ownsRow base 51 6 p l.length (putCells l)) (hg : g < base) (hl : l.length ≤ 1000) (hbase : base ≤ w.heap.size) (k a b A B : Int) :
    Calls Try.prog 61 #[.pointer (some ⟨g, 0, none⟩), .agg #[.int .u8 k, .int .u32 a, .int .u32 b], .agg #[.int .u64 A, .int .u64 B]] w fun e w' => e = .returned (.tuple #[]) ∧
      ∃ p', WorkAt w' g q v i p' ∧ w'.ownsRow base 51 6 p' (l ++ [Pu.mk k a b A B false]).length (putCells (l ++ [Pu.mk k a b A B false])) ∧ Fr (fun x => x = g ∨ p.ownBlock = some x) w w' := by
  obtain ⟨i0, hi0, hz0, hz1, hz2⟩ := info_parts put_info
  have hlt := hb.lt
  have hne1 : p.ownBlock ≠ some w.heap.size := fun e => by have := (hown.lt _ e).2; omega
  have hne2 : p.ownBlock ≠ some (w.heap.size + 1) := fun e => by have := (hown.lt _ e).2; omega
  have hne : p.ownBlock ≠ some g := fun e => by have := (hown.lt g e).1; omega
  obtain ⟨W0, hW0⟩ : ∃ W0, (w.alloc (.cells #[.int .u8 k, .int .u32 a, .int .u32 b] 24)).alloc (.cells #[.int .u64 A, .int .u64 B] 47) = W0 := ⟨_, rfl⟩
  have b0 : Below w.heap.size w W0 := by rw [← hW0]; exact new_ (new_ (Below.refl _ _) _) _
  have z0 : w.heap.size + 2 ≤ W0.heap.size := by rw [← hW0]; simp
  have kb : Box W0 w.heap.size #[.int .u8 k, .int .u32 a, .int .u32 b] 24 := by rw [← hW0]; exact (Box.new _ _ _).alloc _
  have vb : Box W0 (w.heap.size + 1) #[.int .u64 A, .int .u64 B] 47 := by
    rw [← hW0]
    have := Box.new (w.alloc (.cells #[.int .u8 k, .int .u32 a, .int .u32 b] 24)) #[.int .u64 A, .int .u64 B] 47
    rwa [World.size_alloc] at this
  have wb := hb.below b0 hlt
  have OWN := Lib.hid (own_below hown b0)
  have WB := Lib.hid wb
  have B0 := Lib.hid b0
  have c9 := (wc_of wb).c9
  have f9 := wb.frozen 9
  have k0 := kb.cell 0
  have k1 := kb.cell 1
  have k2 := kb.cell 2
  have v0 := vb.cell 0
  have v1 := vb.cell 1
  simp only [List.getElem?_toArray, List.getElem?_cons_zero, List.getElem?_cons_succ] at k0 k1 k2 v0 v1
  clear hb hown wb b0 kb vb
  go_enter Try.func61, Try.ntmps61
  go_wp2
  try rw [hW0]
  clear hW0
  have cz : (W0.alloc (.cells #[.int .u8 k, .int .u32 a, .int .u32 b, .int .u64 A, .int .u64 B, .bool false] 51)).cell? ⟨g, 9, none⟩ = some p := (WB.out.alloc _).cell 9
  have fz : (W0.alloc (.cells #[.int .u8 k, .int .u32 a, .int .u32 b, .int .u64 A, .int .u64 B, .bool false] 51)).frozen? ⟨g, 9, none⟩ = false := (WB.out.alloc _).frozen 9
  go_region_law ((refine step_append_lies _ (by rfl) _ _ _ (by rfl) base 51 i0 _ 6 40 Try.underlying37 hi0 hz0 hz1 hz2 rfl (by omega) p l.length _ (by rfl) ((OWN.out.alloc _).drew) ⟨W0.heap.size, 0, none⟩ 1 1 [.int .u8 k, .int .u32 a, .int .u32 b, .int .u64 A, .int .u64 B, .bool false] (by rfl) (by rfl) (World.news_of_block (cs := #[.int .u8 k, .int .u32 a, .int .u32 b, .int .u64 A, .int .u64 B, .bool false]) (t := 51) (fr := (0, 0)) (heap_alloc_new W0 _)) (by simp [Value.oneCell']) (by omega) (by unfold maxLen; omega) (by omega) (by simp; omega) (W0.heap.size + 1) (by simp) ?_; intro gg cap w1 hown1 hgrow hat hlt1; have n9 : w1.cell? ⟨g, 9, none⟩ = some p := (hgrow.cell_far ⟨g, 9, none⟩ (by simp; omega) (Ne.symm hne)).trans cz; have m9 : w1.frozen? ⟨g, 9, none⟩ = false := (hgrow.frozen_far ⟨g, 9, none⟩ (by simp; omega) (Ne.symm hne)).trans fz))
  all_goals
    go_wp2
    have hgb := (hown1.lt gg rfl).1
    have e2 : putCells (l ++ [Pu.mk k a b A B false]) = putCells l ++ [.int .u8 k, .int .u32 a, .int .u32 b, .int .u64 A, .int .u64 B, .bool false] := by simp [putCells, Pu.cells]
    go_end0
    refine ⟨rfl, .slice (some ⟨gg, 0, none⟩) (l.length + 1) cap, ?_, ?_, ?_⟩
    · exact ((((WB.out.alloc _).drew).grown hgrow hne).set_ 9 _)
    · rw [e2, List.length_append]
      exact hown1.kept (grownBy_set w1 ⟨g, 9, none⟩ _) (.inr (by simp [Value.ownBlock]; omega))
    · exact (((((Fr.of_below B0.out).alloc _).drew).grown hgrow (fun g' e => .inl (.inr e))).setCell (p := ⟨g, 9, none⟩) (.inl (.inl rfl)) _)
end Go.Proofs.Ytneaehimdmachaa.Rule
