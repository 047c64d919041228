import Derived.Test.YtneaehimdmachaaRule9
import Derived.Deep.RegionHeld3
/- The chapter's example. -/
namespace Go.Proofs.Ytneaehimdmachaa.Rule
open Go.ChangeShapes Go.WideShapes Go.ChangeAt Go.RowKit Go.IntWalk Go.Proofs.Mem
set_option linter.unusedVariables false
attribute [local go_sem ↓] Go.wp_at_zero Go.wp_at_succ
theorem cell_of_box {W : World} {g : Nat} (h : Box W g #[.int .u8 0, .int .u32 0, .int .u32 0, .int .u64 5, .int .u64 0, .bool true] 49) : CellAt W g 0 0 0 0 5 0 true := ⟨h.cell 0, h.cell 1, h.cell 2, h.cell 3, h.cell 4, h.cell 5⟩
theorem own_6 {W : World} {base n g c : Nat} {e : TypeId} {us : List Value} (h : W.ownsRow base e 6 (.slice (some ⟨g, 0, none⟩) n c) n us) (i : Nat) (u : Value) (hu : us[i]? = some u) : W.cell? ⟨g, i, none⟩ = some u := by
  have := h.cells (g := g) rfl i u hu
  rw [show (⟨g, 0, none⟩ : Addr).add i = ⟨g, 0 + i, none⟩ from by rw [Go.WideShapes.add_plain], Nat.zero_add] at this
  exact this
def PutsOne (v : Value) (W : World) : Prop := ∃ base, W.ownsRow base 51 6 v 1 [.int .u8 1, .int .u32 1, .int .u32 0, .int .u64 8, .int .u64 0, .bool false]
theorem run_known (w : World) (g : Nat) (hg : Box w g #[.int .u8 0, .int .u32 0, .int .u32 0, .int .u64 5, .int .u64 0, .bool true] 49) : RunEx #[.int .u8 2, .int .u32 1, .int .u32 0, .int .u32 0, .int .u32 0, .int .u64 3, .int .u64 0] (.slice (some ⟨g, 0, none⟩) 1 1) w 0 8 0 0 0 0 0 false PutsOne := by
  have h := run_mint_hit w 1 0 0 0 3 0 (by decide) (by decide) g 0 1 1 (by decide) (by decide) (by decide) 0 0 0 5 0 (cell_of_box hg) (by decide) (by decide) (by decide)
  rw [show (5 : Int) + 3 = 8 from rfl] at h
  exact h.mono fun e W ⟨A, l, cc, h1, h2, h3⟩ => ⟨A, l, cc, h1, ⟨_, h2⟩, h3⟩
set_option maxRecDepth 100000 in
set_option maxHeartbeats 4000000 in
theorem known_any (w : World) : Calls Try.prog 23 #[] w fun e w' => e = .returned (.bool true) ∧ Below w.heap.size w w' := by
  have NX := Lib.hid (fun W => next_any W 2 1 0 0 0 3 0 (.slice none 0 0) none 0 0 0 0 0 0 1 1 0 true (fun W => run_mint_miss W 1 0 0 0 3 0 (by decide) (by decide)))
  have DD := Lib.hid (fun (W : World) (g : Nat) (hg : Box W g #[.int .u8 0, .int .u32 0, .int .u32 0, .int .u64 5, .int .u64 0, .bool true] 49) => do_done W 2 1 0 0 0 3 0 (.slice (some ⟨g, 0, none⟩) 1 1) 0 8 0 0 0 0 0 PutsOne (fun W' h => run_known W' g (hg.later h)))
  have OB := Lib.hid (Box.new w #[.int .u8 2, .int .u32 1, .int .u32 0, .int .u32 0, .int .u32 0, .int .u64 3, .int .u64 0] 32)
  go_enter Try.func23, Try.ntmps23
  go_wp2_with (first
    | (go_at_call 29; (with_reducible refine (NX.out _).mono ?_); rintro e w1 ⟨rfl, hb1⟩; have ob1 := (OB.out.later hb1).alloc (.cells #[.int .u8 1, .int .u32 1, .int .u32 0] 24); have o0 := ob1.cell 0; have o1 := ob1.cell 1; have o2 := ob1.cell 2; have o3 := ob1.cell 3; have o4 := ob1.cell 4; have o5 := ob1.cell 5; have o6 := ob1.cell 6; simp only [List.getElem?_toArray, List.getElem?_cons_zero, List.getElem?_cons_succ] at o0 o1 o2 o3 o4 o5 o6; have HB1 := Lib.hid hb1; have KB1 := Lib.hid ((Box.new w1 #[.int .u8 1, .int .u32 1, .int .u32 0] 24).alloc (.cells #[.int .u8 0, .int .u32 0, .int .u32 0, .int .u64 5, .int .u64 0, .bool true] 49)); have DO := Lib.hid (DD.out _ _ (show Box ((w1.alloc (.cells #[.int .u8 1, .int .u32 1, .int .u32 0] 24)).alloc (.cells #[.int .u8 0, .int .u32 0, .int .u32 0, .int .u64 5, .int .u64 0, .bool true] 49)) (w1.heap.size + 1) #[.int .u8 0, .int .u32 0, .int .u32 0, .int .u64 5, .int .u64 0, .bool true] 49 by (have h := Box.new (w1.alloc (.cells #[.int .u8 1, .int .u32 1, .int .u32 0] 24)) #[.int .u8 0, .int .u32 0, .int .u32 0, .int .u64 5, .int .u64 0, .bool true] 49); rwa [World.size_alloc] at h)); clear hb1 ob1)
    | (go_at_call 27; (with_reducible refine DO.out.mono ?_); rintro e w2 ⟨A2, l2, c2, rfl, hb2, w1', hP, hx, hf⟩; clear o0 o1 o2 o3 o4 o5 o6))
  obtain ⟨base, ow1⟩ := hP
  obtain ⟨gp, cp, e⟩ := own_one ow1
  injection e with e1 e2 e3
  subst e1 e2
  clear e3
  have ow2 := own_frs ow1 hf (fun x hx' h => own_not_box ow1 hx (by decide) (by rw [hx', h]))
  have HB2 := Lib.hid hb2
  obtain ⟨W3, hW3⟩ : ∃ W3, w2.alloc (.cells #[.int .u16 0, .int .u64 8, .int .u64 0, .int .u64 0] 41) = W3 := ⟨_, rfl⟩
  have kb3 : Box W3 w1.heap.size #[.int .u8 1, .int .u32 1, .int .u32 0] 24 := by rw [← hW3]; exact (KB1.out.later hb2).alloc _
  have rb3 : Box W3 w2.heap.size #[.int .u16 0, .int .u64 8, .int .u64 0, .int .u64 0] 41 := by rw [← hW3]; exact Box.new _ _ _
  have ow3 := own_below ow2 (show Below w2.heap.size w2 W3 by rw [← hW3]; exact new_ (Below.refl _ _) _)
  have B3 := Lib.hid (show Below w.heap.size w W3 by rw [← hW3]; exact new_ ((new_ (new_ ((new_ (Below.refl w.heap.size w) _).trans (HB1.out.mono (by simp))) _) _).trans (hb2.mono (by have := HB1.out.size; simp at *; omega))) _)
  have SK := Lib.hid (fun (w' : World) (h : Below W3.heap.size W3 w') => show (w'.cell? ⟨w1.heap.size, 0, none⟩ = some (.int .u8 1) ∧ w'.cell? ⟨w1.heap.size, 1, none⟩ = some (.int .u32 1) ∧ w'.cell? ⟨w1.heap.size, 2, none⟩ = some (.int .u32 0) ∧ w'.cell? ⟨gp, 0, none⟩ = some (.int .u8 1) ∧ w'.cell? ⟨gp, 1, none⟩ = some (.int .u32 1) ∧ w'.cell? ⟨gp, 2, none⟩ = some (.int .u32 0) ∧ w'.cell? ⟨gp, 3, none⟩ = some (.int .u64 8) ∧ w'.cell? ⟨gp, 4, none⟩ = some (.int .u64 0) ∧ w'.cell? ⟨gp, 5, none⟩ = some (.bool false) ∧ w'.cell? ⟨w2.heap.size, 0, none⟩ = some (.int .u16 0) ∧ w'.cell? ⟨w2.heap.size, 1, none⟩ = some (.int .u64 8) ∧ w'.cell? ⟨w2.heap.size, 2, none⟩ = some (.int .u64 0) ∧ w'.cell? ⟨w2.heap.size, 3, none⟩ = some (.int .u64 0)) ∧ Below W3.heap.size W3 w' from ⟨⟨(kb3.later h).cell 0, (kb3.later h).cell 1, (kb3.later h).cell 2, own_6 (own_below ow3 h) 0 _ rfl, own_6 (own_below ow3 h) 1 _ rfl, own_6 (own_below ow3 h) 2 _ rfl, own_6 (own_below ow3 h) 3 _ rfl, own_6 (own_below ow3 h) 4 _ rfl, own_6 (own_below ow3 h) 5 _ rfl, (rb3.later h).cell 0, (rb3.later h).cell 1, (rb3.later h).cell 2, (rb3.later h).cell 3⟩, h⟩)
  rw [hW3]
  clear hW3 kb3 rb3 ow3 ow2 ow1 hf hx hb2
  go_region_held3 (fun w' => (w'.cell? ⟨w1.heap.size, 0, none⟩ = some (.int .u8 1) ∧ w'.cell? ⟨w1.heap.size, 1, none⟩ = some (.int .u32 1) ∧ w'.cell? ⟨w1.heap.size, 2, none⟩ = some (.int .u32 0) ∧ w'.cell? ⟨gp, 0, none⟩ = some (.int .u8 1) ∧ w'.cell? ⟨gp, 1, none⟩ = some (.int .u32 1) ∧ w'.cell? ⟨gp, 2, none⟩ = some (.int .u32 0) ∧ w'.cell? ⟨gp, 3, none⟩ = some (.int .u64 8) ∧ w'.cell? ⟨gp, 4, none⟩ = some (.int .u64 0) ∧ w'.cell? ⟨gp, 5, none⟩ = some (.bool false) ∧ w'.cell? ⟨w2.heap.size, 0, none⟩ = some (.int .u16 0) ∧ w'.cell? ⟨w2.heap.size, 1, none⟩ = some (.int .u64 8) ∧ w'.cell? ⟨w2.heap.size, 2, none⟩ = some (.int .u64 0) ∧ w'.cell? ⟨w2.heap.size, 3, none⟩ = some (.int .u64 0)) ∧ Below W3.heap.size W3 w')
    (first | exact SK.out _ (Below.drew (Below.refl _ _)) | (go_split_ands; exact SK.out _ (Below.drew (by assumption))) | (go_split_ands; exact SK.out _ (step_ (by assumption) hbc)))
    ((go_at_call 7; (with_reducible refine (purse_any 1 _).mono ?_); rintro e w' ⟨rfl, hbc⟩))
  rename_i hH
  have hb4 := hH.2
  clear hH
  go_wp2
  go_ret
  exact ⟨rfl, B3.out.trans (hb4.mono B3.out.size)⟩
end Go.Proofs.Ytneaehimdmachaa.Rule
