import Derived.Test.YtbbphfhkedldmaaRecR
/- Decode's deferred closure, when a reader has given up. -/
namespace Go.Proofs.Ytbbphfhkedldmaa.Rec
open Go.ChangeShapes Go.WideShapes Go.ChangeAt Go.RowKit Go.IntWalk Go.Proofs.NumMath Go.Proofs.Mem Go.Proofs.CrcMath NumBytes CrcA
set_option linter.unusedVariables false
set_option linter.unusedSimpArgs false
theorem arr12 {C : Array Value} (h : C.size = 12) : ∃ a b c d e f g i j k m n, C = #[a, b, c, d, e, f, g, i, j, k, m, n] := by
  obtain ⟨l⟩ := C
  match l, h with
  | [a, b, c, d, e, f, g, i, j, k, m, n], _ => exact ⟨a, b, c, d, e, f, g, i, j, k, m, n, rfl⟩
theorem out_size {w : World} {g : Nat} {t : TypeId} {a0 a1 a2 a3 a4 a5 a6 a7 a8 a9 a10 a11 : Value} (h : Box w g #[a0, a1, a2, a3, a4, a5, a6, a7, a8, a9, a10, a11] t) : ∃ C, Box w g C t ∧ C.size = 12 := ⟨_, h, rfl⟩
set_option maxRecDepth 100000 in
set_option maxHeartbeats 8000000 in
theorem catch_panic (r k : Nat) (hrk : r ≠ k) (C : Array Value) (w : World) (hC : C.size = 12) (hb : Box w r C 31) (b : Bool) (hk : Box w k #[.bool b] 4) :
    CallsD Try.prog 45 #[.pointer (some ⟨r, 0, none⟩), .pointer (some ⟨k, 0, none⟩)] (.panicking raise_) w fun en u' w' =>
      en = .returned (.tuple #[]) ∧ u' = .panicking [{ v := .iface 35 (.int .u16 61), recovered := true }] ∧ Box w' r (bareC 0 0 0 0) 31 ∧ Box w' k #[.bool false] 4 ∧ Fr (fun x => x = r ∨ x = k) w w' := by
  unfold raise_
  obtain ⟨a0, a1, a2, a3, a4, a5, a6, a7, a8, a9, a10, a11, rfl⟩ := arr12 hC
  refine callsD_of_wpS Try.func45 rfl fun c₀ cs hu => ?_
  simp only [Try.ntmps45, List.size_toArray, List.length_cons, List.length_nil, Nat.reduceAdd, Nat.reduceSub, Array.replicate_succ, Array.replicate_zero, List.push_toArray, List.append_toArray, List.nil_append, List.cons_append]
  apply wpS_seq
  apply wpS_region
  simp [wpOpsS, go_sem, recoverD, hu, Exit.thenS]
  have HB := Lib.hid hb
  have HK := Lib.hid hk
  have HN := Lib.hid hrk
  have k0 : w.cell? ⟨r, 0, none⟩ = some a0 := hb.cell 0
  have f0 := hb.frozen 0
  have k1 : w.cell? ⟨r, 1, none⟩ = some a1 := hb.cell 1
  have f1 := hb.frozen 1
  have k2 : w.cell? ⟨r, 2, none⟩ = some a2 := hb.cell 2
  have f2 := hb.frozen 2
  have k3 : w.cell? ⟨r, 3, none⟩ = some a3 := hb.cell 3
  have f3 := hb.frozen 3
  have k4 : w.cell? ⟨r, 4, none⟩ = some a4 := hb.cell 4
  have f4 := hb.frozen 4
  have k5 : w.cell? ⟨r, 5, none⟩ = some a5 := hb.cell 5
  have f5 := hb.frozen 5
  have k6 : w.cell? ⟨r, 6, none⟩ = some a6 := hb.cell 6
  have f6 := hb.frozen 6
  have k7 : w.cell? ⟨r, 7, none⟩ = some a7 := hb.cell 7
  have f7 := hb.frozen 7
  have k8 : w.cell? ⟨r, 8, none⟩ = some a8 := hb.cell 8
  have f8 := hb.frozen 8
  have k9 : w.cell? ⟨r, 9, none⟩ = some a9 := hb.cell 9
  have f9 := hb.frozen 9
  have k10 : w.cell? ⟨r, 10, none⟩ = some a10 := hb.cell 10
  have f10 := hb.frozen 10
  have k11 : w.cell? ⟨r, 11, none⟩ = some a11 := hb.cell 11
  have f11 := hb.frozen 11
  have kk : w.cell? ⟨k, 0, none⟩ = some (.bool b) := hk.cell 0
  have fk := hk.frozen 0
  have hkr : k ≠ r := fun e => hrk e.symm
  clear hb hk
  refine wpS_of_wp ?_
  go_wp2

  have b9 := Box.far (p := ⟨k, 0, none⟩) (((((((((((((HB.out).set_ 0 (.int .u8 0)).set_ 1 (.int .u32 0)).set_ 2 (.int .u64 0)).set_ 3 (.int .u64 0)).set_ 4 (.int .u32 0)).set_ 5 (.int .u16 0)).set_ 6 (.bool false)).set_ 7 (.bool false)).set_ 8 (.slice none 0 0)).set_ 9 (.slice none 0 0)).set_ 10 (.slice none 0 0)).set_ 11 (.slice none 0 0)) HN.out (.bool false)
  simp only [List.setIfInBounds_toArray, List.set_cons_zero, List.set_cons_succ] at b9
  have k9 := Box.set_ (Box.far (p := ⟨r, 11, none⟩) (Box.far (p := ⟨r, 10, none⟩) (Box.far (p := ⟨r, 9, none⟩) (Box.far (p := ⟨r, 8, none⟩) (Box.far (p := ⟨r, 7, none⟩) (Box.far (p := ⟨r, 6, none⟩) (Box.far (p := ⟨r, 5, none⟩) (Box.far (p := ⟨r, 4, none⟩) (Box.far (p := ⟨r, 3, none⟩) (Box.far (p := ⟨r, 2, none⟩) (Box.far (p := ⟨r, 1, none⟩) (Box.far (p := ⟨r, 0, none⟩) (HK.out) hkr (.int .u8 0)) hkr (.int .u32 0)) hkr (.int .u64 0)) hkr (.int .u64 0)) hkr (.int .u32 0)) hkr (.int .u16 0)) hkr (.bool false)) hkr (.bool false)) hkr (.slice none 0 0)) hkr (.slice none 0 0)) hkr (.slice none 0 0)) hkr (.slice none 0 0)) 0 (.bool false)
  simp only [List.setIfInBounds_toArray, List.set_cons_zero, List.set_cons_succ] at k9
  have f9 := Fr.setCell (Fr.setCell (Fr.setCell (Fr.setCell (Fr.setCell (Fr.setCell (Fr.setCell (Fr.setCell (Fr.setCell (Fr.setCell (Fr.setCell (Fr.setCell (Fr.setCell (Fr.refl (fun x => x = r ∨ x = k) w) (p := ⟨r, 0, none⟩) (.inl (.inl rfl)) (.int .u8 0)) (p := ⟨r, 1, none⟩) (.inl (.inl rfl)) (.int .u32 0)) (p := ⟨r, 2, none⟩) (.inl (.inl rfl)) (.int .u64 0)) (p := ⟨r, 3, none⟩) (.inl (.inl rfl)) (.int .u64 0)) (p := ⟨r, 4, none⟩) (.inl (.inl rfl)) (.int .u32 0)) (p := ⟨r, 5, none⟩) (.inl (.inl rfl)) (.int .u16 0)) (p := ⟨r, 6, none⟩) (.inl (.inl rfl)) (.bool false)) (p := ⟨r, 7, none⟩) (.inl (.inl rfl)) (.bool false)) (p := ⟨r, 8, none⟩) (.inl (.inl rfl)) (.slice none 0 0)) (p := ⟨r, 9, none⟩) (.inl (.inl rfl)) (.slice none 0 0)) (p := ⟨r, 10, none⟩) (.inl (.inl rfl)) (.slice none 0 0)) (p := ⟨r, 11, none⟩) (.inl (.inl rfl)) (.slice none 0 0)) (p := ⟨k, 0, none⟩) (.inl (.inr rfl)) (.bool false)
  generalize World.setCell (World.setCell (World.setCell (World.setCell (World.setCell (World.setCell (World.setCell (World.setCell (World.setCell (World.setCell (World.setCell (World.setCell (World.setCell (w) (⟨r, 0, none⟩ : Addr) (.int .u8 0)) (⟨r, 1, none⟩ : Addr) (.int .u32 0)) (⟨r, 2, none⟩ : Addr) (.int .u64 0)) (⟨r, 3, none⟩ : Addr) (.int .u64 0)) (⟨r, 4, none⟩ : Addr) (.int .u32 0)) (⟨r, 5, none⟩ : Addr) (.int .u16 0)) (⟨r, 6, none⟩ : Addr) (.bool false)) (⟨r, 7, none⟩ : Addr) (.bool false)) (⟨r, 8, none⟩ : Addr) (.slice none 0 0)) (⟨r, 9, none⟩ : Addr) (.slice none 0 0)) (⟨r, 10, none⟩ : Addr) (.slice none 0 0)) (⟨r, 11, none⟩ : Addr) (.slice none 0 0)) (⟨k, 0, none⟩ : Addr) (.bool false) = W9 at *
  simp [bodyPostS, results, Try.results45, b9, k9, f9, bareC]
end Go.Proofs.Ytbbphfhkedldmaa.Rec
