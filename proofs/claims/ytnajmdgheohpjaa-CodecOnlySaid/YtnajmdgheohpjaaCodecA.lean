import Derived.Test.YtnajmdgheohpjaaCodec9
import Derived.Test.YtnajmdgheohpjaaCodec7
import Derived.Deep.DeepCutAuto
/- The document's request out of bytes. -/
namespace Go.Proofs.Ytnajmdgheohpjaa.Codec
open Go.ChangeShapes Go.WideShapes Go.ChangeAt Go.RowKit Go.IntWalk Go.Proofs.NumMath Go.Proofs.Mem NumBytes Go.Proofs.Each
set_option linter.unusedVariables false
/-- only block g has changed -/
def Only (g : Nat) (W W' : World) : Prop := W.heap.size ≤ W'.heap.size ∧ (W'.os = W.os ∧ W'.tape = W.tape ∧ W'.output = W.output) ∧ ∀ k, k < W.heap.size → k ≠ g → W'.heap[k]? = W.heap[k]?
theorem Only.refl (g : Nat) (W : World) : Only g W W := ⟨Nat.le_refl _, ⟨rfl, rfl, rfl⟩, fun _ _ _ => rfl⟩
theorem only_set {g : Nat} {W W' : World} (h : Only g W W') (i : Nat) (v : Value) : Only g W (W'.setCell ⟨g, i, none⟩ v) :=
  ⟨by simpa [World.setCell] using h.1, h.2.1, fun k hk hn => (Below.heap_setCell W' ⟨g, i, none⟩ v k (by simpa using hn)).trans (h.2.2 k hk hn)⟩
theorem at_one (xs : List Int) (a : Nat) (h : a < xs.length) : at_ xs a 1 = xs.getD a 0 := by
  unfold at_
  have e : (xs.drop a).take 1 = [xs.getD a 0] := by
    rw [List.drop_eq_getElem_cons h, List.take_succ_cons, List.take_zero]; simp [List.getD, List.getElem?_eq_getElem h]
  rw [e]; simp [getS, getTo]
set_option maxRecDepth 100000 in
set_option maxHeartbeats 16000000 in
theorem asked_ref (v : Value) (xs : List Int) (hx : Bytes xs) (w : World) (hv : IR w w.heap.size .u8 v xs) (hl : xs.length ≤ 1000) :
    Calls Try.prog 10 #[v] w fun e w' => e = .returned (.tuple #[.agg (cellsQ (askedQ xs)), .int .i64 (askedE xs)]) ∧ Below w.heap.size w w' := by
  obtain ⟨A, c, rfl, hlc, hcm⟩ := hv.form
  unfold maxLen at hcm
  by_cases h : xs.length = 38
  · rw [h] at hv hlc
    obtain ⟨b, off, rfl, hblt, hc0⟩ := hv.index 0 (by omega)
    obtain ⟨b', off', e', _, hc5⟩ := hv.index 5 (by omega)
    injection e' with e'; injection e' with e1 e2; subst e1; subst e2
    rw [← at_one xs 0 (by omega), Nat.add_zero] at hc0
    rw [← at_one xs 5 (by omega)] at hc5
    have HV := Lib.hid (fun W (hW : ∀ p : Addr, p.block < w.heap.size → W.cell? p = w.cell? p) => hv.keep (w' := W) hW)
    have G22 := Lib.hid (fun W (hW : ∀ p : Addr, p.block < w.heap.size → W.cell? p = w.cell? p) => get_ref _ _ W w.heap.size ((IR.sub hv 22 8 (by omega) (by omega)).keep hW) (bytes_take (bytes_drop hx 22) 8))
    have G30 := Lib.hid (fun W (hW : ∀ p : Addr, p.block < w.heap.size → W.cell? p = w.cell? p) => get_ref _ _ W w.heap.size ((IR.sub hv 30 8 (by omega) (by omega)).keep hW) (bytes_take (bytes_drop hx 30) 8))
    rw [show getS ((xs.drop 22).take 8) = at_ xs 22 8 from rfl] at G22
    rw [show getS ((xs.drop 30).take 8) = at_ xs 30 8 from rfl] at G30
    simp only [Option.map_some, Go.WideShapes.add_plain] at G22 G30
    have HL := Lib.hid h
    obtain ⟨m, hm⟩ : ∃ m, mayB (ofB xs) = m := ⟨_, rfl⟩
    have e1 : askedQ xs = if m = true then ofB xs else zeroQ := by unfold askedQ; rw [hm]; simp [HL.out]
    have e2 : askedE xs = if m = true then 0 else 230 := by unfold askedE; rw [hm]; simp [HL.out]
    rw [e1, e2]
    clear e1 e2
    have HM := Lib.hid hm
    clear hm
    have k22 : ¬ c = 22 := by omega
    have k30 : ¬ c = 30 := by omega
    have g30 : (30 : Int) ≤ (c : Int) := by omega
    have g22 : (22 : Int) ≤ (c : Int) := by omega
    have g38 : (38 : Int) ≤ (c : Int) := by omega
    have hne : (((38 : Nat) : Int) != 38) = false := by decide
    have HW1 := Lib.hid (fun (W : World) (hb : Below (w.alloc (.cells #[.int .u8 0, .int .u32 0, .int .u8 0, .int .u32 0, .int .u32 0, .int .u32 0, .int .u32 0, .int .u64 0, .int .u64 0] 27)).heap.size (w.alloc (.cells #[.int .u8 0, .int .u32 0, .int .u8 0, .int .u32 0, .int .u32 0, .int .u32 0, .int .u32 0, .int .u64 0, .int .u64 0] 27)) W) (p : Addr) (hp : p.block < w.heap.size) => (hb.cell (p := p) (by simp; omega)).trans (World.cell?_alloc_lt w (.cells #[.int .u8 0, .int .u32 0, .int .u8 0, .int .u32 0, .int .u32 0, .int .u32 0, .int .u32 0, .int .u64 0, .int .u64 0] 27) p hp))
    rw [h]
    clear hv h
    have hz : (w.alloc (.cells #[.int .u8 0, .int .u32 0, .int .u8 0, .int .u32 0, .int .u32 0, .int .u32 0, .int .u32 0, .int .u64 0, .int .u64 0] 27)).heap.size = w.heap.size + 1 := by simp
    have HZ := Lib.hid hz
    clear hz
    go_enter Try.func10, Try.ntmps10
    go_wp2
    refine wp_region_new (by kernel_rfl) (by kernel_rfl) 25 7 #[Value.int .u8 (at_ xs 5 1), Value.int .u32 (at_ xs 6 4), Value.int .u32 (at_ xs 10 4), Value.int .u32 (at_ xs 14 4), Value.int .u32 (at_ xs 18 4), Value.int .u64 (at_ xs 22 8), Value.int .u64 (at_ xs 30 8)] 18 19 [Value.slice (some ⟨b, off, none⟩) 38 c, Value.pointer (some ⟨b, off + 5, none⟩), Value.int .u8 (at_ xs 5 1), Value.slice (some ⟨b, off, none⟩) 38 c, Value.int .u32 (at_ xs 6 4), Value.slice (some ⟨b, off, none⟩) 38 c, Value.int .u32 (at_ xs 10 4), Value.slice (some ⟨b, off, none⟩) 38 c, Value.int .u32 (at_ xs 14 4), Value.slice (some ⟨b, off, none⟩) 38 c, Value.int .u32 (at_ xs 18 4), Value.slice (some ⟨b, off, none⟩) 38 c, Value.slice (some ⟨b, off + 22, none⟩) 8 (c - 22), Value.int .u64 (at_ xs 22 8), Value.slice (some ⟨b, off, none⟩) 38 c, Value.slice (some ⟨b, off + 30, none⟩) 8 (c - 30), Value.int .u64 (at_ xs 30 8), Value.agg #[Value.int .u8 (at_ xs 5 1), Value.int .u32 (at_ xs 6 4), Value.int .u32 (at_ xs 10 4), Value.int .u32 (at_ xs 14 4), Value.int .u32 (at_ xs 18 4), Value.int .u64 (at_ xs 22 8), Value.int .u64 (at_ xs 30 8)], undef, undef] (by decide) (by decide) (by intro o ho; injection ho with ho; subst ho; exact ⟨⟨18, .data⟩, by simp, rfl, rfl⟩) (fun vals => ?_) (fun vals W g hbW hptr hg hbox hall => ?_)
    · simp only [ObC, Act.put, List.setIfInBounds_toArray, List.set_cons_succ, List.set_cons_zero]
      refine ⟨?_, ?_, ?_, ?_, ?_, ?_, ?_, ?_, ?_, ?_, ?_, ?_, ?_, ?_, ?_, ?_, ?_, ?_, ?_, ?_, trivial⟩
      · intro W hbW hw
        clear hw
        refine step_plain rfl ?_
        go_simp
        (first | exact ⟨Rn.same (by decide) (Below.refl _ _), Fn_.val (by decide) (by decide) rfl rfl⟩ | exact ⟨_, rfl, Rn.same (by decide) (Below.refl _ _), Fn_.val (by decide) (by decide) rfl rfl⟩)
      · intro W hbW hw
        have f0 : vals 0 = Value.slice (some ⟨b, off, none⟩) 38 c := (hw ⟨0, .data⟩ (by simp) rfl).get (by decide) (by decide) rfl
        clear hw
        refine step_plain rfl ?_
        go_simp
        (first | exact ⟨Rn.same (by decide) (Below.refl _ _), Fn_.val (by decide) (by decide) rfl rfl⟩ | exact ⟨_, rfl, Rn.same (by decide) (Below.refl _ _), Fn_.val (by decide) (by decide) rfl rfl⟩)
      · intro W hbW hw
        have f1 : vals 1 = Value.pointer (some ⟨b, off + 5, none⟩) := (hw ⟨1, .data⟩ (by simp) rfl).get (by decide) (by decide) rfl
        clear hw
        refine step_plain rfl ?_
        have cc : W.cell? ⟨b, off + 5, none⟩ = some (.int .u8 (at_ xs 5 1)) := (HW1.out W hbW ⟨b, off + 5, none⟩ hblt).trans hc5
        go_simp
        (first | exact ⟨Rn.same (by decide) (Below.refl _ _), Fn_.val (by decide) (by decide) rfl rfl⟩ | exact ⟨_, rfl, Rn.same (by decide) (Below.refl _ _), Fn_.val (by decide) (by decide) rfl rfl⟩)
      · intro W hbW hw
        clear hw
        refine step_plain rfl ?_
        go_simp
        (first | exact ⟨Rn.same (by decide) (Below.refl _ _), Fn_.val (by decide) (by decide) rfl rfl⟩ | exact ⟨_, rfl, Rn.same (by decide) (Below.refl _ _), Fn_.val (by decide) (by decide) rfl rfl⟩)
      · intro W hbW hw
        have f3 : vals 3 = Value.slice (some ⟨b, off, none⟩) 38 c := (hw ⟨3, .data⟩ (by simp) rfl).get (by decide) (by decide) rfl
        clear hw
        refine step_plain rfl ?_
        go_simp
        refine (number_any _ xs 6 _ w.heap.size (HV.out _ (HW1.out W hbW)) hx (by have := HL.out; omega) hl).mono ?_
        rintro e W1 ⟨rfl, d, rfl⟩
        exact ⟨Rn.same (by decide) (below_drewN (Below.refl _ _) _), Fn_.val (by decide) (by decide) rfl rfl⟩
      · intro W hbW hw
        clear hw
        refine step_plain rfl ?_
        go_simp
        (first | exact ⟨Rn.same (by decide) (Below.refl _ _), Fn_.val (by decide) (by decide) rfl rfl⟩ | exact ⟨_, rfl, Rn.same (by decide) (Below.refl _ _), Fn_.val (by decide) (by decide) rfl rfl⟩)
      · intro W hbW hw
        have f5 : vals 5 = Value.slice (some ⟨b, off, none⟩) 38 c := (hw ⟨5, .data⟩ (by simp) rfl).get (by decide) (by decide) rfl
        have f4 : vals 4 = Value.int .u32 (at_ xs 6 4) := (hw ⟨4, .chain⟩ (by simp) rfl).get (by decide) (by decide) rfl
        clear hw
        refine step_plain rfl ?_
        go_simp
        refine (number_any _ xs 10 _ w.heap.size (HV.out _ (HW1.out W hbW)) hx (by have := HL.out; omega) hl).mono ?_
        rintro e W1 ⟨rfl, d, rfl⟩
        exact ⟨Rn.same (by decide) (below_drewN (Below.refl _ _) _), Fn_.val (by decide) (by decide) rfl rfl⟩
      · intro W hbW hw
        clear hw
        refine step_plain rfl ?_
        go_simp
        (first | exact ⟨Rn.same (by decide) (Below.refl _ _), Fn_.val (by decide) (by decide) rfl rfl⟩ | exact ⟨_, rfl, Rn.same (by decide) (Below.refl _ _), Fn_.val (by decide) (by decide) rfl rfl⟩)
      · intro W hbW hw
        have f7 : vals 7 = Value.slice (some ⟨b, off, none⟩) 38 c := (hw ⟨7, .data⟩ (by simp) rfl).get (by decide) (by decide) rfl
        have f6 : vals 6 = Value.int .u32 (at_ xs 10 4) := (hw ⟨6, .chain⟩ (by simp) rfl).get (by decide) (by decide) rfl
        clear hw
        refine step_plain rfl ?_
        go_simp
        refine (number_any _ xs 14 _ w.heap.size (HV.out _ (HW1.out W hbW)) hx (by have := HL.out; omega) hl).mono ?_
        rintro e W1 ⟨rfl, d, rfl⟩
        exact ⟨Rn.same (by decide) (below_drewN (Below.refl _ _) _), Fn_.val (by decide) (by decide) rfl rfl⟩
      · intro W hbW hw
        clear hw
        refine step_plain rfl ?_
        go_simp
        (first | exact ⟨Rn.same (by decide) (Below.refl _ _), Fn_.val (by decide) (by decide) rfl rfl⟩ | exact ⟨_, rfl, Rn.same (by decide) (Below.refl _ _), Fn_.val (by decide) (by decide) rfl rfl⟩)
      · intro W hbW hw
        have f9 : vals 9 = Value.slice (some ⟨b, off, none⟩) 38 c := (hw ⟨9, .data⟩ (by simp) rfl).get (by decide) (by decide) rfl
        have f8 : vals 8 = Value.int .u32 (at_ xs 14 4) := (hw ⟨8, .chain⟩ (by simp) rfl).get (by decide) (by decide) rfl
        clear hw
        refine step_plain rfl ?_
        go_simp
        refine (number_any _ xs 18 _ w.heap.size (HV.out _ (HW1.out W hbW)) hx (by have := HL.out; omega) hl).mono ?_
        rintro e W1 ⟨rfl, d, rfl⟩
        exact ⟨Rn.same (by decide) (below_drewN (Below.refl _ _) _), Fn_.val (by decide) (by decide) rfl rfl⟩
      · intro W hbW hw
        clear hw
        refine step_plain rfl ?_
        go_simp
        (first | exact ⟨Rn.same (by decide) (Below.refl _ _), Fn_.val (by decide) (by decide) rfl rfl⟩ | exact ⟨_, rfl, Rn.same (by decide) (Below.refl _ _), Fn_.val (by decide) (by decide) rfl rfl⟩)
      · intro W hbW hw
        have f11 : vals 11 = Value.slice (some ⟨b, off, none⟩) 38 c := (hw ⟨11, .data⟩ (by simp) rfl).get (by decide) (by decide) rfl
        clear hw
        refine step_plain rfl ?_
        go_simp
        (first | exact ⟨Rn.same (by decide) (Below.refl _ _), Fn_.val (by decide) (by decide) rfl rfl⟩ | exact ⟨_, rfl, Rn.same (by decide) (Below.refl _ _), Fn_.val (by decide) (by decide) rfl rfl⟩)
      · intro W hbW hw
        have f12 : vals 12 = Value.slice (some ⟨b, off + 22, none⟩) 8 (c - 22) := (hw ⟨12, .data⟩ (by simp) rfl).get (by decide) (by decide) rfl
        have f10 : vals 10 = Value.int .u32 (at_ xs 18 4) := (hw ⟨10, .chain⟩ (by simp) rfl).get (by decide) (by decide) rfl
        clear hw
        refine step_plain rfl ?_
        go_simp
        refine (G22.out _ (HW1.out W hbW)).mono ?_
        rintro e W1 ⟨rfl, d, rfl⟩
        exact ⟨Rn.same (by decide) (below_drewN (Below.refl _ _) _), Fn_.val (by decide) (by decide) rfl rfl⟩
      · intro W hbW hw
        clear hw
        refine step_plain rfl ?_
        go_simp
        (first | exact ⟨Rn.same (by decide) (Below.refl _ _), Fn_.val (by decide) (by decide) rfl rfl⟩ | exact ⟨_, rfl, Rn.same (by decide) (Below.refl _ _), Fn_.val (by decide) (by decide) rfl rfl⟩)
      · intro W hbW hw
        have f14 : vals 14 = Value.slice (some ⟨b, off, none⟩) 38 c := (hw ⟨14, .data⟩ (by simp) rfl).get (by decide) (by decide) rfl
        clear hw
        refine step_plain rfl ?_
        go_simp
        (first | exact ⟨Rn.same (by decide) (Below.refl _ _), Fn_.val (by decide) (by decide) rfl rfl⟩ | exact ⟨_, rfl, Rn.same (by decide) (Below.refl _ _), Fn_.val (by decide) (by decide) rfl rfl⟩)
      · intro W hbW hw
        have f15 : vals 15 = Value.slice (some ⟨b, off + 30, none⟩) 8 (c - 30) := (hw ⟨15, .data⟩ (by simp) rfl).get (by decide) (by decide) rfl
        have f13 : vals 13 = Value.int .u64 (at_ xs 22 8) := (hw ⟨13, .chain⟩ (by simp) rfl).get (by decide) (by decide) rfl
        clear hw
        refine step_plain rfl ?_
        go_simp
        refine (G30.out _ (HW1.out W hbW)).mono ?_
        rintro e W1 ⟨rfl, d, rfl⟩
        exact ⟨Rn.same (by decide) (below_drewN (Below.refl _ _) _), Fn_.val (by decide) (by decide) rfl rfl⟩
      · intro W hbW hw
        have f2 : vals 2 = Value.int .u8 (at_ xs 5 1) := (hw ⟨2, .data⟩ (by simp) rfl).get (by decide) (by decide) rfl
        have f4 : vals 4 = Value.int .u32 (at_ xs 6 4) := (hw ⟨4, .data⟩ (by simp) rfl).get (by decide) (by decide) rfl
        have f6 : vals 6 = Value.int .u32 (at_ xs 10 4) := (hw ⟨6, .data⟩ (by simp) rfl).get (by decide) (by decide) rfl
        have f8 : vals 8 = Value.int .u32 (at_ xs 14 4) := (hw ⟨8, .data⟩ (by simp) rfl).get (by decide) (by decide) rfl
        have f10 : vals 10 = Value.int .u32 (at_ xs 18 4) := (hw ⟨10, .data⟩ (by simp) rfl).get (by decide) (by decide) rfl
        have f13 : vals 13 = Value.int .u64 (at_ xs 22 8) := (hw ⟨13, .data⟩ (by simp) rfl).get (by decide) (by decide) rfl
        have f16 : vals 16 = Value.int .u64 (at_ xs 30 8) := (hw ⟨16, .data⟩ (by simp) rfl).get (by decide) (by decide) rfl
        clear hw
        refine step_plain rfl ?_
        go_simp
        (first | exact ⟨Rn.same (by decide) (Below.refl _ _), Fn_.val (by decide) (by decide) rfl rfl⟩ | exact ⟨_, rfl, Rn.same (by decide) (Below.refl _ _), Fn_.val (by decide) (by decide) rfl rfl⟩)
      · intro W hbW hw
        clear hw
        refine step_plain rfl ?_
        go_simp
        (first | exact ⟨Rn.same (by decide) ((Below.refl _ _).alloc (Nat.le_refl _) _), Fn_.made (by decide) (C := #[.int .u8 0, .int .u32 0, .int .u32 0, .int .u32 0, .int .u32 0, .int .u64 0, .int .u64 0]) W.heap.size hbW.size (Box.new W _ _) rfl⟩ | exact ⟨_, rfl, Rn.same (by decide) ((Below.refl _ _).alloc (Nat.le_refl _) _), Fn_.made (by decide) (C := #[.int .u8 0, .int .u32 0, .int .u32 0, .int .u32 0, .int .u32 0, .int .u64 0, .int .u64 0]) W.heap.size hbW.size (Box.new W _ _) rfl⟩)
      · intro W hbW hw
        obtain ⟨ga, Ca, f18, hga, hbx, hcz⟩ := (hw ⟨18, .data⟩ (by simp) rfl).there (by decide)
        have f17 : vals 17 = Value.agg #[Value.int .u8 (at_ xs 5 1), Value.int .u32 (at_ xs 6 4), Value.int .u32 (at_ xs 10 4), Value.int .u32 (at_ xs 14 4), Value.int .u32 (at_ xs 18 4), Value.int .u64 (at_ xs 22 8), Value.int .u64 (at_ xs 30 8)] := (hw ⟨17, .data⟩ (by simp) rfl).get (by decide) (by decide) rfl
        have f16 : vals 16 = Value.int .u64 (at_ xs 30 8) := (hw ⟨16, .chain⟩ (by simp) rfl).get (by decide) (by decide) rfl
        have f0 : vals 0 = Value.slice (some ⟨b, off, none⟩) 38 c := (hw ⟨0, .phase⟩ (by simp) rfl).get (by decide) (by decide) rfl
        have f1 : vals 1 = Value.pointer (some ⟨b, off + 5, none⟩) := (hw ⟨1, .phase⟩ (by simp) rfl).get (by decide) (by decide) rfl
        have f2 : vals 2 = Value.int .u8 (at_ xs 5 1) := (hw ⟨2, .phase⟩ (by simp) rfl).get (by decide) (by decide) rfl
        have f3 : vals 3 = Value.slice (some ⟨b, off, none⟩) 38 c := (hw ⟨3, .phase⟩ (by simp) rfl).get (by decide) (by decide) rfl
        have f4 : vals 4 = Value.int .u32 (at_ xs 6 4) := (hw ⟨4, .phase⟩ (by simp) rfl).get (by decide) (by decide) rfl
        have f5 : vals 5 = Value.slice (some ⟨b, off, none⟩) 38 c := (hw ⟨5, .phase⟩ (by simp) rfl).get (by decide) (by decide) rfl
        have f6 : vals 6 = Value.int .u32 (at_ xs 10 4) := (hw ⟨6, .phase⟩ (by simp) rfl).get (by decide) (by decide) rfl
        have f7 : vals 7 = Value.slice (some ⟨b, off, none⟩) 38 c := (hw ⟨7, .phase⟩ (by simp) rfl).get (by decide) (by decide) rfl
        have f8 : vals 8 = Value.int .u32 (at_ xs 14 4) := (hw ⟨8, .phase⟩ (by simp) rfl).get (by decide) (by decide) rfl
        have f9 : vals 9 = Value.slice (some ⟨b, off, none⟩) 38 c := (hw ⟨9, .phase⟩ (by simp) rfl).get (by decide) (by decide) rfl
        have f10 : vals 10 = Value.int .u32 (at_ xs 18 4) := (hw ⟨10, .phase⟩ (by simp) rfl).get (by decide) (by decide) rfl
        have f11 : vals 11 = Value.slice (some ⟨b, off, none⟩) 38 c := (hw ⟨11, .phase⟩ (by simp) rfl).get (by decide) (by decide) rfl
        have f12 : vals 12 = Value.slice (some ⟨b, off + 22, none⟩) 8 (c - 22) := (hw ⟨12, .phase⟩ (by simp) rfl).get (by decide) (by decide) rfl
        have f13 : vals 13 = Value.int .u64 (at_ xs 22 8) := (hw ⟨13, .phase⟩ (by simp) rfl).get (by decide) (by decide) rfl
        have f14 : vals 14 = Value.slice (some ⟨b, off, none⟩) 38 c := (hw ⟨14, .phase⟩ (by simp) rfl).get (by decide) (by decide) rfl
        have f15 : vals 15 = Value.slice (some ⟨b, off + 30, none⟩) 8 (c - 30) := (hw ⟨15, .phase⟩ (by simp) rfl).get (by decide) (by decide) rfl
        clear hw
        refine step_plain rfl ?_
        obtain ⟨x0, x1, x2, x3, x4, x5, x6, rfl⟩ := arr7 hcz
        have c0 : W.cell? ⟨ga, 0, none⟩ = some x0 := hbx.cell 0
        have c1 : W.cell? ⟨ga, 1, none⟩ = some x1 := hbx.cell 1
        have c2 : W.cell? ⟨ga, 2, none⟩ = some x2 := hbx.cell 2
        have c3 : W.cell? ⟨ga, 3, none⟩ = some x3 := hbx.cell 3
        have c4 : W.cell? ⟨ga, 4, none⟩ = some x4 := hbx.cell 4
        have c5 : W.cell? ⟨ga, 5, none⟩ = some x5 := hbx.cell 5
        have c6 : W.cell? ⟨ga, 6, none⟩ = some x6 := hbx.cell 6
        have z0 := hbx.frozen 0
        have z1 := hbx.frozen 1
        have z2 := hbx.frozen 2
        have z3 := hbx.frozen 3
        have z4 := hbx.frozen 4
        have z5 := hbx.frozen 5
        have z6 := hbx.frozen 6
        have bf := (Box.set_ (Box.set_ (Box.set_ (Box.set_ (Box.set_ (Box.set_ (Box.set_ hbx 0 (Value.int .u8 (at_ xs 5 1))) 1 (Value.int .u32 (at_ xs 6 4))) 2 (Value.int .u32 (at_ xs 10 4))) 3 (Value.int .u32 (at_ xs 14 4))) 4 (Value.int .u32 (at_ xs 18 4))) 5 (Value.int .u64 (at_ xs 22 8))) 6 (Value.int .u64 (at_ xs 30 8)))
        simp only [List.setIfInBounds_toArray, List.set_cons_succ, List.set_cons_zero] at bf
        have hlt := hbx.lt
        have hb0 : Only ga W W := Only.refl _ _
        have hb2 : Only ga W (((((((W.setCell ⟨ga, 0, none⟩ (Value.int .u8 (at_ xs 5 1))).setCell ⟨ga, 1, none⟩ (Value.int .u32 (at_ xs 6 4))).setCell ⟨ga, 2, none⟩ (Value.int .u32 (at_ xs 10 4))).setCell ⟨ga, 3, none⟩ (Value.int .u32 (at_ xs 14 4))).setCell ⟨ga, 4, none⟩ (Value.int .u32 (at_ xs 18 4))).setCell ⟨ga, 5, none⟩ (Value.int .u64 (at_ xs 22 8))).setCell ⟨ga, 6, none⟩ (Value.int .u64 (at_ xs 30 8))) := (only_set (only_set (only_set (only_set (only_set (only_set (only_set hb0 _ _) _ _) _ _) _ _) _ _) _ _) _ _)
        have BF := Lib.hid bf
        clear bf
        go_simp
        exact ⟨(laid (fin := #[Value.int .u8 (at_ xs 5 1), Value.int .u32 (at_ xs 6 4), Value.int .u32 (at_ xs 10 4), Value.int .u32 (at_ xs 14 4), Value.int .u32 (at_ xs 18 4), Value.int .u64 (at_ xs 22 8), Value.int .u64 (at_ xs 30 8)]) (n := 7) (Es := []) (v := undef) (by decide) f18 hga hlt hbx rfl rfl BF.out hb2.1 hb2.2.1 hb2.2.2).1, undef, (laid (fin := #[Value.int .u8 (at_ xs 5 1), Value.int .u32 (at_ xs 6 4), Value.int .u32 (at_ xs 10 4), Value.int .u32 (at_ xs 14 4), Value.int .u32 (at_ xs 18 4), Value.int .u64 (at_ xs 22 8), Value.int .u64 (at_ xs 30 8)]) (n := 7) (v := undef) (by decide) f18 hga hlt hbx rfl rfl BF.out hb2.1 hb2.2.1 hb2.2.2).2⟩
    · simp only [TL, Act.put, List.setIfInBounds_toArray, List.set_cons_succ, List.set_cons_zero]
      have f0 : vals 0 = Value.slice (some ⟨b, off, none⟩) 38 c := hall 0 (by decide) (by decide) (by decide)
      have f1 : vals 1 = Value.pointer (some ⟨b, off + 5, none⟩) := hall 1 (by decide) (by decide) (by decide)
      have f2 : vals 2 = Value.int .u8 (at_ xs 5 1) := hall 2 (by decide) (by decide) (by decide)
      have f3 : vals 3 = Value.slice (some ⟨b, off, none⟩) 38 c := hall 3 (by decide) (by decide) (by decide)
      have f4 : vals 4 = Value.int .u32 (at_ xs 6 4) := hall 4 (by decide) (by decide) (by decide)
      have f5 : vals 5 = Value.slice (some ⟨b, off, none⟩) 38 c := hall 5 (by decide) (by decide) (by decide)
      have f6 : vals 6 = Value.int .u32 (at_ xs 10 4) := hall 6 (by decide) (by decide) (by decide)
      have f7 : vals 7 = Value.slice (some ⟨b, off, none⟩) 38 c := hall 7 (by decide) (by decide) (by decide)
      have f8 : vals 8 = Value.int .u32 (at_ xs 14 4) := hall 8 (by decide) (by decide) (by decide)
      have f9 : vals 9 = Value.slice (some ⟨b, off, none⟩) 38 c := hall 9 (by decide) (by decide) (by decide)
      have f10 : vals 10 = Value.int .u32 (at_ xs 18 4) := hall 10 (by decide) (by decide) (by decide)
      have f11 : vals 11 = Value.slice (some ⟨b, off, none⟩) 38 c := hall 11 (by decide) (by decide) (by decide)
      have f12 : vals 12 = Value.slice (some ⟨b, off + 22, none⟩) 8 (c - 22) := hall 12 (by decide) (by decide) (by decide)
      have f13 : vals 13 = Value.int .u64 (at_ xs 22 8) := hall 13 (by decide) (by decide) (by decide)
      have f14 : vals 14 = Value.slice (some ⟨b, off, none⟩) 38 c := hall 14 (by decide) (by decide) (by decide)
      have f15 : vals 15 = Value.slice (some ⟨b, off + 30, none⟩) 8 (c - 30) := hall 15 (by decide) (by decide) (by decide)
      have f16 : vals 16 = Value.int .u64 (at_ xs 30 8) := hall 16 (by decide) (by decide) (by decide)
      have f17 : vals 17 = Value.agg #[Value.int .u8 (at_ xs 5 1), Value.int .u32 (at_ xs 6 4), Value.int .u32 (at_ xs 10 4), Value.int .u32 (at_ xs 14 4), Value.int .u32 (at_ xs 18 4), Value.int .u64 (at_ xs 22 8), Value.int .u64 (at_ xs 30 8)] := hall 17 (by decide) (by decide) (by decide)
      clear hall
      simp only [f0, f1, f2, f3, f4, f5, f6, f7, f8, f9, f10, f11, f12, f13, f14, f15, f16, f17, hptr]
      clear f0 f1 f2 f3 f4 f5 f6 f7 f8 f9 f10 f11 f12 f13 f14 f15 f16 f17 hptr
      have hbo := hbox
      have hoz := hbo.lt
      have hoB := hg
      have HW2 := Lib.hid (fun p hp => HW1.out W hbW p hp)
      have hbw3 := step_ (new_ (Below.refl w.heap.size w) _) hbW
      clear HW1
      have HW1 := Lib.hid (fun (W' : World) (hb : Below W.heap.size W W') (p : Addr) (hp : p.block < w.heap.size) => (hb.cell (p := p) (Nat.lt_of_lt_of_le hp hbw3.size)).trans (HW2.out p hp))
      have BR := Lib.hid (Box.later (Box.new w #[.int .u8 0, .int .u32 0, .int .u8 0, .int .u32 0, .int .u32 0, .int .u32 0, .int .u32 0, .int .u64 0, .int .u64 0] 27) hbW)
      obtain ⟨go, rfl⟩ : ∃ go, go = g := ⟨_, rfl⟩
      obtain ⟨w3, rfl⟩ : ∃ w3 : World, w3 = W := ⟨_, rfl⟩
      clear hbW hbox hg
      go_wp2
      refine wp_region_new (by kernel_rfl) (by kernel_rfl) 27 9 #[Value.int .u8 (at_ xs 0 1), Value.int .u32 (at_ xs 1 4), Value.int .u8 (at_ xs 5 1), Value.int .u32 (at_ xs 6 4), Value.int .u32 (at_ xs 10 4), Value.int .u32 (at_ xs 14 4), Value.int .u32 (at_ xs 18 4), Value.int .u64 (at_ xs 22 8), Value.int .u64 (at_ xs 30 8)] 7 8 [Value.slice (some ⟨b, off, none⟩) 38 c, Value.pointer (some ⟨b, off, none⟩), Value.int .u8 (at_ xs 0 1), Value.slice (some ⟨b, off, none⟩) 38 c, Value.int .u32 (at_ xs 1 4), Value.agg #[Value.int .u8 (at_ xs 5 1), Value.int .u32 (at_ xs 6 4), Value.int .u32 (at_ xs 10 4), Value.int .u32 (at_ xs 14 4), Value.int .u32 (at_ xs 18 4), Value.int .u64 (at_ xs 22 8), Value.int .u64 (at_ xs 30 8)], Value.agg #[Value.int .u8 (at_ xs 0 1), Value.int .u32 (at_ xs 1 4), Value.int .u8 (at_ xs 5 1), Value.int .u32 (at_ xs 6 4), Value.int .u32 (at_ xs 10 4), Value.int .u32 (at_ xs 14 4), Value.int .u32 (at_ xs 18 4), Value.int .u64 (at_ xs 22 8), Value.int .u64 (at_ xs 30 8)], undef, undef] (by decide) (by decide) (by intro o ho; injection ho with ho; subst ho; exact ⟨⟨7, .data⟩, by simp, rfl, rfl⟩) (fun vals => ?_) (fun vals W g hbW hptr hg hbox hall => ?_)
      · simp only [ObC, Act.put, List.setIfInBounds_toArray, List.set_cons_succ, List.set_cons_zero]
        refine ⟨?_, ?_, ?_, ?_, ?_, ?_, ?_, ?_, ?_, trivial⟩
        · intro W hbW hw
          clear hw
          refine step_plain rfl ?_
          go_simp
          (first | exact ⟨Rn.same (by decide) (Below.refl _ _), Fn_.val (by decide) (by decide) rfl rfl⟩ | exact ⟨_, rfl, Rn.same (by decide) (Below.refl _ _), Fn_.val (by decide) (by decide) rfl rfl⟩)
        · intro W hbW hw
          have f0 : vals 0 = Value.slice (some ⟨b, off, none⟩) 38 c := (hw ⟨0, .data⟩ (by simp) rfl).get (by decide) (by decide) rfl
          clear hw
          refine step_plain rfl ?_
          go_simp
          (first | exact ⟨Rn.same (by decide) (Below.refl _ _), Fn_.val (by decide) (by decide) rfl rfl⟩ | exact ⟨_, rfl, Rn.same (by decide) (Below.refl _ _), Fn_.val (by decide) (by decide) rfl rfl⟩)
        · intro W hbW hw
          have f1 : vals 1 = Value.pointer (some ⟨b, off, none⟩) := (hw ⟨1, .data⟩ (by simp) rfl).get (by decide) (by decide) rfl
          clear hw
          refine step_plain rfl ?_
          have cc : W.cell? ⟨b, off, none⟩ = some (.int .u8 (at_ xs 0 1)) := (HW1.out W hbW ⟨b, off, none⟩ hblt).trans hc0
          go_simp
          (first | exact ⟨Rn.same (by decide) (Below.refl _ _), Fn_.val (by decide) (by decide) rfl rfl⟩ | exact ⟨_, rfl, Rn.same (by decide) (Below.refl _ _), Fn_.val (by decide) (by decide) rfl rfl⟩)
        · intro W hbW hw
          clear hw
          refine step_plain rfl ?_
          go_simp
          (first | exact ⟨Rn.same (by decide) (Below.refl _ _), Fn_.val (by decide) (by decide) rfl rfl⟩ | exact ⟨_, rfl, Rn.same (by decide) (Below.refl _ _), Fn_.val (by decide) (by decide) rfl rfl⟩)
        · intro W hbW hw
          have f3 : vals 3 = Value.slice (some ⟨b, off, none⟩) 38 c := (hw ⟨3, .data⟩ (by simp) rfl).get (by decide) (by decide) rfl
          clear hw
          refine step_plain rfl ?_
          go_simp
          refine (number_any _ xs 1 _ w.heap.size (HV.out _ (HW1.out W hbW)) hx (by have := HL.out; omega) hl).mono ?_
          rintro e W1 ⟨rfl, d, rfl⟩
          exact ⟨Rn.same (by decide) (below_drewN (Below.refl _ _) _), Fn_.val (by decide) (by decide) rfl rfl⟩
        · intro W hbW hw
          clear hw
          refine step_plain rfl ?_
          have bo := hbo.later hbW
          have c0 : W.cell? ⟨go, 0, none⟩ = some (Value.int .u8 (at_ xs 5 1)) := bo.cell 0
          have c1 : W.cell? ⟨go, 1, none⟩ = some (Value.int .u32 (at_ xs 6 4)) := bo.cell 1
          have c2 : W.cell? ⟨go, 2, none⟩ = some (Value.int .u32 (at_ xs 10 4)) := bo.cell 2
          have c3 : W.cell? ⟨go, 3, none⟩ = some (Value.int .u32 (at_ xs 14 4)) := bo.cell 3
          have c4 : W.cell? ⟨go, 4, none⟩ = some (Value.int .u32 (at_ xs 18 4)) := bo.cell 4
          have c5 : W.cell? ⟨go, 5, none⟩ = some (Value.int .u64 (at_ xs 22 8)) := bo.cell 5
          have c6 : W.cell? ⟨go, 6, none⟩ = some (Value.int .u64 (at_ xs 30 8)) := bo.cell 6
          go_simp
          (first | exact ⟨Rn.same (by decide) (Below.refl _ _), Fn_.val (by decide) (by decide) rfl rfl⟩ | exact ⟨_, rfl, Rn.same (by decide) (Below.refl _ _), Fn_.val (by decide) (by decide) rfl rfl⟩)
        · intro W hbW hw
          have f2 : vals 2 = Value.int .u8 (at_ xs 0 1) := (hw ⟨2, .data⟩ (by simp) rfl).get (by decide) (by decide) rfl
          have f4 : vals 4 = Value.int .u32 (at_ xs 1 4) := (hw ⟨4, .data⟩ (by simp) rfl).get (by decide) (by decide) rfl
          have f5 : vals 5 = Value.agg #[Value.int .u8 (at_ xs 5 1), Value.int .u32 (at_ xs 6 4), Value.int .u32 (at_ xs 10 4), Value.int .u32 (at_ xs 14 4), Value.int .u32 (at_ xs 18 4), Value.int .u64 (at_ xs 22 8), Value.int .u64 (at_ xs 30 8)] := (hw ⟨5, .data⟩ (by simp) rfl).get (by decide) (by decide) rfl
          clear hw
          refine step_plain rfl ?_
          go_simp
          (first | exact ⟨Rn.same (by decide) (Below.refl _ _), Fn_.val (by decide) (by decide) rfl rfl⟩ | exact ⟨_, rfl, Rn.same (by decide) (Below.refl _ _), Fn_.val (by decide) (by decide) rfl rfl⟩)
        · intro W hbW hw
          clear hw
          refine step_plain rfl ?_
          go_simp
          (first | exact ⟨Rn.same (by decide) ((Below.refl _ _).alloc (Nat.le_refl _) _), Fn_.made (by decide) (C := #[.int .u8 0, .int .u32 0, .int .u8 0, .int .u32 0, .int .u32 0, .int .u32 0, .int .u32 0, .int .u64 0, .int .u64 0]) W.heap.size hbW.size (Box.new W _ _) rfl⟩ | exact ⟨_, rfl, Rn.same (by decide) ((Below.refl _ _).alloc (Nat.le_refl _) _), Fn_.made (by decide) (C := #[.int .u8 0, .int .u32 0, .int .u8 0, .int .u32 0, .int .u32 0, .int .u32 0, .int .u32 0, .int .u64 0, .int .u64 0]) W.heap.size hbW.size (Box.new W _ _) rfl⟩)
        · intro W hbW hw
          obtain ⟨ga, Ca, f7, hga, hbx, hcz⟩ := (hw ⟨7, .data⟩ (by simp) rfl).there (by decide)
          have f6 : vals 6 = Value.agg #[Value.int .u8 (at_ xs 0 1), Value.int .u32 (at_ xs 1 4), Value.int .u8 (at_ xs 5 1), Value.int .u32 (at_ xs 6 4), Value.int .u32 (at_ xs 10 4), Value.int .u32 (at_ xs 14 4), Value.int .u32 (at_ xs 18 4), Value.int .u64 (at_ xs 22 8), Value.int .u64 (at_ xs 30 8)] := (hw ⟨6, .data⟩ (by simp) rfl).get (by decide) (by decide) rfl
          have f4 : vals 4 = Value.int .u32 (at_ xs 1 4) := (hw ⟨4, .chain⟩ (by simp) rfl).get (by decide) (by decide) rfl
          have f0 : vals 0 = Value.slice (some ⟨b, off, none⟩) 38 c := (hw ⟨0, .phase⟩ (by simp) rfl).get (by decide) (by decide) rfl
          have f1 : vals 1 = Value.pointer (some ⟨b, off, none⟩) := (hw ⟨1, .phase⟩ (by simp) rfl).get (by decide) (by decide) rfl
          have f2 : vals 2 = Value.int .u8 (at_ xs 0 1) := (hw ⟨2, .phase⟩ (by simp) rfl).get (by decide) (by decide) rfl
          have f3 : vals 3 = Value.slice (some ⟨b, off, none⟩) 38 c := (hw ⟨3, .phase⟩ (by simp) rfl).get (by decide) (by decide) rfl
          have f5 : vals 5 = Value.agg #[Value.int .u8 (at_ xs 5 1), Value.int .u32 (at_ xs 6 4), Value.int .u32 (at_ xs 10 4), Value.int .u32 (at_ xs 14 4), Value.int .u32 (at_ xs 18 4), Value.int .u64 (at_ xs 22 8), Value.int .u64 (at_ xs 30 8)] := (hw ⟨5, .phase⟩ (by simp) rfl).get (by decide) (by decide) rfl
          clear hw
          refine step_plain rfl ?_
          obtain ⟨x0, x1, x2, x3, x4, x5, x6, x7, x8, rfl⟩ := arr9 hcz
          have c0 : W.cell? ⟨ga, 0, none⟩ = some x0 := hbx.cell 0
          have c1 : W.cell? ⟨ga, 1, none⟩ = some x1 := hbx.cell 1
          have c2 : W.cell? ⟨ga, 2, none⟩ = some x2 := hbx.cell 2
          have c3 : W.cell? ⟨ga, 3, none⟩ = some x3 := hbx.cell 3
          have c4 : W.cell? ⟨ga, 4, none⟩ = some x4 := hbx.cell 4
          have c5 : W.cell? ⟨ga, 5, none⟩ = some x5 := hbx.cell 5
          have c6 : W.cell? ⟨ga, 6, none⟩ = some x6 := hbx.cell 6
          have c7 : W.cell? ⟨ga, 7, none⟩ = some x7 := hbx.cell 7
          have c8 : W.cell? ⟨ga, 8, none⟩ = some x8 := hbx.cell 8
          have z0 := hbx.frozen 0
          have z1 := hbx.frozen 1
          have z2 := hbx.frozen 2
          have z3 := hbx.frozen 3
          have z4 := hbx.frozen 4
          have z5 := hbx.frozen 5
          have z6 := hbx.frozen 6
          have z7 := hbx.frozen 7
          have z8 := hbx.frozen 8
          have bf := (Box.set_ (Box.set_ (Box.set_ (Box.set_ (Box.set_ (Box.set_ (Box.set_ (Box.set_ (Box.set_ hbx 0 (Value.int .u8 (at_ xs 0 1))) 1 (Value.int .u32 (at_ xs 1 4))) 2 (Value.int .u8 (at_ xs 5 1))) 3 (Value.int .u32 (at_ xs 6 4))) 4 (Value.int .u32 (at_ xs 10 4))) 5 (Value.int .u32 (at_ xs 14 4))) 6 (Value.int .u32 (at_ xs 18 4))) 7 (Value.int .u64 (at_ xs 22 8))) 8 (Value.int .u64 (at_ xs 30 8)))
          simp only [List.setIfInBounds_toArray, List.set_cons_succ, List.set_cons_zero] at bf
          have hlt := hbx.lt
          have hb0 : Only ga W W := Only.refl _ _
          have hb2 : Only ga W (((((((((W.setCell ⟨ga, 0, none⟩ (Value.int .u8 (at_ xs 0 1))).setCell ⟨ga, 1, none⟩ (Value.int .u32 (at_ xs 1 4))).setCell ⟨ga, 2, none⟩ (Value.int .u8 (at_ xs 5 1))).setCell ⟨ga, 3, none⟩ (Value.int .u32 (at_ xs 6 4))).setCell ⟨ga, 4, none⟩ (Value.int .u32 (at_ xs 10 4))).setCell ⟨ga, 5, none⟩ (Value.int .u32 (at_ xs 14 4))).setCell ⟨ga, 6, none⟩ (Value.int .u32 (at_ xs 18 4))).setCell ⟨ga, 7, none⟩ (Value.int .u64 (at_ xs 22 8))).setCell ⟨ga, 8, none⟩ (Value.int .u64 (at_ xs 30 8))) := (only_set (only_set (only_set (only_set (only_set (only_set (only_set (only_set (only_set hb0 _ _) _ _) _ _) _ _) _ _) _ _) _ _) _ _) _ _)
          have BF := Lib.hid bf
          clear bf
          go_simp
          exact ⟨(laid (fin := #[Value.int .u8 (at_ xs 0 1), Value.int .u32 (at_ xs 1 4), Value.int .u8 (at_ xs 5 1), Value.int .u32 (at_ xs 6 4), Value.int .u32 (at_ xs 10 4), Value.int .u32 (at_ xs 14 4), Value.int .u32 (at_ xs 18 4), Value.int .u64 (at_ xs 22 8), Value.int .u64 (at_ xs 30 8)]) (n := 9) (Es := []) (v := undef) (by decide) f7 hga hlt hbx rfl rfl BF.out hb2.1 hb2.2.1 hb2.2.2).1, undef, (laid (fin := #[Value.int .u8 (at_ xs 0 1), Value.int .u32 (at_ xs 1 4), Value.int .u8 (at_ xs 5 1), Value.int .u32 (at_ xs 6 4), Value.int .u32 (at_ xs 10 4), Value.int .u32 (at_ xs 14 4), Value.int .u32 (at_ xs 18 4), Value.int .u64 (at_ xs 22 8), Value.int .u64 (at_ xs 30 8)]) (n := 9) (v := undef) (by decide) f7 hga hlt hbx rfl rfl BF.out hb2.1 hb2.2.1 hb2.2.2).2⟩
      · simp only [TL, Act.put, List.setIfInBounds_toArray, List.set_cons_succ, List.set_cons_zero]
        have f0 : vals 0 = Value.slice (some ⟨b, off, none⟩) 38 c := hall 0 (by decide) (by decide) (by decide)
        have f1 : vals 1 = Value.pointer (some ⟨b, off, none⟩) := hall 1 (by decide) (by decide) (by decide)
        have f2 : vals 2 = Value.int .u8 (at_ xs 0 1) := hall 2 (by decide) (by decide) (by decide)
        have f3 : vals 3 = Value.slice (some ⟨b, off, none⟩) 38 c := hall 3 (by decide) (by decide) (by decide)
        have f4 : vals 4 = Value.int .u32 (at_ xs 1 4) := hall 4 (by decide) (by decide) (by decide)
        have f5 : vals 5 = Value.agg #[Value.int .u8 (at_ xs 5 1), Value.int .u32 (at_ xs 6 4), Value.int .u32 (at_ xs 10 4), Value.int .u32 (at_ xs 14 4), Value.int .u32 (at_ xs 18 4), Value.int .u64 (at_ xs 22 8), Value.int .u64 (at_ xs 30 8)] := hall 5 (by decide) (by decide) (by decide)
        have f6 : vals 6 = Value.agg #[Value.int .u8 (at_ xs 0 1), Value.int .u32 (at_ xs 1 4), Value.int .u8 (at_ xs 5 1), Value.int .u32 (at_ xs 6 4), Value.int .u32 (at_ xs 10 4), Value.int .u32 (at_ xs 14 4), Value.int .u32 (at_ xs 18 4), Value.int .u64 (at_ xs 22 8), Value.int .u64 (at_ xs 30 8)] := hall 6 (by decide) (by decide) (by decide)
        clear hall
        simp only [f0, f1, f2, f3, f4, f5, f6, hptr]
        clear f0 f1 f2 f3 f4 f5 f6 hptr
        have hbo2 := hbo.later hbW
        have BR2 := Lib.hid (BR.out.later hbW)
        have hbw4 := step_ hbw3 hbW
        have k0 : W.cell? ⟨g, 0, none⟩ = some (Value.int .u8 (at_ xs 0 1)) := hbox.cell 0
        have k1 : W.cell? ⟨g, 1, none⟩ = some (Value.int .u32 (at_ xs 1 4)) := hbox.cell 1
        have k2 : W.cell? ⟨g, 2, none⟩ = some (Value.int .u8 (at_ xs 5 1)) := hbox.cell 2
        have k3 : W.cell? ⟨g, 3, none⟩ = some (Value.int .u32 (at_ xs 6 4)) := hbox.cell 3
        have k4 : W.cell? ⟨g, 4, none⟩ = some (Value.int .u32 (at_ xs 10 4)) := hbox.cell 4
        have k5 : W.cell? ⟨g, 5, none⟩ = some (Value.int .u32 (at_ xs 14 4)) := hbox.cell 5
        have k6 : W.cell? ⟨g, 6, none⟩ = some (Value.int .u32 (at_ xs 18 4)) := hbox.cell 6
        have k7 : W.cell? ⟨g, 7, none⟩ = some (Value.int .u64 (at_ xs 22 8)) := hbox.cell 7
        have k8 : W.cell? ⟨g, 8, none⟩ = some (Value.int .u64 (at_ xs 30 8)) := hbox.cell 8
        have p0 : W.cell? ⟨go, 0, none⟩ = some (Value.int .u8 (at_ xs 5 1)) := hbo2.cell 0
        have p1 : W.cell? ⟨go, 1, none⟩ = some (Value.int .u32 (at_ xs 6 4)) := hbo2.cell 1
        have p2 : W.cell? ⟨go, 2, none⟩ = some (Value.int .u32 (at_ xs 10 4)) := hbo2.cell 2
        have p3 : W.cell? ⟨go, 3, none⟩ = some (Value.int .u32 (at_ xs 14 4)) := hbo2.cell 3
        have p4 : W.cell? ⟨go, 4, none⟩ = some (Value.int .u32 (at_ xs 18 4)) := hbo2.cell 4
        have p5 : W.cell? ⟨go, 5, none⟩ = some (Value.int .u64 (at_ xs 22 8)) := hbo2.cell 5
        have p6 : W.cell? ⟨go, 6, none⟩ = some (Value.int .u64 (at_ xs 30 8)) := hbo2.cell 6
        have r0 : W.cell? ⟨w.heap.size, 0, none⟩ = some (.int .u8 0) := BR2.out.cell 0
        have fz0 := BR2.out.frozen 0
        have r1 : W.cell? ⟨w.heap.size, 1, none⟩ = some (.int .u32 0) := BR2.out.cell 1
        have fz1 := BR2.out.frozen 1
        have r2 : W.cell? ⟨w.heap.size, 2, none⟩ = some (.int .u8 0) := BR2.out.cell 2
        have fz2 := BR2.out.frozen 2
        have r3 : W.cell? ⟨w.heap.size, 3, none⟩ = some (.int .u32 0) := BR2.out.cell 3
        have fz3 := BR2.out.frozen 3
        have r4 : W.cell? ⟨w.heap.size, 4, none⟩ = some (.int .u32 0) := BR2.out.cell 4
        have fz4 := BR2.out.frozen 4
        have r5 : W.cell? ⟨w.heap.size, 5, none⟩ = some (.int .u32 0) := BR2.out.cell 5
        have fz5 := BR2.out.frozen 5
        have r6 : W.cell? ⟨w.heap.size, 6, none⟩ = some (.int .u32 0) := BR2.out.cell 6
        have fz6 := BR2.out.frozen 6
        have r7 : W.cell? ⟨w.heap.size, 7, none⟩ = some (.int .u64 0) := BR2.out.cell 7
        have fz7 := BR2.out.frozen 7
        have r8 : W.cell? ⟨w.heap.size, 8, none⟩ = some (.int .u64 0) := BR2.out.cell 8
        have fz8 := BR2.out.frozen 8
        clear hbW hbox hbo2 hg
        go_upto_region 5 with fail
        go_cut [62] (fun v wx => v = .bool (!m) ∧ wx = W)
        case first =>
          obtain ⟨q0, q0'⟩ := b1 xs hx 0
          by_cases c1 : at_ xs 0 1 < 1
          · have d1 : decide (at_ xs 0 1 < 1) = true := decide_eq_true c1
            have hmm : m = false := by rw [← HM.out]; unfold mayB ofB; rw [decide_eq_false (by dsimp only; omega)]; rfl
            subst hmm
            go_wp2_with fail
            go_meet
            exact ⟨rfl, rfl⟩
          have d1 : decide (at_ xs 0 1 < 1) = false := decide_eq_false c1
          by_cases c2 : 6 < at_ xs 0 1
          · have d2 : decide (6 < at_ xs 0 1) = true := decide_eq_true c2
            have hmm : m = false := by rw [← HM.out]; unfold mayB ofB; rw [decide_eq_false (by dsimp only; omega)]; rfl
            subst hmm
            go_wp2_with fail
            go_meet
            exact ⟨rfl, rfl⟩
          have d2 : decide (6 < at_ xs 0 1) = false := decide_eq_false c2
          have hA : decide (1 ≤ at_ xs 0 1 ∧ at_ xs 0 1 ≤ 6) = true := decide_eq_true (by omega)
          have HA := Lib.hid hA
          clear hA
          by_cases c3 : at_ xs 0 1 ≠ 4 ∧ at_ xs 1 4 ≠ 0
          · have d3 : (at_ xs 0 1 != 4) = true := by simp; omega
            have d4 : (at_ xs 1 4 != 0) = true := by simp; omega
            have hmm : m = false := by rw [← HM.out]; unfold mayB ofB; dsimp only; rw [decide_eq_false c3.1, decide_eq_false c3.2]; simp
            subst hmm
            clear c3
            go_wp2_with fail
            go_meet
            exact ⟨rfl, rfl⟩
          · have hB : (decide (at_ xs 0 1 = 4) || decide (at_ xs 1 4 = 0)) = true := by simp; omega
            have HB := Lib.hid hB
            clear hB
            have key : (at_ xs 0 1 != 4) = false ∨ (at_ xs 0 1 != 4) = true ∧ (at_ xs 1 4 != 0) = false := by
              by_cases e : at_ xs 0 1 = 4
              · left; simp [e]
              · right; simp; omega
            clear c3
            rcases key with d3 | ⟨d3, d4⟩
            all_goals
              by_cases c5 : at_ xs 0 1 = 2
              · have d5 : (at_ xs 0 1 != 2) = false := by simp [c5]
                have H5 := Lib.hid c5
                clear c5
                have hmm : m = true := by rw [← HM.out]; unfold mayB ofB; dsimp only; rw [HA.out, HB.out, decide_eq_true H5.out]; rfl
                subst hmm
                go_wp2_with fail
                go_meet
                exact ⟨rfl, rfl⟩
              · have d5 : (at_ xs 0 1 != 2) = true := by simp [c5]
                have H5 := Lib.hid c5
                clear c5
                go_wp2_with fail
                all_goals go_meet
                all_goals refine ⟨?_, rfl⟩
                all_goals (rw [← HM.out]; unfold mayB ofB; dsimp only; rw [HA.out, HB.out, decide_eq_false H5.out])
                all_goals simp [*]
        case rest =>
          obtain ⟨rfl, rfl⟩ := hcut
          cases m
          · go_wp2
            have bf : Box (((((((((wc.setCell ⟨w.heap.size, 0, none⟩ (.int .u8 0)).setCell ⟨w.heap.size, 1, none⟩ (.int .u32 0)).setCell ⟨w.heap.size, 2, none⟩ (.int .u8 0)).setCell ⟨w.heap.size, 3, none⟩ (.int .u32 0)).setCell ⟨w.heap.size, 4, none⟩ (.int .u32 0)).setCell ⟨w.heap.size, 5, none⟩ (.int .u32 0)).setCell ⟨w.heap.size, 6, none⟩ (.int .u32 0)).setCell ⟨w.heap.size, 7, none⟩ (.int .u64 0)).setCell ⟨w.heap.size, 8, none⟩ (.int .u64 0)) w.heap.size #[.int .u8 0, .int .u32 0, .int .u8 0, .int .u32 0, .int .u32 0, .int .u32 0, .int .u32 0, .int .u64 0, .int .u64 0] 27 := by (have bf := (Box.set_ (Box.set_ (Box.set_ (Box.set_ (Box.set_ (Box.set_ (Box.set_ (Box.set_ (Box.set_ BR2.out 0 (.int .u8 0)) 1 (.int .u32 0)) 2 (.int .u8 0)) 3 (.int .u32 0)) 4 (.int .u32 0)) 5 (.int .u32 0)) 6 (.int .u32 0)) 7 (.int .u64 0)) 8 (.int .u64 0)); simpa only [List.setIfInBounds_toArray, List.set_cons_succ, List.set_cons_zero] using bf)
            have hbf : Below w.heap.size w (((((((((wc.setCell ⟨w.heap.size, 0, none⟩ (.int .u8 0)).setCell ⟨w.heap.size, 1, none⟩ (.int .u32 0)).setCell ⟨w.heap.size, 2, none⟩ (.int .u8 0)).setCell ⟨w.heap.size, 3, none⟩ (.int .u32 0)).setCell ⟨w.heap.size, 4, none⟩ (.int .u32 0)).setCell ⟨w.heap.size, 5, none⟩ (.int .u32 0)).setCell ⟨w.heap.size, 6, none⟩ (.int .u32 0)).setCell ⟨w.heap.size, 7, none⟩ (.int .u64 0)).setCell ⟨w.heap.size, 8, none⟩ (.int .u64 0)) := (Below.setCell (Below.setCell (Below.setCell (Below.setCell (Below.setCell (Below.setCell (Below.setCell (Below.setCell (Below.setCell hbw4 (Nat.le_refl _) _) (Nat.le_refl _) _) (Nat.le_refl _) _) (Nat.le_refl _) _) (Nat.le_refl _) _) (Nat.le_refl _) _) (Nat.le_refl _) _) (Nat.le_refl _) _) (Nat.le_refl _) _)
            generalize (((((((((wc.setCell ⟨w.heap.size, 0, none⟩ (.int .u8 0)).setCell ⟨w.heap.size, 1, none⟩ (.int .u32 0)).setCell ⟨w.heap.size, 2, none⟩ (.int .u8 0)).setCell ⟨w.heap.size, 3, none⟩ (.int .u32 0)).setCell ⟨w.heap.size, 4, none⟩ (.int .u32 0)).setCell ⟨w.heap.size, 5, none⟩ (.int .u32 0)).setCell ⟨w.heap.size, 6, none⟩ (.int .u32 0)).setCell ⟨w.heap.size, 7, none⟩ (.int .u64 0)).setCell ⟨w.heap.size, 8, none⟩ (.int .u64 0)) = wf at bf hbf ⊢
            have t0 : wf.cell? ⟨w.heap.size, 0, none⟩ = some (.int .u8 0) := bf.cell 0
            have t1 : wf.cell? ⟨w.heap.size, 1, none⟩ = some (.int .u32 0) := bf.cell 1
            have t2 : wf.cell? ⟨w.heap.size, 2, none⟩ = some (.int .u8 0) := bf.cell 2
            have t3 : wf.cell? ⟨w.heap.size, 3, none⟩ = some (.int .u32 0) := bf.cell 3
            have t4 : wf.cell? ⟨w.heap.size, 4, none⟩ = some (.int .u32 0) := bf.cell 4
            have t5 : wf.cell? ⟨w.heap.size, 5, none⟩ = some (.int .u32 0) := bf.cell 5
            have t6 : wf.cell? ⟨w.heap.size, 6, none⟩ = some (.int .u32 0) := bf.cell 6
            have t7 : wf.cell? ⟨w.heap.size, 7, none⟩ = some (.int .u64 0) := bf.cell 7
            have t8 : wf.cell? ⟨w.heap.size, 8, none⟩ = some (.int .u64 0) := bf.cell 8
            clear bf
            refine bodyPost_ret (v := .tuple #[.agg (cellsQ zeroQ), .int .i64 230]) (by simp [results, Try.results10, go_sem, cellsQ, zeroQ, t0, t1, t2, t3, t4, t5, t6, t7, t8]; try rfl) rfl ?_
            exact ⟨rfl, hbf⟩
          · go_wp2
            have bf : Box (((((((((wc.setCell ⟨w.heap.size, 0, none⟩ (Value.int .u8 (at_ xs 0 1))).setCell ⟨w.heap.size, 1, none⟩ (Value.int .u32 (at_ xs 1 4))).setCell ⟨w.heap.size, 2, none⟩ (Value.int .u8 (at_ xs 5 1))).setCell ⟨w.heap.size, 3, none⟩ (Value.int .u32 (at_ xs 6 4))).setCell ⟨w.heap.size, 4, none⟩ (Value.int .u32 (at_ xs 10 4))).setCell ⟨w.heap.size, 5, none⟩ (Value.int .u32 (at_ xs 14 4))).setCell ⟨w.heap.size, 6, none⟩ (Value.int .u32 (at_ xs 18 4))).setCell ⟨w.heap.size, 7, none⟩ (Value.int .u64 (at_ xs 22 8))).setCell ⟨w.heap.size, 8, none⟩ (Value.int .u64 (at_ xs 30 8))) w.heap.size #[Value.int .u8 (at_ xs 0 1), Value.int .u32 (at_ xs 1 4), Value.int .u8 (at_ xs 5 1), Value.int .u32 (at_ xs 6 4), Value.int .u32 (at_ xs 10 4), Value.int .u32 (at_ xs 14 4), Value.int .u32 (at_ xs 18 4), Value.int .u64 (at_ xs 22 8), Value.int .u64 (at_ xs 30 8)] 27 := by (have bf := (Box.set_ (Box.set_ (Box.set_ (Box.set_ (Box.set_ (Box.set_ (Box.set_ (Box.set_ (Box.set_ BR2.out 0 (Value.int .u8 (at_ xs 0 1))) 1 (Value.int .u32 (at_ xs 1 4))) 2 (Value.int .u8 (at_ xs 5 1))) 3 (Value.int .u32 (at_ xs 6 4))) 4 (Value.int .u32 (at_ xs 10 4))) 5 (Value.int .u32 (at_ xs 14 4))) 6 (Value.int .u32 (at_ xs 18 4))) 7 (Value.int .u64 (at_ xs 22 8))) 8 (Value.int .u64 (at_ xs 30 8))); simpa only [List.setIfInBounds_toArray, List.set_cons_succ, List.set_cons_zero] using bf)
            have hbf : Below w.heap.size w (((((((((wc.setCell ⟨w.heap.size, 0, none⟩ (Value.int .u8 (at_ xs 0 1))).setCell ⟨w.heap.size, 1, none⟩ (Value.int .u32 (at_ xs 1 4))).setCell ⟨w.heap.size, 2, none⟩ (Value.int .u8 (at_ xs 5 1))).setCell ⟨w.heap.size, 3, none⟩ (Value.int .u32 (at_ xs 6 4))).setCell ⟨w.heap.size, 4, none⟩ (Value.int .u32 (at_ xs 10 4))).setCell ⟨w.heap.size, 5, none⟩ (Value.int .u32 (at_ xs 14 4))).setCell ⟨w.heap.size, 6, none⟩ (Value.int .u32 (at_ xs 18 4))).setCell ⟨w.heap.size, 7, none⟩ (Value.int .u64 (at_ xs 22 8))).setCell ⟨w.heap.size, 8, none⟩ (Value.int .u64 (at_ xs 30 8))) := (Below.setCell (Below.setCell (Below.setCell (Below.setCell (Below.setCell (Below.setCell (Below.setCell (Below.setCell (Below.setCell hbw4 (Nat.le_refl _) _) (Nat.le_refl _) _) (Nat.le_refl _) _) (Nat.le_refl _) _) (Nat.le_refl _) _) (Nat.le_refl _) _) (Nat.le_refl _) _) (Nat.le_refl _) _) (Nat.le_refl _) _)
            generalize (((((((((wc.setCell ⟨w.heap.size, 0, none⟩ (Value.int .u8 (at_ xs 0 1))).setCell ⟨w.heap.size, 1, none⟩ (Value.int .u32 (at_ xs 1 4))).setCell ⟨w.heap.size, 2, none⟩ (Value.int .u8 (at_ xs 5 1))).setCell ⟨w.heap.size, 3, none⟩ (Value.int .u32 (at_ xs 6 4))).setCell ⟨w.heap.size, 4, none⟩ (Value.int .u32 (at_ xs 10 4))).setCell ⟨w.heap.size, 5, none⟩ (Value.int .u32 (at_ xs 14 4))).setCell ⟨w.heap.size, 6, none⟩ (Value.int .u32 (at_ xs 18 4))).setCell ⟨w.heap.size, 7, none⟩ (Value.int .u64 (at_ xs 22 8))).setCell ⟨w.heap.size, 8, none⟩ (Value.int .u64 (at_ xs 30 8))) = wf at bf hbf ⊢
            have t0 : wf.cell? ⟨w.heap.size, 0, none⟩ = some (Value.int .u8 (at_ xs 0 1)) := bf.cell 0
            have t1 : wf.cell? ⟨w.heap.size, 1, none⟩ = some (Value.int .u32 (at_ xs 1 4)) := bf.cell 1
            have t2 : wf.cell? ⟨w.heap.size, 2, none⟩ = some (Value.int .u8 (at_ xs 5 1)) := bf.cell 2
            have t3 : wf.cell? ⟨w.heap.size, 3, none⟩ = some (Value.int .u32 (at_ xs 6 4)) := bf.cell 3
            have t4 : wf.cell? ⟨w.heap.size, 4, none⟩ = some (Value.int .u32 (at_ xs 10 4)) := bf.cell 4
            have t5 : wf.cell? ⟨w.heap.size, 5, none⟩ = some (Value.int .u32 (at_ xs 14 4)) := bf.cell 5
            have t6 : wf.cell? ⟨w.heap.size, 6, none⟩ = some (Value.int .u32 (at_ xs 18 4)) := bf.cell 6
            have t7 : wf.cell? ⟨w.heap.size, 7, none⟩ = some (Value.int .u64 (at_ xs 22 8)) := bf.cell 7
            have t8 : wf.cell? ⟨w.heap.size, 8, none⟩ = some (Value.int .u64 (at_ xs 30 8)) := bf.cell 8
            clear bf
            refine bodyPost_ret (v := .tuple #[.agg (cellsQ (ofB xs)), .int .i64 0]) (by simp [results, Try.results10, go_sem, cellsQ, ofB, t0, t1, t2, t3, t4, t5, t6, t7, t8]; try rfl) rfl ?_
            exact ⟨rfl, hbf⟩
  · have e1 : askedQ xs = zeroQ := by unfold askedQ; rw [if_neg (fun hh => h hh.1)]
    have e2 : askedE xs = 230 := by unfold askedE; rw [if_neg (fun hh => h hh.1)]
    rw [e1, e2]
    have hne : ((xs.length : Int) != 38) = true := by simp; omega
    clear e1 e2 h
    go_enter Try.func10, Try.ntmps10
    go_wp2
    refine bodyPost_ret (v := .tuple #[.agg (cellsQ zeroQ), .int .i64 230]) (by simp [results, Try.results10, go_sem, cellsQ, zeroQ]; try rfl) rfl ?_
    exact ⟨rfl, new_ (Below.refl _ _) _⟩
end Go.Proofs.Ytnajmdgheohpjaa.Codec
