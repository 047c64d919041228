import Derived.Test.YtnajmdgheohpjaaCodec2
import Derived.Test.YtnajmdgheohpjaaBox
import Derived.Deep.QuietTactic
import Derived.BigQuiet
import Derived.Test.YtnajmdgheohpjaaEach8
/- The document's reply out of bytes. -/
namespace Go.Proofs.Ytnajmdgheohpjaa.Codec
open Go.ChangeShapes Go.WideShapes Go.ChangeAt Go.RowKit Go.IntWalk Go.Proofs.NumMath Go.Proofs.Mem NumBytes Go.Proofs.Each
set_option linter.unusedVariables false
set_option maxRecDepth 100000 in
set_option maxHeartbeats 8000000 in
theorem told_ref (v : Value) (xs : List Int) (hx : Bytes xs) (w : World) (hv : IR w w.heap.size .u8 v xs) (hl : xs.length ≤ 1000) :
    Calls Try.prog 15 #[v] w fun e w' => e = .returned (.tuple #[.agg (cellsP (toldP xs)), .int .i64 (toldE xs)]) ∧ Below w.heap.size w w' := by
  obtain ⟨A, c, rfl, hlc, hcm⟩ := hv.form
  unfold maxLen at hcm
  by_cases h : xs.length = 26
  · have e1 : toldP xs = ofP xs := by unfold toldP; rw [if_pos h]
    have e2 : toldE xs = 0 := by unfold toldE; rw [if_pos h]
    rw [e1, e2]
    clear e1 e2
    have hne : ((xs.length : Int) != 26) = false := by simp; omega
    rw [h] at hv hlc
    have W1 := hv.alloc (Nat.le_refl _) (.cells #[.int .u16 0, .int .u64 0, .int .u64 0, .int .u64 0] 41)
    obtain ⟨q0, q1⟩ := b2 xs hx 0
    have h2 := fun W (hW : ∀ p : Addr, p.block < w.heap.size → W.cell? p = w.cell? p) => get_ref _ _ W w.heap.size ((hv.take (m := 2) (by omega)).keep hW) (bytes_take hx 2)
    have ha := fun W (hW : ∀ p : Addr, p.block < w.heap.size → W.cell? p = w.cell? p) => get_ref _ _ W w.heap.size ((IR.sub hv 2 8 (by omega) (by omega)).keep hW) (bytes_take (bytes_drop hx 2) 8)
    have hb := fun W (hW : ∀ p : Addr, p.block < w.heap.size → W.cell? p = w.cell? p) => get_ref _ _ W w.heap.size ((IR.sub hv 10 8 (by omega) (by omega)).keep hW) (bytes_take (bytes_drop hx 10) 8)
    have hc := fun W (hW : ∀ p : Addr, p.block < w.heap.size → W.cell? p = w.cell? p) => get_ref _ _ W w.heap.size ((IR.sub hv 18 8 (by omega) (by omega)).keep hW) (bytes_take (bytes_drop hx 18) 8)
    rw [show getS (xs.take 2) = at_ xs 0 2 by unfold at_; rw [List.drop_zero]] at h2
    rw [show getS ((xs.drop 2).take 8) = at_ xs 2 8 from rfl] at ha
    rw [show getS ((xs.drop 10).take 8) = at_ xs 10 8 from rfl] at hb
    rw [show getS ((xs.drop 18).take 8) = at_ xs 18 8 from rfl] at hc
    have H2 := Lib.hid h2
    have HA := Lib.hid ha
    have HB := Lib.hid hb
    have HC := Lib.hid hc
    have HL := Lib.hid h
    clear h2 ha hb hc W1 hv
    have k2 : ¬ c = 2 := by omega
    have k10 : ¬ c = 10 := by omega
    have k18 : ¬ c = 18 := by omega
    have g2 : (2 : Int) ≤ (c : Int) := by omega
    have g10 : (10 : Int) ≤ (c : Int) := by omega
    have g18 : (18 : Int) ≤ (c : Int) := by omega
    have g26 : (26 : Int) ≤ (c : Int) := by omega
    rw [h] at hne ⊢
    clear h
    go_enter Try.func15, Try.ntmps15
    go_wp2
    refine wp_region_one (by kernel_rfl) (by kernel_rfl) w w.heap.size 4 41 #[Value.int .u16 (at_ xs 0 2), Value.int .u64 (at_ xs 2 8), Value.int .u64 (at_ xs 10 8), Value.int .u64 (at_ xs 18 8)] 14 [Value.slice A 26 c, Value.slice A 2 c, Value.int .u64 (at_ xs 0 2), Value.int .u16 (at_ xs 0 2), Value.slice A 26 c, Value.slice (A.map (·.add 2)) 8 (c - 2), Value.int .u64 (at_ xs 2 8), Value.slice A 26 c, Value.slice (A.map (·.add 10)) 8 (c - 10), Value.int .u64 (at_ xs 10 8), Value.slice A 26 c, Value.slice (A.map (·.add 18)) 8 (c - 18), Value.int .u64 (at_ xs 18 8), Value.agg #[Value.int .u16 (at_ xs 0 2), Value.int .u64 (at_ xs 2 8), Value.int .u64 (at_ xs 10 8), Value.int .u64 (at_ xs 18 8)], undef, Value.int .i64 0] rfl (by decide) (new_ (Below.refl w.heap.size w) _) #[.int .u16 0, .int .u64 0, .int .u64 0, .int .u64 0] (Box.new w _ _) rfl (fun vals => ?_) (fun vals W hbW hbox hall => ?_)
    · simp only [ObC, Act.put, List.setIfInBounds_toArray, List.set_cons_succ, List.set_cons_zero]
      refine ⟨?_, ?_, ?_, ?_, ?_, ?_, ?_, ?_, ?_, ?_, ?_, ?_, ?_, ?_, ?_, ?_, trivial⟩
      · intro W hbW hw
        obtain ⟨hbW, Cc, hbx, hcz⟩ := hbW
        clear hw
        refine step_plain rfl ?_
        go_simp
        (first | exact ⟨Rq.same (by decide) _, Fq.val (by decide) rfl rfl⟩ | exact ⟨_, rfl, Rq.same (by decide) _, Fq.val (by decide) rfl rfl⟩)
      · intro W hbW hw
        obtain ⟨hbW, Cc, hbx, hcz⟩ := hbW
        have f0 : vals 0 = Value.slice A 26 c := (hw ⟨0, .data⟩ (by simp) rfl).get (by decide) rfl
        clear hw
        refine step_plain rfl ?_
        go_simp
        (first | exact ⟨Rq.same (by decide) _, Fq.val (by decide) rfl rfl⟩ | exact ⟨_, rfl, Rq.same (by decide) _, Fq.val (by decide) rfl rfl⟩)
      · intro W hbW hw
        obtain ⟨hbW, Cc, hbx, hcz⟩ := hbW
        have f1 : vals 1 = Value.slice A 2 c := (hw ⟨1, .data⟩ (by simp) rfl).get (by decide) rfl
        clear hw
        refine step_plain rfl ?_
        go_simp
        refine (H2.out _ (fun p hp => hbW.cell (p := p) hp)).mono ?_
        rintro e W1 ⟨rfl, d, rfl⟩
        exact ⟨Rq.drewN (by decide) _ _, Fq.val (by decide) rfl rfl⟩
      · intro W hbW hw
        obtain ⟨hbW, Cc, hbx, hcz⟩ := hbW
        have f2 : vals 2 = Value.int .u64 (at_ xs 0 2) := (hw ⟨2, .data⟩ (by simp) rfl).get (by decide) rfl
        clear hw
        refine step_plain rfl ?_
        have hwr : IntKind.u16.wrap (at_ xs 0 2) = at_ xs 0 2 := by rw [IntKind.wrap_u16]; omega
        go_simp
        (first | exact ⟨Rq.same (by decide) _, Fq.val (by decide) rfl rfl⟩ | exact ⟨_, rfl, Rq.same (by decide) _, Fq.val (by decide) rfl rfl⟩)
      · intro W hbW hw
        obtain ⟨hbW, Cc, hbx, hcz⟩ := hbW
        clear hw
        refine step_plain rfl ?_
        go_simp
        (first | exact ⟨Rq.same (by decide) _, Fq.val (by decide) rfl rfl⟩ | exact ⟨_, rfl, Rq.same (by decide) _, Fq.val (by decide) rfl rfl⟩)
      · intro W hbW hw
        obtain ⟨hbW, Cc, hbx, hcz⟩ := hbW
        have f4 : vals 4 = Value.slice A 26 c := (hw ⟨4, .data⟩ (by simp) rfl).get (by decide) rfl
        clear hw
        refine step_plain rfl ?_
        go_simp
        (first | exact ⟨Rq.same (by decide) _, Fq.val (by decide) rfl rfl⟩ | exact ⟨_, rfl, Rq.same (by decide) _, Fq.val (by decide) rfl rfl⟩)
      · intro W hbW hw
        obtain ⟨hbW, Cc, hbx, hcz⟩ := hbW
        have f5 : vals 5 = Value.slice (A.map (·.add 2)) 8 (c - 2) := (hw ⟨5, .data⟩ (by simp) rfl).get (by decide) rfl
        have f2 : vals 2 = Value.int .u64 (at_ xs 0 2) := (hw ⟨2, .chain⟩ (by simp) rfl).get (by decide) rfl
        clear hw
        refine step_plain rfl ?_
        go_simp
        refine (HA.out _ (fun p hp => hbW.cell (p := p) hp)).mono ?_
        rintro e W1 ⟨rfl, d, rfl⟩
        exact ⟨Rq.drewN (by decide) _ _, Fq.val (by decide) rfl rfl⟩
      · intro W hbW hw
        obtain ⟨hbW, Cc, hbx, hcz⟩ := hbW
        clear hw
        refine step_plain rfl ?_
        go_simp
        (first | exact ⟨Rq.same (by decide) _, Fq.val (by decide) rfl rfl⟩ | exact ⟨_, rfl, Rq.same (by decide) _, Fq.val (by decide) rfl rfl⟩)
      · intro W hbW hw
        obtain ⟨hbW, Cc, hbx, hcz⟩ := hbW
        have f7 : vals 7 = Value.slice A 26 c := (hw ⟨7, .data⟩ (by simp) rfl).get (by decide) rfl
        clear hw
        refine step_plain rfl ?_
        go_simp
        (first | exact ⟨Rq.same (by decide) _, Fq.val (by decide) rfl rfl⟩ | exact ⟨_, rfl, Rq.same (by decide) _, Fq.val (by decide) rfl rfl⟩)
      · intro W hbW hw
        obtain ⟨hbW, Cc, hbx, hcz⟩ := hbW
        have f8 : vals 8 = Value.slice (A.map (·.add 10)) 8 (c - 10) := (hw ⟨8, .data⟩ (by simp) rfl).get (by decide) rfl
        have f6 : vals 6 = Value.int .u64 (at_ xs 2 8) := (hw ⟨6, .chain⟩ (by simp) rfl).get (by decide) rfl
        clear hw
        refine step_plain rfl ?_
        go_simp
        refine (HB.out _ (fun p hp => hbW.cell (p := p) hp)).mono ?_
        rintro e W1 ⟨rfl, d, rfl⟩
        exact ⟨Rq.drewN (by decide) _ _, Fq.val (by decide) rfl rfl⟩
      · intro W hbW hw
        obtain ⟨hbW, Cc, hbx, hcz⟩ := hbW
        clear hw
        refine step_plain rfl ?_
        go_simp
        (first | exact ⟨Rq.same (by decide) _, Fq.val (by decide) rfl rfl⟩ | exact ⟨_, rfl, Rq.same (by decide) _, Fq.val (by decide) rfl rfl⟩)
      · intro W hbW hw
        obtain ⟨hbW, Cc, hbx, hcz⟩ := hbW
        have f10 : vals 10 = Value.slice A 26 c := (hw ⟨10, .data⟩ (by simp) rfl).get (by decide) rfl
        clear hw
        refine step_plain rfl ?_
        go_simp
        (first | exact ⟨Rq.same (by decide) _, Fq.val (by decide) rfl rfl⟩ | exact ⟨_, rfl, Rq.same (by decide) _, Fq.val (by decide) rfl rfl⟩)
      · intro W hbW hw
        obtain ⟨hbW, Cc, hbx, hcz⟩ := hbW
        have f11 : vals 11 = Value.slice (A.map (·.add 18)) 8 (c - 18) := (hw ⟨11, .data⟩ (by simp) rfl).get (by decide) rfl
        have f9 : vals 9 = Value.int .u64 (at_ xs 10 8) := (hw ⟨9, .chain⟩ (by simp) rfl).get (by decide) rfl
        clear hw
        refine step_plain rfl ?_
        go_simp
        refine (HC.out _ (fun p hp => hbW.cell (p := p) hp)).mono ?_
        rintro e W1 ⟨rfl, d, rfl⟩
        exact ⟨Rq.drewN (by decide) _ _, Fq.val (by decide) rfl rfl⟩
      · intro W hbW hw
        obtain ⟨hbW, Cc, hbx, hcz⟩ := hbW
        have f3 : vals 3 = Value.int .u16 (at_ xs 0 2) := (hw ⟨3, .data⟩ (by simp) rfl).get (by decide) rfl
        have f6 : vals 6 = Value.int .u64 (at_ xs 2 8) := (hw ⟨6, .data⟩ (by simp) rfl).get (by decide) rfl
        have f9 : vals 9 = Value.int .u64 (at_ xs 10 8) := (hw ⟨9, .data⟩ (by simp) rfl).get (by decide) rfl
        have f12 : vals 12 = Value.int .u64 (at_ xs 18 8) := (hw ⟨12, .data⟩ (by simp) rfl).get (by decide) rfl
        clear hw
        refine step_plain rfl ?_
        go_simp
        (first | exact ⟨Rq.same (by decide) _, Fq.val (by decide) rfl rfl⟩ | exact ⟨_, rfl, Rq.same (by decide) _, Fq.val (by decide) rfl rfl⟩)
      · intro W hbW hw
        obtain ⟨hbW, Cc, hbx, hcz⟩ := hbW
        have f13 : vals 13 = Value.agg #[Value.int .u16 (at_ xs 0 2), Value.int .u64 (at_ xs 2 8), Value.int .u64 (at_ xs 10 8), Value.int .u64 (at_ xs 18 8)] := (hw ⟨13, .data⟩ (by simp) rfl).get (by decide) rfl
        have f12 : vals 12 = Value.int .u64 (at_ xs 18 8) := (hw ⟨12, .chain⟩ (by simp) rfl).get (by decide) rfl
        have f0 : vals 0 = Value.slice A 26 c := (hw ⟨0, .phase⟩ (by simp) rfl).get (by decide) rfl
        have f1 : vals 1 = Value.slice A 2 c := (hw ⟨1, .phase⟩ (by simp) rfl).get (by decide) rfl
        have f2 : vals 2 = Value.int .u64 (at_ xs 0 2) := (hw ⟨2, .phase⟩ (by simp) rfl).get (by decide) rfl
        have f3 : vals 3 = Value.int .u16 (at_ xs 0 2) := (hw ⟨3, .phase⟩ (by simp) rfl).get (by decide) rfl
        have f4 : vals 4 = Value.slice A 26 c := (hw ⟨4, .phase⟩ (by simp) rfl).get (by decide) rfl
        have f5 : vals 5 = Value.slice (A.map (·.add 2)) 8 (c - 2) := (hw ⟨5, .phase⟩ (by simp) rfl).get (by decide) rfl
        have f6 : vals 6 = Value.int .u64 (at_ xs 2 8) := (hw ⟨6, .phase⟩ (by simp) rfl).get (by decide) rfl
        have f7 : vals 7 = Value.slice A 26 c := (hw ⟨7, .phase⟩ (by simp) rfl).get (by decide) rfl
        have f8 : vals 8 = Value.slice (A.map (·.add 10)) 8 (c - 10) := (hw ⟨8, .phase⟩ (by simp) rfl).get (by decide) rfl
        have f9 : vals 9 = Value.int .u64 (at_ xs 10 8) := (hw ⟨9, .phase⟩ (by simp) rfl).get (by decide) rfl
        have f10 : vals 10 = Value.slice A 26 c := (hw ⟨10, .phase⟩ (by simp) rfl).get (by decide) rfl
        have f11 : vals 11 = Value.slice (A.map (·.add 18)) 8 (c - 18) := (hw ⟨11, .phase⟩ (by simp) rfl).get (by decide) rfl
        clear hw
        refine step_plain rfl ?_
        obtain ⟨x0, x1, x2, x3, rfl⟩ := arr4 hcz
        have c0 : W.cell? ⟨w.heap.size, 0, none⟩ = some x0 := hbx.cell 0
        have c1 : W.cell? ⟨w.heap.size, 1, none⟩ = some x1 := hbx.cell 1
        have c2 : W.cell? ⟨w.heap.size, 2, none⟩ = some x2 := hbx.cell 2
        have c3 : W.cell? ⟨w.heap.size, 3, none⟩ = some x3 := hbx.cell 3
        have z0 := hbx.frozen 0
        have z1 := hbx.frozen 1
        have z2 := hbx.frozen 2
        have z3 := hbx.frozen 3
        have bf := (Box.set_ (Box.set_ (Box.set_ (Box.set_ hbx 0 (Value.int .u16 (at_ xs 0 2))) 1 (Value.int .u64 (at_ xs 2 8))) 2 (Value.int .u64 (at_ xs 10 8))) 3 (Value.int .u64 (at_ xs 18 8)))
        simp only [List.setIfInBounds_toArray, List.set_cons_succ, List.set_cons_zero] at bf
        have hb2 : Below w.heap.size W ((((W.setCell ⟨w.heap.size, 0, none⟩ (Value.int .u16 (at_ xs 0 2))).setCell ⟨w.heap.size, 1, none⟩ (Value.int .u64 (at_ xs 2 8))).setCell ⟨w.heap.size, 2, none⟩ (Value.int .u64 (at_ xs 10 8))).setCell ⟨w.heap.size, 3, none⟩ (Value.int .u64 (at_ xs 18 8))) := (Below.setCell (Below.setCell (Below.setCell (Below.setCell (Below.refl w.heap.size W) (Nat.le_refl _) _) (Nat.le_refl _) _) (Nat.le_refl _) _) (Nat.le_refl _) _)
        have BF := Lib.hid bf
        clear bf
        go_simp
        (first | exact ⟨Rq.last BF.out hb2, undef, Fq.last BF.out⟩ | exact ⟨Rq.last BF.out hb2, Fq.last BF.out⟩)
      · intro W hbW hw
        obtain ⟨hbW, Cc, hbx, hcz⟩ := hbW
        have f0 : vals 0 = Value.slice A 26 c := (hw ⟨0, .phase⟩ (by simp) rfl).get (by decide) rfl
        have f1 : vals 1 = Value.slice A 2 c := (hw ⟨1, .phase⟩ (by simp) rfl).get (by decide) rfl
        have f2 : vals 2 = Value.int .u64 (at_ xs 0 2) := (hw ⟨2, .phase⟩ (by simp) rfl).get (by decide) rfl
        have f3 : vals 3 = Value.int .u16 (at_ xs 0 2) := (hw ⟨3, .phase⟩ (by simp) rfl).get (by decide) rfl
        have f4 : vals 4 = Value.slice A 26 c := (hw ⟨4, .phase⟩ (by simp) rfl).get (by decide) rfl
        have f5 : vals 5 = Value.slice (A.map (·.add 2)) 8 (c - 2) := (hw ⟨5, .phase⟩ (by simp) rfl).get (by decide) rfl
        have f6 : vals 6 = Value.int .u64 (at_ xs 2 8) := (hw ⟨6, .phase⟩ (by simp) rfl).get (by decide) rfl
        have f7 : vals 7 = Value.slice A 26 c := (hw ⟨7, .phase⟩ (by simp) rfl).get (by decide) rfl
        have f8 : vals 8 = Value.slice (A.map (·.add 10)) 8 (c - 10) := (hw ⟨8, .phase⟩ (by simp) rfl).get (by decide) rfl
        have f9 : vals 9 = Value.int .u64 (at_ xs 10 8) := (hw ⟨9, .phase⟩ (by simp) rfl).get (by decide) rfl
        have f10 : vals 10 = Value.slice A 26 c := (hw ⟨10, .phase⟩ (by simp) rfl).get (by decide) rfl
        have f11 : vals 11 = Value.slice (A.map (·.add 18)) 8 (c - 18) := (hw ⟨11, .phase⟩ (by simp) rfl).get (by decide) rfl
        have f12 : vals 12 = Value.int .u64 (at_ xs 18 8) := (hw ⟨12, .phase⟩ (by simp) rfl).get (by decide) rfl
        have f13 : vals 13 = Value.agg #[Value.int .u16 (at_ xs 0 2), Value.int .u64 (at_ xs 2 8), Value.int .u64 (at_ xs 10 8), Value.int .u64 (at_ xs 18 8)] := (hw ⟨13, .phase⟩ (by simp) rfl).get (by decide) rfl
        clear hw
        refine step_plain rfl ?_
        go_simp
        (first | exact ⟨Rq.same (by decide) _, Fq.val (by decide) rfl rfl⟩ | exact ⟨_, rfl, Rq.same (by decide) _, Fq.val (by decide) rfl rfl⟩)
    · simp only [TL, Act.put, List.setIfInBounds_toArray, List.set_cons_succ, List.set_cons_zero]
      have f0 : vals 0 = Value.slice A 26 c := hall 0 (by decide) (by decide)
      have f1 : vals 1 = Value.slice A 2 c := hall 1 (by decide) (by decide)
      have f2 : vals 2 = Value.int .u64 (at_ xs 0 2) := hall 2 (by decide) (by decide)
      have f3 : vals 3 = Value.int .u16 (at_ xs 0 2) := hall 3 (by decide) (by decide)
      have f4 : vals 4 = Value.slice A 26 c := hall 4 (by decide) (by decide)
      have f5 : vals 5 = Value.slice (A.map (·.add 2)) 8 (c - 2) := hall 5 (by decide) (by decide)
      have f6 : vals 6 = Value.int .u64 (at_ xs 2 8) := hall 6 (by decide) (by decide)
      have f7 : vals 7 = Value.slice A 26 c := hall 7 (by decide) (by decide)
      have f8 : vals 8 = Value.slice (A.map (·.add 10)) 8 (c - 10) := hall 8 (by decide) (by decide)
      have f9 : vals 9 = Value.int .u64 (at_ xs 10 8) := hall 9 (by decide) (by decide)
      have f10 : vals 10 = Value.slice A 26 c := hall 10 (by decide) (by decide)
      have f11 : vals 11 = Value.slice (A.map (·.add 18)) 8 (c - 18) := hall 11 (by decide) (by decide)
      have f12 : vals 12 = Value.int .u64 (at_ xs 18 8) := hall 12 (by decide) (by decide)
      have f13 : vals 13 = Value.agg #[Value.int .u16 (at_ xs 0 2), Value.int .u64 (at_ xs 2 8), Value.int .u64 (at_ xs 10 8), Value.int .u64 (at_ xs 18 8)] := hall 13 (by decide) (by decide)
      have f15 : vals 15 = Value.int .i64 0 := hall 15 (by decide) (by decide)
      clear hall
      simp only [f0, f1, f2, f3, f4, f5, f6, f7, f8, f9, f10, f11, f12, f13, f15]
      clear f0 f1 f2 f3 f4 f5 f6 f7 f8 f9 f10 f11 f12 f13 f15
      have t0 : W.cell? ⟨w.heap.size, 0, none⟩ = some (Value.int .u16 (at_ xs 0 2)) := hbox.cell 0
      have t1 : W.cell? ⟨w.heap.size, 1, none⟩ = some (Value.int .u64 (at_ xs 2 8)) := hbox.cell 1
      have t2 : W.cell? ⟨w.heap.size, 2, none⟩ = some (Value.int .u64 (at_ xs 10 8)) := hbox.cell 2
      have t3 : W.cell? ⟨w.heap.size, 3, none⟩ = some (Value.int .u64 (at_ xs 18 8)) := hbox.cell 3
      clear hbox
      go_wp2
      refine bodyPost_ret (v := .tuple #[.agg (cellsP (ofP xs)), .int .i64 0]) (by simp [results, Try.results15, go_sem, cellsP, ofP, t0, t1, t2, t3]; try rfl) rfl ?_
      exact ⟨rfl, hbW⟩
  · have e1 : toldP xs = zeroP := by unfold toldP; rw [if_neg h]
    have e2 : toldE xs = 230 := by unfold toldE; rw [if_neg h]
    rw [e1, e2]
    have hne : ((xs.length : Int) != 26) = true := by simp; omega
    clear e1 e2 h
    go_enter Try.func15, Try.ntmps15
    go_wp2
    refine bodyPost_ret (v := .tuple #[.agg (cellsP zeroP), .int .i64 230]) (by simp [results, Try.results15, go_sem, cellsP, zeroP]; try rfl) rfl ?_
    exact ⟨rfl, new_ (Below.refl _ _) _⟩
end Go.Proofs.Ytnajmdgheohpjaa.Codec
