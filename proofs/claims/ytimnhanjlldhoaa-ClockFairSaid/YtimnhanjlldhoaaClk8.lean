import Derived.Test.YtimnhanjlldhoaaClk7
import Derived.BigRegion
import Derived.Deep.LoopGhost
/- Which frame goes, by the document. -/
namespace Go.Proofs.Ytimnhanjlldhoaa.Clk
open Go.ChangeShapes Go.WideShapes Go.ChangeAt Go.RowKit Go.IntWalk Go.Proofs.Mem Go.Proofs.Clk
set_option linter.unusedVariables false
theorem RK.drew {w : World} {g ga gb gc h : Nat} {l : List Fm} (c : RK w g ga gb gc l h) : RK w.drew g ga gb gc l h := ⟨c.na, c.nb, c.nc, c.ab, c.ac, c.bc, c.top, c.ts, c.us, c.ps⟩
/-- the document's clock, and the way that the hand has still to go -/
def RwK (g ga gb gc n : Nat) (B : Int) (r : Nat × List Fm × Nat) (k : Nat) (W : World) : Prop := ∃ l h, RK W g ga gb gc l h ∧ l.length = n ∧ h < n ∧ Oks B l ∧ sw k l h = some r
theorem PickR.free {l : List Fm} {h : Nat} {r : Int × Bool × List Fm × Nat} (hr : PickR l h r) {j : Nat} (hj : j < l.length) (a : isFree (l.getD j z3) = true) (b : ∀ k, k < j → isFree (l.getD k z3) = false) : r = ((j : Int), true, l, h) := by
  rcases hr with ⟨i, hi, c, d, rfl⟩ | ⟨nf, _⟩
  · have : i = j := by
      rcases Nat.lt_trichotomy i j with e | e | e
      · rw [b i e] at c; cases c
      · exact e
      · rw [d j e] at a; cases a
    rw [this]
  · rw [nf j hj] at a; cases a
theorem PickR.none {l : List Fm} {h : Nat} {r : Int × Bool × List Fm × Nat} (hr : PickR l h r) (b : ∀ k, k < l.length → isFree (l.getD k z3) = false) (c : ∀ k, k < l.length → isLoose (l.getD k z3) = false) : r = (0, false, l, h) := by
  rcases hr with ⟨i, hi, a, _, _⟩ | ⟨_, ⟨_, rfl⟩ | ⟨⟨j, hj, a⟩, _⟩⟩
  · rw [b i hi] at a; cases a
  · rfl
  · rw [c j hj] at a; cases a
theorem PickR.round {l : List Fm} {h : Nat} {r : Int × Bool × List Fm × Nat} (hr : PickR l h r) (b : ∀ k, k < l.length → isFree (l.getD k z3) = false) (c : ∃ j, j < l.length ∧ isLoose (l.getD j z3) = true) : ∃ k x l' h', sw k l h = some (x, l', h') ∧ r = ((x : Int), true, l', h') := by
  rcases hr with ⟨i, hi, a, _, _⟩ | ⟨_, ⟨d, _⟩ | ⟨_, e⟩⟩
  · rw [b i hi] at a; cases a
  · obtain ⟨j, hj, a⟩ := c; rw [d j hj] at a; cases a
  · exact e
set_option maxRecDepth 100000 in
set_option maxHeartbeats 8000000 in
theorem pick_ref (w : World) (g ga gb gc h : Nat) (l : List Fm) (B : Int) (c : RK w g ga gb gc l h) (hl : l.length ≤ 64) (hh : h < l.length) (ho : Oks B l) (hB : 0 ≤ B) (r : Int × Bool × List Fm × Nat) (hr : PickR l h r) :
    Calls Try.prog 25 #[.pointer (some ⟨g, 0, none⟩)] w fun e w' => e = .returned (.tuple #[.int .i64 r.1, .bool r.2.1]) ∧ RK w' g ga gb gc r.2.2.1 r.2.2.2 ∧ Fr (fun k => k = g ∨ k = ga ∨ k = gb ∨ k = gc) w w' := by
  have C := Lib.hid c
  have HR := Lib.hid hr
  have s0 : w.cell? ⟨g, 0, none⟩ = some (.slice (some ⟨ga, 0, none⟩) l.length l.length) := c.top.cell 0
  have s2 : w.cell? ⟨g, 2, none⟩ = some (.slice (some ⟨gc, 0, none⟩) l.length l.length) := c.top.cell 2
  have HO := Lib.hid ho
  clear c hr ho
  go_enter Try.func25, Try.ntmps25
  go_wp2
  go_loopw [4, 5] (fun q c W => ∃ (j : Nat) (s : Bool), j ≤ l.length ∧ c = .int .i64 j ∧ q = .bool s ∧ (∀ i, i < j → isFree (l.getD i z3) = false) ∧ (s = true → ∃ i, i < l.length ∧ isLoose (l.getD i z3) = true) ∧ (s = false → ∀ i, i < j → isLoose (l.getD i z3) = false) ∧ W = w) (fun _ c _ => l.length - (intOf c).toNat)
  case atStart => exact ⟨0, false, by omega, rfl, rfl, (fun i hi => by omega), (fun x => by cases x), (fun _ i hi => by omega), rfl⟩
  case round =>
    obtain ⟨j, s, hj, rfl, rfl, hnf, hs1, hs2, rfl⟩ := hrel
    have NF := Lib.hid hnf
    have S1 := Lib.hid hs1
    have S2 := Lib.hid hs2
    clear hnf hs1 hs2
    by_cases hlt : j < l.length
    · have d1 : decide ((j : Int) < (l.length : Int)) = true := decide_eq_true (by omega)
      have d1' : decide (j < l.length) = true := decide_eq_true hlt
      have hw : wrap64 ((j : Int) + 1) = ((j + 1 : Nat) : Int) := by rw [wrap64_in _ (by omega)]; omega
      have k0 := (C.out.ts.cell j).trans (map_at hlt)
      have k2 := (C.out.ps.cell j).trans (map_at hlt)
      obtain ⟨f, hf⟩ : ∃ f, l.getD j z3 = f := ⟨_, rfl⟩
      rw [hf] at k0 k2
      have HF := Lib.hid hf
      clear hf
      obtain ⟨ft, fu, fp⟩ := f
      dsimp only at k0 k2
      cases ft
      · go_wp2
        go_ret2
        have e := HR.out.free hlt (by rw [HF.out]; rfl) NF.out
        subst e
        exact ⟨rfl, C.out, Fr.refl _ _⟩
      · have nf : ∀ i, i < j + 1 → isFree (l.getD i z3) = false := fun i hi => by
          by_cases e : i = j
          · rw [e, HF.out]; rfl
          · exact NF.out i (by omega)
        have NF' := Lib.hid nf
        clear nf
        cases s
        · by_cases hp : fp = 0
          · subst hp
            have hL : isLoose (l.getD j z3) = true := by rw [HF.out]; rfl
            have HL := Lib.hid hL
            clear hL
            go_wp2
            go_roundw
            case rel => exact ⟨j + 1, true, by omega, rfl, rfl, NF'.out, fun _ => ⟨j, hlt, HL.out⟩, (fun x => by cases x), trivial⟩
            case measure => simp [intOf]; omega
          · have dp : (fp == 0) = false := by simpa using hp
            have hL : isLoose (l.getD j z3) = false := by rw [HF.out]; exact decide_eq_false hp
            have HL := Lib.hid hL
            clear hL hp
            go_wp2
            go_roundw
            case rel =>
              refine ⟨j + 1, false, by omega, rfl, rfl, NF'.out, (fun x => by cases x), fun _ i hi => ?_, trivial⟩
              by_cases e : i = j
              · rw [e]; exact HL.out
              · exact S2.out rfl i (by omega)
            case measure => simp [intOf]; omega
        · go_wp2
          go_roundw
          case rel => exact ⟨j + 1, true, by omega, rfl, rfl, NF'.out, S1.out, (fun x => by cases x), trivial⟩
          case measure => simp [intOf]; omega
    · have d1 : decide ((j : Int) < (l.length : Int)) = false := decide_eq_false (by omega)
      have d1' : decide (j < l.length) = false := decide_eq_false hlt
      have ej : j = l.length := by omega
      cases s
      · have e := HR.out.none (fun k hk => NF.out k (by omega)) (fun k hk => S2.out rfl k (by omega))
        subst e
        go_wp2
        go_ret2
        exact ⟨rfl, C.out, Fr.refl _ _⟩
      · obtain ⟨k, x, l1, h1, hsw, e⟩ := HR.out.round (fun k hk => NF.out k (by omega)) (S1.out rfl)
        subst e
        obtain ⟨n, hn⟩ : ∃ n, l.length = n := ⟨_, rfl⟩
        have H0 := Lib.hid (show RwK g ga gb gc n B (x, l1, h1) k wr from ⟨l, h, C.out, hn, by omega, HO.out, hsw⟩)
        have hl' : n ≤ 64 := by omega
        clear hsw ej
        go_wp2
        go_loopg [6] k (fun k' _ W => RwK g ga gb gc n B (x, l1, h1) k' W ∧ Fr (fun k => k = g ∨ k = ga ∨ k = gb ∨ k = gc) wr W)
        case atStart => exact ⟨H0.out, Fr.refl _ _⟩
        case round =>
          obtain ⟨⟨l', h', c', hn', hh', ho', hk'⟩, hfr⟩ := hrel
          cases gk with
          | zero => cases hk'
          | succ m =>
            simp only [sw] at hk'
            subst hn'
            have c0 : wr.cell? ⟨g, 0, none⟩ = some (.slice (some ⟨ga, 0, none⟩) l'.length l'.length) := c'.top.cell 0
            have c1 : wr.cell? ⟨g, 1, none⟩ = some (.slice (some ⟨gb, 0, none⟩) l'.length l'.length) := c'.top.cell 1
            have c2 : wr.cell? ⟨g, 2, none⟩ = some (.slice (some ⟨gc, 0, none⟩) l'.length l'.length) := c'.top.cell 2
            have c3 : wr.cell? ⟨g, 3, none⟩ = some (.int .i64 h') := c'.top.cell 3
            have zf := c'.top.frozen 3
            have hw : wrap64 ((h' : Int) + 1) = (h' : Int) + 1 := wrap64_in _ (by omega)
            have ht := tmod_nat h' l'.length
            have hz : ((l'.length : Int) == 0) = false := by rw [beq_eq_false_iff_ne]; omega
            have k1 := (c'.us.cell h').trans (map_at hh')
            have k2 := (c'.ps.cell h').trans (map_at hh')
            have zu := c'.us.frozen h'
            have d2 : decide ((h' : Int) < (l'.length : Int)) = true := decide_eq_true (by omega)
            have d2' : decide (h' < l'.length) = true := decide_eq_true (by omega)
            have na := c'.na
            have nb := c'.nb
            have nc := c'.nc
            have bc := c'.bc
            have na' := Ne.symm na
            have nb' := Ne.symm nb
            have nc' := Ne.symm nc
            have bc' := Ne.symm bc
            have hlt2 := Nat.mod_lt (h' + 1) (show 0 < l'.length by omega)
            have cc := c'.hand ((h' + 1) % l'.length)
            rw [show (((h' + 1) % l'.length : Nat) : Int) = ((h' : Int) + 1) % (l'.length : Int) from rfl] at cc
            have cu := (cc.drew).u hh' false
            obtain ⟨q0, q1, q2⟩ := ho'.at_ hB h'
            have ou : Oks B (l'.set h' { l'.getD h' z3 with u := false }) := ho'.set (f := { l'.getD h' z3 with u := false }) ⟨q0, q1, fun x => ⟨rfl, (q2 x).2⟩⟩ h'
            have RC := Lib.hid cc.drew
            have CU := Lib.hid cu
            have HL := Lib.hid hlt2
            have HK := Lib.hid hk'
            have HF := Lib.hid hfr
            have OO := Lib.hid ho'
            have OU := Lib.hid ou
            clear cc cu hlt2 c' hk' hfr ho' ou q2
            generalize l'.getD h' z3 = f at *
            obtain ⟨ft, fu, fp⟩ := f
            dsimp only at *
            by_cases hp : 0 < fp
            · have dp : (fp == 0) = false := by rw [beq_eq_false_iff_ne]; omega
              go_wp2
              go_region
              go_wp2
              go_roundg m
              case measure => omega
              case rel =>
                refine ⟨⟨l', _, RC.out, rfl, HL.out, OO.out, ?_⟩, (HF.out.setCell (.inl (.inl rfl)) _).drew⟩
                have := HK.out
                rwa [if_pos hp] at this
            · have e0 : fp = 0 := by omega
              subst e0
              cases fu
              · go_wp2
                go_region
                go_wp2
                go_ret2
                have := HK.out
                rw [if_neg (by omega)] at this
                simp only [if_false, Bool.false_eq_true] at this
                injection this with this
                injection this with a1 a2
                injection a2 with a2 a3
                subst a1; subst a2; subst a3
                exact ⟨rfl, RC.out, (HF.out.setCell (.inl (.inl rfl)) _).drew⟩
              · go_wp2
                go_region
                go_wp2
                go_roundg m
                case measure => omega
                case rel =>
                  refine ⟨⟨_, _, CU.out, by rw [List.length_set], HL.out, OU.out, ?_⟩, ((HF.out.setCell (.inl (.inl rfl)) _).drew).setCell (.inl (.inr (.inr (.inl rfl)))) _⟩
                  have := HK.out
                  rw [if_neg (by omega)] at this
                  simpa only [if_true] using this
end Go.Proofs.Ytimnhanjlldhoaa.Clk
