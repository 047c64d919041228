import Derived.Test.YtplombkpefacgaaDkI
import Derived.Test.YtplombkpefacgaaSs
/- heavy. -/
namespace Go.Proofs.Ytplombkpefacgaa.Disk
open Go.ChangeShapes Go.WideShapes Go.ChangeAt Go.RowKit Go.IntWalk Go.Proofs.Mem Go.Proofs.Each Law
set_option linter.unusedVariables false
set_option linter.unusedSimpArgs false
/-- a call as it came in: its two slices' values beside it -/
structure Oi where
  o : Opn
  a : Value
  lb : Value
def cOi (x : Oi) : List Value := [.int .u8 x.o.k, .int .u8 x.o.f, .int .i64 x.o.s, x.a, x.lb]
def Oi.Ok (x : Oi) : Prop := x.o.Ok ∧ (∃ A c, x.a = .slice A x.o.xs.length c) ∧ ∃ A c, x.lb = .slice A x.o.fs.length c
def big (x : Oi) : Bool := decide (200 < x.o.xs.length) || decide (60 < x.o.fs.length)
def hvy (lg pg : Int) (l : List Oi) : Bool := decide (40 < lg) || decide (40 < pg) || decide (60 < l.length) || l.any big
theorem hvy_at {lg pg : Int} {l : List Oi} {j : Nat} (hj : j < l.length) (hb : big l[j] = true) : hvy lg pg l = true := by
  unfold hvy
  rw [List.any_eq_true.2 ⟨l[j], List.getElem_mem hj, hb⟩, Bool.or_true]
theorem hvy_no {lg pg : Int} {l : List Oi} (h1 : ¬ 40 < lg) (h2 : ¬ 40 < pg) (h3 : ¬ 60 < l.length) (h : ∀ i (hi : i < l.length), big l[i] = false) : hvy lg pg l = false := by
  unfold hvy
  rw [decide_eq_false h1, decide_eq_false h2, decide_eq_false h3]
  simp only [Bool.false_or]
  refine List.any_eq_false.2 fun x hx => ?_
  obtain ⟨i, hi, rfl⟩ := List.mem_iff_getElem.1 hx
  rw [h i hi]
  decide
set_option maxRecDepth 100000 in
set_option maxHeartbeats 8000000 in
theorem heavy_any (w : World) (lg pg : Int) (A : Option Addr) (c : Nat) (xl : List Oi) (hcm : c ≤ 9223372036854775807) (hlc : xl.length ≤ c) (hl : SS cOi 5 w w.heap.size (.slice A xl.length c) xl) (bl : ∀ x ∈ xl, x.Ok) :
    Calls Try.prog 9 #[.int .i64 lg, .int .i64 pg, .slice A xl.length c] w fun e w' => e = .returned (.bool (hvy lg pg xl)) ∧ w' = w := by
  have HL := Lib.hid hl
  have BL := Lib.hid bl
  clear hl bl
  by_cases a1 : 40 < lg
  · have e : hvy lg pg xl = true := by unfold hvy; rw [decide_eq_true a1]; simp
    rw [e]
    have d1 : decide ((40 : Int) < lg) = true := decide_eq_true a1
    clear a1 e
    go_enter Try.func9, Try.ntmps9
    go_wp2
    go_ret
    exact ⟨rfl, rfl⟩
  · by_cases a2 : 40 < pg
    · have e : hvy lg pg xl = true := by unfold hvy; rw [decide_eq_true a2]; simp
      rw [e]
      have d1 : decide ((40 : Int) < lg) = false := decide_eq_false a1
      have d2 : decide ((40 : Int) < pg) = true := decide_eq_true a2
      clear a1 a2 e
      go_enter Try.func9, Try.ntmps9
      go_wp2
      go_ret
      exact ⟨rfl, rfl⟩
    · by_cases a3 : 60 < xl.length
      · have e : hvy lg pg xl = true := by unfold hvy; rw [decide_eq_true a3]; simp
        rw [e]
        have d1 : decide ((40 : Int) < lg) = false := decide_eq_false a1
        have d2 : decide ((40 : Int) < pg) = false := decide_eq_false a2
        have d3 : decide ((60 : Int) < (xl.length : Int)) = true := decide_eq_true (by omega)
        clear a1 a2 a3 e
        go_enter Try.func9, Try.ntmps9
        go_wp2
        go_ret
        exact ⟨rfl, rfl⟩
      · have HN := Lib.hid (fun h => hvy_no (lg := lg) (pg := pg) (l := xl) a1 a2 a3 h)
        have d1 : decide ((40 : Int) < lg) = false := decide_eq_false a1
        have d2 : decide ((40 : Int) < pg) = false := decide_eq_false a2
        have d3 : decide ((60 : Int) < (xl.length : Int)) = false := decide_eq_false (by omega)
        clear a1 a2
        go_enter Try.func9, Try.ntmps9
        go_wp2
        go_loopw [7] (fun i wr => ∃ j : Nat, i = .int .i64 j ∧ j ≤ xl.length ∧ Hid (∀ k (hk : k < xl.length), k < j → big xl[k] = false) ∧ w = wr) (fun i _ => xl.length - (intOf i).toNat)
        case atStart => exact ⟨0, rfl, by omega, Lib.hid (fun k hk h => absurd h (by omega)), rfl⟩
        case round =>
          obtain ⟨j, rfl, hj, HB, rfl⟩ := hrel
          by_cases hlt : j < xl.length
          · have HQ := Lib.hid (BL.out xl[j] (List.getElem_mem hlt))
            obtain ⟨b, off, rfl, hb, hcell⟩ := HL.out.at_ (List.getElem?_eq_getElem hlt)
            obtain ⟨_, ⟨A1, c1, e1⟩, A2, c2, e2⟩ := HQ.out
            have y0 : w.cell? ⟨b, off + j * 5 + 3, none⟩ = some (.slice A1 xl[j].o.xs.length c1) := (hcell 3 _ rfl).trans (congrArg some e1)
            have y1 : w.cell? ⟨b, off + j * 5 + 4, none⟩ = some (.slice A2 xl[j].o.fs.length c2) := (hcell 4 _ rfl).trans (congrArg some e2)
            have HG := Lib.hid (fun (hh : big xl[j] = true) => hvy_at (lg := lg) (pg := pg) hlt hh)
            have HF := Lib.hid (fun (hh : big xl[j] = false) (k : Nat) (hk : k < xl.length) (hkj : k < j + 1) => show big xl[k] = false from by
              rcases Nat.lt_or_ge k j with h | h
              · exact HB.out k hk h
              · have : k = j := by omega
                subst this
                exact hh)
            obtain ⟨n1, hn1⟩ : ∃ n, n = xl[j].o.xs.length := ⟨_, rfl⟩
            obtain ⟨n2, hn2⟩ : ∃ n, n = xl[j].o.fs.length := ⟨_, rfl⟩
            have hbg : big xl[j] = (decide (200 < n1) || decide (60 < n2)) := by unfold big; rw [hn1, hn2]
            rw [← hn1] at y0
            rw [← hn2] at y1
            rw [hbg] at HG HF
            clear hcell e1 e2 hn1 hn2 hbg HQ
            by_cases g1 : 200 < n1
            · have HG' := Lib.hid (HG.out (by rw [decide_eq_true g1]; rfl))
              have d4 : decide ((200 : Int) < (n1 : Int)) = true := decide_eq_true (by omega)
              clear HG HF
              go_wp2
              go_ret
              exact ⟨by rw [HG'.out]; rfl, rfl⟩
            · have d4 : decide ((200 : Int) < (n1 : Int)) = false := decide_eq_false (by omega)
              by_cases g2 : 60 < n2
              · have HG' := Lib.hid (HG.out (by rw [decide_eq_true g2, Bool.or_true]))
                have d5 : decide ((60 : Int) < (n2 : Int)) = true := decide_eq_true (by omega)
                clear HG HF
                go_wp2
                go_ret
                exact ⟨by rw [HG'.out]; rfl, rfl⟩
              · have HF' := Lib.hid (HF.out (by rw [decide_eq_false g1, decide_eq_false g2]; rfl))
                have d5 : decide ((60 : Int) < (n2 : Int)) = false := decide_eq_false (by omega)
                clear HG HF
                go_wp2
                go_roundw
                case rel => exact ⟨j + 1, by go_num, by omega, HF', trivial⟩
                case measure => simp [intOf]; omega
          · have hje : j = xl.length := by omega
            have HE := Lib.hid (HN.out (fun i hi => HB.out i hi (by omega)))
            go_wp2
            go_ret
            exact ⟨by rw [HE.out]; rfl, rfl⟩
end Go.Proofs.Ytplombkpefacgaa.Disk
