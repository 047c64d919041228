import Derived.Test.YthbbnebanmpcjaaPgU
/- Law's helpers: heavy. -/
namespace Go.Proofs.Ythbbnebanmpcjaa.Pg
open Go.ChangeShapes Go.WideShapes Go.ChangeAt Go.RowKit Go.IntWalk Go.Proofs.Mem Go.Proofs.Ythbbnebanmpcjaa.Law
set_option linter.unusedVariables false
set_option linter.unusedSimpArgs false
def big (x : Pi) : Bool := decide (200 < x.o.xs.length)
def hvy (l : List Pi) : Bool := decide (120 < l.length) || l.any big
theorem hvy_at {l : List Pi} {j : Nat} (hj : j < l.length) (hb : big l[j] = true) : hvy l = true := by
  unfold hvy
  rw [List.any_eq_true.2 ⟨l[j], List.getElem_mem hj, hb⟩, Bool.or_true]
theorem hvy_no {l : List Pi} (h3 : ¬ 120 < l.length) (h : ∀ i (hi : i < l.length), big l[i] = false) : hvy l = false := by
  unfold hvy
  rw [decide_eq_false h3]
  simp only [Bool.false_or]
  refine List.any_eq_false.2 fun x hx => ?_
  obtain ⟨i, hi, rfl⟩ := List.mem_iff_getElem.1 hx
  rw [h i hi]
  decide
theorem hvy_len {l : List Pi} (h : hvy l = false) : l.length ≤ 120 := by
  unfold hvy at h
  have := (Bool.or_eq_false_iff.1 h).1
  have := of_decide_eq_false this
  omega
set_option maxRecDepth 100000 in
set_option maxHeartbeats 8000000 in
theorem heavy_any (w : World) (A : Option Addr) (c : Nat) (xl : List Pi) (hcm : c ≤ 9223372036854775807) (hlc : xl.length ≤ c) (hl : SS cPi 4 w w.heap.size (.slice A xl.length c) xl) (bl : ∀ x ∈ xl, PiAt w w.heap.size x) :
    Calls Try.prog 9 #[.slice A xl.length c] w fun e w' => e = .returned (.bool (hvy xl)) ∧ w' = w := by
  have HL := Lib.hid hl
  have BL := Lib.hid (fun x hx => (bl x hx).2.form)
  clear hl bl
  by_cases a3 : 120 < xl.length
  · have e : hvy xl = true := by unfold hvy; rw [decide_eq_true a3]; simp
    rw [e]
    have d3 : decide ((120 : Int) < (xl.length : Int)) = true := decide_eq_true (by omega)
    clear a3 e
    go_enter Try.func9, Try.ntmps9
    go_wp2
    go_ret
    exact ⟨rfl, rfl⟩
  · have HN := Lib.hid (fun h => hvy_no (l := xl) a3 h)
    have d3 : decide ((120 : Int) < (xl.length : Int)) = false := decide_eq_false (by omega)
    go_enter Try.func9, Try.ntmps9
    go_wp2
    go_loopw [3] (fun i wr => ∃ j : Nat, i = .int .i64 j ∧ j ≤ xl.length ∧ Hid (∀ k (hk : k < xl.length), k < j → big xl[k] = false) ∧ w = wr) (fun i _ => xl.length - (intOf i).toNat)
    case atStart => exact ⟨0, rfl, by omega, Lib.hid (fun k hk h => absurd h (by omega)), rfl⟩
    case round =>
      obtain ⟨j, rfl, hj, HB, rfl⟩ := hrel
      by_cases hlt : j < xl.length
      · obtain ⟨A1, c1, e1, _⟩ := BL.out xl[j] (List.getElem_mem hlt)
        obtain ⟨b, off, rfl, hb, hcell⟩ := HL.out.at_ (List.getElem?_eq_getElem hlt)
        have y0 : w.cell? ⟨b, off + j * 4 + 2, none⟩ = some (.slice A1 xl[j].o.xs.length c1) := (hcell 2 _ rfl).trans (congrArg some e1)
        have HG := Lib.hid (fun (hh : big xl[j] = true) => hvy_at hlt hh)
        have HF := Lib.hid (fun (hh : big xl[j] = false) (k : Nat) (hk : k < xl.length) (hkj : k < j + 1) => show big xl[k] = false from by
          rcases Nat.lt_or_ge k j with h | h
          · exact HB.out k hk h
          · have : k = j := by omega
            subst this
            exact hh)
        obtain ⟨n1, hn1⟩ : ∃ n, n = xl[j].o.xs.length := ⟨_, rfl⟩
        have hbg : big xl[j] = decide (200 < n1) := by unfold big; rw [hn1]
        rw [← hn1] at y0
        rw [hbg] at HG HF
        clear hcell e1 hn1 hbg
        by_cases g1 : 200 < n1
        · have HG' := Lib.hid (HG.out (decide_eq_true g1))
          have d4 : decide ((200 : Int) < (n1 : Int)) = true := decide_eq_true (by omega)
          clear HG HF
          go_wp2
          go_ret
          exact ⟨by rw [HG'.out]; rfl, rfl⟩
        · have HF' := Lib.hid (HF.out (decide_eq_false g1))
          have d4 : decide ((200 : Int) < (n1 : Int)) = false := decide_eq_false (by omega)
          clear HG HF
          go_wp2
          go_roundw
          case rel => exact ⟨j + 1, by go_num, by omega, HF', trivial⟩
          case measure => simp [intOf]; omega
      · have hje : j = xl.length := by omega
        have HE := Lib.hid (HN.out (fun i hi => HB.out i hi (by omega)))
        go_wp2
        go_ret
        exact ⟨by rw [HE.out]; rfl, rfl⟩
end Go.Proofs.Ythbbnebanmpcjaa.Pg
