import Derived.Test.YtplombkpefacgaaTab
import Derived.Test.YtplombkpefacgaaRows
import Derived.WalkKit
import Derived.ProofKit
import Derived.Lib.Hide
import Derived.Deep.QuietTactic
import Derived.BigQuiet
import Derived.Handy
/- Lists of bytes: lent, compared, measured (any seat that has these functions). -/
namespace Go.Proofs.Ytplombkpefacgaa.Blk
open Go.ChangeShapes Go.WideShapes Go.ChangeAt Go.RowKit Go.IntWalk Go.Proofs.Mem
set_option linter.unusedVariables false
theorem same_any (a b : Value) (xs ys : List Int) (w : World) (B B' : Nat) (ha : IR w B .u8 a xs) (hb : IR w B' .u8 b ys) (hx : Bytes xs) (hy : Bytes ys) :
    Calls Try.prog 25 #[a, b] w fun e w' => e = .returned (.bool (decide (xs = ys))) ∧ w = w' := by
  have h1 := ha.text (P := Try.prog) (dst := 9) Try.underlying30 Try.underlying5 Try.underlying9
  have h2 := hb.text (P := Try.prog) (dst := 9) Try.underlying30 Try.underlying5 Try.underlying9
  go_enter Try.func25, Try.ntmps25
  go_wp2
  go_ret
  exact ⟨by rw [← str_eq hx hy]; rfl, rfl⟩

theorem u8_info : (Try.prog.info? 5).map (fun i => (i.zero, i.size, i.bytes)) = some (some (.int .u8 0), 1, 1) := by kernel_rfl

theorem row_info : (Try.prog.info? 30).map (fun i => (i.zero, i.size, i.bytes)) = some (some (.slice none 0 0), 1, 24) := by kernel_rfl
set_option maxHeartbeats 800000 in
theorem lent_any (v : Value) (xs : List Int) (w : World) (B : Nat) (hv : IR w B .u8 v xs) (hl : xs.length ≤ 100000) :
    Calls Try.prog 38 #[v] w fun e w' => ∃ u, e = .returned u ∧ w'.ownsRow w.heap.size 5 1 u xs.length (xs.map (.int .u8)) ∧ Below w.heap.size w w' := by
  obtain ⟨i0, hi0, hz0, hz1, hz2⟩ := info_parts u8_info
  go_enter Try.func38, Try.ntmps38
  go_wp2_with (at_builtin; refine wpList_append_all _ rfl _ _ _ rfl w.heap.size 5 i0 .u8 1 Try.underlying30 hi0 hz0 hz1 hz2 _ 0 [] rfl (World.ownsRow_nil _ _ _ _) B _ xs rfl hv (by simp only [maxLen]; omega) (by omega) (Nat.le_refl _) ?_; intro v1 w1 hown1 hb1)
  go_ret
  exact ⟨_, rfl, by simpa using hown1, hb1⟩
theorem map_at {va : List (Value × List Int)} {i : Nat} {u : Value} {xs : List Int} (h : va[i]? = some (u, xs)) : (va.map (·.2))[i]? = some xs := by rw [List.getElem?_map, h]; rfl
theorem take_same {α : Type} {x y : List α} {i : Nat} {p : α} (h : x.take i = y.take i) (hx : x[i]? = some p) (hy : y[i]? = some p) : x.take (i + 1) = y.take (i + 1) := by
  rw [List.take_add_one, List.take_add_one, h, hx, hy]
def QuietBool (q : Bool) (w : World) (e : Ending) (w' : World) : Prop := e = .returned (.bool q) ∧ ∃ d, w' = w.drewN d
set_option maxHeartbeats 4000000 in
theorem same_blocks (a b : Value) (va vb : List (Value × List Int)) (w : World) (B B' : Nat) (ha : SR w B a va) (hb : SR w B' b vb) :
    Calls Try.prog 24 #[a, b] w (QuietBool (decide (va.map (·.2) = vb.map (·.2))) w) := by
  obtain ⟨q, hq⟩ : ∃ q, decide (va.map (·.2) = vb.map (·.2)) = q := ⟨_, rfl⟩
  rw [hq]
  have HQ := Lib.hid hq
  clear hq
  obtain ⟨A1, c1, rfl, hl1, hm1⟩ := ha.form
  obtain ⟨A2, c2, rfl, hl2, hm2⟩ := hb.form
  unfold maxLen at hm1 hm2
  by_cases hl : va.length = vb.length
  · have HA := Lib.hid ha
    have HB := Lib.hid hb
    have HL := Lib.hid hl
    have d1 : ((va.length : Int) == (vb.length : Int)) = true := by simp [hl]
    have d2 : ((va.length : Int) != (vb.length : Int)) = false := by simp [hl]
    clear ha hb hl
    go_enter Try.func24, Try.ntmps24
    go_wp2
    go_loopw [5] (fun i wr => ∃ k : Nat, i = .int .i64 k ∧ k ≤ va.length ∧ Hid ((va.map (·.2)).take k = (vb.map (·.2)).take k) ∧ ∃ d, Hid (wr = w.drewN d)) (fun i _ => va.length - (intOf i).toNat)
    case atStart => exact ⟨0, rfl, by omega, Lib.hid rfl, 0, Lib.hid rfl⟩
    case round =>
      obtain ⟨k, rfl, hk, HK, d, HW⟩ := hrel
      obtain rfl := HW.out
      by_cases hlt : k < va.length
      · obtain ⟨b1, o1, u1, x1, rfl, _, g1, e1, r1, y1⟩ := HA.out.index k hlt
        obtain ⟨b2, o2, u2, x2, rfl, _, g2, e2, r2, y2⟩ := HB.out.index k (by have := HL.out; omega)
        have hlt2 : k < vb.length := by have := HL.out; omega
        have q1 : decide ((k : Int) < (va.length : Int)) = true := decide_eq_true (by omega)
        have q1' : decide (k < va.length) = true := decide_eq_true hlt
        have q2 : decide ((k : Int) < (vb.length : Int)) = true := decide_eq_true (by have := HL.out; omega)
        have q2' : decide (k < vb.length) = true := decide_eq_true (by have := HL.out; omega)
        have t1 := fun (D : Nat) => (r1.drewN D).text (P := Try.prog) (dst := 9) Try.underlying30 Try.underlying5 Try.underlying9
        have t2 := fun (D : Nat) => (r2.drewN D).text (P := Try.prog) (dst := 9) Try.underlying30 Try.underlying5 Try.underlying9
        have se := str_eq y1 y2
        have M1 := Lib.hid (map_at g1)
        have M2 := Lib.hid (map_at g2)
        clear r1 r2 g1 g2
        by_cases he : x1 = x2
        · rw [decide_eq_true he] at se
          have HE := Lib.hid he
          clear he
          go_wp2
          go_quiet (fail)
          go_wp2
          go_roundw
          case rel => exact ⟨k + 1, by go_num, by omega, Lib.hid (take_same HK.out M1.out (by rw [HE.out]; exact M2.out)), _, Lib.hid rfl⟩
          case measure => simp [intOf]; omega
        · rw [decide_eq_false he] at se
          have HE := Lib.hid he
          have hne : (va.map (·.2)) ≠ (vb.map (·.2)) := fun e => by
            have h1 := M1.out; have h2 := M2.out
            rw [e, h2] at h1
            injection h1 with h1
            exact HE.out h1.symm
          have HN := Lib.hid (decide_eq_false hne)
          clear he hne
          go_wp2
          go_quiet (fail)
          go_wp2
          go_ret
          obtain rfl : q = false := HQ.out.symm.trans HN.out
          exact ⟨rfl, d + nq, by rw [World.drewN_drewN]⟩
      · have q1 : decide ((k : Int) < (va.length : Int)) = false := decide_eq_false (by omega)
        have q1' : decide (k < va.length) = false := decide_eq_false hlt
        have he : (va.map (·.2)) = (vb.map (·.2)) := by
          have h := HK.out
          have e := HL.out
          rwa [List.take_of_length_le (by rw [List.length_map]; omega), List.take_of_length_le (by rw [List.length_map]; omega)] at h
        have HE := Lib.hid (decide_eq_true he)
        clear he
        go_wp2
        go_ret
        obtain rfl : q = true := HQ.out.symm.trans HE.out
        exact ⟨rfl, _, rfl⟩
  · have hne : (va.map (·.2)) ≠ (vb.map (·.2)) := fun e => hl (by have := congrArg List.length e; simpa using this)
    have HN := Lib.hid (decide_eq_false hne)
    have d1 : ((va.length : Int) == (vb.length : Int)) = false := by simp; omega
    have d2 : ((va.length : Int) != (vb.length : Int)) = true := by simp; omega
    have d3 : (va.length == vb.length) = false := by simpa using hl
    clear ha hb hne
    go_enter Try.func24, Try.ntmps24
    go_wp2
    go_ret
    obtain rfl : q = false := HQ.out.symm.trans HN.out
    exact ⟨rfl, 0, rfl⟩
/-- not too many, none too long -/
def Fit (m : Int) (va : List (Value × List Int)) : Prop := (va.length : Int) ≤ m ∧ ∀ (k : Nat) (p : Value × List Int), va[k]? = some p → p.2.length ≤ 200
theorem fit_dec (m : Int) (va : List (Value × List Int)) : ∃ q : Bool, q = true ↔ Fit m va := by
  by_cases h : Fit m va
  · exact ⟨true, ⟨fun _ => h, fun _ => rfl⟩⟩
  · exact ⟨false, ⟨(fun x => by cases x), fun x => absurd x h⟩⟩
set_option maxHeartbeats 4000000 in
theorem sectors_any (a : Value) (va : List (Value × List Int)) (w : World) (B : Nat) (ha : SR w B a va) (m : Int) (hm : 0 ≤ m ∧ m ≤ 1000) (q : Bool) (hq : q = true ↔ Fit m va) :
    Calls Try.prog 15 #[a, .int .i64 m] w fun e w' => e = .returned (.bool q) ∧ w = w' := by
  have HQ := Lib.hid hq
  clear hq
  obtain ⟨A, c, rfl, hlc, hcm⟩ := ha.form
  unfold maxLen at hcm
  have HA := Lib.hid ha
  clear ha
  by_cases hl : m < (va.length : Int)
  · have d1 : decide (m < (va.length : Int)) = true := decide_eq_true hl
    go_enter Try.func15, Try.ntmps15
    go_wp2
    go_ret
    obtain rfl : q = false := by
      cases q with
      | false => rfl
      | true => have := (HQ.out.1 rfl).1; omega
    exact ⟨rfl, rfl⟩
  · have d1 : decide (m < (va.length : Int)) = false := decide_eq_false hl
    go_enter Try.func15, Try.ntmps15
    go_wp2
    go_loop [5] (fun i => ∃ k : Nat, i = .int .i64 k ∧ k ≤ va.length ∧ Hid (∀ (j : Nat) (p : Value × List Int), j < k → va[j]? = some p → p.2.length ≤ 200)) (fun i => va.length - (intOf i).toNat)
    case atStart => exact ⟨0, rfl, by omega, Lib.hid (fun j p h => by omega)⟩
    case round =>
      obtain ⟨k, rfl, hk, HK⟩ := hrel
      by_cases hlt : k < va.length
      · obtain ⟨b1, o1, u1, x1, rfl, _, g1, e1, r1, y1⟩ := HA.out.index k hlt
        obtain ⟨A1, c1, rfl, hl1, hm1⟩ := r1.form
        have q1 : decide ((k : Int) < (va.length : Int)) = true := decide_eq_true (by omega)
        have q1' : decide (k < va.length) = true := decide_eq_true hlt
        have G1 := Lib.hid g1
        clear g1 r1
        by_cases hx : 200 < x1.length
        · have q2 : decide (200 < (x1.length : Int)) = true := decide_eq_true (by omega)
          have q2' : decide (200 < x1.length) = true := decide_eq_true hx
          go_wp2
          go_ret
          obtain rfl : q = false := by
            cases q with
            | false => rfl
            | true => have h1 := (HQ.out.1 rfl).2 k _ G1.out; dsimp only at h1; omega
          exact ⟨rfl, rfl⟩
        · have q2 : decide (200 < (x1.length : Int)) = false := decide_eq_false (by omega)
          have q2' : decide (200 < x1.length) = false := decide_eq_false hx
          go_wp2
          go_round
          case rel =>
            refine ⟨k + 1, by go_num, by omega, Lib.hid (fun j p hj hp => ?_)⟩
            by_cases e : j = k
            · subst e; rw [G1.out] at hp; injection hp with hp; subst hp; exact Nat.not_lt.1 hx
            · exact HK.out j p (by omega) hp
          case measure => simp [intOf]; omega
      · have q1 : decide ((k : Int) < (va.length : Int)) = false := decide_eq_false (by omega)
        have q1' : decide (k < va.length) = false := decide_eq_false hlt
        go_wp2
        go_ret
        obtain rfl : q = true := HQ.out.2 ⟨by omega, fun j p hp => HK.out j p (by have := (List.getElem?_eq_some_iff.1 hp).1; omega) hp⟩
        exact ⟨rfl, rfl⟩
end Go.Proofs.Ytplombkpefacgaa.Blk
