import Derived.Test.YtneaehimdmachaaRule5
import Derived.Deep.DeepCutAuto
/- Coins are minted. -/
namespace Go.Proofs.Ytneaehimdmachaa.Rule
open Go.ChangeShapes Go.WideShapes Go.ChangeAt Go.RowKit Go.IntWalk Go.Proofs.Mem
set_option linter.unusedVariables false
attribute [local go_sem ↓] Go.wp_at_zero Go.wp_at_succ
/-- what lies behind something put -/
def PutP (w : World) (g : Nat) (q : Ot) (v : Value) (i : Int) (p : Value) (base : Nat) (l : List Pu) (e : Ending) (w' : World) : Prop := e = .returned (.tuple #[]) ∧
      ∃ p', WorkAt w' g q v i p' ∧ w'.ownsRow base 51 6 p' l.length (putCells l) ∧ Fr (fun x => x = g ∨ p.ownBlock = some x) w w'
set_option maxHeartbeats 4000000 in
theorem amount_any (w : World) (g : Nat) (q : Ot) (v : Value) (i : Int) (p : Value) (base : Nat) (l : List Pu) (hb : WorkAt w g q v i p) (hown : w.ownsRow base 51 6 p l.length (putCells l)) (hg : g < base) (hl : l.length ≤ 1000) (hbase : base ≤ w.heap.size) (k a b A : Int) (hk : k ≠ 3) :
    Calls Try.prog 52 #[.pointer (some ⟨g, 0, none⟩), .agg #[.int .u8 k, .int .u32 a, .int .u32 b], .int .u64 A] w (PutP w g q v i p base (l ++ [Pu.mk k a b A 0 false])) := by
  have d1 : (k == 3) = false := by simpa using hk
  have call := put_any _ g q v i p base l (hb.alloc (.cells #[.int .u8 k, .int .u32 a, .int .u32 b] 24)) (own_below hown (new_ (Below.refl _ _) _)) hg hl (by simp; omega) k a b A 0
  have CALL := Lib.hid call
  clear hb hown call
  go_enter Try.func52, Try.ntmps52
  go_wp2_with (go_at_call 61; (with_reducible refine CALL.out.mono ?_); rintro e w1 ⟨rfl, p', wb, ow, fr⟩; have R := Lib.hid (And.intro wb (And.intro ow fr)); clear wb ow fr)
  go_end0
  exact ⟨rfl, p', R.out.1, R.out.2.1, ((Fr.refl _ _).alloc _).trans R.out.2.2⟩
theorem more_ok (a n : Int) (ha : 0 ≤ a) (hn : 0 ≤ n) (h : a + n ≤ 4611686018427387904) (w : World) : Calls Try.prog 54 #[.int .u64 a, .int .u64 n] w fun e w' => e = .returned (.int .u64 (a + n)) ∧ Below w.heap.size w w' := by
  have hs : Money.addS a n = (a + n, 0) := by unfold Money.addS; rw [if_neg (by omega)]
  have call := fun W => Money.add_any a n (by omega) (by omega) W
  rw [hs] at call
  dsimp only at call
  have CALL := Lib.hid call
  clear hs call
  go_enter Try.func54, Try.ntmps54
  go_wp2_with (first
    | (go_at_call 68; (with_reducible refine (CALL.out _).mono ?_); rintro e w1 ⟨rfl, hb1⟩; have HB1 := Lib.hid hb1; clear hb1)
    | (go_at_call 34; (with_reducible refine (deny_no 0 _).mono ?_); rintro e w2 ⟨rfl, rfl⟩))
  go_ret
  exact ⟨rfl, HB1.out⟩
set_option maxRecDepth 100000 in
set_option maxHeartbeats 4000000 in
theorem mint_miss (w : World) (g : Nat) (kd wh wm wt id n pr : Int) (A : Option Addr) (l c : Nat) (p : Value) (i : Nat) (hb : WorkAt w g ⟨kd, wh, wm, wt, id, n, pr⟩ (.slice A l c) i p) (hi : l ≤ i) (hm : i ≤ 1000000) :
    Calls Try.prog 37 #[.pointer (some ⟨g, 0, none⟩)] w fun e w' => e = .panicked (raiseK 1 wh 0) ∧ Below w.heap.size w w' := by
  have hlt := hb.lt
  have HB := Lib.hid hb
  have c1 := (wc_of hb).c1
  dsimp only at c1
  have c1' := hb.alloc (.cells #[.int .u16 0, .int .u64 0, .int .u64 0, .int .u64 0] 41)
  clear hb
  go_enter Try.func37, Try.ntmps37
  go_wp2
  go_region_dies
  all_goals
    rename_i hK
    (with_reducible refine (purse_any wh _).mono ?_)
    rintro e w1 ⟨rfl, hb1⟩
    have D1 := Lib.hid (show Below w.heap.size w w1 by first | exact step_ (Below.drew (new_ (Below.refl w.heap.size w) _)) hb1 | exact step_ (Below.drew (new_ (new_ (Below.refl w.heap.size w) _) _)) hb1)
    refine hK _ _ ?_
    clear hK hb1
    first
      | (refine wpAny_ready (rs := [9]) (by decide +kernel) (by simp) ?_; refine AllReady.cons rfl (fun K2 hK2 => ?_) AllReady.nil; go_simp; (with_reducible refine (there_miss _ g _ A l c i p (HB.out.below (by first | exact D1.out | exact new_ D1.out _) hlt) hi hm 1 wh 0).mono ?_); rintro e w2 ⟨rfl, hb2⟩; exact ⟨rfl, rfl, by first | exact step_ D1.out hb2 | exact step_ (new_ D1.out _) hb2⟩)
      | skip
  refine wpAny_ready (rs := [9, 10]) (by decide +kernel) (by simp) ?_
  refine AllReady.cons rfl (fun K2 hK2 => ?_) (AllReady.cons rfl (fun K3 hK3 => ?_) AllReady.nil)
  · go_simp
    (with_reducible refine (there_miss _ g _ A l c i p (HB.out.below (by first | exact D1.out | exact new_ D1.out _) hlt) hi hm 1 wh 0).mono ?_)
    rintro e w2 ⟨rfl, hb2⟩
    exact ⟨rfl, rfl, by first | exact step_ D1.out hb2 | exact step_ (new_ D1.out _) hb2⟩
  · go_simp
    refine hK3 _ _ ?_
    refine wpAny_ready (rs := [9]) (by decide +kernel) (by simp) ?_
    refine AllReady.cons rfl (fun K4 hK4 => ?_) AllReady.nil
    go_simp
    (with_reducible refine (there_miss _ g _ A l c i p (HB.out.below (by first | exact D1.out | exact new_ D1.out _) hlt) hi hm 1 wh 0).mono ?_)
    rintro e w2 ⟨rfl, hb2⟩
    exact ⟨rfl, rfl, by first | exact step_ D1.out hb2 | exact step_ (new_ D1.out _) hb2⟩
end Go.Proofs.Ytneaehimdmachaa.Rule
