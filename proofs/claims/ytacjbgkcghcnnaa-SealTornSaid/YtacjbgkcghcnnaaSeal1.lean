import Derived.Test.YtacjbgkcghcnnaaRf
import Derived.Test.YtacjbgkcghcnnaaLaw
import Derived.Test.YtacjbgkcghcnnaaPutGet
import Derived.Outline
/- What hands out a page's pieces. -/
namespace Go.Proofs.Ytacjbgkcghcnnaa.Seal
open Go.ChangeShapes Go.WideShapes Go.ChangeAt Go.RowKit Go.IntWalk Go.Shelf Go.Proofs.NumMath Go.Proofs.Mem NumBytes
set_option linter.unusedVariables false
attribute [local go_sem] Oper.semAt_some
set_option maxHeartbeats 1000000 in
theorem pieces_in (F : Fence) (n : Nat) (h0 : F.fn 20) (hro : F.round = none) (A : Option Addr) (l c : Nat) (w : World) :
    CallsIn F n Try.prog 20 #[.slice A l c] w fun e w' => e = .returned (.func (.func 25) #[] #[.pointer (some ⟨w.heap.size, 0, none⟩)]) ∧ w' = w.alloc (.cells #[.slice A l c] 22) := by
  refine callsIn_of_wp Try.func20 rfl h0 ?_ hro
  simp only [Try.ntmps20, List.size_toArray, List.length_cons, List.length_nil, Nat.reduceAdd, Nat.reduceSub, Array.replicate_succ, Array.replicate_zero, List.push_toArray, List.append_toArray, List.nil_append, List.cons_append]
  gi_wp2
  go_ret
  exact ⟨rfl, rfl⟩
/-- where a piece begins -/
abbrev Pc := { a : Nat // a + 112 ≤ 448 }
def pcs : List Pc := [⟨0, by decide⟩, ⟨112, by decide⟩, ⟨224, by decide⟩, ⟨336, by decide⟩]
def upto (k : Nat) : List Pc := pcs.take k
theorem upto_succ (k a : Nat) (hk : k < 4) (ha : a = 112 * k) (h : a + 112 ≤ 448) : upto (k + 1) = upto k ++ [⟨a, h⟩] := by
  subst ha
  match k, hk with
  | 0, _ => rfl
  | 1, _ => rfl
  | 2, _ => rfl
  | 3, _ => rfl
theorem upto_length (k : Nat) (hk : k ≤ 4) : (upto k).length = k := by simp [upto, pcs]; omega
def piece (b off c a : Nat) : Value := .slice (some ⟨b, off + a, none⟩) 112 (c - a)
set_option maxRecDepth 100000 in
set_option maxHeartbeats 2000000 in
theorem pieces1_in (F : Fence) (n : Nat) (h0 : F.fn 25) (hro : F.round = none) (hn : 1 ≤ n) (l Bs : Nat) (S : Nat → Prop) (b off c : Nat) (hs : ¬ S Bs) (hc : 448 ≤ c) (hcm : c ≤ 9223372036854775807) (J Jx : List Pc → World → Prop)
    (hY : ∀ pre x W, J pre W → pre.length < 4 → YieldAt F (n - 1) Try.prog l #[piece b off c x.1] W fun e W' =>
      (e = .returned (.bool true) ∧ J (pre ++ [x]) W' ∧ Fr S W W') ∨ (e = .returned (.bool false) ∧ Jx (pre ++ [x]) W'))
    (W : World) (hBs : W.cell? ⟨Bs, 0, none⟩ = some (.slice (some ⟨b, off, none⟩) 448 c)) (h00 : J [] W) :
    CallsIn F n Try.prog 25 #[.func (.yield l) #[] #[], .pointer (some ⟨Bs, 0, none⟩)] W fun e W' => (∃ v, e = .returned v) ∧
      ((∃ ys, ys = upto 4 ∧ J ys W') ∨ (∃ pre, True ∧ Jx pre W')) := by
  refine callsIn_of_wp Try.func25 rfl h0 ?_ hro
  simp only [Try.ntmps25, List.size_toArray, List.length_cons, List.length_nil, Nat.reduceAdd, Nat.reduceSub, Array.replicate_succ, Array.replicate_zero, List.push_toArray, List.append_toArray, List.nil_append, List.cons_append]
  gi_wp2
  gi_loopw [3] (fun i wr => ∃ k a : Nat, k ≤ 4 ∧ i = .int .i64 a ∧ Hid (a = 112 * k) ∧ Hid (J (upto k) wr) ∧ Hid (Fr S W wr)) (fun i _ => 448 - (intOf i).toNat)
  case atStart => exact ⟨0, 0, by omega, rfl, Lib.hid rfl, Lib.hid h00, Lib.hid (Fr.refl _ _)⟩
  case round =>
    obtain ⟨k, a, hk, rfl, HA, HJ, HB⟩ := hrel
    have hcell : wr.cell? ⟨Bs, 0, none⟩ = some (.slice (some ⟨b, off, none⟩) 448 c) := (HB.out.cell (p := ⟨Bs, 0, none⟩) (Law.lt_of_cell hBs) hs).trans hBs
    by_cases hlt : k < 4
    · have ha := HA.out
      have ha2 : a + 112 ≤ 448 := by omega
      have h1 : decide ((a : Int) < 448) = true := decide_eq_true (by omega)
      have h1' : decide (a < 448) = true := decide_eq_true (by omega)
      obtain ⟨fn, tmps, assign, body, hy, hR⟩ := hY _ ⟨a, ha2⟩ wr HJ.out (by rw [upto_length _ hk]; exact hlt)
      clear ha
      unfold piece at hy
      gi_wp2
      refine hR.mono ?_
      rintro e W3 (⟨rfl, hJ3, hk3⟩ | ⟨rfl, hJx3⟩)
      · have HJ3 := Lib.hid (show J (upto (k + 1)) W3 by rw [upto_succ k a hlt HA.out ha2]; exact hJ3)
        have HB3 := Lib.hid (HB.out.trans hk3)
        have HA3 := Lib.hid (show a + 112 = 112 * (k + 1) by have := HA.out; omega)
        clear hJ3 hk3
        gi_wp2
        go_roundw
        case rel => exact ⟨k + 1, a + 112, by omega, by go_num, HA3, HJ3, HB3⟩
        case measure => simp [intOf]; omega
      · gi_wp2
        refine bodyPost_ret (results_none rfl _ _ _) rfl ?_
        exact ⟨⟨_, rfl⟩, .inr ⟨_, trivial, hJx3⟩⟩
    · obtain rfl : k = 4 := by omega
      obtain rfl : a = 448 := HA.out
      gi_wp2
      go_end0
      exact ⟨⟨_, rfl⟩, .inl HJ.out⟩
theorem pieces_stops (F : Fence) (n : Nat) (h0 : F.fn 25) (hro : F.round = none) (hn : 1 ≤ n) (Bs : Nat) (S : Nat → Prop) (b off c : Nat) (hs : ¬ S Bs) (hc : 448 ≤ c) (hcm : c ≤ 9223372036854775807) (w : World)
    (hBs : w.cell? ⟨Bs, 0, none⟩ = some (.slice (some ⟨b, off, none⟩) 448 c)) :
    SeqStopsK F n Try.prog 25 #[.pointer (some ⟨Bs, 0, none⟩)] (fun a : Pc => #[piece b off c a.1]) (Fr S) (fun ys => ys = upto 4) (fun _ => True) 4 w := fun l J Jx W hW _ _ hY h00 =>
  pieces1_in F n h0 hro hn l Bs S b off c hs hc hcm J Jx hY W ((hW.cell (p := ⟨Bs, 0, none⟩) (Law.lt_of_cell hBs)).trans hBs) h00
end Go.Proofs.Ytacjbgkcghcnnaa.Seal
