import Derived.Test.YtkhjkmelajlpeaaRf3
import Derived.Test.YtkhjkmelajlpeaaLaw
import Derived.Test.YtkhjkmelajlpeaaBlocks
import Derived.Outline
/- What hands out a stream's pieces: its own variable is written between two rounds. -/
namespace Go.Proofs.Ytkhjkmelajlpeaa.Strip
open Go.ChangeShapes Go.WideShapes Go.ChangeAt Go.RowKit Go.IntWalk Go.Shelf Go.Proofs.Mem
set_option linter.unusedVariables false
attribute [local go_sem] Oper.semAt_some
set_option maxHeartbeats 1000000 in
theorem pieces_in (F : Fence) (n : Nat) (h0 : F.fn 19) (hro : F.round = none) (A : Option Addr) (l c : Nat) (w : World) :
    CallsIn F n Try.prog 19 #[.slice A l c] w fun e w' => e = .returned (.func (.func 21) #[] #[.pointer (some ⟨w.heap.size, 0, none⟩)]) ∧ w' = w.alloc (.cells #[.slice A l c] 22) := by
  refine callsIn_of_wp Try.func19 rfl h0 ?_ hro
  simp only [Try.ntmps19, List.size_toArray, List.length_cons, List.length_nil, Nat.reduceAdd, Nat.reduceSub, Array.replicate_succ, Array.replicate_zero, List.push_toArray, List.append_toArray, List.nil_append, List.cons_append]
  gi_wp2
  go_ret
  exact ⟨rfl, rfl⟩
/-- which piece: it begins within the stream -/
abbrev Pc (L : Nat) := { k : Nat // 127 * k < L }
def cnt (L : Nat) : Nat := (L + 126) / 127
def upto (L k : Nat) : List (Pc L) := (List.range k).filterMap fun i => if h : 127 * i < L then some ⟨i, h⟩ else none
theorem upto_succ {L k : Nat} (h : 127 * k < L) : upto L (k + 1) = upto L k ++ [⟨k, h⟩] := by
  simp [upto, List.range_succ, List.filterMap_append, h]
theorem upto_len {L : Nat} : ∀ k, 127 * k ≤ L + 126 → (upto L k).length = k
  | 0, _ => rfl
  | k + 1, h => by rw [upto_succ (by omega), List.length_append, upto_len k (by omega)]; rfl
def size_ (L k : Nat) : Nat := min 127 (L - 127 * k)
def piece (b off c L k : Nat) : Value := .slice (some ⟨b, off + 127 * k, none⟩) (size_ L k) (c - 127 * k)
/-- what the iterator's own box may be written with changes nothing of an invariant -/
def Open_ (Bs : Nat) {β : Type} (J : β → World → Prop) : Prop := ∀ s W u, J s W → J s (W.setCell ⟨Bs, 0, none⟩ u)
/-- how long the slice in a box is -/
def left_ (Bs : Nat) (W : World) : Nat := match W.cell? ⟨Bs, 0, none⟩ with
  | some (.slice _ n _) => n
  | _ => 0
theorem left_eq {Bs : Nat} {W : World} {A : Option Addr} {n c : Nat} (h : W.cell? ⟨Bs, 0, none⟩ = some (.slice A n c)) : left_ Bs W = n := by unfold left_; rw [h]
theorem left_set {Bs : Nat} {W : World} {x : Value} {t : TypeId} (h : Box W Bs #[x] t) (A : Option Addr) (n c : Nat) : left_ Bs (W.setCell ⟨Bs, 0, none⟩ (.slice A n c)) = n := left_eq ((h.set_ 0 (.slice A n c)).cell 0)
set_option maxRecDepth 100000 in
set_option maxHeartbeats 4000000 in
theorem pieces1_in (l Bs : Nat) (S : Nat → Prop) (A : Option Addr) (b off c L : Nat) (hA : 0 < L → A = some ⟨b, off, none⟩) (hs : ¬ S Bs) (hc : L ≤ c) (hcm : c ≤ 9223372036854775807) (J : List (Pc L) → World → Prop) (hJ : Open_ Bs J)
    (hY : ∀ pre x W, J pre W → pre.length < cnt L → YieldAt Fence.wide 1 Try.prog l #[piece b off c L x.1] W fun e W' => e = .returned (.bool true) ∧ J (pre ++ [x]) W' ∧ Fr S W W')
    (W : World) (hBs : Box W Bs #[.slice A L c] 22) (h00 : J [] W) :
    CallsIn Fence.wide 2 Try.prog 21 #[.func (.yield l) #[] #[], .pointer (some ⟨Bs, 0, none⟩)] W fun e W' => (∃ v, e = .returned v) ∧ ∃ ys, ys = upto L (cnt L) ∧ J ys W' := by
  refine callsIn_of_wp Try.func21 rfl trivial ?_ rfl
  simp only [Try.ntmps21, List.size_toArray, List.length_cons, List.length_nil, Nat.reduceAdd, Nat.reduceSub, Array.replicate_succ, Array.replicate_zero, List.push_toArray, List.append_toArray, List.nil_append, List.cons_append]
  gi_wp2
  gi_loopw [] (fun wr => ∃ (k : Nat) (A' : Option Addr) (l' c' : Nat), Hid (Box wr Bs #[.slice A' l' c'] 22) ∧ Hid (l' = L - 127 * k) ∧ Hid (l' ≤ c' ∧ c' ≤ 9223372036854775807) ∧ Hid (127 * k < L → A' = some ⟨b, off + 127 * k, none⟩ ∧ c' = c - 127 * k) ∧ Hid (127 * k ≤ L + 126) ∧ Hid (J (upto L k) wr)) (fun wr => left_ Bs wr)
  case atStart => exact ⟨0, _, L, c, Lib.hid hBs, Lib.hid (by simp), Lib.hid ⟨hc, hcm⟩, Lib.hid (fun h => ⟨hA (by omega), rfl⟩), Lib.hid (by omega), Lib.hid h00⟩
  case round =>
    obtain ⟨k, A', l', c', HB, HL, HC, HA, HK, HJ⟩ := hrel
    have c0 : wr.cell? ⟨Bs, 0, none⟩ = some (.slice A' l' c') := HB.out.cell 0
    by_cases hz : l' = 0
    · subst hz
      have hk : k = cnt L := by have := HL.out; have := HK.out; unfold cnt; omega
      have HJ' := Lib.hid (show J (upto L (cnt L)) wr by rw [← hk]; exact HJ.out)
      gi_wp2
      go_end0
      exact ⟨⟨_, rfl⟩, _, rfl, HJ'.out⟩
    · have hk : 127 * k < L := by have := HL.out; omega
      obtain ⟨rfl, hc2⟩ := HA.out hk
      have HC2 := Lib.hid hc2
      have hpos : 0 < l' := by omega
      have hcc := HC.out
      have hl2 := HL.out
      clear hc2 hz
      by_cases h127 : l' ≤ 127
      · have hcc1 : l' ≤ c' := hcc.1
        obtain ⟨fn, tmps, assign, body, hy, hR⟩ := hY _ ⟨k, hk⟩ wr HJ.out (by rw [upto_len k (by omega)]; unfold cnt; omega)
        have hy' : (Instr.yield l #[.slice (some ⟨b, off + 127 * k, none⟩) l' c']).run Try.prog wr = .ok (.round l fn tmps assign body) wr := by
          have e : piece b off c L k = .slice (some ⟨b, off + 127 * k, none⟩) l' c' := by unfold piece size_; rw [HC2.out]; congr 1; omega
          rw [← e]; exact hy
        have HCC := Lib.hid hcc
        clear hy hcc hl2
        gi_wp2
        refine hR.mono ?_
        rintro e W3 ⟨rfl, hJ3, hk3⟩
        have bx := HB.out.fr hk3 hs
        have c3 : W3.cell? ⟨Bs, 0, none⟩ = some (.slice (some ⟨b, off + 127 * k, none⟩) l' c') := bx.cell 0
        have f3 := bx.frozen 0
        have BX := Lib.hid bx
        have HJ3 := Lib.hid (show J (upto L (k + 1)) W3 by rw [upto_succ hk]; exact hJ3)
        clear bx hJ3 hk3
        by_cases hcl : c' = l'
        · subst hcl
          gi_wp2
          go_roundw
          case rel => exact ⟨k + 1, _, _, _, Lib.hid (BX.out.set_ 0 _), Lib.hid (by have := HL.out; omega), Lib.hid (by have := HCC.out; omega), Lib.hid (fun h => by have := HL.out; omega), Lib.hid (by omega), Lib.hid (hJ _ _ _ HJ3.out)⟩
          case measure => rw [left_set BX.out, left_eq c0]; omega
        · gi_wp2
          go_roundw
          case rel => exact ⟨k + 1, _, _, _, Lib.hid (BX.out.set_ 0 _), Lib.hid (by have := HL.out; omega), Lib.hid (by have := HCC.out; omega), Lib.hid (fun h => by have := HL.out; omega), Lib.hid (by omega), Lib.hid (hJ _ _ _ HJ3.out)⟩
          case measure => rw [left_set BX.out, left_eq c0]; omega
      · have h127' : 127 < l' := by omega
        have hne : ¬ c' = 127 := by omega
        have hc3 : 127 ≤ c' := by omega
        obtain ⟨fn, tmps, assign, body, hy, hR⟩ := hY _ ⟨k, hk⟩ wr HJ.out (by rw [upto_len k (by omega)]; unfold cnt; omega)
        have hy' : (Instr.yield l #[.slice (some ⟨b, off + 127 * k, none⟩) 127 c']).run Try.prog wr = .ok (.round l fn tmps assign body) wr := by
          have e : piece b off c L k = .slice (some ⟨b, off + 127 * k, none⟩) 127 c' := by unfold piece size_; rw [HC2.out]; congr 1; omega
          rw [← e]; exact hy
        have HCC := Lib.hid hcc
        clear hy hcc hl2
        gi_wp2
        refine hR.mono ?_
        rintro e W3 ⟨rfl, hJ3, hk3⟩
        have bx := HB.out.fr hk3 hs
        have c3 : W3.cell? ⟨Bs, 0, none⟩ = some (.slice (some ⟨b, off + 127 * k, none⟩) l' c') := bx.cell 0
        have f3 := bx.frozen 0
        have BX := Lib.hid bx
        have HJ3 := Lib.hid (show J (upto L (k + 1)) W3 by rw [upto_succ hk]; exact hJ3)
        clear bx hJ3 hk3
        gi_wp2
        go_roundw
        case rel => exact ⟨k + 1, _, _, _, Lib.hid (BX.out.set_ 0 _), Lib.hid (by have := HL.out; omega), Lib.hid (by have := HCC.out; omega), Lib.hid (fun h => ⟨by congr 2, by have := HC2.out; omega⟩), Lib.hid (by omega), Lib.hid (hJ _ _ _ HJ3.out)⟩
        case measure => rw [left_set BX.out, left_eq c0]; omega
theorem pieces_seq (Bs : Nat) (S : Nat → Prop) (A : Option Addr) (b off c L : Nat) (hA : 0 < L → A = some ⟨b, off, none⟩) (hs : ¬ S Bs) (hc : L ≤ c) (hcm : c ≤ 9223372036854775807) (w : World) (hBs : Box w Bs #[.slice A L c] 22) :
    SeqC Fence.wide 2 Try.prog 21 #[.pointer (some ⟨Bs, 0, none⟩)] (fun x : Pc L => piece b off c L x.1) (Fr S) (fun J => Open_ Bs J) (fun ys => ys = upto L (cnt L)) (cnt L) w := fun l J W hW hJ hY h00 =>
  pieces1_in l Bs S A b off c L hA hs hc hcm J hJ hY W (hBs.later hW) h00
end Go.Proofs.Ytkhjkmelajlpeaa.Strip
