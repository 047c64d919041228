import Derived.Deep.QuietTactic
import Derived.Test.YteldfoplhcnljaaMem3
import Derived.Test.YteldfoplhcnljaaBox
import Derived.Test.YteldfoplhcnljaaLaw
import Derived.BigQuiet
import Derived.BigRegion
import Derived.Deep.Cut
import Derived.LoopN
import Derived.Lib.Hide
import Derived.Sort.AssemblyPlain
/- A row of numbers of 32 bits of one's own, read as an array; which of two is less; two change places. -/
namespace Go.Proofs.Yteldfoplhcnljaa.Srt
open Go.ChangeShapes Go.WideShapes Go.ChangeAt Go.RowKit Go.IntWalk Go.Proofs.Mem
set_option linter.unusedVariables false
abbrev lt : Int → Int → Bool := Sort.ltInt
theorem nan_any (x : Int) (w : World) : Calls Try.prog 29 #[.int .u32 x] w fun e w' => e = .returned (.bool false) ∧ w = w' := by
  have d : (x != x) = false := by simp
  go_enter Try.func29, Try.ntmps29
  go_wp2
  go_ret
  exact ⟨by simp, rfl⟩
theorem less_any (x y : Int) (w : World) : Calls Try.prog 25 #[.int .u32 x, .int .u32 y] w fun e w' => e = .returned (.bool (lt x y)) ∧ w = w' := by
  obtain ⟨b, hb⟩ : ∃ b, b = decide (x < y) := ⟨_, rfl⟩
  rw [show lt x y = b from hb.symm]
  have d := hb.symm
  clear hb
  go_enter Try.func25, Try.ntmps25
  go_wp2_with (first | (go_at_call 29; (with_reducible refine (nan_any _ _).mono ?_); rintro e w1 ⟨rfl, rfl⟩))
  go_ret
  exact ⟨rfl, rfl⟩
theorem less_as (x y : Int) {q : Bool} (h : lt x y = q) : Hid (∀ w, Calls Try.prog 25 #[.int .u32 x, .int .u32 y] w fun e w' => e = .returned (.bool q) ∧ w = w') := by
  subst h; exact Lib.hid (less_any x y)
/-- block g holds these numbers; there is room for cap -/
def RA (W : World) (g cap : Nat) (d : Array Int) : Prop := ∃ cur : Array Value, Box W g cur 23 ∧ cur.size = cap ∧ d.size ≤ cap ∧ cap ≤ maxLen ∧ cur.toList.take d.size = d.toList.map (.int .u32)
section
variable {W W' : World} {g cap : Nat} {d : Array Int} {S : Nat → Prop}
theorem RA.cell (h : RA W g cap d) (i : Nat) (hi : i < d.size) : W.cell? ⟨g, i, none⟩ = some (.int .u32 d[i]!) := by
  obtain ⟨cur, hb, hs, hn, _, ht⟩ := h
  have h2 : (d.toList.map (Value.int .u32))[i]? = some (.int .u32 d[i]!) := by simp [hi]
  rw [← ht, List.getElem?_take, if_pos hi] at h2
  rw [hb.cell i]
  simpa using h2
theorem RA.frozen (h : RA W g cap d) (i : Nat) : W.frozen? ⟨g, i, none⟩ = false := by
  obtain ⟨cur, hb, _⟩ := h
  exact hb.frozen i
theorem RA.lt (h : RA W g cap d) : g < W.heap.size := by
  obtain ⟨cur, hb, _⟩ := h
  exact hb.lt
theorem RA.le (h : RA W g cap d) : d.size ≤ cap := by
  obtain ⟨cur, _, _, h, _⟩ := h
  exact h
theorem RA.drewN (h : RA W g cap d) (k : Nat) : RA (W.drewN k) g cap d := h
theorem RA.drew (h : RA W g cap d) : RA W.drew g cap d := h
theorem RA.fr (h : RA W g cap d) (hf : Fr S W W') (hn : ¬ S g) : RA W' g cap d := by
  obtain ⟨cur, hb, r⟩ := h
  exact ⟨cur, hb.fr hf hn, r⟩
theorem RA.later (h : RA W g cap d) (hb : Below W.heap.size W W') : RA W' g cap d := by
  obtain ⟨cur, hc, r⟩ := h
  exact ⟨cur, hc.later hb, r⟩
theorem RA.set_ (h : RA W g cap d) (i : Nat) (x : Int) : RA (W.setCell ⟨g, i, none⟩ (.int .u32 x)) g cap (d.setIfInBounds i x) := by
  obtain ⟨cur, hb, hs, hn, hc, ht⟩ := h
  refine ⟨_, Box.set_ hb i _, by simpa using hs, by simpa using hn, hc, ?_⟩
  rw [Array.toList_setIfInBounds, Array.size_setIfInBounds, List.take_set, ht, Array.toList_setIfInBounds, List.map_set]
theorem RA.swp (h : RA W g cap d) (i j : Nat) : RA ((W.setCell ⟨g, i, none⟩ (.int .u32 d[j]!)).setCell ⟨g, j, none⟩ (.int .u32 d[i]!)) g cap (Sort.swp d i j) := (h.set_ i _).set_ j _
theorem fr_swp {w W : World} {i j : Nat} {u v : Value} (h : Fr (fun x => x = g) w W) : Fr (fun x => x = g) w ((W.setCell ⟨g, i, none⟩ u).setCell ⟨g, j, none⟩ v) :=
  (h.setCell (.inl rfl) _).setCell (.inl rfl) _
theorem RA.of_own {B n : Nat} {xs : List Int} (h : W.ownsRow B 23 1 (.slice (some ⟨g, 0, none⟩) n cap) n (xs.map (.int .u32))) : RA W g cap xs.toArray ∧ xs.length = n ∧ B ≤ g := by
  obtain ⟨h1, h2 | ⟨g', c, cur, e, hb, hg, hn, hc, hs, ht⟩⟩ := h
  · cases h2.1
  · injection e with e1 e2 e3
    injection e1 with e1
    injection e1 with e1
    subst e1 e3
    have h1' : xs.length = n := by simpa using h1
    exact ⟨⟨cur, hg, by simpa using hs, by simpa [h1'] using hn, hc, by simpa [h1'] using ht⟩, h1', hb⟩
theorem RA.own {n : Nat} (h : RA W g cap d) (hn : d.size = n) {B : Nat} (hB : B ≤ g) : W.ownsRow B 23 1 (.slice (some ⟨g, 0, none⟩) n cap) n (d.toList.map (.int .u32)) := by
  obtain ⟨cur, hb, hs, hle, hc, ht⟩ := h
  subst hn
  refine ⟨by simp, .inr ⟨g, cap, cur, rfl, hB, hb, hle, hc, by simpa using hs, ?_⟩⟩
  rw [Nat.mul_one]
  exact ht
end
end Go.Proofs.Yteldfoplhcnljaa.Srt
