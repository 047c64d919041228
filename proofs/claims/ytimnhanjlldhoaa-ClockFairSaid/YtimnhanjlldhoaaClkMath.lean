import Derived.Test.YtimnhanjlldhoaaBox
import Derived.Test.YtimnhanjlldhoaaFr
/- What a clock knows: frames, by definition. -/
namespace Go.Proofs.Clk
open Go.RowKit Go.WideShapes Go.Proofs.Mem
set_option linter.unusedVariables false
structure Fm where
  t : Bool
  u : Bool
  p : Int
def z3 : Fm := ⟨false, false, 0⟩
structure Fm.Ok (B : Int) (f : Fm) : Prop where
  lo : 0 ≤ f.p
  hi : f.p ≤ B
  free : f.t = false → f.u = false ∧ f.p = 0
def Oks (B : Int) (l : List Fm) : Prop := ∀ f ∈ l, f.Ok B
theorem z3_ok (B : Int) (h : 0 ≤ B) : z3.Ok B := ⟨Int.le_refl _, h, fun _ => ⟨rfl, rfl⟩⟩
theorem Oks.at_ {B : Int} {l : List Fm} (h : Oks B l) (hB : 0 ≤ B) (j : Nat) : (l.getD j z3).Ok B := by
  rw [List.getD_eq_getElem?_getD]
  cases e : l[j]? with
  | none => exact z3_ok B hB
  | some f => exact h f (List.mem_of_getElem? e)
theorem Oks.set {B : Int} {l : List Fm} (h : Oks B l) {f : Fm} (hf : f.Ok B) (j : Nat) : Oks B (l.set j f) := fun x hx => by
  rcases List.mem_or_eq_of_mem_set hx with h1 | h1
  · exact h x h1
  · rw [h1]; exact hf
theorem Oks.mono {B B' : Int} {l : List Fm} (h : Oks B l) (hb : B ≤ B') : Oks B' l := fun f hf => ⟨(h f hf).lo, Int.le_trans (h f hf).hi hb, (h f hf).free⟩
/-- the cells of frames -/
def cF : List Fm → List Value
  | [] => []
  | f :: l => .bool f.t :: .bool f.u :: .int .i64 f.p :: cF l
theorem cF_len : ∀ l : List Fm, (cF l).length = l.length * 3
  | [] => rfl
  | f :: l => by show (cF l).length + 1 + 1 + 1 = (l.length + 1) * 3; rw [cF_len l]; omega
theorem cF_at : ∀ (l : List Fm) (j : Nat), j < l.length → (cF l)[j * 3]? = some (.bool (l.getD j z3).t) ∧ (cF l)[j * 3 + 1]? = some (.bool (l.getD j z3).u) ∧ (cF l)[j * 3 + 2]? = some (.int .i64 (l.getD j z3).p)
  | [], j, h => by simp at h
  | f :: l, 0, h => ⟨rfl, rfl, rfl⟩
  | f :: l, j + 1, h => by
    have := cF_at l j (by simpa using h)
    rw [show (j + 1) * 3 = j * 3 + 1 + 1 + 1 by omega]
    rw [show j * 3 + 1 + 1 + 1 + 1 = j * 3 + 1 + 1 + 1 + 1 by omega, show j * 3 + 1 + 1 + 1 + 2 = j * 3 + 2 + 1 + 1 + 1 by omega]
    simpa [cF] using this
theorem cF_t : ∀ (l : List Fm) (j : Nat) (x : Bool), j < l.length → (cF l).set (j * 3) (.bool x) = cF (l.set j { l.getD j z3 with t := x })
  | [], j, x, h => by simp at h
  | f :: l, 0, x, h => by simp [cF]
  | f :: l, j + 1, x, h => by
    have := cF_t l j x (by simpa using h)
    rw [show (j + 1) * 3 = j * 3 + 1 + 1 + 1 by omega]
    simpa [cF] using this
theorem cF_u : ∀ (l : List Fm) (j : Nat) (x : Bool), j < l.length → (cF l).set (j * 3 + 1) (.bool x) = cF (l.set j { l.getD j z3 with u := x })
  | [], j, x, h => by simp at h
  | f :: l, 0, x, h => by simp [cF]
  | f :: l, j + 1, x, h => by
    have := cF_u l j x (by simpa using h)
    rw [show (j + 1) * 3 + 1 = j * 3 + 1 + 1 + 1 + 1 by omega]
    simpa [cF] using this
theorem cF_p : ∀ (l : List Fm) (j : Nat) (x : Int), j < l.length → (cF l).set (j * 3 + 2) (.int .i64 x) = cF (l.set j { l.getD j z3 with p := x })
  | [], j, x, h => by simp at h
  | f :: l, 0, x, h => by simp [cF]
  | f :: l, j + 1, x, h => by
    have := cF_p l j x (by simpa using h)
    rw [show (j + 1) * 3 + 2 = j * 3 + 2 + 1 + 1 + 1 by omega]
    simpa [cF] using this
theorem cF_all : ∀ (l : List Fm) (j : Nat) (f : Fm), j < l.length → (((cF l).set (j * 3) (.bool f.t)).set (j * 3 + 1) (.bool f.u)).set (j * 3 + 2) (.int .i64 f.p) = cF (l.set j f)
  | [], j, x, h => by simp at h
  | f :: l, 0, x, h => by simp [cF]
  | f :: l, j + 1, x, h => by
    have := cF_all l j x (by simpa using h)
    rw [show (j + 1) * 3 + 2 = j * 3 + 2 + 1 + 1 + 1 by omega, show (j + 1) * 3 + 1 = j * 3 + 1 + 1 + 1 + 1 by omega, show (j + 1) * 3 = j * 3 + 1 + 1 + 1 by omega]
    simpa [cF] using this
/-- what the calls do -/
def inR (l : List Fm) (i : Int) : Bool := decide (0 ≤ i ∧ i < l.length)
def fr (l : List Fm) (i : Int) : Fm := if inR l i then l.getD i.toNat z3 else z3
def takeM (l : List Fm) (i : Int) : Bool × List Fm := if inR l i && !(fr l i).t then (true, l.set i.toNat ⟨true, true, 0⟩) else (false, l)
def leaveM (l : List Fm) (i : Int) : Bool × List Fm := if (fr l i).t && decide ((fr l i).p = 0) then (true, l.set i.toNat z3) else (false, l)
def touchM (l : List Fm) (i : Int) : Bool × List Fm := if (fr l i).t then (true, l.set i.toNat { fr l i with u := true }) else (false, l)
def pinM (l : List Fm) (i : Int) : Bool × List Fm := if (fr l i).t then (true, l.set i.toNat { fr l i with p := (fr l i).p + 1 }) else (false, l)
def unpinM (l : List Fm) (i : Int) : Bool × List Fm := if (fr l i).p = 0 then (false, l) else (true, l.set i.toNat { fr l i with p := (fr l i).p - 1 })
theorem fr_out {l : List Fm} {i : Int} (h : ¬ (0 ≤ i ∧ i < l.length)) : fr l i = z3 := by unfold fr inR; rw [decide_eq_false h]; rfl
theorem fr_in {l : List Fm} {j : Nat} (h : j < l.length) : fr l j = l.getD j z3 := by unfold fr inR; rw [decide_eq_true (by omega)]; simp
end Go.Proofs.Clk
