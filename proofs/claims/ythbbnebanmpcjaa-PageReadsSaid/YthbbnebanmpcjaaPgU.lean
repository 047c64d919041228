import Derived.Test.YthbbnebanmpcjaaPgT
import Derived.Test.YthbbnebanmpcjaaSs
import Derived.Test.YthbbnebanmpcjaaSsIn
import Derived.Test.YthbbnebanmpcjaaMem3
import Derived.Test.YthbbnebanmpcjaaLaw
import Derived.ChangeArms
/- A list of calls on a page that came in. -/
namespace Go.Proofs.Ythbbnebanmpcjaa.Pg
open Go.ChangeShapes Go.WideShapes Go.ChangeAt Go.RowKit Go.IntWalk Go.Proofs.Mem Law
set_option linter.unusedVariables false
set_option linter.unusedSimpArgs false
/-- a call -/
structure Po where
  kind : Int
  slot : Int
  xs : List Int
  lsn : Int
structure Po.Ok (o : Po) : Prop where
  kind : 0 ≤ o.kind ∧ o.kind ≤ 255
  slot : -9223372036854775808 ≤ o.slot ∧ o.slot ≤ 9223372036854775807
  byt : Bytes o.xs
  lsn : 0 ≤ o.lsn ∧ o.lsn ≤ 18446744073709551615
/-- a call, and its slice -/
structure Pi where
  o : Po
  a : Value
def cPi (x : Pi) : List Value := [.int .u8 x.o.kind, .int .i64 x.o.slot, x.a, .int .u64 x.o.lsn]
def PiAt (w : World) (B : Nat) (x : Pi) : Prop := x.o.Ok ∧ IR w B .u8 x.a x.o.xs
theorem k8 : Try.prog.cellsOf 5 = 1 := by kernel_rfl
theorem ki : Try.prog.cellsOf 3 = 1 := by kernel_rfl
theorem k64 : Try.prog.cellsOf 32 = 1 := by kernel_rfl
theorem kB : Try.prog.cellsOf 31 = 1 := by kernel_rfl
theorem kPo : Try.prog.cellsOf 34 = 4 := by kernel_rfl
section
variable {H : Type} {enc : TypeId × Value → H} {W : World}
theorem inner {n : Nat} {c0 : Value} {y : DataW H × List MemPlace} (hf : DataW.trod enc Try.prog W 0 (fun _ => true) true n 31 [c0] = some y) : ∃ xs : List Int, IR W W.heap.size .u8 c0 xs ∧ Bytes xs := by
  rcases open_ints Try.underlying31 Try.underlying5 (by kernel_rfl) hf with ⟨hcs, _⟩ | ⟨x, l, c, zs, hcs, _, hl, hm, hz, _, hcell, hwz⟩
  · simp at hcs
    subst hcs
    exact ⟨[], IR.nil _ _ _, Bytes.nil⟩
  · simp at hcs
    subst hcs
    have hz' : zs.length = c := by simpa using hz
    have hlen : (zs.take l).length = l := by rw [List.length_take]; omega
    refine ⟨zs.take l, ⟨some x, c, by rw [hlen], by omega, hm, (fun hh => by cases hh), fun i hi => ?_⟩, fun n hn => bounds_u8 (hwz n (List.mem_of_mem_take hn))⟩
    rw [hlen] at hi
    obtain ⟨b, off, rfl, hc'⟩ := ints_at hcell (by omega)
    have h1 := hc' i (by omega)
    refine ⟨b, off, rfl, lt_of_cell h1, ?_⟩
    rw [h1]
    simp [List.getD, hi]
theorem some_eq {α : Type} {o : Option α} (h : o.isSome = true) : ∃ y, o = some y := by cases o with | none => cases h | some y => exact ⟨y, rfl⟩
theorem pi_of {n : Nat} {cs : List Value} {y : DataW H × List MemPlace} (hl : cs.length = 4) (hf : DataW.trod enc Try.prog W 0 (fun _ => true) true n 34 cs = some y) : ∃ x, cs = cPi x ∧ PiAt W W.heap.size x := by
  match cs, hl with
  | [a0, a1, a2, a3], _ =>
    obtain ⟨xs, m, _, _, _, hl, hg⟩ := DataW.trod_struct Try.underlying34 hf
    have h0 := hg 0 _ rfl
    have h1 := hg 1 _ rfl
    have h2 := hg 2 _ rfl
    have h3 := hg 3 _ rfl
    simp [k8, ki, kB, k64] at h0 h1 h2 h3 hl
    obtain ⟨x0, rfl, w0⟩ := one_int' Try.underlying5 h0 (some_at' (by omega))
    obtain ⟨x1, rfl, w1⟩ := one_int' Try.underlying3 h1 (some_at' (by omega))
    obtain ⟨x3, rfl, w3⟩ := one_int' Try.underlying32 h3 (some_at' (by omega))
    obtain ⟨y2, e2⟩ := some_eq (some_at' (l := xs) (i := 2) (by omega))
    obtain ⟨zs, i2, b2⟩ := inner (h2.trans e2)
    exact ⟨⟨⟨x0, x1, zs, x3⟩, _⟩, rfl, ⟨bounds_u8 w0, bounds_i64 w1, b2, bounds_u64 w3⟩, i2⟩
theorem open_pos {v : Value} {d : DataW H} {p : List MemPlace} {r : Reach} {b0 : Nat} (hv : Value.okWide Try.prog W r b0 23 v) (h : DataW.Trod enc Try.prog W 0 (fun _ => true) true 23 v d p) :
    ∃ xs : List Pi, SS cPi 4 W W.heap.size v xs ∧ ∀ x ∈ xs, PiAt W W.heap.size x :=
  open_SS cPi (PiAt W W.heap.size) Try.underlying23 kPo (by omega) (fun cs n y hl hy => pi_of hl hy) hv h
end
/-- what a call does to a page's bytes -/
def opX (xs : List Int) (o : Po) : List Int := if o.kind % 8 = 5 then clearX xs o.slot else if o.kind % 8 = 7 then setN xs 0 8 o.lsn else setX xs o.slot o.xs
def runX (xs : List Int) (l : List Po) : List Int := l.foldl opX xs
theorem runX_snoc (xs : List Int) (l : List Po) (o : Po) : runX xs (l ++ [o]) = opX (runX xs l) o := by unfold runX; rw [List.foldl_append]; rfl
end Go.Proofs.Ythbbnebanmpcjaa.Pg
