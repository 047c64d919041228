import Derived.Test.YtpndcpmfcajmdaaLk3
/- Locks: holds (a key with a mode) as elements; what an empty map answers. -/
namespace Go.Proofs.Ytpndcpmfcajmdaa.Lock
open Go.ChangeShapes Go.WideShapes Go.ChangeAt Go.RowKit Go.IntWalk Go.Proofs.Mem Law
set_option linter.unusedVariables false
set_option linter.unusedSimpArgs false
structure Hd where
  k : Int
  a : Int
  b : Int
  m : Int
def Hd.v (x : Hd) : Value := .agg #[.int .u8 x.k, .int .u32 x.a, .int .u32 x.b, .int .u8 x.m]
def RHd (v : Value) : Option (DataW Unit × List MemPlace) :=
  match v with
  | .agg ⟨[.int .u8 k, .int .u32 a, .int .u32 b, .int .u8 m]⟩ => some (.agg [.lit (.int .u8 k), .lit (.int .u32 a), .lit (.int .u32 b), .lit (.int .u8 m)], [])
  | _ => none
def hdEE : EE RHd Hd where
  ev x := x.v
  ed x := .agg [.lit (.int .u8 x.k), .lit (.int .u32 x.a), .lit (.int .u32 x.b), .lit (.int .u8 x.m)]
  mem x := ⟨[], rfl⟩
  inv v z h := by
    unfold RHd at h
    split at h
    · rename_i k a b m
      injection h with h
      exact ⟨⟨k, a, b, m⟩, rfl, by rw [← h]⟩
    · cases h
  inj x y h := by
    obtain ⟨a, b, c, d⟩ := x
    obtain ⟨a', b', c', d'⟩ := y
    simpa using h
theorem zeroH (w : World) : (zeroValue 45).run Try.prog w = .ok (hdEE.ev ⟨0, 0, 0, 0⟩) w := by kernel_rfl
theorem zeroP (w : World) : (zeroValue 69).run Try.prog w = .ok (ptrEE.ev none) w := by kernel_rfl
set_option maxRecDepth 100000 in
set_option maxHeartbeats 4000000 in
/-- a table in which nobody holds anything -/
theorem new_any (w : World) : Calls Try.prog 10 #[] w fun r w' => ∃ t mk mw, r = .returned (.pointer (some ⟨t, 0, none⟩)) ∧ w.heap.size ≤ t ∧ w.heap.size ≤ mk ∧ w.heap.size ≤ mw ∧ mk ≠ mw ∧ t ≠ mk ∧ t ≠ mw ∧ Box w' t #[.map (some mk), .map (some mw)] 59 ∧ FM KK ptrEE w' mk 0 (fun _ => none) ∧ FM KU hdEE w' mw 0 (fun _ => none) ∧ Below w.heap.size w w' := by
  have hmm := @run_makeMap Try.prog
  have n1 : FM KK ptrEE (w.alloc (.map #[] 0)) w.heap.size 0 (fun _ => none) := FM.made _ _ _
  have b1 := new_ (Below.refl w.heap.size w) (.map #[] 0)
  have n2 : FM KU hdEE ((w.alloc (.map #[] 0)).alloc (.map #[] 0)) (w.alloc (.map #[] 0)).heap.size 0 (fun _ => none) := FM.made _ _ _
  have b2 := new_ (Below.refl (w.alloc (.map #[] 0)).heap.size (w.alloc (.map #[] 0))) (.map #[] 0)
  have n1' := n1.later b2
  have x3 := Box.new ((w.alloc (.map #[] 0)).alloc (.map #[] 0)) #[.map (some w.heap.size), .map (some (w.heap.size + 1))] 59
  have b3 := new_ (Below.refl ((w.alloc (.map #[] 0)).alloc (.map #[] 0)).heap.size ((w.alloc (.map #[] 0)).alloc (.map #[] 0))) (.cells #[.map (some w.heap.size), .map (some (w.heap.size + 1))] 59)
  have s1 : (w.alloc (.map #[] 0)).heap.size = w.heap.size + 1 := by simp
  have s2 : ((w.alloc (.map #[] 0)).alloc (.map #[] 0)).heap.size = w.heap.size + 1 + 1 := by simp
  have n2' := n2.later b3
  rw [s1] at n2'
  rw [s2] at x3
  have N1 := Lib.hid (n1'.later b3)
  have N2 := Lib.hid n2'
  have X3 := Lib.hid x3
  have BB := Lib.hid (b1.trans ((b2.mono b1.size).trans (b3.mono (Nat.le_trans b1.size b2.size))))
  clear n1 b1 n2 b2 n1' x3 b3 s1 s2 n2'
  go_enter Try.func10, Try.ntmps10
  go_wp2
  go_ret
  refine ⟨_, w.heap.size, w.heap.size + 1, rfl, ?_, Nat.le_refl _, Nat.le_succ _, by omega, ?_, ?_, X3.out, N1.out, N2.out, BB.out⟩ <;> omega
end Go.Proofs.Ytpndcpmfcajmdaa.Lock
