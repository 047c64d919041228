import Derived.Test.YtbbphfhkedldmaaRec6
import Derived.Defers
import Derived.WalkLawsBesides
import Derived.Recover
/- A number that was written is read back; nothing is recovered from. -/
namespace Go.Proofs.Ytbbphfhkedldmaa.Rec
open Go.ChangeShapes Go.WideShapes Go.ChangeAt Go.RowKit Go.IntWalk Go.Proofs.NumMath Go.Proofs.Mem Go.Proofs.CrcMath NumBytes CrcA
set_option linter.unusedVariables false
set_option linter.unusedSimpArgs false
theorem mod_mul (n a b : Int) (ha : 0 < a) : n % (a * b) = n % a + n / a % b * a := by
  rw [Int.emod_def, Int.emod_def n a, Int.emod_def (n / a) b, Int.ediv_ediv_of_nonneg (Int.le_of_lt ha), Int.sub_mul, Int.mul_comm (n / a) a, Int.mul_assoc a b, Int.mul_comm (b * _) a]
  omega
theorem getTo_put (n : Int) (k : Nat) : ∀ j, j ≤ k → getTo (putS n k) j = n % 2 ^ (8 * j) := by
  intro j
  induction j with
  | zero => intro _; simp [getTo, Int.emod_one]
  | succ j ih =>
    intro hj
    have hg : (putS n k).getD j 0 = n / 2 ^ (8 * j) % 256 := by simp [putS, List.getD, show j < k by omega]
    show getTo (putS n k) j + (putS n k).getD j 0 * 2 ^ (8 * j) = _
    rw [ih (by omega), hg]
    have e : (2 : Int) ^ (8 * (j + 1)) = 2 ^ (8 * j) * 256 := by rw [show 8 * (j + 1) = 8 * j + 8 by omega, p2_add]; rfl
    rw [e, mod_mul _ _ _ (p2 _)]
theorem get_put (n : Int) (k : Nat) (hk : k ≤ 8) : getS (putS n k) = n % 2 ^ (8 * k) := by
  unfold getS
  rw [putS_len, Nat.min_eq_left hk, getTo_put n k k (Nat.le_refl _)]
theorem rnumber_put (w : World) (g B : Nat) (v : Value) (a : Int) (m : Nat) (M : Int) (hM : M = (m : Int)) (Y : List Int) (h : Rd w g B v (putS a m ++ Y)) (hY : Bytes Y) (hm : m ≤ 8) (h0 : 0 ≤ a) (h1 : a < 2 ^ (8 * m)) :
    Calls Try.prog 46 #[.pointer (some ⟨g, 0, none⟩), .int .i64 M] w fun e w' => e = .returned (.int .u64 a) ∧ (∃ v', Rd w' g B v' Y) ∧ Fr (fun x => x = g) w w' := by
  subst hM
  have := rnumber_any w g B v _ h ((putS_bytes a m).app hY) m (by rw [List.length_append, putS_len]; omega)
  rwa [List.take_left' (putS_len a m), List.drop_left' (putS_len a m), get_put a m hm, Int.emod_eq_of_lt h0 h1] at this
theorem Rd.set {w : World} {g B : Nat} {v : Value} {xs : List Int} (h : Rd w g B v xs) {p : Addr} (hp : g ≠ p.block) (hB : B ≤ p.block) (u : Value) : Rd (w.setCell p u) g B v xs :=
  ⟨h.box.far hp u, h.ir.below ((Below.refl B w).setCell hB _), h.le⟩
theorem Rd.alloc {w : World} {g B : Nat} {v : Value} {xs : List Int} (h : Rd w g B v xs) (o : Obj) : Rd (w.alloc o) g B v xs :=
  ⟨h.box.alloc o, h.ir.alloc (Nat.le_trans h.le (Nat.le_of_lt h.box.lt)) o, h.le⟩
theorem Rd.below {w w' : World} {g B : Nat} {v : Value} {xs : List Int} (h : Rd w g B v xs) (hb : Below w.heap.size w w') : Rd w' g B v xs :=
  ⟨h.box.later hb, h.ir.below (hb.mono (Nat.le_trans h.le (Nat.le_of_lt h.box.lt))), h.le⟩
set_option maxHeartbeats 2000000 in
theorem catch_none (r k : Nat) (w : World) :
    CallsD Try.prog 45 #[.pointer (some ⟨r, 0, none⟩), .pointer (some ⟨k, 0, none⟩)] .returning w fun en u' w' => en = .returned (.tuple #[]) ∧ u' = .returning ∧ w = w' := by
  refine callsD_of_wpS Try.func45 rfl fun c₀ cs hu => ?_
  simp only [Try.ntmps45, List.size_toArray, List.length_cons, List.length_nil, Nat.reduceAdd, Nat.reduceSub, Array.replicate_succ, Array.replicate_zero, List.push_toArray, List.append_toArray, List.nil_append, List.cons_append]
  apply wpS_seq
  apply wpS_region
  simp [wpOpsS, go_sem, recoverD, hu, Exit.thenS]
  refine wpS_of_wp ?_
  go_wp2
  cases c₀
  simp_all [bodyPostS, results, Try.results45]
end Go.Proofs.Ytbbphfhkedldmaa.Rec
