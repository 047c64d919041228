import Derived.Test.YtnajmdgheohpjaaCodecMath
import Derived.Test.YtnajmdgheohpjaaMem3
import Derived.Test.YtnajmdgheohpjaaFr
/- Numbers cut off the front of bytes. -/
namespace Go.Proofs.Ytnajmdgheohpjaa.Codec
open Go.ChangeShapes Go.WideShapes Go.ChangeAt Go.RowKit Go.IntWalk Go.Proofs.NumMath Go.Proofs.Mem NumBytes
set_option linter.unusedVariables false
theorem bytes_take {xs : List Int} (h : Bytes xs) (k : Nat) : Bytes (xs.take k) := fun x hx => h x (List.mem_of_mem_take hx)
theorem bytes_drop {xs : List Int} (h : Bytes xs) (k : Nat) : Bytes (xs.drop k) := fun x hx => h x (List.mem_of_mem_drop hx)
theorem IR.drop {w : World} {B : Nat} {k : IntKind} {A : Option Addr} {n c m : Nat} {xs : List Int} (h : IR w B k (.slice A n c) xs) (hm : m ≤ n) (A' : Option Addr) (hA : A' = if c = m then A else A.map (·.add m)) :
    IR w B k (.slice A' (n - m) (c - m)) (xs.drop m) := by
  obtain ⟨A0, c0, e, h2, h3, h4, h5⟩ := h
  injection e with e1 e2 e3
  subst e1; subst e2; subst e3
  have hl : (xs.drop m).length = xs.length - m := List.length_drop
  refine ⟨A', c - m, by rw [hl], by omega, by omega, fun hh => ?_, fun i hi => ?_⟩
  · by_cases hc : c = m
    · omega
    · rw [hA, if_neg hc] at hh
      cases A with
      | none => have := h4 rfl; omega
      | some a => cases hh
  · obtain ⟨b, off, e, hb, hc⟩ := h5 (m + i) (by omega)
    subst e
    rw [if_neg (by omega)] at hA
    refine ⟨b, off + m, by rw [hA]; simp [Go.WideShapes.add_plain], hb, ?_⟩
    rw [show off + m + i = off + (m + i) by omega, hc]
    simp [List.getD]
set_option maxHeartbeats 1000000 in
/-- so many bytes off the front that lies in cell g: what was there is read in an elder world -/
theorem cut_any (W0 : World) (B g k : Nat) (K : Int) (hK : K = (k : Int)) (v : Value) (xs : List Int) (hv : IR W0 B .u8 v xs) (hx : Bytes xs) (hk : k ≤ xs.length) (w : World) (hw : ∀ p : Addr, p.block < B → w.cell? p = W0.cell? p) (hg : B ≤ g)
    (hc : w.cell? ⟨g, 0, none⟩ = some v) (hf : w.frozen? ⟨g, 0, none⟩ = false) :
    Calls Try.prog 28 #[.pointer (some ⟨g, 0, none⟩), .int .i64 K] w fun e w' => ∃ v', e = .returned (.int .u64 (getS (xs.take k))) ∧ IR W0 B .u8 v' (xs.drop k) ∧ w' = w.setCell ⟨g, 0, none⟩ v' := by
  subst hK
  have hv' := hv.keep hw
  obtain ⟨A, c, rfl, hlc, hcm⟩ := hv.form
  unfold maxLen at hcm
  have ht := hv'.take (m := k) hk
  have hd := fun A' hA => IR.drop hv (m := k) hk A' hA
  have HD := Lib.hid hd
  have HV := Lib.hid hv
  clear hd hv hv'
  have u1 : (k : Int) ≤ (c : Int) := by omega
  have u2 : (0 : Int) ≤ (k : Int) := by omega
  have u3 : (k : Int) ≤ (xs.length : Int) := by omega
  by_cases h : c = k
  · subst h
    go_enter Try.func28, Try.ntmps28
    go_wp2_with fail
    (with_reducible refine (get_any _ (xs.take c) _ _ ht (bytes_take hx c)).mono ?_)
    rintro e w' ⟨rfl, rfl⟩
    go_wp2
    go_ret
    refine ⟨_, rfl, ?_, rfl⟩
    have := HD.out A (by simp)
    rwa [show c - c = 0 by omega, show xs.length - c = 0 by omega] at this
  · go_enter Try.func28, Try.ntmps28
    go_wp2_with fail
    (with_reducible refine (get_any _ (xs.take k) _ _ ht (bytes_take hx k)).mono ?_)
    rintro e w' ⟨rfl, rfl⟩
    go_wp2
    go_ret
    exact ⟨_, rfl, HD.out _ (by rw [if_neg h]), rfl⟩
section
variable (W0 : World) (B g : Nat) (v : Value) (xs : List Int) (hv : IR W0 B .u8 v xs) (hx : Bytes xs) (w : World) (hw : ∀ p : Addr, p.block < B → w.cell? p = W0.cell? p) (hg : B ≤ g)
    (hc : w.cell? ⟨g, 0, none⟩ = some v) (hf : w.frozen? ⟨g, 0, none⟩ = false)
include hv hx hw hg hc hf
set_option maxHeartbeats 1000000 in
theorem one_any (hk : 1 ≤ xs.length) :
    Calls Try.prog 18 #[.pointer (some ⟨g, 0, none⟩)] w fun e w' => ∃ v', e = .returned (.int .u8 (at_ xs 0 1)) ∧ IR W0 B .u8 v' (xs.drop 1) ∧ w' = w.setCell ⟨g, 0, none⟩ v' := by
  obtain ⟨q0, q1⟩ := b1 xs hx 0
  have e : getS (xs.take 1) = at_ xs 0 1 := by unfold at_; rw [List.drop_zero]
  have H := Lib.hid (cut_any W0 B g 1 1 rfl v xs hv hx hk w hw hg hc hf)
  rw [e] at H
  generalize at_ xs 0 1 = y at *
  clear e hv hx hw hc hf
  go_enter Try.func18, Try.ntmps18
  go_wp2_with fail
  (with_reducible refine (H.out).mono ?_)
  rintro e w' ⟨v', rfl, hv', rfl⟩
  go_wp2
  go_ret
  exact ⟨_, rfl, hv', rfl⟩
set_option maxHeartbeats 1000000 in
theorem two_any (hk : 2 ≤ xs.length) :
    Calls Try.prog 27 #[.pointer (some ⟨g, 0, none⟩)] w fun e w' => ∃ v', e = .returned (.int .u16 (at_ xs 0 2)) ∧ IR W0 B .u8 v' (xs.drop 2) ∧ w' = w.setCell ⟨g, 0, none⟩ v' := by
  obtain ⟨q0, q1⟩ := b2 xs hx 0
  have e : getS (xs.take 2) = at_ xs 0 2 := by unfold at_; rw [List.drop_zero]
  have H := Lib.hid (cut_any W0 B g 2 2 rfl v xs hv hx hk w hw hg hc hf)
  rw [e] at H
  generalize at_ xs 0 2 = y at *
  clear e hv hx hw hc hf
  go_enter Try.func27, Try.ntmps27
  go_wp2_with fail
  (with_reducible refine (H.out).mono ?_)
  rintro e w' ⟨v', rfl, hv', rfl⟩
  go_wp2
  go_ret
  exact ⟨_, rfl, hv', rfl⟩
set_option maxHeartbeats 1000000 in
theorem four_any (hk : 4 ≤ xs.length) :
    Calls Try.prog 19 #[.pointer (some ⟨g, 0, none⟩)] w fun e w' => ∃ v', e = .returned (.int .u32 (at_ xs 0 4)) ∧ IR W0 B .u8 v' (xs.drop 4) ∧ w' = w.setCell ⟨g, 0, none⟩ v' := by
  obtain ⟨q0, q1⟩ := b4 xs hx 0
  have e : getS (xs.take 4) = at_ xs 0 4 := by unfold at_; rw [List.drop_zero]
  have H := Lib.hid (cut_any W0 B g 4 4 rfl v xs hv hx hk w hw hg hc hf)
  rw [e] at H
  generalize at_ xs 0 4 = y at *
  clear e hv hx hw hc hf
  go_enter Try.func19, Try.ntmps19
  go_wp2_with fail
  (with_reducible refine (H.out).mono ?_)
  rintro e w' ⟨v', rfl, hv', rfl⟩
  go_wp2
  go_ret
  exact ⟨_, rfl, hv', rfl⟩
set_option maxHeartbeats 1000000 in
theorem eight_any (hk : 8 ≤ xs.length) :
    Calls Try.prog 20 #[.pointer (some ⟨g, 0, none⟩)] w fun e w' => ∃ v', e = .returned (.int .u64 (at_ xs 0 8)) ∧ IR W0 B .u8 v' (xs.drop 8) ∧ w' = w.setCell ⟨g, 0, none⟩ v' := by
  have e : getS (xs.take 8) = at_ xs 0 8 := by unfold at_; rw [List.drop_zero]
  have H := Lib.hid (cut_any W0 B g 8 8 rfl v xs hv hx hk w hw hg hc hf)
  rw [e] at H
  generalize at_ xs 0 8 = y at *
  clear e hv hx hw hc hf
  go_enter Try.func20, Try.ntmps20
  go_wp2_with fail
  (with_reducible refine (H.out).mono ?_)
  rintro e w' ⟨v', rfl, hv', rfl⟩
  go_wp2
  go_ret
  exact ⟨_, rfl, hv', rfl⟩
end
theorem IR.sub {w : World} {B : Nat} {kd : IntKind} {A : Option Addr} {n c : Nat} {xs : List Int} (h : IR w B kd (.slice A n c) xs) (a k : Nat) (hk : 0 < k) (hm : a + k ≤ n) : IR w B kd (.slice (A.map (·.add a)) k (c - a)) ((xs.drop a).take k) := by
  have hn : n ≤ c := by
    obtain ⟨_, _, e, h2, _⟩ := h.form
    injection e with _ e2 e3; omega
  exact IR.take (IR.drop h (m := a) (by omega) _ (by rw [if_neg (by omega)])) (by omega)
set_option maxHeartbeats 1000000 in
theorem number_any (v : Value) (xs : List Int) (a : Nat) (w : World) (B : Nat) (hv : IR w B .u8 v xs) (hx : Bytes xs) (ha : a + 4 ≤ xs.length) (hl : xs.length ≤ 1000) :
    Calls Try.prog 22 #[v, .int .i64 a] w fun e w' => e = .returned (.int .u32 (at_ xs a 4)) ∧ ∃ d, w' = w.drewN d := by
  obtain ⟨A, c, rfl, hlc, hcm⟩ := hv.form
  unfold maxLen at hcm
  have hs := IR.sub hv a 4 (by omega) ha
  have hby := bytes_take (bytes_drop hx a) 4
  obtain ⟨q0, q1⟩ := b4 xs hx a
  have e : getS ((xs.drop a).take 4) = at_ xs a 4 := rfl
  have H := Lib.hid (get_ref _ _ w B hs hby)
  rw [e] at H
  generalize at_ xs a 4 = y at *
  have hne : ¬ c = a := by omega
  have u1 : (0 : Int) ≤ (a : Int) := by omega
  have u2 : (a : Int) + 4 ≤ (c : Int) := by omega
  clear hv hs hby e
  go_enter Try.func22, Try.ntmps22
  go_wp2_with fail
  (with_reducible refine H.out.mono ?_)
  rintro e w' ⟨rfl, d, rfl⟩
  go_wp2
  go_ret
  exact ⟨rfl, d, rfl⟩
end Go.Proofs.Ytnajmdgheohpjaa.Codec
