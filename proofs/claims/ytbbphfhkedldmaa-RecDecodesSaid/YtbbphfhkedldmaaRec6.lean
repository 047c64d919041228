import Derived.Test.YtbbphfhkedldmaaRec5
import Derived.Test.YtbbphfhkedldmaaMem2
/- A reader. -/
namespace Go.Proofs.Ytbbphfhkedldmaa.Rec
open Go.ChangeShapes Go.WideShapes Go.ChangeAt Go.RowKit Go.IntWalk Go.Proofs.NumMath Go.Proofs.Mem Go.Proofs.CrcMath NumBytes CrcA
set_option linter.unusedVariables false
set_option linter.unusedSimpArgs false
theorem ir_drop {w : World} {B : Nat} {k : IntKind} {A : Option Addr} {n c m : Nat} {xs : List Int} (h : IR w B k (.slice A n c) xs) (hm : m ≤ n) (A' : Option Addr) (hA : A' = if c = m then A else A.map (·.add m)) :
    IR w B k (.slice A' (n - m) (c - m)) (xs.drop m) := by
  obtain ⟨A0, c0, e, h2, h3, h4, h5⟩ := h
  injection e with e1 e2 e3
  subst e1; subst e2; subst e3
  have hl : (xs.drop m).length = xs.length - m := List.length_drop
  refine ⟨A', c - m, by rw [hl], by omega, by omega, fun hh => ?_, fun i hi => ?_⟩
  · by_cases hc : c = m
    · omega
    · rw [hA, if_neg hc] at hh
      cases A with
      | none => have := h4 rfl; omega
      | some a => cases hh
  · obtain ⟨b, off, e, hb, hc⟩ := h5 (m + i) (by omega)
    subst e
    rw [if_neg (by omega)] at hA
    refine ⟨b, off + m, by rw [hA]; simp [Go.WideShapes.add_plain], hb, ?_⟩
    rw [show off + m + i = off + (m + i) by omega, hc]
    simp [List.getD]
/-- a reader at block g: what is left of the bytes that lie below B -/
structure Rd (w : World) (g B : Nat) (v : Value) (xs : List Int) : Prop where
  box : Box w g #[v] 80
  ir : IR w B .u8 v xs
  le : B ≤ g
theorem Rd.fr {w w' : World} {g B : Nat} {v : Value} {xs : List Int} {S : Nat → Prop} (h : Rd w g B v xs) (hf : Fr S w w') (hn : ¬ S g) (hS : ∀ k, S k → B ≤ k) : Rd w' g B v xs :=
  ⟨h.box.fr hf hn, h.ir.below (hf.to_below hS (Nat.le_trans h.le (Nat.le_of_lt h.box.lt))), h.le⟩
set_option maxHeartbeats 2000000 in
theorem take_any (w : World) (g B : Nat) (v : Value) (xs : List Int) (h : Rd w g B v xs) (n : Nat) (hn : n ≤ xs.length) :
    Calls Try.prog 51 #[.pointer (some ⟨g, 0, none⟩), .int .i64 n] w fun e w' => ∃ u, e = .returned u ∧ IR w' B .u8 u (xs.take n) ∧ (∃ v', Rd w' g B v' (xs.drop n)) ∧ Fr (fun x => x = g) w w' := by
  have R := Lib.hid h
  obtain ⟨A, c, rfl, hlc, hcm⟩ := h.ir.form
  have x0 := h.box.cell 0
  have y0 := h.box.frozen 0
  simp only [List.getElem?_toArray, List.getElem?_cons_zero] at x0
  unfold maxLen at hcm
  clear h
  have d1 : decide ((xs.length : Int) < (n : Int)) = false := by simp; omega
  go_enter Try.func51, Try.ntmps51
  go_wp2
  · subst h
    go_ret
    refine ⟨_, rfl, (R.out.ir.take hn).below ((Below.refl B w).setCell (p := ⟨g, 0, none⟩) R.out.le _), ⟨.slice A (xs.length - c) 0, R.out.box.set_ 0 _, ?_, R.out.le⟩, (Fr.refl (fun x => x = g) w).setCell (p := ⟨g, 0, none⟩) (.inl rfl) _⟩
    have := ir_drop R.out.ir hn A (by rw [if_pos rfl])
    rw [Nat.sub_self] at this
    exact this.below ((Below.refl B w).setCell (p := ⟨g, 0, none⟩) R.out.le _)
  · go_ret
    refine ⟨_, rfl, (R.out.ir.take hn).below ((Below.refl B w).setCell (p := ⟨g, 0, none⟩) R.out.le _), ⟨.slice (A.map fun x => x.add n) (xs.length - n) (c - n), R.out.box.set_ 0 _, ?_, R.out.le⟩, (Fr.refl (fun x => x = g) w).setCell (p := ⟨g, 0, none⟩) (.inl rfl) _⟩
    exact (ir_drop R.out.ir hn (A.map fun x => x.add n) (by rw [if_neg h])).below ((Below.refl B w).setCell (p := ⟨g, 0, none⟩) R.out.le _)
set_option maxHeartbeats 2000000 in
theorem rnumber_any (w : World) (g B : Nat) (v : Value) (xs : List Int) (h : Rd w g B v xs) (hx : Bytes xs) (n : Nat) (hn : n ≤ xs.length) :
    Calls Try.prog 46 #[.pointer (some ⟨g, 0, none⟩), .int .i64 n] w fun e w' => e = .returned (.int .u64 (getS (xs.take n))) ∧ (∃ v', Rd w' g B v' (xs.drop n)) ∧ Fr (fun x => x = g) w w' := by
  have TA := Lib.hid (take_any w g B v xs h n hn)
  have hxt : Bytes (xs.take n) := fun y hy => hx y (List.mem_of_mem_take hy)
  clear h
  go_enter Try.func46, Try.ntmps46
  go_wp2_with (first
    | (go_at_call 51; (with_reducible refine TA.out.mono ?_); rintro e w1 ⟨u, rfl, hu, ⟨v1, hr⟩, hf⟩; have HU := Lib.hid hu; have HR := Lib.hid hr; have HF := Lib.hid hf; clear hu hr hf)
    | (go_at_call 34; (with_reducible refine (get_any _ _ _ _ HU.out hxt).mono ?_); rintro e w2 ⟨rfl, rfl⟩))
  go_ret
  exact ⟨rfl, ⟨_, HR.out⟩, HF.out⟩
end Go.Proofs.Ytbbphfhkedldmaa.Rec
