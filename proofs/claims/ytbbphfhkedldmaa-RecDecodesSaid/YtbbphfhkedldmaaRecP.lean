import Derived.Test.YtbbphfhkedldmaaRec9
import Derived.Test.YtbbphfhkedldmaaRecK
/- A reader that gives up. -/
namespace Go.Proofs.Ytbbphfhkedldmaa.Rec
open Go.ChangeShapes Go.WideShapes Go.ChangeAt Go.RowKit Go.IntWalk Go.Proofs.NumMath Go.Proofs.Mem Go.Proofs.CrcMath NumBytes CrcA
set_option linter.unusedVariables false
set_option linter.unusedSimpArgs false
def raise_ : List PanicEntry := [{ v := .iface 35 (.int .u16 61), recovered := false }]
theorem give_up (v : Value) (w : World) : Calls Try.prog 47 #[v] w fun e w' => e = .panicked raise_ ∧ w = w' := by
  go_enter Try.func47, Try.ntmps47
  go_wp2
  exact ⟨rfl, rfl, rfl⟩
set_option maxHeartbeats 2000000 in
theorem take_no (w : World) (g B : Nat) (v : Value) (xs : List Int) (h : Rd w g B v xs) (n : Nat) (hn : xs.length < n) (hn2 : n ≤ 1000) :
    Calls Try.prog 51 #[.pointer (some ⟨g, 0, none⟩), .int .i64 n] w fun e w' => e = .panicked raise_ ∧ w = w' := by
  obtain ⟨A, c, rfl, hlc, hcm⟩ := h.ir.form
  have x0 := h.box.cell 0
  simp only [List.getElem?_toArray, List.getElem?_cons_zero] at x0
  unfold maxLen at hcm
  clear h
  have d1 : decide ((xs.length : Int) < (n : Int)) = true := by simp; omega
  go_enter Try.func51, Try.ntmps51
  go_wp2_with (go_at_call 47; (with_reducible refine (give_up _ _).mono ?_); rintro e w1 ⟨rfl, rfl⟩)
  exact ⟨rfl, rfl, rfl⟩
/-- a number that is read -/
def rNum (n : Nat) (xs : List Int) : Option (Int × List Int) := if n ≤ xs.length then some (getS (xs.take n), xs.drop n) else none
theorem rNum_some {n : Nat} {xs ys : List Int} {a : Int} (h : rNum n xs = some (a, ys)) : n ≤ xs.length ∧ a = getS (xs.take n) ∧ ys = xs.drop n := by
  unfold rNum at h
  split at h
  · injection h with h
    injection h with h1 h2
    exact ⟨by assumption, h1.symm, h2.symm⟩
  · cases h
theorem rNum_none {n : Nat} {xs : List Int} (h : rNum n xs = none) : xs.length < n := by
  unfold rNum at h
  split at h
  · cases h
  · omega
theorem bytes_drop {xs : List Int} (h : Bytes xs) (n : Nat) : Bytes (xs.drop n) := fun y hy => h y (List.mem_of_mem_drop hy)
theorem bytes_take {xs : List Int} (h : Bytes xs) (n : Nat) : Bytes (xs.take n) := fun y hy => h y (List.mem_of_mem_take hy)
theorem rNum_bytes {n : Nat} {xs ys : List Int} {a : Int} (h : rNum n xs = some (a, ys)) (hx : Bytes xs) : Bytes ys := by
  rw [(rNum_some h).2.2]; exact bytes_drop hx n
theorem getTo_bd (xs : List Int) (hx : Bytes xs) : ∀ k, 0 ≤ getTo xs k ∧ getTo xs k < 2 ^ (8 * k) := by
  intro k
  induction k with
  | zero => exact ⟨Int.le_refl _, by simp [getTo]⟩
  | succ k ih =>
    have hb := hx.at_ k
    have e : (2 : Int) ^ (8 * (k + 1)) = 2 ^ (8 * k) * 256 := by rw [show 8 * (k + 1) = 8 * k + 8 by omega, p2_add]; rfl
    have p := p2 (8 * k)
    show 0 ≤ getTo xs k + xs.getD k 0 * 2 ^ (8 * k) ∧ getTo xs k + xs.getD k 0 * 2 ^ (8 * k) < _
    rw [e]
    generalize xs.getD k 0 = x at hb
    generalize (2 : Int) ^ (8 * k) = q at ih p
    obtain ⟨m, rfl⟩ : ∃ m : Nat, x = (m : Int) := ⟨x.toNat, by omega⟩
    have h1 : (m : Int) * q ≤ 255 * q := Int.mul_le_mul_of_nonneg_right (by omega) (by omega)
    have h2 : 0 ≤ (m : Int) * q := Int.mul_nonneg (by omega) (by omega)
    rw [Int.mul_comm q 256]
    omega
theorem rNum_bd {n : Nat} (hn : n ≤ 8) {xs ys : List Int} {a : Int} (h : rNum n xs = some (a, ys)) (hx : Bytes xs) : 0 ≤ a ∧ a < 2 ^ (8 * n) := by
  obtain ⟨h1, h2, _⟩ := rNum_some h
  rw [h2]
  unfold getS
  rw [List.length_take, Nat.min_eq_left h1, Nat.min_eq_left hn]
  exact getTo_bd _ (bytes_take hx n) n
theorem num_some (w : World) (g B : Nat) (v : Value) (xs ys : List Int) (a : Int) (h : Rd w g B v xs) (hx : Bytes xs) (n : Nat) (N : Int) (hN : N = n) (hr : rNum n xs = some (a, ys)) :
    Calls Try.prog 46 #[.pointer (some ⟨g, 0, none⟩), .int .i64 N] w fun e w' => e = .returned (.int .u64 a) ∧ (∃ v', Rd w' g B v' ys) ∧ Fr (fun x => x = g) w w' := by
  obtain ⟨h1, rfl, rfl⟩ := rNum_some hr
  subst hN
  exact rnumber_any w g B v xs h hx n h1
set_option maxHeartbeats 2000000 in
theorem num_none (w : World) (g B : Nat) (v : Value) (xs : List Int) (h : Rd w g B v xs) (n : Nat) (N : Int) (hN : N = n) (hn : n ≤ 8) (hr : rNum n xs = none) :
    Calls Try.prog 46 #[.pointer (some ⟨g, 0, none⟩), .int .i64 N] w fun e w' => e = .panicked raise_ ∧ w = w' := by
  subst hN
  have TA := Lib.hid (take_no w g B v xs h n (rNum_none hr) (by omega))
  clear h hr
  go_enter Try.func46, Try.ntmps46
  go_wp2_with (go_at_call 51; (with_reducible refine TA.out.mono ?_); rintro e w1 ⟨rfl, rfl⟩)
  exact ⟨rfl, rfl, rfl⟩
/-- a text that is read -/
def rText (xs : List Int) : Option (List Int × List Int) :=
  match rNum 1 xs with
  | none => none
  | some (k, ys) => if k.toNat ≤ ys.length then some (ys.take k.toNat, ys.drop k.toNat) else none
theorem rText_bytes {xs ys zs : List Int} (h : rText xs = some (ys, zs)) (hx : Bytes xs) : Bytes ys ∧ Bytes zs ∧ ys.length ≤ 255 := by
  unfold rText at h
  cases e : rNum 1 xs with
  | none => rw [e] at h; cases h
  | some p =>
    obtain ⟨k, us⟩ := p
    rw [e] at h
    simp only at h
    split at h
    · injection h with h
      injection h with h1 h2
      have hb := rNum_bytes e hx
      have hk := rNum_bd (by decide) e hx
      subst h1 h2
      exact ⟨bytes_take hb _, bytes_drop hb _, by rw [List.length_take]; have := hk.2; rw [show (2 : Int) ^ (8 * 1) = 256 from rfl] at this; omega⟩
    · cases h
set_option maxRecDepth 100000 in
set_option maxHeartbeats 4000000 in
theorem rtext_some (w : World) (g B : Nat) (v : Value) (xs ys zs : List Int) (h : Rd w g B v xs) (hx : Bytes xs) (hr : rText xs = some (ys, zs)) :
    Calls Try.prog 52 #[.pointer (some ⟨g, 0, none⟩)] w fun e w' => ∃ u, e = .returned u ∧ w'.ownsRow w.heap.size 5 1 u ys.length (ys.map (.int .u8)) ∧ (∃ v', Rd w' g B v' zs) ∧ Fr (fun x => x = g) w w' := by
  obtain ⟨i0, hi0, hz0, hz1, hz2⟩ := info_parts u8_info
  have hyl := (rText_bytes hr hx).2.2
  unfold rText at hr
  cases e : rNum 1 xs with
  | none => rw [e] at hr; cases hr
  | some p =>
    obtain ⟨k, us⟩ := p
    rw [e] at hr
    simp only at hr
    have hk := rNum_bd (by decide) e hx
    rw [show (2 : Int) ^ (8 * 1) = 256 from rfl] at hk
    split at hr
    case isFalse => cases hr
    case isTrue hle =>
      injection hr with hr
      injection hr with h1 h2
      subst h1 h2
      obtain ⟨K, rfl⟩ : ∃ K : Nat, k = K := ⟨k.toNat, by omega⟩
      rw [Int.toNat_natCast] at hle hyl ⊢
      have wk : IntKind.i64.wrap (K : Int) = (K : Int) := IntWalk.i64_in _ (by omega)
      have NS := Lib.hid (num_some w g B v xs us K h hx 1 1 rfl e)
      have TK := Lib.hid (fun W v (h : Rd W g B v us) => take_any W g B v us h K hle)
      have GB := Lib.hid h.le
      have GL := Lib.hid h.box.lt
      have HK := Lib.hid hk
      clear h e hk
      go_enter Try.func52, Try.ntmps52
      go_wp2_with (first
        | (go_at_call 46; (with_reducible refine NS.out.mono ?_); rintro e w1 ⟨rfl, ⟨v1, r1⟩, f1⟩; have R1 := Lib.hid r1; have F1 := Lib.hid f1; clear r1 f1)
        | (go_at_call 51; (with_reducible refine (TK.out _ _ R1.out).mono ?_); rintro e w2 ⟨u, rfl, iu, ⟨v2, r2⟩, f2⟩; have R2 := Lib.hid r2; have F2 := Lib.hid (F1.out.trans f2); have IU := Lib.hid iu; clear r2 f2 iu)
        | (at_builtin; refine wpList_append_tx _ rfl _ _ _ _ rfl w.heap.size 5 5 i0 .u8 1 Try.underlying25 Try.underlying25 hi0 hz0 hz1 hz2 (.slice none 0 0) 0 [] rfl (World.ownsRow_nil _ _ _ _) B u (us.take K) rfl IU.out (by unfold maxLen; omega) (by omega) F2.out.size ?_; intro v3 w3 hown3 hg3 ho3
           rw [Nat.zero_add, List.nil_append] at hown3
           have O3 := Lib.hid hown3
           have R3 := Lib.hid (R2.out.below (grown_below hg3))
           have F3 := Lib.hid (F2.out.below (grown_below hg3))
           clear hown3 hg3 ho3))
      go_ret
      exact ⟨_, rfl, O3.out, ⟨_, R3.out⟩, F3.out⟩
set_option maxHeartbeats 4000000 in
theorem rtext_none (w : World) (g B : Nat) (v : Value) (xs : List Int) (h : Rd w g B v xs) (hx : Bytes xs) (hr : rText xs = none) :
    Calls Try.prog 52 #[.pointer (some ⟨g, 0, none⟩)] w fun e w' => e = .panicked raise_ ∧ Fr (fun x => x = g) w w' := by
  unfold rText at hr
  cases e : rNum 1 xs with
  | none =>
    have NN := Lib.hid (num_none w g B v xs h 1 1 rfl (by decide) e)
    clear h e hr
    go_enter Try.func52, Try.ntmps52
    go_wp2_with (go_at_call 46; (with_reducible refine NN.out.mono ?_); rintro e w1 ⟨rfl, rfl⟩)
    exact ⟨rfl, rfl, Fr.refl _ _⟩
  | some p =>
    obtain ⟨k, us⟩ := p
    rw [e] at hr
    simp only at hr
    have hk := rNum_bd (by decide) e hx
    rw [show (2 : Int) ^ (8 * 1) = 256 from rfl] at hk
    split at hr
    case isTrue => cases hr
    case isFalse hle =>
      obtain ⟨K, rfl⟩ : ∃ K : Nat, k = K := ⟨k.toNat, by omega⟩
      rw [Int.toNat_natCast] at hle
      have wk : IntKind.i64.wrap (K : Int) = (K : Int) := IntWalk.i64_in _ (by omega)
      have NS := Lib.hid (num_some w g B v xs us K h hx 1 1 rfl e)
      have TK := Lib.hid (fun W v (h : Rd W g B v us) => take_no W g B v us h K (by omega) (by omega))
      have HK := Lib.hid hk
      clear h e hk hr hle
      go_enter Try.func52, Try.ntmps52
      go_wp2_with (first
        | (go_at_call 46; (with_reducible refine NS.out.mono ?_); rintro e w1 ⟨rfl, ⟨v1, r1⟩, f1⟩; have R1 := Lib.hid r1; have F1 := Lib.hid f1; clear r1 f1)
        | (go_at_call 51; (with_reducible refine (TK.out _ _ R1.out).mono ?_); rintro e w2 ⟨rfl, rfl⟩))
      exact ⟨rfl, rfl, F1.out⟩
end Go.Proofs.Ytbbphfhkedldmaa.Rec
