import Derived.Test.YtplombkpefacgaaDkG
/- Write and Sync of anything. -/
namespace Go.Proofs.Ytplombkpefacgaa.Disk
open Go.ChangeShapes Go.WideShapes Go.ChangeAt Go.RowKit Go.IntWalk Go.Proofs.Mem Go.Proofs.Each Law
set_option linter.unusedVariables false
set_option linter.unusedSimpArgs false
/-- there is such a sector -/
def Dv.has (D : Dv) (i : Nat) (N : Int) : Prop := i < 2 ∧ 0 ≤ N ∧ N < (D.f i).length
instance (D : Dv) (i : Nat) (N : Int) : Decidable (D.has i N) := by unfold Dv.has; infer_instance
def Dv.wrE (D : Dv) (i : Nat) (N : Int) (L : Nat) : Int := if D.has i N then (if L = 128 then 0 else 1) else 50
def Dv.wrA (D : Dv) (i : Nat) (N : Int) (xs : List Int) : Dv := if D.has i N ∧ xs.length = 128 then D.wr i N.toNat ((D.f i).getD N.toNat zSe) xs else D
theorem DvAt.formv {tS tD : TypeId} {w : World} {S : Nat → Prop} {b : Nat} {D : Dv} {col : Nat → Nat} {fv : Nat → Value} {uv : Nat → List Pl} (h : DvAt tS tD w S b D col fv uv) (i : Nat) : ∃ A L c, (i < 2 → fv i = .slice A L c ∧ L = (D.f i).length) ∧ (¬ i < 2 → A = none ∧ L = 0 ∧ c = 0) := by
  by_cases hi : i < 2
  · rcases (h.file i hi).row.1.2 with ⟨e, h0⟩ | ⟨g, cap, _, e, _⟩
    · exact ⟨none, 0, 0, fun _ => ⟨e, h0.symm⟩, fun h => absurd hi h⟩
    · exact ⟨_, (D.f i).length, cap, fun _ => ⟨e, rfl⟩, fun h => absurd hi h⟩
  · exact ⟨none, 0, 0, fun h => absurd h hi, fun _ => ⟨rfl, rfl, rfl⟩⟩
theorem write_any {w : World} {S : Nat → Prop} {b : Nat} {D : Dv} {col : Nat → Nat} {fv : Nat → Value} {uv : Nat → List Pl} (h : DA w S b D col fv uv) (I N : Int) (i : Nat) (hI : I = i) (hi : i ≤ 255) (hw : ∀ k, k < 2 → ∀ s ∈ D.f k, s.wait.length ≤ 100000)
    (dv : Value) (xs : List Int) (hdf : ∀ w', Fr S w w' → IR w' w'.heap.size .u8 dv xs) (hxb : Bytes xs) :
    Calls Try.prog 27 #[.pointer (some ⟨b, 0, none⟩), .int .u8 I, .int .i64 N, dv] w fun e w' => e = .returned (.int .u16 (D.wrE i N xs.length)) ∧ (∃ col' uv', DA w' (growS w w' S) b (D.wrA i N xs) col' fv uv') ∧ Fr S w w' := by
  subst hI
  by_cases hh : D.has i N
  · obtain ⟨n, hn⟩ : ∃ n : Nat, N = n := ⟨N.toNat, by have := hh.2.1; omega⟩
    subst hn
    have hnl : n < (D.f i).length := by have := hh.2.2; omega
    have hs : (D.f i)[n]? = some (D.f i)[n] := List.getElem?_eq_getElem hnl
    by_cases hx : xs.length = 128
    · have e1 : D.wrE i n xs.length = 0 := by unfold Dv.wrE; rw [if_pos hh, if_pos hx]
      have e2 : D.wrA i n xs = D.wr i n (D.f i)[n] xs := by unfold Dv.wrA; rw [if_pos ⟨hh, hx⟩, Int.toNat_natCast, List.getD_eq_getElem?_getD, hs]; rfl
      rw [e1, e2]
      exact write_yes h i hh.1 n _ hs (hw i hh.1 _ (List.getElem_mem hnl)) n rfl dv xs hdf hx hxb
    · have e1 : D.wrE i n xs.length = 1 := by unfold Dv.wrE; rw [if_pos hh, if_neg hx]
      have e2 : D.wrA i n xs = D := by unfold Dv.wrA; rw [if_neg (fun h => hx h.2)]
      rw [e1, e2]
      obtain ⟨g, cap, C, p, s', sp⟩ := (h.file i hh.1).spot n hnl
      have AT := Lib.hid (at_yes w b fv D.lim D.left D.dead h.box i hh.1 g _ cap sp.hv n hnl (h.most i hh.1) sp.hcap (n : Int) rfl)
      obtain ⟨Ad, cd, ed, hld, hcd⟩ := (hdf w (Fr.refl _ _)).form
      subst ed
      have hxi : ¬ ((xs.length : Int) = 128) := by omega
      have dx : ((xs.length : Int) != 128) = true := by simpa using hxi
      have HH := Lib.hid h
      clear h hdf hs sp hld hcd hh e1 e2
      go_enter Try.func27, Try.ntmps27
      go_wp2_with fail
      (with_reducible refine AT.out.mono ?_)
      rintro e w1 ⟨rfl, rfl⟩
      go_wp2
      go_ret
      exact ⟨rfl, ⟨col, uv, HH.out.grow⟩, Fr.refl _ _⟩
  · have e1 : D.wrE i N xs.length = 50 := by unfold Dv.wrE; rw [if_neg hh]
    have e2 : D.wrA i N xs = D := by unfold Dv.wrA; rw [if_neg (fun h => hh h.1)]
    rw [e1, e2]
    obtain ⟨A, L, c, f1, f2⟩ := h.formv i
    have AT := Lib.hid (at_no w b fv D.lim D.left D.dead h.box i hi A L c (fun h => (f1 h).1) f2 N (by
      by_cases hi2 : i < 2
      · have := (f1 hi2).2
        unfold Dv.has at hh
        omega
      · have := (f2 hi2).2.1; omega))
    have HH := Lib.hid h
    clear h hdf f1 f2 hh e1 e2
    go_enter Try.func27, Try.ntmps27
    go_wp2_with fail
    (with_reducible refine AT.out.mono ?_)
    rintro e w1 ⟨rfl, rfl⟩
    go_wp2
    go_ret
    exact ⟨rfl, ⟨col, uv, HH.out.grow⟩, Fr.refl _ _⟩
def Dv.synA (D : Dv) (i : Nat) : Dv := if i < 2 then D.syn i else D
theorem sync_any {w : World} {S : Nat → Prop} {b : Nat} {D : Dv} {col : Nat → Nat} {fv : Nat → Value} {uv : Nat → List Pl} (h : DA w S b D col fv uv) (I : Int) (i : Nat) (hI : I = i) (hi : i ≤ 255) (hw : ∀ k, k < 2 → ∀ s ∈ D.f k, s.wait.length ≤ 100000) :
    Calls Try.prog 21 #[.pointer (some ⟨b, 0, none⟩), .int .u8 I] w fun e w' => e = .returned (.tuple #[]) ∧ (∃ col' uv', DA w' (growS w w' S) b (D.synA i) col' fv uv') ∧ Fr S w w' := by
  subst hI
  by_cases h2 : i < 2
  · have e : D.synA i = D.syn i := if_pos h2
    rw [e]
    exact sync_yes h i h2 (hw i h2)
  · have e : D.synA i = D := if_neg h2
    rw [e]
    have wi := i8_wrap i hi
    have d1 : decide ((2 : Int) ≤ (i : Int)) = true := by simp; omega
    have HH := Lib.hid h
    clear h e
    go_enter Try.func21, Try.ntmps21
    go_wp2
    refine bodyPost_ret (results_none rfl _ _ _) rfl ?_
    exact ⟨rfl, ⟨col, uv, HH.out.grow⟩, Fr.refl _ _⟩
end Go.Proofs.Ytplombkpefacgaa.Disk
