import Derived.Test.YtpndcpmfcajmdaaLkI
import Derived.Test.YtpndcpmfcajmdaaLkH
/- Locks, pure: tables of one key; the example; those that want it as their own. -/
namespace Go.Proofs.Ytpndcpmfcajmdaa.Lock
open Go.ChangeShapes Go.WideShapes Go.ChangeAt Go.RowKit Go.IntWalk Go.Proofs.Mem Law
set_option linter.unusedVariables false
set_option linter.unusedSimpArgs false
/-- a table in which no key but k has anything -/
def Tb.one (k : Ky) (h : Int → Option Int) (l : List Pl) (W : Int → Option Hd) : Tb := ⟨fun y => if y = k then ⟨h, l⟩ else En.none, W⟩
theorem one_at (k : Ky) (h : Int → Option Int) (l : List Pl) (W : Int → Option Hd) : (Tb.one k h l W).ent k = ⟨h, l⟩ := if_pos rfl
theorem one_set (k : Ky) (h h' : Int → Option Int) (l l' : List Pl) (W : Int → Option Hd) : (Tb.one k h l W).set k ⟨h', l'⟩ = Tb.one k h' l' W := by
  unfold Tb.one Tb.set
  simp only [Tb.mk.injEq, and_true]
  funext y
  by_cases e : y = k <;> simp [e]
theorem one_has (k y : Ky) (h : Int → Option Int) (l : List Pl) (W : Int → Option Hd) (t : Int) : (Tb.one k h l W).has y t = (decide (y = k) && (⟨h, l⟩ : En).has t) := by
  unfold Tb.has Tb.one
  by_cases e : y = k
  · simp [e]
  · simp [e, none_has]
theorem T0_one (k : Ky) : T0 = Tb.one k (fun _ => none) [] (fun _ => none) := by
  unfold T0 Tb.one
  simp only [Tb.mk.injEq, and_true]
  funext y
  by_cases e : y = k <;> simp [e, En.none]
theorem one_of {k : Ky} {h : Int → Option Int} {l : List Pl} {W : Int → Option Hd} {t : Int} {ks : List Ky} (hq : (⟨h, l⟩ : En).has t = true) (ho : OfL (Tb.one k h l W) t ks) : ks = [k] :=
  ho.uniq ⟨fun y => by rw [one_has, hq]; simp, List.pairwise_singleton _ _⟩
theorem one_of_no {k : Ky} {h : Int → Option Int} {l : List Pl} {W : Int → Option Hd} {t : Int} {ks : List Ky} (hq : (⟨h, l⟩ : En).has t = false) (ho : OfL (Tb.one k h l W) t ks) : ks = [] :=
  ho.uniq ⟨fun y => by rw [one_has, hq]; simp, List.Pairwise.nil⟩
/-- a release on a table of one key -/
theorem one_rel {k : Ky} {h h' : Int → Option Int} {l l' : List Pl} {W : Int → Option Hd} {t : Int} {ks : List Ky} {g : List Int} {T' : Tb} {got : List Int} (hq : (⟨h, l⟩ : En).has t = true) (ho : OfL (Tb.one k h l W) t ks)
    (hw : wake (fdel h t) (l.filter fun x => !isT t x) = (h', l', g)) (hr : relAll ((Tb.one k h l W).stop t) t ks = (T', got)) : T' = Tb.one k h' l' (stopAll (fdel W t) g) ∧ got = g := by
  rw [one_of hq ho] at hr
  have e1 : (Tb.one k h l W).stop t = Tb.one k h l (fdel W t) := rfl
  rw [e1] at hr
  unfold relAll at hr
  simp only [List.foldl_cons, List.foldl_nil, relOne, one_at, En.rel, En.cut, hw, List.nil_append] at hr
  injection hr with hr1 hr2
  refine ⟨?_, hr2.symm⟩
  rw [← hr1, one_set]
  rfl
theorem ask_put {T : Tb} {t : Int} {k : Ky} {m md : Int} (hm : mdOf m = md) (h1 : hasE ((T.ent k).hv t) md = false) (h2 : T.wt t = none) (h3 : fit (T.ent k).hv t md = true) (h4 : ((T.ent k).hv t).isSome = true ∨ (T.ent k).line = []) :
    askB T t k m = true ∧ askT T t k m = T.set k ⟨fput (T.ent k).hv t md, (T.ent k).line⟩ := by
  have h5 : (((T.ent k).hv t).isSome || (T.ent k).line.isEmpty) = true := by
    rcases h4 with h | h
    · rw [h]; rfl
    · rw [h]; simp
  unfold askB askT Tb.at_
  rw [hm, h1, h2, h3, h5]
  exact ⟨rfl, rfl⟩
theorem ask_wait {T : Tb} {t : Int} {k : Ky} {m md : Int} (hm : mdOf m = md) (h1 : hasE ((T.ent k).hv t) md = false) (h2 : T.wt t = none) (h3 : (fit (T.ent k).hv t md && (((T.ent k).hv t).isSome || (T.ent k).line.isEmpty)) = false) :
    askB T t k m = false ∧ askT T t k m = (T.set k ⟨(T.ent k).hv, insP (T.ent k).hv ⟨t, md⟩ (T.ent k).line⟩).wait t (hdOf k md) := by
  unfold askB askT Tb.at_
  rw [hm, h1, h2, h3]
  exact ⟨rfl, rfl⟩
theorem one_wait (k : Ky) (h : Int → Option Int) (l : List Pl) (W : Int → Option Hd) (t : Int) (x : Hd) : (Tb.one k h l W).wait t x = Tb.one k h l (fput W t x) := rfl
/-! The example. -/
def k0 : Ky := ⟨1, 0, 0⟩
def hA : Int → Option Int := fput (fun _ => none) 1 1
def hB : Int → Option Int := fput hA 2 1
def TA : Tb := Tb.one k0 hA [] (fun _ => none)
def TB : Tb := Tb.one k0 hB [] (fun _ => none)
def TC : Tb := Tb.one k0 hB [⟨1, 2⟩] (fput (fun _ => none) 1 (hdOf k0 2))
def TD : Tb := Tb.one k0 hB [⟨1, 2⟩, ⟨3, 1⟩] (fput (fput (fun _ => none) 1 (hdOf k0 2)) 3 (hdOf k0 1))
theorem kn_a : askB T0 1 k0 1 = true ∧ askT T0 1 k0 1 = TA := by
  rw [T0_one k0]
  obtain ⟨h1, h2⟩ := ask_put (T := Tb.one k0 (fun _ => none) [] (fun _ => none)) (t := 1) (k := k0) (m := 1) (md := 1) rfl (by rw [one_at]; rfl) rfl (by rw [one_at]; exact fit_none _ _) (.inr (by rw [one_at]))
  refine ⟨h1, h2.trans ?_⟩
  rw [one_at, one_set]
  rfl
theorem hA_is (x md : Int) (h : hA x = some md) : x = 1 ∧ md = 1 := by
  unfold hA fput at h
  split at h
  · injection h with h; exact ⟨by assumption, h.symm⟩
  · cases h
theorem hB_is (x md : Int) (h : hB x = some md) : (x = 2 ∨ x = 1) ∧ md = 1 := by
  unfold hB fput at h
  split at h
  · injection h with h; exact ⟨.inl (by assumption), h.symm⟩
  · obtain ⟨h1, h2⟩ := hA_is x md h; exact ⟨.inr h1, h2⟩
theorem kn_b : askB TA 2 k0 1 = true ∧ askT TA 2 k0 1 = TB := by
  obtain ⟨h1, h2⟩ := ask_put (T := TA) (t := 2) (k := k0) (m := 1) (md := 1) rfl (by unfold TA; rw [one_at]; rfl) rfl (by unfold TA; rw [one_at]; exact fit_true fun x md h => .inr (by rw [(hA_is x md h).2]; rfl)) (.inr (by unfold TA; rw [one_at]))
  refine ⟨h1, h2.trans ?_⟩
  unfold TA
  rw [one_at, one_set]
  rfl
theorem kn_c : askB TB 1 k0 2 = false ∧ askT TB 1 k0 2 = TC := by
  have hf : fit hB 1 2 = false := fit_false (x := 2) (md := 1) rfl (by decide) rfl
  obtain ⟨h1, h2⟩ := ask_wait (T := TB) (t := 1) (k := k0) (m := 2) (md := 2) rfl (by unfold TB; rw [one_at]; rfl) rfl (by unfold TB; rw [one_at]; simp only [hf, Bool.false_and])
  refine ⟨h1, h2.trans ?_⟩
  unfold TB
  rw [one_at, one_set, one_wait]
  rfl
theorem kn_d : askB TC 3 k0 1 = false ∧ askT TC 3 k0 1 = TD := by
  obtain ⟨h1, h2⟩ := ask_wait (T := TC) (t := 3) (k := k0) (m := 1) (md := 1) rfl (by unfold TC; rw [one_at]; rfl) rfl (by unfold TC; rw [one_at]; show (_ && (false || false)) = false; simp)
  refine ⟨h1, h2.trans ?_⟩
  unfold TC
  rw [one_at, one_set, one_wait]
  rfl
def hE : Int → Option Int := fput (fdel hB 2) 1 2
def TE : Tb := Tb.one k0 hE [⟨3, 1⟩] (stopAll (fdel (fput (fput (fun _ => none) 1 (hdOf k0 2)) 3 (hdOf k0 1)) 2) [1])
theorem hE_is (x md : Int) (h : hE x = some md) : x = 1 ∧ md = 2 := by
  unfold hE fput at h
  split at h
  · injection h with h; exact ⟨by assumption, h.symm⟩
  · unfold fdel at h
    split at h
    · cases h
    · have := hB_is x md h; omega
theorem kn_e {ks : List Ky} {T' : Tb} {got : List Int} (ho : OfL TD 2 ks) (hr : relAll (TD.stop 2) 2 ks = (T', got)) : T' = TE ∧ got = [1] := by
  refine one_rel (by rfl) ho ?_ hr
  have e : ([⟨1, 2⟩, ⟨3, 1⟩] : List Pl).filter (fun x => !isT 2 x) = [⟨1, 2⟩, ⟨3, 1⟩] := by rfl
  have f1 : fit (fdel hB 2) 1 2 = true := fit_true fun x md h => by
    unfold fdel at h
    split at h
    · cases h
    · have := hB_is x md h; left; omega
  have f2 : fit (fput (fdel hB 2) 1 2) 3 1 = false := fit_false (x := 1) (md := 2) rfl (by decide) rfl
  have f3 := wake_no (h := fput (fdel hB 2) 1 2) (p := ⟨3, 1⟩) (l := []) f2
  rw [e, wake_yes (p := ⟨1, 2⟩) f1]
  simp only [f3]
  rfl
theorem kn_f {ks : List Ky} {T' : Tb} {got : List Int} (ho : OfL TE 1 ks) (hr : relAll (TE.stop 1) 1 ks = (T', got)) : got = [3] := by
  have f1 : fit (fdel hE 1) 3 1 = true := fit_true fun x md h => by
    unfold fdel at h
    split at h
    · cases h
    · have := hE_is x md h; omega
  have e : ([⟨3, 1⟩] : List Pl).filter (fun x => !isT 1 x) = [⟨3, 1⟩] := by rfl
  exact (one_rel (h' := fput (fdel hE 1) 3 1) (l' := []) (g := [3]) (by rfl) ho (by rw [e, wake_yes f1]; simp only [wake_nil]) hr).2
end Go.Proofs.Ytpndcpmfcajmdaa.Lock
