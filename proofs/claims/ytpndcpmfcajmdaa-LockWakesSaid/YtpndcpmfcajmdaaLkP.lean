import Derived.Test.YtpndcpmfcajmdaaLkM
import Derived.Deep.DeepCutAuto
/- Locks: what any calls leave; the laws' run, mode. -/
namespace Go.Proofs.Ytpndcpmfcajmdaa.Lock
open Go.ChangeShapes Go.WideShapes Go.ChangeAt Go.RowKit Go.IntWalk Go.Proofs.Mem Law Go.Shelf Go.Proofs.Each
set_option linter.unusedVariables false
set_option linter.unusedSimpArgs false
/-- one call leads from one table to another one -/
def StepR (T : Tb) (o : Lo) (T' : Tb) : Prop :=
  if o.kd % 6 = 4 then ∃ ks got, OfL T o.t ks ∧ relAll (T.stop o.t) o.t ks = (T', got) else T' = askT T o.t o.k o.m
inductive RunR : List Lo → Tb → Prop
  | nil : RunR [] T0
  | snoc {l : List Lo} {T T' : Tb} {o : Lo} : RunR l T → StepR T o T' → RunR (l ++ [o]) T'
/-- who took part -/
def whoOf (l : List Lo) : List Int := l.foldl (fun d o => into d o.t) []
theorem whoOf_snoc (l : List Lo) (o : Lo) : whoOf (l ++ [o]) = into (whoOf l) o.t := by unfold whoOf; rw [List.foldl_append]; rfl
theorem who_sorted (l : List Lo) : (whoOf l).Pairwise (· < ·) := by
  suffices h : ∀ (l : List Lo) (d : List Int), d.Pairwise (· < ·) → (l.foldl (fun d o => into d o.t) d).Pairwise (· < ·) from h l [] List.Pairwise.nil
  intro l
  induction l with
  | nil => exact fun _ h => h
  | cons o l ih => exact fun d h => ih _ (into_sorted h).1
theorem who_mem {l : List Lo} {x : Int} : x ∈ whoOf l ↔ ∃ o ∈ l, o.t = x := by
  suffices h : ∀ (l : List Lo) (d : List Int), x ∈ l.foldl (fun d o => into d o.t) d ↔ x ∈ d ∨ ∃ o ∈ l, o.t = x by
    have := h l []
    simpa [whoOf] using this
  intro l
  induction l with
  | nil => intro d; simp
  | cons o l ih =>
    intro d
    rw [List.foldl_cons, ih, into_mem]
    simp only [List.mem_cons]
    constructor
    · rintro ((h | h) | ⟨p, h1, h2⟩)
      · exact .inr ⟨o, .inl rfl, h.symm⟩
      · exact .inl h
      · exact .inr ⟨p, .inr h1, h2⟩
    · rintro (h | ⟨p, h1 | h1, h2⟩)
      · exact .inl (.inr h)
      · subst h1; exact .inl (.inl h2.symm)
      · exact .inr ⟨p, h1, h2⟩
theorem who_len (l : List Lo) : (whoOf l).length ≤ l.length := by
  suffices h : ∀ (l : List Lo) (d : List Int), d.Pairwise (· < ·) → (l.foldl (fun d o => into d o.t) d).length ≤ d.length + l.length by
    have := h l [] List.Pairwise.nil
    simpa [whoOf] using this
  intro l
  induction l with
  | nil => intro d _; simp
  | cons o l ih =>
    intro d hd
    obtain ⟨h1, h2⟩ := into_sorted (n := o.t) hd
    have := ih _ h1
    rw [List.foldl_cons]
    simp only [List.length_cons]
    split at h2 <;> omega
/-! What holds in every table that any calls leave. -/
/-- modes are one of two; who holds beside another one shares; each waits at most once, for what the table says; nobody is let have a lock twice -/
structure Inv (T : Tb) : Prop where
  md : ∀ k x m, (T.ent k).hv x = some m → m = 1 ∨ m = 2
  ml : ∀ k p, p ∈ (T.ent k).line → p.m = 1 ∨ p.m = 2
  two : ∀ k x y m n, (T.ent k).hv x = some m → (T.ent k).hv y = some n → x ≠ y → m = 1 ∧ n = 1
  wt : ∀ x h, T.wt x = some h ↔ ∃ k m, h = hdOf k m ∧ (⟨x, m⟩ : Pl) ∈ (T.ent k).line
  nd : ∀ k, ((T.ent k).line.map (·.t)).Nodup
theorem hdOf_inj {k k' : Ky} {m m' : Int} (h : hdOf k m = hdOf k' m') : k = k' ∧ m = m' := by
  obtain ⟨a, b, c⟩ := k
  obtain ⟨a', b', c'⟩ := k'
  unfold hdOf at h
  injection h with h1 h2 h3 h4
  simp only at h1 h2 h3
  subst h1 h2 h3 h4
  exact ⟨rfl, rfl⟩
theorem inv_T0 : Inv T0 := by
  refine ⟨fun k x m h => (by cases h), fun k p h => (by cases h), fun k x y m n h => (by cases h), fun x h => ⟨fun h => (by cases h), ?_⟩, fun k => List.nodup_nil⟩
  rintro ⟨k, m, _, h⟩
  cases h
theorem mdOf_is (m : Int) : mdOf m = 1 ∨ mdOf m = 2 := by unfold mdOf; split <;> simp
theorem tog_is {a b : Int} (h : tog a b = true) : a = 1 ∧ b = 1 := by
  unfold tog at h
  simpa using h
open Classical in
theorem fit_is {h : Int → Option Int} {t m : Int} (hf : fit h t m = true) : ∀ x md, h x = some md → x = t ∨ (md = 1 ∧ m = 1) := by
  intro x md hx
  unfold fit at hf
  have := of_decide_eq_true hf
  exact (this x md hx).imp id tog_is
theorem insP_perm (h : Int → Option Int) (p : Pl) (l : List Pl) : (insP h p l).Perm (p :: l) := by
  unfold insP
  split
  · have e := List.takeWhile_append_dropWhile (p := fun x : Pl => (h x.t).isSome) (l := l)
    refine List.perm_middle.trans ?_
    rw [e]
  · exact List.perm_append_comm
def Two (h : Int → Option Int) : Prop := ∀ x y m n, h x = some m → h y = some n → x ≠ y → m = 1 ∧ n = 1
theorem two_put {h : Int → Option Int} {t m : Int} (hw : Two h) (hf : fit h t m = true) : Two (fput h t m) := by
  intro x y a b hx hy hne
  have hi := fit_is hf
  unfold fput at hx hy
  split at hx <;> split at hy
  · rename_i e1 e2; exact absurd (e1.trans e2.symm) hne
  · rename_i e1 e2
    injection hx with hx
    rcases hi y b hy with e | ⟨h1, h2⟩
    · exact absurd e e2
    · exact ⟨hx.symm.trans h2, h1⟩
  · rename_i e1 e2
    injection hy with hy
    rcases hi x a hx with e | ⟨h1, h2⟩
    · exact absurd e e1
    · exact ⟨h1, hy.symm.trans h2⟩
  · exact hw x y a b hx hy hne
/-- those who are let have a key -/
structure Wk (h : Int → Option Int) (l : List Pl) (r : (Int → Option Int) × List Pl × List Int) (pre : List Pl) : Prop where
  sp : l = pre ++ r.2.1
  got : r.2.2 = pre.map (·.t)
  hv : ∀ x m, r.1 x = some m → h x = some m ∨ (⟨x, m⟩ : Pl) ∈ pre
  far : ∀ x, x ∉ pre.map (·.t) → r.1 x = h x
  has : (l.map (·.t)).Nodup → ∀ p ∈ pre, r.1 p.t = some p.m
  two : Two h → Two r.1
theorem wake_form : ∀ (l : List Pl) (h : Int → Option Int), ∃ pre, Wk h l (wake h l) pre
  | [], h => by
    rw [wake_nil]
    exact ⟨[], rfl, rfl, fun x m e => .inl e, fun x _ => rfl, fun _ p hp => (by cases hp), id⟩
  | p :: l, h => by
    cases hf : fit h p.t p.m with
    | false =>
      rw [wake_no hf]
      exact ⟨[], rfl, rfl, fun x m e => .inl e, fun x _ => rfl, fun _ p hp => (by cases hp), id⟩
    | true =>
      obtain ⟨pre, hw⟩ := wake_form l (fput h p.t p.m)
      rw [wake_yes hf]
      refine ⟨p :: pre, by rw [List.cons_append]; exact congrArg _ hw.sp, by simp only [List.map_cons]; exact congrArg _ hw.got, fun x m e => ?_, fun x hx => ?_, fun hn q hq => ?_, fun h2 => hw.two (two_put h2 hf)⟩
      · rcases hw.hv x m e with h1 | h1
        · unfold fput at h1
          split at h1
          · rename_i e1
            injection h1 with h1
            subst e1 h1
            exact .inr (List.mem_cons_self ..)
          · exact .inl h1
        · exact .inr (List.mem_cons_of_mem _ h1)
      · simp only [List.map_cons, List.mem_cons, not_or] at hx
        refine (hw.far x hx.2).trans ?_
        unfold fput
        rw [if_neg hx.1]
      · rw [List.map_cons, List.nodup_cons] at hn
        rcases List.mem_cons.1 hq with e | e
        · subst e
          refine (hw.far q.t (fun hm => hn.1 ?_)).trans (fput_same _ _ _)
          obtain ⟨z, hz, hzt⟩ := List.mem_map.1 hm
          exact List.mem_map.2 ⟨z, by rw [hw.sp]; exact List.mem_append_left _ hz, hzt⟩
        · exact hw.has hn.2 q e
/-- what a release comes to, key by key -/
theorem relAll_form (T : Tb) (t : Int) {ks : List Ky} (hn : ks.Nodup) : (relAll T t ks).1.ent = (fun y => if y ∈ ks then ((T.ent y).rel t).1 else T.ent y) ∧ (relAll T t ks).2 = ks.flatMap (fun k => ((T.ent k).rel t).2) ∧ (relAll T t ks).1.wt = stopAll T.wt (ks.flatMap fun k => ((T.ent k).rel t).2) := by
  suffices h : ∀ (ks : List Ky) (T : Tb) (g : List Int), ks.Nodup → (ks.foldl (relOne t) (T, g)).1.ent = (fun y => if y ∈ ks then ((T.ent y).rel t).1 else T.ent y) ∧ (ks.foldl (relOne t) (T, g)).2 = g ++ ks.flatMap (fun k => ((T.ent k).rel t).2) ∧ (ks.foldl (relOne t) (T, g)).1.wt = stopAll T.wt (ks.flatMap fun k => ((T.ent k).rel t).2) by
    obtain ⟨h1, h2, h3⟩ := h ks T [] hn
    exact ⟨h1, by rw [relAll, h2, List.nil_append], h3⟩
  intro ks
  induction ks with
  | nil => intro T g _; exact ⟨by simp, by simp, by rw [List.foldl_nil, List.flatMap_nil, stopAll_nil]⟩
  | cons k ks ih =>
    intro T g hn
    rw [List.nodup_cons] at hn
    have he : ∀ y, y ∈ ks → (relOne t (T, g) k).1.ent y = T.ent y := fun y hy => set_other T _ (fun e => hn.1 (e ▸ hy))
    obtain ⟨h1, h2, h3⟩ := ih (relOne t (T, g) k).1 (relOne t (T, g) k).2 hn.2
    have hfl : ks.flatMap (fun y => (((relOne t (T, g) k).1.ent y).rel t).2) = ks.flatMap (fun y => ((T.ent y).rel t).2) := by
      have : ∀ l : List Ky, (∀ y ∈ l, y ∈ ks) → l.flatMap (fun y => (((relOne t (T, g) k).1.ent y).rel t).2) = l.flatMap (fun y => ((T.ent y).rel t).2) := by
        intro l
        induction l with
        | nil => intro _; rfl
        | cons y l ih2 => intro hl; rw [List.flatMap_cons, List.flatMap_cons, ih2 (fun z hz => hl z (List.mem_cons_of_mem _ hz)), he y (hl y (List.mem_cons_self ..))]
      exact this ks (fun _ => id)
    rw [hfl] at h2 h3
    rw [List.foldl_cons]
    refine ⟨h1.trans ?_, ?_, ?_⟩
    · funext y
      by_cases e : y = k
      · subst e
        rw [if_neg hn.1, if_pos (List.mem_cons_self ..)]
        exact set_same T y _
      · by_cases hy : y ∈ ks
        · rw [if_pos hy, if_pos (List.mem_cons_of_mem _ hy), he y hy]
        · rw [if_neg hy, if_neg (fun h => (List.mem_cons.1 h).elim e hy)]
          exact set_other T _ e
    · refine h2.trans ?_
      show (g ++ _) ++ _ = _
      rw [List.flatMap_cons, List.append_assoc]
    · refine h3.trans ?_
      rw [List.flatMap_cons]
      funext y
      show stopAll (stopAll T.wt _) _ y = _
      unfold stopAll
      by_cases h1 : y ∈ ((T.ent k).rel t).2 <;> by_cases h2 : y ∈ (ks.flatMap fun k => ((T.ent k).rel t).2) <;> simp only [h1, h2, List.mem_append, if_true, if_false, or_true, true_or, or_false, false_or]
end Go.Proofs.Ytpndcpmfcajmdaa.Lock
