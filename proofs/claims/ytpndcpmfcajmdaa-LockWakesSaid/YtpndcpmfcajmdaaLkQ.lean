import Derived.Test.YtpndcpmfcajmdaaLkP
/- Locks, pure: what every table that calls leave is like. -/
namespace Go.Proofs.Ytpndcpmfcajmdaa.Lock
open Go.ChangeShapes Go.WideShapes Go.ChangeAt Go.RowKit Go.IntWalk Go.Proofs.Mem Law Go.Shelf Go.Proofs.Each
set_option linter.unusedVariables false
set_option linter.unusedSimpArgs false
theorem set_ent (T : Tb) (k : Ky) (e : En) (y : Ky) : (T.set k e).ent y = if y = k then e else T.ent y := rfl
theorem wait_ent (T : Tb) (t : Int) (h : Hd) (y : Ky) : (T.wait t h).ent y = T.ent y := rfl
theorem inv_ask {T : Tb} {t : Int} {k : Ky} {m : Int} (hi : Inv T) : Inv (askT T t k m) := by
  unfold askT
  have hm := mdOf_is m
  generalize mdOf m = md at hm ⊢
  split
  · exact hi
  · split
    · exact hi
    · rename_i hw
      have hw' : T.wt t = none := by simpa using hw
      split
      · rename_i hf
        rw [Bool.and_eq_true] at hf
        refine ⟨fun y x a h => ?_, fun y p h => ?_, fun y x z a b hx hz hne => ?_, fun x h => ?_, fun y => ?_⟩
        · rw [set_ent] at h
          split at h
          · change fput (T.at_ k).hv t md x = some a at h
            unfold fput at h
            split at h
            · injection h with h; subst h; exact hm
            · exact hi.md k x a h
          · exact hi.md y x a h
        · rw [set_ent] at h
          split at h
          · exact hi.ml k p h
          · exact hi.ml y p h
        · rw [set_ent] at hx hz
          split at hx
          · rename_i e
            rw [if_pos e] at hz
            exact two_put (h := (T.at_ k).hv) (fun x y m n h1 h2 h3 => hi.two k x y m n h1 h2 h3) hf.1 x z a b hx hz hne
          · rename_i e
            rw [if_neg e] at hz
            exact hi.two y x z a b hx hz hne
        · refine (hi.wt x h).trans ⟨?_, ?_⟩
          · rintro ⟨y, a, e, hl⟩
            refine ⟨y, a, e, ?_⟩
            rw [set_ent]
            split
            · rename_i e'; rw [e'] at hl; exact hl
            · exact hl
          · rintro ⟨y, a, e, hl⟩
            refine ⟨y, a, e, ?_⟩
            rw [set_ent] at hl
            split at hl
            · rename_i e'; rw [e']; exact hl
            · exact hl
        · rw [set_ent]
          split
          · exact hi.nd k
          · exact hi.nd y
      · have hnl : ∀ y a, (⟨t, a⟩ : Pl) ∉ (T.ent y).line := fun y a h => by
          have := (hi.wt t (hdOf y a)).2 ⟨y, a, rfl, h⟩
          rw [hw'] at this
          cases this
        have hp := insP_perm (T.at_ k).hv ⟨t, md⟩ (T.at_ k).line
        have hmem : ∀ p, p ∈ insP (T.at_ k).hv ⟨t, md⟩ (T.at_ k).line ↔ p = ⟨t, md⟩ ∨ p ∈ (T.ent k).line := fun p => by rw [hp.mem_iff, List.mem_cons]; rfl
        refine ⟨fun y x a h => ?_, fun y p h => ?_, fun y x z a b hx hz hne => ?_, fun x h => ?_, fun y => ?_⟩
        · rw [wait_ent, set_ent] at h
          split at h
          · exact hi.md k x a h
          · exact hi.md y x a h
        · rw [wait_ent, set_ent] at h
          split at h
          · rcases (hmem p).1 h with e | e
            · rw [e]; exact hm
            · exact hi.ml k p e
          · exact hi.ml y p h
        · rw [wait_ent, set_ent] at hx hz
          split at hx
          · rename_i e; rw [if_pos e] at hz; exact hi.two k x z a b hx hz hne
          · rename_i e; rw [if_neg e] at hz; exact hi.two y x z a b hx hz hne
        · show fput T.wt t (hdOf k md) x = some h ↔ _
          unfold fput
          by_cases hx : x = t
          · subst hx
            rw [if_pos rfl]
            constructor
            · intro e
              injection e with e
              refine ⟨k, md, e.symm, ?_⟩
              rw [wait_ent, set_ent, if_pos rfl]
              exact (hmem _).2 (.inl rfl)
            · rintro ⟨y, a, e, hl⟩
              rw [wait_ent, set_ent] at hl
              split at hl
              · rename_i ey
                rcases (hmem _).1 hl with e' | e'
                · injection e' with _ e'; rw [e, ey, e']
                · exact absurd e' (hnl k a)
              · exact absurd hl (hnl y a)
          · rw [if_neg hx, hi.wt]
            refine exists_congr fun y => exists_congr fun a => and_congr_right fun _ => ?_
            rw [wait_ent, set_ent]
            split
            · rename_i ey
              rw [ey]
              refine ⟨fun h => (hmem _).2 (.inr h), fun h => ?_⟩
              rcases (hmem _).1 h with e' | e'
              · injection e' with e' _; exact absurd e' hx
              · exact e'
            · exact Iff.rfl
        · rw [wait_ent, set_ent]
          split
          · refine ((hp.map (·.t)).nodup_iff).2 ?_
            rw [List.map_cons, List.nodup_cons]
            refine ⟨fun h => ?_, hi.nd k⟩
            obtain ⟨p, h1, h2⟩ := List.mem_map.1 h
            obtain ⟨pt, pm⟩ := p
            change pt = t at h2
            subst h2
            exact hnl k pm h1
          · exact hi.nd y
theorem klt_nodup {l : List Ky} (h : l.Pairwise klt) : l.Nodup := List.Pairwise.imp (S := fun a b : Ky => a ≠ b) (fun {a b} hab => fun e => by rw [e] at hab; exact klt_irrefl b hab) h
/-- a release, seen at once -/
structure RelOut (T : Tb) (t : Int) (T' : Tb) (got : List Int) : Prop where
  nd : got.Nodup
  hold : ∀ k, (T'.ent k).hv t = none
  wt : ∀ x, T'.wt x = if x ∈ got then none else if x = t then none else T.wt x
  own : t ∉ got
  woke : ∀ x ∈ got, ∃ k m, (⟨x, m⟩ : Pl) ∈ (T.ent k).line ∧ (T'.ent k).hv x = some m
theorem rel_out {T T' : Tb} {t : Int} {ks : List Ky} {got : List Int} (hi : Inv T) (ho : OfL T t ks) (hr : relAll (T.stop t) t ks = (T', got)) : RelOut T t T' got ∧ Inv T' := by
  obtain ⟨h1, h2, h3⟩ := relAll_form (T.stop t) t (klt_nodup ho.srt)
  rw [hr] at h1 h2 h3
  simp only at h1 h2 h3
  have hent : ∀ y, (T.stop t).ent y = T.ent y := fun _ => rfl
  have hwk : ∀ y, ∃ pre, Wk ((T.ent y).cut t).hv ((T.ent y).cut t).line (wake ((T.ent y).cut t).hv ((T.ent y).cut t).line) pre := fun y => wake_form _ _
  have hin : ∀ y, y ∈ ks → T'.ent y = ((T.ent y).rel t).1 := fun y hy => by rw [h1]; exact if_pos hy
  have hout : ∀ y, y ∉ ks → T'.ent y = T.ent y := fun y hy => by rw [h1]; exact if_neg hy
  have hno : ∀ y, y ∉ ks → (T.ent y).hv t = none ∧ ∀ a, (⟨t, a⟩ : Pl) ∉ (T.ent y).line := fun y hy => by
    have := mt (ho.mem y).2 hy
    unfold Tb.has En.has at this
    simp only [Bool.or_eq_true, not_or] at this
    refine ⟨by simpa using this.1, fun a ha => this.2 (List.any_eq_true.2 ⟨_, ha, by simp [isT]⟩)⟩
  have hcl : ∀ y (p : Pl), p ∈ ((T.ent y).cut t).line ↔ p ∈ (T.ent y).line ∧ p.t ≠ t := fun y p => by
    unfold En.cut
    simp [List.mem_filter, isT]
  have hcn : ∀ y, (((T.ent y).cut t).line.map (·.t)).Nodup := fun y => (hi.nd y).sublist (List.filter_sublist.map _)
  have hgot : ∀ x, x ∈ got ↔ ∃ y ∈ ks, x ∈ ((T.ent y).rel t).2 := fun x => by rw [h2, List.mem_flatMap]; rfl
  have hgl : ∀ x, x ∈ got → ∃ y ∈ ks, ∃ m, (⟨x, m⟩ : Pl) ∈ (T.ent y).line ∧ x ≠ t ∧ (T'.ent y).hv x = some m ∧ (⟨x, m⟩ : Pl) ∉ (T'.ent y).line := fun x hx => by
    obtain ⟨y, hy, hxy⟩ := (hgot x).1 hx
    obtain ⟨pre, hw⟩ := hwk y
    have hg : x ∈ pre.map (·.t) := by rw [← hw.got]; exact hxy
    obtain ⟨p, hp, rfl⟩ := List.mem_map.1 hg
    have hpl : p ∈ ((T.ent y).cut t).line := by rw [hw.sp]; exact List.mem_append_left _ hp
    obtain ⟨q1, q2⟩ := (hcl y p).1 hpl
    refine ⟨y, hy, p.m, q1, q2, ?_, ?_⟩
    · rw [hin y hy]
      exact hw.has (hcn y) p hp
    · rw [hin y hy]
      intro hl
      have := hcn y
      rw [hw.sp, List.map_append, List.nodup_append] at this
      exact this.2.2 p.t hg p.t (List.mem_map_of_mem (f := fun p : Pl => p.t) hl) rfl
  have hwt : ∀ x, T'.wt x = if x ∈ got then none else if x = t then none else T.wt x := fun x => by
    rw [h3, ← h2]
    rfl
  have hhold : ∀ k, (T'.ent k).hv t = none := fun k => by
    by_cases hk : k ∈ ks
    · obtain ⟨pre, hw⟩ := hwk k
      rw [hin k hk]
      refine (hw.far t (fun h => ?_)).trans (fdel_same _ _)
      obtain ⟨p, hp, hpt⟩ := List.mem_map.1 h
      exact ((hcl k p).1 (by rw [hw.sp]; exact List.mem_append_left _ hp)).2 hpt
    · rw [hout k hk]; exact (hno k hk).1
  -- lines: what is left of them
  have hline : ∀ y (p : Pl), p ∈ (T'.ent y).line → p ∈ (T.ent y).line ∧ p.t ≠ t := fun y p hp => by
    by_cases hy : y ∈ ks
    · obtain ⟨pre, hw⟩ := hwk y
      rw [hin y hy] at hp
      exact (hcl y p).1 (by rw [hw.sp]; exact List.mem_append_right _ hp)
    · rw [hout y hy] at hp
      refine ⟨hp, fun e => ?_⟩
      obtain ⟨a, b⟩ := p
      change a = t at e
      subst e
      exact (hno y hy).2 b hp
  have hcut2 : ∀ y, Two ((T.ent y).cut t).hv := fun y a b m n ha hb hne => by
    change fdel (T.ent y).hv t a = some m at ha
    change fdel (T.ent y).hv t b = some n at hb
    unfold fdel at ha hb
    split at ha
    · cases ha
    · split at hb
      · cases hb
      · exact hi.two y a b m n ha hb hne
  have hheld : ∀ y x a, (T'.ent y).hv x = some a → (T.ent y).hv x = some a ∨ (⟨x, a⟩ : Pl) ∈ (T.ent y).line := fun y x a h => by
    by_cases hy : y ∈ ks
    · obtain ⟨pre, hw⟩ := hwk y
      rw [hin y hy] at h
      rcases hw.hv x a h with h4 | h4
      · change fdel (T.ent y).hv t x = some a at h4
        unfold fdel at h4
        split at h4
        · cases h4
        · exact .inl h4
      · exact .inr ((hcl y _).1 (by rw [hw.sp]; exact List.mem_append_left _ h4)).1
    · rw [hout y hy] at h; exact .inl h
  have hgone : ∀ y x, x ∈ ((T.ent y).rel t).2 → ∃ m, (⟨x, m⟩ : Pl) ∈ (T.ent y).line := fun y x hx => by
    obtain ⟨pre, hw⟩ := hwk y
    have hg : x ∈ pre.map (·.t) := by rw [← hw.got]; exact hx
    obtain ⟨p, hp, rfl⟩ := List.mem_map.1 hg
    exact ⟨p.m, ((hcl y p).1 (by rw [hw.sp]; exact List.mem_append_left _ hp)).1⟩
  have hnd : got.Nodup := by
    rw [h2]
    refine List.pairwise_flatMap.2 ⟨fun y _ => ?_, (klt_nodup ho.srt).imp ?_⟩
    · obtain ⟨pre, hw⟩ := hwk y
      have := hcn y
      rw [hw.sp, List.map_append] at this
      show (wake ((T.ent y).cut t).hv ((T.ent y).cut t).line).2.2.Pairwise _
      rw [hw.got]
      exact (List.nodup_append.1 this).1
    · intro a b hab x hx z hz e
      subst e
      obtain ⟨m, q1⟩ := hgone a x hx
      obtain ⟨m', q2⟩ := hgone b x hz
      have r1 := (hi.wt x _).2 ⟨a, m, rfl, q1⟩
      have r2 := (hi.wt x _).2 ⟨b, m', rfl, q2⟩
      rw [r1] at r2
      injection r2 with r2
      exact hab (hdOf_inj r2).1
  refine ⟨⟨hnd, hhold, hwt, fun h => ?_, fun x hx => ?_⟩, ⟨fun y x a h => ?_, fun y p h => hi.ml y p (hline y p h).1, fun y x z a b hx hz hne => ?_, fun x h => ?_, fun y => ?_⟩⟩
  · obtain ⟨_, _, _, _, h5, _⟩ := hgl t h; exact h5 rfl
  · obtain ⟨y, _, m, h4, _, h6, _⟩ := hgl x hx; exact ⟨y, m, h4, h6⟩
  · rcases hheld y x a h with h4 | h4
    · exact hi.md y x a h4
    · exact hi.ml y _ h4
  · by_cases hy : y ∈ ks
    · obtain ⟨pre, hw⟩ := hwk y
      rw [hin y hy] at hx hz
      exact hw.two (hcut2 y) x z a b hx hz hne
    · rw [hout y hy] at hx hz
      exact hi.two y x z a b hx hz hne
  · rw [hwt]
    by_cases hg : x ∈ got
    · rw [if_pos hg]
      obtain ⟨y, hy, m, h4, h5, _, h7⟩ := hgl x hg
      refine ⟨fun e => (by cases e), ?_⟩
      rintro ⟨y', m', e, hl⟩
      have q1 := (hi.wt x (hdOf y' m')).2 ⟨y', m', rfl, (hline y' _ hl).1⟩
      have q2 := (hi.wt x (hdOf y m)).2 ⟨y, m, rfl, h4⟩
      rw [q1] at q2
      injection q2 with q2
      obtain ⟨e1, e2⟩ := hdOf_inj q2
      subst e1 e2
      exact absurd hl h7
    · rw [if_neg hg]
      by_cases hx : x = t
      · rw [if_pos hx]
        refine ⟨fun e => (by cases e), ?_⟩
        rintro ⟨y, m, _, hl⟩
        exact absurd hx (hline y _ hl).2
      · rw [if_neg hx, hi.wt]
        refine exists_congr fun y => exists_congr fun a => and_congr_right fun _ => ⟨fun hl => ?_, fun hl => (hline y _ hl).1⟩
        by_cases hy : y ∈ ks
        · obtain ⟨pre, hw⟩ := hwk y
          have hl2 := (hcl y ⟨x, a⟩).2 ⟨hl, hx⟩
          rw [hw.sp] at hl2
          rcases List.mem_append.1 hl2 with h4 | h4
          · refine absurd ((hgot x).2 ⟨y, hy, ?_⟩) hg
            show x ∈ (wake _ _).2.2
            rw [hw.got]
            exact List.mem_map.2 ⟨_, h4, rfl⟩
          · rw [hin y hy]; exact h4
        · rw [hout y hy]; exact hl
  · by_cases hy : y ∈ ks
    · obtain ⟨pre, hw⟩ := hwk y
      have := hcn y
      rw [hw.sp, List.map_append] at this
      rw [hin y hy]
      exact (List.nodup_append.1 this).2.1
    · rw [hout y hy]; exact hi.nd y
theorem inv_run {l : List Lo} {T : Tb} (h : RunR l T) : Inv T := by
  induction h with
  | nil => exact inv_T0
  | snoc hr hs ih =>
    unfold StepR at hs
    split at hs
    · obtain ⟨ks, got, h1, h2⟩ := hs; exact (rel_out ih h1 h2).2
    · rw [hs]; exact inv_ask ih
theorem nodup_le : ∀ {l m : List Int}, l.Nodup → (∀ x ∈ l, x ∈ m) → l.length ≤ m.length
  | [], m, _, _ => Nat.zero_le _
  | a :: l, m, h, hs => by
    rw [List.nodup_cons] at h
    have h1 := nodup_le (l := l) (m := m.erase a) h.2 (fun x hx => by
      have hne : x ≠ a := fun e => h.1 (e ▸ hx)
      exact (List.mem_erase_of_ne hne).2 (hs x (List.mem_cons_of_mem _ hx)))
    have h2 := List.length_erase_of_mem (hs a (List.mem_cons_self ..))
    have h3 := List.length_pos_of_mem (hs a (List.mem_cons_self ..))
    rw [List.length_cons]; omega
/-- who waits took part -/
theorem run_wts {l : List Lo} {T : Tb} (h : RunR l T) : ∀ x, (T.wt x).isSome → x ∈ l.map (·.t) := by
  induction h with
  | nil => intro x hx; cases hx
  | snoc hr hs ih =>
    rename_i l T T' o
    intro x hx
    rw [List.map_append, List.mem_append]
    unfold StepR at hs
    split at hs
    · obtain ⟨ks, got, h1, h2⟩ := hs
      have := (rel_out (inv_run hr) h1 h2).1.wt x
      rw [this] at hx
      split at hx
      · cases hx
      · split at hx
        · cases hx
        · exact .inl (ih x hx)
    · rw [hs] at hx
      unfold askT at hx
      split at hx
      · exact .inl (ih x hx)
      · split at hx
        · exact .inl (ih x hx)
        · split at hx
          · exact .inl (ih x hx)
          · change (fput T.wt o.t _ x).isSome = true at hx
            unfold fput at hx
            split at hx
            · rename_i e; exact .inr (by simp [e])
            · exact .inl (ih x hx)
theorem got_len {l : List Lo} {T T' : Tb} {t : Int} {got : List Int} (h : RunR l T) (ho : RelOut T t T' got) : got.length ≤ l.length := by
  rw [← List.length_map (f := fun o : Lo => o.t)]
  refine nodup_le ho.nd fun x hx => run_wts h x ?_
  obtain ⟨k, m, h1, _⟩ := ho.woke x hx
  rw [((inv_run h).wt x _).2 ⟨k, m, rfl, h1⟩]
  rfl
end Go.Proofs.Ytpndcpmfcajmdaa.Lock
