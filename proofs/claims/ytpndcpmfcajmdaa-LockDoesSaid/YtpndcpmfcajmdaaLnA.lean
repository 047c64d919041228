import Derived.Test.YtpndcpmfcajmdaaLn6
import Derived.Test.YtpndcpmfcajmdaaLn7
import Derived.Test.YtpndcpmfcajmdaaLn9
import Derived.Deep.RegionHeld3
namespace Go.Proofs.Ytpndcpmfcajmdaa.Lock
open Go.ChangeShapes Go.WideShapes Go.ChangeAt Go.RowKit Go.IntWalk Go.Proofs.Mem Law Go.Shelf Go.Proofs.Each
set_option linter.unusedVariables false
set_option linter.unusedSimpArgs false
section
variable {C : List Rc} {T : Tb}
theorem Sim.hvr (h : Sim C T) {e : Rc} (he : e ∈ C) : HvR (T.ent e.k).hv e.h := h.hv e he
theorem keys_apart (h : (C.map (·.k)).Pairwise klt) {i j : Nat} {e e' : Rc} (hi : C[i]? = some e) (hj : C[j]? = some e') (hk : e.k = e'.k) : i = j := by
  obtain ⟨hi1, hi2⟩ := List.getElem?_eq_some_iff.1 hi
  obtain ⟨hj1, hj2⟩ := List.getElem?_eq_some_iff.1 hj
  have hp := List.pairwise_iff_getElem.1 h
  rcases Nat.lt_trichotomy i j with h1 | h1 | h1
  · have h2 := hp i j (by simpa using hi1) (by simpa using hj1) h1
    simp only [List.getElem_map, hi2, hj2] at h2
    rw [hk] at h2; exact absurd h2 (klt_irrefl _)
  · exact h1
  · have h2 := hp j i (by simpa using hj1) (by simpa using hi1) h1
    simp only [List.getElem_map, hi2, hj2] at h2
    rw [hk] at h2; exact absurd h2 (klt_irrefl _)
theorem Sim.set_ (h : Sim C T) {T' : Tb} {i : Nat} {e y : Rc} (hi : C[i]? = some e) (hk : y.k = e.k) (hT : ∀ k, k ≠ e.k → T'.ent k = T.ent k) (hl : (T'.ent e.k).line = y.l) (hv : HvR (T'.ent e.k).hv y.h) (hm : ∀ p ∈ y.h, p.m = 1 ∨ p.m = 2) (hn : (y.h.map (·.t)).Nodup) : Sim (C.set i y) T' := by
  obtain ⟨hi1, hi2⟩ := List.getElem?_eq_some_iff.1 hi
  have hkeys : (C.set i y).map (·.k) = C.map (·.k) := by
    rw [List.map_set, hk, ← hi2]
    have : (C[i]'hi1).k = (C.map (·.k))[i]'(by simpa using hi1) := by simp
    rw [this, List.set_getElem_self]
  have hmem : ∀ e' ∈ C.set i y, e' = y ∨ (e' ∈ C ∧ e'.k ≠ e.k) := fun e' he' => by
    obtain ⟨j, hj⟩ := List.getElem?_of_mem he'
    by_cases hji : j = i
    · subst hji
      rw [List.getElem?_set_self hi1] at hj
      injection hj with hj
      exact .inl hj.symm
    · rw [List.getElem?_set_ne (fun e => hji e.symm)] at hj
      exact .inr ⟨List.mem_of_getElem? hj, fun hk' => hji (keys_apart h.srt hj hi hk')⟩
  refine ⟨by rw [hkeys]; exact h.srt, fun e' he' => ?_, fun e' he' x => ?_, fun k hk' => ?_, fun e' he' => ?_, fun e' he' => ?_⟩
  · rcases hmem e' he' with h1 | ⟨h1, h2⟩
    · rw [h1, hk]; exact hl
    · rw [hT _ h2]; exact h.line e' h1
  · rcases hmem e' he' with h1 | ⟨h1, h2⟩
    · rw [h1, hk]; exact hv x
    · rw [hT _ h2]; exact h.hv e' h1 x
  · have hke : k ≠ e.k := fun e' => hk' y (List.mem_of_getElem? (List.getElem?_set_self hi1)) (hk.trans e'.symm)
    rw [hT k hke]
    refine h.els k fun e' he' hek => ?_
    obtain ⟨j, hj⟩ := List.getElem?_of_mem he'
    by_cases hji : j = i
    · subst hji
      rw [hi] at hj; injection hj with hj
      rw [← hj] at hek; exact hke hek.symm
    · exact hk' e' (List.mem_of_getElem? (by rw [List.getElem?_set_ne (fun e => hji e.symm)]; exact hj)) hek
  · rcases hmem e' he' with h1 | ⟨h1, _⟩
    · rw [h1]; exact hn
    · exact h.nd e' h1
  · rcases hmem e' he' with h1 | ⟨h1, _⟩
    · rw [h1]; exact hm
    · exact h.md e' h1
end
def atIc (C : List Rc) (k : Ky) : Nat := (C.takeWhile fun e => decide (klt e.k k)).length
def insC (C : List Rc) (k : Ky) : List Rc := C.take (atIc C k) ++ [⟨k, [], []⟩] ++ C.drop (atIc C k)
def atTc (C : List Rc) (k : Ky) : List Rc := match C[atIc C k]? with
  | some e => if e.k = k then C else insC C k
  | none => insC C k
theorem atI_co (L : List Rk) (k : Ky) : atIc (L.map Rk.co) k = atI L k := by
  unfold atIc atI
  rw [List.takeWhile_map, List.length_map]
  rfl
theorem atT_co (L : List Rk) (k : Ky) : (atT L k).map Rk.co = atTc (L.map Rk.co) k := by
  have hn : (L.take (atI L k) ++ [Rk.new k] ++ L.drop (atI L k)).map Rk.co = insC (L.map Rk.co) k := by
    unfold insC
    rw [atI_co, List.map_append, List.map_append, List.map_take, List.map_drop]
    rfl
  unfold atT atTc
  rw [atI_co, List.getElem?_map]
  cases h : L[atI L k]? with
  | none => exact hn
  | some e =>
    show (if e.k = k then L else _ : List Rk).map Rk.co = if e.k = k then _ else _
    split
    · rfl
    · exact hn
theorem tw_mem {α : Type} {q : α → Bool} : ∀ {l : List α} {p : α}, p ∈ l.take (l.takeWhile q).length → q p = true
  | [], p, h => by simp at h
  | a :: l, p, h => by
    rw [List.takeWhile_cons] at h
    split at h
    · rename_i ha
      rw [List.length_cons, List.take_succ_cons] at h
      rcases List.mem_cons.1 h with e | e
      · rw [e]; exact ha
      · exact tw_mem e
    · simp at h
theorem tw_at {α : Type} {q : α → Bool} : ∀ {l : List α} {p : α}, l[(l.takeWhile q).length]? = some p → q p = false
  | [], p, h => by simp at h
  | a :: l, p, h => by
    rw [List.takeWhile_cons] at h
    split at h
    · rw [List.length_cons, List.getElem?_cons_succ] at h; exact tw_at h
    · rename_i ha
      simp at h
      rw [← h]; simpa using ha
theorem ins_apart {C : List Rc} {k : Ky} (h : (C.map (·.k)).Pairwise klt) (hn : ∀ e, C[atIc C k]? = some e → e.k ≠ k) : (∀ e ∈ C.take (atIc C k), klt e.k k) ∧ (∀ e ∈ C.drop (atIc C k), klt k e.k) := by
  refine ⟨fun e he => by simpa using tw_mem he, fun e he => ?_⟩
  obtain ⟨j, hj⟩ := List.getElem?_of_mem he
  rw [List.getElem?_drop] at hj
  cases h0 : C[atIc C k]? with
  | none =>
    rw [List.getElem?_eq_none_iff] at h0
    rw [List.getElem?_eq_none (by omega)] at hj; cases hj
  | some e0 =>
    have h1 : ¬ klt e0.k k := by simpa using tw_at h0
    have h2 : klt k e0.k := by
      by_cases h3 : klt k e0.k
      · exact h3
      · exact absurd (klt_total h1 h3) (hn e0 h0)
    cases j with
    | zero => rw [Nat.add_zero, h0] at hj; injection hj with hj; rw [← hj]; exact h2
    | succ j =>
      obtain ⟨hi1, hi2⟩ := List.getElem?_eq_some_iff.1 h0
      obtain ⟨hj1, hj2⟩ := List.getElem?_eq_some_iff.1 hj
      have h3 := (List.pairwise_iff_getElem.1 h) (atIc C k) (atIc C k + (j + 1)) (by simpa using hi1) (by simpa using hj1) (by omega)
      simp only [List.getElem_map, hi2, hj2] at h3
      exact klt_trans h2 h3
theorem sim_at {C : List Rc} {T : Tb} {k : Ky} (h : Sim C T) : Sim (atTc C k) T := by
  have hle : atIc C k ≤ C.length := tw_le
  have hins : (∀ e, C[atIc C k]? = some e → e.k ≠ k) → Sim (insC C k) T := fun hn => by
    obtain ⟨h1, h2⟩ := ins_apart h.srt hn
    have hno : ∀ e ∈ C, e.k ≠ k := fun e he => by
      rw [← List.take_append_drop (atIc C k) C] at he
      rcases List.mem_append.1 he with h3 | h3
      · intro e'; have := h1 e h3; rw [e'] at this; exact klt_irrefl k this
      · intro e'; have := h2 e h3; rw [e'] at this; exact klt_irrefl k this
    obtain ⟨e1, e2⟩ := h.els k hno
    have hmem : ∀ e, e ∈ insC C k → e ∈ C ∨ e = ⟨k, [], []⟩ := fun e he => by
      unfold insC at he
      rcases List.mem_append.1 he with h3 | h3
      · rcases List.mem_append.1 h3 with h4 | h4
        · exact .inl (List.mem_of_mem_take h4)
        · exact .inr (List.mem_singleton.1 h4)
      · exact .inl (List.mem_of_mem_drop h3)
    refine ⟨?_, fun e he => ?_, fun e he x => ?_, fun k' hk' => h.els k' fun e he => hk' e ?_, fun e he => ?_, fun e he => ?_⟩
    · unfold insC
      rw [List.map_append, List.map_append]
      have hs := h.srt
      rw [← List.take_append_drop (atIc C k) C, List.map_append, List.pairwise_append] at hs
      rw [List.pairwise_append, List.pairwise_append]
      refine ⟨⟨hs.1, by simp, fun a ha b hb => ?_⟩, hs.2.1, fun a ha b hb => ?_⟩
      · obtain ⟨e, he, rfl⟩ := List.mem_map.1 ha
        simp at hb
        rw [hb]; exact h1 e he
      · rcases List.mem_append.1 ha with h3 | h3
        · exact hs.2.2 a h3 b hb
        · simp at h3
          obtain ⟨e, he, rfl⟩ := List.mem_map.1 hb
          rw [h3]; exact h2 e he
    · rcases hmem e he with h3 | h3
      · exact h.line e h3
      · rw [h3]; exact e1
    · rcases hmem e he with h3 | h3
      · exact h.hv e h3 x
      · rw [h3]; exact e2 x
    · unfold insC
      rw [← List.take_append_drop (atIc C k) C] at he
      rcases List.mem_append.1 he with h3 | h3
      · exact List.mem_append_left _ (List.mem_append_left _ h3)
      · exact List.mem_append_right _ h3
    · rcases hmem e he with h3 | h3
      · exact h.nd e h3
      · rw [h3]; exact List.nodup_nil
    · rcases hmem e he with h3 | h3
      · exact h.md e h3
      · rw [h3]; intro p hp; cases hp
  unfold atTc
  split
  · rename_i e he
    split
    · exact h
    · rename_i hk; exact hins (fun e' h' => by rw [he] at h'; injection h' with h'; rw [← h']; exact hk)
  · rename_i he
    exact hins (fun e' h' => by rw [he] at h'; cases h')
theorem tw_take_eq {α : Type} {q : α → Bool} : ∀ (l : List α), l.take (l.takeWhile q).length = l.takeWhile q ∧ l.drop (l.takeWhile q).length = l.dropWhile q
  | [] => ⟨rfl, rfl⟩
  | a :: l => by
    obtain ⟨h1, h2⟩ := tw_take_eq (q := q) l
    rw [List.takeWhile_cons, List.dropWhile_cons]
    split
    · rw [List.length_cons, List.take_succ_cons, List.drop_succ_cons, h1, h2]; exact ⟨rfl, rfl⟩
    · exact ⟨rfl, rfl⟩
theorem hv_some {f : Int → Option Int} {h : List Pl} (hr : HvR f h) (hm : ∀ p ∈ h, p.m = 1 ∨ p.m = 2) (x : Int) : (f x).isSome = decide (0 < lkM h x) := by
  rw [hr x]
  rcases lk_range hm x with e | e | e <;> rw [e] <;> rfl
theorem sim_ask {C : List Rc} {T : Tb} {k : Ky} {t m : Int} {e : Rc} {i : Nat} (hs : Sim C T) (he : C[i]? = some e) (hk : e.k = k) : (rAsk e.h e.l t (mdOf m) (T.wt t).isSome).1 = askB T t k m ∧ Sim (C.set i ⟨k, (rAsk e.h e.l t (mdOf m) (T.wt t).isSome).2.1, (rAsk e.h e.l t (mdOf m) (T.wt t).isSome).2.2⟩) (askT T t k m) := by
  have hmem := List.mem_of_getElem? he
  have hr := hs.hvr hmem
  have hm := hs.md e hmem
  have hn := hs.nd e hmem
  have hl := hs.line e hmem
  have hmd := mdOf_is m
  rw [hk] at hr hl
  have hsame : Sim (C.set i ⟨k, e.h, e.l⟩) T := hs.set_ he hk.symm (fun _ _ => rfl) (by rw [hk]; exact hl) (by rw [hk]; exact hr) hm hn
  unfold askB askT rAsk
  generalize mdOf m = md at hmd
  have hhas : hasE ((T.at_ k).hv t) md = true ↔ (lkM e.h t = 2 ∨ lkM e.h t = md) := by
    change hasE ((T.ent k).hv t) md = true ↔ _
    rw [hr t]
    by_cases h0 : lkM e.h t = 0
    · rw [if_pos h0, h0]; simp [hasE]; omega
    · rw [if_neg h0]; simp [hasE]
  by_cases h1 : lkM e.h t = 2 ∨ lkM e.h t = md
  · rw [if_pos h1, if_pos (hhas.2 h1), if_pos (hhas.2 h1)]; exact ⟨rfl, hsame⟩
  · rw [if_neg h1, if_neg (fun h => h1 (hhas.1 h)), if_neg (fun h => h1 (hhas.1 h))]
    by_cases h2 : (T.wt t).isSome = true
    · rw [if_pos h2, if_pos h2, if_pos h2]; exact ⟨rfl, hsame⟩
    · rw [if_neg h2, if_neg h2, if_neg h2]
      have hfs : fit (T.ent k).hv t md = fitR e.h ⟨t, md⟩ := fit_same (p := ⟨t, md⟩) hr hm hn hmd
      have hsm : ((T.ent k).hv t).isSome = decide (0 < lkM e.h t) := hv_some hr hm t
      have hcond : (fit (T.at_ k).hv t md && (((T.at_ k).hv t).isSome || (T.at_ k).line.isEmpty)) = true ↔ (fitR e.h ⟨t, md⟩ = true ∧ (0 < lkM e.h t ∨ e.l = [])) := by
        change (fit (T.ent k).hv t md && (((T.ent k).hv t).isSome || (T.ent k).line.isEmpty)) = true ↔ _
        rw [hfs, hsm, hl]; simp
      by_cases h3 : fitR e.h ⟨t, md⟩ = true ∧ (0 < lkM e.h t ∨ e.l = [])
      · rw [if_pos h3, if_pos (hcond.2 h3)]
        refine ⟨(hcond.2 h3).symm, hs.set_ he hk.symm (fun k' hk' => by rw [hk] at hk'; exact set_other T _ hk') ?_ ?_ (fun p hp => ?_) (put_nd hn ⟨t, md⟩)⟩
        · rw [hk, set_same]; exact hl
        · rw [hk, set_same]; exact hv_put hr hm (p := ⟨t, md⟩) hmd
        · rcases List.mem_append.1 hp with h4 | h4
          · exact wo_md hm _ p h4
          · rw [List.mem_singleton.1 h4]; exact hmd
      · rw [if_neg h3, if_neg (fun h => h3 (hcond.1 h))]
        refine ⟨(Bool.eq_false_iff.2 (fun h => h3 (hcond.1 h))).symm, hs.set_ he hk.symm (fun k' hk' => by rw [hk] at hk'; exact set_other T _ hk') ?_ ?_ hm hn⟩
        · rw [hk]
          show ((T.set k _).ent k).line = _
          rw [set_same]
          show insP (T.ent k).hv ⟨t, md⟩ (T.ent k).line = _
          rw [hl]
          unfold insP insN
          have hP : (fun x : Pl => ((T.ent k).hv x.t).isSome) = fun x : Pl => decide (0 < lkM e.h x.t) := funext fun x => hv_some hr hm x.t
          rw [hP]
          simp only
          rw [hsm]
          obtain ⟨a1, a2⟩ := tw_take_eq (q := fun x : Pl => decide (0 < lkM e.h x.t)) e.l
          by_cases h4 : 0 < lkM e.h t
          · rw [if_pos (decide_eq_true h4), if_pos h4, a1, a2]; simp
          · rw [if_neg (by simpa using h4), if_neg h4]; simp
        · rw [hk]
          show HvR ((T.set k _).ent k).hv _
          rw [set_same]; exact hr
theorem sim_has {C : List Rc} {T : Tb} (hs : Sim C T) (hi : Inv T) {e : Rc} (he : e ∈ C) (t : Int) : T.has e.k t = true ↔ ¬ (lkM e.h t = 0 ∧ lkM e.l t = 0) := by
  have hm := hs.md e he
  have hl := hs.line e he
  have hlm : ∀ p ∈ e.l, p.m = 1 ∨ p.m = 2 := fun p hp => hi.ml e.k p (by rw [hl]; exact hp)
  unfold Tb.has
  rw [has_iff, hl]
  constructor
  · rintro (⟨m, h1⟩ | ⟨m, h1⟩) ⟨h2, h3⟩
    · rw [hs.hv e he, if_pos h2] at h1; cases h1
    · exact (lk_zero hlm).1 h3 _ h1 rfl
  · intro h
    by_cases h1 : lkM e.h t = 0
    · right
      have h2 : ¬ lkM e.l t = 0 := fun h2 => h ⟨h1, h2⟩
      rw [lk_zero hlm] at h2
      simp only [ne_eq, Classical.not_forall, Decidable.not_not] at h2
      obtain ⟨p, hp, hpt⟩ := h2
      obtain ⟨a, b⟩ := p
      simp only at hpt
      subst hpt
      exact ⟨b, hp⟩
    · exact .inl ⟨lkM e.h t, by rw [hs.hv e he, if_neg h1]⟩
theorem sim_keys {C : List Rc} {T : Tb} (hs : Sim C T) {t : Int} {ks : List Ky} (ho : OfL T t ks) : (C.filter fun e => T.has e.k t).map (·.k) = ks := by
  refine sorted_uniq ?_ ho.srt (fun k => ?_)
  · exact hs.srt.sublist (List.filter_sublist.map _)
  · rw [ho.mem k, List.mem_map]
    constructor
    · rintro ⟨e, he, rfl⟩; exact (List.mem_filter.1 he).2
    · intro hk
      by_cases h : ∃ e ∈ C, e.k = k
      · obtain ⟨e, he, rfl⟩ := h
        exact ⟨e, List.mem_filter.2 ⟨he, hk⟩, rfl⟩
      · obtain ⟨h1, h2⟩ := hs.els k (fun e he hek => h ⟨e, he, hek⟩)
        unfold Tb.has at hk
        rcases has_iff.1 hk with ⟨m, h3⟩ | ⟨m, h3⟩
        · rw [h2] at h3; cases h3
        · rw [h1] at h3; cases h3
theorem sim_rel {C : List Rc} {T T' : Tb} {t : Int} {ks : List Ky} {got : List Int} (hs : Sim C T) (hi : Inv T) (ho : OfL T t ks) (hr : relAll (T.stop t) t ks = (T', got)) : Sim (C.map (relC t)) T' ∧ got = relG t C := by
  have hent := rel_ent ho hr
  have hone : ∀ e ∈ C, HvR (T'.ent e.k).hv (relR e.h e.l t).1 ∧ (T'.ent e.k).line = (relR e.h e.l t).2.1 ∧ (if T.has e.k t = true then ((T.ent e.k).rel t).2 else []) = (relR e.h e.l t).2.2 ∧ (∀ p ∈ (relR e.h e.l t).1, p.m = 1 ∨ p.m = 2) ∧ ((relR e.h e.l t).1.map (·.t)).Nodup := fun e he => by
    have hm := hs.md e he
    have hn := hs.nd e he
    have hl := hs.line e he
    have hlm : ∀ p ∈ e.l, p.m = 1 ∨ p.m = 2 := fun p hp => hi.ml e.k p (by rw [hl]; exact hp)
    have hln : (e.l.map (·.t)).Nodup := by rw [← hl]; exact hi.nd e.k
    rw [hent]
    unfold relR
    by_cases hk : e.k ∈ ks
    · have hh := (ho.mem e.k).1 hk
      have hz := (sim_has hs hi he t).1 hh
      rw [if_pos hk, if_neg hz, if_pos hh]
      have hcut : ((T.ent e.k).cut t).line = wo e.l t := by unfold En.cut; rw [hl]; rfl
      obtain ⟨a, b, c, d, f⟩ := wake_same (wo e.l t).length (wo e.l t) (fdel (T.ent e.k).hv t) (wo e.h t) (Nat.le_refl _) (hv_del (hs.hvr he) t) (wo_md hm t) (wo_nd hn t) (wo_md hlm t) (wo_nd hln t)
      unfold En.rel
      rw [hcut]
      exact ⟨a, b, c, d, f⟩
    · have hh : ¬ T.has e.k t = true := fun h => hk ((ho.mem e.k).2 h)
      have hz : lkM e.h t = 0 ∧ lkM e.l t = 0 := by
        have := mt (sim_has hs hi he t).2 hh
        simpa using this
      rw [if_neg hk, if_pos hz, if_neg hh]
      exact ⟨hs.hvr he, hl, rfl, hm, hn⟩
  refine ⟨⟨?_, fun e he => ?_, fun e he x => ?_, fun k hk => ?_, fun e he => ?_, fun e he => ?_⟩, ?_⟩
  · rw [List.map_map]; exact hs.srt
  · obtain ⟨e0, h0, rfl⟩ := List.mem_map.1 he; exact (hone e0 h0).2.1
  · obtain ⟨e0, h0, rfl⟩ := List.mem_map.1 he; exact (hone e0 h0).1 x
  · have hno : ∀ e ∈ C, e.k ≠ k := fun e he => hk (relC t e) (List.mem_map.2 ⟨e, he, rfl⟩)
    obtain ⟨h1, h2⟩ := hs.els k hno
    have hks : k ∉ ks := fun h => by
      have := (ho.mem k).1 h
      unfold Tb.has at this
      rcases has_iff.1 this with ⟨m, h3⟩ | ⟨m, h3⟩
      · rw [h2] at h3; cases h3
      · rw [h1] at h3; cases h3
    rw [hent, if_neg hks]; exact ⟨h1, h2⟩
  · obtain ⟨e0, h0, rfl⟩ := List.mem_map.1 he; exact (hone e0 h0).2.2.2.2
  · obtain ⟨e0, h0, rfl⟩ := List.mem_map.1 he; exact (hone e0 h0).2.2.2.1
  · obtain ⟨_, h2, _⟩ := relAll_form (T.stop t) t (klt_nodup ho.srt)
    rw [hr] at h2
    simp only at h2
    rw [h2, ← sim_keys hs ho]
    unfold relG
    have : ∀ D : List Rc, (∀ e ∈ D, e ∈ C) → ((D.filter fun e => T.has e.k t).map (·.k)).flatMap (fun k => (((T.stop t).ent k).rel t).2) = D.flatMap fun e => (relR e.h e.l t).2.2 := by
      intro D
      induction D with
      | nil => intro _; rfl
      | cons e D ih =>
        intro hD
        rw [List.flatMap_cons, ← (hone e (hD e (List.mem_cons_self ..))).2.2.1, List.filter_cons]
        have ih' := ih (fun x hx => hD x (List.mem_cons_of_mem _ hx))
        split
        · rw [List.map_cons, List.flatMap_cons, ih']; rfl
        · rw [ih', List.nil_append]
    exact this C (fun _ h => h)
theorem sim_holds {L : List Rk} {T : Tb} (hs : Sim (L.map Rk.co) T) {x : Int} {ks : List Ky} (ho : OfL T x ks) : rHl L x = hlist T x ks := by
  rw [← sim_keys hs ho]
  unfold rHl hlist
  have : ∀ D : List Rk, (∀ e ∈ D, e.co ∈ L.map Rk.co) → D.filterMap (fun e => rHo e x) = (((D.map Rk.co).filter fun e => T.has e.k x).map (·.k)).filterMap fun k => ((T.ent k).hv x).map (hdOf k) := by
    intro D
    induction D with
    | nil => intro _; rfl
    | cons e D ih =>
      intro hD
      have he := hD e (List.mem_cons_self ..)
      have hv := hs.hv e.co he x
      have hm := hs.md e.co he
      change (T.ent e.k).hv x = if lkM e.h x = 0 then none else some (lkM e.h x) at hv
      have hrange : lkM e.h x = 0 ∨ lkM e.h x = 1 ∨ lkM e.h x = 2 := lk_range hm x
      have ih' := ih (fun y hy => hD y (List.mem_cons_of_mem _ hy))
      have hro : rHo e x = ((T.ent e.k).hv x).map (hdOf e.k) := by
        unfold rHo
        rw [hv]
        by_cases h0 : lkM e.h x = 0
        · rw [if_pos h0, if_neg (by omega)]; rfl
        · rw [if_neg h0, if_pos (by omega)]; rfl
      rw [List.map_cons, List.filter_cons]
      split
      · rw [List.map_cons, List.filterMap_cons, List.filterMap_cons, ih', hro]; rfl
      · rename_i hh
        have : (T.ent e.k).hv x = none := by
          cases h : (T.ent e.k).hv x with
          | none => rfl
          | some m => exact absurd (has_iff.2 (.inl ⟨m, h⟩)) hh
        rw [List.filterMap_cons, hro, this, ih']; rfl
  exact this L (fun e he => List.mem_map.2 ⟨e, he, rfl⟩)
theorem rWt_some {x : Int} : ∀ {L : List Rk} {k : Ky} {m : Int}, rWt L x = some (k, m) → ∃ e ∈ L, e.k = k ∧ lkM e.l x = m ∧ 0 < m
  | [], k, m, h => by cases h
  | e :: L, k, m, h => by
    rw [rWt] at h
    split at h
    · rename_i hp
      injection h with h
      injection h with h1 h2
      exact ⟨e, List.mem_cons_self .., h1, h2, by rw [← h2]; exact hp⟩
    · obtain ⟨e', h1, h2⟩ := rWt_some h; exact ⟨e', List.mem_cons_of_mem _ h1, h2⟩
theorem rWt_none {x : Int} : ∀ {L : List Rk}, rWt L x = none → ∀ e ∈ L, ¬ 0 < lkM e.l x
  | [], _, e, he => by cases he
  | e :: L, h, e', he => by
    rw [rWt] at h
    split at h
    · cases h
    · rename_i hp
      rcases List.mem_cons.1 he with h1 | h1
      · rw [h1]; exact hp
      · exact rWt_none h e' h1
theorem sim_waits {L : List Rk} {T : Tb} (hs : Sim (L.map Rk.co) T) (hi : Inv T) (x : Int) : rHd (rWt L x) = (T.wt x).getD zHd ∧ (rWt L x).isSome = (T.wt x).isSome := by
  have hlm : ∀ e ∈ L, (∀ p ∈ e.l, p.m = 1 ∨ p.m = 2) ∧ (e.l.map (·.t)).Nodup ∧ (T.ent e.k).line = e.l := fun e he => by
    have hl := hs.line e.co (List.mem_map.2 ⟨e, he, rfl⟩)
    change (T.ent e.k).line = e.l at hl
    exact ⟨fun p hp => hi.ml e.k p (by rw [hl]; exact hp), by rw [← hl]; exact hi.nd e.k, hl⟩
  cases h : rWt L x with
  | some km =>
    obtain ⟨k, m⟩ := km
    obtain ⟨e, he, rfl, h2, h3⟩ := rWt_some h
    obtain ⟨a, b, c⟩ := hlm e he
    have hmem := (lk_mem a b (x := x) (m := m)).2 ⟨h2, by omega⟩
    have hw := (hi.wt x (hdOf e.k m)).2 ⟨e.k, m, rfl, by rw [c]; exact hmem⟩
    rw [hw]; exact ⟨rfl, rfl⟩
  | none =>
    have hw : T.wt x = none := by
      cases hw : T.wt x with
      | none => rfl
      | some hd =>
        obtain ⟨k, m, _, hl⟩ := (hi.wt x hd).1 hw
        by_cases hk : ∃ e ∈ L, e.k = k
        · obtain ⟨e, he, rfl⟩ := hk
          obtain ⟨a, b, c⟩ := hlm e he
          rw [c] at hl
          have h1 := (lk_mem a b).1 hl
          have h2 := rWt_none h e he
          have h3 := lk_range a x
          omega
        · have := (hs.els k (fun e he hek => by
            obtain ⟨e0, h0, rfl⟩ := List.mem_map.1 he
            exact hk ⟨e0, h0, hek⟩)).1
          rw [this] at hl; cases hl
    rw [hw]; exact ⟨rfl, rfl⟩
theorem sim_wait {C : List Rc} {T : Tb} (hs : Sim C T) (hi : Inv T) {x : Int} (hx : (T.wt x).isSome = true) : ∃ e ∈ C, ∃ (m : Int) (j : Nat), T.wt x = some (hdOf e.k m) ∧ e.l[j]? = some (⟨x, m⟩ : Pl) := by
  obtain ⟨hd, hhd⟩ := Option.isSome_iff_exists.1 hx
  obtain ⟨k, m, rfl, hl⟩ := (hi.wt x hd).1 hhd
  by_cases hk : ∃ e ∈ C, e.k = k
  · obtain ⟨e, he, rfl⟩ := hk
    rw [hs.line e he] at hl
    obtain ⟨j, hj⟩ := List.getElem?_of_mem hl
    exact ⟨e, he, m, j, hhd, hj⟩
  · have := (hs.els k (fun e he hek => hk ⟨e, he, hek⟩)).1
    rw [this] at hl; cases hl
theorem flat_one {α β : Type} {f : α → List β} : ∀ {l : List α} {j : Nat} {a : α}, l[j]? = some a → (∀ i b, l[i]? = some b → i ≠ j → f b = []) → l.flatMap f = f a
  | [], j, a, h, _ => by simp at h
  | b :: l, 0, a, h, hn => by
    simp at h
    subst h
    rw [List.flatMap_cons]
    have : l.flatMap f = [] := List.flatMap_eq_nil_iff.2 fun c hc => by
      obtain ⟨i, hi⟩ := List.getElem?_of_mem hc
      exact hn (i + 1) c (by simpa using hi) (by omega)
    rw [this, List.append_nil]
  | b :: l, j + 1, a, h, hn => by
    rw [List.flatMap_cons, hn 0 b (by simp) (by omega), List.nil_append]
    exact flat_one (by simpa using h) (fun i c hi hne => hn (i + 1) c (by simpa using hi) (by omega))
theorem sim_eds {C : List Rc} {T : Tb} {fr : List Int} (hs : Sim C T) (hi : Inv T) (he : EdR T fr (ahL T)) : rEds C (whoL C) = eds T fr := by
  have hlm : ∀ e ∈ C, (∀ p ∈ e.l, p.m = 1 ∨ p.m = 2) ∧ (e.l.map (·.t)).Nodup ∧ (T.ent e.k).line = e.l := fun e he => by
    have hl := hs.line e he
    exact ⟨fun p hp => hi.ml e.k p (by rw [hl]; exact hp), by rw [← hl]; exact hi.nd e.k, hl⟩
  have hwho : whoL C = fr := rise_uniq (ris_sorted _) he.srt (fun x => by
    unfold whoL
    rw [he.mem x, ris_mem, List.mem_flatMap]
    constructor
    · rintro ⟨e, h1, h2⟩
      obtain ⟨p, hp, rfl⟩ := List.mem_map.1 h2
      obtain ⟨a, b⟩ := p
      have := (hi.wt a (hdOf e.k b)).2 ⟨e.k, b, rfl, by rw [(hlm e h1).2.2]; exact hp⟩
      rw [this]; rfl
    · intro hx
      obtain ⟨e, h1, m, j, _, h2⟩ := sim_wait hs hi hx
      exact ⟨e, h1, List.mem_map.2 ⟨_, List.mem_of_getElem? h2, rfl⟩⟩)
  rw [hwho]
  unfold rEds eds edL
  have hx : ∀ x ∈ fr, edX C x = (ahL T x).map fun y => (x, y) := fun x hx => by
    obtain ⟨e, h1, m, j, hw, hj⟩ := sim_wait hs hi ((he.mem x).1 hx)
    obtain ⟨i, hie⟩ := List.getElem?_of_mem h1
    have hone : ∀ e' ∈ C, ∀ (j' : Nat) (p : Pl), e'.l[j']? = some p → p.t = x → e'.k = e.k ∧ p.m = m := fun e' h2 j' p h3 h4 => by
      obtain ⟨a, b⟩ := p
      simp only at h4
      subst h4
      have := (hi.wt a (hdOf e'.k b)).2 ⟨e'.k, b, rfl, by rw [(hlm e' h2).2.2]; exact List.mem_of_getElem? h3⟩
      rw [hw] at this
      injection this with this
      obtain ⟨a1, a2⟩ := hdOf_inj this
      exact ⟨a1.symm, a2.symm⟩
    unfold edX
    rw [flat_one hie (fun i' e' h2 hne => ?_)]
    · unfold edE edK
      have hjl : j < e.l.length := (List.getElem?_eq_some_iff.1 hj).1
      have hg : e.l.getD j ⟨0, 0⟩ = ⟨x, m⟩ := by rw [List.getD, hj]; rfl
      rw [flat_one (l := List.range e.l.length) (j := j) (a := j) (by simp [hjl]) (fun i' j' h2 hne => ?_)]
      · unfold edAt
        rw [hg, if_pos rfl]
        congr 1
        refine (ahL_is hw ⟨ris_sorted _, fun y => ?_⟩).symm
        refine (blL_mem hj).trans ?_
        unfold BlIs AhIs
        have hline := (hlm e h1).2.2
        have hm := hs.md e h1
        have hn := hs.nd e h1
        have hmm : m = 1 ∨ m = 2 := (hlm e h1).1 _ (List.mem_of_getElem? hj)
        rw [hline, tw_take (l := e.l) (i := j) (t := x) (fun p hp hpt => by
          obtain ⟨j', hj'⟩ := List.getElem?_of_mem hp
          rw [List.getElem?_take] at hj'
          split at hj'
          · rename_i hlt
            have hnd := (hlm e h1).2.1
            have e1 : (e.l.map (·.t))[j']? = some x := by rw [List.getElem?_map, hj']; simp [hpt]
            have e2 : (e.l.map (·.t))[j]? = some x := by rw [List.getElem?_map, hj]; rfl
            have := (List.getElem?_inj (by simp; omega) hnd).1 (e1.trans e2.symm)
            omega
          · cases hj') (.inr ⟨_, hj, rfl⟩)]
        refine or_congr ?_ Iff.rfl
        have htog : ∀ a : Int, (a = 1 ∨ a = 2) → (tog a m = false ↔ (a = 2 ∨ m = 2)) := fun a ha => by unfold tog; simp; omega
        constructor
        · rintro ⟨q, a1, a2, a3, a4⟩
          obtain ⟨qt, qm⟩ := q
          simp only at a2 a3 a4
          subst a2
          obtain ⟨b1, b2⟩ := (lk_mem hm hn).1 a1
          exact ⟨qm, by rw [hs.hv e h1, if_neg (by rw [b1]; exact b2), b1], a3, (htog qm (hm _ a1)).2 a4⟩
        · rintro ⟨md, a1, a2, a3⟩
          rw [hs.hv e h1] at a1
          split at a1
          · cases a1
          · rename_i h0
            injection a1 with a1
            have a4 := (lk_mem hm hn (x := y) (m := md)).2 ⟨a1, by rw [← a1]; exact h0⟩
            exact ⟨_, a4, rfl, a2, (htog md (hm _ a4)).1 a3⟩
      · have h3 : j' < e.l.length ∧ i' = j' := by
          obtain ⟨h4, h5⟩ := List.getElem?_eq_some_iff.1 h2
          simp at h4 h5; omega
        unfold edAt
        refine if_neg fun h4 => ?_
        obtain ⟨p, hp⟩ : ∃ p, e.l[j']? = some p := ⟨_, List.getElem?_eq_getElem h3.1⟩
        have hg' : e.l.getD j' ⟨0, 0⟩ = p := by rw [List.getD, hp]; rfl
        rw [hg'] at h4
        have hnd := (hlm e h1).2.1
        have e1 : (e.l.map (·.t))[j']? = some x := by rw [List.getElem?_map, hp]; simp [h4]
        have e2 : (e.l.map (·.t))[j]? = some x := by rw [List.getElem?_map, hj]; rfl
        have := (List.getElem?_inj (by simp; omega) hnd).1 (e1.trans e2.symm)
        omega
    · unfold edE edK
      refine List.flatMap_eq_nil_iff.2 fun j' hj' => ?_
      unfold edAt
      refine if_neg fun h4 => ?_
      have h3 : j' < e'.l.length := List.mem_range.1 hj'
      obtain ⟨p, hp⟩ : ∃ p, e'.l[j']? = some p := ⟨_, List.getElem?_eq_getElem h3⟩
      have hg' : e'.l.getD j' ⟨0, 0⟩ = p := by rw [List.getD, hp]; rfl
      rw [hg'] at h4
      exact hne (keys_apart hs.srt h2 hie (hone e' (List.mem_of_getElem? h2) j' p hp h4).1)
  have : ∀ l : List Int, (∀ x ∈ l, x ∈ fr) → l.flatMap (edX C) = l.flatMap fun x => (ahL T x).map fun y => (x, y) := by
    intro l
    induction l with
    | nil => intro _; rfl
    | cons x l ih =>
      intro hl
      rw [List.flatMap_cons, List.flatMap_cons, hx x (hl x (List.mem_cons_self ..)), ih (fun y hy => hl y (List.mem_cons_of_mem _ hy))]
  exact this fr (fun _ h => h)
end Go.Proofs.Ytpndcpmfcajmdaa.Lock
namespace Go.Proofs.Ytpndcpmfcajmdaa.Lock
open Go.ChangeShapes Go.WideShapes Go.ChangeAt Go.RowKit Go.IntWalk Go.Proofs.Mem Law Go.Shelf Go.Proofs.Each
set_option linter.unusedVariables false
set_option linter.unusedSimpArgs false
set_option maxRecDepth 100000 in
set_option maxHeartbeats 4000000 in
theorem sameEds_any (w : World) (B : Nat) (u v : Value) (xs : List (Int × Int)) (hu : SS cEd 2 w B u xs) (hv : SS cEd 2 w B v xs) (hl : xs.length ≤ 50000000000) :
    Calls Try.prog 13 #[u, v] w fun e w' => e = .returned (.bool true) ∧ Below w.heap.size w w' := by
  obtain ⟨A1, c1, rfl, _, _⟩ := hu.form
  obtain ⟨A2, c2, rfl, _, _⟩ := hv.form
  have HU := Lib.hid hu
  have HV := Lib.hid hv
  obtain ⟨n, hn⟩ : ∃ n, n = xs.length := ⟨_, rfl⟩
  rw [← hn] at HU HV ⊢
  have HN := Lib.hid hn
  have bn : (n : Int) ≤ 50000000000 := by omega
  clear hu hv hl hn
  go_enter Try.func13, Try.ntmps13
  go_wp2
  go_loopw [5] (fun s wr => ∃ k : Nat, k ≤ n ∧ s = .int .i64 k ∧ ∃ d, wr = w.drewN d) (fun s _ => n - (intOf s).toNat)
  case atStart => exact ⟨0, Nat.zero_le _, rfl, 0, rfl⟩
  case round =>
    obtain ⟨k, hk, rfl, d, hd⟩ := hrel
    obtain ⟨w1, rfl⟩ : ∃ w1, w1 = wr := ⟨wr, rfl⟩
    by_cases hl : k < n
    · have d1 : decide ((k : Int) < (n : Int)) = true := by simp; omega
      have d1' : decide (k < n) = true := by simp; omega
      have bk : (k : Int) ≤ 50000000000 := by omega
      obtain ⟨k', hk'⟩ : ∃ k', k' = k + 1 := ⟨_, rfl⟩
      have sk : (k : Int) + 1 = (k' : Int) := by omega
      have HKK := Lib.hid (⟨hk', hl⟩ : k' = k + 1 ∧ k < n)
      obtain ⟨e, he⟩ : ∃ e, xs[k]? = some e := ⟨_, List.getElem?_eq_getElem (by have := HN.out; omega)⟩
      obtain ⟨g, o, hA, _, hcell⟩ := HU.out.at_ he
      subst hA
      obtain ⟨g2, o2, hA, _, hcell2⟩ := HV.out.at_ he
      subst hA
      have k1 := fun d' => (show (w1.drewN d').cell? ⟨g, o + k * 2, none⟩ = some (.int .u32 e.1) by rw [hd]; simpa using hcell 0 _ rfl)
      have k2 := fun d' => (show (w1.drewN d').cell? ⟨g, o + k * 2 + 1, none⟩ = some (.int .u32 e.2) by rw [hd]; simpa using hcell 1 _ rfl)
      have k3 := fun d' => (show (w1.drewN d').cell? ⟨g2, o2 + k * 2, none⟩ = some (.int .u32 e.1) by rw [hd]; simpa using hcell2 0 _ rfl)
      have k4 := fun d' => (show (w1.drewN d').cell? ⟨g2, o2 + k * 2 + 1, none⟩ = some (.int .u32 e.2) by rw [hd]; simpa using hcell2 1 _ rfl)
      have HD := Lib.hid hd
      obtain ⟨ea, eb⟩ := e
      simp only at k1 k2 k3 k4
      clear hcell hcell2 he hk hk' hd
      have dx : decide (ea = ea) = true := by simp
      have dy : decide (eb = eb) = true := by simp
      go_upto_region 6 with fail
      go_quiet (fail)
      go_wp2
      go_roundw
      case rel => exact ⟨k', by have := HKK.out; omega, rfl, d + nq, by rw [HD.out, World.drewN_drewN]⟩
      case measure => simp [intOf]; have := HKK.out; omega
    · have d1 : decide ((k : Int) < (n : Int)) = false := by simp; omega
      have d1' : decide (k < n) = false := by simp; omega
      obtain rfl : k = n := by omega
      have HB := Lib.hid (show Below w.heap.size w w1 by rw [hd]; exact below_drewN (Below.refl _ _) d)
      clear hd
      go_wp2
      go_ret
      exact ⟨rfl, HB.out⟩
set_option maxRecDepth 100000 in
set_option maxHeartbeats 4000000 in
theorem sameHds_any (w : World) (B : Nat) (u v : Value) (xs : List Hd) (hu : SS cHd 4 w B u xs) (hv : SS cHd 4 w B v xs) (hl : xs.length ≤ 50000000000) :
    Calls Try.prog 26 #[u, v] w fun e w' => e = .returned (.bool true) ∧ Below w.heap.size w w' := by
  obtain ⟨A1, c1, rfl, _, _⟩ := hu.form
  obtain ⟨A2, c2, rfl, _, _⟩ := hv.form
  have HU := Lib.hid hu
  have HV := Lib.hid hv
  obtain ⟨n, hn⟩ : ∃ n, n = xs.length := ⟨_, rfl⟩
  rw [← hn] at HU HV ⊢
  have HN := Lib.hid hn
  have bn : (n : Int) ≤ 50000000000 := by omega
  clear hu hv hl hn
  go_enter Try.func26, Try.ntmps26
  go_wp2
  go_loopw [5] (fun s wr => ∃ k : Nat, k ≤ n ∧ s = .int .i64 k ∧ ∃ d, wr = w.drewN d) (fun s _ => n - (intOf s).toNat)
  case atStart => exact ⟨0, Nat.zero_le _, rfl, 0, rfl⟩
  case round =>
    obtain ⟨k, hk, rfl, d, hd⟩ := hrel
    obtain ⟨w1, rfl⟩ : ∃ w1, w1 = wr := ⟨wr, rfl⟩
    by_cases hl : k < n
    · have d1 : decide ((k : Int) < (n : Int)) = true := by simp; omega
      have d1' : decide (k < n) = true := by simp; omega
      have bk : (k : Int) ≤ 50000000000 := by omega
      obtain ⟨k', hk'⟩ : ∃ k', k' = k + 1 := ⟨_, rfl⟩
      have sk : (k : Int) + 1 = (k' : Int) := by omega
      have HKK := Lib.hid (⟨hk', hl⟩ : k' = k + 1 ∧ k < n)
      obtain ⟨e, he⟩ : ∃ e, xs[k]? = some e := ⟨_, List.getElem?_eq_getElem (by have := HN.out; omega)⟩
      obtain ⟨g, o, hA, _, hcell⟩ := HU.out.at_ he
      subst hA
      obtain ⟨g2, o2, hA, _, hcell2⟩ := HV.out.at_ he
      subst hA
      obtain ⟨ek, ea, eb, em⟩ := e
      have k1 := fun d' => (show (w1.drewN d').cell? ⟨g, o + k * 4, none⟩ = some (.int .u8 ek) by rw [hd]; exact hcell 0 _ rfl)
      have k2 := fun d' => (show (w1.drewN d').cell? ⟨g, o + k * 4 + 1, none⟩ = some (.int .u32 ea) by rw [hd]; exact hcell 1 _ rfl)
      have k3 := fun d' => (show (w1.drewN d').cell? ⟨g, o + k * 4 + 2, none⟩ = some (.int .u32 eb) by rw [hd]; exact hcell 2 _ rfl)
      have k4 := fun d' => (show (w1.drewN d').cell? ⟨g, o + k * 4 + 3, none⟩ = some (.int .u8 em) by rw [hd]; exact hcell 3 _ rfl)
      have l1 := fun d' => (show (w1.drewN d').cell? ⟨g2, o2 + k * 4, none⟩ = some (.int .u8 ek) by rw [hd]; exact hcell2 0 _ rfl)
      have l2 := fun d' => (show (w1.drewN d').cell? ⟨g2, o2 + k * 4 + 1, none⟩ = some (.int .u32 ea) by rw [hd]; exact hcell2 1 _ rfl)
      have l3 := fun d' => (show (w1.drewN d').cell? ⟨g2, o2 + k * 4 + 2, none⟩ = some (.int .u32 eb) by rw [hd]; exact hcell2 2 _ rfl)
      have l4 := fun d' => (show (w1.drewN d').cell? ⟨g2, o2 + k * 4 + 3, none⟩ = some (.int .u8 em) by rw [hd]; exact hcell2 3 _ rfl)
      have HD := Lib.hid hd
      clear hcell hcell2 he hk hk' hd
      have dx : decide (ek = ek) = true := by simp
      have dy : decide (ea = ea) = true := by simp
      have dz : decide (eb = eb) = true := by simp
      have du : decide (em = em) = true := by simp
      go_upto_region 6 with fail
      go_quiet (fail)
      go_wp2
      go_roundw
      case rel => exact ⟨k', by have := HKK.out; omega, rfl, d + nq, by rw [HD.out, World.drewN_drewN]⟩
      case measure => simp [intOf]; have := HKK.out; omega
    · have d1 : decide ((k : Int) < (n : Int)) = false := by simp; omega
      have d1' : decide (k < n) = false := by simp; omega
      obtain rfl : k = n := by omega
      have HB := Lib.hid (show Below w.heap.size w w1 by rw [hd]; exact below_drewN (Below.refl _ _) d)
      clear hd
      go_wp2
      go_ret
      exact ⟨rfl, HB.out⟩
set_option maxRecDepth 100000 in
set_option maxHeartbeats 4000000 in
theorem sameWds_any (w : World) (B : Nat) (u v : Value) (xs : List Int) (hu : IR w B .u32 u xs) (hv : IR w B .u32 v xs) (hl : xs.length ≤ 50000000000) :
    Calls Try.prog 23 #[u, v] w fun e w' => e = .returned (.bool true) ∧ Below w.heap.size w w' := by
  obtain ⟨A1, c1, rfl, _, _⟩ := hu.form
  obtain ⟨A2, c2, rfl, _, _⟩ := hv.form
  have HU := Lib.hid hu
  have HV := Lib.hid hv
  obtain ⟨n, hn⟩ : ∃ n, n = xs.length := ⟨_, rfl⟩
  rw [← hn] at HU HV ⊢
  have HN := Lib.hid hn
  have bn : (n : Int) ≤ 50000000000 := by omega
  clear hu hv hl hn
  go_enter Try.func23, Try.ntmps23
  go_wp2
  go_loopw [5] (fun s wr => ∃ k : Nat, k ≤ n ∧ s = .int .i64 k ∧ ∃ d, wr = w.drewN d) (fun s _ => n - (intOf s).toNat)
  case atStart => exact ⟨0, Nat.zero_le _, rfl, 0, rfl⟩
  case round =>
    obtain ⟨k, hk, rfl, d, hd⟩ := hrel
    obtain ⟨w1, rfl⟩ : ∃ w1, w1 = wr := ⟨wr, rfl⟩
    by_cases hl : k < n
    · have d1 : decide ((k : Int) < (n : Int)) = true := by simp; omega
      have d1' : decide (k < n) = true := by simp; omega
      have bk : (k : Int) ≤ 50000000000 := by omega
      obtain ⟨k', hk'⟩ : ∃ k', k' = k + 1 := ⟨_, rfl⟩
      have sk : (k : Int) + 1 = (k' : Int) := by omega
      have HKK := Lib.hid (⟨hk', hl⟩ : k' = k + 1 ∧ k < n)
      obtain ⟨g, o, hA, _, hcell⟩ := HU.out.index k hl
      subst hA
      obtain ⟨g2, o2, hA, _, hcell2⟩ := HV.out.index k hl
      subst hA
      obtain ⟨x, hx⟩ : ∃ x, xs.getD k 0 = x := ⟨_, rfl⟩
      rw [hx] at hcell hcell2
      have k1 := fun d' => (show (w1.drewN d').cell? ⟨g, o + k, none⟩ = some (.int .u32 x) by rw [hd]; exact hcell)
      have k2 := fun d' => (show (w1.drewN d').cell? ⟨g2, o2 + k, none⟩ = some (.int .u32 x) by rw [hd]; exact hcell2)
      have HD := Lib.hid hd
      clear hcell hcell2 hk hk' hd hx
      have dx : decide (x = x) = true := by simp
      go_upto_region 6 with fail
      go_quiet (fail)
      go_wp2
      go_roundw
      case rel => exact ⟨k', by have := HKK.out; omega, rfl, d + nq, by rw [HD.out, World.drewN_drewN]⟩
      case measure => simp [intOf]; have := HKK.out; omega
    · have d1 : decide ((k : Int) < (n : Int)) = false := by simp; omega
      have d1' : decide (k < n) = false := by simp; omega
      obtain rfl : k = n := by omega
      have HB := Lib.hid (show Below w.heap.size w w1 by rw [hd]; exact below_drewN (Below.refl _ _) d)
      clear hd
      go_wp2
      go_ret
      exact ⟨rfl, HB.out⟩
set_option maxRecDepth 100000 in
set_option maxHeartbeats 4000000 in
theorem rnew_any (w : World) : Calls Try.prog 11 #[] w fun r w' => ∃ tb R, r = .returned (.pointer (some ⟨tb, 0, none⟩)) ∧ RTab w' R tb [] ∧ (∀ x, R x → w.heap.size ≤ x) ∧ Below w.heap.size w w' := by
  have b1 := new_ (Below.refl w.heap.size w) (.cells #[.slice none 0 0] 62)
  have X := Box.new w #[.slice none 0 0] 62
  go_enter Try.func11, Try.ntmps11
  go_wp2
  go_ret
  exact ⟨w.heap.size, fun x => x = w.heap.size, rfl, ⟨⟨none, 0, X, World.ownsRow_nil _ _ _ _, fun b hb => (by cases hb)⟩, rfl, fun e he => (by cases he), fun x hx => by subst hx; exact X.lt⟩, fun x hx => by omega, b1⟩
end Go.Proofs.Ytpndcpmfcajmdaa.Lock
namespace Go.Proofs.Ytpndcpmfcajmdaa.Lock
open Go.ChangeShapes Go.WideShapes Go.ChangeAt Go.RowKit Go.IntWalk Go.Proofs.Mem Law Go.Shelf Go.Proofs.Each
set_option linter.unusedVariables false
set_option linter.unusedSimpArgs false
def sumC (C : List Rc) : Nat := (C.map fun e => e.l.length).sum
structure Sz (C : List Rc) (n : Nat) : Prop where
  len : C.length ≤ n
  each : ∀ e ∈ C, e.h.length + e.l.length ≤ n
  sum : sumC C ≤ n
theorem Sz.nil : Sz [] 0 := ⟨Nat.le_refl _, fun e he => (by cases he), Nat.le_refl _⟩
theorem Sz.mono {C : List Rc} {n m : Nat} (h : Sz C n) (hm : n ≤ m) : Sz C m := ⟨Nat.le_trans h.len hm, fun e he => Nat.le_trans (h.each e he) hm, Nat.le_trans h.sum hm⟩
theorem sum_app (C D : List Rc) : sumC (C ++ D) = sumC C + sumC D := by unfold sumC; rw [List.map_append, List.sum_append]
theorem sum_set {C : List Rc} {i : Nat} {e y : Rc} (hi : C[i]? = some e) : sumC (C.set i y) + e.l.length = sumC C + y.l.length := by
  induction C generalizing i with
  | nil => simp at hi
  | cons a C ih =>
    cases i with
    | zero =>
      simp at hi
      subst hi
      simp [sumC]; omega
    | succ i =>
      have := ih (by simpa using hi)
      simp [sumC] at this ⊢
      omega
theorem ins_sz {C : List Rc} {n : Nat} {k : Ky} (h : Sz C n) : (insC C k).length ≤ n + 1 ∧ (∀ e ∈ insC C k, e.h.length + e.l.length ≤ n) ∧ sumC (insC C k) ≤ n := by
  have hle : atIc C k ≤ C.length := tw_le
  refine ⟨?_, fun e he => ?_, ?_⟩
  · unfold insC
    simp only [List.length_append, List.length_take, List.length_drop, List.length_cons, List.length_nil]
    have := h.len; omega
  · unfold insC at he
    rcases List.mem_append.1 he with h1 | h1
    · rcases List.mem_append.1 h1 with h2 | h2
      · exact h.each e (List.mem_of_mem_take h2)
      · rw [List.mem_singleton.1 h2]; simp
    · exact h.each e (List.mem_of_mem_drop h1)
  · have h1 : sumC (C.take (atIc C k)) + sumC (C.drop (atIc C k)) = sumC C := by rw [← sum_app, List.take_append_drop]
    unfold insC
    rw [sum_app, sum_app]
    have h2 : sumC [⟨k, [], []⟩] = 0 := rfl
    have := h.sum; omega
theorem at_sz {C : List Rc} {n : Nat} {k : Ky} (h : Sz C n) : (atTc C k).length ≤ n + 1 ∧ (∀ e ∈ atTc C k, e.h.length + e.l.length ≤ n) ∧ sumC (atTc C k) ≤ n := by
  unfold atTc
  split
  · split
    · exact ⟨by have := h.len; omega, h.each, h.sum⟩
    · exact ins_sz h
  · exact ins_sz h
theorem ask_sz {h l : List Pl} {t md : Int} {wq : Bool} : (rAsk h l t md wq).2.1.length + (rAsk h l t md wq).2.2.length ≤ h.length + l.length + 1 ∧ (rAsk h l t md wq).2.2.length ≤ l.length + 1 := by
  have h1 := wo_len h t
  unfold rAsk
  split
  · simp only; omega
  · split
    · simp only; omega
    · split
      · simp only [List.length_append, List.length_cons, List.length_nil]; omega
      · simp only [List.length_append, List.length_cons, List.length_nil, List.length_take, List.length_drop]; omega
theorem set_sz {C : List Rc} {n i : Nat} {k : Ky} {e y : Rc} {t md : Int} {wq : Bool} (h : Sz C n) (hi : (atTc C k)[i]? = some e) (hy : (y.h, y.l) = (rAsk e.h e.l t md wq).2) : Sz ((atTc C k).set i y) (n + 1) := by
  obtain ⟨a, b, c⟩ := at_sz (k := k) h
  have hh : y.h = (rAsk e.h e.l t md wq).2.1 := congrArg Prod.fst hy
  have hl : y.l = (rAsk e.h e.l t md wq).2.2 := congrArg Prod.snd hy
  obtain ⟨d1, d2⟩ := ask_sz (h := e.h) (l := e.l) (t := t) (md := md) (wq := wq)
  rw [← hh, ← hl] at d1
  rw [← hl] at d2
  have he := b e (List.mem_of_getElem? hi)
  refine ⟨by rw [List.length_set]; exact a, fun x hx => ?_, ?_⟩
  · rcases List.mem_or_eq_of_mem_set hx with h1 | h1
    · have := b x h1; omega
    · rw [h1]; omega
  · have := sum_set (y := y) hi; omega
theorem wkR_sz : ∀ (f : Nat) (h l : List Pl), (wkR f h l).1.length + (wkR f h l).2.1.length ≤ h.length + l.length ∧ (wkR f h l).2.1.length ≤ l.length
  | 0, h, l => by simp [wkR]
  | f + 1, h, [] => by simp [wkR]
  | f + 1, h, p :: l => by
    rw [wkR]
    split
    · obtain ⟨a, b⟩ := wkR_sz f (wo h p.t ++ [p]) (wo (p :: l) p.t)
      have h1 := wo_len h p.t
      have h2 := wo_self_len (l := l) (p := p)
      simp only [List.length_append, List.length_cons, List.length_nil] at a b ⊢
      omega
    · simp only; omega
theorem relR_sz (h l : List Pl) (t : Int) : (relR h l t).1.length + (relR h l t).2.1.length ≤ h.length + l.length ∧ (relR h l t).2.1.length ≤ l.length := by
  unfold relR
  split
  · simp only; omega
  · obtain ⟨a, b⟩ := wkR_sz (wo l t).length (wo h t) (wo l t)
    have h1 := wo_len h t
    have h2 := wo_len l t
    omega
theorem rel_sz {C : List Rc} {n : Nat} (h : Sz C n) (t : Int) : Sz (C.map (relC t)) n := by
  refine ⟨by rw [List.length_map]; exact h.len, fun e he => ?_, Nat.le_trans ?_ h.sum⟩
  · obtain ⟨e0, h0, rfl⟩ := List.mem_map.1 he
    have := h.each e0 h0
    have := (relR_sz e0.h e0.l t).1
    unfold relC; simp only; omega
  · clear h
    induction C with
    | nil => exact Nat.le_refl _
    | cons e C ih =>
      have := (relR_sz e.h e.l t).2
      simp only [sumC, List.map_cons, List.sum_cons] at ih ⊢
      unfold relC at ih ⊢
      simp only at ih ⊢
      omega
structure Bo (w : World) (B t tb n : Nat) (T : Tb) (L : List Rk) (S R : Nat → Prop) : Prop where
  run : ∃ l : List Lo, RunR l T ∧ l.length ≤ n
  tab : ∃ N, N ≤ n * 100 ∧ TabAt w S N n t T
  ref : RTab w R tb L
  sim : Sim (L.map Rk.co) T
  sz : Sz (L.map Rk.co) n
  far : ∀ x, S x → ¬ R x
  bs : ∀ x, S x → B ≤ x
  br : ∀ x, R x → B ≤ x
  hb : B ≤ w.heap.size
section
variable {w w1 w2 : World} {B t tb n : Nat} {T T' : Tb} {L L' : List Rk} {S R : Nat → Prop}
theorem Bo.inv (h : Bo w B t tb n T L S R) : Inv T := by obtain ⟨l, hl, _⟩ := h.run; exact inv_run hl
theorem Bo.fst (h : Bo w B t tb n T L S R) : Fst T := by obtain ⟨l, hl, _⟩ := h.run; exact (line_run hl).1
theorem Bo.later (h : Bo w B t tb n T L S R) (hb : Below w.heap.size w w1) : Bo w1 B t tb n T L S R := by
  obtain ⟨N, hN, ht⟩ := h.tab
  exact ⟨h.run, ⟨N, hN, ht.later hb⟩, h.ref.later hb, h.sim, h.sz, h.far, h.bs, h.br, Nat.le_trans h.hb hb.size⟩
theorem Bo.more (h : Bo w B t tb n T L S R) : Bo w B t tb (n + 1) T L S R := by
  obtain ⟨N, hN, ht⟩ := h.tab
  obtain ⟨l, hl, hn⟩ := h.run
  exact ⟨⟨l, hl, by omega⟩, ⟨N, by omega, ht.more (Nat.le_refl _) (Nat.le_succ _)⟩, h.ref, h.sim, h.sz.mono (Nat.le_succ _), h.far, h.bs, h.br, h.hb⟩
theorem Bo.llen (h : Bo w B t tb n T L S R) : L.length ≤ n := by have := h.sz.len; simpa using this
theorem Bo.eachl (h : Bo w B t tb n T L S R) : ∀ e ∈ L, e.h.length ≤ n ∧ e.l.length ≤ n := fun e he => by
  have := h.sz.each e.co (List.mem_map.2 ⟨e, he, rfl⟩)
  change e.h.length + e.l.length ≤ n at this
  omega
theorem Bo.mpos (h : Bo w B t tb n T L S R) : ∀ e ∈ L, ∀ p ∈ e.h, 0 < p.m := fun e he p hp => by
  have := h.sim.md e.co (List.mem_map.2 ⟨e, he, rfl⟩) p hp
  omega
theorem Bo.suml (h : Bo w B t tb n T L S R) : sumL L ≤ n := by
  have h1 := h.sz.sum
  unfold sumC at h1
  rw [List.map_map] at h1
  exact h1
theorem Bo.ask {o : Lo} {N : Nat} {S' : Nat → Prop} {e2 : Ending} (h : Bo w B t tb n T L S R) (hk : o.kd % 6 ≠ 4) (hN : N ≤ n * 100)
    (h1 : TabAt w1 S' (N + 1) (n + 1) t (askT T o.t o.k o.m)) (hf1 : Fr S w w1) (hs1 : ∀ x, S' x → S x ∨ w.heap.size ≤ x) (h2 : RAskOut w1 R tb L o.k o.t (mdOf o.m) e2 w2) :
    e2 = .returned (.bool (askB T o.t o.k o.m)) ∧ ∃ L' R', Bo w2 B t tb (n + 1) (askT T o.t o.k o.m) L' S' R' ∧ Below B w w2 := by
  obtain ⟨e0, y, he0, hyk, rfl, hy, R', hr, hf2, hr2⟩ := h2
  obtain ⟨l, hl, hn⟩ := h.run
  have hsim := sim_at (k := o.k) h.sim
  rw [← atT_co] at hsim
  obtain ⟨w0, w0'⟩ := sim_waits hsim h.inv o.t
  have hget : ((atT L o.k).map Rk.co)[atI L o.k]? = some e0.co := by rw [List.getElem?_map, he0]; rfl
  have hek : e0.co.k = o.k := by
    obtain ⟨e1, h3, h4⟩ := atT_get L o.k
    rw [he0] at h3
    injection h3 with h3
    rw [h3]; exact h4
  obtain ⟨s1, s2⟩ := sim_ask (m := o.m) (t := o.t) hsim hget hek
  rw [w0'] at hy ⊢
  have hyc : y.co = ⟨o.k, (rAsk e0.co.h e0.co.l o.t (mdOf o.m) (T.wt o.t).isSome).2.1, (rAsk e0.co.h e0.co.l o.t (mdOf o.m) (T.wt o.t).isSome).2.2⟩ := by
    have a1 : y.h = _ := congrArg Prod.fst hy
    have a2 : y.l = _ := congrArg Prod.snd hy
    unfold Rk.co
    rw [hyk, a1, a2]
  have hmap : ((atT L o.k).set (atI L o.k) y).map Rk.co = ((atT L o.k).map Rk.co).set (atI L o.k) y.co := List.map_set
  refine ⟨by rw [← s1]; rfl, (atT L o.k).set (atI L o.k) y, R', ⟨⟨l ++ [o], .snoc hl (by unfold StepR; rw [if_neg hk]), by simp; omega⟩, ⟨N + 1, by omega, h1.far hf2 (fun x hx hR => ?_)⟩, hr, by rw [hmap, hyc]; exact s2, ?_, fun x hx hR => ?_, fun x hx => (hs1 x hx).elim (h.bs x) (Nat.le_trans h.hb), fun x hx => (hr2 x hx).elim (h.br x) (fun h3 => Nat.le_trans h.hb (Nat.le_trans hf1.size h3)), Nat.le_trans h.hb (Nat.le_trans hf1.size hf2.size)⟩, (hf1.to_below h.bs h.hb).trans (hf2.to_below h.br (Nat.le_trans h.hb hf1.size))⟩
  · rcases hs1 x hx with h3 | h3
    · exact h.far x h3 hR
    · have := h.ref.old x hR; omega
  · rw [hmap, atT_co]
    refine set_sz (e := e0.co) (t := o.t) (md := mdOf o.m) (wq := (T.wt o.t).isSome) h.sz (by rw [← atT_co]; exact hget) hy
  · rcases hr2 x hR with h4 | h4
    · rcases hs1 x hx with h3 | h3
      · exact h.far x h3 h4
      · have := h.ref.old x h4; omega
    · have := h1.old x hx; omega
theorem Bo.rel {o : Lo} {N : Nat} {ks : List Ky} {got : List Int} {e2 : Ending} (h : Bo w B t tb n T L S R) (hk : o.kd % 6 = 4) (hN : N ≤ n * 100) (hn : n ≤ 100)
    (ho : OfL T o.t ks) (hg : relAll (T.stop o.t) o.t ks = (T', got)) (h1 : TabAt w1 S (N + got.length) n t T') (hf1 : Fr S w w1) (h2 : RRelOut w1 R tb L o.t e2 w2) :
    ∃ v L' R', e2 = .returned v ∧ w2.ownsRow w1.heap.size 29 1 v got.length (got.map (.int .u32)) ∧ Bo w2 B t tb (n + 1) T' L' S R' ∧ Below B w w2 ∧ Fr R w1 w2 ∧ got.length ≤ n := by
  obtain ⟨v, L', rfl, hco, hv, R', hr, hf2, hr2⟩ := h2
  obtain ⟨l, hl, hln⟩ := h.run
  obtain ⟨s1, s2⟩ := sim_rel h.sim h.inv ho hg
  have hgl := got_len hl (rel_out h.inv ho hg).1
  rw [← s2] at hv
  refine ⟨v, L', R', rfl, hv, ⟨⟨l ++ [o], .snoc hl (by unfold StepR; rw [if_pos hk]; exact ⟨ks, got, ho, hg⟩), by simp; omega⟩, ⟨N + got.length, by omega, (h1.more (Nat.le_refl _) (Nat.le_succ _)).far hf2 (fun x hx hR => h.far x hx hR)⟩, hr, by rw [hco]; exact s1, by rw [hco]; exact (rel_sz h.sz o.t).mono (Nat.le_succ _), fun x hx hR => ?_, h.bs, fun x hx => (hr2 x hx).elim (h.br x) (fun h3 => Nat.le_trans h.hb (Nat.le_trans hf1.size h3)), Nat.le_trans h.hb (Nat.le_trans hf1.size hf2.size)⟩, (hf1.to_below h.bs h.hb).trans (hf2.to_below h.br (Nat.le_trans h.hb hf1.size)), hf2, by omega⟩
  rcases hr2 x hR with h4 | h4
  · exact h.far x hx h4
  · have := h1.old x hx; omega
end
end Go.Proofs.Ytpndcpmfcajmdaa.Lock
namespace Go.Proofs.Ytpndcpmfcajmdaa.Lock
open Go.ChangeShapes Go.WideShapes Go.ChangeAt Go.RowKit Go.IntWalk Go.Proofs.Mem Law Go.Shelf Go.Proofs.Each
set_option linter.unusedVariables false
set_option linter.unusedSimpArgs false
def Bx (w w' : World) (B t tb n : Nat) : Prop := ∃ T L S R, Bo w' B t tb n T L S R ∧ Below B w w'
set_option maxRecDepth 100000 in
set_option maxHeartbeats 16000000 in
theorem does_rel (w : World) (B t tb n : Nat) (T : Tb) (L : List Rk) (S R : Nat → Prop) (kd ot : Int) (k : Ky) (om : Int) (h : Bo w B t tb n T L S R) (hok : (⟨kd, ot, k, om⟩ : Lo).Ok) (hn : n ≤ 100) (hk4 : kd % 6 = 4) :
    Calls Try.prog 12 #[.pointer (some ⟨t, 0, none⟩), .pointer (some ⟨tb, 0, none⟩), .agg #[.int .u8 kd, .int .u32 ot, .int .u8 k.k, .int .u32 k.a, .int .u32 k.b, .int .u8 om]] w fun e w' => e = .returned (.bool true) ∧ Bx w w' B t tb (n + 1) := by
  obtain ⟨ky, ka, kb⟩ := k
  have b1 := new_ (Below.refl w.heap.size w) (.cells #[.int .u8 kd, .int .u32 ot, .int .u8 ky, .int .u32 ka, .int .u32 kb, .int .u8 om] 33)
  have X := Box.new w #[.int .u8 kd, .int .u32 ot, .int .u8 ky, .int .u32 ka, .int .u32 kb, .int .u8 om] 33
  have hS0 : ¬ S w.heap.size := fun hs => by obtain ⟨N, _, ht⟩ := h.tab; have := ht.old _ hs; omega
  have hR0 : ¬ R w.heap.size := fun hr => by have := h.ref.old _ hr; omega
  have h1 := h.later b1
  have hb1 : Below B w _ := b1.mono h.hb
  obtain ⟨z, hz⟩ : ∃ z, w.heap.size = z := ⟨_, rfl⟩
  rw [hz] at X hS0 hR0 b1
  obtain ⟨w1, hw1⟩ : ∃ w1, w.alloc (.cells #[.int .u8 kd, .int .u32 ot, .int .u8 ky, .int .u32 ka, .int .u32 kb, .int .u8 om] 33) = w1 := ⟨_, rfl⟩
  rw [hw1] at X h1 hb1 b1
  have HX := Lib.hid X
  have HS0 := Lib.hid hS0
  have HR0 := Lib.hid hR0
  have HBO := Lib.hid h1
  have HB1 := Lib.hid hb1
  have HN := Lib.hid (show n ≤ 100 ∧ kd % 6 = 4 from ⟨hn, hk4⟩)
  have hrem : (kd.tmod 6 == 4) = true := by rw [kd_rem hok.1]; simpa using hk4
  have c0 : w1.cell? ⟨z, 0, none⟩ = some (.int .u8 kd) := X.cell 0
  have c1 : w1.cell? ⟨z, 1, none⟩ = some (.int .u32 ot) := X.cell 1
  obtain ⟨Nb, hNb, htb⟩ := h1.tab
  have HTB := Lib.hid hNb
  have CR := Lib.hid (release_any w1.drew S Nb n t T ot (htb.later (below_drewN (Below.refl _ _) 1)) hok.2.1 (by omega) (by omega))
  have CRR := Lib.hid (fun (W : World) (hW : RTab W R tb L) => rrelease_any W R tb L ot hW (by have := h1.llen; omega) (fun e he => by have := h1.eachl e he; omega))
  clear h hok hn hk4 hS0 hR0 h1 hb1 X b1 hNb htb
  go_enter Try.func12, Try.ntmps12
  go_upto_region 3 with fail
  go_region_with (first
    | (refine CR.out.mono ?_
       rintro er w3 ⟨v3, ks, T', got, rfl, ho3, hr3, hw3, ht3, hf3⟩
       have x3 : w3.cell? ⟨z, 1, none⟩ = some (.int .u32 ot) := (HX.out.drew.fr hf3 HS0.out).cell 1
       have RT3 := Lib.hid (show RTab w3 R tb L from (HBO.out.later (below_drewN (Below.refl _ _) 1)).ref.far hf3 (fun x hR hS => HBO.out.far x hS hR))
       have HF3 := Lib.hid hf3
       have HG3 := Lib.hid (show OfL T ot ks ∧ relAll (T.stop ot) ot ks = (T', got) from ⟨ho3, hr3⟩)
       have HT3 := Lib.hid ht3
       have HW3 := Lib.hid hw3
       clear ho3 hr3 hw3 ht3 hf3)
    | (refine (CRR.out _ RT3.out).mono ?_
       rintro er w4 hrr
       have HRR := Lib.hid ((HBO.out.later (below_drewN (Below.refl _ _) 1)).rel (w := w1.drew) (o := ⟨kd, ot, ⟨ky, ka, kb⟩, om⟩) HN.out.2 HTB.out HN.out.1 HG3.out.1 HG3.out.2 HT3.out HF3.out hrr)
       obtain ⟨v4, L4, R4, rfl, ho4, hbo4, hb4, hf4, hgl⟩ := HRR.out
       have HO3 := Lib.hid (show w4.ownsRow _ 29 1 v3 got.length (got.map (.int .u32)) from own_frS HW3.out hf4 (fun b hb hR => by have h5 : w1.heap.size ≤ b := (HW3.out.lt b hb).1; have h6 := HBO.out.ref.old b hR; omega))
       have HO4 := Lib.hid ho4
       have HBO4 := Lib.hid (show Bx w w4 B t tb (n + 1) from ⟨_, _, _, _, hbo4, HB1.out.drew.trans hb4⟩)
       have HGL := Lib.hid hgl
       clear hrr HRR ho4 hbo4 hb4 hf4 hgl)
    | (refine (sameWds_any _ _ _ _ got (IR.of_own HO3.out) (IR.of_own HO4.out) (by have := HGL.out; have := HN.out.1; omega)).mono ?_
       rintro er w5 ⟨rfl, hb5⟩
       have HE := Lib.hid (show Bx w w5 B t tb (n + 1) by obtain ⟨a1, a2, a3, a4, a5, a6⟩ := HBO4.out; exact ⟨a1, a2, a3, a4, a5.later hb5, a6.trans (hb5.mono a5.hb)⟩)
       clear hb5))
  all_goals go_wp2
  all_goals go_ret
  all_goals exact ⟨rfl, HE.out⟩
end Go.Proofs.Ytpndcpmfcajmdaa.Lock
namespace Go.Proofs.Ytpndcpmfcajmdaa.Lock
open Go.ChangeShapes Go.WideShapes Go.ChangeAt Go.RowKit Go.IntWalk Go.Proofs.Mem Law Go.Shelf Go.Proofs.Each
set_option linter.unusedVariables false
set_option linter.unusedSimpArgs false
set_option maxRecDepth 100000 in
set_option maxHeartbeats 16000000 in
theorem does_ask (w : World) (B t tb n : Nat) (T : Tb) (L : List Rk) (S R : Nat → Prop) (kd ot : Int) (k : Ky) (om : Int) (h : Bo w B t tb n T L S R) (hok : (⟨kd, ot, k, om⟩ : Lo).Ok) (hn : n ≤ 100) (hk4 : kd % 6 ≠ 4) (hk5 : kd % 6 ≠ 5) :
    Calls Try.prog 12 #[.pointer (some ⟨t, 0, none⟩), .pointer (some ⟨tb, 0, none⟩), .agg #[.int .u8 kd, .int .u32 ot, .int .u8 k.k, .int .u32 k.a, .int .u32 k.b, .int .u8 om]] w fun e w' => e = .returned (.bool true) ∧ Bx w w' B t tb (n + 1) := by
  obtain ⟨ky, ka, kb⟩ := k
  have b1 := new_ (Below.refl w.heap.size w) (.cells #[.int .u8 kd, .int .u32 ot, .int .u8 ky, .int .u32 ka, .int .u32 kb, .int .u8 om] 33)
  have X := Box.new w #[.int .u8 kd, .int .u32 ot, .int .u8 ky, .int .u32 ka, .int .u32 kb, .int .u8 om] 33
  have hS0 : ¬ S w.heap.size := fun hs => by obtain ⟨N, _, ht⟩ := h.tab; have := ht.old _ hs; omega
  have hR0 : ¬ R w.heap.size := fun hr => by have := h.ref.old _ hr; omega
  have h1 := h.later b1
  have hb1 : Below B w _ := b1.mono h.hb
  obtain ⟨z, hz⟩ : ∃ z, w.heap.size = z := ⟨_, rfl⟩
  rw [hz] at X hS0 hR0 b1
  obtain ⟨w1, hw1⟩ : ∃ w1, w.alloc (.cells #[.int .u8 kd, .int .u32 ot, .int .u8 ky, .int .u32 ka, .int .u32 kb, .int .u8 om] 33) = w1 := ⟨_, rfl⟩
  rw [hw1] at X h1 hb1 b1
  have HX := Lib.hid X
  have HS0 := Lib.hid hS0
  have HR0 := Lib.hid hR0
  have HBO := Lib.hid h1
  have HB1 := Lib.hid hb1
  have HN := Lib.hid (show n ≤ 100 ∧ kd % 6 ≠ 4 from ⟨hn, hk4⟩)
  have hrem : (kd.tmod 6 == 4) = false := by rw [kd_rem hok.1]; simpa using hk4
  have hrem5 : (kd.tmod 6 == 5) = false := by rw [kd_rem hok.1]; simpa using hk5
  have c0 : w1.cell? ⟨z, 0, none⟩ = some (.int .u8 kd) := X.cell 0
  have c1 : w1.cell? ⟨z, 1, none⟩ = some (.int .u32 ot) := X.cell 1
  have c2 : w1.cell? ⟨z, 2, none⟩ = some (.int .u8 ky) := X.cell 2
  have c3 : w1.cell? ⟨z, 3, none⟩ = some (.int .u32 ka) := X.cell 3
  have c4 : w1.cell? ⟨z, 4, none⟩ = some (.int .u32 kb) := X.cell 4
  have c5 : w1.cell? ⟨z, 5, none⟩ = some (.int .u8 om) := X.cell 5
  obtain ⟨Nb, hNb, htb⟩ := h1.tab
  have HTB := Lib.hid hNb
  have CA := Lib.hid (ask_any w1.drew S Nb n t T ot ⟨ky, ka, kb⟩ om (htb.later (below_drewN (Below.refl _ _) 1)) hok.2.1 hok.2.2.1 (by omega) (by omega))
  have CRA := Lib.hid (fun (W : World) (hW : RTab W R tb L) => rask_any W R tb L ⟨ky, ka, kb⟩ ot om (mdOf om) hW (by have := h1.llen; omega) (fun e he => by have := h1.eachl e he; omega) h1.mpos rfl)
  obtain ⟨qa, hqa⟩ : ∃ qa, askB T ot ⟨ky, ka, kb⟩ om = qa := ⟨_, rfl⟩
  have HQA := Lib.hid hqa
  rw [hqa] at CA
  have HF := Lib.hid (show ∀ (w3 : World) (S3 : Nat → Prop) (er : Ending) (w4 : World), TabAt w3 S3 (Nb + 1) (n + 1) t (askT T ot ⟨ky, ka, kb⟩ om) → Fr S w1.drew w3 → (∀ x, S3 x → S x ∨ w1.drew.heap.size ≤ x) → RAskOut w3 R tb L ⟨ky, ka, kb⟩ ot (mdOf om) er w4 → er = .returned (.bool qa) ∧ Bx w w4 B t tb (n + 1) from fun w3 S3 er w4 ht3 hf3 hs3 hrr => by
    obtain ⟨hv4, L4, R4, hbo4, hb4⟩ := (h1.later (below_drewN (Below.refl _ _) 1)).ask (w := w1.drew) (o := ⟨kd, ot, ⟨ky, ka, kb⟩, om⟩) hk4 hNb ht3 hf3 hs3 hrr
    exact ⟨by rw [← hqa]; exact hv4, _, _, _, _, hbo4, hb1.drew.trans hb4⟩)
  have HFX := Lib.hid (show ∀ (w3 : World) (er : Ending) (w4 : World), Box w3 z #[.int .u8 kd, .int .u32 ot, .int .u8 ky, .int .u32 ka, .int .u32 kb, .int .u8 om] 33 → RAskOut w3 R tb L ⟨ky, ka, kb⟩ ot (mdOf om) er w4 → Box w4 z #[.int .u8 kd, .int .u32 ot, .int .u8 ky, .int .u32 ka, .int .u32 kb, .int .u8 om] 33 from fun w3 er w4 hx hrr => by
    obtain ⟨e0, y, _, _, _, _, R', _, hf2, _⟩ := hrr
    exact hx.fr hf2 hR0)
  have hqq : (qa == qa) = true := by cases qa <;> rfl
  clear h hok hn hk4 hk5 hS0 hR0 h1 hb1 X b1 hNb htb hqa
  go_enter Try.func12, Try.ntmps12
  go_upto_region 8 with fail
  have SK := Lib.hid (show ∀ W : World, Box W z #[.int .u8 kd, .int .u32 ot, .int .u8 ky, .int .u32 ka, .int .u32 kb, .int .u8 om] 33 → (W.cell? ⟨z, 1, none⟩ = some (.int .u32 ot) ∧ W.cell? ⟨z, 2, none⟩ = some (.int .u8 ky) ∧ W.cell? ⟨z, 3, none⟩ = some (.int .u32 ka) ∧ W.cell? ⟨z, 4, none⟩ = some (.int .u32 kb) ∧ W.cell? ⟨z, 5, none⟩ = some (.int .u8 om)) from fun W hW => ⟨hW.cell 1, hW.cell 2, hW.cell 3, hW.cell 4, hW.cell 5⟩)
  go_region_held3 (fun w' => w'.cell? ⟨z, 1, none⟩ = some (.int .u32 ot) ∧ w'.cell? ⟨z, 2, none⟩ = some (.int .u8 ky) ∧ w'.cell? ⟨z, 3, none⟩ = some (.int .u32 ka) ∧ w'.cell? ⟨z, 4, none⟩ = some (.int .u32 kb) ∧ w'.cell? ⟨z, 5, none⟩ = some (.int .u8 om))
    (first | exact SK.out _ HX.out.drew | exact SK.out _ HX.out | (go_split_ands; exact SK.out _ BX3.out) | exact SK.out _ BX3.out | exact SK.out _ BX4.out | (go_split_ands; exact SK.out _ BX4.out))
    ((first
    | (go_at_call 19
       with_reducible refine CA.out.mono ?_
       rintro er w3 ⟨rfl, S3, ht3, hf3, hs3⟩
       have BX3 := Lib.hid (HX.out.drew.fr hf3 HS0.out)
       have RT3 := Lib.hid (show RTab w3 R tb L from (HBO.out.later (below_drewN (Below.refl _ _) 1)).ref.far hf3 (fun x hR hS => HBO.out.far x hS hR))
       have HF3 := Lib.hid hf3
       have HT3 := Lib.hid ht3
       have HS3 := Lib.hid hs3
       clear ht3 hf3 hs3)
    | (go_at_call 28
       with_reducible refine (CRA.out _ RT3.out).mono ?_
       rintro er w4 hrr
       have BX4 := Lib.hid (HFX.out _ _ _ BX3.out hrr)
       obtain ⟨hv5, he⟩ := HF.out _ _ _ _ HT3.out HF3.out HS3.out hrr
       subst hv5
       have HE := Lib.hid he
       clear hrr he)))
  all_goals go_wp2
  all_goals go_ret
  all_goals exact ⟨rfl, HE.out⟩
end Go.Proofs.Ytpndcpmfcajmdaa.Lock
namespace Go.Proofs.Ytpndcpmfcajmdaa.Lock
open Go.ChangeShapes Go.WideShapes Go.ChangeAt Go.RowKit Go.IntWalk Go.Proofs.Mem Law Go.Shelf Go.Proofs.Each
set_option linter.unusedVariables false
set_option linter.unusedSimpArgs false
set_option maxRecDepth 100000 in
set_option maxHeartbeats 16000000 in
theorem does_see (w : World) (B t tb n : Nat) (T : Tb) (L : List Rk) (S R : Nat → Prop) (kd ot : Int) (k : Ky) (om : Int) (h : Bo w B t tb n T L S R) (ht : U32 ot) (hkd : 0 ≤ kd ∧ kd ≤ 255) (hn : n ≤ 100) (hk5 : kd % 6 = 5) :
    Calls Try.prog 12 #[.pointer (some ⟨t, 0, none⟩), .pointer (some ⟨tb, 0, none⟩), .agg #[.int .u8 kd, .int .u32 ot, .int .u8 k.k, .int .u32 k.a, .int .u32 k.b, .int .u8 om]] w fun e w' => e = .returned (.bool true) ∧ Below w.heap.size w w' := by
  obtain ⟨ky, ka, kb⟩ := k
  have b1 := new_ (Below.refl w.heap.size w) (.cells #[.int .u8 kd, .int .u32 ot, .int .u8 ky, .int .u32 ka, .int .u32 kb, .int .u8 om] 33)
  have X := Box.new w #[.int .u8 kd, .int .u32 ot, .int .u8 ky, .int .u32 ka, .int .u32 kb, .int .u8 om] 33
  obtain ⟨z, hz⟩ : ∃ z, w.heap.size = z := ⟨_, rfl⟩
  have HZ := Lib.hid hz
  have h1 := h.later b1
  rw [hz] at X b1 ⊢
  obtain ⟨w1, hw1⟩ : ∃ w1, w.alloc (.cells #[.int .u8 kd, .int .u32 ot, .int .u8 ky, .int .u32 ka, .int .u32 kb, .int .u8 om] 33) = w1 := ⟨_, rfl⟩
  rw [hw1] at X b1 h1
  have HX := Lib.hid X
  have HB1 := Lib.hid b1
  have HZ1 := Lib.hid (show z ≤ w1.heap.size by have := b1.size; omega)
  have hrem : (kd.tmod 6 == 4) = false := by rw [kd_rem hkd]; simp; omega
  have hrem5 : (kd.tmod 6 == 5) = true := by rw [kd_rem hkd]; simp; omega
  have c0 : w1.cell? ⟨z, 0, none⟩ = some (.int .u8 kd) := X.cell 0
  have c1 : w1.cell? ⟨z, 1, none⟩ = some (.int .u32 ot) := X.cell 1
  have HXC := Lib.hid (fun (W : World) (hW : Below w1.heap.size w1 W) => (show W.cell? ⟨z, 1, none⟩ = some (.int .u32 ot) from (X.later hW).cell 1))
  obtain ⟨Nb, hNb, htb⟩ := h1.tab
  have hw := sim_waits h1.sim h1.inv ot
  have HSIM := Lib.hid h1.sim
  have CW := Lib.hid (fun (W : World) (hW : Below w1.heap.size w1 W) => waits_any W S Nb n t T ot (htb.later hW) ht)
  have CRW := Lib.hid (fun (W : World) (hW : Below w1.heap.size w1 W) => rwaits_any W R tb L ot (h1.ref.later hW) (by have := h1.llen; omega) (fun e he => by have := h1.eachl e he; omega))
  have CH := Lib.hid (fun (W : World) (hW : Below w1.heap.size w1 W) => tholds_any W S Nb n t T ot (htb.later hW) ht (by omega))
  have CRH := Lib.hid (fun (W : World) (hW : Below w1.heap.size w1 W) => rholds_any W R tb L ot (h1.ref.later hW) (by have := h1.llen; omega) (fun e he => by have := h1.eachl e he; omega))
  have HLL := Lib.hid (show (rHl L ot).length ≤ 100 from Nat.le_trans (List.length_filterMap_le _ _) (Nat.le_trans h1.llen hn))
  obtain ⟨hd, hhd⟩ : ∃ hd, (T.wt ot).getD zHd = hd := ⟨_, rfl⟩
  obtain ⟨q, hq⟩ : ∃ q, (T.wt ot).isSome = q := ⟨_, rfl⟩
  rw [hhd, hq] at hw
  have CW2 := Lib.hid (fun W hW => by have := CW.out W hW; rw [hhd, hq] at this; exact this)
  have CRW2 := Lib.hid (fun W hW => by have := CRW.out W hW; rw [hw.1, hw.2] at this; exact this)
  obtain ⟨xk, xa, xb, xm⟩ := hd
  have HB0 := Lib.hid (Below.refl w1.heap.size w1)
  clear h ht hkd hn hk5 h1 X b1 hNb htb hw hhd hq CW CRW
  unfold Hd.v at CW2 CRW2
  go_enter Try.func12, Try.ntmps12
  go_upto_region 5 with fail
  go_wp2_with fail
  (with_reducible refine (CW2.out _ HB0.out).mono ?_)
  rintro e w2 ⟨rfl, hb2⟩
  have X3 := Box.new w2 #[.int .u8 xk, .int .u32 xa, .int .u32 xb, .int .u8 xm] 45
  have hb3 : Below w1.heap.size w1 (w2.alloc (.cells #[.int .u8 xk, .int .u32 xa, .int .u32 xb, .int .u8 xm] 45)) := hb2.trans ((new_ (Below.refl w2.heap.size w2) _).mono hb2.size)
  have HB3 := Lib.hid hb3
  have HX3 := Lib.hid X3
  clear hb2 hb3 X3 CW2
  go_upto_region 6 with fail
  obtain ⟨w3, hw3⟩ : ∃ w3, (w2.alloc (.cells #[.int .u8 xk, .int .u32 xa, .int .u32 xb, .int .u8 xm] 45)) = w3 := ⟨_, rfl⟩
  rw [hw3] at HB3 HX3
  have HW3 := Lib.hid hw3
  simp only [hw3]
  clear hw3
  have y3 : w3.cell? ⟨z, 1, none⟩ = some (.int .u32 ot) := HXC.out w3 HB3.out
  go_wp2_with fail
  (with_reducible refine (CRW2.out _ HB3.out).mono ?_)
  rintro e w4 ⟨rfl, hb4⟩
  have X5 := Box.new w4 #[.int .u8 xk, .int .u32 xa, .int .u32 xb, .int .u8 xm] 45
  have hb5 := hb4.trans ((new_ (Below.refl w4.heap.size w4) (.cells #[.int .u8 xk, .int .u32 xa, .int .u32 xb, .int .u8 xm] 45)).mono hb4.size)
  have HB5 := Lib.hid (show Below w1.heap.size w1 (w4.alloc (.cells #[.int .u8 xk, .int .u32 xa, .int .u32 xb, .int .u8 xm] 45)) from HB3.out.trans (hb5.mono HB3.out.size))
  have HX35 := Lib.hid (HX3.out.later hb5)
  have HX5 := Lib.hid X5
  clear hb4 hb5 X5 CRW2
  go_upto_region 7 with fail
  obtain ⟨w5, hw5⟩ : ∃ w5, (w4.alloc (.cells #[.int .u8 xk, .int .u32 xa, .int .u32 xb, .int .u8 xm] 45)) = w5 := ⟨_, rfl⟩
  rw [hw5] at HB5 HX35 HX5
  simp only [hw5]
  clear hw5
  have SK := Lib.hid (show ∀ W : World, Below w5.heap.size w5 W → (W.cell? ⟨z, 1, none⟩ = some (.int .u32 ot) ∧ W.cell? ⟨w2.heap.size, 0, none⟩ = some (.int .u8 xk) ∧ W.cell? ⟨w2.heap.size, 1, none⟩ = some (.int .u32 xa) ∧ W.cell? ⟨w2.heap.size, 2, none⟩ = some (.int .u32 xb) ∧ W.cell? ⟨w2.heap.size, 3, none⟩ = some (.int .u8 xm) ∧ W.cell? ⟨w4.heap.size, 0, none⟩ = some (.int .u8 xk) ∧ W.cell? ⟨w4.heap.size, 1, none⟩ = some (.int .u32 xa) ∧ W.cell? ⟨w4.heap.size, 2, none⟩ = some (.int .u32 xb) ∧ W.cell? ⟨w4.heap.size, 3, none⟩ = some (.int .u8 xm)) from fun W hW => ⟨HXC.out W (HB5.out.trans (hW.mono HB5.out.size)), (HX35.out.later hW).cell 0, (HX35.out.later hW).cell 1, (HX35.out.later hW).cell 2, (HX35.out.later hW).cell 3, (HX5.out.later hW).cell 0, (HX5.out.later hW).cell 1, (HX5.out.later hW).cell 2, (HX5.out.later hW).cell 3⟩)
  have HD5 := Lib.hid (show Below w1.heap.size w1 w5.drew from HB5.out.drew)
  have HR5 := Lib.hid (show Below w5.heap.size w5 w5.drew from (Below.refl _ _).drew)
  have HF := Lib.hid (show ∀ (w6 w7 : World) (v6 v7 : Value) (ks : List Ky), OfL T ot ks → w6.ownsRow w5.drew.heap.size 45 4 v6 (hlist T ot ks).length ((hlist T ot ks).flatMap cHd) → w7.ownsRow w6.heap.size 45 4 v7 (rHl L ot).length ((rHl L ot).flatMap cHd) → Below w6.heap.size w6 w7 → Calls Try.prog 26 #[v6, v7] w7 fun e w' => e = .returned (.bool true) ∧ Below w7.heap.size w7 w' from fun w6 w7 v6 v7 ks ho h6 h7 hb => by
    have e := sim_holds HSIM.out ho
    rw [e] at h7
    exact sameHds_any w7 w7.heap.size v6 v7 _ (SS.of_own cHd_len (own_below h6 hb)) (SS.of_own cHd_len h7) (by have := HLL.out; rw [e] at this; omega))
  have hqq : (q == q) = true := by cases q <;> rfl
  obtain ⟨c7, c8, c9, c10, c11, c12, c13, c14, c15⟩ := SK.out w5 (Below.refl _ _)
  clear c0 c1 y3 HX HX3 HX35 HX5 HB3
  go_region_held3 (fun w' => w'.cell? ⟨z, 1, none⟩ = some (.int .u32 ot) ∧ w'.cell? ⟨w2.heap.size, 0, none⟩ = some (.int .u8 xk) ∧ w'.cell? ⟨w2.heap.size, 1, none⟩ = some (.int .u32 xa) ∧ w'.cell? ⟨w2.heap.size, 2, none⟩ = some (.int .u32 xb) ∧ w'.cell? ⟨w2.heap.size, 3, none⟩ = some (.int .u8 xm) ∧ w'.cell? ⟨w4.heap.size, 0, none⟩ = some (.int .u8 xk) ∧ w'.cell? ⟨w4.heap.size, 1, none⟩ = some (.int .u32 xa) ∧ w'.cell? ⟨w4.heap.size, 2, none⟩ = some (.int .u32 xb) ∧ w'.cell? ⟨w4.heap.size, 3, none⟩ = some (.int .u8 xm))
    (first | exact SK.out _ HR5.out | (go_split_ands; exact SK.out _ HR6.out) | exact SK.out _ HR6.out | (go_split_ands; exact SK.out _ HR7.out) | exact SK.out _ HR7.out | (go_split_ands; exact SK.out _ HR8.out) | exact SK.out _ HR8.out)
    ((first
    | (go_at_call 17
       with_reducible refine (CH.out _ HD5.out).mono ?_
       rintro er w6 ⟨v6, ks, rfl, ho6, hs6, hb6⟩
       have HO6 := Lib.hid ho6
       have HS6 := Lib.hid hs6
       have HR6 := Lib.hid (show Below w5.heap.size w5 w6 from HR5.out.trans hb6)
       have HD6 := Lib.hid (show Below w1.heap.size w1 w6 from HD5.out.trans (hb6.mono HD5.out.size))
       clear ho6 hs6 hb6)
    | (go_at_call 27
       with_reducible refine (CRH.out _ HD6.out).mono ?_
       rintro er w7 ⟨v7, rfl, hs7, hb7⟩
       have HC7 := Lib.hid (HF.out _ _ _ _ _ HO6.out HS6.out hs7 hb7)
       have HR7 := Lib.hid (show Below w5.heap.size w5 w7 from HR6.out.trans (hb7.mono HR6.out.size))
       have HD7 := Lib.hid (show Below w1.heap.size w1 w7 from HD6.out.trans (hb7.mono HD6.out.size))
       clear hs7 hb7)
    | (go_at_call 26
       with_reducible refine HC7.out.mono ?_
       rintro er w8 ⟨rfl, hb8⟩
       have HR8 := Lib.hid (show Below w5.heap.size w5 w8 from HR7.out.trans (hb8.mono HR7.out.size))
       have HE := Lib.hid (show Below z w w8 from HB1.out.trans ((HD7.out.trans (hb8.mono HD7.out.size)).mono HZ1.out))
       clear hb8)))
  all_goals go_wp2
  all_goals go_ret
  all_goals exact ⟨rfl, HE.out⟩
end Go.Proofs.Ytpndcpmfcajmdaa.Lock
namespace Go.Proofs.Ytpndcpmfcajmdaa.Lock
open Go.ChangeShapes Go.WideShapes Go.ChangeAt Go.RowKit Go.IntWalk Go.Proofs.Mem Law Go.Shelf Go.Proofs.Each
set_option linter.unusedVariables false
set_option linter.unusedSimpArgs false
theorem does_both (w : World) (B t tb n : Nat) (T : Tb) (L : List Rk) (S R : Nat → Prop) (kd ot : Int) (k : Ky) (om : Int) (h : Bo w B t tb n T L S R) (hok : (⟨kd, ot, k, om⟩ : Lo).Ok) (hn : n ≤ 100) :
    Calls Try.prog 12 #[.pointer (some ⟨t, 0, none⟩), .pointer (some ⟨tb, 0, none⟩), .agg #[.int .u8 kd, .int .u32 ot, .int .u8 k.k, .int .u32 k.a, .int .u32 k.b, .int .u8 om]] w fun e w' => e = .returned (.bool true) ∧ Bx w w' B t tb (n + 1) := by
  by_cases h4 : kd % 6 = 4
  · exact does_rel w B t tb n T L S R kd ot k om h hok hn h4
  · by_cases h5 : kd % 6 = 5
    · refine (does_see w B t tb n T L S R kd ot k om h hok.2.1 hok.1 hn h5).mono ?_
      rintro e w' ⟨rfl, hb⟩
      exact ⟨rfl, _, _, _, _, (h.later hb).more, hb.mono h.hb⟩
    · exact does_ask w B t tb n T L S R kd ot k om h hok hn h4 h5
theorem bo_edges (w : World) (B t tb n : Nat) (T : Tb) (L : List Rk) (S R : Nat → Prop) (h : Bo w B t tb n T L S R) (hn : n ≤ 100) :
    Calls Try.prog 14 #[.pointer (some ⟨t, 0, none⟩)] w fun e w' => ∃ v, e = .returned v ∧ w'.ownsRow w.heap.size 51 2 v (rEds (L.map Rk.co) (whoL (L.map Rk.co))).length ((rEds (L.map Rk.co) (whoL (L.map Rk.co))).flatMap cEd) ∧ (rEds (L.map Rk.co) (whoL (L.map Rk.co))).length ≤ 50000000000 ∧ Below w.heap.size w w' := by
  obtain ⟨N, hN, ht⟩ := h.tab
  refine (edges_any w S N n t T ht h.inv h.fst (by omega) (by omega)).mono ?_
  rintro e w' ⟨v, fr, rfl, he, hl, ho, hb⟩
  rw [sim_eds h.sim h.inv he]
  exact ⟨v, rfl, ho, hl, hb⟩
theorem bo_redges (w : World) (B t tb n : Nat) (T : Tb) (L : List Rk) (S R : Nat → Prop) (h : Bo w B t tb n T L S R) (hn : n ≤ 100) :
    Calls Try.prog 15 #[.pointer (some ⟨tb, 0, none⟩)] w fun e w' => ∃ v, e = .returned v ∧ w'.ownsRow w.heap.size 51 2 v (rEds (L.map Rk.co) (whoL (L.map Rk.co))).length ((rEds (L.map Rk.co) (whoL (L.map Rk.co))).flatMap cEd) ∧ Below w.heap.size w w' :=
  redges_any w R tb L h.ref (by have := h.llen; omega) (fun e he => by have := h.eachl e he; omega) (by have := h.suml; omega)
end Go.Proofs.Ytpndcpmfcajmdaa.Lock
