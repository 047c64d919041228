import Derived.Test.YtpndcpmfcajmdaaLm1
import Derived.Test.YtpndcpmfcajmdaaLm4
import Derived.Test.YtpndcpmfcajmdaaLm6
import Derived.Deep.DeepCutAuto
namespace Go.Proofs.Ytpndcpmfcajmdaa.Lock
open Go.ChangeShapes Go.WideShapes Go.ChangeAt Go.RowKit Go.IntWalk Go.Proofs.Mem Law Go.Shelf Go.Proofs.Each
set_option linter.unusedVariables false
set_option linter.unusedSimpArgs false
def AhIs (e : En) (t m : Int) (x : Int) : Prop := (∃ md, e.hv x = some md ∧ x ≠ t ∧ tog md m = false) ∨ ∃ p ∈ e.line.takeWhile (fun q => !isT t q), p.t = x
structure AhR (e : En) (t m : Int) (l : List Int) : Prop where
  srt : l.Pairwise (· < ·)
  mem : ∀ x, x ∈ l ↔ AhIs e t m x
structure EdR (T : Tb) (fr : List Int) (ah : Int → List Int) : Prop where
  srt : fr.Pairwise (· < ·)
  mem : ∀ x, x ∈ fr ↔ (T.wt x).isSome
  ah : ∀ x k m, T.wt x = some (hdOf k m) → AhR (T.ent k) x m (ah x)
def edL (fr : List Int) (ah : Int → List Int) : List (Int × Int) := fr.flatMap fun x => (ah x).map fun y => (x, y)
theorem edL_mem {fr : List Int} {ah : Int → List Int} {x y : Int} : (x, y) ∈ edL fr ah ↔ x ∈ fr ∧ y ∈ ah x := by
  unfold edL
  simp only [List.mem_flatMap, List.mem_map, Prod.mk.injEq]
  constructor
  · rintro ⟨a, h1, b, h2, rfl, rfl⟩; exact ⟨h1, h2⟩
  · rintro ⟨h1, h2⟩; exact ⟨x, h1, y, h2, rfl, rfl⟩
theorem isT_is {t : Int} {p : Pl} : isT t p = true ↔ p.t = t := by unfold isT; simp
theorem mem_tw {q : Pl → Bool} {p : Pl} : ∀ {l : List Pl}, p ∈ l.takeWhile q → q p = true
  | [], h => by cases h
  | a :: l, h => by
    rw [List.takeWhile_cons] at h
    split at h
    · rename_i ha
      rcases List.mem_cons.1 h with e | e
      · rw [e]; exact ha
      · exact mem_tw e
    · cases h
theorem edR_irr {T : Tb} {fr : List Int} {ah : Int → List Int} (hi : Inv T) (h : EdR T fr ah) {x y : Int} (hm : (x, y) ∈ edL fr ah) : x ≠ y := by
  obtain ⟨h1, h2⟩ := edL_mem.1 hm
  obtain ⟨hd, hhd⟩ := Option.isSome_iff_exists.1 ((h.mem x).1 h1)
  obtain ⟨k, m, rfl, _⟩ := (hi.wt x hd).1 hhd
  rcases ((h.ah x k m hhd).mem y).1 h2 with ⟨md, _, hne, _⟩ | ⟨p, hp, hpt⟩
  · exact fun e => hne e.symm
  · intro e
    have := mem_tw hp
    rw [Bool.not_eq_true', ← Bool.not_eq_true, isT_is] at this
    exact this (hpt.trans e.symm)
theorem edR_waits {T : Tb} {fr : List Int} {ah : Int → List Int} (h : EdR T fr ah) {x y : Int} (hm : (x, y) ∈ edL fr ah) : (T.wt x).isSome := (h.mem x).1 (edL_mem.1 hm).1
theorem edR_none {T : Tb} {fr : List Int} {ah : Int → List Int} (h : EdR T fr ah) (hn : ∀ x, T.wt x = none) : edL fr ah = [] := by
  have : fr = [] := List.eq_nil_iff_forall_not_mem.2 fun x hx => by have := (h.mem x).1 hx; rw [hn x] at this; cases this
  rw [this]; rfl
def Fst (T : Tb) : Prop := ∀ k p l, (T.ent k).line = p :: l → fit (T.ent k).hv p.t p.m = false
open Classical in
theorem fit_no {h : Int → Option Int} {t m : Int} (hf : fit h t m = false) : ∃ x md, h x = some md ∧ x ≠ t ∧ tog md m = false := by
  unfold fit at hf
  have := of_decide_eq_false hf
  simp only [not_forall, not_or] at this
  obtain ⟨x, md, h1, h2, h3⟩ := this
  exact ⟨x, md, h1, h2, by simpa using h3⟩
theorem edR_some {T : Tb} {fr : List Int} {ah : Int → List Int} (hi : Inv T) (hf : Fst T) (h : EdR T fr ah) {x : Int} (hx : (T.wt x).isSome) : ∃ y, (x, y) ∈ edL fr ah := by
  obtain ⟨hd, hhd⟩ := Option.isSome_iff_exists.1 hx
  obtain ⟨k, m, rfl, hl⟩ := (hi.wt x hd).1 hhd
  have h1 := (h.mem x).2 hx
  suffices hs : ∃ y, AhIs (T.ent k) x m y by
    obtain ⟨y, hy⟩ := hs
    exact ⟨y, edL_mem.2 ⟨h1, ((h.ah x k m hhd).mem y).2 hy⟩⟩
  match he : (T.ent k).line, hl with
  | p :: l, hl =>
    by_cases hp : p.t = x
    · have hpm : p = ⟨x, m⟩ := by
        rcases List.mem_cons.1 hl with e | e
        · exact e.symm
        · have hn := hi.nd k
          rw [he, List.map_cons, List.nodup_cons] at hn
          exact absurd (List.mem_map.2 ⟨_, e, hp.symm⟩) hn.1
      have := hf k p l he
      rw [hpm] at this
      obtain ⟨y, md, a, b, c⟩ := fit_no this
      exact ⟨y, .inl ⟨md, a, b, c⟩⟩
    · refine ⟨p.t, .inr ⟨p, ?_, rfl⟩⟩
      rw [he, List.takeWhile_cons, if_pos]
      · exact List.mem_cons_self ..
      · rw [Bool.not_eq_true', ← Bool.not_eq_true, isT_is]; exact hp
theorem tog_two {m : Int} : tog 2 m = false := by
  unfold tog; simp
theorem fst_ask {T : Tb} {t : Int} {k : Ky} {m : Int} (hi : Inv T) (hf : Fst T) : Fst (askT T t k m) := by
  unfold askT
  have hm := mdOf_is m
  generalize mdOf m = md at hm ⊢
  split
  · exact hf
  · rename_i hh
    split
    · exact hf
    · split
      · rename_i hg
        rw [Bool.and_eq_true] at hg
        intro y p l hl
        rw [set_ent] at hl ⊢
        split at hl
        · rename_i ey
          rw [if_pos ey]
          change (T.ent k).line = p :: l at hl
          obtain ⟨x, mx, h1, h2, h3⟩ := fit_no (hf k p l hl)
          have hs : ((T.ent k).hv t).isSome := by
            have := hg.2
            rw [Bool.or_eq_true] at this
            rcases this with e | e
            · exact e
            · change (T.ent k).line.isEmpty = true at e
              rw [hl] at e; cases e
          by_cases hx : x = t
          · subst hx
            obtain ⟨mt, hmt⟩ := Option.isSome_iff_exists.1 hs
            have hmd : md = 2 := by
              have h4 := hi.md k x mt hmt
              change ¬ hasE ((T.ent k).hv x) md = true at hh
              rw [hmt] at hh
              change ¬ (decide (mt = 2) || decide (mt = md)) = true at hh
              simp only [Bool.or_eq_true, decide_eq_true_eq, not_or] at hh
              omega
            exact fit_false (x := x) (md := 2) (by show fput (T.at_ k).hv x md x = some 2; rw [fput_same, hmd]) h2 tog_two
          · exact fit_false (x := x) (md := mx) (by show fput (T.at_ k).hv t md x = some mx; rw [fput_other _ _ hx]; exact h1) h2 h3
        · rename_i ey
          rw [if_neg ey]
          exact hf y p l hl
      · rename_i hg
        intro y p l hl
        rw [wait_ent, set_ent] at hl ⊢
        split at hl
        · rename_i ey
          rw [if_pos ey]
          show fit (T.ent k).hv p.t p.m = false
          change insP (T.ent k).hv ⟨t, md⟩ (T.ent k).line = p :: l at hl
          change ¬ (fit (T.ent k).hv t md && (((T.ent k).hv t).isSome || (T.ent k).line.isEmpty)) = true at hg
          have hkey : p = ⟨t, md⟩ → ((((T.ent k).hv t).isSome || (T.ent k).line.isEmpty) = true) → fit (T.ent k).hv p.t p.m = false := fun e h5 => by
            rw [h5, Bool.and_true] at hg
            rw [e]; simpa using hg
          match he : (T.ent k).line with
          | [] =>
            rw [he] at hl
            have : p = ⟨t, md⟩ := by
              have h6 := insP_perm (T.ent k).hv ⟨t, md⟩ []
              rw [hl] at h6
              exact List.mem_singleton.1 (h6.mem_iff.1 (List.mem_cons_self ..))
            exact hkey this (by rw [he]; simp)
          | q :: r =>
            have hq := hf k q r he
            rw [he] at hl
            unfold insP at hl
            split at hl
            · rename_i hs
              by_cases hqs : ((T.ent k).hv q.t).isSome = true
              · rw [List.takeWhile_cons, if_pos hqs] at hl
                injection hl with hl _
                rw [← hl]; exact hq
              · rw [List.takeWhile_cons, if_neg hqs] at hl
                injection hl with hl _
                exact hkey hl.symm (by rw [show ((T.ent k).hv t).isSome = true from hs]; rfl)
            · injection hl with hl _
              rw [← hl]; exact hq
        · rename_i ey
          rw [if_neg ey]
          exact hf y p l hl
theorem wake_first : ∀ (l : List Pl) (h : Int → Option Int) (p : Pl) (r : List Pl), (wake h l).2.1 = p :: r → fit (wake h l).1 p.t p.m = false
  | [], h, p, r, e => by rw [wake_nil] at e; cases e
  | q :: l, h, p, r, e => by
    cases hf : fit h q.t q.m with
    | true => rw [wake_yes hf] at e ⊢; exact wake_first l _ p r e
    | false =>
      rw [wake_no hf] at e ⊢
      injection e with e _
      rw [← e]; exact hf
def Nm (T : Tb) (S : Int → Prop) : Prop := ∀ k x, T.has k x = true → S x
theorem has_iff {e : En} {x : Int} : e.has x = true ↔ (∃ m, e.hv x = some m) ∨ ∃ m, (⟨x, m⟩ : Pl) ∈ e.line := by
  unfold En.has
  rw [Bool.or_eq_true, Option.isSome_iff_exists, List.any_eq_true]
  refine or_congr Iff.rfl ⟨?_, ?_⟩
  · rintro ⟨p, h1, h2⟩
    have := isT_is.1 h2
    obtain ⟨a, b⟩ := p
    change a = x at this
    subst this
    exact ⟨b, h1⟩
  · rintro ⟨m, h1⟩; exact ⟨_, h1, isT_is.2 rfl⟩
theorem rel_hasP {e : En} {t x : Int} (h : (e.rel t).1.has x = true) : e.has x = true ∧ x ≠ t := by
  obtain ⟨pre, hw⟩ := wake_form (e.cut t).line (e.cut t).hv
  have hcl : ∀ p : Pl, p ∈ (e.cut t).line → p ∈ e.line ∧ p.t ≠ t := fun p hp => by
    unfold En.cut at hp
    simpa [List.mem_filter, isT] using hp
  have hpre : ∀ p : Pl, p ∈ pre → p ∈ e.line ∧ p.t ≠ t := fun p hp => hcl p (by rw [hw.sp]; exact List.mem_append_left _ hp)
  rcases has_iff.1 h with ⟨m, h1⟩ | ⟨m, h1⟩
  · rcases hw.hv x m h1 with h2 | h2
    · change fdel e.hv t x = some m at h2
      unfold fdel at h2
      split at h2
      · cases h2
      · rename_i hne; exact ⟨has_iff.2 (.inl ⟨m, h2⟩), hne⟩
    · obtain ⟨a, b⟩ := hpre _ h2; exact ⟨has_iff.2 (.inr ⟨m, a⟩), b⟩
  · obtain ⟨a, b⟩ := hcl ⟨x, m⟩ (by rw [hw.sp]; exact List.mem_append_right _ h1)
    exact ⟨has_iff.2 (.inr ⟨m, a⟩), b⟩
theorem rel_ent {T T' : Tb} {t : Int} {ks : List Ky} {got : List Int} (ho : OfL T t ks) (hr : relAll (T.stop t) t ks = (T', got)) : ∀ y, T'.ent y = if y ∈ ks then ((T.ent y).rel t).1 else T.ent y := fun y => by
  obtain ⟨h1, _, _⟩ := relAll_form (T.stop t) t (klt_nodup ho.srt)
  rw [hr] at h1
  simp only at h1
  rw [h1]; rfl
theorem fst_rel {T T' : Tb} {t : Int} {ks : List Ky} {got : List Int} (hf : Fst T) (ho : OfL T t ks) (hr : relAll (T.stop t) t ks = (T', got)) : Fst T' := fun y p l hl => by
  rw [rel_ent ho hr] at hl ⊢
  split at hl
  · rename_i hy; rw [if_pos hy]; exact wake_first _ _ p l hl
  · rename_i hy; rw [if_neg hy]; exact hf y p l hl
theorem nm_rel {T T' : Tb} {t : Int} {ks : List Ky} {got : List Int} {S : Int → Prop} (hn : Nm T S) (ho : OfL T t ks) (hr : relAll (T.stop t) t ks = (T', got)) : Nm T' (fun x => S x ∧ x ≠ t) := fun y x hx => by
  unfold Tb.has at hx
  rw [rel_ent ho hr] at hx
  split at hx
  · rename_i hy; obtain ⟨a, b⟩ := rel_hasP hx; exact ⟨hn y x a, b⟩
  · rename_i hy
    refine ⟨hn y x hx, fun e => hy ((ho.mem y).2 ?_)⟩
    rw [e] at hx; exact hx
theorem nm_ask {T : Tb} {t : Int} {k : Ky} {m : Int} {S : Int → Prop} (hn : Nm T S) (ht : S t) : Nm (askT T t k m) S := by
  unfold askT
  split
  · exact hn
  · split
    · exact hn
    · split
      · intro y x hx
        unfold Tb.has at hx
        rw [set_ent] at hx
        split at hx
        · rcases has_iff.1 hx with ⟨a, h1⟩ | ⟨a, h1⟩
          · change fput (T.at_ k).hv t _ x = some a at h1
            unfold fput at h1
            split at h1
            · rename_i e; rw [e]; exact ht
            · exact hn k x (has_iff.2 (.inl ⟨a, h1⟩))
          · exact hn k x (has_iff.2 (.inr ⟨a, h1⟩))
        · exact hn y x hx
      · intro y x hx
        unfold Tb.has at hx
        rw [wait_ent, set_ent] at hx
        split at hx
        · rcases has_iff.1 hx with ⟨a, h1⟩ | ⟨a, h1⟩
          · exact hn k x (has_iff.2 (.inl ⟨a, h1⟩))
          · rcases List.mem_cons.1 ((insP_perm _ _ _).mem_iff.1 h1) with e | e
            · injection e with e _; rw [e]; exact ht
            · exact hn k x (has_iff.2 (.inr ⟨a, e⟩))
        · exact hn y x hx
theorem line_run {l : List Lo} {T : Tb} (h : RunR l T) : Fst T ∧ Nm T (fun x => x ∈ whoOf l) := by
  induction h with
  | nil => exact ⟨fun k p l e => (by cases e), fun k x e => (by cases e)⟩
  | snoc hr hs ih =>
    rename_i l T T' o
    have hin : ∀ x, x ∈ whoOf l → x ∈ whoOf (l ++ [o]) := fun x hx => by rw [whoOf_snoc, into_mem]; exact .inr hx
    have hself : o.t ∈ whoOf (l ++ [o]) := by rw [whoOf_snoc, into_mem]; exact .inl rfl
    unfold StepR at hs
    split at hs
    · obtain ⟨ks, got, h1, h2⟩ := hs
      exact ⟨fst_rel ih.1 h1 h2, fun k x hx => hin x (nm_rel ih.2 h1 h2 k x hx).1⟩
    · rw [hs]
      exact ⟨fst_ask (inv_run hr) ih.1, nm_ask (fun k x hx => hin x (ih.2 k x hx)) hself⟩
theorem nm_none {T : Tb} (hi : Inv T) (hn : Nm T (fun _ => False)) : ∀ x, T.wt x = none := fun x => by
  match h : T.wt x with
  | none => rfl
  | some hd =>
    obtain ⟨k, m, _, hl⟩ := (hi.wt x hd).1 h
    exact (hn k x (has_iff.2 (.inr ⟨m, hl⟩))).elim
end Go.Proofs.Ytpndcpmfcajmdaa.Lock
namespace Go.Proofs.Ytpndcpmfcajmdaa.Lock
open Go.ChangeShapes Go.WideShapes Go.ChangeAt Go.RowKit Go.IntWalk Go.Proofs.Mem Law Go.Shelf Go.Proofs.Each
set_option linter.unusedVariables false
set_option linter.unusedSimpArgs false
theorem fr_base {B : Nat} {w w' : World} (h : Below B w w') : Fr (fun k => B ≤ k) w w' := ⟨h.os, h.tape, h.output, h.size, fun k hk hn => h.block k (by omega)⟩
structure HGat (h : Int → Option Int) (t m : Int) (left : Int → Bool) (xs : List Int) : Prop where
  mem : ∀ x, x ∈ xs ↔ (left x = false ∧ ∃ md, h x = some md ∧ x ≠ t ∧ tog md m = false)
theorem HGat.skip {h : Int → Option Int} {t m : Int} {left : Int → Bool} {xs : List Int} {x md : Int} (H : HGat h t m left xs) (hx : h x = some md) (hn : x = t ∨ tog md m = true) : HGat h t m (but left x) xs := by
  refine ⟨fun y => ?_⟩
  rw [H.mem y]
  by_cases e : y = x
  · subst e
    constructor
    · rintro ⟨_, md', h1, h2, h3⟩
      rw [hx] at h1; injection h1 with h1; subst h1
      rcases hn with h4 | h4
      · exact absurd h4 h2
      · rw [h4] at h3; cases h3
    · rintro ⟨_, md', h1, h2, h3⟩
      rw [hx] at h1; injection h1 with h1; subst h1
      rcases hn with h4 | h4
      · exact absurd h4 h2
      · rw [h4] at h3; cases h3
  · unfold but; simp [e]
theorem HGat.take {h : Int → Option Int} {t m : Int} {left : Int → Bool} {xs : List Int} {x md : Int} (H : HGat h t m left xs) (hx : h x = some md) (h1 : x ≠ t) (h2 : tog md m = false) : HGat h t m (but left x) (xs ++ [x]) := by
  refine ⟨fun y => ?_⟩
  rw [List.mem_append, List.mem_singleton, H.mem y]
  by_cases e : y = x
  · subst e
    constructor
    · intro _; exact ⟨by unfold but; simp, md, hx, h1, h2⟩
    · intro _; exact .inr rfl
  · unfold but; simp [e]
theorem cpt_of {e : En} {t m : Int} {ys : List Int} {d : Array Int} {n : Nat} (hy : ∀ x, x ∈ ys ↔ AhIs e t m x) (h1 : Sort.PermIn 0 n ys.toArray d) (h2 : Sort.SortedIn Srt.lt 0 n d) (hn : ys.length = n) : AhR e t m (Srt.cptTo d n) := by
  obtain ⟨r1, r2, r3⟩ := perm_sorted h1 h2 hn
  refine ⟨(Srt.cptTo_sorted n r3).1, fun x => ?_⟩
  rw [Srt.cptTo_mem, ← hy x, ← r1.mem_iff]
  constructor
  · rintro ⟨i, hi, rfl⟩
    rw [getElem!_pos d i (by omega)]
    exact Array.mem_toList_iff.2 (Array.getElem_mem _)
  · intro hx
    obtain ⟨i, hi, he⟩ := List.getElem_of_mem hx
    rw [Array.length_toList] at hi
    exact ⟨i, by omega, by rw [getElem!_pos d i hi]; simpa using he⟩
theorem tw_take {t : Int} : ∀ {l : List Pl} {i : Nat}, (∀ p ∈ l.take i, p.t ≠ t) → (i = l.length ∨ ∃ p, l[i]? = some p ∧ p.t = t) → l.takeWhile (fun q => !isT t q) = l.take i
  | [], i, _, _ => by simp
  | a :: l, 0, _, h2 => by
    rcases h2 with h2 | ⟨p, h2, h3⟩
    · cases h2
    · simp only [List.getElem?_cons_zero, Option.some.injEq] at h2
      subst h2
      rw [List.takeWhile_cons, if_neg (by rw [isT_is.2 h3]; decide)]
      rfl
  | a :: l, i + 1, h1, h2 => by
    have ha : a.t ≠ t := h1 a (by simp)
    rw [List.takeWhile_cons, if_pos (by rw [Bool.not_eq_true', ← Bool.not_eq_true, isT_is]; exact ha), List.take_succ_cons]
    rw [tw_take (l := l) (i := i) (fun p hp => h1 p (by rw [List.take_succ_cons]; exact List.mem_cons_of_mem _ hp)) (h2.imp (fun h => by simpa using h) (fun ⟨p, h3, h4⟩ => ⟨p, by simpa using h3, h4⟩))]
theorem ahIs_of {en : En} {t md : Int} {xs : List Int} {i : Nat} (h1 : ∀ x, x ∈ xs ↔ ∃ mx, en.hv x = some mx ∧ x ≠ t ∧ tog mx md = false) (h2 : ∀ p ∈ en.line.take i, p.t ≠ t) (h3 : i = en.line.length ∨ ∃ p, en.line[i]? = some p ∧ p.t = t) :
    ∀ x, x ∈ xs ++ (en.line.take i).map (·.t) ↔ AhIs en t md x := fun x => by
  unfold AhIs
  rw [List.mem_append, h1 x, tw_take h2 h3, List.mem_map]
theorem slice_is {w : World} {B n : Nat} {e : TypeId} {v : Value} {xs : List Value} (h : w.ownsRow B e 1 v n xs) (hn : 0 < n) : ∃ g cap, v = .slice (some ⟨g, 0, none⟩) n cap := by
  rcases h.2 with ⟨_, h0⟩ | ⟨g, cap, cur, rfl, _⟩
  · omega
  · exact ⟨g, cap, rfl⟩
def AhOut (w : World) (en : En) (t md : Int) (e : Ending) (w' : World) : Prop := ∃ (v : Value) (l : List Int), e = .returned v ∧ AhR en t md l ∧ l.length ≤ 1000000 ∧ w'.ownsRow w.heap.size 29 1 v l.length (l.map (.int .u32)) ∧ Below w.heap.size w w'
set_option maxRecDepth 100000 in
set_option maxHeartbeats 8000000 in
theorem ahead_any (w : World) (e m n : Nat) (lv : Value) (en : En) (t md : Int) (hb : Box w e #[.map (some m), lv] 86) (hf : FM KU VM w m n en.hv) (hn : n ≤ 200000) (hl : SS cPl 2 w w.heap.size lv en.line) (hll : en.line.length ≤ 200000) (hx : ∃ x, AhIs en t md x) :
    Calls Try.prog 31 #[.pointer (some ⟨e, 0, none⟩), .agg #[.int .u32 t, .int .u8 md]] w (AhOut w en t md) := by
  obtain ⟨i0, hi0, hz0, hz1, hz2⟩ := info_parts u32_iz
  have HU := Lib.hid (holders_u32 hf)
  have he := hb.lt
  have hml := hf.lt
  have b1 := new_ (Below.refl w.heap.size w) (.cells #[.int .u32 t, .int .u8 md] 72)
  obtain ⟨x3, hx3⟩ : ∃ x3, w.heap.size = x3 := ⟨_, rfl⟩
  have X3 := Box.new w #[.int .u32 t, .int .u8 md] 72
  have hs1 : (w.alloc (.cells #[.int .u32 t, .int .u8 md] 72)).heap.size = x3 + 1 := by rw [← hx3]; simp
  have hl1 := (hl.below b1)
  have hb1 := hb.later b1
  have hf1 := hf.later b1
  obtain ⟨w1, hw1⟩ : ∃ w1, w.alloc (.cells #[.int .u32 t, .int .u8 md] 72) = w1 := ⟨_, rfl⟩
  rw [hx3] at X3 b1 he hml hl1
  rw [hw1] at X3 b1 hs1 hl1 hb1 hf1
  unfold AhOut
  rw [hx3]
  obtain ⟨Al, cl, hlv, _, hlm⟩ := hl.form
  obtain ⟨nl, hnl⟩ : ∃ nl, en.line.length = nl := ⟨_, rfl⟩
  rw [hnl] at hlv hll
  have c0 : w1.cell? ⟨e, 0, none⟩ = some (.map (some m)) := by rw [hb1.cell 0]; rfl
  have HBX := Lib.hid hb1
  have HX := Lib.hid X3
  have HB := Lib.hid b1
  have HM := Lib.hid hf1
  have HSS := Lib.hid hl1
  have HNL := Lib.hid hnl
  have HEX := Lib.hid hx
  have HS1 := Lib.hid hs1
  have LTS := Lib.hid (And.intro he hml)
  have bl : (nl : Int) ≤ 200000 := by omega
  clear hb hf hl hx b1 X3 hs1 hl1 hb1 hf1 he hml hll hnl hlm
  subst hlv
  go_enter Try.func31, Try.ntmps31
  go_upto_region 2 with fail
  clear hw1 hx3
  go_wp2_with (first
    | (at_range; refine wpList_range_fm (E := KU) (V := VM) rfl _ _ rfl _ Try.underlying83 rfl HM.out ?_; intro w2 cnt hfr hcnt hbw hsz))
  rw [HS1.out] at hfr hbw hsz ⊢
  have HB2 := Lib.hid (show Below x3 w w2 from HB.out.trans (hbw.mono (by omega)))
  have HX2 := Lib.hid (HX.out.below hbw (by omega))
  have HFR := Lib.hid hfr
  have HCN := Lib.hid (show ([] : List Int).length + cnt ≤ n by simp; omega)
  have HG0 : Hid (HGat en.hv t md (fun x => (en.hv x).isSome) []) := Lib.hid ⟨fun x => ⟨fun h => (by cases h), fun ⟨h1, y, h2, _⟩ => (by rw [h2] at h1; cases h1)⟩⟩
  have HZ2 := Lib.hid (show x3 + 2 ≤ w2.heap.size by omega)
  have HBW := Lib.hid (show Below x3 w1 w2 from hbw.mono (by omega))
  clear hbw hfr hsz hcnt c0
  go_frame
  go_loopw [5, 6, 7] (fun s5 _ _ wr => ∃ (left : Int → Bool) (cnt : Nat) (A : Option Addr) (n5 c5 : Nat) (xs : List Int), s5 = .slice A n5 c5 ∧ Hid (n5 = xs.length) ∧ Hid (FR KU VM wr m (x3 + 1) n en.hv left cnt) ∧ Hid (wr.ownsRow (x3 + 2) 29 1 (.slice A n5 c5) xs.length (xs.map (.int .u32))) ∧ Hid (HGat en.hv t md left xs) ∧ Hid (xs.length + cnt ≤ n) ∧ Hid (Box wr x3 #[.int .u32 t, .int .u8 md] 72) ∧ Hid (Below x3 w wr) ∧ Hid (Below x3 w1 wr) ∧ Hid (x3 + 2 ≤ wr.heap.size)) (fun _ _ _ wr => wr.rangeLeft m (x3 + 1))
  case atStart => exact ⟨_, _, _, _, _, [], rfl, Lib.hid rfl, HFR, Lib.hid (World.ownsRow_nil _ _ _ _), HG0, HCN, HX2, HB2, HBW, HZ2⟩
  case round =>
    obtain ⟨left, cnt, A, n5, c5, xs, rfl, HN5, HFR2, HO, HG, HCN2, HX4, HB4, HBW4, HZ⟩ := hrel
    obtain ⟨w3, rfl⟩ : ∃ w3, w3 = wr := ⟨wr, rfl⟩
    clear HFR HB2 HX2 HCN HG0 HZ2 HBW
    go_wp2_with (first
      | (at_next; refine wpList_next_fm (E := KU) (V := VM) rfl _ rfl rfl HFR2.out ?_ ?_))
    · intro hl0
      have HXS := Lib.hid (show ∀ x, x ∈ xs ↔ ∃ mx, en.hv x = some mx ∧ x ≠ t ∧ tog mx md = false from fun x => by
        rw [HG.out.mem x]
        exact ⟨fun h => h.2, fun ⟨mx, h1, h2⟩ => ⟨hl0 x (ku_ok.2 (HU.out x mx h1)), mx, h1, h2⟩⟩)
      have HXL := Lib.hid (show xs.length ≤ n by have := HCN2.out; omega)
      have c1 : w3.cell? ⟨e, 1, none⟩ = some (.slice Al nl cl) := by rw [HBW4.out.cell (p := ⟨e, 1, none⟩) LTS.out.1, HBX.out.cell 1]; rfl
      clear hl0 HG HFR2 HCN2
      go_upto_region 8 with fail
      clear c1
      go_loopw [5, 9, 40] (fun s5 _ s40 wr => ∃ (i : Nat) (A : Option Addr) (n5 c5 : Nat), s5 = .slice A n5 c5 ∧ s40 = .int .i64 i ∧ i ≤ nl ∧ Hid (n5 = xs.length + i) ∧ Hid (wr.ownsRow (x3 + 2) 29 1 (.slice A n5 c5) (xs ++ (en.line.take i).map (·.t)).length ((xs ++ (en.line.take i).map (·.t)).map (.int .u32))) ∧ Hid (∀ p ∈ en.line.take i, p.t ≠ t) ∧ Hid (Box wr x3 #[.int .u32 t, .int .u8 md] 72) ∧ Hid (Below x3 w wr) ∧ Hid (Below x3 w1 wr) ∧ Hid (x3 + 2 ≤ wr.heap.size)) (fun _ _ s40 _ => nl - (intOf s40).toNat)
      case atStart => exact ⟨0, A, n5, c5, rfl, rfl, Nat.zero_le _, Lib.hid HN5.out, Lib.hid (by simpa using HO.out), Lib.hid (fun p hp => by simp at hp), HX4, HB4, HBW4, HZ⟩
      case round =>
        obtain ⟨i, A6, n6, c6, rfl, rfl, hi, HN6, HO6, HNE, HX5, HB5, HBW5, HZ5⟩ := hrel
        obtain ⟨w4, rfl⟩ : ∃ w4, w4 = wr := ⟨wr, rfl⟩
        clear HO HX4 HB4 HBW4 HZ HN5
        by_cases hil : i < nl
        · have d1 : decide ((i : Int) < (nl : Int)) = true := by simp; omega
          have d1' : decide (i < nl) = true := by simp; omega
          obtain ⟨p, hp⟩ : ∃ p, en.line[i]? = some p := ⟨_, List.getElem?_eq_getElem (by rw [HNL.out]; exact hil)⟩
          obtain ⟨bl2, ol, hA, hbl, hcell⟩ := HSS.out.at_ hp
          subst hA
          have HTK := Lib.hid (show en.line.take (i + 1) = en.line.take i ++ [p] by rw [List.take_add_one, hp]; rfl)
          obtain ⟨pt, pm⟩ := p
          have k0 : w4.cell? ⟨bl2, ol + i * 2, none⟩ = some (.int .u32 pt) := by rw [HBW5.out.cell (p := ⟨bl2, ol + i * 2, none⟩) hbl]; exact hcell 0 _ rfl
          have k1 : w4.cell? ⟨bl2, ol + i * 2 + 1, none⟩ = some (.int .u8 pm) := by rw [HBW5.out.cell (p := ⟨bl2, ol + i * 2 + 1, none⟩) hbl]; exact hcell 1 _ rfl
          have HPI := Lib.hid hp
          clear hp hcell
          go_upto_region 10 with fail
          have hb5 := new_ (Below.refl w4.heap.size w4) (.cells #[.int .u32 pt, .int .u8 pm] 72)
          have X9 := Box.new w4 #[.int .u32 pt, .int .u8 pm] 72
          have hs5 : (w4.alloc (.cells #[.int .u32 pt, .int .u8 pm] 72)).heap.size = w4.heap.size + 1 := by simp
          obtain ⟨x9, hx9⟩ : ∃ x9, w4.heap.size = x9 := ⟨_, rfl⟩
          obtain ⟨w5, hw5⟩ : ∃ w5, w4.alloc (.cells #[.int .u32 pt, .int .u8 pm] 72) = w5 := ⟨_, rfl⟩
          rw [hw5] at hb5 X9 hs5 ⊢
          rw [hx9] at hs5 X9 ⊢
          have HO5 := Lib.hid (own_below HO6.out hb5)
          have HX6 := Lib.hid (HX5.out.later hb5)
          have HBT := Lib.hid (show Below x3 w w5 from HB5.out.trans (hb5.mono (by have := HZ5.out; omega)))
          have HBW6 := Lib.hid (show Below x3 w1 w5 from HBW5.out.trans (hb5.mono (by have := HZ5.out; omega)))
          have HZ6 := Lib.hid (show x3 + 2 ≤ w5.heap.size by have := HZ5.out; omega)
          have k3 : w5.cell? ⟨x9, 0, none⟩ = some (.int .u32 pt) := by rw [X9.cell 0]; rfl
          have k4 : w5.cell? ⟨x3, 0, none⟩ = some (.int .u32 t) := by rw [HX6.out.cell 0]; rfl
          have HX9 := Lib.hid X9
          clear hb5 hs5 hx9 hw5 X9 k0 k1 HX5 HB5 HBW5 HO6
          by_cases hpt : pt = t
          · have q1 : (pt == t) = true := by simp [hpt]
            have hYY : ∀ x, x ∈ xs ++ (en.line.take i).map (·.t) ↔ AhIs en t md x := ahIs_of HXS.out HNE.out (.inr ⟨_, HPI.out, hpt⟩)
            have hown := HO5.out
            have hyl : (xs ++ (en.line.take i).map (·.t)).length ≤ 400000 := by rw [List.length_append, List.length_map, List.length_take]; have := HXL.out; omega
            clear hpt
            generalize xs ++ (en.line.take i).map (·.t) = ys at hYY hown hyl
            clear HNE HO5 HXS HN6
            have HYY := Lib.hid hYY
            have hpos : 0 < ys.length := by
              obtain ⟨z, hz⟩ := HEX.out
              exact List.length_pos_of_mem ((hYY z).2 hz)
            obtain ⟨g, cap, hsl⟩ := slice_is hown hpos
            injection hsl with e1 e2 e3
            subst e1 e2 e3
            obtain ⟨q1, q2, q3⟩ := Srt.RA.of_own hown
            have CS := Lib.hid (Srt.sort_any w5 g ys.length c6 ys.toArray q1 (by simp) (by omega))
            have BY := Lib.hid (show ys.length ≤ 1000000 by omega)
            have Q3 := Lib.hid q3
            clear q1 q2 q3 hown hYY hpos hyl
            go_wp2_with fail
            (with_reducible refine (CS.out).mono ?_)
            rintro e w6 ⟨rfl, ⟨d, p1, p2, p3⟩, p4⟩
            have CC := Lib.hid (Srt.compact_any w6 g ys.length c6 d p1 (perm_sorted p2 p3 rfl).2.1 BY.out)
            have HAR := Lib.hid (cpt_of HYY.out p2 p3 rfl)
            have P4 := Lib.hid p4
            clear p1 p2 p3 p4
            go_wp2_with fail
            (with_reducible refine (CC.out).mono ?_)
            rintro e w7 ⟨rfl, r1, r2⟩
            have R1 := Lib.hid r1
            have R2 := Lib.hid r2
            clear r1 r2
            go_wp2
            go_ret
            refine ⟨_, _, rfl, HAR.out, Nat.le_trans (Srt.cptTo_len d _) BY.out, ?_, HBT.out.trans ((P4.out.trans R2.out).to_below (fun k hk => by rw [hk]; have := Q3.out; omega) (by have := HZ6.out; omega))⟩
            exact R1.out.own (by simp) (by have := Q3.out; omega)
          · have q1 : (pt == t) = false := by simp [hpt]
            have HPT := Lib.hid hpt
            have hl6 : (xs ++ (en.line.take i).map (·.t)).length ≤ 400000 := by rw [List.length_append, List.length_map, List.length_take]; have := HXL.out; omega
            have HTL := Lib.hid (show xs ++ (en.line.take (i + 1)).map (·.t) = (xs ++ (en.line.take i).map (·.t)) ++ [pt] by rw [HTK.out, List.map_append, List.append_assoc]; rfl)
            have HTN := Lib.hid (show (xs ++ (en.line.take i).map (·.t)).length = xs.length + i by rw [List.length_append, List.length_map, List.length_take, HNL.out]; omega)
            clear hpt
            obtain ⟨ys, hys⟩ : ∃ ys, xs ++ (en.line.take i).map (·.t) = ys := ⟨_, rfl⟩
            rw [hys] at HO5 hl6 HTL HTN
            clear hys
            go_wp2_with (first
              | (at_builtin; refine wpList_push _ rfl _ _ _ rfl (x3 + 2) 29 i0 .u32 4 Try.underlying38 hi0 hz0 hz1 hz2 (.slice A6 n6 c6) ys.length ys rfl (own_below HO5.out (new_ (Below.refl _ _) (.cells #[.int .u32 pt] 29))) w5.heap.size pt rfl (cell_new w5 _ _ 0) (by unfold maxLen; omega) (by omega) (by have := HZ6.out; simp; omega) ?_; intro v9 w9 hown hb9))
            have hb9' : Below (x3 + 2) w5 w9 := ((Below.refl (x3 + 2) w5).alloc HZ6.out _).trans hb9
            obtain ⟨A9, n9, c9, rfl⟩ : ∃ A n c, v9 = .slice A n c := by
              rcases hown.2 with ⟨rfl, _⟩ | ⟨g, cap, cur, rfl, _⟩
              · exact ⟨_, _, _, rfl⟩
              · exact ⟨_, _, _, rfl⟩
            have hn9 : n9 = ys.length + 1 := by
              rcases hown.2 with ⟨e1, e2⟩ | ⟨g, cap, cur, e1, _⟩
              · simp at e2
              · injection e1 with _ e2 _
            have R2 := Lib.hid (show w9.ownsRow (x3 + 2) 29 1 (.slice A9 n9 c9) (xs ++ (en.line.take (i + 1)).map (·.t)).length ((xs ++ (en.line.take (i + 1)).map (·.t)).map (.int .u32)) by rw [HTL.out, List.length_append]; exact hown)
            have R3 := Lib.hid (show Box w9 x3 #[.int .u32 t, .int .u8 md] 72 from HX6.out.fr (fr_base hb9') (by omega))
            have R4 := Lib.hid (show Below x3 w w9 from HBT.out.trans (hb9'.mono (by omega)))
            have R5 := Lib.hid (show Below x3 w1 w9 from HBW6.out.trans (hb9'.mono (by omega)))
            have R6 := Lib.hid (show x3 + 2 ≤ w9.heap.size by have := hb9'.size; have := HZ6.out; omega)
            have HN9 := Lib.hid (show n9 = xs.length + (i + 1) by rw [hn9, HTN.out]; omega)
            have HNE2 := Lib.hid (show ∀ p ∈ en.line.take (i + 1), p.t ≠ t by
              rw [HTK.out]
              intro p hp
              rcases List.mem_append.1 hp with h1 | h1
              · exact HNE.out p h1
              · rw [List.mem_singleton.1 h1]; exact HPT.out)
            clear hown hb9 hb9' hn9 k3 k4
            go_wp2
            go_roundw
            case rel => exact ⟨i + 1, A9, n9, c9, rfl, by go_num, by omega, HN9, R2, HNE2, R3, R4, R5, R6⟩
            case measure => simp [intOf]; omega
        · have d1 : decide ((i : Int) < (nl : Int)) = false := by simp; omega
          have d1' : decide (i < nl) = false := by simp; omega
          have hYY : ∀ x, x ∈ xs ++ (en.line.take i).map (·.t) ↔ AhIs en t md x := ahIs_of HXS.out HNE.out (.inl (by rw [HNL.out]; omega))
          have hown := HO6.out
          have HBT := Lib.hid HB5.out
          have hyl : (xs ++ (en.line.take i).map (·.t)).length ≤ 400000 := by rw [List.length_append, List.length_map, List.length_take]; have := HXL.out; omega
          generalize xs ++ (en.line.take i).map (·.t) = ys at hYY hown hyl
          clear HNE HO6 HXS HN6 HB5
          have HYY := Lib.hid hYY
          have hpos : 0 < ys.length := by
            obtain ⟨z, hz⟩ := HEX.out
            exact List.length_pos_of_mem ((hYY z).2 hz)
          obtain ⟨g, cap, hsl⟩ := slice_is hown hpos
          injection hsl with e1 e2 e3
          subst e1 e2 e3
          obtain ⟨q1, q2, q3⟩ := Srt.RA.of_own hown
          have CS := Lib.hid (Srt.sort_any w4 g ys.length c6 ys.toArray q1 (by simp) (by omega))
          have BY := Lib.hid (show ys.length ≤ 1000000 by omega)
          have Q3 := Lib.hid q3
          clear q1 q2 q3 hown hYY hpos hyl
          go_wp2_with fail
          (with_reducible refine (CS.out).mono ?_)
          rintro e w6 ⟨rfl, ⟨d, p1, p2, p3⟩, p4⟩
          have CC := Lib.hid (Srt.compact_any w6 g ys.length c6 d p1 (perm_sorted p2 p3 rfl).2.1 BY.out)
          have HAR := Lib.hid (cpt_of HYY.out p2 p3 rfl)
          have P4 := Lib.hid p4
          clear p1 p2 p3 p4
          go_wp2_with fail
          (with_reducible refine (CC.out).mono ?_)
          rintro e w7 ⟨rfl, r1, r2⟩
          have R1 := Lib.hid r1
          have R2 := Lib.hid r2
          clear r1 r2
          go_wp2
          go_ret
          refine ⟨_, _, rfl, HAR.out, Nat.le_trans (Srt.cptTo_len d _) BY.out, ?_, HBT.out.trans ((P4.out.trans R2.out).to_below (fun k hk => by rw [hk]; have := Q3.out; omega) (by have := HZ5.out; omega))⟩
          exact R1.out.own (by simp) (by have := Q3.out; omega)
    · intro x mx w4 cnt' hxk hlx hfx hfr3 hlt hF3 hsz3 hen
      have ek : KU.kv x = .int .u32 x := rfl
      have em : VM.ev mx = .int .u8 mx := rfl
      rw [ek, em] at hen
      rw [ek, em]
      clear ek em
      have hS : ∀ k, k = x3 + 1 → ¬ k = x3 := fun k e => by omega
      have HX5 := Lib.hid (HX4.out.fr hF3 (by omega))
      have HB5 := Lib.hid (show Below x3 w w4 from HB4.out.trans (hF3.to_below (fun k hk => by omega) (by have := HZ.out; omega)))
      have HBW5 := Lib.hid (show Below x3 w1 w4 from HBW4.out.trans (hF3.to_below (fun k hk => by omega) (by have := HZ.out; omega)))
      have HO5 := Lib.hid (own_frS HO.out hF3 (fun b hb e => by have := (HO.out.lt b hb).1; omega))
      have HZ5 := Lib.hid (show x3 + 2 ≤ w4.heap.size by have := HZ.out; omega)
      have HFR5 := Lib.hid hfr3
      have HLT := Lib.hid (⟨hlt, HFR2.out.left_eq, hfr3.left_eq⟩ : cnt' < cnt ∧ w3.rangeLeft m (x3 + 1) = cnt ∧ w4.rangeLeft m (x3 + 1) = cnt')
      have HHX := Lib.hid hfx
      have k1 : w4.cell? ⟨x3, 0, none⟩ = some (.int .u32 t) := by rw [HX5.out.cell 0]; rfl
      have k2 : w4.cell? ⟨x3, 1, none⟩ = some (.int .u8 md) := by rw [HX5.out.cell 1]; rfl
      have CT := Lib.hid (together_any w4 mx md)
      obtain ⟨tg, htg⟩ : ∃ q, q = tog mx md := ⟨_, rfl⟩
      rw [← htg] at CT
      have HTT := Lib.hid htg
      clear hfr3 hlt hF3 hsz3 hfx hlx hxk htg hS HB4 HBW4 HZ HO HX4
      by_cases hxt : x = t
      · have d1 : decide (x = t) = true := decide_eq_true hxt
        have d1' : (x != t) = false := by simp [hxt]
        have HXT := Lib.hid hxt
        clear hxt
        go_wp2
        go_roundw
        case rel => exact ⟨but left x, cnt', A, n5, c5, xs, rfl, HN5, HFR5, HO5, Lib.hid (HG.out.skip HHX.out (.inl HXT.out)), Lib.hid (by have := HCN2.out; have := HLT.out.1; omega), HX5, HB5, HBW5, HZ5⟩
        case measure => rw [HLT.out.2.1, HLT.out.2.2]; exact HLT.out.1
      · have d1 : decide (x = t) = false := decide_eq_false hxt
        have d1' : (x != t) = true := by simp [hxt]
        have HXT := Lib.hid hxt
        clear hxt
        cases tg with
        | true =>
          go_wp2_with (first
            | (go_at_call 45; (with_reducible refine CT.out.mono ?_); rintro er w5 ⟨rfl, rfl⟩))
          go_roundw
          case rel => exact ⟨but left x, cnt', A, n5, c5, xs, rfl, HN5, HFR5, HO5, Lib.hid (HG.out.skip HHX.out (.inr HTT.out.symm)), Lib.hid (by have := HCN2.out; have := HLT.out.1; omega), HX5, HB5, HBW5, HZ5⟩
          case measure => rw [HLT.out.2.1, HLT.out.2.2]; exact HLT.out.1
        | false =>
          go_wp2_with (first
            | (go_at_call 45; (with_reducible refine CT.out.mono ?_); rintro er w5 ⟨rfl, rfl⟩)
            | (at_builtin; refine wpList_push _ rfl _ _ _ rfl (x3 + 2) 29 i0 .u32 4 Try.underlying38 hi0 hz0 hz1 hz2 (.slice A n5 c5) xs.length xs rfl (own_below HO5.out (new_ (Below.refl _ _) (.cells #[.int .u32 x] 29))) w4.heap.size x rfl (cell_new w4 _ _ 0) (by have := HCN2.out; unfold maxLen; omega) (by have := HCN2.out; omega) (by have := HZ5.out; simp; omega) ?_; intro v9 w9 hown hb9))
          have hb9' : Below (x3 + 2) w4 w9 := ((Below.refl (x3 + 2) w4).alloc HZ5.out _).trans hb9
          obtain ⟨A9, n9, c9, rfl⟩ : ∃ A n c, v9 = .slice A n c := by
            rcases hown.2 with ⟨rfl, _⟩ | ⟨g, cap, cur, rfl, _⟩
            · exact ⟨_, _, _, rfl⟩
            · exact ⟨_, _, _, rfl⟩
          have hn9 : n9 = (xs ++ [x]).length := by
            rcases hown.2 with ⟨e1, e2⟩ | ⟨g, cap, cur, e1, _⟩
            · simp at e2
            · injection e1 with _ e2 _
              rw [e2]; simp
          have hfr9 := HFR5.out.fr (fr_base hb9') (by have := LTS.out; omega) (by omega)
          have HL9 := Lib.hid hfr9.left_eq
          have R1 := Lib.hid (show FR KU VM w9 m (x3 + 1) n en.hv (but left x) cnt' from hfr9)
          have R2 := Lib.hid (show w9.ownsRow (x3 + 2) 29 1 (.slice A9 n9 c9) (xs ++ [x]).length ((xs ++ [x]).map (.int .u32)) by rw [List.length_append]; exact hown)
          have R3 := Lib.hid (show Box w9 x3 #[.int .u32 t, .int .u8 md] 72 from HX5.out.fr (fr_base hb9') (by omega))
          have R4 := Lib.hid (show Below x3 w w9 from HB5.out.trans (hb9'.mono (by omega)))
          have R5 := Lib.hid (show Below x3 w1 w9 from HBW5.out.trans (hb9'.mono (by omega)))
          have R6 := Lib.hid (show x3 + 2 ≤ w9.heap.size by have := hb9'.size; have := HZ5.out; omega)
          have HN9 := Lib.hid hn9
          clear hown hb9 hb9' hfr9 hn9 k1 k2
          go_wp2
          go_roundw
          case rel => exact ⟨but left x, cnt', A9, n9, c9, xs ++ [x], rfl, HN9, R1, R2, Lib.hid (HG.out.take HHX.out HXT.out HTT.out.symm), Lib.hid (by have := HCN2.out; have := HLT.out.1; simp; omega), R3, R4, R5, R6⟩
          case measure => rw [HLT.out.2.1, HL9.out]; exact HLT.out.1
end Go.Proofs.Ytpndcpmfcajmdaa.Lock
namespace Go.Proofs.Ytpndcpmfcajmdaa.Lock
open Go.ChangeShapes Go.WideShapes Go.ChangeAt Go.RowKit Go.IntWalk Go.Proofs.Mem Law Go.Shelf Go.Proofs.Each
set_option linter.unusedVariables false
set_option linter.unusedSimpArgs false
def cEd (p : Int × Int) : List Value := [.int .u32 p.1, .int .u32 p.2]
theorem cEd_len (x : Int × Int) : (cEd x).length = 2 := rfl
theorem cEd_one (y : Int × Int) : ∀ u ∈ cEd y, u.oneCell' = true := by
  intro u hu
  simp [cEd] at hu
  rcases hu with rfl | rfl <;> rfl
theorem ed_info : (Try.prog.info? 51).map (fun i => (i.zero, i.size, i.bytes)) = some (some (.agg #[.int .u32 0, .int .u32 0]), 2, 8) := by kernel_rfl
theorem rise_uniq : ∀ {l m : List Int}, l.Pairwise (· < ·) → m.Pairwise (· < ·) → (∀ x, x ∈ l ↔ x ∈ m) → l = m
  | [], [], _, _, _ => rfl
  | [], y :: m, _, _, e => absurd ((e y).2 (List.mem_cons_self ..)) (by simp)
  | x :: l, [], _, _, e => absurd ((e x).1 (List.mem_cons_self ..)) (by simp)
  | x :: l, y :: m, h, k, e => by
    rw [List.pairwise_cons] at h k
    have hxy : x = y := by
      rcases List.mem_cons.1 ((e x).1 (List.mem_cons_self ..)) with h1 | h1
      · exact h1
      · rcases List.mem_cons.1 ((e y).2 (List.mem_cons_self ..)) with h2 | h2
        · exact h2.symm
        · have a := h.1 y h2; have b := k.1 x h1; omega
    subst hxy
    rw [rise_uniq h.2 k.2 (fun z => ?_)]
    constructor
    · intro hz
      rcases List.mem_cons.1 ((e z).1 (List.mem_cons_of_mem _ hz)) with h1 | h1
      · subst h1; have := h.1 z hz; omega
      · exact h1
    · intro hz
      rcases List.mem_cons.1 ((e z).2 (List.mem_cons_of_mem _ hz)) with h1 | h1
      · subst h1; have := k.1 z hz; omega
      · exact h1
theorem AhR.uniq {e : En} {t m : Int} {l l' : List Int} (h : AhR e t m l) (h' : AhR e t m l') : l = l' := rise_uniq h.srt h'.srt (fun x => (h.mem x).trans (h'.mem x).symm)
open Classical in
noncomputable def ahL (T : Tb) (x : Int) : List Int := if h : ∃ l k m, T.wt x = some (hdOf k m) ∧ AhR (T.ent k) x m l then Classical.choose h else []
theorem ahL_is {T : Tb} {x m : Int} {k : Ky} {l : List Int} (hw : T.wt x = some (hdOf k m)) (hl : AhR (T.ent k) x m l) : ahL T x = l := by
  have h : ∃ l k m, T.wt x = some (hdOf k m) ∧ AhR (T.ent k) x m l := ⟨l, k, m, hw, hl⟩
  unfold ahL
  rw [dif_pos h]
  obtain ⟨k', m', h1, h2⟩ := Classical.choose_spec h
  rw [hw] at h1
  injection h1 with h1
  obtain ⟨e1, e2⟩ := hdOf_inj h1
  subst e1 e2
  exact h2.uniq hl
noncomputable def eds (T : Tb) (fr : List Int) : List (Int × Int) := edL fr (ahL T)
theorem eds_snoc (T : Tb) (fr : List Int) (x : Int) : eds T (fr ++ [x]) = eds T fr ++ (ahL T x).map fun y => (x, y) := by
  unfold eds edL
  rw [List.flatMap_append]
  simp
def EdOut (w : World) (T : Tb) (e : Ending) (w' : World) : Prop := ∃ (v : Value) (fr : List Int), e = .returned v ∧ EdR T fr (ahL T) ∧ (eds T fr).length ≤ 50000000000 ∧ w'.ownsRow w.heap.size 51 2 v (eds T fr).length ((eds T fr).flatMap cEd) ∧ Below w.heap.size w w'
theorem wait_line {T : Tb} (hi : Inv T) {x : Int} {hd : Hd} (h : T.wt x = some hd) : ∃ k m, hd = hdOf k m ∧ T.has k x = true := by
  obtain ⟨k, m, e, hl⟩ := (hi.wt x hd).1 h
  exact ⟨k, m, e, has_iff.2 (.inr ⟨m, hl⟩)⟩
theorem wait_some {T : Tb} (hi : Inv T) (hf : Fst T) {x m : Int} {k : Ky} (h : T.wt x = some (hdOf k m)) : ∃ y, AhIs (T.ent k) x m y := by
  obtain ⟨k', m', e, hl⟩ := (hi.wt x _).1 h
  obtain ⟨e1, e2⟩ := hdOf_inj e
  subst e1 e2
  match he : (T.ent k).line, hl with
  | p :: l, hl =>
    by_cases hp : p.t = x
    · have hpm : p = ⟨x, m⟩ := by
        rcases List.mem_cons.1 hl with e | e
        · exact e.symm
        · have hn := hi.nd k
          rw [he, List.map_cons, List.nodup_cons] at hn
          exact absurd (List.mem_map.2 ⟨_, e, hp.symm⟩) hn.1
      have := hf k p l he
      rw [hpm] at this
      obtain ⟨y, md, a, b, c⟩ := fit_no this
      exact ⟨y, .inl ⟨md, a, b, c⟩⟩
    · refine ⟨p.t, .inr ⟨p, ?_, rfl⟩⟩
      rw [he, List.takeWhile_cons, if_pos]
      · exact List.mem_cons_self ..
      · rw [Bool.not_eq_true', ← Bool.not_eq_true, isT_is]; exact hp
def AhCut (W : World) (en : En) (x m : Int) (v37 v38 v39 : Value) (wx : World) : Prop := ∃ (A : Option Addr) (n c : Nat) (l : List Int), v37 = .slice A n c ∧ v38 = .int .i64 n ∧ v39 = .int .i64 0 ∧ l.length = n ∧ AhR en x m l ∧ n ≤ 1000000 ∧ wx.ownsRow W.heap.size 29 1 (.slice A n c) n (l.map (.int .u32)) ∧ Below W.heap.size W wx
theorem AhOut.cut {W : World} {en : En} {x m : Int} {e : Ending} {w' : World} (h : AhOut W en x m e w') : ∃ (A : Option Addr) (n c : Nat), e = .returned (.slice A n c) ∧ AhCut W en x m (.slice A n c) (.int .i64 n) (.int .i64 0) w' := by
  obtain ⟨v, l, rfl, h1, h2, h3, h4⟩ := h
  obtain ⟨A, c, rfl, _, _⟩ := own_is h3
  exact ⟨A, l.length, c, rfl, A, l.length, c, l, rfl, rfl, rfl, rfl, h1, h2, h3, h4⟩
set_option maxRecDepth 100000 in
set_option maxHeartbeats 8000000 in
theorem edges_any (w : World) (S : Nat → Prop) (N L t : Nat) (T : Tb) (h : TabAt w S N L t T) (hi : Inv T) (hf : Fst T) (hN : N ≤ 50000) (hL : L ≤ 50000) :
    Calls Try.prog 14 #[.pointer (some ⟨t, 0, none⟩)] w (EdOut w T) := by
  obtain ⟨j0, hj0, hj1, hj2, hj3⟩ := info_parts ed_info
  obtain ⟨col, mk, mw, nk, nw, K, h⟩ := h
  have HT0 := Lib.hid h
  have HI := Lib.hid hi
  have HF := Lib.hid hf
  have hts := h.old t h.st
  have CK := Lib.hid (keys_in Fence.wide 3 trivial rfl (some mw) w)
  have c0 : w.cell? ⟨t, 1, none⟩ = some (.map (some mw)) := by rw [h.box.cell 1]; rfl
  have b1 := new_ (Below.refl w.heap.size w) (.cells #[.map (some mw)] 57)
  have hs1 : (w.alloc (.cells #[.map (some mw)] 57)).heap.size = w.heap.size + 1 := by simp
  have X3 := Box.new w #[.map (some mw)] 57
  have hh1 := h.later b1
  obtain ⟨w1, hw1⟩ : ∃ w1, w.alloc (.cells #[.map (some mw)] 57) = w1 := ⟨_, rfl⟩
  obtain ⟨x3, hx3⟩ : ∃ x3, w.heap.size = x3 := ⟨_, rfl⟩
  rw [hw1] at b1 hs1 X3 hh1 CK
  rw [hx3] at hs1 X3 hts CK b1
  have CS := Lib.hid (sortedKeys_any w1 x3 mw nw T.wt (by omega) (X3.cell 0) hh1.fw (by have := h.hw; omega))
  have HB1 := Lib.hid b1
  have HT1 := Lib.hid hh1
  have HS1 := Lib.hid hs1
  have HNW := Lib.hid (show nw ≤ 50000 by have := h.hw; omega)
  have HX3 := Lib.hid hx3
  unfold EdOut
  rw [hx3]
  have HLT := Lib.hid hts
  clear h hi hf b1 hs1 X3 hh1 hw1 hx3 hts
  go_enter Try.func14, Try.ntmps14
  go_wp2_with (first
    | (go_at_call 30; (with_reducible refine ((callsIn_wide (n := 3)).1 CK.out).mono ?_); rintro e w2 ⟨rfl, rfl⟩)
    | (go_at_call 29; (with_reducible refine CS.out.mono ?_); rintro e w2 ⟨v, fr, rfl, hfr, hfn, hown, hb2⟩
       obtain ⟨Af, cf, rfl, _, _⟩ := own_is hown
       have HFR := Lib.hid hfr
       have HFO := Lib.hid hown
       have HB2 := Lib.hid hb2
       have hfl : fr.length ≤ 50000 := by have := HNW.out; omega
       clear hfr hown hb2 hfn))
  have HFI := Lib.hid (IR.of_own HFO.out)
  have HT2 := Lib.hid (HT1.out.later HB2.out)
  obtain ⟨fl, hfl2⟩ : ∃ fl, fr.length = fl := ⟨_, rfl⟩
  have HFL := Lib.hid hfl2
  rw [hfl2] at hfl HFI ⊢
  have bfl : (fl : Int) ≤ 50000 := by omega
  clear hfl2 c0
  go_loopw [3, 5, 6, 8, 16] (fun s3 _ _ _ s16 wr => ∃ (i : Nat) (A : Option Addr) (n c : Nat), s3 = .slice A n c ∧ s16 = .int .i64 i ∧ i ≤ fl ∧ Hid (n = (eds T (fr.take i)).length) ∧ Hid (wr.ownsRow w2.heap.size 51 2 (.slice A n c) (eds T (fr.take i)).length ((eds T (fr.take i)).flatMap cEd)) ∧ Hid (∀ x ∈ fr.take i, ∀ k m, T.wt x = some (hdOf k m) → AhR (T.ent k) x m (ahL T x)) ∧ Hid ((eds T (fr.take i)).length ≤ i * 1000000) ∧ Hid (Below w2.heap.size w2 wr)) (fun _ _ _ _ s16 _ => fl - (intOf s16).toNat)
  case atStart => exact ⟨0, none, 0, 0, rfl, rfl, Nat.zero_le _, Lib.hid rfl, Lib.hid (World.ownsRow_nil _ _ _ _), Lib.hid (fun x hx => by simp at hx), Lib.hid (Nat.zero_le _), Lib.hid (Below.refl _ _)⟩
  case round =>
    obtain ⟨i, A, n, c, rfl, rfl, hi, HN1, HO, HA, HLN, HB⟩ := hrel
    obtain ⟨w3, rfl⟩ : ∃ w3, w3 = wr := ⟨wr, rfl⟩
    by_cases hil : i < fl
    · have d1 : decide ((i : Int) < (fl : Int)) = true := by simp; omega
      have d1' : decide (i < fl) = true := by simp; omega
      obtain ⟨x, hx⟩ : ∃ x, fr[i]? = some x := ⟨_, List.getElem?_eq_getElem (by rw [HFL.out]; exact hil)⟩
      have hxe : fr.getD i 0 = x := by rw [List.getD, hx]; rfl
      obtain ⟨bl, ol, hA, hbl, hcell⟩ := HFI.out.index i hil
      rw [hxe] at hcell
      subst hA
      have HTK := Lib.hid (show fr.take (i + 1) = fr.take i ++ [x] by rw [List.take_add_one, hx]; rfl)
      obtain ⟨hd, hhd⟩ := Option.isSome_iff_exists.1 ((HFR.out.2 x).1 (List.mem_of_getElem? hx))
      obtain ⟨k, m, hdk, hkh⟩ := wait_line HI.out hhd
      subst hdk
      have HT3 := HT2.out.later HB.out
      obtain ⟨b0, hK⟩ := HT3.has_ hkh
      obtain ⟨e, mh, nh, lv, rfl, hEA⟩ := HT3.is hK
      have hxu : U32 x := by
        have hfm := HT3.fw
        obtain ⟨D, _, _, h2⟩ := hfm
        by_cases hok : KU.ok x
        · exact ku_ok.1 hok
        · rw [h2 x hok] at hhd; cases hhd
      have k0 : w3.cell? ⟨bl, ol + i, none⟩ = some (.int .u32 x) := by rw [HB.out.cell (p := ⟨bl, ol + i, none⟩) hbl]; exact hcell
      have k1 : w3.cell? ⟨t, 1, none⟩ = some (.map (some mw)) := by rw [HT3.box.cell 1]; rfl
      have lkW : (Instr.lookup 57 (.map (some mw)) (.int .u32 x) false).run Try.prog w3 = .ok (.agg #[.int .u8 k.k, .int .u32 k.a, .int .u32 k.b, .int .u8 m]) w3 := by
        have := (HT3.fw.look (t := 57) Try.underlying57 zHd (zeroH w3) x (ku_ok.2 hxu)).1
        rw [hhd] at this
        exact this
      have hb4 := new_ (Below.refl w3.heap.size w3) (.cells #[.int .u8 k.k, .int .u32 k.a, .int .u32 k.b, .int .u8 m] 45)
      have X6 := Box.new w3 #[.int .u8 k.k, .int .u32 k.a, .int .u32 k.b, .int .u8 m] 45
      have HT4 := HT3.later hb4
      have hE4 := hEA.later hb4
      have HHD := Lib.hid hhd
      have HXX := Lib.hid hx
      clear hx hxe hcell hhd hxu hkh HT3 hEA
      go_upto_region 6 with fail
      obtain ⟨x6, hx6⟩ : ∃ x6, w3.heap.size = x6 := ⟨_, rfl⟩
      obtain ⟨w4, hw4⟩ : ∃ w4, w3.alloc (.cells #[.int .u8 k.k, .int .u32 k.a, .int .u32 k.b, .int .u8 m] 45) = w4 := ⟨_, rfl⟩
      rw [hw4] at hb4 X6 HT4 hE4 ⊢
      rw [hx6] at X6 ⊢
      have c40 : w4.cell? ⟨t, 0, none⟩ = some (.map (some mk)) := by rw [HT4.box.cell 0]; rfl
      have c60 : w4.cell? ⟨x6, 0, none⟩ = some (.int .u8 k.k) := by rw [X6.cell 0]; rfl
      have c61 : w4.cell? ⟨x6, 1, none⟩ = some (.int .u32 k.a) := by rw [X6.cell 1]; rfl
      have c62 : w4.cell? ⟨x6, 2, none⟩ = some (.int .u32 k.b) := by rw [X6.cell 2]; rfl
      have c63 : w4.cell? ⟨x6, 3, none⟩ = some (.int .u8 m) := by rw [X6.cell 3]; rfl
      have lk : (Instr.lookup 56 (.map (some mk)) (.agg #[.int .u8 k.k, .int .u32 k.a, .int .u32 k.b]) false).run Try.prog w4.drew = .ok (.pointer (some ⟨e, 0, none⟩)) w4.drew := by
        have h1 := (HT4.fk.drew.look Try.underlying56 none (zeroP _) k (FMok HT4.fk hK)).1
        rw [hK] at h1
        exact h1
      have CA := Lib.hid (ahead_any w4.drew e mh nh lv (T.ent k) x m (hE4.box.later (below_drewN (Below.refl _ _) 1)) (hE4.fm.drew) (by have := hE4.hn; omega) (hE4.ln.later (below_drewN (Below.refl _ _) 1)).ss (by have := hE4.hl; omega) (wait_some HI.out HF.out HHD.out))
      have HB4 := Lib.hid (show Below w2.heap.size w2 w4 from HB.out.trans (hb4.mono HB.out.size))
      have HO4 := Lib.hid (own_below HO.out hb4)
      have mixed : Try.prog.follows .mixedOrders = true := by kernel_rfl
      clear hb4 X6 HT4 hE4 hx6 hw4 HB HO lkW k0 k1
      go_cut [37, 38, 39] (fun v37 v38 v39 wx => Hid (AhCut w4.drew (T.ent k) x m v37 v38 v39 wx))
      case first =>
        go_region_with (go_at_call 31; (with_reducible refine CA.out.mono ?_); rintro er w5 ha; obtain ⟨A5, n5, c5, rfl, hac⟩ := ha.cut; have HAC := Lib.hid hac; clear hac ha)
        all_goals (go_wp2; go_meet; exact HAC)
      case rest =>
      obtain ⟨A5, n5, c5, l, rfl, rfl, rfl, hl5, har, hn5, how, hbw⟩ := hcut.out
      rename_i hKK
      refine hKK _ _ ?_
      have HAH := Lib.hid (ahL_is HHD.out har)
      have HAR := Lib.hid har
      have HL5 := Lib.hid hl5
      have hbw4 : Below w4.heap.size w4 wc := (below_drewN (Below.refl _ _) 1).trans hbw
      have HB5 := Lib.hid (show Below w2.heap.size w2 wc from HB4.out.trans (hbw4.mono HB4.out.size))
      have HO5 := Lib.hid (show wc.ownsRow w2.heap.size 51 2 (.slice A n c) (eds T (fr.take i) ++ (l.take 0).map fun y => (x, y)).length ((eds T (fr.take i) ++ (l.take 0).map fun y => (x, y)).flatMap cEd) by simpa using own_below HO4.out hbw4)
      have HLO := Lib.hid how
      have HAP := Lib.hid (show ∀ g, (Value.slice A5 n5 c5).ownBlock = some g → (Value.slice A n c).ownBlock ≠ some g from fun g hg e => by
        have h1 := (how.lt g hg).1
        have h2 := (HO4.out.lt g e).2
        have h3 : w4.drew.heap.size = w4.heap.size := rfl
        omega)
      have HN5 := Lib.hid (show n = (eds T (fr.take i) ++ (l.take 0).map fun y => (x, y)).length by simpa using HN1.out)
      have bn5 : (n5 : Int) ≤ 1000000 := by omega
      obtain ⟨w5, rfl⟩ : ∃ w5, w5 = wc := ⟨wc, rfl⟩
      clear hKK hcut har how hbw hl5 hbw4 CA c40 c60 c61 c62 c63 lk HB4 HO4 HN1
      go_wp2
      go_loopw [3, 8, 39] (fun s3 _ s39 wr => ∃ (j : Nat) (A : Option Addr) (n c : Nat), s3 = .slice A n c ∧ s39 = .int .i64 j ∧ j ≤ n5 ∧ Hid (n = (eds T (fr.take i) ++ (l.take j).map fun y => (x, y)).length) ∧ Hid (wr.ownsRow w2.heap.size 51 2 (.slice A n c) (eds T (fr.take i) ++ (l.take j).map fun y => (x, y)).length ((eds T (fr.take i) ++ (l.take j).map fun y => (x, y)).flatMap cEd)) ∧ Hid (wr.ownsRow w4.heap.size 29 1 (.slice A5 n5 c5) n5 (l.map (.int .u32))) ∧ Hid (∀ g, (Value.slice A5 n5 c5).ownBlock = some g → (Value.slice A n c).ownBlock ≠ some g) ∧ Hid (Below w2.heap.size w2 wr)) (fun _ _ s39 _ => n5 - (intOf s39).toNat)
      case atStart => exact ⟨0, A, n, c, rfl, rfl, Nat.zero_le _, HN5, HO5, HLO, HAP, HB5⟩
      case round =>
        obtain ⟨j, A6, n6, c6, rfl, rfl, hj, HN6, HO6, HLO6, HAP6, HB6⟩ := hrel
        obtain ⟨w6, rfl⟩ : ∃ w6, w6 = wr := ⟨wr, rfl⟩
        clear HN5 HO5 HLO HAP HB5
        by_cases hjn : j < n5
        · have d2 : decide ((j : Int) < (n5 : Int)) = true := by simp; omega
          have d2' : decide (j < n5) = true := by simp; omega
          obtain ⟨y, hy⟩ : ∃ y, l[j]? = some y := ⟨_, List.getElem?_eq_getElem (by rw [HL5.out]; exact hjn)⟩
          have hye : l.getD j 0 = y := by rw [List.getD, hy]; rfl
          obtain ⟨bl5, ol5, hA5, hbl5, hcell5⟩ := (IR.of_own HLO6.out).index j hjn
          rw [hye] at hcell5
          have HTJ := Lib.hid (show (eds T (fr.take i) ++ (l.take (j + 1)).map fun y => (x, y)) = (eds T (fr.take i) ++ (l.take j).map fun y => (x, y)) ++ [(x, y)] by rw [List.take_add_one, hy, List.map_append, List.append_assoc]; rfl)
          have HTL := Lib.hid (show (eds T (fr.take i) ++ (l.take j).map fun y => (x, y)).length ≤ 60000000000 by
            rw [List.length_append, List.length_map, List.length_take]; have := HLN.out; omega)
          subst hA5
          obtain ⟨es, hes⟩ : ∃ es, (eds T (fr.take i) ++ (l.take j).map fun y => (x, y)) = es := ⟨_, rfl⟩
          rw [hes] at HN6 HO6 HTJ HTL
          have HZ6 := Lib.hid HB6.out.size
          clear hy hye hes
          go_wp2_with (at_builtin; refine wpList_push_ss (F := cEd) (sz := 2) _ rfl _ _ _ rfl w2.heap.size 51 j0 _ 8 Try.underlying35 hj0 hj1 hj2 hj3 rfl (by decide) cEd_len cEd_one _ es rfl (own_below HO6.out (new_ (Below.refl _ _) (.cells #[.int .u32 x, .int .u32 y] 51))) w6.heap.size (x, y) 51 rfl (Box.new w6 _ _) (by have := HTL.out; unfold maxLen; omega) (by have := HTL.out; omega) (by have := HZ6.out; simp; omega) ?_; intro v9 w9 hown ht9)
          have tt := (RowTo.of_below (new_ (Below.refl w6.heap.size w6) (.cells #[.int .u32 x, .int .u32 y] 51)) (.slice A6 n6 c6)).trans ht9
          obtain ⟨A9, n9, c9, rfl⟩ : ∃ A n c, v9 = .slice A n c := by
            rcases hown.2 with ⟨rfl, _⟩ | ⟨g', cap, cur, rfl, _⟩
            · exact ⟨_, _, _, rfl⟩
            · exact ⟨_, _, _, rfl⟩
          have hn9 : n9 = (es ++ [(x, y)]).length := by
            rcases hown.2 with ⟨_, e2⟩ | ⟨g', cap, cur, e1, _⟩
            · simp at e2
            · injection e1 with _ e2 _
          have R1 := Lib.hid (show n9 = (eds T (fr.take i) ++ (l.take (j + 1)).map fun y => (x, y)).length by rw [HTJ.out]; exact hn9)
          have R2 := Lib.hid (show w9.ownsRow w2.heap.size 51 2 (.slice A9 n9 c9) (eds T (fr.take i) ++ (l.take (j + 1)).map fun y => (x, y)).length ((eds T (fr.take i) ++ (l.take (j + 1)).map fun y => (x, y)).flatMap cEd) by rw [HTJ.out]; exact hown)
          have R3 := Lib.hid (show w9.ownsRow w4.heap.size 29 1 (.slice (some ⟨bl5, ol5, none⟩) n5 c5) n5 (l.map (.int .u32)) from own_frS HLO6.out tt.fr (fun b hb e => HAP6.out b hb e))
          have R4 := Lib.hid (show ∀ g, (Value.slice (some ⟨bl5, ol5, none⟩) n5 c5).ownBlock = some g → (Value.slice A9 n9 c9).ownBlock ≠ some g from fun g hg => tt.far ((HLO6.out.lt g hg).2) (HAP6.out g hg))
          have R5 := Lib.hid (HB6.out.trans (tt.below (fun b hb => (HO6.out.lt b hb).1) HB6.out.size))
          clear hown ht9 tt hn9 hcell5 hbl5
          go_wp2
          go_roundw
          case rel => exact ⟨j + 1, A9, n9, c9, rfl, by go_num, by omega, R1, R2, R3, R4, R5⟩
          case measure => simp [intOf]; omega
        · have d2 : decide ((j : Int) < (n5 : Int)) = false := by simp; omega
          have d2' : decide (j < n5) = false := by simp; omega
          have htl : l.take j = l := by rw [show j = n5 by omega, ← HL5.out, List.take_length]
          rw [htl] at HN6 HO6
          have hsn : (eds T (fr.take i) ++ l.map fun y => (x, y)) = eds T (fr.take (i + 1)) := by rw [HTK.out, eds_snoc, HAH.out]
          rw [hsn] at HN6 HO6
          have HA7 := Lib.hid (show ∀ x ∈ fr.take (i + 1), ∀ k m, T.wt x = some (hdOf k m) → AhR (T.ent k) x m (ahL T x) by
            rw [HTK.out]
            intro z hz k' m' hw
            rcases List.mem_append.1 hz with h1 | h1
            · exact HA.out z h1 k' m' hw
            · rw [List.mem_singleton.1 h1] at hw ⊢
              have h2 := HHD.out
              rw [hw] at h2
              injection h2 with h2
              obtain ⟨e1, e2⟩ := hdOf_inj h2
              subst e1 e2
              rw [HAH.out]; exact HAR.out)
          have HLN7 := Lib.hid (show (eds T (fr.take (i + 1))).length ≤ (i + 1) * 1000000 by
            rw [← hsn, List.length_append, List.length_map]; have := HLN.out; have := HL5.out; omega)
          have hw2 : IntKind.i64.wrap ((i : Int) + 1) = ((i + 1 : Nat) : Int) := by rw [IntKind.wrap_i64]; omega
          clear htl hsn
          go_wp2
          go_roundw
          case rel => exact ⟨i + 1, A6, n6, c6, rfl, by go_num, by omega, HN6, HO6, HA7, HLN7, HB6⟩
          case measure => simp [intOf]; omega
    · have d1 : decide ((i : Int) < (fl : Int)) = false := by simp; omega
      have d1' : decide (i < fl) = false := by simp; omega
      have htk : fr.take i = fr := by rw [show i = fl by omega, ← HFL.out, List.take_length]
      rw [htk] at HO HA HLN
      have HED : Hid (EdR T fr (ahL T)) := Lib.hid ⟨HFR.out.1, HFR.out.2, fun x k m hw => HA.out x ((HFR.out.2 x).2 (by rw [hw]; rfl)) k m hw⟩
      have HZ := Lib.hid (show x3 ≤ w2.heap.size by have := HB2.out.size; have := HS1.out; omega)
      have HE := Lib.hid (show Below x3 w w3 from (HB1.out.trans (HB2.out.mono (by have := HS1.out; omega))).trans (HB.out.mono HZ.out))
      go_wp2
      go_ret
      exact ⟨_, fr, rfl, HED.out, by have := HLN.out; omega, own_lower HO.out HZ.out, HE.out⟩
end Go.Proofs.Ytpndcpmfcajmdaa.Lock
namespace Go.Proofs.Ytpndcpmfcajmdaa.Lock
open Go.ChangeShapes Go.WideShapes Go.ChangeAt Go.RowKit Go.IntWalk Go.Proofs.Mem Law Go.Shelf Go.Proofs.Each
set_option linter.unusedVariables false
set_option linter.unusedSimpArgs false
theorem kd_rem {a : Int} (h : 0 ≤ a ∧ a ≤ 255) : a.tmod 6 = a % 6 := Int.tmod_eq_emod_of_nonneg h.1
set_option maxRecDepth 100000 in
set_option maxHeartbeats 16000000 in
theorem run_any (w : World) (v : Value) (xl : List Lo) (hv : SS cLo 6 w w.heap.size v xl) (hok : ∀ x ∈ xl, x.Ok) (hl : xl.length ≤ 60) :
    Calls Try.prog 16 #[v] w fun e w' => ∃ t V T S, e = .returned (.tuple #[.pointer (some ⟨t, 0, none⟩), V]) ∧ Pt w' w.heap.size xl t T S xl.length V ∧ Below w.heap.size w w' ∧ w.heap.size ≤ w'.heap.size := by
  obtain ⟨A, c, rfl, hlc, hcm⟩ := hv.form
  have HV := Lib.hid hv
  have HK := Lib.hid hok
  have CN := Lib.hid (fun W => new_tab W)
  have CR := Lib.hid (fun (W : World) (S : Nat → Prop) (N L t : Nat) (T : Tb) (txn : Int) (h : TabAt W S N L t T) (ht : U32 txn) (hN : N ≤ 50000) (hL : L ≤ 50000) => release_any W S N L t T txn h ht hN hL)
  obtain ⟨N, hN⟩ : ∃ N, xl.length = N := ⟨_, rfl⟩
  have HN := Lib.hid (show xl.length = N ∧ N ≤ 60 by omega)
  obtain ⟨B, hB⟩ : ∃ B, w.heap.size = B := ⟨_, rfl⟩
  have HB0 := Lib.hid hB
  rw [hN, hB]
  rw [hB] at HV
  have bN : (N : Int) ≤ 60 := by omega
  clear hv hok hlc hcm hN hl hB
  go_enter Try.func16, Try.ntmps16
  go_wp2_with fail
  (with_reducible refine (CN.out _).mono ?_)
  rintro e w1 ⟨t, S1, rfl, ht1, hs1, hb1⟩
  have HP1 := Lib.hid (show Pt w1 B (xl.take 0) t T0 S1 0 (.slice none 0 0) from ⟨.nil, ⟨0, Nat.le_refl _, ht1⟩, fun x hx => by rw [← HB0.out]; exact hs1 x hx, World.ownsRow_nil _ _ _ _, fun b hb => by cases hb⟩)
  have HB1 := Lib.hid (show Below B w w1 by rw [← HB0.out]; exact hb1)
  have HZ1 := Lib.hid (show B ≤ w1.heap.size by rw [← HB0.out]; exact hb1.size)
  clear ht1 hs1 hb1 CN
  go_wp2
  go_loopw [5, 6] (fun s5 s6 wr => ∃ (i : Nat) (A : Option Addr) (n c : Nat) (T : Tb) (S : Nat → Prop), s5 = .slice A n c ∧ s6 = .int .i64 i ∧ i ≤ N ∧ Hid (n = (whoOf (xl.take i)).length) ∧ Hid (Pt wr B (xl.take i) t T S i (.slice A n c)) ∧ Hid (Below B w wr) ∧ Hid (B ≤ wr.heap.size)) (fun _ s6 _ => N - (intOf s6).toNat)
  case atStart => exact ⟨0, none, 0, 0, T0, S1, rfl, rfl, Nat.zero_le _, Lib.hid rfl, HP1, HB1, HZ1⟩
  case round =>
    obtain ⟨i, A5, n5, c5, T, S, rfl, rfl, hi, HLEN, HP, HB, HZ⟩ := hrel
    obtain ⟨w2, rfl⟩ : ∃ w2, w2 = wr := ⟨wr, rfl⟩
    clear HP1 HB1 HZ1
    by_cases hil : i < N
    · have d1 : decide ((i : Int) < (N : Int)) = true := by simp; omega
      have d1' : decide (i < N) = true := by simp; omega
      obtain ⟨o, ho⟩ : ∃ o, xl[i]? = some o := ⟨_, List.getElem?_eq_getElem (by have := HN.out.1; omega)⟩
      obtain ⟨bk, ok, hA, hbk, hcell⟩ := HV.out.at_ ho
      subst hA
      have HTK := Lib.hid (show xl.take (i + 1) = xl.take i ++ [o] by rw [List.take_add_one, ho]; rfl)
      have HOK := Lib.hid (HK.out o (List.mem_of_getElem? ho))
      have HLT := Lib.hid (show (xl.take i).length ≤ 60 by rw [List.length_take]; omega)
      have HC := Lib.hid (fun (W : World) (hW : Below B w W) (j : Nat) (u : Value) (hj : (cLo o)[j]? = some u) => (hW.cell (p := ⟨bk, ok + i * 6 + j, none⟩) hbk).trans (hcell j u hj))
      obtain ⟨kd, ot, ok3, om⟩ := o
      obtain ⟨ky, ka, kb⟩ := ok3
      have HWM := Lib.hid (who_len (xl.take i))
      have c0 : w2.cell? ⟨bk, ok + i * 6, none⟩ = some (.int .u8 kd) := HC.out w2 HB.out 0 _ rfl
      have c1 : w2.cell? ⟨bk, ok + i * 6 + 1, none⟩ = some (.int .u32 ot) := HC.out w2 HB.out 1 _ rfl
      have c2 : w2.cell? ⟨bk, ok + i * 6 + 2, none⟩ = some (.int .u8 ky) := HC.out w2 HB.out 2 _ rfl
      have c3 : w2.cell? ⟨bk, ok + i * 6 + 3, none⟩ = some (.int .u32 ka) := HC.out w2 HB.out 3 _ rfl
      have c4 : w2.cell? ⟨bk, ok + i * 6 + 4, none⟩ = some (.int .u32 kb) := HC.out w2 HB.out 4 _ rfl
      have c5' : w2.cell? ⟨bk, ok + i * 6 + 5, none⟩ = some (.int .u8 om) := HC.out w2 HB.out 5 _ rfl
      obtain ⟨q, hq⟩ : ∃ q, (kd % 6 == 4) = q := ⟨_, rfl⟩
      have hrem : (kd.tmod 6 == 4) = q := by rw [kd_rem HOK.out.1]; exact hq
      have hw2 : IntKind.i64.wrap ((i : Int) + 1) = ((i + 1 : Nat) : Int) := by rw [IntKind.wrap_i64]; omega
      clear ho hcell
      cases q with
      | true =>
        have hk4 : kd % 6 = 4 := by simpa using hq
        obtain ⟨Nb, hNb, htb⟩ := HP.out.tab
        have CC := Lib.hid (CR.out w2 S Nb i t T ot htb HOK.out.2.1 (by omega) (by omega))
        have HTB := Lib.hid hNb
        have HK4 := Lib.hid hk4
        clear hNb htb hk4
        go_wp2_with fail
        (with_reducible refine CC.out.mono ?_)
        rintro er w3 ⟨v3, ks, T', got, rfl, ho3, hr3, hw3, ht3, hf3⟩
        obtain ⟨hx1, hx2, hx3, hx4, hx5, hx6⟩ := HP.out.release (o := ⟨kd, ot, ⟨ky, ka, kb⟩, om⟩) HZ.out HK4.out HTB.out (by have := HLT.out; omega) ho3 hr3 ht3 hf3
        have hbw3 : Below B w w3 := HB.out.trans hx6
        have hz3 : B ≤ w3.heap.size := Nat.le_trans HZ.out hx6.size
        have e1 : w3.cell? ⟨bk, ok + i * 6 + 1, none⟩ = some (.int .u32 ot) := HC.out w3 hbw3 1 _ rfl
        have CI := Lib.hid (into_any w3 B (.slice A5 n5 c5) (whoOf (xl.take i)) ot hz3 (by have := HWM.out; have := HLT.out; omega) hx4)
        clear ho3 hr3 hw3 ht3 hf3 CC
        go_wp2_with fail
        (with_reducible refine (CI.out).mono ?_)
        rintro e w4 ⟨v5, rfl, ho5, hsm5, hb5⟩
        obtain ⟨A6, c6, hv6, _, _⟩ := own_is ho5
        have HP4 := Lib.hid (Pt.note hx1 hx2 hx3 hx5 ho5 hsm5 hb5)
        have HB4 := Lib.hid (show Below B w w4 from hbw3.trans (hb5.mono hz3))
        have HZ4 := Lib.hid (show B ≤ w4.heap.size from Nat.le_trans hz3 hb5.size)
        rw [← HTK.out] at HP4
        have HL4 := Lib.hid (show (into (whoOf (xl.take i)) ot).length = (whoOf (xl.take (i + 1))).length by rw [HTK.out, whoOf_snoc])
        subst hv6
        clear hx1 hx2 hx3 hx4 hx5 hx6 ho5 hsm5 hb5 hz3 hbw3 CI c0 c1 c2 c3 c4 c5' HP HTK HC
        go_wp2
        go_roundw
        case rel => exact ⟨i + 1, A6, _, c6, _, _, rfl, by go_num, by omega, HL4, HP4, HB4, HZ4⟩
        case measure => simp [intOf]; omega
      | false =>
        have hk4 : kd % 6 ≠ 4 := by simpa using hq
        obtain ⟨Nb, hNb, htb⟩ := HP.out.tab
        have CA := Lib.hid (ask_any w2.drew S Nb i t T ot ⟨ky, ka, kb⟩ om (htb.later (below_drewN (Below.refl _ _) 1)) HOK.out.2.1 HOK.out.2.2.1 (by omega) (by omega))
        have HTB := Lib.hid hNb
        have HK4 := Lib.hid hk4
        have mixed : Try.prog.follows .mixedOrders = true := by kernel_rfl
        obtain ⟨T', hT'⟩ : ∃ T', askT T ot ⟨ky, ka, kb⟩ om = T' := ⟨_, rfl⟩
        obtain ⟨qa, hqa⟩ : ∃ qa, askB T ot ⟨ky, ka, kb⟩ om = qa := ⟨_, rfl⟩
        rw [hT', hqa] at CA
        have HT' := Lib.hid hT'
        clear hNb htb hk4 hT' hqa
        go_upto_region 10 with fail
        go_cut [46] (fun v wx => v = .bool qa ∧ Hid (AskOut w2.drew wx S (Nb + 1) (i + 1) t T'))
        case first =>
          go_region_with (go_at_call 19; (with_reducible refine CA.out.mono ?_); rintro er w6 ⟨rfl, ha6⟩; have HA6 := Lib.hid ha6; clear ha6)
          all_goals (go_wp2; go_meet; exact ⟨rfl, HA6⟩)
        case rest =>
        obtain ⟨rfl, HA6⟩ := hcut
        rename_i hKK
        refine hKK _ _ ?_
        clear hKK CA
        obtain ⟨w3, rfl⟩ : ∃ w3, w3 = wc := ⟨wc, rfl⟩
        obtain ⟨S6, h1, h2, h3⟩ := HA6.out
        have HPD : Pt w2.drew B (xl.take i) t T S i (.slice A5 n5 c5) := ⟨HP.out.run, HP.out.tab.imp fun N h => ⟨h.1, h.2.later (below_drewN (Below.refl _ _) 1)⟩, HP.out.base, HP.out.who, HP.out.far⟩
        obtain ⟨hx1, hx2, hx3, hx4, hx5, hx6⟩ := HPD.ask (o := ⟨kd, ot, ⟨ky, ka, kb⟩, om⟩) HZ.out HK4.out S6 Nb HTB.out (by rw [HT'.out]; exact h1) h2 h3
        have hbw3 : Below B w w3 := HB.out.drew.trans hx6
        have hz3 : B ≤ w3.heap.size := Nat.le_trans HZ.out hx6.size
        have e1 : w3.cell? ⟨bk, ok + i * 6 + 1, none⟩ = some (.int .u32 ot) := HC.out w3 hbw3 1 _ rfl
        have CI := Lib.hid (into_any w3 B (.slice A5 n5 c5) (whoOf (xl.take i)) ot hz3 (by have := HWM.out; have := HLT.out; omega) hx4)
        clear h1 h2 h3 HPD HA6
        go_wp2_with fail
        (with_reducible refine (CI.out).mono ?_)
        rintro e w4 ⟨v5, rfl, ho5, hsm5, hb5⟩
        obtain ⟨A6, c6, hv6, _, _⟩ := own_is ho5
        have HP4 := Lib.hid (Pt.note hx1 hx2 hx3 hx5 ho5 hsm5 hb5)
        have HB4 := Lib.hid (show Below B w w4 from hbw3.trans (hb5.mono hz3))
        have HZ4 := Lib.hid (show B ≤ w4.heap.size from Nat.le_trans hz3 hb5.size)
        rw [← HTK.out] at HP4
        have HL4 := Lib.hid (show (into (whoOf (xl.take i)) ot).length = (whoOf (xl.take (i + 1))).length by rw [HTK.out, whoOf_snoc])
        subst hv6
        clear hx1 hx2 hx3 hx4 hx5 hx6 ho5 hsm5 hb5 hz3 hbw3 CI c0 c1 c2 c3 c4 c5' HP HTK HC
        go_wp2
        go_roundw
        case rel => exact ⟨i + 1, A6, _, c6, _, _, rfl, by go_num, by omega, HL4, HP4, HB4, HZ4⟩
        case measure => simp [intOf]; omega
    · have hiN : i = N := by omega
      have d1 : decide ((i : Int) < (N : Int)) = false := by simp; omega
      have d1' : decide (i < N) = false := by simp; omega
      have htk : xl.take i = xl := by rw [hiN, ← HN.out.1, List.take_length]
      rw [htk] at HP
      subst hiN
      go_wp2
      go_ret2
      exact ⟨t, _, T, S, rfl, HP.out, HB.out, HZ.out⟩
end Go.Proofs.Ytpndcpmfcajmdaa.Lock
namespace Go.Proofs.Ytpndcpmfcajmdaa.Lock
open Go.ChangeShapes Go.WideShapes Go.ChangeAt Go.RowKit Go.IntWalk Go.Proofs.Mem Law Go.Shelf Go.Proofs.Each
set_option linter.unusedVariables false
set_option linter.unusedSimpArgs false
end Go.Proofs.Ytpndcpmfcajmdaa.Lock
namespace Go.Proofs.Ytpndcpmfcajmdaa.Lock
open Go.ChangeShapes Go.WideShapes Go.ChangeAt Go.RowKit Go.IntWalk Go.Proofs.Mem Law Go.Shelf Go.Proofs.Each
set_option linter.unusedVariables false
set_option linter.unusedSimpArgs false
theorem who_ok {l : List Lo} (h : ∀ o ∈ l, o.Ok) : ∀ x ∈ whoOf l, U32 x := fun x hx => by
  obtain ⟨o, h1, rfl⟩ := who_mem.1 hx
  exact (h o h1).2.1
end Go.Proofs.Ytpndcpmfcajmdaa.Lock
namespace Go.Proofs.Ytpndcpmfcajmdaa.Lock
open Go.ChangeShapes Go.WideShapes Go.ChangeAt Go.RowKit Go.IntWalk Go.Proofs.Mem Law Go.Shelf Go.Proofs.Each
set_option linter.unusedVariables false
set_option linter.unusedSimpArgs false
def whd (T : Tb) (x : Int) : Hd := (T.wt x).getD zHd
end Go.Proofs.Ytpndcpmfcajmdaa.Lock
