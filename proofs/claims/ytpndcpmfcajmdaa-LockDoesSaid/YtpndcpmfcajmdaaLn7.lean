import Derived.Test.YtpndcpmfcajmdaaLn1
import Derived.Test.YtpndcpmfcajmdaaLn4
import Derived.Test.YtpndcpmfcajmdaaLn6
import Derived.Deep.DeepCutAuto
import Derived.Deep.QuietTactic
namespace Go.Proofs.Ytpndcpmfcajmdaa.Lock
open Go.ChangeShapes Go.WideShapes Go.ChangeAt Go.RowKit Go.IntWalk Go.Proofs.Mem Law Go.Shelf Go.Proofs.Each
set_option linter.unusedVariables false
set_option linter.unusedSimpArgs false
def AhIs (e : En) (t m : Int) (x : Int) : Prop := (∃ md, e.hv x = some md ∧ x ≠ t ∧ tog md m = false) ∨ ∃ p ∈ e.line.takeWhile (fun q => !isT t q), p.t = x
structure AhR (e : En) (t m : Int) (l : List Int) : Prop where
  srt : l.Pairwise (· < ·)
  mem : ∀ x, x ∈ l ↔ AhIs e t m x
structure EdR (T : Tb) (fr : List Int) (ah : Int → List Int) : Prop where
  srt : fr.Pairwise (· < ·)
  mem : ∀ x, x ∈ fr ↔ (T.wt x).isSome
  ah : ∀ x k m, T.wt x = some (hdOf k m) → AhR (T.ent k) x m (ah x)
def edL (fr : List Int) (ah : Int → List Int) : List (Int × Int) := fr.flatMap fun x => (ah x).map fun y => (x, y)
theorem isT_is {t : Int} {p : Pl} : isT t p = true ↔ p.t = t := by unfold isT; simp
def Fst (T : Tb) : Prop := ∀ k p l, (T.ent k).line = p :: l → fit (T.ent k).hv p.t p.m = false
open Classical in
theorem fit_no {h : Int → Option Int} {t m : Int} (hf : fit h t m = false) : ∃ x md, h x = some md ∧ x ≠ t ∧ tog md m = false := by
  unfold fit at hf
  have := of_decide_eq_false hf
  simp only [not_forall, not_or] at this
  obtain ⟨x, md, h1, h2, h3⟩ := this
  exact ⟨x, md, h1, h2, by simpa using h3⟩
theorem tog_two {m : Int} : tog 2 m = false := by
  unfold tog; simp
theorem fst_ask {T : Tb} {t : Int} {k : Ky} {m : Int} (hi : Inv T) (hf : Fst T) : Fst (askT T t k m) := by
  unfold askT
  have hm := mdOf_is m
  generalize mdOf m = md at hm ⊢
  split
  · exact hf
  · rename_i hh
    split
    · exact hf
    · split
      · rename_i hg
        rw [Bool.and_eq_true] at hg
        intro y p l hl
        rw [set_ent] at hl ⊢
        split at hl
        · rename_i ey
          rw [if_pos ey]
          change (T.ent k).line = p :: l at hl
          obtain ⟨x, mx, h1, h2, h3⟩ := fit_no (hf k p l hl)
          have hs : ((T.ent k).hv t).isSome := by
            have := hg.2
            rw [Bool.or_eq_true] at this
            rcases this with e | e
            · exact e
            · change (T.ent k).line.isEmpty = true at e
              rw [hl] at e; cases e
          by_cases hx : x = t
          · subst hx
            obtain ⟨mt, hmt⟩ := Option.isSome_iff_exists.1 hs
            have hmd : md = 2 := by
              have h4 := hi.md k x mt hmt
              change ¬ hasE ((T.ent k).hv x) md = true at hh
              rw [hmt] at hh
              change ¬ (decide (mt = 2) || decide (mt = md)) = true at hh
              simp only [Bool.or_eq_true, decide_eq_true_eq, not_or] at hh
              omega
            exact fit_false (x := x) (md := 2) (by show fput (T.at_ k).hv x md x = some 2; rw [fput_same, hmd]) h2 tog_two
          · exact fit_false (x := x) (md := mx) (by show fput (T.at_ k).hv t md x = some mx; rw [fput_other _ _ hx]; exact h1) h2 h3
        · rename_i ey
          rw [if_neg ey]
          exact hf y p l hl
      · rename_i hg
        intro y p l hl
        rw [wait_ent, set_ent] at hl ⊢
        split at hl
        · rename_i ey
          rw [if_pos ey]
          show fit (T.ent k).hv p.t p.m = false
          change insP (T.ent k).hv ⟨t, md⟩ (T.ent k).line = p :: l at hl
          change ¬ (fit (T.ent k).hv t md && (((T.ent k).hv t).isSome || (T.ent k).line.isEmpty)) = true at hg
          have hkey : p = ⟨t, md⟩ → ((((T.ent k).hv t).isSome || (T.ent k).line.isEmpty) = true) → fit (T.ent k).hv p.t p.m = false := fun e h5 => by
            rw [h5, Bool.and_true] at hg
            rw [e]; simpa using hg
          match he : (T.ent k).line with
          | [] =>
            rw [he] at hl
            have : p = ⟨t, md⟩ := by
              have h6 := insP_perm (T.ent k).hv ⟨t, md⟩ []
              rw [hl] at h6
              exact List.mem_singleton.1 (h6.mem_iff.1 (List.mem_cons_self ..))
            exact hkey this (by rw [he]; simp)
          | q :: r =>
            have hq := hf k q r he
            rw [he] at hl
            unfold insP at hl
            split at hl
            · rename_i hs
              by_cases hqs : ((T.ent k).hv q.t).isSome = true
              · rw [List.takeWhile_cons, if_pos hqs] at hl
                injection hl with hl _
                rw [← hl]; exact hq
              · rw [List.takeWhile_cons, if_neg hqs] at hl
                injection hl with hl _
                exact hkey hl.symm (by rw [show ((T.ent k).hv t).isSome = true from hs]; rfl)
            · injection hl with hl _
              rw [← hl]; exact hq
        · rename_i ey
          rw [if_neg ey]
          exact hf y p l hl
theorem wake_first : ∀ (l : List Pl) (h : Int → Option Int) (p : Pl) (r : List Pl), (wake h l).2.1 = p :: r → fit (wake h l).1 p.t p.m = false
  | [], h, p, r, e => by rw [wake_nil] at e; cases e
  | q :: l, h, p, r, e => by
    cases hf : fit h q.t q.m with
    | true => rw [wake_yes hf] at e ⊢; exact wake_first l _ p r e
    | false =>
      rw [wake_no hf] at e ⊢
      injection e with e _
      rw [← e]; exact hf
def Nm (T : Tb) (S : Int → Prop) : Prop := ∀ k x, T.has k x = true → S x
theorem has_iff {e : En} {x : Int} : e.has x = true ↔ (∃ m, e.hv x = some m) ∨ ∃ m, (⟨x, m⟩ : Pl) ∈ e.line := by
  unfold En.has
  rw [Bool.or_eq_true, Option.isSome_iff_exists, List.any_eq_true]
  refine or_congr Iff.rfl ⟨?_, ?_⟩
  · rintro ⟨p, h1, h2⟩
    have := isT_is.1 h2
    obtain ⟨a, b⟩ := p
    change a = x at this
    subst this
    exact ⟨b, h1⟩
  · rintro ⟨m, h1⟩; exact ⟨_, h1, isT_is.2 rfl⟩
theorem rel_hasP {e : En} {t x : Int} (h : (e.rel t).1.has x = true) : e.has x = true ∧ x ≠ t := by
  obtain ⟨pre, hw⟩ := wake_form (e.cut t).line (e.cut t).hv
  have hcl : ∀ p : Pl, p ∈ (e.cut t).line → p ∈ e.line ∧ p.t ≠ t := fun p hp => by
    unfold En.cut at hp
    simpa [List.mem_filter, isT] using hp
  have hpre : ∀ p : Pl, p ∈ pre → p ∈ e.line ∧ p.t ≠ t := fun p hp => hcl p (by rw [hw.sp]; exact List.mem_append_left _ hp)
  rcases has_iff.1 h with ⟨m, h1⟩ | ⟨m, h1⟩
  · rcases hw.hv x m h1 with h2 | h2
    · change fdel e.hv t x = some m at h2
      unfold fdel at h2
      split at h2
      · cases h2
      · rename_i hne; exact ⟨has_iff.2 (.inl ⟨m, h2⟩), hne⟩
    · obtain ⟨a, b⟩ := hpre _ h2; exact ⟨has_iff.2 (.inr ⟨m, a⟩), b⟩
  · obtain ⟨a, b⟩ := hcl ⟨x, m⟩ (by rw [hw.sp]; exact List.mem_append_right _ h1)
    exact ⟨has_iff.2 (.inr ⟨m, a⟩), b⟩
theorem rel_ent {T T' : Tb} {t : Int} {ks : List Ky} {got : List Int} (ho : OfL T t ks) (hr : relAll (T.stop t) t ks = (T', got)) : ∀ y, T'.ent y = if y ∈ ks then ((T.ent y).rel t).1 else T.ent y := fun y => by
  obtain ⟨h1, _, _⟩ := relAll_form (T.stop t) t (klt_nodup ho.srt)
  rw [hr] at h1
  simp only at h1
  rw [h1]; rfl
theorem fst_rel {T T' : Tb} {t : Int} {ks : List Ky} {got : List Int} (hf : Fst T) (ho : OfL T t ks) (hr : relAll (T.stop t) t ks = (T', got)) : Fst T' := fun y p l hl => by
  rw [rel_ent ho hr] at hl ⊢
  split at hl
  · rename_i hy; rw [if_pos hy]; exact wake_first _ _ p l hl
  · rename_i hy; rw [if_neg hy]; exact hf y p l hl
theorem nm_rel {T T' : Tb} {t : Int} {ks : List Ky} {got : List Int} {S : Int → Prop} (hn : Nm T S) (ho : OfL T t ks) (hr : relAll (T.stop t) t ks = (T', got)) : Nm T' (fun x => S x ∧ x ≠ t) := fun y x hx => by
  unfold Tb.has at hx
  rw [rel_ent ho hr] at hx
  split at hx
  · rename_i hy; obtain ⟨a, b⟩ := rel_hasP hx; exact ⟨hn y x a, b⟩
  · rename_i hy
    refine ⟨hn y x hx, fun e => hy ((ho.mem y).2 ?_)⟩
    rw [e] at hx; exact hx
theorem nm_ask {T : Tb} {t : Int} {k : Ky} {m : Int} {S : Int → Prop} (hn : Nm T S) (ht : S t) : Nm (askT T t k m) S := by
  unfold askT
  split
  · exact hn
  · split
    · exact hn
    · split
      · intro y x hx
        unfold Tb.has at hx
        rw [set_ent] at hx
        split at hx
        · rcases has_iff.1 hx with ⟨a, h1⟩ | ⟨a, h1⟩
          · change fput (T.at_ k).hv t _ x = some a at h1
            unfold fput at h1
            split at h1
            · rename_i e; rw [e]; exact ht
            · exact hn k x (has_iff.2 (.inl ⟨a, h1⟩))
          · exact hn k x (has_iff.2 (.inr ⟨a, h1⟩))
        · exact hn y x hx
      · intro y x hx
        unfold Tb.has at hx
        rw [wait_ent, set_ent] at hx
        split at hx
        · rcases has_iff.1 hx with ⟨a, h1⟩ | ⟨a, h1⟩
          · exact hn k x (has_iff.2 (.inl ⟨a, h1⟩))
          · rcases List.mem_cons.1 ((insP_perm _ _ _).mem_iff.1 h1) with e | e
            · injection e with e _; rw [e]; exact ht
            · exact hn k x (has_iff.2 (.inr ⟨a, e⟩))
        · exact hn y x hx
theorem line_run {l : List Lo} {T : Tb} (h : RunR l T) : Fst T ∧ Nm T (fun x => x ∈ whoOf l) := by
  induction h with
  | nil => exact ⟨fun k p l e => (by cases e), fun k x e => (by cases e)⟩
  | snoc hr hs ih =>
    rename_i l T T' o
    have hin : ∀ x, x ∈ whoOf l → x ∈ whoOf (l ++ [o]) := fun x hx => by rw [whoOf_snoc, into_mem]; exact .inr hx
    have hself : o.t ∈ whoOf (l ++ [o]) := by rw [whoOf_snoc, into_mem]; exact .inl rfl
    unfold StepR at hs
    split at hs
    · obtain ⟨ks, got, h1, h2⟩ := hs
      exact ⟨fst_rel ih.1 h1 h2, fun k x hx => hin x (nm_rel ih.2 h1 h2 k x hx).1⟩
    · rw [hs]
      exact ⟨fst_ask (inv_run hr) ih.1, nm_ask (fun k x hx => hin x (ih.2 k x hx)) hself⟩
end Go.Proofs.Ytpndcpmfcajmdaa.Lock
namespace Go.Proofs.Ytpndcpmfcajmdaa.Lock
open Go.ChangeShapes Go.WideShapes Go.ChangeAt Go.RowKit Go.IntWalk Go.Proofs.Mem Law Go.Shelf Go.Proofs.Each
set_option linter.unusedVariables false
set_option linter.unusedSimpArgs false
theorem fr_base {B : Nat} {w w' : World} (h : Below B w w') : Fr (fun k => B ≤ k) w w' := ⟨h.os, h.tape, h.output, h.size, fun k hk hn => h.block k (by omega)⟩
structure HGat (h : Int → Option Int) (t m : Int) (left : Int → Bool) (xs : List Int) : Prop where
  mem : ∀ x, x ∈ xs ↔ (left x = false ∧ ∃ md, h x = some md ∧ x ≠ t ∧ tog md m = false)
theorem HGat.skip {h : Int → Option Int} {t m : Int} {left : Int → Bool} {xs : List Int} {x md : Int} (H : HGat h t m left xs) (hx : h x = some md) (hn : x = t ∨ tog md m = true) : HGat h t m (but left x) xs := by
  refine ⟨fun y => ?_⟩
  rw [H.mem y]
  by_cases e : y = x
  · subst e
    constructor
    · rintro ⟨_, md', h1, h2, h3⟩
      rw [hx] at h1; injection h1 with h1; subst h1
      rcases hn with h4 | h4
      · exact absurd h4 h2
      · rw [h4] at h3; cases h3
    · rintro ⟨_, md', h1, h2, h3⟩
      rw [hx] at h1; injection h1 with h1; subst h1
      rcases hn with h4 | h4
      · exact absurd h4 h2
      · rw [h4] at h3; cases h3
  · unfold but; simp [e]
theorem HGat.take {h : Int → Option Int} {t m : Int} {left : Int → Bool} {xs : List Int} {x md : Int} (H : HGat h t m left xs) (hx : h x = some md) (h1 : x ≠ t) (h2 : tog md m = false) : HGat h t m (but left x) (xs ++ [x]) := by
  refine ⟨fun y => ?_⟩
  rw [List.mem_append, List.mem_singleton, H.mem y]
  by_cases e : y = x
  · subst e
    constructor
    · intro _; exact ⟨by unfold but; simp, md, hx, h1, h2⟩
    · intro _; exact .inr rfl
  · unfold but; simp [e]
theorem cpt_of {e : En} {t m : Int} {ys : List Int} {d : Array Int} {n : Nat} (hy : ∀ x, x ∈ ys ↔ AhIs e t m x) (h1 : Sort.PermIn 0 n ys.toArray d) (h2 : Sort.SortedIn Srt.lt 0 n d) (hn : ys.length = n) : AhR e t m (Srt.cptTo d n) := by
  obtain ⟨r1, r2, r3⟩ := perm_sorted h1 h2 hn
  refine ⟨(Srt.cptTo_sorted n r3).1, fun x => ?_⟩
  rw [Srt.cptTo_mem, ← hy x, ← r1.mem_iff]
  constructor
  · rintro ⟨i, hi, rfl⟩
    rw [getElem!_pos d i (by omega)]
    exact Array.mem_toList_iff.2 (Array.getElem_mem _)
  · intro hx
    obtain ⟨i, hi, he⟩ := List.getElem_of_mem hx
    rw [Array.length_toList] at hi
    exact ⟨i, by omega, by rw [getElem!_pos d i hi]; simpa using he⟩
theorem tw_take {t : Int} : ∀ {l : List Pl} {i : Nat}, (∀ p ∈ l.take i, p.t ≠ t) → (i = l.length ∨ ∃ p, l[i]? = some p ∧ p.t = t) → l.takeWhile (fun q => !isT t q) = l.take i
  | [], i, _, _ => by simp
  | a :: l, 0, _, h2 => by
    rcases h2 with h2 | ⟨p, h2, h3⟩
    · cases h2
    · simp only [List.getElem?_cons_zero, Option.some.injEq] at h2
      subst h2
      rw [List.takeWhile_cons, if_neg (by rw [isT_is.2 h3]; decide)]
      rfl
  | a :: l, i + 1, h1, h2 => by
    have ha : a.t ≠ t := h1 a (by simp)
    rw [List.takeWhile_cons, if_pos (by rw [Bool.not_eq_true', ← Bool.not_eq_true, isT_is]; exact ha), List.take_succ_cons]
    rw [tw_take (l := l) (i := i) (fun p hp => h1 p (by rw [List.take_succ_cons]; exact List.mem_cons_of_mem _ hp)) (h2.imp (fun h => by simpa using h) (fun ⟨p, h3, h4⟩ => ⟨p, by simpa using h3, h4⟩))]
theorem ahIs_of {en : En} {t md : Int} {xs : List Int} {i : Nat} (h1 : ∀ x, x ∈ xs ↔ ∃ mx, en.hv x = some mx ∧ x ≠ t ∧ tog mx md = false) (h2 : ∀ p ∈ en.line.take i, p.t ≠ t) (h3 : i = en.line.length ∨ ∃ p, en.line[i]? = some p ∧ p.t = t) :
    ∀ x, x ∈ xs ++ (en.line.take i).map (·.t) ↔ AhIs en t md x := fun x => by
  unfold AhIs
  rw [List.mem_append, h1 x, tw_take h2 h3, List.mem_map]
theorem slice_is {w : World} {B n : Nat} {e : TypeId} {v : Value} {xs : List Value} (h : w.ownsRow B e 1 v n xs) (hn : 0 < n) : ∃ g cap, v = .slice (some ⟨g, 0, none⟩) n cap := by
  rcases h.2 with ⟨_, h0⟩ | ⟨g, cap, cur, rfl, _⟩
  · omega
  · exact ⟨g, cap, rfl⟩
def AhOut (w : World) (en : En) (t md : Int) (e : Ending) (w' : World) : Prop := ∃ (v : Value) (l : List Int), e = .returned v ∧ AhR en t md l ∧ l.length ≤ 1000000 ∧ w'.ownsRow w.heap.size 29 1 v l.length (l.map (.int .u32)) ∧ Below w.heap.size w w'
set_option maxRecDepth 100000 in
set_option maxHeartbeats 8000000 in
theorem ahead_any (w : World) (e m n : Nat) (lv : Value) (en : En) (t md : Int) (hb : Box w e #[.map (some m), lv] 86) (hf : FM KU VM w m n en.hv) (hn : n ≤ 200000) (hl : SS cPl 2 w w.heap.size lv en.line) (hll : en.line.length ≤ 200000) (hx : ∃ x, AhIs en t md x) :
    Calls Try.prog 31 #[.pointer (some ⟨e, 0, none⟩), .agg #[.int .u32 t, .int .u8 md]] w (AhOut w en t md) := by
  obtain ⟨i0, hi0, hz0, hz1, hz2⟩ := info_parts u32_iz
  have HU := Lib.hid (holders_u32 hf)
  have he := hb.lt
  have hml := hf.lt
  have b1 := new_ (Below.refl w.heap.size w) (.cells #[.int .u32 t, .int .u8 md] 72)
  obtain ⟨x3, hx3⟩ : ∃ x3, w.heap.size = x3 := ⟨_, rfl⟩
  have X3 := Box.new w #[.int .u32 t, .int .u8 md] 72
  have hs1 : (w.alloc (.cells #[.int .u32 t, .int .u8 md] 72)).heap.size = x3 + 1 := by rw [← hx3]; simp
  have hl1 := (hl.below b1)
  have hb1 := hb.later b1
  have hf1 := hf.later b1
  obtain ⟨w1, hw1⟩ : ∃ w1, w.alloc (.cells #[.int .u32 t, .int .u8 md] 72) = w1 := ⟨_, rfl⟩
  rw [hx3] at X3 b1 he hml hl1
  rw [hw1] at X3 b1 hs1 hl1 hb1 hf1
  unfold AhOut
  rw [hx3]
  obtain ⟨Al, cl, hlv, _, hlm⟩ := hl.form
  obtain ⟨nl, hnl⟩ : ∃ nl, en.line.length = nl := ⟨_, rfl⟩
  rw [hnl] at hlv hll
  have c0 : w1.cell? ⟨e, 0, none⟩ = some (.map (some m)) := by rw [hb1.cell 0]; rfl
  have HBX := Lib.hid hb1
  have HX := Lib.hid X3
  have HB := Lib.hid b1
  have HM := Lib.hid hf1
  have HSS := Lib.hid hl1
  have HNL := Lib.hid hnl
  have HEX := Lib.hid hx
  have HS1 := Lib.hid hs1
  have LTS := Lib.hid (And.intro he hml)
  have bl : (nl : Int) ≤ 200000 := by omega
  clear hb hf hl hx b1 X3 hs1 hl1 hb1 hf1 he hml hll hnl hlm
  subst hlv
  go_enter Try.func31, Try.ntmps31
  go_upto_region 2 with fail
  clear hw1 hx3
  go_wp2_with (first
    | (at_range; refine wpList_range_fm (E := KU) (V := VM) rfl _ _ rfl _ Try.underlying83 rfl HM.out ?_; intro w2 cnt hfr hcnt hbw hsz))
  rw [HS1.out] at hfr hbw hsz ⊢
  have HB2 := Lib.hid (show Below x3 w w2 from HB.out.trans (hbw.mono (by omega)))
  have HX2 := Lib.hid (HX.out.below hbw (by omega))
  have HFR := Lib.hid hfr
  have HCN := Lib.hid (show ([] : List Int).length + cnt ≤ n by simp; omega)
  have HG0 : Hid (HGat en.hv t md (fun x => (en.hv x).isSome) []) := Lib.hid ⟨fun x => ⟨fun h => (by cases h), fun ⟨h1, y, h2, _⟩ => (by rw [h2] at h1; cases h1)⟩⟩
  have HZ2 := Lib.hid (show x3 + 2 ≤ w2.heap.size by omega)
  have HBW := Lib.hid (show Below x3 w1 w2 from hbw.mono (by omega))
  clear hbw hfr hsz hcnt c0
  go_frame
  go_loopw [5, 6, 7] (fun s5 _ _ wr => ∃ (left : Int → Bool) (cnt : Nat) (A : Option Addr) (n5 c5 : Nat) (xs : List Int), s5 = .slice A n5 c5 ∧ Hid (n5 = xs.length) ∧ Hid (FR KU VM wr m (x3 + 1) n en.hv left cnt) ∧ Hid (wr.ownsRow (x3 + 2) 29 1 (.slice A n5 c5) xs.length (xs.map (.int .u32))) ∧ Hid (HGat en.hv t md left xs) ∧ Hid (xs.length + cnt ≤ n) ∧ Hid (Box wr x3 #[.int .u32 t, .int .u8 md] 72) ∧ Hid (Below x3 w wr) ∧ Hid (Below x3 w1 wr) ∧ Hid (x3 + 2 ≤ wr.heap.size)) (fun _ _ _ wr => wr.rangeLeft m (x3 + 1))
  case atStart => exact ⟨_, _, _, _, _, [], rfl, Lib.hid rfl, HFR, Lib.hid (World.ownsRow_nil _ _ _ _), HG0, HCN, HX2, HB2, HBW, HZ2⟩
  case round =>
    obtain ⟨left, cnt, A, n5, c5, xs, rfl, HN5, HFR2, HO, HG, HCN2, HX4, HB4, HBW4, HZ⟩ := hrel
    obtain ⟨w3, rfl⟩ : ∃ w3, w3 = wr := ⟨wr, rfl⟩
    clear HFR HB2 HX2 HCN HG0 HZ2 HBW
    go_wp2_with (first
      | (at_next; refine wpList_next_fm (E := KU) (V := VM) rfl _ rfl rfl HFR2.out ?_ ?_))
    · intro hl0
      have HXS := Lib.hid (show ∀ x, x ∈ xs ↔ ∃ mx, en.hv x = some mx ∧ x ≠ t ∧ tog mx md = false from fun x => by
        rw [HG.out.mem x]
        exact ⟨fun h => h.2, fun ⟨mx, h1, h2⟩ => ⟨hl0 x (ku_ok.2 (HU.out x mx h1)), mx, h1, h2⟩⟩)
      have HXL := Lib.hid (show xs.length ≤ n by have := HCN2.out; omega)
      have c1 : w3.cell? ⟨e, 1, none⟩ = some (.slice Al nl cl) := by rw [HBW4.out.cell (p := ⟨e, 1, none⟩) LTS.out.1, HBX.out.cell 1]; rfl
      clear hl0 HG HFR2 HCN2
      go_upto_region 8 with fail
      clear c1
      go_loopw [5, 9, 40] (fun s5 _ s40 wr => ∃ (i : Nat) (A : Option Addr) (n5 c5 : Nat), s5 = .slice A n5 c5 ∧ s40 = .int .i64 i ∧ i ≤ nl ∧ Hid (n5 = xs.length + i) ∧ Hid (wr.ownsRow (x3 + 2) 29 1 (.slice A n5 c5) (xs ++ (en.line.take i).map (·.t)).length ((xs ++ (en.line.take i).map (·.t)).map (.int .u32))) ∧ Hid (∀ p ∈ en.line.take i, p.t ≠ t) ∧ Hid (Box wr x3 #[.int .u32 t, .int .u8 md] 72) ∧ Hid (Below x3 w wr) ∧ Hid (Below x3 w1 wr) ∧ Hid (x3 + 2 ≤ wr.heap.size)) (fun _ _ s40 _ => nl - (intOf s40).toNat)
      case atStart => exact ⟨0, A, n5, c5, rfl, rfl, Nat.zero_le _, Lib.hid HN5.out, Lib.hid (by simpa using HO.out), Lib.hid (fun p hp => by simp at hp), HX4, HB4, HBW4, HZ⟩
      case round =>
        obtain ⟨i, A6, n6, c6, rfl, rfl, hi, HN6, HO6, HNE, HX5, HB5, HBW5, HZ5⟩ := hrel
        obtain ⟨w4, rfl⟩ : ∃ w4, w4 = wr := ⟨wr, rfl⟩
        clear HO HX4 HB4 HBW4 HZ HN5
        by_cases hil : i < nl
        · have d1 : decide ((i : Int) < (nl : Int)) = true := by simp; omega
          have d1' : decide (i < nl) = true := by simp; omega
          obtain ⟨p, hp⟩ : ∃ p, en.line[i]? = some p := ⟨_, List.getElem?_eq_getElem (by rw [HNL.out]; exact hil)⟩
          obtain ⟨bl2, ol, hA, hbl, hcell⟩ := HSS.out.at_ hp
          subst hA
          have HTK := Lib.hid (show en.line.take (i + 1) = en.line.take i ++ [p] by rw [List.take_add_one, hp]; rfl)
          obtain ⟨pt, pm⟩ := p
          have k0 : w4.cell? ⟨bl2, ol + i * 2, none⟩ = some (.int .u32 pt) := by rw [HBW5.out.cell (p := ⟨bl2, ol + i * 2, none⟩) hbl]; exact hcell 0 _ rfl
          have k1 : w4.cell? ⟨bl2, ol + i * 2 + 1, none⟩ = some (.int .u8 pm) := by rw [HBW5.out.cell (p := ⟨bl2, ol + i * 2 + 1, none⟩) hbl]; exact hcell 1 _ rfl
          have HPI := Lib.hid hp
          clear hp hcell
          go_upto_region 10 with fail
          have hb5 := new_ (Below.refl w4.heap.size w4) (.cells #[.int .u32 pt, .int .u8 pm] 72)
          have X9 := Box.new w4 #[.int .u32 pt, .int .u8 pm] 72
          have hs5 : (w4.alloc (.cells #[.int .u32 pt, .int .u8 pm] 72)).heap.size = w4.heap.size + 1 := by simp
          obtain ⟨x9, hx9⟩ : ∃ x9, w4.heap.size = x9 := ⟨_, rfl⟩
          obtain ⟨w5, hw5⟩ : ∃ w5, w4.alloc (.cells #[.int .u32 pt, .int .u8 pm] 72) = w5 := ⟨_, rfl⟩
          rw [hw5] at hb5 X9 hs5 ⊢
          rw [hx9] at hs5 X9 ⊢
          have HO5 := Lib.hid (own_below HO6.out hb5)
          have HX6 := Lib.hid (HX5.out.later hb5)
          have HBT := Lib.hid (show Below x3 w w5 from HB5.out.trans (hb5.mono (by have := HZ5.out; omega)))
          have HBW6 := Lib.hid (show Below x3 w1 w5 from HBW5.out.trans (hb5.mono (by have := HZ5.out; omega)))
          have HZ6 := Lib.hid (show x3 + 2 ≤ w5.heap.size by have := HZ5.out; omega)
          have k3 : w5.cell? ⟨x9, 0, none⟩ = some (.int .u32 pt) := by rw [X9.cell 0]; rfl
          have k4 : w5.cell? ⟨x3, 0, none⟩ = some (.int .u32 t) := by rw [HX6.out.cell 0]; rfl
          have HX9 := Lib.hid X9
          clear hb5 hs5 hx9 hw5 X9 k0 k1 HX5 HB5 HBW5 HO6
          by_cases hpt : pt = t
          · have q1 : (pt == t) = true := by simp [hpt]
            have hYY : ∀ x, x ∈ xs ++ (en.line.take i).map (·.t) ↔ AhIs en t md x := ahIs_of HXS.out HNE.out (.inr ⟨_, HPI.out, hpt⟩)
            have hown := HO5.out
            have hyl : (xs ++ (en.line.take i).map (·.t)).length ≤ 400000 := by rw [List.length_append, List.length_map, List.length_take]; have := HXL.out; omega
            clear hpt
            generalize xs ++ (en.line.take i).map (·.t) = ys at hYY hown hyl
            clear HNE HO5 HXS HN6
            have HYY := Lib.hid hYY
            have hpos : 0 < ys.length := by
              obtain ⟨z, hz⟩ := HEX.out
              exact List.length_pos_of_mem ((hYY z).2 hz)
            obtain ⟨g, cap, hsl⟩ := slice_is hown hpos
            injection hsl with e1 e2 e3
            subst e1 e2 e3
            obtain ⟨q1, q2, q3⟩ := Srt.RA.of_own hown
            have CS := Lib.hid (Srt.sort_any w5 g ys.length c6 ys.toArray q1 (by simp) (by omega))
            have BY := Lib.hid (show ys.length ≤ 1000000 by omega)
            have Q3 := Lib.hid q3
            clear q1 q2 q3 hown hYY hpos hyl
            go_wp2_with fail
            (with_reducible refine (CS.out).mono ?_)
            rintro e w6 ⟨rfl, ⟨d, p1, p2, p3⟩, p4⟩
            have CC := Lib.hid (Srt.compact_any w6 g ys.length c6 d p1 (perm_sorted p2 p3 rfl).2.1 BY.out)
            have HAR := Lib.hid (cpt_of HYY.out p2 p3 rfl)
            have P4 := Lib.hid p4
            clear p1 p2 p3 p4
            go_wp2_with fail
            (with_reducible refine (CC.out).mono ?_)
            rintro e w7 ⟨rfl, r1, r2⟩
            have R1 := Lib.hid r1
            have R2 := Lib.hid r2
            clear r1 r2
            go_wp2
            go_ret
            refine ⟨_, _, rfl, HAR.out, Nat.le_trans (Srt.cptTo_len d _) BY.out, ?_, HBT.out.trans ((P4.out.trans R2.out).to_below (fun k hk => by rw [hk]; have := Q3.out; omega) (by have := HZ6.out; omega))⟩
            exact R1.out.own (by simp) (by have := Q3.out; omega)
          · have q1 : (pt == t) = false := by simp [hpt]
            have HPT := Lib.hid hpt
            have hl6 : (xs ++ (en.line.take i).map (·.t)).length ≤ 400000 := by rw [List.length_append, List.length_map, List.length_take]; have := HXL.out; omega
            have HTL := Lib.hid (show xs ++ (en.line.take (i + 1)).map (·.t) = (xs ++ (en.line.take i).map (·.t)) ++ [pt] by rw [HTK.out, List.map_append, List.append_assoc]; rfl)
            have HTN := Lib.hid (show (xs ++ (en.line.take i).map (·.t)).length = xs.length + i by rw [List.length_append, List.length_map, List.length_take, HNL.out]; omega)
            clear hpt
            obtain ⟨ys, hys⟩ : ∃ ys, xs ++ (en.line.take i).map (·.t) = ys := ⟨_, rfl⟩
            rw [hys] at HO5 hl6 HTL HTN
            clear hys
            go_wp2_with (first
              | (at_builtin; refine wpList_push _ rfl _ _ _ rfl (x3 + 2) 29 i0 .u32 4 Try.underlying38 hi0 hz0 hz1 hz2 (.slice A6 n6 c6) ys.length ys rfl (own_below HO5.out (new_ (Below.refl _ _) (.cells #[.int .u32 pt] 29))) w5.heap.size pt rfl (cell_new w5 _ _ 0) (by unfold maxLen; omega) (by omega) (by have := HZ6.out; simp; omega) ?_; intro v9 w9 hown hb9))
            have hb9' : Below (x3 + 2) w5 w9 := ((Below.refl (x3 + 2) w5).alloc HZ6.out _).trans hb9
            obtain ⟨A9, n9, c9, rfl⟩ : ∃ A n c, v9 = .slice A n c := by
              rcases hown.2 with ⟨rfl, _⟩ | ⟨g, cap, cur, rfl, _⟩
              · exact ⟨_, _, _, rfl⟩
              · exact ⟨_, _, _, rfl⟩
            have hn9 : n9 = ys.length + 1 := by
              rcases hown.2 with ⟨e1, e2⟩ | ⟨g, cap, cur, e1, _⟩
              · simp at e2
              · injection e1 with _ e2 _
            have R2 := Lib.hid (show w9.ownsRow (x3 + 2) 29 1 (.slice A9 n9 c9) (xs ++ (en.line.take (i + 1)).map (·.t)).length ((xs ++ (en.line.take (i + 1)).map (·.t)).map (.int .u32)) by rw [HTL.out, List.length_append]; exact hown)
            have R3 := Lib.hid (show Box w9 x3 #[.int .u32 t, .int .u8 md] 72 from HX6.out.fr (fr_base hb9') (by omega))
            have R4 := Lib.hid (show Below x3 w w9 from HBT.out.trans (hb9'.mono (by omega)))
            have R5 := Lib.hid (show Below x3 w1 w9 from HBW6.out.trans (hb9'.mono (by omega)))
            have R6 := Lib.hid (show x3 + 2 ≤ w9.heap.size by have := hb9'.size; have := HZ6.out; omega)
            have HN9 := Lib.hid (show n9 = xs.length + (i + 1) by rw [hn9, HTN.out]; omega)
            have HNE2 := Lib.hid (show ∀ p ∈ en.line.take (i + 1), p.t ≠ t by
              rw [HTK.out]
              intro p hp
              rcases List.mem_append.1 hp with h1 | h1
              · exact HNE.out p h1
              · rw [List.mem_singleton.1 h1]; exact HPT.out)
            clear hown hb9 hb9' hn9 k3 k4
            go_wp2
            go_roundw
            case rel => exact ⟨i + 1, A9, n9, c9, rfl, by go_num, by omega, HN9, R2, HNE2, R3, R4, R5, R6⟩
            case measure => simp [intOf]; omega
        · have d1 : decide ((i : Int) < (nl : Int)) = false := by simp; omega
          have d1' : decide (i < nl) = false := by simp; omega
          have hYY : ∀ x, x ∈ xs ++ (en.line.take i).map (·.t) ↔ AhIs en t md x := ahIs_of HXS.out HNE.out (.inl (by rw [HNL.out]; omega))
          have hown := HO6.out
          have HBT := Lib.hid HB5.out
          have hyl : (xs ++ (en.line.take i).map (·.t)).length ≤ 400000 := by rw [List.length_append, List.length_map, List.length_take]; have := HXL.out; omega
          generalize xs ++ (en.line.take i).map (·.t) = ys at hYY hown hyl
          clear HNE HO6 HXS HN6 HB5
          have HYY := Lib.hid hYY
          have hpos : 0 < ys.length := by
            obtain ⟨z, hz⟩ := HEX.out
            exact List.length_pos_of_mem ((hYY z).2 hz)
          obtain ⟨g, cap, hsl⟩ := slice_is hown hpos
          injection hsl with e1 e2 e3
          subst e1 e2 e3
          obtain ⟨q1, q2, q3⟩ := Srt.RA.of_own hown
          have CS := Lib.hid (Srt.sort_any w4 g ys.length c6 ys.toArray q1 (by simp) (by omega))
          have BY := Lib.hid (show ys.length ≤ 1000000 by omega)
          have Q3 := Lib.hid q3
          clear q1 q2 q3 hown hYY hpos hyl
          go_wp2_with fail
          (with_reducible refine (CS.out).mono ?_)
          rintro e w6 ⟨rfl, ⟨d, p1, p2, p3⟩, p4⟩
          have CC := Lib.hid (Srt.compact_any w6 g ys.length c6 d p1 (perm_sorted p2 p3 rfl).2.1 BY.out)
          have HAR := Lib.hid (cpt_of HYY.out p2 p3 rfl)
          have P4 := Lib.hid p4
          clear p1 p2 p3 p4
          go_wp2_with fail
          (with_reducible refine (CC.out).mono ?_)
          rintro e w7 ⟨rfl, r1, r2⟩
          have R1 := Lib.hid r1
          have R2 := Lib.hid r2
          clear r1 r2
          go_wp2
          go_ret
          refine ⟨_, _, rfl, HAR.out, Nat.le_trans (Srt.cptTo_len d _) BY.out, ?_, HBT.out.trans ((P4.out.trans R2.out).to_below (fun k hk => by rw [hk]; have := Q3.out; omega) (by have := HZ5.out; omega))⟩
          exact R1.out.own (by simp) (by have := Q3.out; omega)
    · intro x mx w4 cnt' hxk hlx hfx hfr3 hlt hF3 hsz3 hen
      have ek : KU.kv x = .int .u32 x := rfl
      have em : VM.ev mx = .int .u8 mx := rfl
      rw [ek, em] at hen
      rw [ek, em]
      clear ek em
      have hS : ∀ k, k = x3 + 1 → ¬ k = x3 := fun k e => by omega
      have HX5 := Lib.hid (HX4.out.fr hF3 (by omega))
      have HB5 := Lib.hid (show Below x3 w w4 from HB4.out.trans (hF3.to_below (fun k hk => by omega) (by have := HZ.out; omega)))
      have HBW5 := Lib.hid (show Below x3 w1 w4 from HBW4.out.trans (hF3.to_below (fun k hk => by omega) (by have := HZ.out; omega)))
      have HO5 := Lib.hid (own_frS HO.out hF3 (fun b hb e => by have := (HO.out.lt b hb).1; omega))
      have HZ5 := Lib.hid (show x3 + 2 ≤ w4.heap.size by have := HZ.out; omega)
      have HFR5 := Lib.hid hfr3
      have HLT := Lib.hid (⟨hlt, HFR2.out.left_eq, hfr3.left_eq⟩ : cnt' < cnt ∧ w3.rangeLeft m (x3 + 1) = cnt ∧ w4.rangeLeft m (x3 + 1) = cnt')
      have HHX := Lib.hid hfx
      have k1 : w4.cell? ⟨x3, 0, none⟩ = some (.int .u32 t) := by rw [HX5.out.cell 0]; rfl
      have k2 : w4.cell? ⟨x3, 1, none⟩ = some (.int .u8 md) := by rw [HX5.out.cell 1]; rfl
      have CT := Lib.hid (together_any w4 mx md)
      obtain ⟨tg, htg⟩ : ∃ q, q = tog mx md := ⟨_, rfl⟩
      rw [← htg] at CT
      have HTT := Lib.hid htg
      clear hfr3 hlt hF3 hsz3 hfx hlx hxk htg hS HB4 HBW4 HZ HO HX4
      by_cases hxt : x = t
      · have d1 : decide (x = t) = true := decide_eq_true hxt
        have d1' : (x != t) = false := by simp [hxt]
        have HXT := Lib.hid hxt
        clear hxt
        go_wp2
        go_roundw
        case rel => exact ⟨but left x, cnt', A, n5, c5, xs, rfl, HN5, HFR5, HO5, Lib.hid (HG.out.skip HHX.out (.inl HXT.out)), Lib.hid (by have := HCN2.out; have := HLT.out.1; omega), HX5, HB5, HBW5, HZ5⟩
        case measure => rw [HLT.out.2.1, HLT.out.2.2]; exact HLT.out.1
      · have d1 : decide (x = t) = false := decide_eq_false hxt
        have d1' : (x != t) = true := by simp [hxt]
        have HXT := Lib.hid hxt
        clear hxt
        cases tg with
        | true =>
          go_wp2_with (first
            | (go_at_call 45; (with_reducible refine CT.out.mono ?_); rintro er w5 ⟨rfl, rfl⟩))
          go_roundw
          case rel => exact ⟨but left x, cnt', A, n5, c5, xs, rfl, HN5, HFR5, HO5, Lib.hid (HG.out.skip HHX.out (.inr HTT.out.symm)), Lib.hid (by have := HCN2.out; have := HLT.out.1; omega), HX5, HB5, HBW5, HZ5⟩
          case measure => rw [HLT.out.2.1, HLT.out.2.2]; exact HLT.out.1
        | false =>
          go_wp2_with (first
            | (go_at_call 45; (with_reducible refine CT.out.mono ?_); rintro er w5 ⟨rfl, rfl⟩)
            | (at_builtin; refine wpList_push _ rfl _ _ _ rfl (x3 + 2) 29 i0 .u32 4 Try.underlying38 hi0 hz0 hz1 hz2 (.slice A n5 c5) xs.length xs rfl (own_below HO5.out (new_ (Below.refl _ _) (.cells #[.int .u32 x] 29))) w4.heap.size x rfl (cell_new w4 _ _ 0) (by have := HCN2.out; unfold maxLen; omega) (by have := HCN2.out; omega) (by have := HZ5.out; simp; omega) ?_; intro v9 w9 hown hb9))
          have hb9' : Below (x3 + 2) w4 w9 := ((Below.refl (x3 + 2) w4).alloc HZ5.out _).trans hb9
          obtain ⟨A9, n9, c9, rfl⟩ : ∃ A n c, v9 = .slice A n c := by
            rcases hown.2 with ⟨rfl, _⟩ | ⟨g, cap, cur, rfl, _⟩
            · exact ⟨_, _, _, rfl⟩
            · exact ⟨_, _, _, rfl⟩
          have hn9 : n9 = (xs ++ [x]).length := by
            rcases hown.2 with ⟨e1, e2⟩ | ⟨g, cap, cur, e1, _⟩
            · simp at e2
            · injection e1 with _ e2 _
              rw [e2]; simp
          have hfr9 := HFR5.out.fr (fr_base hb9') (by have := LTS.out; omega) (by omega)
          have HL9 := Lib.hid hfr9.left_eq
          have R1 := Lib.hid (show FR KU VM w9 m (x3 + 1) n en.hv (but left x) cnt' from hfr9)
          have R2 := Lib.hid (show w9.ownsRow (x3 + 2) 29 1 (.slice A9 n9 c9) (xs ++ [x]).length ((xs ++ [x]).map (.int .u32)) by rw [List.length_append]; exact hown)
          have R3 := Lib.hid (show Box w9 x3 #[.int .u32 t, .int .u8 md] 72 from HX5.out.fr (fr_base hb9') (by omega))
          have R4 := Lib.hid (show Below x3 w w9 from HB5.out.trans (hb9'.mono (by omega)))
          have R5 := Lib.hid (show Below x3 w1 w9 from HBW5.out.trans (hb9'.mono (by omega)))
          have R6 := Lib.hid (show x3 + 2 ≤ w9.heap.size by have := hb9'.size; have := HZ5.out; omega)
          have HN9 := Lib.hid hn9
          clear hown hb9 hb9' hfr9 hn9 k1 k2
          go_wp2
          go_roundw
          case rel => exact ⟨but left x, cnt', A9, n9, c9, xs ++ [x], rfl, HN9, R1, R2, Lib.hid (HG.out.take HHX.out HXT.out HTT.out.symm), Lib.hid (by have := HCN2.out; have := HLT.out.1; simp; omega), R3, R4, R5, R6⟩
          case measure => rw [HLT.out.2.1, HL9.out]; exact HLT.out.1
end Go.Proofs.Ytpndcpmfcajmdaa.Lock
namespace Go.Proofs.Ytpndcpmfcajmdaa.Lock
open Go.ChangeShapes Go.WideShapes Go.ChangeAt Go.RowKit Go.IntWalk Go.Proofs.Mem Law Go.Shelf Go.Proofs.Each
set_option linter.unusedVariables false
set_option linter.unusedSimpArgs false
def lkM : List Pl → Int → Int
  | [], _ => 0
  | p :: l, x => if p.t = x then p.m else lkM l x
theorem lkM_drop {x : Int} : ∀ {l : List Pl} {i : Nat}, (∀ p ∈ l.take i, p.t ≠ x) → lkM l x = lkM (l.drop i) x
  | [], i, _ => by simp
  | p :: l, 0, _ => rfl
  | p :: l, i + 1, h => by
    rw [List.drop_succ_cons, lkM, if_neg (h p (by simp))]
    exact lkM_drop (fun q hq => h q (by rw [List.take_succ_cons]; exact List.mem_cons_of_mem _ hq))
theorem drop_at {α : Type} {l : List α} {i : Nat} {p : α} (h : l[i]? = some p) : l.drop i = p :: l.drop (i + 1) := by
  obtain ⟨hi, rfl⟩ := List.getElem?_eq_some_iff.1 h
  exact List.drop_eq_getElem_cons hi
def wo (l : List Pl) (x : Int) : List Pl := l.filter fun p => !isT x p
theorem wo_snoc (l : List Pl) (p : Pl) (x : Int) : wo (l ++ [p]) x = if p.t = x then wo l x else wo l x ++ [p] := by
  unfold wo
  rw [List.filter_append]
  by_cases h : p.t = x
  · rw [if_pos h]; simp [isT, h]
  · rw [if_neg h]; simp [isT, h]
def fitR (l : List Pl) (p : Pl) : Bool := l.all fun q => decide (q.t = p.t) || !(decide (q.m = 2) || decide (p.m = 2))
theorem want_info : (Try.prog.info? 77).map (fun i => (i.zero, i.size, i.bytes)) = some (some (.agg #[.int .u32 0, .int .u8 0]), 2, 8) := by kernel_rfl
set_option maxRecDepth 100000 in
set_option maxHeartbeats 4000000 in
theorem rmode_any (w : World) (B : Nat) (v : Value) (l : List Pl) (x : Int) (h : SS cPl 2 w B v l) (hl : l.length ≤ 100000) :
    Calls Try.prog 38 #[v, .int .u32 x] w fun e w' => e = .returned (.int .u8 (lkM l x)) ∧ w = w' := by
  obtain ⟨A, c, rfl, hlc, hcm⟩ := h.form
  obtain ⟨n, hn⟩ : ∃ n, l.length = n := ⟨_, rfl⟩
  have HN := Lib.hid hn
  have HS := Lib.hid h
  rw [hn] at hl HS ⊢
  have bn : (n : Int) ≤ 100000 := by omega
  clear h hn hlc hcm
  go_enter Try.func38, Try.ntmps38
  go_wp2
  go_loop [5] (fun s5 => ∃ i : Nat, s5 = .int .i64 i ∧ i ≤ n ∧ Hid (∀ p ∈ l.take i, p.t ≠ x)) (fun s5 => n - (intOf s5).toNat)
  case atStart => exact ⟨0, rfl, Nat.zero_le _, Lib.hid (by simp)⟩
  case round =>
    obtain ⟨i, rfl, hi, HNE⟩ := hrel
    by_cases hil : i < n
    · have d1 : decide ((i : Int) < (n : Int)) = true := by simp; omega
      have d1' : decide (i < n) = true := by simp; omega
      obtain ⟨p, hp⟩ : ∃ p, l[i]? = some p := ⟨_, List.getElem?_eq_getElem (by rw [HN.out]; exact hil)⟩
      obtain ⟨b, o, hA, hb, hc⟩ := HS.out.at_ hp
      subst hA
      have HP := Lib.hid hp
      obtain ⟨pt, pm⟩ := p
      have k0 : w.cell? ⟨b, o + i * 2, none⟩ = some (.int .u32 pt) := hc 0 _ rfl
      have k1 : w.cell? ⟨b, o + i * 2 + 1, none⟩ = some (.int .u8 pm) := hc 1 _ rfl
      clear hp hc
      by_cases hx : pt = x
      · have q1 : (pt == x) = true := by simp [hx]
        have HX := Lib.hid hx
        clear hx
        go_wp2
        go_ret
        exact ⟨by rw [lkM_drop HNE.out, drop_at HP.out, lkM, if_pos HX.out]; rfl, rfl⟩
      · have q1 : (pt == x) = false := by simp [hx]
        have HX := Lib.hid hx
        clear hx
        go_wp2
        go_round
        case rel =>
          refine ⟨i + 1, by go_num, by omega, Lib.hid ?_⟩
          rw [List.take_add_one, HP.out]
          intro p hp
          rcases List.mem_append.1 hp with h1 | h1
          · exact HNE.out p h1
          · simp at h1; rw [h1]; exact HX.out
        case measure => simp [intOf]; omega
    · have d1 : decide ((i : Int) < (n : Int)) = false := by simp; omega
      have d1' : decide (i < n) = false := by simp; omega
      go_wp2
      go_ret
      exact ⟨by rw [lkM_drop HNE.out, List.drop_eq_nil_of_le (by rw [HN.out]; omega)]; rfl, rfl⟩
set_option maxRecDepth 100000 in
set_option maxHeartbeats 4000000 in
theorem without_any (w : World) (B : Nat) (v : Value) (l : List Pl) (x : Int) (h : SS cPl 2 w B v l) (hB : B ≤ w.heap.size) (hl : l.length ≤ 100000) :
    Calls Try.prog 39 #[v, .int .u32 x] w fun e w' => ∃ v', e = .returned v' ∧ w'.ownsRow w.heap.size 77 2 v' (wo l x).length ((wo l x).flatMap cPl) ∧ Below w.heap.size w w' := by
  obtain ⟨j0, hj0, hj1, hj2, hj3⟩ := info_parts want_info
  obtain ⟨A, c, rfl, hlc, hcm⟩ := h.form
  obtain ⟨n, hn⟩ : ∃ n, l.length = n := ⟨_, rfl⟩
  have HN := Lib.hid hn
  have HS := Lib.hid (h.more hB)
  rw [hn] at hl HS ⊢
  have bn : (n : Int) ≤ 100000 := by omega
  obtain ⟨z, hz⟩ : ∃ z, w.heap.size = z := ⟨_, rfl⟩
  have HZ := Lib.hid hz
  rw [hz] at HS ⊢
  clear h hn hlc hcm hB hz
  go_enter Try.func39, Try.ntmps39
  go_wp2
  go_loopw [5, 6] (fun s5 s6 wr => ∃ (i : Nat) (A : Option Addr) (m c : Nat), s5 = .slice A m c ∧ s6 = .int .i64 i ∧ i ≤ n ∧ Hid (wr.ownsRow z 77 2 (.slice A m c) (wo (l.take i) x).length ((wo (l.take i) x).flatMap cPl)) ∧ Hid (Below z w wr)) (fun _ s6 _ => n - (intOf s6).toNat)
  case atStart => exact ⟨0, none, 0, 0, rfl, rfl, Nat.zero_le _, Lib.hid (World.ownsRow_nil _ _ _ _), Lib.hid (Below.refl _ _)⟩
  case round =>
    obtain ⟨i, A5, m5, c5, rfl, rfl, hi, HO, HB⟩ := hrel
    obtain ⟨w2, rfl⟩ : ∃ w2, w2 = wr := ⟨wr, rfl⟩
    by_cases hil : i < n
    · have d1 : decide ((i : Int) < (n : Int)) = true := by simp; omega
      have d1' : decide (i < n) = true := by simp; omega
      obtain ⟨p, hp⟩ : ∃ p, l[i]? = some p := ⟨_, List.getElem?_eq_getElem (by rw [HN.out]; exact hil)⟩
      obtain ⟨b, o, hA, hb, hc⟩ := HS.out.at_ hp
      subst hA
      have HTK := Lib.hid (show l.take (i + 1) = l.take i ++ [p] by rw [List.take_add_one, hp]; rfl)
      have HWL := Lib.hid (show (wo (l.take i) x).length ≤ i from Nat.le_trans (List.length_filter_le _ _) (by rw [List.length_take]; omega))
      obtain ⟨pt, pm⟩ := p
      have k0 : w2.cell? ⟨b, o + i * 2, none⟩ = some (.int .u32 pt) := (HB.out.cell (p := ⟨b, o + i * 2, none⟩) hb).trans (hc 0 _ rfl)
      have k1 : w2.cell? ⟨b, o + i * 2 + 1, none⟩ = some (.int .u8 pm) := (HB.out.cell (p := ⟨b, o + i * 2 + 1, none⟩) hb).trans (hc 1 _ rfl)
      clear hp hc
      by_cases hx : pt = x
      · have q1 : (pt != x) = false := by simp [hx]
        have R1 := Lib.hid (show w2.ownsRow z 77 2 (.slice A5 m5 c5) (wo (l.take (i + 1)) x).length ((wo (l.take (i + 1)) x).flatMap cPl) by rw [HTK.out, wo_snoc, if_pos hx]; exact HO.out)
        clear hx
        go_wp2
        go_roundw
        case rel => exact ⟨i + 1, A5, m5, c5, rfl, by go_num, by omega, R1, HB⟩
        case measure => simp [intOf]; omega
      · have q1 : (pt != x) = true := by simp [hx]
        have HX := Lib.hid (show wo (l.take (i + 1)) x = wo (l.take i) x ++ [⟨pt, pm⟩] by rw [HTK.out, wo_snoc, if_neg hx])
        clear hx
        obtain ⟨ys, hys⟩ : ∃ ys, wo (l.take i) x = ys := ⟨_, rfl⟩
        rw [hys] at HO HWL HX
        have HSZ := Lib.hid (show z ≤ w2.heap.size by rw [← HZ.out]; exact HB.out.size)
        clear hys
        go_wp2_with (at_builtin; refine wpList_push_ss (F := cPl) (sz := 2) _ rfl _ _ _ rfl z 77 j0 _ 8 Try.underlying73 hj0 hj1 hj2 hj3 rfl (by decide) cPl_len cPl_one _ ys rfl (own_below HO.out (new_ (Below.refl _ _) (.cells #[.int .u32 pt, .int .u8 pm] 77))) w2.heap.size ⟨pt, pm⟩ 77 rfl (Box.new w2 _ _) (by have := HWL.out; unfold maxLen; omega) (by have := HWL.out; omega) (by have := HSZ.out; simp; omega) ?_; intro v9 w9 hown ht9)
        have tt := (RowTo.of_below (new_ (Below.refl w2.heap.size w2) (.cells #[.int .u32 pt, .int .u8 pm] 77)) (.slice A5 m5 c5)).trans ht9
        obtain ⟨A9, n9, c9, rfl⟩ : ∃ A n c, v9 = .slice A n c := by
          rcases hown.2 with ⟨rfl, _⟩ | ⟨g', cap, cur, rfl, _⟩
          · exact ⟨_, _, _, rfl⟩
          · exact ⟨_, _, _, rfl⟩
        have R1 := Lib.hid (show w9.ownsRow z 77 2 (.slice A9 n9 c9) (wo (l.take (i + 1)) x).length ((wo (l.take (i + 1)) x).flatMap cPl) by rw [HX.out]; exact hown)
        have R2 := Lib.hid (HB.out.trans (tt.below (fun b hb => (HO.out.lt b hb).1) HSZ.out))
        clear hown ht9 tt k0 k1
        go_wp2
        go_roundw
        case rel => exact ⟨i + 1, A9, n9, c9, rfl, by go_num, by omega, R1, R2⟩
        case measure => simp [intOf]; omega
    · have d1 : decide ((i : Int) < (n : Int)) = false := by simp; omega
      have d1' : decide (i < n) = false := by simp; omega
      have htk : l.take i = l := by rw [show i = n by omega, ← HN.out, List.take_length]
      rw [htk] at HO
      go_wp2
      go_ret
      exact ⟨_, rfl, HO.out, HB.out⟩
set_option maxRecDepth 100000 in
set_option maxHeartbeats 4000000 in
theorem rfits_any (w : World) (B : Nat) (v : Value) (l : List Pl) (p : Pl) (h : SS cPl 2 w B v l) (hB : B ≤ w.heap.size) (hl : l.length ≤ 100000) :
    Calls Try.prog 40 #[v, .agg #[.int .u32 p.t, .int .u8 p.m]] w fun e w' => e = .returned (.bool (fitR l p)) ∧ Below w.heap.size w w' := by
  obtain ⟨A, c, rfl, hlc, hcm⟩ := h.form
  obtain ⟨n, hn⟩ : ∃ n, l.length = n := ⟨_, rfl⟩
  have HN := Lib.hid hn
  obtain ⟨t, m⟩ := p
  have b1 := new_ (Below.refl w.heap.size w) (.cells #[.int .u32 t, .int .u8 m] 77)
  have X3 := Box.new w #[.int .u32 t, .int .u8 m] 77
  have HS := Lib.hid ((h.more hB).below b1)
  obtain ⟨z, hz⟩ : ∃ z, w.heap.size = z := ⟨_, rfl⟩
  obtain ⟨w1, hw1⟩ : ∃ w1, w.alloc (.cells #[.int .u32 t, .int .u8 m] 77) = w1 := ⟨_, rfl⟩
  have hs1 : w1.heap.size = z + 1 := by rw [← hw1, ← hz]; simp
  rw [hw1] at b1 X3 HS
  rw [hz] at b1 X3 HS ⊢
  rw [hn] at hl HS ⊢
  have bn : (n : Int) ≤ 100000 := by omega
  have HX := Lib.hid X3
  have HB1 := Lib.hid b1
  have HS1 := Lib.hid hs1
  clear h hn hlc hcm hB b1 X3 hs1
  go_enter Try.func40, Try.ntmps40
  go_upto_region 1 with fail
  clear hw1 hz
  go_wp2
  go_loopw [5] (fun s5 wr => ∃ i d : Nat, s5 = .int .i64 i ∧ i ≤ n ∧ Hid (fitR (l.take i) ⟨t, m⟩ = true) ∧ Hid (wr = w1.drewN d)) (fun s5 _ => n - (intOf s5).toNat)
  case atStart => exact ⟨0, 0, rfl, Nat.zero_le _, Lib.hid rfl, Lib.hid rfl⟩
  case round =>
    obtain ⟨i, d, rfl, hi, HF, HD⟩ := hrel
    obtain ⟨w2, rfl⟩ : ∃ w2, w2 = wr := ⟨wr, rfl⟩
    by_cases hil : i < n
    · have d1 : decide ((i : Int) < (n : Int)) = true := by simp; omega
      have d1' : decide (i < n) = true := by simp; omega
      obtain ⟨p, hp⟩ : ∃ p, l[i]? = some p := ⟨_, List.getElem?_eq_getElem (by rw [HN.out]; exact hil)⟩
      obtain ⟨b, o, hA, hb, hc⟩ := HS.out.at_ hp
      subst hA
      have HTK := Lib.hid (show l.take (i + 1) = l.take i ++ [p] by rw [List.take_add_one, hp]; rfl)
      have HMEM := Lib.hid (List.mem_of_getElem? hp)
      obtain ⟨pt, pm⟩ := p
      have k0 : ∀ d', (w2.drewN d').cell? ⟨b, o + i * 2, none⟩ = some (.int .u32 pt) := fun d' => by rw [HD.out]; exact hc 0 _ rfl
      have k1 : ∀ d', (w2.drewN d').cell? ⟨b, o + i * 2 + 1, none⟩ = some (.int .u8 pm) := fun d' => by rw [HD.out]; exact hc 1 _ rfl
      have k2 : ∀ d', (w2.drewN d').cell? ⟨z, 0, none⟩ = some (.int .u32 t) := fun d' => by rw [HD.out]; exact HX.out.cell 0
      have k3 : ∀ d', (w2.drewN d').cell? ⟨z, 1, none⟩ = some (.int .u8 m) := fun d' => by rw [HD.out]; exact HX.out.cell 1
      have hft : fitR (l.take (i + 1)) ⟨t, m⟩ = (decide (pt = t) || !(decide (pm = 2) || decide (m = 2))) := by
        rw [HTK.out]
        have := HF.out
        unfold fitR at this ⊢
        rw [List.all_append, this]
        simp
      clear hp hc
      by_cases hx : pt = t
      · have q1 : (pt != t) = false := by simp [hx]
        have HFT := Lib.hid (show fitR (l.take (i + 1)) ⟨t, m⟩ = true by rw [hft]; simp [hx])
        clear hx hft
        go_upto_region 4 with fail
        go_quiet (fail)
        clear k0 k1 k2 k3
        go_wp2
        go_roundw
        case rel => exact ⟨i + 1, d + nq, by go_num, by omega, HFT, Lib.hid (by rw [HD.out]; simp [World.drewN, Nat.add_assoc])⟩
        case measure => simp [intOf]; omega
      · have q1 : (pt != t) = true := by simp [hx]
        have hnf : (decide (pm = 2) || decide (m = 2)) = true → fitR l ⟨t, m⟩ = false := fun hh => by
          rw [← Bool.not_eq_true]
          intro ha
          unfold fitR at ha
          have := List.all_eq_true.1 ha ⟨pt, pm⟩ HMEM.out
          simp only [hx, decide_false, Bool.false_or, hh] at this
          cases this
        by_cases h2 : pm = 2
        · have q2 : (pm == 2) = true := by simp [h2]
          have HNF := Lib.hid (hnf (by simp [h2]))
          clear hx hft hnf h2
          go_upto_region 4 with fail
          go_quiet (fail)
          clear k0 k1 k2 k3
          have HE := Lib.hid (show Below z w (w2.drewN nq) by rw [HD.out]; exact below_drewN (below_drewN HB1.out d) nq)
          go_wp2
          go_ret
          exact ⟨by rw [HNF.out]; rfl, HE.out⟩
        · have q2 : (pm == 2) = false := by simp [h2]
          by_cases h3 : m = 2
          · have q3 : (m == 2) = true := by simp [h3]
            have HNF := Lib.hid (hnf (by simp [h3]))
            clear hx hft hnf h2 h3
            go_upto_region 4 with fail
            go_quiet (fail)
            clear k0 k1 k2 k3
            have HE := Lib.hid (show Below z w (w2.drewN nq) by rw [HD.out]; exact below_drewN (below_drewN HB1.out d) nq)
            go_wp2
            go_ret
            exact ⟨by rw [HNF.out]; rfl, HE.out⟩
          · have q3 : (m == 2) = false := by simp [h3]
            have HFT := Lib.hid (show fitR (l.take (i + 1)) ⟨t, m⟩ = true by rw [hft]; simp [h2, h3])
            clear hx hft hnf h2 h3
            go_upto_region 4 with fail
            go_quiet (fail)
            clear k0 k1 k2 k3
            go_wp2
            go_roundw
            case rel => exact ⟨i + 1, d + nq, by go_num, by omega, HFT, Lib.hid (by rw [HD.out]; simp [World.drewN, Nat.add_assoc])⟩
            case measure => simp [intOf]; omega
    · have d1 : decide ((i : Int) < (n : Int)) = false := by simp; omega
      have d1' : decide (i < n) = false := by simp; omega
      have htk : l.take i = l := by rw [show i = n by omega, ← HN.out, List.take_length]
      rw [htk] at HF
      have HE := Lib.hid (show Below z w w2 by rw [HD.out]; exact below_drewN HB1.out d)
      go_wp2
      go_ret
      exact ⟨by rw [HF.out]; rfl, HE.out⟩
set_option maxRecDepth 100000 in
set_option maxHeartbeats 4000000 in
theorem less_key (w : World) (a b : Ky) :
    Calls Try.prog 54 #[.agg #[.int .u8 a.k, .int .u32 a.a, .int .u32 a.b], .agg #[.int .u8 b.k, .int .u32 b.a, .int .u32 b.b]] w fun e w' => e = .returned (.bool (decide (klt a b))) ∧ Below w.heap.size w w' := by
  obtain ⟨a1, a2, a3⟩ := a
  obtain ⟨b1, b2, b3⟩ := b
  have n1 := new_ (Below.refl w.heap.size w) (.cells #[.int .u8 a1, .int .u32 a2, .int .u32 a3] 31)
  have n2 := new_ n1 (.cells #[.int .u8 b1, .int .u32 b2, .int .u32 b3] 31)
  have X2 := (Box.new w #[.int .u8 a1, .int .u32 a2, .int .u32 a3] 31).alloc (.cells #[.int .u8 b1, .int .u32 b2, .int .u32 b3] 31)
  have X3 := Box.new (w.alloc (.cells #[.int .u8 a1, .int .u32 a2, .int .u32 a3] 31)) #[.int .u8 b1, .int .u32 b2, .int .u32 b3] 31
  obtain ⟨r, hr⟩ : ∃ r, decide (klt ⟨a1, a2, a3⟩ ⟨b1, b2, b3⟩) = r := ⟨_, rfl⟩
  rw [hr]
  have HR := Lib.hid hr
  obtain ⟨w2, hw2⟩ : ∃ w2, (w.alloc (.cells #[.int .u8 a1, .int .u32 a2, .int .u32 a3] 31)).alloc (.cells #[.int .u8 b1, .int .u32 b2, .int .u32 b3] 31) = w2 := ⟨_, rfl⟩
  obtain ⟨z, hz⟩ : ∃ z, w.heap.size = z := ⟨_, rfl⟩
  have hs : (w.alloc (.cells #[.int .u8 a1, .int .u32 a2, .int .u32 a3] 31)).heap.size = z + 1 := by rw [← hz]; simp
  rw [hw2] at n2 X2 X3
  rw [hs] at X3
  rw [hz] at X2 n2 ⊢
  have HB := Lib.hid n2
  have c20 : w2.cell? ⟨z, 0, none⟩ = some (.int .u8 a1) := X2.cell 0
  have c21 : w2.cell? ⟨z, 1, none⟩ = some (.int .u32 a2) := X2.cell 1
  have c22 : w2.cell? ⟨z, 2, none⟩ = some (.int .u32 a3) := X2.cell 2
  have c30 : w2.cell? ⟨z + 1, 0, none⟩ = some (.int .u8 b1) := X3.cell 0
  have c31 : w2.cell? ⟨z + 1, 1, none⟩ = some (.int .u32 b2) := X3.cell 1
  have c32 : w2.cell? ⟨z + 1, 2, none⟩ = some (.int .u32 b3) := X3.cell 2
  clear n1 n2 X2 X3 hs hr
  by_cases h1 : a1 = b1
  · have q1 : (a1 != b1) = false := by simp [h1]
    by_cases h2 : a2 = b2
    · have q2 : (a2 != b2) = false := by simp [h2]
      have HE := Lib.hid (show decide (a3 < b3) = r by rw [← HR.out]; unfold klt; simp [h1, h2])
      clear h1 h2
      go_enter Try.func54, Try.ntmps54
      go_wp2
      go_ret
      exact ⟨by rw [HE.out]; rfl, HB.out⟩
    · have q2 : (a2 != b2) = true := by simp [h2]
      have HE := Lib.hid (show decide (a2 < b2) = r by rw [← HR.out]; unfold klt; simp [h1, h2])
      clear h1 h2
      go_enter Try.func54, Try.ntmps54
      go_wp2
      go_ret
      exact ⟨by rw [HE.out]; rfl, HB.out⟩
  · have q1 : (a1 != b1) = true := by simp [h1]
    have HE := Lib.hid (show decide (a1 < b1) = r by rw [← HR.out]; unfold klt; simp [h1])
    clear h1
    go_enter Try.func54, Try.ntmps54
    go_wp2
    go_ret
    exact ⟨by rw [HE.out]; rfl, HB.out⟩
end Go.Proofs.Ytpndcpmfcajmdaa.Lock
namespace Go.Proofs.Ytpndcpmfcajmdaa.Lock
open Go.ChangeShapes Go.WideShapes Go.ChangeAt Go.RowKit Go.IntWalk Go.Proofs.Mem Law Go.Shelf Go.Proofs.Each
set_option linter.unusedVariables false
set_option linter.unusedSimpArgs false
theorem key_ways (a1 b1 a2 b2 a3 b3 : Int) : ((a1 = b1) = True ∧ (a2 = b2) = True ∧ (a3 = b3) = True) ∨ (a1 = b1) = False ∨ ((a1 = b1) = True ∧ (a2 = b2) = False) ∨ ((a1 = b1) = True ∧ (a2 = b2) = True ∧ (a3 = b3) = False) := by
  by_cases h1 : a1 = b1 <;> by_cases h2 : a2 = b2 <;> by_cases h3 : a3 = b3 <;> simp [h1, h2, h3]
end Go.Proofs.Ytpndcpmfcajmdaa.Lock
namespace Go.Proofs.Ytpndcpmfcajmdaa.Lock
open Go.ChangeShapes Go.WideShapes Go.ChangeAt Go.RowKit Go.IntWalk Go.Proofs.Mem Law Go.Shelf Go.Proofs.Each
set_option linter.unusedVariables false
set_option linter.unusedSimpArgs false
structure Rk where
  k : Ky
  h : List Pl
  l : List Pl
  ha : Option Addr
  hc : Nat
  la : Option Addr
  lc : Nat
def Rk.hv (e : Rk) : Value := .slice e.ha e.h.length e.hc
def Rk.lv (e : Rk) : Value := .slice e.la e.l.length e.lc
def cRk (e : Rk) : List Value := [.int .u8 e.k.k, .int .u32 e.k.a, .int .u32 e.k.b, e.hv, e.lv]
def Rk.new (k : Ky) : Rk := ⟨k, [], [], none, 0, none, 0⟩
theorem cRk_len (x : Rk) : (cRk x).length = 5 := rfl
theorem cRk_one (y : Rk) : ∀ u ∈ cRk y, u.oneCell' = true := by
  intro u hu
  simp [cRk, Rk.hv, Rk.lv] at hu
  rcases hu with rfl | rfl | rfl | rfl | rfl <;> rfl
theorem rk_info : (Try.prog.info? 75).map (fun i => (i.zero, i.size, i.bytes)) = some (some (.agg #[.int .u8 0, .int .u32 0, .int .u32 0, .slice none 0 0, .slice none 0 0]), 5, 64) := by kernel_rfl
structure RkAt (w : World) (R : Nat → Prop) (e : Rk) : Prop where
  h : w.ownsRow 0 77 2 e.hv e.h.length (e.h.flatMap cPl)
  l : w.ownsRow 0 77 2 e.lv e.l.length (e.l.flatMap cPl)
  rh : ∀ b, e.hv.ownBlock = some b → R b
  rl : ∀ b, e.lv.ownBlock = some b → R b
structure RTab (w : World) (R : Nat → Prop) (tb : Nat) (L : List Rk) : Prop where
  ex : ∃ A c, Box w tb #[.slice A L.length c] 62 ∧ w.ownsRow 0 75 5 (.slice A L.length c) L.length (L.flatMap cRk) ∧ ∀ b, (Value.slice A L.length c).ownBlock = some b → R b
  rt : R tb
  it : ∀ e ∈ L, RkAt w R e
  old : ∀ x, R x → x < w.heap.size
section
variable {w w' : World} {R S : Nat → Prop} {tb : Nat} {L : List Rk} {e : Rk}
theorem RkAt.fr (h : RkAt w R e) (hf : Fr S w w') (hr : ∀ x, R x → ¬ S x) : RkAt w' R e :=
  ⟨own_frS h.h hf (fun b hb => hr b (h.rh b hb)), own_frS h.l hf (fun b hb => hr b (h.rl b hb)), h.rh, h.rl⟩
theorem RkAt.mono (h : RkAt w R e) (hS : ∀ x, R x → S x) : RkAt w S e := ⟨h.h, h.l, fun b hb => hS b (h.rh b hb), fun b hb => hS b (h.rl b hb)⟩
theorem RTab.far (h : RTab w R tb L) (hf : Fr S w w') (hr : ∀ x, R x → ¬ S x) : RTab w' R tb L := by
  obtain ⟨A, c, h1, h2, h3⟩ := h.ex
  exact ⟨⟨A, c, h1.fr hf (hr _ h.rt), own_frS h2 hf (fun b hb => hr b (h3 b hb)), h3⟩, h.rt, fun e he => (h.it e he).fr hf hr, fun x hx => Nat.lt_of_lt_of_le (h.old x hx) hf.size⟩
theorem RTab.later (h : RTab w R tb L) (hb : Below w.heap.size w w') : RTab w' R tb L := h.far (S := fun _ => False) (Fr.of_below hb) (fun _ _ => id)
theorem RkAt.ss_l (h : RkAt w R e) : SS cPl 2 w w.heap.size e.lv e.l := SS.of_own cPl_len h.l
theorem row_ne_box {n sz b g : Nat} {t t' : TypeId} {v : Value} {xs : List Value} {C : Array Value} (h : w.ownsRow b t sz v n xs) (hb : Box w g C t') (hne : t ≠ t') : v.ownBlock ≠ some g := fun hv => by
  rcases h.2 with ⟨rfl, _⟩ | ⟨g', cap, cur, rfl, _, hg, _⟩
  · cases hv
  · injection hv with hv
    subst hv
    have hh : w.heap[g']? = some (.cells C t' (0, 0)) := hb
    rw [hg] at hh
    injection hh with hh
    injection hh with _ hh _
    exact hne hh
end
def atI (L : List Rk) (k : Ky) : Nat := (L.takeWhile fun e => decide (klt e.k k)).length
def atT (L : List Rk) (k : Ky) : List Rk := match L[atI L k]? with
  | some e => if e.k = k then L else L.take (atI L k) ++ [Rk.new k] ++ L.drop (atI L k)
  | none => L.take (atI L k) ++ [Rk.new k] ++ L.drop (atI L k)
theorem tw_len {α : Type} {q : α → Bool} : ∀ {l : List α} {i : Nat}, (∀ p ∈ l.take i, q p = true) → (i = l.length ∨ ∃ p, l[i]? = some p ∧ q p = false) → (l.takeWhile q).length = i
  | [], i, _, h => by
    rcases h with h | ⟨p, h, _⟩
    · simpa using h.symm
    · cases h
  | a :: l, 0, _, h2 => by
    rcases h2 with h2 | ⟨p, h2, h3⟩
    · cases h2
    · simp only [List.getElem?_cons_zero, Option.some.injEq] at h2
      subst h2
      rw [List.takeWhile_cons, if_neg (by rw [h3]; decide)]
      rfl
  | a :: l, i + 1, h1, h2 => by
    rw [List.takeWhile_cons, if_pos (h1 a (by simp)), List.length_cons]
    rw [tw_len (l := l) (i := i) (fun p hp => h1 p (by rw [List.take_succ_cons]; exact List.mem_cons_of_mem _ hp)) (h2.imp (fun h => by simpa using h) (fun ⟨p, h3, h4⟩ => ⟨p, by simpa using h3, h4⟩))]
theorem tw_le {α : Type} {q : α → Bool} {l : List α} : (l.takeWhile q).length ≤ l.length := (List.takeWhile_sublist q).length_le
theorem ss_drop {α : Type} {F : α → List Value} {sz : Nat} {w : World} {B b off c n : Nat} {xs : List α} (h : SS F sz w B (.slice (some ⟨b, off, none⟩) n c) xs) (k : Nat) (hk : k ≤ n) : SS F sz w B (.slice (some ⟨b, off + k * sz, none⟩) (n - k) (c - k)) (xs.drop k) := by
  obtain ⟨A', c', e, h1, h2, h3⟩ := h
  injection e with e1 e2 e3
  subst e1 e2 e3
  refine ⟨_, _, by rw [List.length_drop], by rw [List.length_drop]; omega, by omega, fun i x hx => ?_⟩
  rw [List.getElem?_drop] at hx
  obtain ⟨b', off', e', hb, hc⟩ := h3 _ x hx
  injection e' with e'
  injection e' with e1 e2
  subst e1 e2
  refine ⟨b, off + k * sz, rfl, hb, fun j u hu => ?_⟩
  rw [← hc j u hu]
  congr 2
  rw [Nat.add_mul]; omega
theorem ss_none {α : Type} {F : α → List Value} {sz : Nat} {w : World} {B c : Nat} {A : Option Addr} (hc : c ≤ maxLen) : SS F sz w B (.slice A 0 c) ([] : List α) := ⟨A, c, rfl, Nat.zero_le _, hc, fun i x h => by simp at h⟩
theorem own_slice {w : World} {b n sz : Nat} {e : TypeId} {v : Value} {xs : List Value} (h : w.ownsRow b e sz v n xs) : ∃ A n c, v = .slice A n c := by
  rcases h.2 with ⟨rfl, _⟩ | ⟨g', cap, cur, rfl, _⟩
  · exact ⟨_, _, _, rfl⟩
  · exact ⟨_, _, _, rfl⟩
theorem at_fin {w w1 w4 : World} {R : Nat → Prop} {tb z i : Nat} {L : List Rk} {k : Ky} (hT : RTab w1 R tb L) (hB4 : Below w1.heap.size w1 w4) (hs : w1.heap.size = z + 1) (hB1 : Below z w w1) (hz : w.heap.size = z) (hold : ∀ x, R x → x < z) (hAI : atI L k = i) (hAT : atT L k = L.take i ++ [Rk.new k] ++ L.drop i)
    (w7 : World) (v3 : Value) (hb : Below w4.heap.size w4 w7) (ho : w7.ownsRow w4.heap.size 75 5 v3 (L.take i ++ [Rk.new k] ++ L.drop i).length ((L.take i ++ [Rk.new k] ++ L.drop i).flatMap cRk)) :
    Ending.returned (.int .i64 i) = .returned (.int .i64 (atI L k)) ∧ ∃ R', RTab (w7.setCell ⟨tb, 0, none⟩ v3) R' tb (atT L k) ∧ Fr R w (w7.setCell ⟨tb, 0, none⟩ v3) ∧ ∀ x, R' x → R x ∨ z ≤ x := by
  have hb7 : Below w1.heap.size w1 w7 := hB4.trans (hb.mono hB4.size)
  have h7 := hT.later hb7
  obtain ⟨A, c, hbx, _, _⟩ := h7.ex
  have hne : v3.ownBlock ≠ some tb := row_ne_box ho hbx (by decide)
  have hz4 : z ≤ w4.heap.size := by have := hB4.size; omega
  rw [hAI, hAT]
  generalize hM : L.take i ++ [Rk.new k] ++ L.drop i = M at ho
  have hpos : 0 < M.length := by rw [← hM]; simp; omega
  obtain ⟨g, cap, rfl⟩ : ∃ g cap, v3 = .slice (some ⟨g, 0, none⟩) M.length cap := by
    rcases ho.2 with ⟨_, h0⟩ | ⟨g, cap, cur, rfl, _⟩
    · omega
    · exact ⟨g, cap, rfl⟩
  have hg := ho.lt g rfl
  refine ⟨rfl, fun x => R x ∨ x = g, ⟨⟨some ⟨g, 0, none⟩, cap, hbx.set_ 0 _, own_far_ (own_lower ho (Nat.zero_le _)) (p := ⟨tb, 0, none⟩) hne _, fun b hb' => .inr (by injection hb' with hb'; exact hb'.symm)⟩, .inl h7.rt, fun e he => ?_, ?_⟩, ?_, ?_⟩
  · have hfr : Fr (fun x => x = tb) w7 (w7.setCell ⟨tb, 0, none⟩ (.slice (some ⟨g, 0, none⟩) M.length cap)) := (Fr.refl (fun x => x = tb) w7).setCell (p := ⟨tb, 0, none⟩) (.inl rfl) _
    rw [← hM] at he
    rcases List.mem_append.1 he with h1 | h1
    · rcases List.mem_append.1 h1 with h2 | h2
      · have h3 := h7.it e (List.mem_of_mem_take h2)
        exact ⟨own_frS h3.h hfr (fun b hb e => row_ne_box h3.h hbx (by decide) (by rw [hb, e])), own_frS h3.l hfr (fun b hb e => row_ne_box h3.l hbx (by decide) (by rw [hb, e])), fun b hb => .inl (h3.rh b hb), fun b hb => .inl (h3.rl b hb)⟩
      · rw [List.mem_singleton.1 h2]
        exact ⟨World.ownsRow_nil _ _ _ _, World.ownsRow_nil _ _ _ _, fun b hb => (by cases hb), fun b hb => (by cases hb)⟩
    · have h3 := h7.it e (List.mem_of_mem_drop h1)
      exact ⟨own_frS h3.h hfr (fun b hb e => row_ne_box h3.h hbx (by decide) (by rw [hb, e])), own_frS h3.l hfr (fun b hb e => row_ne_box h3.l hbx (by decide) (by rw [hb, e])), fun b hb => .inl (h3.rh b hb), fun b hb => .inl (h3.rl b hb)⟩
  · rintro x (hx | hx)
    · have := h7.old x hx; simpa [World.setCell] using this
    · subst hx; have := hg.2; simpa [World.setCell] using this
  · have f1 : Fr R w w1 := ⟨hB1.os, hB1.tape, hB1.output, hB1.size, fun k hk hn => hB1.block k (by omega)⟩
    have f2 : Fr R w1 w7 := ⟨hb7.os, hb7.tape, hb7.output, hb7.size, fun k hk hn => hb7.block k hk⟩
    exact (f1.trans f2).setCell (p := ⟨tb, 0, none⟩) (.inl hT.rt) _
  · rintro x (hx | hx)
    · exact .inl hx
    · subst hx; right; have := hg.1; omega
theorem fr_two {w w1 w4 : World} {R : Nat → Prop} {z : Nat} (hB1 : Below z w w1) (hz : w.heap.size = z) (hB4 : Below w1.heap.size w1 w4) : Fr R w w4 :=
  Fr.trans (b := w1) ⟨hB1.os, hB1.tape, hB1.output, hB1.size, fun k hk hn => hB1.block k (by omega)⟩ ⟨hB4.os, hB4.tape, hB4.output, hB4.size, fun k hk hn => hB4.block k hk⟩
def AtOut (w : World) (R : Nat → Prop) (tb : Nat) (L : List Rk) (k : Ky) (e : Ending) (w' : World) : Prop := e = .returned (.int .i64 (atI L k)) ∧ ∃ R', RTab w' R' tb (atT L k) ∧ Fr R w w' ∧ ∀ x, R' x → R x ∨ w.heap.size ≤ x
set_option maxRecDepth 100000 in
set_option maxHeartbeats 16000000 in
theorem at_any (w : World) (R : Nat → Prop) (tb : Nat) (L : List Rk) (k : Ky) (h : RTab w R tb L) (hl : L.length ≤ 10000) :
    Calls Try.prog 41 #[.pointer (some ⟨tb, 0, none⟩), .agg #[.int .u8 k.k, .int .u32 k.a, .int .u32 k.b]] w (AtOut w R tb L k) := by
  obtain ⟨j0, hj0, hj1, hj2, hj3⟩ := info_parts rk_info
  have b1 := new_ (Below.refl w.heap.size w) (.cells #[.int .u8 k.k, .int .u32 k.a, .int .u32 k.b] 31)
  have X3 := Box.new w #[.int .u8 k.k, .int .u32 k.a, .int .u32 k.b] 31
  have h1 := h.later b1
  obtain ⟨z, hz⟩ : ∃ z, w.heap.size = z := ⟨_, rfl⟩
  obtain ⟨w1, hw1⟩ : ∃ w1, w.alloc (.cells #[.int .u8 k.k, .int .u32 k.a, .int .u32 k.b] 31) = w1 := ⟨_, rfl⟩
  have hs1 : w1.heap.size = z + 1 := by rw [← hw1, ← hz]; simp
  rw [hw1] at b1 X3 h1
  rw [hz] at b1 X3
  have HX := Lib.hid X3
  have HB1 := Lib.hid b1
  have HS1 := Lib.hid hs1
  have HT := Lib.hid h1
  have HOLD := Lib.hid (show ∀ x, R x → x < z from fun x hx => by rw [← hz]; exact h.old x hx)
  unfold AtOut
  rw [hz]
  have HZ := Lib.hid hz
  obtain ⟨A, c, hbx, hown, hown2⟩ := h1.ex
  have HBX := Lib.hid hbx
  have HOW := Lib.hid hown
  have HOR := Lib.hid hown2
  have HSS := Lib.hid (SS.of_own cRk_len hown)
  have HFM := Lib.hid (show (A = none ∧ c = 0) ∨ ∃ g, A = some ⟨g, 0, none⟩ by
    rcases hown.2 with ⟨h1, _⟩ | ⟨g, cap, cur, h1, _⟩
    · injection h1 with h1 _ h3; exact .inl ⟨h1, h3⟩
    · injection h1 with h1 _ _; exact .inr ⟨g, h1⟩)
  have HCC := Lib.hid (show L.length ≤ c ∧ c ≤ 9223372036854775807 by
    obtain ⟨_, c', h1, h2, h3⟩ := (SS.of_own cRk_len hown).form
    injection h1 with _ _ h1
    subst h1; unfold maxLen at h3; exact ⟨h2, h3⟩)
  obtain ⟨n, hn⟩ : ∃ n, L.length = n := ⟨_, rfl⟩
  have HN := Lib.hid hn
  rw [hn] at hl HBX HOW HSS HOR HCC
  have bn : (n : Int) ≤ 10000 := by omega
  have CL := Lib.hid (fun (W : World) (a : Ky) => less_key W a k)
  have mixed : Try.prog.follows .mixedOrders = true := by kernel_rfl
  clear h h1 b1 X3 hs1 hbx hown hown2 hn
  go_enter Try.func41, Try.ntmps41
  go_upto_region 1 with fail
  clear hw1 hz
  go_wp2
  go_loopw [5] (fun s5 wr => ∃ i : Nat, s5 = .int .i64 i ∧ i ≤ n ∧ Hid (∀ e ∈ L.take i, decide (klt e.k k) = true) ∧ Hid (Below w1.heap.size w1 wr)) (fun s5 _ => n - (intOf s5).toNat)
  case atStart => exact ⟨0, rfl, Nat.zero_le _, Lib.hid (by simp), Lib.hid (Below.refl _ _)⟩
  case round =>
    obtain ⟨i, rfl, hi, HK, HB⟩ := hrel
    obtain ⟨w2, rfl⟩ : ∃ w2, w2 = wr := ⟨wr, rfl⟩
    have c0 : ∀ d, (w2.drewN d).cell? ⟨tb, 0, none⟩ = some (.slice A n c) := fun d => ((HBX.out.later HB.out).later (below_drewN (Below.refl _ _) d)).cell 0
    have k0 : ∀ d, (w2.drewN d).cell? ⟨z, 0, none⟩ = some (.int .u8 k.k) := fun d => ((HX.out.later HB.out).later (below_drewN (Below.refl _ _) d)).cell 0
    have k1 : ∀ d, (w2.drewN d).cell? ⟨z, 1, none⟩ = some (.int .u32 k.a) := fun d => ((HX.out.later HB.out).later (below_drewN (Below.refl _ _) d)).cell 1
    have k2 : ∀ d, (w2.drewN d).cell? ⟨z, 2, none⟩ = some (.int .u32 k.b) := fun d => ((HX.out.later HB.out).later (below_drewN (Below.refl _ _) d)).cell 2
    by_cases hil : i < n
    · have d1 : decide ((i : Int) < (n : Int)) = true := by simp; omega
      have d1' : decide (i < n) = true := by simp; omega
      obtain ⟨e, he⟩ : ∃ e, L[i]? = some e := ⟨_, List.getElem?_eq_getElem (by rw [HN.out]; exact hil)⟩
      obtain ⟨b, o, hA, hb, hc⟩ := HSS.out.at_ he
      subst hA
      have HE := Lib.hid he
      have HC5 := Lib.hid hc
      have HTK := Lib.hid (show L.take (i + 1) = L.take i ++ [e] by rw [List.take_add_one, he]; rfl)
      obtain ⟨ek, eh, el, eha, ehc, ela, elc⟩ := e
      have l0 : ∀ d, (w2.drewN d).cell? ⟨b, o + i * 5, none⟩ = some (.int .u8 ek.k) := fun d => (HB.out.cell (p := ⟨b, o + i * 5, none⟩) hb).trans (hc 0 _ rfl)
      have l1 : ∀ d, (w2.drewN d).cell? ⟨b, o + i * 5 + 1, none⟩ = some (.int .u32 ek.a) := fun d => (HB.out.cell (p := ⟨b, o + i * 5 + 1, none⟩) hb).trans (hc 1 _ rfl)
      have l2 : ∀ d, (w2.drewN d).cell? ⟨b, o + i * 5 + 2, none⟩ = some (.int .u32 ek.b) := fun d => (HB.out.cell (p := ⟨b, o + i * 5 + 2, none⟩) hb).trans (hc 2 _ rfl)
      clear he hc
      obtain ⟨q, hq⟩ : ∃ q, decide (klt ek k) = q := ⟨_, rfl⟩
      have CC := Lib.hid (CL.out w2.drew ek)
      rw [hq] at CC
      have HQ := Lib.hid hq
      have m0 : w2.cell? ⟨tb, 0, none⟩ = some (.slice (some ⟨b, o, none⟩) n c) := c0 0
      have m1 : w2.cell? ⟨z, 0, none⟩ = some (.int .u8 k.k) := k0 0
      have m2 : w2.cell? ⟨z, 1, none⟩ = some (.int .u32 k.a) := k1 0
      have m3 : w2.cell? ⟨z, 2, none⟩ = some (.int .u32 k.b) := k2 0
      have m4 : w2.cell? ⟨b, o + i * 5, none⟩ = some (.int .u8 ek.k) := l0 0
      have m5 : w2.cell? ⟨b, o + i * 5 + 1, none⟩ = some (.int .u32 ek.a) := l1 0
      have m6 : w2.cell? ⟨b, o + i * 5 + 2, none⟩ = some (.int .u32 ek.b) := l2 0
      clear hq c0 k0 k1 k2 l0 l1 l2
      go_upto_region 2 with fail
      go_cut [25] (fun v wx => v = .bool q ∧ Hid (Below w2.heap.size w2 wx))
      case first =>
        go_region_with (go_at_call 54; (with_reducible refine CC.out.mono ?_); rintro er w3 ⟨rfl, hb3⟩; have HB3 := Lib.hid (show Below w2.heap.size w2 w3 from (below_drewN (Below.refl _ _) 1).trans hb3); clear hb3)
        all_goals (go_wp2; go_meet; exact ⟨rfl, HB3⟩)
      case rest =>
      obtain ⟨rfl, HB2'⟩ := hcut
      rename_i hKK
      refine hKK _ _ ?_
      obtain ⟨w3, rfl⟩ : ∃ w3, w3 = wc := ⟨wc, rfl⟩
      have HB3 := Lib.hid (show Below w1.heap.size w1 w3 from HB.out.trans (HB2'.out.mono HB.out.size))
      clear hKK CC m0 m1 m2 m3 m4 m5 m6 HB2' HB
      cases q with
      | true =>
        have HK2 := Lib.hid (show ∀ e ∈ L.take (i + 1), decide (klt e.k k) = true by
          rw [HTK.out]
          intro e he
          rcases List.mem_append.1 he with h1 | h1
          · exact HK.out e h1
          · rw [List.mem_singleton.1 h1]; exact HQ.out)
        go_wp2
        go_roundw
        case rel => exact ⟨i + 1, by go_num, by omega, HK2, HB3⟩
        case measure => simp [intOf]; omega
      | false =>
        have HAI := Lib.hid (show atI L k = i from tw_len HK.out (.inr ⟨_, HE.out, HQ.out⟩))
        obtain ⟨r, hr⟩ : ∃ r, decide (ek = k) = r := ⟨_, rfl⟩
        have HRT := Lib.hid (show r = true → atT L k = L from fun h => by unfold atT; rw [HAI.out, HE.out]; exact if_pos (of_decide_eq_true (hr.trans h)))
        have HRF := Lib.hid (show r = false → atT L k = L.take i ++ [Rk.new k] ++ L.drop i from fun h => by unfold atT; rw [HAI.out, HE.out]; exact if_neg (of_decide_eq_false (hr.trans h)))
        have HRR := Lib.hid (show r = decide (ek.k = k.k ∧ ek.a = k.a ∧ ek.b = k.b) by
          rw [← hr]; refine decide_eq_decide.2 ⟨fun h => by rw [h]; exact ⟨rfl, rfl, rfl⟩, fun ⟨h1, h2, h3⟩ => ?_⟩
          obtain ⟨a1, a2, a3⟩ := ek; obtain ⟨b1, b2, b3⟩ := k; simp only at h1 h2 h3; rw [h1, h2, h3])
        have c0 : ∀ d, (w3.drewN d).cell? ⟨tb, 0, none⟩ = some (.slice (some ⟨b, o, none⟩) n c) := fun d => ((HBX.out.later HB3.out).later (below_drewN (Below.refl _ _) d)).cell 0
        have k0 : ∀ d, (w3.drewN d).cell? ⟨z, 0, none⟩ = some (.int .u8 k.k) := fun d => ((HX.out.later HB3.out).later (below_drewN (Below.refl _ _) d)).cell 0
        have k1 : ∀ d, (w3.drewN d).cell? ⟨z, 1, none⟩ = some (.int .u32 k.a) := fun d => ((HX.out.later HB3.out).later (below_drewN (Below.refl _ _) d)).cell 1
        have k2 : ∀ d, (w3.drewN d).cell? ⟨z, 2, none⟩ = some (.int .u32 k.b) := fun d => ((HX.out.later HB3.out).later (below_drewN (Below.refl _ _) d)).cell 2
        have l0 : ∀ d, (w3.drewN d).cell? ⟨b, o + i * 5, none⟩ = some (.int .u8 ek.k) := fun d => (HB3.out.cell (p := ⟨b, o + i * 5, none⟩) hb).trans (HC5.out 0 _ rfl)
        have l1 : ∀ d, (w3.drewN d).cell? ⟨b, o + i * 5 + 1, none⟩ = some (.int .u32 ek.a) := fun d => (HB3.out.cell (p := ⟨b, o + i * 5 + 1, none⟩) hb).trans (HC5.out 1 _ rfl)
        have l2 : ∀ d, (w3.drewN d).cell? ⟨b, o + i * 5 + 2, none⟩ = some (.int .u32 ek.b) := fun d => (HB3.out.cell (p := ⟨b, o + i * 5 + 2, none⟩) hb).trans (HC5.out 2 _ rfl)
        clear hr
        obtain ⟨a1, a2, a3⟩ := ek
        obtain ⟨b1, b2, b3⟩ := k
        simp only at c0 k0 k1 k2 l0 l1 l2
        go_wp2
        go_upto_region 4 with fail
        go_cut [46] (fun v wx => v = .bool r ∧ Hid (Below w3.heap.size w3 wx))
        case first =>
          rcases key_ways a1 b1 a2 b2 a3 b3 with ⟨e1, e2, e3⟩ | e1 | ⟨e1, e2⟩ | ⟨e1, e2, e3⟩
          case' inl => have hrr : r = true := by rw [HRR.out]; simp [e1, e2, e3]
          case' inr.inl => have hrr : r = false := by rw [HRR.out]; simp [e1]
          case' inr.inr.inl => have hrr : r = false := by rw [HRR.out]; simp [e2]
          case' inr.inr.inr => have hrr : r = false := by rw [HRR.out]; simp [e3]
          all_goals
            subst hrr
            go_quiet (fail)
            go_wp2
            go_meet
            exact ⟨rfl, Lib.hid (below_drewN (Below.refl _ _) nq)⟩
        case rest =>
        obtain ⟨rfl, HB4'⟩ := hcut
        rename_i hKK
        refine hKK _ _ ?_
        obtain ⟨w4, rfl⟩ : ∃ w4, w4 = wc := ⟨wc, rfl⟩
        have HB4 := Lib.hid (show Below w1.heap.size w1 w4 from HB3.out.trans (HB4'.out.mono HB3.out.size))
        clear hKK c0 k0 k1 k2 l0 l1 l2 HB4' HB3
        cases r with
        | true =>
          have HE := Lib.hid (show RTab w4 R tb (atT L ⟨b1, b2, b3⟩) by rw [HRT.out rfl]; exact HT.out.later HB4.out)
          have HF := Lib.hid (show Fr R w w4 from fr_two HB1.out HZ.out HB4.out)
          go_wp2
          go_ret
          exact ⟨by rw [HAI.out]; rfl, R, HE.out, HF.out, fun x hx => .inl hx⟩
        | false =>
          have HAT := Lib.hid (HRF.out rfl)
          have hic : i ≤ c := by have := HCC.out; omega
          have HLL := Lib.hid (show (L.take i).length = i ∧ (L.drop i).length = n - i ∧ n ≤ 10000 from ⟨by rw [List.length_take, HN.out]; omega, by rw [List.length_drop, HN.out], by omega⟩)
          have HA1 := Lib.hid (show ([] : List Rk).length + (L.take i).length ≤ 20000 by have := HLL.out; simp only [List.length_nil]; omega)
          have HA2 := Lib.hid (show (L.take i).length + 1 ≤ 20000 by have := HLL.out; omega)
          have HA3 := Lib.hid (show (L.take i ++ [Rk.new ⟨b1, b2, b3⟩]).length + (L.drop i).length ≤ 20000 by have := HLL.out; rw [List.length_append]; simp only [List.length_cons, List.length_nil]; omega)
          have HBX4 := Lib.hid (HBX.out.later HB4.out)
          have HX4 := Lib.hid (HX.out.later HB4.out)
          have HSS4 := Lib.hid (show SS cRk 5 w4 w4.heap.size (.slice (some ⟨b, o, none⟩) n c) L from (HSS.out.below HB4.out).more HB4.out.size)
          have HI1 := Lib.hid (HSS4.out.take i (by rw [HN.out]; exact hi))
          have HFIN := Lib.hid (at_fin HT.out HB4.out HS1.out HB1.out HZ.out HOLD.out HAI.out HAT.out)
          have c0 : w4.cell? ⟨tb, 0, none⟩ = some (.slice (some ⟨b, o, none⟩) n c) := HBX4.out.cell 0
          have HC0 := Lib.hid (show ∀ W, Below w4.heap.size w4 W → W.cell? ⟨tb, 0, none⟩ = some (.slice (some ⟨b, o, none⟩) n c) ∧ W.frozen? ⟨tb, 0, none⟩ = false from fun W hW => ⟨(HBX4.out.later hW).cell 0, (HBX4.out.later hW).frozen 0⟩)
          have ho0 : o = 0 := by
            rcases HFM.out with ⟨h1, _⟩ | ⟨g, h1⟩
            · cases h1
            · injection h1 with h1; injection h1
          subst ho0
          have hci : ¬ c = i := by have := HCC.out; omega
          have HI2 := Lib.hid (show SS cRk 5 w4 w4.heap.size (.slice (some ⟨b, i * 5, none⟩) (n - i) (c - i)) (L.drop i) by
            have h1 := ss_drop HSS4.out i hi
            rw [Nat.zero_add] at h1; exact h1)
          go_wp2_with (first
            | (at_builtin; refine wpList_append_ss (F := cRk) (sz := 5) _ rfl _ _ _ rfl w4.heap.size 75 j0 _ 64 Try.underlying60 hj0 hj1 hj2 hj3 rfl (by decide) cRk_len cRk_one (.slice none 0 0) [] rfl (World.ownsRow_nil _ _ _ _) w4.heap.size _ (L.take i) rfl HI1.out (by have := HA1.out; unfold maxLen; omega) (by have := HA1.out; omega) (Nat.le_refl _) ?_
               intro v1 w5 hown1 ht1
               rw [List.nil_append] at hown1
               have HB5 := Lib.hid ht1.all
               have HO1 := Lib.hid hown1
               have y0 : w5.cell? ⟨z, 0, none⟩ = some (.int .u8 b1) := (HX4.out.later ht1.all).cell 0
               have y1 : w5.cell? ⟨z, 1, none⟩ = some (.int .u32 b2) := (HX4.out.later ht1.all).cell 1
               have y2 : w5.cell? ⟨z, 2, none⟩ = some (.int .u32 b3) := (HX4.out.later ht1.all).cell 2
               clear hown1 ht1)
            | (at_builtin; refine wpList_push_ss (F := cRk) (sz := 5) _ rfl _ _ _ rfl w4.heap.size 75 j0 _ 64 Try.underlying60 hj0 hj1 hj2 hj3 rfl (by decide) cRk_len cRk_one v1 (L.take i) rfl (own_below HO1.out (new_ (Below.refl _ _) (.cells #[.int .u8 b1, .int .u32 b2, .int .u32 b3, .slice none 0 0, .slice none 0 0] 75))) w5.heap.size (Rk.new ⟨b1, b2, b3⟩) 75 rfl (Box.new w5 _ _) (by have := HA2.out; unfold maxLen; omega) (by have := HA2.out; omega) (by have := HB5.out.size; simp; omega) ?_
               intro v2 w6 hown2 ht2
               have tt2 := (RowTo.of_below (new_ (Below.refl w5.heap.size w5) (.cells #[.int .u8 b1, .int .u32 b2, .int .u32 b3, .slice none 0 0, .slice none 0 0] 75)) v1).trans ht2
               have HB6 := Lib.hid (HB5.out.trans (tt2.below (fun b hb => (HO1.out.lt b hb).1) HB5.out.size))
               have HO2 := Lib.hid hown2
               have z0 := (HC0.out w6 HB6.out).1
               clear hown2 ht2 tt2 y0 y1 y2)
            | (at_builtin; refine wpList_append_ss (F := cRk) (sz := 5) _ rfl _ _ _ rfl w4.heap.size 75 j0 _ 64 Try.underlying60 hj0 hj1 hj2 hj3 rfl (by decide) cRk_len cRk_one v2 (L.take i ++ [Rk.new ⟨b1, b2, b3⟩]) rfl HO2.out w4.heap.size _ (L.drop i) rfl (HI2.out.below HB6.out) (by have := HA3.out; unfold maxLen; omega) (by have := HA3.out; omega) HB6.out.size ?_
               intro v3 w7 hown3 ht3
               obtain ⟨A7, n7, c7, rfl⟩ := own_slice hown3
               have HB7 := Lib.hid (HB6.out.trans (ht3.below (fun b hb => (HO2.out.lt b hb).1) HB6.out.size))
               have HO3 := Lib.hid hown3
               have f0 := (HC0.out w7 HB7.out).2
               have f1 := (HC0.out w7 HB7.out).1
               clear hown3 ht3 z0))
          go_ret
          exact HFIN.out w7 _ HB7.out HO3.out
    · obtain ⟨b1, b2, b3⟩ := k
      simp only at k0 k1 k2
      have HAI := Lib.hid (show atI L ⟨b1, b2, b3⟩ = i from tw_len HK.out (.inl (by rw [HN.out]; omega)))
      have HAT := Lib.hid (show atT L ⟨b1, b2, b3⟩ = L.take i ++ [Rk.new ⟨b1, b2, b3⟩] ++ L.drop i by unfold atT; rw [HAI.out, List.getElem?_eq_none (by rw [HN.out]; omega)])
      have d1 : decide ((i : Int) < (n : Int)) = false := by simp; omega
      have d1' : decide (i < n) = false := by simp; omega
      go_upto_region 2 with fail
      go_quiet (fail)
      have HB3 := Lib.hid (show Below w1.heap.size w1 (w2.drewN nq) from below_drewN HB.out nq)
      clear c0 k0 k1 k2 HB
      generalize w2.drewN nq = w3 at HB3 ⊢
      have c0 : ∀ d, (w3.drewN d).cell? ⟨tb, 0, none⟩ = some (.slice A n c) := fun d => ((HBX.out.later HB3.out).later (below_drewN (Below.refl _ _) d)).cell 0
      go_wp2
      go_upto_region 4 with fail
      go_quiet (fail)
      have HB4 := Lib.hid (show Below w1.heap.size w1 (w3.drewN nq) from below_drewN HB3.out nq)
      clear c0 HB3
      generalize w3.drewN nq = w4 at HB4 ⊢
      have hic : i ≤ c := by have := HCC.out; omega
      have HLL := Lib.hid (show (L.take i).length = i ∧ (L.drop i).length = n - i ∧ n ≤ 10000 from ⟨by rw [List.length_take, HN.out]; omega, by rw [List.length_drop, HN.out], by omega⟩)
      have HA1 := Lib.hid (show ([] : List Rk).length + (L.take i).length ≤ 20000 by have := HLL.out; simp only [List.length_nil]; omega)
      have HA2 := Lib.hid (show (L.take i).length + 1 ≤ 20000 by have := HLL.out; omega)
      have HA3 := Lib.hid (show (L.take i ++ [Rk.new ⟨b1, b2, b3⟩]).length + (L.drop i).length ≤ 20000 by have := HLL.out; rw [List.length_append]; simp only [List.length_cons, List.length_nil]; omega)
      have HBX4 := Lib.hid (HBX.out.later HB4.out)
      have HX4 := Lib.hid (HX.out.later HB4.out)
      have HSS4 := Lib.hid (show SS cRk 5 w4 w4.heap.size (.slice A n c) L from (HSS.out.below HB4.out).more HB4.out.size)
      have HI1 := Lib.hid (HSS4.out.take i (by rw [HN.out]; exact hi))
      have HFIN := Lib.hid (at_fin HT.out HB4.out HS1.out HB1.out HZ.out HOLD.out HAI.out HAT.out)
      have c0 : w4.cell? ⟨tb, 0, none⟩ = some (.slice A n c) := HBX4.out.cell 0
      have HC0 := Lib.hid (show ∀ W, Below w4.heap.size w4 W → W.cell? ⟨tb, 0, none⟩ = some (.slice A n c) ∧ W.frozen? ⟨tb, 0, none⟩ = false from fun W hW => ⟨(HBX4.out.later hW).cell 0, (HBX4.out.later hW).frozen 0⟩)
      rcases HFM.out with ⟨hA, hc0⟩ | ⟨g, hA⟩
      case' inl =>
        have hN0 : n = 0 := by have := HCC.out; omega
        have hi0 : i = 0 := by omega
        have HI2 := Lib.hid (show SS cRk 5 w4 w4.heap.size (.slice none 0 0) (L.drop i) by
          have h1 : L.drop i = [] := List.drop_eq_nil_of_le (by rw [HN.out]; omega)
          rw [h1]; exact ss_none (Nat.zero_le _))
        subst hA
        subst hc0
        subst hN0
        subst hi0
      case' inr =>
        subst hA
        by_cases hci : c = i
        case' pos =>
          have hni : n = i := by have := HCC.out; omega
          have HI2 := Lib.hid (show SS cRk 5 w4 w4.heap.size (.slice (some ⟨g, 0, none⟩) 0 0) (L.drop i) by
            have h1 : L.drop i = [] := List.drop_eq_nil_of_le (by rw [HN.out]; omega)
            rw [h1]; exact ss_none (Nat.zero_le _))
          subst hci
          subst hni
        case' neg =>
          have HI2 := Lib.hid (show SS cRk 5 w4 w4.heap.size (.slice (some ⟨g, i * 5, none⟩) (n - i) (c - i)) (L.drop i) by
            have h1 := ss_drop HSS4.out i hi
            rw [Nat.zero_add] at h1; exact h1)
      all_goals
        go_wp2_with (first
          | (at_builtin; refine wpList_append_ss (F := cRk) (sz := 5) _ rfl _ _ _ rfl w4.heap.size 75 j0 _ 64 Try.underlying60 hj0 hj1 hj2 hj3 rfl (by decide) cRk_len cRk_one (.slice none 0 0) [] rfl (World.ownsRow_nil _ _ _ _) w4.heap.size _ _ rfl HI1.out (by have := HA1.out; unfold maxLen; omega) (by have := HA1.out; omega) (Nat.le_refl _) ?_
             intro v1 w5 hown1 ht1
             rw [List.nil_append] at hown1
             have HB5 := Lib.hid ht1.all
             have HO1 := Lib.hid hown1
             have y0 : w5.cell? ⟨z, 0, none⟩ = some (.int .u8 b1) := (HX4.out.later ht1.all).cell 0
             have y1 : w5.cell? ⟨z, 1, none⟩ = some (.int .u32 b2) := (HX4.out.later ht1.all).cell 1
             have y2 : w5.cell? ⟨z, 2, none⟩ = some (.int .u32 b3) := (HX4.out.later ht1.all).cell 2
             clear hown1 ht1)
          | (at_builtin; refine wpList_push_ss (F := cRk) (sz := 5) _ rfl _ _ _ rfl w4.heap.size 75 j0 _ 64 Try.underlying60 hj0 hj1 hj2 hj3 rfl (by decide) cRk_len cRk_one v1 _ rfl (own_below HO1.out (new_ (Below.refl _ _) (.cells #[.int .u8 b1, .int .u32 b2, .int .u32 b3, .slice none 0 0, .slice none 0 0] 75))) w5.heap.size (Rk.new ⟨b1, b2, b3⟩) 75 rfl (Box.new w5 _ _) (by have := HA2.out; unfold maxLen; omega) (by have := HA2.out; omega) (by have := HB5.out.size; simp; omega) ?_
             intro v2 w6 hown2 ht2
             have tt2 := (RowTo.of_below (new_ (Below.refl w5.heap.size w5) (.cells #[.int .u8 b1, .int .u32 b2, .int .u32 b3, .slice none 0 0, .slice none 0 0] 75)) v1).trans ht2
             have HB6 := Lib.hid (HB5.out.trans (tt2.below (fun b hb => (HO1.out.lt b hb).1) HB5.out.size))
             have HO2 := Lib.hid hown2
             have z0 := (HC0.out w6 HB6.out).1
             clear hown2 ht2 tt2 y0 y1 y2)
          | (at_builtin; refine wpList_append_ss (F := cRk) (sz := 5) _ rfl _ _ _ rfl w4.heap.size 75 j0 _ 64 Try.underlying60 hj0 hj1 hj2 hj3 rfl (by decide) cRk_len cRk_one v2 _ rfl HO2.out w4.heap.size _ _ rfl (HI2.out.below HB6.out) (by have := HA3.out; unfold maxLen; omega) (by have := HA3.out; omega) HB6.out.size ?_
             intro v3 w7 hown3 ht3
             obtain ⟨A7, n7, c7, rfl⟩ := own_slice hown3
             have HB7 := Lib.hid (HB6.out.trans (ht3.below (fun b hb => (HO2.out.lt b hb).1) HB6.out.size))
             have HO3 := Lib.hid hown3
             have f0 := (HC0.out w7 HB7.out).2
             have f1 := (HC0.out w7 HB7.out).1
             clear hown3 ht3 z0))
        go_ret
        exact HFIN.out w7 _ HB7.out HO3.out
end Go.Proofs.Ytpndcpmfcajmdaa.Lock
namespace Go.Proofs.Ytpndcpmfcajmdaa.Lock
open Go.ChangeShapes Go.WideShapes Go.ChangeAt Go.RowKit Go.IntWalk Go.Proofs.Mem Law Go.Shelf Go.Proofs.Each
set_option linter.unusedVariables false
set_option linter.unusedSimpArgs false
structure Rc where
  k : Ky
  h : List Pl
  l : List Pl
def Rk.co (e : Rk) : Rc := ⟨e.k, e.h, e.l⟩
theorem own_set1 {w : World} {B g n cap sz o : Nat} {T : TypeId} {vs : List Value} (h : w.ownsRow B T sz (.slice (some ⟨g, 0, none⟩) n cap) n vs) (u : Value) : (w.setCell ⟨g, o, none⟩ u).ownsRow B T sz (.slice (some ⟨g, 0, none⟩) n cap) n (vs.set o u) := by
  obtain ⟨h1, h2 | ⟨g', c, cur, e, hb, hg, hn, hc, hs, ht⟩⟩ := h
  · cases h2.1
  · injection e with e1 e2 e3
    injection e1 with e1
    injection e1 with e1 _
    subst e1 e3
    refine ⟨by simpa using h1, .inr ⟨g, _, cur.setIfInBounds o u, rfl, hb, Box.set_ (C := cur) hg o u, hn, hc, by simpa using hs, ?_⟩⟩
    rw [Array.toList_setIfInBounds, List.take_set, ht]
theorem flat_set5 {L : List Rk} {i : Nat} {e : Rk} (y : Rk) (h : L[i]? = some e) : (((((L.flatMap cRk).set (i * 5) (.int .u8 y.k.k)).set (i * 5 + 1) (.int .u32 y.k.a)).set (i * 5 + 2) (.int .u32 y.k.b)).set (i * 5 + 3) y.hv).set (i * 5 + 4) y.lv = (L.set i y).flatMap cRk := by
  have hi : i < L.length := (List.getElem?_eq_some_iff.1 h).1
  have hl := flat_len cRk_len L
  have hl2 := flat_len cRk_len (L.set i y)
  apply List.ext_getElem?
  intro q
  have hq : q / 5 * 5 + q % 5 = q := Nat.div_add_mod' q 5
  have hm : q % 5 < 5 := Nat.mod_lt _ (by decide)
  by_cases hql : q < L.length * 5
  · have hd : q / 5 < L.length := by omega
    obtain ⟨x, hx⟩ : ∃ x, L[q / 5]? = some x := ⟨_, List.getElem?_eq_getElem hd⟩
    by_cases hqi : q / 5 = i
    · have hy : (L.set i y)[q / 5]? = some y := by rw [hqi, List.getElem?_set_self hi]
      have e2 := flat_at cRk_len (L.set i y) (q / 5) y (q % 5) hy hm
      rw [hq] at e2
      rw [e2]
      have hb : ∀ j, j < 5 → i * 5 + j < (L.flatMap cRk).length := fun j hj => by rw [hl]; omega
      have b0 := hb 0 (by decide)
      have b1 := hb 1 (by decide)
      have b2 := hb 2 (by decide)
      have b3 := hb 3 (by decide)
      have b4 := hb 4 (by decide)
      have hqq : q = i * 5 + q % 5 := by omega
      rw [hqq]
      have h5 : q % 5 = 0 ∨ q % 5 = 1 ∨ q % 5 = 2 ∨ q % 5 = 3 ∨ q % 5 = 4 := by omega
      rcases h5 with h5 | h5 | h5 | h5 | h5 <;> rw [h5] <;> simp [List.getElem?_set, cRk, hl] <;> omega
    · have hy : (L.set i y)[q / 5]? = some x := by rw [List.getElem?_set_ne (fun e => hqi e.symm)]; exact hx
      have e1 := flat_at cRk_len L (q / 5) x (q % 5) hx hm
      have e2 := flat_at cRk_len (L.set i y) (q / 5) x (q % 5) hy hm
      rw [hq] at e1 e2
      rw [e2, ← e1]
      rw [List.getElem?_set_ne (by omega), List.getElem?_set_ne (by omega), List.getElem?_set_ne (by omega), List.getElem?_set_ne (by omega), List.getElem?_set_ne (by omega)]
  · rw [List.getElem?_eq_none (by simp only [List.length_set]; omega), List.getElem?_eq_none (by rw [hl2, List.length_set]; omega)]
structure RRow (w : World) (R : Nat → Prop) (tb : Nat) (L : List Rk) (A : Option Addr) (c : Nat) : Prop where
  box : Box w tb #[.slice A L.length c] 62
  own : w.ownsRow 0 75 5 (.slice A L.length c) L.length (L.flatMap cRk)
  rr : ∀ b, (Value.slice A L.length c).ownBlock = some b → R b
def RStep (w : World) (R : Nat → Prop) (tb : Nat) (L' : List Rk) (w' : World) : Prop := ∃ R', RTab w' R' tb L' ∧ Fr R w w' ∧ ∀ x, R' x → R x ∨ w.heap.size ≤ x
theorem fr_chain {w w1 w2 : World} {R R' : Nat → Prop} (h1 : Fr R w w1) (hr : ∀ x, R' x → R x ∨ w.heap.size ≤ x) (h2 : Fr R' w1 w2) : Fr R w w2 :=
  h1.trans' h2 fun i hi hR => (hr i hR).elim id (fun h => by omega)
theorem RStep.trans {w w1 w2 : World} {R R1 : Nat → Prop} {tb : Nat} {L1 L2 : List Rk} (h1 : Fr R w w1) (hr : ∀ x, R1 x → R x ∨ w.heap.size ≤ x) (h2 : RStep w1 R1 tb L2 w2) : RStep w R tb L2 w2 := by
  obtain ⟨R2, a, b, c⟩ := h2
  exact ⟨R2, a, fr_chain h1 hr b, fun x hx => (c x hx).elim (hr x) (fun h => .inr (by have := h1.size; omega))⟩
theorem RTab.row {w : World} {R : Nat → Prop} {tb : Nat} {L : List Rk} (h : RTab w R tb L) : ∃ A c, RRow w R tb L A c := by
  obtain ⟨A, c, h1, h2, h3⟩ := h.ex
  exact ⟨A, c, h1, h2, h3⟩
def put5 (w : World) (g o : Nat) (y : Rk) : World := ((((w.setCell ⟨g, o, none⟩ (.int .u8 y.k.k)).setCell ⟨g, o + 1, none⟩ (.int .u32 y.k.a)).setCell ⟨g, o + 2, none⟩ (.int .u32 y.k.b)).setCell ⟨g, o + 3, none⟩ y.hv).setCell ⟨g, o + 4, none⟩ y.lv
theorem put5_fr (w : World) (g o : Nat) (y : Rk) : Fr (fun x => x = g) w (put5 w g o y) :=
  (((((Fr.refl (fun x => x = g) w).setCell (p := ⟨g, o, none⟩) (.inl rfl) _).setCell (p := ⟨g, o + 1, none⟩) (.inl rfl) _).setCell (p := ⟨g, o + 2, none⟩) (.inl rfl) _).setCell (p := ⟨g, o + 3, none⟩) (.inl rfl) _).setCell (p := ⟨g, o + 4, none⟩) (.inl rfl) _
theorem RTab.put {w : World} {R R' : Nat → Prop} {tb g c i : Nat} {L : List Rk} {e0 : Rk} (h : RTab w R tb L) (hr : RRow w R tb L (some ⟨g, 0, none⟩) c) (hi : L[i]? = some e0) (y : Rk) (hR : ∀ x, R x → R' x) (hold : ∀ x, R' x → x < w.heap.size) (hy : RkAt w R' y) :
    RTab (put5 w g (i * 5) y) R' tb (L.set i y) ∧ Fr R w (put5 w g (i * 5) y) := by
  have hf := put5_fr w g (i * 5) y
  have hl : (L.set i y).length = L.length := List.length_set
  have hne : ∀ {b n : Nat} {v : Value} {xs : List Value}, w.ownsRow b 77 2 v n xs → ∀ k, v.ownBlock = some k → ¬ k = g := fun {b n v xs} ho k hk e => by
    rcases hr.own.2 with ⟨e1, _⟩ | ⟨g', cap, cur, e1, _, hg, _⟩
    · cases e1
    · injection e1 with e1
      injection e1 with e1
      injection e1 with e1 _
      subst e1
      exact row_ne_box ho hg (by decide) (by rw [hk, e])
  have hown : (put5 w g (i * 5) y).ownsRow 0 75 5 (.slice (some ⟨g, 0, none⟩) L.length c) L.length ((L.set i y).flatMap cRk) := by
    rw [← flat_set5 y hi]
    exact own_set1 (own_set1 (own_set1 (own_set1 (own_set1 hr.own _) _) _) _) _
  refine ⟨⟨⟨some ⟨g, 0, none⟩, c, ?_, by rw [hl]; exact hown, fun b hb => hR b (hr.rr b (by rw [hl] at hb; exact hb))⟩, hR _ h.rt, fun e he => ?_, fun x hx => Nat.lt_of_lt_of_le (hold x hx) hf.size⟩, hf.mono (fun k _ hk => by rw [hk]; exact hr.rr g rfl)⟩
  · rw [hl]
    exact hr.box.fr hf (fun e => row_ne_box hr.own hr.box (by decide) (by rw [e]; rfl))
  · rcases List.mem_or_eq_of_mem_set he with h1 | h1
    · have h3 := (h.it e h1).mono hR
      exact ⟨own_frS h3.h hf (hne h3.h), own_frS h3.l hf (hne h3.l), h3.rh, h3.rl⟩
    · rw [h1]
      exact ⟨own_frS hy.h hf (hne hy.h), own_frS hy.l hf (hne hy.l), hy.rh, hy.rl⟩
def rWt : List Rk → Int → Option (Ky × Int)
  | [], _ => none
  | e :: L, x => if 0 < lkM e.l x then some (e.k, lkM e.l x) else rWt L x
theorem rWt_drop {x : Int} : ∀ {L : List Rk} {i : Nat}, (∀ e ∈ L.take i, ¬ 0 < lkM e.l x) → rWt L x = rWt (L.drop i) x
  | [], i, _ => by simp
  | e :: L, 0, _ => rfl
  | e :: L, i + 1, h => by
    rw [List.drop_succ_cons, rWt, if_neg (h e (by simp))]
    exact rWt_drop (fun q hq => h q (by rw [List.take_succ_cons]; exact List.mem_cons_of_mem _ hq))
def rHd (o : Option (Ky × Int)) : Hd := match o with
  | some (k, m) => hdOf k m
  | none => zHd
set_option maxRecDepth 100000 in
set_option maxHeartbeats 8000000 in
theorem rwaits_any (w : World) (R : Nat → Prop) (tb : Nat) (L : List Rk) (x : Int) (h : RTab w R tb L) (hl : L.length ≤ 10000) (hll : ∀ e ∈ L, e.l.length ≤ 10000) :
    Calls Try.prog 25 #[.pointer (some ⟨tb, 0, none⟩), .int .u32 x] w fun e w' => e = .returned (.tuple #[(rHd (rWt L x)).v, .bool (rWt L x).isSome]) ∧ Below w.heap.size w w' := by
  have b1 := new_ (Below.refl w.heap.size w) (.cells #[.int .u8 0, .int .u32 0, .int .u32 0, .int .u8 0] 45)
  have X4 := Box.new w #[.int .u8 0, .int .u32 0, .int .u32 0, .int .u8 0] 45
  have h1 := h.later b1
  obtain ⟨z, hz⟩ : ∃ z, w.heap.size = z := ⟨_, rfl⟩
  obtain ⟨w1, hw1⟩ : ∃ w1, w.alloc (.cells #[.int .u8 0, .int .u32 0, .int .u32 0, .int .u8 0] 45) = w1 := ⟨_, rfl⟩
  rw [hw1] at b1 X4 h1
  rw [hz] at b1 X4 ⊢
  have HX := Lib.hid X4
  have HB1 := Lib.hid b1
  have HT := Lib.hid h1
  obtain ⟨A, c, hr⟩ := h1.row
  have HSS := Lib.hid (SS.of_own cRk_len hr.own)
  have HRB := Lib.hid hr.box
  obtain ⟨n, hn⟩ : ∃ n, L.length = n := ⟨_, rfl⟩
  have HN := Lib.hid hn
  rw [hn] at hl HSS HRB
  have bn : (n : Int) ≤ 10000 := by omega
  have HLL := Lib.hid hll
  have CM := Lib.hid (fun (v : Value) (l : List Pl) (h : SS cPl 2 w1 w1.heap.size v l) (hl : l.length ≤ 100000) => rmode_any w1 w1.heap.size v l x h hl)
  clear h h1 b1 X4 hr hn hll
  go_enter Try.func25, Try.ntmps25
  go_upto_region 1 with fail
  clear hw1 hz
  go_wp2
  go_loopw [6, 7] (fun s6 _ wr => ∃ i : Nat, s6 = .int .i64 i ∧ i ≤ n ∧ Hid (∀ e ∈ L.take i, lkM e.l x ≤ 0) ∧ wr = w1) (fun s6 _ _ => n - (intOf s6).toNat)
  case atStart => exact ⟨0, rfl, Nat.zero_le _, Lib.hid (by simp), rfl⟩
  case round =>
    obtain ⟨i, rfl, hi, HK, rfl⟩ := hrel
    have c0 : wr.cell? ⟨tb, 0, none⟩ = some (.slice A n c) := HRB.out.cell 0
    have x0 : wr.cell? ⟨z, 0, none⟩ = some (.int .u8 0) := HX.out.cell 0
    have x1 : wr.cell? ⟨z, 1, none⟩ = some (.int .u32 0) := HX.out.cell 1
    have x2 : wr.cell? ⟨z, 2, none⟩ = some (.int .u32 0) := HX.out.cell 2
    have x3 : wr.cell? ⟨z, 3, none⟩ = some (.int .u8 0) := HX.out.cell 3
    have f0 := HX.out.frozen 0
    have f1 := HX.out.frozen 1
    have f2 := HX.out.frozen 2
    have f3 := HX.out.frozen 3
    by_cases hil : i < n
    · have d1 : decide ((i : Int) < (n : Int)) = true := by simp; omega
      have d1' : decide (i < n) = true := by simp; omega
      obtain ⟨e, he⟩ : ∃ e, L[i]? = some e := ⟨_, List.getElem?_eq_getElem (by rw [HN.out]; exact hil)⟩
      obtain ⟨b, o, hA, hb, hc⟩ := HSS.out.at_ he
      subst hA
      have HE := Lib.hid he
      have HEL := Lib.hid (show e.l.length ≤ 100000 by have := HLL.out e (List.mem_of_getElem? he); omega)
      have CC := Lib.hid (CM.out e.lv e.l (HT.out.it e (List.mem_of_getElem? he)).ss_l HEL.out)
      obtain ⟨⟨a1, a2, a3⟩, eh, el, eha, ehc, ela, elc⟩ := e
      have l0 : wr.cell? ⟨b, o + i * 5, none⟩ = some (.int .u8 a1) := hc 0 _ rfl
      have l1 : wr.cell? ⟨b, o + i * 5 + 1, none⟩ = some (.int .u32 a2) := hc 1 _ rfl
      have l2 : wr.cell? ⟨b, o + i * 5 + 2, none⟩ = some (.int .u32 a3) := hc 2 _ rfl
      have l4 : wr.cell? ⟨b, o + i * 5 + 4, none⟩ = some (.slice ela el.length elc) := hc 4 _ rfl
      obtain ⟨m, hm⟩ : ∃ m, lkM el x = m := ⟨_, rfl⟩
      have CC2 : Hid (Calls Try.prog 38 #[.slice ela el.length elc, .int .u32 x] wr fun e w' => e = .returned (.int .u8 m) ∧ wr = w') := Lib.hid (by rw [← hm]; exact CC.out)
      have HM := Lib.hid hm
      clear he hc CC hm
      by_cases hpos : 0 < m
      · have q1 : decide (0 < m) = true := decide_eq_true hpos
        have HW := Lib.hid (show rWt L x = some (⟨a1, a2, a3⟩, m) by rw [rWt_drop (fun e he => by have := HK.out e he; omega), drop_at HE.out, rWt, HM.out, if_pos hpos])
        clear hpos
        go_wp2_with fail
        (with_reducible refine CC2.out.mono ?_)
        rintro er w2 ⟨rfl, rfl⟩
        go_wp2
        have Y := Box.set_ (Box.set_ (Box.set_ (Box.set_ HX.out 0 (.int .u8 a1)) 1 (.int .u32 a2)) 2 (.int .u32 a3)) 3 (.int .u8 m)
        have BY := (((HB1.out.setCell (p := ⟨z, 0, none⟩) (Nat.le_refl _) (.int .u8 a1)).setCell (p := ⟨z, 1, none⟩) (Nat.le_refl _) (.int .u32 a2)).setCell (p := ⟨z, 2, none⟩) (Nat.le_refl _) (.int .u32 a3)).setCell (p := ⟨z, 3, none⟩) (Nat.le_refl _) (.int .u8 m)
        generalize ((((wr.setCell ⟨z, 0, none⟩ (.int .u8 a1)).setCell ⟨z, 1, none⟩ (.int .u32 a2)).setCell ⟨z, 2, none⟩ (.int .u32 a3)).setCell ⟨z, 3, none⟩ (.int .u8 m)) = w3 at Y BY ⊢
        have y0 : w3.cell? ⟨z, 0, none⟩ = some (.int .u8 a1) := by rw [Y.cell 0]; rfl
        have y1 : w3.cell? ⟨z, 1, none⟩ = some (.int .u32 a2) := by rw [Y.cell 1]; rfl
        have y2 : w3.cell? ⟨z, 2, none⟩ = some (.int .u32 a3) := by rw [Y.cell 2]; rfl
        have y3 : w3.cell? ⟨z, 3, none⟩ = some (.int .u8 m) := by rw [Y.cell 3]; rfl
        refine bodyPost_ret (v := .tuple #[.agg #[.int .u8 a1, .int .u32 a2, .int .u32 a3, .int .u8 m], .bool true]) (by simp [results, Try.results25, go_sem, y0, y1, y2, y3]; try rfl) rfl ?_
        exact ⟨by rw [HW.out]; rfl, BY⟩
      · have q1 : decide (0 < m) = false := decide_eq_false hpos
        have HNE := Lib.hid (show ∀ e ∈ L.take (i + 1), lkM e.l x ≤ 0 by
          rw [List.take_add_one, HE.out]
          intro p hp
          rcases List.mem_append.1 hp with h1 | h1
          · exact HK.out p h1
          · simp at h1; rw [h1]; simp only; rw [HM.out]; omega)
        clear hpos x0 x1 x2 x3 f0 f1 f2 f3
        go_wp2_with fail
        (with_reducible refine CC2.out.mono ?_)
        rintro er w2 ⟨rfl, rfl⟩
        go_wp2
        go_roundw
        case rel => exact ⟨i + 1, by go_num, by omega, HNE, trivial⟩
        case measure => simp [intOf]; omega
    · have d1 : decide ((i : Int) < (n : Int)) = false := by simp; omega
      have d1' : decide (i < n) = false := by simp; omega
      have HW := Lib.hid (show rWt L x = none by rw [rWt_drop (fun e he => by have := HK.out e he; omega), List.drop_eq_nil_of_le (by rw [HN.out]; omega)]; rfl)
      go_wp2
      have Y := Box.set_ (Box.set_ (Box.set_ (Box.set_ HX.out 0 (.int .u8 0)) 1 (.int .u32 0)) 2 (.int .u32 0)) 3 (.int .u8 0)
      have BY := (((HB1.out.setCell (p := ⟨z, 0, none⟩) (Nat.le_refl _) (.int .u8 0)).setCell (p := ⟨z, 1, none⟩) (Nat.le_refl _) (.int .u32 0)).setCell (p := ⟨z, 2, none⟩) (Nat.le_refl _) (.int .u32 0)).setCell (p := ⟨z, 3, none⟩) (Nat.le_refl _) (.int .u8 0)
      generalize ((((wr.setCell ⟨z, 0, none⟩ (.int .u8 0)).setCell ⟨z, 1, none⟩ (.int .u32 0)).setCell ⟨z, 2, none⟩ (.int .u32 0)).setCell ⟨z, 3, none⟩ (.int .u8 0)) = w3 at Y BY ⊢
      have y0 : w3.cell? ⟨z, 0, none⟩ = some (.int .u8 0) := by rw [Y.cell 0]; rfl
      have y1 : w3.cell? ⟨z, 1, none⟩ = some (.int .u32 0) := by rw [Y.cell 1]; rfl
      have y2 : w3.cell? ⟨z, 2, none⟩ = some (.int .u32 0) := by rw [Y.cell 2]; rfl
      have y3 : w3.cell? ⟨z, 3, none⟩ = some (.int .u8 0) := by rw [Y.cell 3]; rfl
      refine bodyPost_ret (v := .tuple #[.agg #[.int .u8 0, .int .u32 0, .int .u32 0, .int .u8 0], .bool false]) (by simp [results, Try.results25, go_sem, y0, y1, y2, y3]; try rfl) rfl ?_
      exact ⟨by rw [HW.out]; rfl, BY⟩
end Go.Proofs.Ytpndcpmfcajmdaa.Lock
namespace Go.Proofs.Ytpndcpmfcajmdaa.Lock
open Go.ChangeShapes Go.WideShapes Go.ChangeAt Go.RowKit Go.IntWalk Go.Proofs.Mem Law Go.Shelf Go.Proofs.Each
set_option linter.unusedVariables false
set_option linter.unusedSimpArgs false
theorem kd_rem {a : Int} (h : 0 ≤ a ∧ a ≤ 255) : a.tmod 6 = a % 6 := Int.tmod_eq_emod_of_nonneg h.1
end Go.Proofs.Ytpndcpmfcajmdaa.Lock
namespace Go.Proofs.Ytpndcpmfcajmdaa.Lock
open Go.ChangeShapes Go.WideShapes Go.ChangeAt Go.RowKit Go.IntWalk Go.Proofs.Mem Law Go.Shelf Go.Proofs.Each
set_option linter.unusedVariables false
set_option linter.unusedSimpArgs false
end Go.Proofs.Ytpndcpmfcajmdaa.Lock
namespace Go.Proofs.Ytpndcpmfcajmdaa.Lock
open Go.ChangeShapes Go.WideShapes Go.ChangeAt Go.RowKit Go.IntWalk Go.Proofs.Mem Law Go.Shelf Go.Proofs.Each
set_option linter.unusedVariables false
set_option linter.unusedSimpArgs false
def whd (T : Tb) (x : Int) : Hd := (T.wt x).getD zHd
end Go.Proofs.Ytpndcpmfcajmdaa.Lock
