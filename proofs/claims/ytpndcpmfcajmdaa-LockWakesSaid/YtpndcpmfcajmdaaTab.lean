import Derived.Test.YtpndcpmfcajmdaaBox
import Derived.Test.YtpndcpmfcajmdaaMem3
import Derived.Laws.MakeOwn
/- Lists of rows of bytes that are owned: each in a block of its own. -/
namespace Go.Proofs.Mem
open Go.RowKit Go.WideShapes
set_option linter.unusedVariables false
/-- whatever cells lay lie as they did -/
def Sc (A B : World) : Prop := ∀ (g : Nat) (C : Array Value) (t : TypeId) (f : Nat × Nat), A.heap[g]? = some (Obj.cells C t f) → B.heap[g]? = some (Obj.cells C t f)
section
variable {A B D w w' : World} {base top n : Nat}
theorem Sc.refl (A : World) : Sc A A := fun _ _ _ _ h => h
theorem Sc.trans (h : Sc A B) (k : Sc B D) : Sc A D := fun g C t f e => k g C t f (h g C t f e)
theorem Sc.of_below (h : Below A.heap.size A B) : Sc A B := fun g C t f e => (h.block g (Array.getElem?_eq_some_iff.1 e).1).trans e
theorem own_sc {e : TypeId} {size : Nat} {v : Value} {xs : List Value} (h : A.ownsRow base e size v n xs) (s : Sc A B) : B.ownsRow base e size v n xs := by
  refine ⟨h.1, ?_⟩
  rcases h.2 with hn | ⟨g, cap, cur, rfl, hb, hgg, rest⟩
  · exact .inl hn
  · exact .inr ⟨g, cap, cur, rfl, hb, s _ _ _ _ hgg, rest⟩
theorem Box.sc {g : Nat} {C : Array Value} {t : TypeId} (h : Box A g C t) (s : Sc A B) : Box B g C t := s _ _ _ _ h
theorem cell_sc {p : Addr} {v : Value} (h : A.cell? p = some v) (s : Sc A B) : B.cell? p = some v := by
  unfold World.cell? at h ⊢
  cases e : A.heap[p.block]? with
  | none => rw [e] at h; simp at h
  | some o =>
    cases o with
    | cells C t f => rw [s _ _ _ _ e]; rw [e] at h; exact h
    | _ => rw [e] at h; simp at h
theorem frozen_sc {p : Addr} {v : Value} (h : A.cell? p = some v) (s : Sc A B) : B.frozen? p = A.frozen? p := by
  unfold World.cell? at h
  unfold World.frozen?
  cases e : A.heap[p.block]? with
  | none => rw [e] at h; simp at h
  | some o =>
    cases o with
    | cells C t f => rw [s _ _ _ _ e]
    | _ => rw [e] at h; simp at h
theorem IR.sc {k : IntKind} {v : Value} {xs : List Int} (h : IR A top k v xs) (s : Sc A B) : IR B top k v xs := by
  obtain ⟨a, c, h1, h2, h3, h4, h5⟩ := h
  refine ⟨a, c, h1, h2, h3, h4, fun i hi => ?_⟩
  obtain ⟨b, off, e, hb, hc⟩ := h5 i hi
  exact ⟨b, off, e, hb, cell_sc hc s⟩
theorem SR.sc {v : Value} {vs : List (Value × List Int)} (h : SR A top v vs) (s : Sc A B) : SR B top v vs := by
  obtain ⟨a, c, h1, h2, h3, h5⟩ := h
  refine ⟨a, c, h1, h2, h3, fun i hi => ?_⟩
  obtain ⟨b, off, u, xs, e, hb, hv, hc, hr, hx⟩ := h5 i hi
  exact ⟨b, off, u, xs, e, hb, hv, cell_sc hc s, hr.sc s, hx⟩
/-- u is a row of bytes at block g -/
structure RowAt (Tu : TypeId) (w : World) (base : Nat) (g : Nat) (u : Value) (xs : List Int) : Prop where
  form : ∃ cap, u = .slice (some ⟨g, 0, none⟩) xs.length cap
  own : w.ownsRow base Tu 1 u xs.length (xs.map (.int .u8))
theorem RowAt.of_own {Tu : TypeId} {u : Value} {xs : List Int} (h : w.ownsRow base Tu 1 u xs.length (xs.map (.int .u8))) (hx : 0 < xs.length) : ∃ g, RowAt Tu w base g u xs ∧ base ≤ g ∧ g < w.heap.size := by
  rcases h.2 with ⟨_, hn⟩ | ⟨g, cap, cur, rfl, hb, hgg, rest⟩
  · omega
  · exact ⟨g, ⟨⟨cap, rfl⟩, h⟩, hb, (Array.getElem?_eq_some_iff.1 hgg).1⟩
theorem RowAt.sc {Tu : TypeId} {g : Nat} {u : Value} {xs : List Int} (h : RowAt Tu A base g u xs) (s : Sc A B) : RowAt Tu B base g u xs := ⟨h.form, own_sc h.own s⟩
theorem RowAt.heap {Tu : TypeId} {g : Nat} {u : Value} {xs : List Int} (h : RowAt Tu w base g u xs) : ∃ cur cap, u = .slice (some ⟨g, 0, none⟩) xs.length cap ∧ base ≤ g ∧ w.heap[g]? = some (.cells cur Tu (0, 0)) ∧ xs.length ≤ cap ∧ cur.size = cap ∧ cap ≤ maxLen ∧ cur.toList.take xs.length = xs.map (.int .u8) := by
  obtain ⟨cap, rfl⟩ := h.form
  rcases h.own.2 with ⟨hn, _⟩ | ⟨g', cap', cur, e, hb, hgg, h1, h2, h3, h4⟩
  · cases hn
  · injection e with e1 e2 e3
    injection e1 with e1
    injection e1 with e1
    subst e1 e3
    exact ⟨cur, _, rfl, hb, hgg, h1, by omega, h2, by simpa using h4⟩
/-- the row keeps where another block of cells is written, or new ones are made -/
theorem RowAt.far {Tu : TypeId} {g : Nat} {u : Value} {xs : List Int} {row : Option Nat} (h : RowAt Tu A base g u xs) (hg : A.grownBy B row) (hne : row ≠ some g) : RowAt Tu B base g u xs := by
  refine ⟨h.form, h.own.kept hg (.inr ?_)⟩
  obtain ⟨cap, rfl⟩ := h.form
  simpa [Value.ownBlock] using Ne.symm hne
theorem RowAt.ir {Tu : TypeId} {g : Nat} {u : Value} {xs : List Int} (h : RowAt Tu w base g u xs) : IR w (g + 1) .u8 u xs := by
  obtain ⟨a, c, h1, h2, h3, h4, h5⟩ := IR.of_own h.own
  obtain ⟨cap, rfl⟩ := h.form
  injection h1 with e1 e2 e3
  subst e1 e3
  refine ⟨_, _, rfl, h2, h3, h4, fun i hi => ?_⟩
  obtain ⟨b, off, e, hb, hc⟩ := h5 i hi
  injection e with e
  injection e with e1 e2
  subst e1 e2
  exact ⟨_, _, rfl, by omega, hc⟩
/-- a row's block, its value, its bytes -/
abbrev Rw := Nat × Value × List Int
/-- v is a list of rows, each in a block of its own, between base and top -/
structure Tab (Tu Ts : TypeId) (w : World) (base top : Nat) (v : Value) (l : List Rw) : Prop where
  outer : w.ownsRow base Ts 1 v l.length (l.map (·.2.1))
  rows : ∀ p ∈ l, RowAt Tu w base p.1 p.2.1 p.2.2 ∧ p.1 < top
  apart : l.Pairwise (fun p q => p.1 ≠ q.1)
  vtop : ∀ g, v.ownBlock = some g → g < top
variable {Tu Ts : TypeId} {v : Value} {l : List Rw}
theorem Tab.sc (h : Tab Tu Ts A base top v l) (s : Sc A B) : Tab Tu Ts B base top v l := ⟨own_sc h.outer s, fun p hp => ⟨(h.rows p hp).1.sc s, (h.rows p hp).2⟩, h.apart, h.vtop⟩
theorem Tab.later (h : Tab Tu Ts A base top v l) (hb : Below A.heap.size A B) : Tab Tu Ts B base top v l := h.sc (.of_below hb)
theorem Tab.drew (h : Tab Tu Ts A base top v l) : Tab Tu Ts A.drew base top v l := h.sc (Sc.of_below (Below.drew (Below.refl _ _)))
theorem Tab.more {top' : Nat} (h : Tab Tu Ts A base top v l) (ht : top ≤ top') : Tab Tu Ts A base top' v l := ⟨h.outer, fun p hp => ⟨(h.rows p hp).1, by have := (h.rows p hp).2; omega⟩, h.apart, fun g hg => by have := h.vtop g hg; omega⟩
theorem Tab.below (h : Tab Tu Ts A base top v l) (hb : Below top A B) : Tab Tu Ts B base top v l := by
  have hg : ∀ (g : Nat) (C : Array Value) (t : TypeId) (f : Nat × Nat), g < top → A.heap[g]? = some (Obj.cells C t f) → B.heap[g]? = some (Obj.cells C t f) := fun g C t f hlt e => (hb.block g hlt).trans e
  refine ⟨?_, fun p hp => ?_, h.apart, h.vtop⟩
  · refine ⟨h.outer.1, ?_⟩
    rcases h.outer.2 with hn | ⟨g, cap, cur, e, hb', hgg, rest⟩
    · exact .inl hn
    · exact .inr ⟨g, cap, cur, e, hb', hg g _ _ _ (h.vtop g (by rw [e]; rfl)) hgg, rest⟩
  · obtain ⟨hr, hlt⟩ := h.rows p hp
    obtain ⟨cur, cap, e, hb', hgg, _⟩ := hr.heap
    refine ⟨⟨hr.form, hr.own.1, ?_⟩, hlt⟩
    rcases hr.own.2 with hn | ⟨g, cap, cur, e', hb', hgg, rest⟩
    · exact .inl hn
    · refine .inr ⟨g, cap, cur, e', hb', hg g _ _ _ ?_ hgg, rest⟩
      rw [e] at e'
      injection e' with e1
      injection e1 with e1
      injection e1 with e1
      omega
theorem Tab.lower {base' : Nat} (h : Tab Tu Ts A base top v l) (hb : base' ≤ base) : Tab Tu Ts A base' top v l := ⟨own_lower h.outer hb, fun p hp => ⟨⟨(h.rows p hp).1.form, own_lower (h.rows p hp).1.own hb⟩, (h.rows p hp).2⟩, h.apart, h.vtop⟩
theorem Tab.nil (w : World) (base top : Nat) : Tab Tu Ts w base top (.slice none 0 0) [] := ⟨World.ownsRow_nil _ _ _ _, (fun p hp => by cases hp), List.Pairwise.nil, (fun g hg => by cases hg)⟩
/-- one row more -/
theorem Tab.push {g : Nat} {u v' : Value} {xs : List Int} (h : Tab Tu Ts A base top v l) (ht : Tu ≠ Ts) (hr : RowAt Tu A top g u xs) (hbt : base ≤ top) (hgt : g < B.heap.size)
    (ho : B.ownsRow base Ts 1 v' (l.length + 1) (l.map (·.2.1) ++ [u])) (hg : A.grownBy B v.ownBlock) (hlt : top ≤ B.heap.size) : Tab Tu Ts B base B.heap.size v' (l ++ [(g, u, xs)]) := by
  have hv : ∀ p ∈ l ++ [(g, u, xs)], RowAt Tu A base p.1 p.2.1 p.2.2 := fun p hp => by
    rcases List.mem_append.1 hp with hp | hp
    · exact (h.rows p hp).1
    · rw [List.mem_singleton.1 hp]; exact ⟨hr.form, own_lower hr.own hbt⟩
  have hne : ∀ p ∈ l ++ [(g, u, xs)], v.ownBlock ≠ some p.1 := fun p hp e => by
    obtain ⟨cur, cap, e', hb', hgg, _⟩ := (hv p hp).heap
    rcases h.outer.2 with ⟨hn, _⟩ | ⟨g', cap', cur', e2, _, hgg', _⟩
    · rw [hn] at e; cases e
    · rw [e2] at e
      injection e with e
      simp only at e
      rw [e] at hgg'
      rw [hgg] at hgg'
      injection hgg' with hgg'
      injection hgg' with _ e3 _
      exact ht e3
  refine ⟨by simpa using ho, fun p hp => ⟨(hv p hp).far hg (hne p hp), ?_⟩, ?_, fun g' hg' => ?_⟩
  · rcases List.mem_append.1 hp with hp | hp
    · have := (h.rows p hp).2; omega
    · rw [List.mem_singleton.1 hp]; exact hgt
  · refine List.pairwise_append.2 ⟨h.apart, List.pairwise_singleton _ _, fun p hp q hq => ?_⟩
    rw [List.mem_singleton.1 hq]
    have := (h.rows p hp).2
    obtain ⟨_, _, _, hb', _⟩ := hr.heap
    show p.1 ≠ g
    omega
  · rcases ho.2 with ⟨hn, _⟩ | ⟨g2, cap', cur', e2, _, hgg', _⟩
    · rw [hn] at hg'; cases hg'
    · rw [e2] at hg'
      injection hg' with hg'
      simp only at hg'
      rw [← hg']
      exact (Array.getElem?_eq_some_iff.1 hgg').1
theorem Tab.sr (h : Tab Tu Ts w base top v l) (hx : ∀ p ∈ l, Bytes p.2.2) : SR w top v (l.map (·.2)) := by
  rcases h.outer.2 with ⟨rfl, hn⟩ | ⟨g, cap, cur, rfl, hb, hgg, h1, h2, h3, h4⟩
  · have : l = [] := List.eq_nil_of_length_eq_zero hn
    subst this
    exact SR.nil _ _
  · refine ⟨some ⟨g, 0, none⟩, cap, by rw [List.length_map], by rw [List.length_map]; exact h1, h2, fun i hi => ?_⟩
    rw [List.length_map] at hi
    have hp : l[i] ∈ l := List.getElem_mem hi
    obtain ⟨hr, hlt⟩ := h.rows _ hp
    refine ⟨g, 0, l[i].2.1, l[i].2.2, rfl, h.vtop g rfl, by simp [List.getElem?_eq_getElem hi], ?_, hr.ir.more (by omega), hx _ hp⟩
    have hc : cur.toList[i]? = some l[i].2.1 := by
      have := congrArg (fun z => z[i]?) h4
      simp only [Nat.mul_one, List.getElem?_take, hi, if_true] at this
      rw [this]
      simp [List.getElem?_eq_getElem hi]
    rw [Nat.zero_add]
    unfold World.cell?
    rw [hgg]
    simpa using hc
/-- a cell of a row is written -/
theorem Tab.value (h : Tab Tu Ts w base top v l) : v = .slice none 0 0 ∧ l = [] ∨ ∃ g cap, v = .slice (some ⟨g, 0, none⟩) l.length cap ∧ base ≤ g ∧ g < top := by
  rcases h.outer.2 with ⟨rfl, hn⟩ | ⟨g, cap, cur, rfl, hb, hgg, h1, h2, h3, h4⟩
  · exact .inl ⟨rfl, List.eq_nil_of_length_eq_zero hn⟩
  · exact .inr ⟨g, cap, rfl, hb, h.vtop g rfl⟩
theorem Box.grown {g : Nat} {C : Array Value} {t : TypeId} {row : Option Nat} (h : Box A g C t) (hg : A.grownBy B row) (hne : row ≠ some g) : Box B g C t := (hg.block g h.lt (Ne.symm hne)).trans h
theorem grownBy_set (w : World) (p : Addr) (u : Value) : w.grownBy (w.setCell p u) (some p.block) :=
  ⟨rfl, rfl, rfl, by simp [World.setCell], fun k _ hk => Below.heap_setCell w p u k (fun e => hk (by rw [e]))⟩
theorem Tab.set_far (h : Tab Tu Ts A base top v l) {p : Addr} (hp : p.block < base) (x : Value) : Tab Tu Ts (A.setCell p x) base top v l := by
  have hg := grownBy_set A p x
  refine ⟨h.outer.kept hg ?_, fun q hq => ⟨(h.rows q hq).1.far hg (fun e => ?_), (h.rows q hq).2⟩, h.apart, h.vtop⟩
  · cases e : v.ownBlock with
    | none => exact .inl rfl
    | some k =>
      refine .inr (fun e2 => ?_)
      injection e2 with e2
      have := (h.outer.lt k e).1
      omega
  · obtain ⟨_, _, _, hb, _⟩ := (h.rows q hq).1.heap
    injection e with e
    omega
/-- a slice of known size is made: its cells under one name -/
theorem made_run {P : Program} {t e : TypeId} {i : TypeInfo} {z : Value} (ht : P.underlying t = some (.slice e)) (hi : P.info? e = some i) (hz : i.zero = some z) (hs : i.size = 1) (l c : Nat) (hlc : l ≤ c) (hb : i.bytes * c ≤ 281474976710656) (hc : c ≤ 1000000) :
    ∃ AC : Array Value, AC = madeCells z.cells (c * 1) ∧ AC.size = c * 1 ∧ ∀ W : World, (Instr.makeSlice t (.int .i64 l) (.int .i64 c)).run P W = .ok (.slice (some ⟨W.heap.size, 0, none⟩) l c) (W.alloc (.cells AC e)) :=
  ⟨_, rfl, size_madeCells _ _, fun W => by
    have := run_make (w := W) t e i z ht hi hz .i64 .i64 l c (by omega) (by omega) (by have : ((i.bytes : Int) * (c : Int)) = ((i.bytes * c : Nat) : Int) := by simp
                                                                                       omega) (by omega)
    rwa [Int.toNat_natCast, Int.toNat_natCast, hs] at this⟩
end
end Go.Proofs.Mem
