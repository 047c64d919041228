import Derived.Test.YteggcehjpfmikaaBox
import Derived.Test.YteggcehjpfmikaaLaw
import Derived.Test.YteggcehjpfmikaaMem3
import Derived.BigQuiet
import Derived.Deep.DeepCutAuto
import Derived.Handy
import Derived.Laws.AppendOwnNone
import Derived.Laws.CopyRow
import Derived.Laws.MakeOwn
import Derived.Lib.Hide
import Derived.Lib.SliceRun
import Derived.Maps.AppendAt
import Derived.OwnWalk
import Derived.ProofKit
import Derived.WalkKit
namespace Go.Proofs.Mem
open Go.RowKit Go.WideShapes
set_option linter.unusedVariables false
def Sc (A B : World) : Prop := ∀ (g : Nat) (C : Array Value) (t : TypeId) (f : Nat × Nat), A.heap[g]? = some (Obj.cells C t f) → B.heap[g]? = some (Obj.cells C t f)
section
variable {A B D w w' : World} {base top n : Nat}
theorem Sc.refl (A : World) : Sc A A := fun _ _ _ _ h => h
theorem Sc.trans (h : Sc A B) (k : Sc B D) : Sc A D := fun g C t f e => k g C t f (h g C t f e)
theorem Sc.of_below (h : Below A.heap.size A B) : Sc A B := fun g C t f e => (h.block g (Array.getElem?_eq_some_iff.1 e).1).trans e
theorem own_sc {e : TypeId} {size : Nat} {v : Value} {xs : List Value} (h : A.ownsRow base e size v n xs) (s : Sc A B) : B.ownsRow base e size v n xs := by
  refine ⟨h.1, ?_⟩
  rcases h.2 with hn | ⟨g, cap, cur, rfl, hb, hgg, rest⟩
  · exact .inl hn
  · exact .inr ⟨g, cap, cur, rfl, hb, s _ _ _ _ hgg, rest⟩
theorem Box.sc {g : Nat} {C : Array Value} {t : TypeId} (h : Box A g C t) (s : Sc A B) : Box B g C t := s _ _ _ _ h
theorem cell_sc {p : Addr} {v : Value} (h : A.cell? p = some v) (s : Sc A B) : B.cell? p = some v := by
  unfold World.cell? at h ⊢
  cases e : A.heap[p.block]? with
  | none => rw [e] at h; simp at h
  | some o =>
    cases o with
    | cells C t f => rw [s _ _ _ _ e]; rw [e] at h; exact h
    | _ => rw [e] at h; simp at h
theorem IR.sc {k : IntKind} {v : Value} {xs : List Int} (h : IR A top k v xs) (s : Sc A B) : IR B top k v xs := by
  obtain ⟨a, c, h1, h2, h3, h4, h5⟩ := h
  refine ⟨a, c, h1, h2, h3, h4, fun i hi => ?_⟩
  obtain ⟨b, off, e, hb, hc⟩ := h5 i hi
  exact ⟨b, off, e, hb, cell_sc hc s⟩
theorem SR.sc {v : Value} {vs : List (Value × List Int)} (h : SR A top v vs) (s : Sc A B) : SR B top v vs := by
  obtain ⟨a, c, h1, h2, h3, h5⟩ := h
  refine ⟨a, c, h1, h2, h3, fun i hi => ?_⟩
  obtain ⟨b, off, u, xs, e, hb, hv, hc, hr, hx⟩ := h5 i hi
  exact ⟨b, off, u, xs, e, hb, hv, cell_sc hc s, hr.sc s, hx⟩
structure RowAt (Tu : TypeId) (w : World) (base : Nat) (g : Nat) (u : Value) (xs : List Int) : Prop where
  form : ∃ cap, u = .slice (some ⟨g, 0, none⟩) xs.length cap
  own : w.ownsRow base Tu 1 u xs.length (xs.map (.int .u8))
theorem RowAt.of_own {Tu : TypeId} {u : Value} {xs : List Int} (h : w.ownsRow base Tu 1 u xs.length (xs.map (.int .u8))) (hx : 0 < xs.length) : ∃ g, RowAt Tu w base g u xs ∧ base ≤ g ∧ g < w.heap.size := by
  rcases h.2 with ⟨_, hn⟩ | ⟨g, cap, cur, rfl, hb, hgg, rest⟩
  · omega
  · exact ⟨g, ⟨⟨cap, rfl⟩, h⟩, hb, (Array.getElem?_eq_some_iff.1 hgg).1⟩
theorem RowAt.sc {Tu : TypeId} {g : Nat} {u : Value} {xs : List Int} (h : RowAt Tu A base g u xs) (s : Sc A B) : RowAt Tu B base g u xs := ⟨h.form, own_sc h.own s⟩
theorem RowAt.heap {Tu : TypeId} {g : Nat} {u : Value} {xs : List Int} (h : RowAt Tu w base g u xs) : ∃ cur cap, u = .slice (some ⟨g, 0, none⟩) xs.length cap ∧ base ≤ g ∧ w.heap[g]? = some (.cells cur Tu (0, 0)) ∧ xs.length ≤ cap ∧ cur.size = cap ∧ cap ≤ maxLen ∧ cur.toList.take xs.length = xs.map (.int .u8) := by
  obtain ⟨cap, rfl⟩ := h.form
  rcases h.own.2 with ⟨hn, _⟩ | ⟨g', cap', cur, e, hb, hgg, h1, h2, h3, h4⟩
  · cases hn
  · injection e with e1 e2 e3
    injection e1 with e1
    injection e1 with e1
    subst e1 e3
    exact ⟨cur, _, rfl, hb, hgg, h1, by omega, h2, by simpa using h4⟩
theorem RowAt.far {Tu : TypeId} {g : Nat} {u : Value} {xs : List Int} {row : Option Nat} (h : RowAt Tu A base g u xs) (hg : A.grownBy B row) (hne : row ≠ some g) : RowAt Tu B base g u xs := by
  refine ⟨h.form, h.own.kept hg (.inr ?_)⟩
  obtain ⟨cap, rfl⟩ := h.form
  simpa [Value.ownBlock] using Ne.symm hne
theorem RowAt.ir {Tu : TypeId} {g : Nat} {u : Value} {xs : List Int} (h : RowAt Tu w base g u xs) : IR w (g + 1) .u8 u xs := by
  obtain ⟨a, c, h1, h2, h3, h4, h5⟩ := IR.of_own h.own
  obtain ⟨cap, rfl⟩ := h.form
  injection h1 with e1 e2 e3
  subst e1 e3
  refine ⟨_, _, rfl, h2, h3, h4, fun i hi => ?_⟩
  obtain ⟨b, off, e, hb, hc⟩ := h5 i hi
  injection e with e
  injection e with e1 e2
  subst e1 e2
  exact ⟨_, _, rfl, by omega, hc⟩
abbrev Rw := Nat × Value × List Int
structure Tab (Tu Ts : TypeId) (w : World) (base top : Nat) (v : Value) (l : List Rw) : Prop where
  outer : w.ownsRow base Ts 1 v l.length (l.map (·.2.1))
  rows : ∀ p ∈ l, RowAt Tu w base p.1 p.2.1 p.2.2 ∧ p.1 < top
  apart : l.Pairwise (fun p q => p.1 ≠ q.1)
  vtop : ∀ g, v.ownBlock = some g → g < top
variable {Tu Ts : TypeId} {v : Value} {l : List Rw}
theorem Tab.sc (h : Tab Tu Ts A base top v l) (s : Sc A B) : Tab Tu Ts B base top v l := ⟨own_sc h.outer s, fun p hp => ⟨(h.rows p hp).1.sc s, (h.rows p hp).2⟩, h.apart, h.vtop⟩
theorem Tab.later (h : Tab Tu Ts A base top v l) (hb : Below A.heap.size A B) : Tab Tu Ts B base top v l := h.sc (.of_below hb)
theorem Tab.drew (h : Tab Tu Ts A base top v l) : Tab Tu Ts A.drew base top v l := h.sc (Sc.of_below (Below.drew (Below.refl _ _)))
theorem Tab.more {top' : Nat} (h : Tab Tu Ts A base top v l) (ht : top ≤ top') : Tab Tu Ts A base top' v l := ⟨h.outer, fun p hp => ⟨(h.rows p hp).1, by have := (h.rows p hp).2; omega⟩, h.apart, fun g hg => by have := h.vtop g hg; omega⟩
theorem Tab.below (h : Tab Tu Ts A base top v l) (hb : Below top A B) : Tab Tu Ts B base top v l := by
  have hg : ∀ (g : Nat) (C : Array Value) (t : TypeId) (f : Nat × Nat), g < top → A.heap[g]? = some (Obj.cells C t f) → B.heap[g]? = some (Obj.cells C t f) := fun g C t f hlt e => (hb.block g hlt).trans e
  refine ⟨?_, fun p hp => ?_, h.apart, h.vtop⟩
  · refine ⟨h.outer.1, ?_⟩
    rcases h.outer.2 with hn | ⟨g, cap, cur, e, hb', hgg, rest⟩
    · exact .inl hn
    · exact .inr ⟨g, cap, cur, e, hb', hg g _ _ _ (h.vtop g (by rw [e]; rfl)) hgg, rest⟩
  · obtain ⟨hr, hlt⟩ := h.rows p hp
    obtain ⟨cur, cap, e, hb', hgg, _⟩ := hr.heap
    refine ⟨⟨hr.form, hr.own.1, ?_⟩, hlt⟩
    rcases hr.own.2 with hn | ⟨g, cap, cur, e', hb', hgg, rest⟩
    · exact .inl hn
    · refine .inr ⟨g, cap, cur, e', hb', hg g _ _ _ ?_ hgg, rest⟩
      rw [e] at e'
      injection e' with e1
      injection e1 with e1
      injection e1 with e1
      omega
theorem Tab.lower {base' : Nat} (h : Tab Tu Ts A base top v l) (hb : base' ≤ base) : Tab Tu Ts A base' top v l := ⟨own_lower h.outer hb, fun p hp => ⟨⟨(h.rows p hp).1.form, own_lower (h.rows p hp).1.own hb⟩, (h.rows p hp).2⟩, h.apart, h.vtop⟩
theorem Tab.nil (w : World) (base top : Nat) : Tab Tu Ts w base top (.slice none 0 0) [] := ⟨World.ownsRow_nil _ _ _ _, (fun p hp => by cases hp), List.Pairwise.nil, (fun g hg => by cases hg)⟩
theorem Tab.push {g : Nat} {u v' : Value} {xs : List Int} (h : Tab Tu Ts A base top v l) (ht : Tu ≠ Ts) (hr : RowAt Tu A top g u xs) (hbt : base ≤ top) (hgt : g < B.heap.size)
    (ho : B.ownsRow base Ts 1 v' (l.length + 1) (l.map (·.2.1) ++ [u])) (hg : A.grownBy B v.ownBlock) (hlt : top ≤ B.heap.size) : Tab Tu Ts B base B.heap.size v' (l ++ [(g, u, xs)]) := by
  have hv : ∀ p ∈ l ++ [(g, u, xs)], RowAt Tu A base p.1 p.2.1 p.2.2 := fun p hp => by
    rcases List.mem_append.1 hp with hp | hp
    · exact (h.rows p hp).1
    · rw [List.mem_singleton.1 hp]; exact ⟨hr.form, own_lower hr.own hbt⟩
  have hne : ∀ p ∈ l ++ [(g, u, xs)], v.ownBlock ≠ some p.1 := fun p hp e => by
    obtain ⟨cur, cap, e', hb', hgg, _⟩ := (hv p hp).heap
    rcases h.outer.2 with ⟨hn, _⟩ | ⟨g', cap', cur', e2, _, hgg', _⟩
    · rw [hn] at e; cases e
    · rw [e2] at e
      injection e with e
      simp only at e
      rw [e] at hgg'
      rw [hgg] at hgg'
      injection hgg' with hgg'
      injection hgg' with _ e3 _
      exact ht e3
  refine ⟨by simpa using ho, fun p hp => ⟨(hv p hp).far hg (hne p hp), ?_⟩, ?_, fun g' hg' => ?_⟩
  · rcases List.mem_append.1 hp with hp | hp
    · have := (h.rows p hp).2; omega
    · rw [List.mem_singleton.1 hp]; exact hgt
  · refine List.pairwise_append.2 ⟨h.apart, List.pairwise_singleton _ _, fun p hp q hq => ?_⟩
    rw [List.mem_singleton.1 hq]
    have := (h.rows p hp).2
    obtain ⟨_, _, _, hb', _⟩ := hr.heap
    show p.1 ≠ g
    omega
  · rcases ho.2 with ⟨hn, _⟩ | ⟨g2, cap', cur', e2, _, hgg', _⟩
    · rw [hn] at hg'; cases hg'
    · rw [e2] at hg'
      injection hg' with hg'
      simp only at hg'
      rw [← hg']
      exact (Array.getElem?_eq_some_iff.1 hgg').1
theorem Tab.sr (h : Tab Tu Ts w base top v l) (hx : ∀ p ∈ l, Bytes p.2.2) : SR w top v (l.map (·.2)) := by
  rcases h.outer.2 with ⟨rfl, hn⟩ | ⟨g, cap, cur, rfl, hb, hgg, h1, h2, h3, h4⟩
  · have : l = [] := List.eq_nil_of_length_eq_zero hn
    subst this
    exact SR.nil _ _
  · refine ⟨some ⟨g, 0, none⟩, cap, by rw [List.length_map], by rw [List.length_map]; exact h1, h2, fun i hi => ?_⟩
    rw [List.length_map] at hi
    have hp : l[i] ∈ l := List.getElem_mem hi
    obtain ⟨hr, hlt⟩ := h.rows _ hp
    refine ⟨g, 0, l[i].2.1, l[i].2.2, rfl, h.vtop g rfl, by simp [List.getElem?_eq_getElem hi], ?_, hr.ir.more (by omega), hx _ hp⟩
    have hc : cur.toList[i]? = some l[i].2.1 := by
      have := congrArg (fun z => z[i]?) h4
      simp only [Nat.mul_one, List.getElem?_take, hi, if_true] at this
      rw [this]
      simp [List.getElem?_eq_getElem hi]
    rw [Nat.zero_add]
    unfold World.cell?
    rw [hgg]
    simpa using hc
theorem Tab.value (h : Tab Tu Ts w base top v l) : v = .slice none 0 0 ∧ l = [] ∨ ∃ g cap, v = .slice (some ⟨g, 0, none⟩) l.length cap ∧ base ≤ g ∧ g < top := by
  rcases h.outer.2 with ⟨rfl, hn⟩ | ⟨g, cap, cur, rfl, hb, hgg, h1, h2, h3, h4⟩
  · exact .inl ⟨rfl, List.eq_nil_of_length_eq_zero hn⟩
  · exact .inr ⟨g, cap, rfl, hb, h.vtop g rfl⟩
theorem Box.grown {g : Nat} {C : Array Value} {t : TypeId} {row : Option Nat} (h : Box A g C t) (hg : A.grownBy B row) (hne : row ≠ some g) : Box B g C t := (hg.block g h.lt (Ne.symm hne)).trans h
theorem grownBy_set (w : World) (p : Addr) (u : Value) : w.grownBy (w.setCell p u) (some p.block) :=
  ⟨rfl, rfl, rfl, by simp [World.setCell], fun k _ hk => Below.heap_setCell w p u k (fun e => hk (by rw [e]))⟩
theorem made_run {P : Program} {t e : TypeId} {i : TypeInfo} {z : Value} (ht : P.underlying t = some (.slice e)) (hi : P.info? e = some i) (hz : i.zero = some z) (hs : i.size = 1) (l c : Nat) (hlc : l ≤ c) (hb : i.bytes * c ≤ 281474976710656) (hc : c ≤ 1000000) :
    ∃ AC : Array Value, AC = madeCells z.cells (c * 1) ∧ AC.size = c * 1 ∧ ∀ W : World, (Instr.makeSlice t (.int .i64 l) (.int .i64 c)).run P W = .ok (.slice (some ⟨W.heap.size, 0, none⟩) l c) (W.alloc (.cells AC e)) :=
  ⟨_, rfl, size_madeCells _ _, fun W => by
    have := run_make (w := W) t e i z ht hi hz .i64 .i64 l c (by omega) (by omega) (by have : ((i.bytes : Int) * (c : Int)) = ((i.bytes * c : Nat) : Int) := by simp
                                                                                       omega) (by omega)
    rwa [Int.toNat_natCast, Int.toNat_natCast, hs] at this⟩
end
end Go.Proofs.Mem
namespace Go.Proofs.Cpy
open Go.RowKit Go.WideShapes Go.Proofs.Mem
set_option linter.unusedVariables false
theorem row_splice {Tu : TypeId} {w : World} {base g : Nat} {u : Value} {xs ys : List Int} (h : RowAt Tu w base g u xs) (hl : ys.length ≤ xs.length) {cur : Array Value} {t : TypeId} (hg : w.heap[g]? = some (.cells cur t (0, 0))) :
    RowAt Tu (w.setRow g (cur.toList.take 0 ++ ys.map (Value.int .u8) ++ cur.toList.drop (0 + (ys.map (Value.int .u8)).length)).toArray) base g u (ys ++ xs.drop ys.length) := by
  obtain ⟨cur', cap, rfl, hb, hgg, h1, h2, h3, h4⟩ := h.heap
  rw [hg] at hgg
  injection hgg with hgg
  injection hgg with e1 e2 e3
  subst e1 e2
  have hL : (ys ++ xs.drop ys.length).length = xs.length := by simp; omega
  refine ⟨⟨cap, by rw [hL]⟩, by simp, .inr ⟨g, cap, _, by rw [hL], hb, setRow_heap w g cur _ t _ hg, by rw [hL]; exact h1, h3, ?_, ?_⟩⟩
  · simp only [List.size_toArray, List.length_append, List.length_take, List.length_drop, List.length_map, Array.length_toList]; omega
  · rw [hL, Nat.mul_one]
    simp only [List.take_zero, List.nil_append, Nat.zero_add, List.length_map, List.map_append, List.map_drop]
    rw [List.take_append]
    rw [List.length_map, List.take_of_length_le (by rw [List.length_map]; exact hl)]
    congr 1
    rw [← h4, List.drop_take]
theorem copy_runs {P : Program} {w : World} (dT sT oT : TypeId) (elem : TypeId) (hu : P.underlying dT = some (.slice elem)) (hsz : (P.info? elem).map (·.size) = some 1)
    {Tu : TypeId} {base g : Nat} {cap : Nat} {xs : List Int} (hrow : RowAt Tu w base g (.slice (some ⟨g, 0, none⟩) xs.length cap) xs) (B : Nat) (ad : Addr) (c : Nat) (ys : List Int) (hr : IR w B .u8 (.slice (some ad) ys.length c) ys) (hl : ys.length ≤ xs.length) :
    ∃ w', (Builtin.copy_ #[dT, sT] oT #[.slice (some ⟨g, 0, none⟩) xs.length cap, .slice (some ad) ys.length c]).run P w = .ok (goInt ys.length) w' ∧ RowAt Tu w' base g (.slice (some ⟨g, 0, none⟩) xs.length cap) (ys ++ xs.drop ys.length) ∧ w.grownBy w' (some g) := by
  obtain ⟨cur, cap', e, hb, hgg, h1, h2, h3, h4⟩ := hrow.heap
  injection e with _ _ e3
  subst e3
  have hrun := run_copy_row (P := P) w dT sT oT elem g 0 xs.length cap ad ys.length c cur Tu (ys.map (.int .u8)) hu hsz hgg (by rw [List.length_map]; exact (Nat.min_eq_left hl).symm) (fun j v hj => by
    have hjl : j < ys.length := by
      rcases Nat.lt_or_ge j ys.length with hh | hh
      · exact hh
      · rw [List.getElem?_eq_none (by simpa using hh)] at hj; cases hj
    obtain ⟨b, off, e, _, hc⟩ := hr.index j hjl
    injection e with e
    subst e
    rw [Go.WideShapes.add_plain, hc, ← hj]
    simp [List.getD, List.getElem?_eq_getElem hjl]) (by rw [List.length_map]; omega) (fun v hv => by
    obtain ⟨z, _, rfl⟩ := List.mem_map.1 hv
    rfl)
  have e2 : goInt ((ys.map (Value.int .u8)).length : Nat) = goInt ys.length := by rw [List.length_map]
  rw [e2] at hrun
  refine ⟨_, hrun, ?_, ⟨rfl, rfl, rfl, by simp [World.setRow], fun k _ hk => setRow_other w g k _ (fun e => hk (by rw [e]))⟩⟩
  exact row_splice hrow hl hgg
theorem wp_copy_row {P : Program} (w : World) {o : Oper} {a : Act} {K : Act → World → Prop} {Q : Exit → Act → World → Prop} (d s : Operand) (dT sT : TypeId)
    (ho : o.op = .call { callee := .builtin .copy, args := #[d, s], argTypes := #[dT, sT] }) (elem : TypeId) (hu : P.underlying dT = some (.slice elem)) (hsz : (P.info? elem).map (·.size) = some 1)
    (Tu : TypeId) (base g n cap : Nat) (xs : List Int) (hn : xs.length = n) (hd : a.eval d = .slice (some ⟨g, 0, none⟩) n cap) (hrow : RowAt Tu w base g (.slice (some ⟨g, 0, none⟩) n cap) xs)
    (B : Nat) (ad : Addr) (c : Nat) (k : Nat) (ys : List Int) (hk : ys.length = k) (hs : a.eval s = .slice (some ad) k c) (hr : IR w B .u8 (.slice (some ad) k c) ys) (hl : k ≤ n)
    (h : ∀ w', RowAt Tu w' base g (.slice (some ⟨g, 0, none⟩) n cap) (ys ++ xs.drop ys.length) → w.grownBy w' (some g) → K (a.put o.dst (goInt k)) w') : o.wp P a w K Q := by
  subst hn hk
  obtain ⟨w', hrun, r1, r2⟩ := copy_runs (P := P) dT sT o.type elem hu hsz hrow B ad c ys hr hl
  unfold Oper.wp
  simp [execOp, ho, resolve, invoke, builtin, hs, hd, hrun, Result.andThen]
  exact h w' r1 r2
end Go.Proofs.Cpy
namespace Go.Proofs.Cpy
open Go.RowKit Go.WideShapes Go.Proofs.Mem
set_option linter.unusedVariables false
theorem row_splice_at {Tu : TypeId} {w : World} {base g o : Nat} {u : Value} {xs ys : List Int} (h : RowAt Tu w base g u xs) (hl : o + ys.length ≤ xs.length) {cur : Array Value} {t : TypeId} (hg : w.heap[g]? = some (.cells cur t (0, 0))) :
    RowAt Tu (w.setRow g (cur.toList.take o ++ ys.map (Value.int .u8) ++ cur.toList.drop (o + (ys.map (Value.int .u8)).length)).toArray) base g u (xs.take o ++ ys ++ xs.drop (o + ys.length)) := by
  obtain ⟨cur', cap, rfl, hb, hgg, h1, h2, h3, h4⟩ := h.heap
  rw [hg] at hgg
  injection hgg with hgg
  injection hgg with e1 e2 e3
  subst e1 e2
  have hL : (xs.take o ++ ys ++ xs.drop (o + ys.length)).length = xs.length := by simp; omega
  refine ⟨⟨cap, by rw [hL]⟩, by simp, .inr ⟨g, cap, _, by rw [hL], hb, setRow_heap w g cur _ t _ hg, by rw [hL]; exact h1, h3, ?_, ?_⟩⟩
  · simp only [List.size_toArray, List.length_append, List.length_take, List.length_drop, List.length_map, Array.length_toList]; omega
  · rw [hL, Nat.mul_one]
    simp only [List.length_map, List.map_append, List.map_drop, List.map_take]
    rw [← h4, List.take_append, List.take_of_length_le (by simp only [List.length_append, List.length_take, List.length_map]; omega), List.take_take, Nat.min_eq_left (by omega)]
    congr 1
    rw [List.drop_take]
    congr 1
    simp only [List.length_append, List.length_take, List.length_map, Array.length_toList]
    omega
theorem copy_runs_at {P : Program} {w : World} (dT sT oT : TypeId) (elem : TypeId) (hu : P.underlying dT = some (.slice elem)) (hsz : (P.info? elem).map (·.size) = some 1)
    {Tu : TypeId} {base g : Nat} {cap : Nat} {xs : List Int} (hrow : RowAt Tu w base g (.slice (some ⟨g, 0, none⟩) xs.length cap) xs) (o : Nat) (dL dC : Nat) (B : Nat) (ad : Addr) (c : Nat) (ys : List Int) (hr : IR w B .u8 (.slice (some ad) ys.length c) ys) (hd : ys.length ≤ dL) (hl : o + ys.length ≤ xs.length) :
    ∃ w', (Builtin.copy_ #[dT, sT] oT #[.slice (some ⟨g, o, none⟩) dL dC, .slice (some ad) ys.length c]).run P w = .ok (goInt ys.length) w' ∧ RowAt Tu w' base g (.slice (some ⟨g, 0, none⟩) xs.length cap) (xs.take o ++ ys ++ xs.drop (o + ys.length)) ∧ w.grownBy w' (some g) := by
  obtain ⟨cur, cap', e, hb, hgg, h1, h2, h3, h4⟩ := hrow.heap
  injection e with _ _ e3
  subst e3
  have hrun := run_copy_row (P := P) w dT sT oT elem g o dL dC ad ys.length c cur Tu (ys.map (.int .u8)) hu hsz hgg (by rw [List.length_map]; exact (Nat.min_eq_left hd).symm) (fun j v hj => by
    have hjl : j < ys.length := by
      rcases Nat.lt_or_ge j ys.length with hh | hh
      · exact hh
      · rw [List.getElem?_eq_none (by simpa using hh)] at hj; cases hj
    obtain ⟨b, off, e, _, hc⟩ := hr.index j hjl
    injection e with e
    subst e
    rw [Go.WideShapes.add_plain, hc, ← hj]
    simp [List.getD, List.getElem?_eq_getElem hjl]) (by rw [List.length_map]; omega) (fun v hv => by
    obtain ⟨z, _, rfl⟩ := List.mem_map.1 hv
    rfl)
  have e2 : goInt ((ys.map (Value.int .u8)).length : Nat) = goInt ys.length := by rw [List.length_map]
  rw [e2] at hrun
  refine ⟨_, hrun, ?_, ⟨rfl, rfl, rfl, by simp [World.setRow], fun k _ hk => setRow_other w g k _ (fun e => hk (by rw [e]))⟩⟩
  exact row_splice_at hrow hl hgg
end Go.Proofs.Cpy
namespace Go.Proofs.Yteggcehjpfmikaa.Disk
open Go.RowKit Go.WideShapes Go.Proofs.Mem
set_option linter.unusedVariables false
structure Se where
  last : List Int
  wait : List (List Int)
structure Dv where
  f : Nat → List Se
  lim : Bool
  left : Int
  dead : Bool
def Hd (w : World) (col : Nat → Nat) (k : Nat) (e : TypeId) (size : Nat) (v : Value) (n : Nat) (xs : List Value) : Prop := w.ownsRow 0 e size v n xs ∧ ∀ g, v.ownBlock = some g → col g = k
section
variable {w w' : World} {col col' : Nat → Nat} {k n size : Nat} {e : TypeId} {v : Value} {xs : List Value} {S : Nat → Prop}
theorem own_frS {base : Nat} (h : w.ownsRow base e size v n xs) (hf : Fr S w w') (hs : ∀ k, v.ownBlock = some k → ¬ S k) : w'.ownsRow base e size v n xs := by
  refine ⟨h.1, ?_⟩
  rcases h.2 with hn | ⟨g, cap, cur, rfl, hb, hgg, rest⟩
  · exact .inl hn
  · exact .inr ⟨g, cap, cur, rfl, hb, (hf.block g (Array.getElem?_eq_some_iff.1 hgg).1 (hs g rfl)).trans hgg, rest⟩
theorem Hd.fr (h : Hd w col k e size v n xs) (hf : Fr S w w') (hs : ∀ g, g < w.heap.size → S g → col g ≠ k) (hc : ∀ g, g < w.heap.size → col' g = col g) : Hd w' col' k e size v n xs :=
  ⟨own_frS h.1 hf (fun g hg hS => hs g (h.1.lt g hg).2 hS (h.2 g hg)), fun g hg => by rw [hc g (h.1.lt g hg).2]; exact h.2 g hg⟩
theorem Hd.nil (w : World) (col : Nat → Nat) (k : Nat) (e : TypeId) (size : Nat) : Hd w col k e size (.slice none 0 0) 0 [] := ⟨World.ownsRow_nil _ _ _ _, fun g hg => by cases hg⟩
end
structure SeAt (w : World) (col : Nat → Nat) (k : Nat) (s : Se) (u v : Value) (vs : List Value) : Prop where
  len : s.last.length = 128
  lens : ∀ x ∈ s.wait, x.length = 128
  byt : Bytes s.last
  byts : ∀ x ∈ s.wait, Bytes x
  last : Hd w col k 5 1 u 128 (s.last.map (.int .u8))
  n : vs.length = s.wait.length
  wait : Hd w col k 48 1 v vs.length vs
  row : ∀ (j : Nat) (x : Value) (y : List Int), vs[j]? = some x → s.wait[j]? = some y → Hd w col k 5 1 x 128 (y.map (.int .u8))
  apart : (u :: vs).Pairwise (fun a b => a.ownBlock ≠ b.ownBlock)
section
variable {w w' : World} {col col' : Nat → Nat} {k : Nat} {S : Nat → Prop} {s : Se} {u v : Value} {vs : List Value}
theorem SeAt.fr (h : SeAt w col k s u v vs) (hf : Fr S w w') (hs : ∀ g, g < w.heap.size → S g → col g ≠ k) (hc : ∀ g, g < w.heap.size → col' g = col g) : SeAt w' col' k s u v vs :=
  ⟨h.len, h.lens, h.byt, h.byts, h.last.fr hf hs hc, h.n, h.wait.fr hf hs hc, fun j x y h1 h2 => (h.row j x y h1 h2).fr hf hs hc, h.apart⟩
end
abbrev Pl := Value × Value × List Value
def cSe (p : Pl) : List Value := [p.1, p.2.1]
structure FiAt (tS : TypeId) (w : World) (col : Nat → Nat) (c : Nat) (v : Value) (l : List Se) (uv : List Pl) : Prop where
  n : uv.length = l.length
  row : Hd w col c tS 2 v l.length (uv.flatMap cSe)
  sec : ∀ (i : Nat) (p : Pl) (s : Se), uv[i]? = some p → l[i]? = some s → SeAt w col (c + 1 + i) s p.1 p.2.1 p.2.2
section
variable {tS : TypeId} {w w' : World} {col col' : Nat → Nat} {c : Nat} {S : Nat → Prop} {v : Value} {l : List Se} {uv : List Pl}
theorem FiAt.fr (h : FiAt tS w col c v l uv) (hf : Fr S w w') (hs : ∀ g, g < w.heap.size → S g → col g < c ∨ c + l.length < col g) (hc : ∀ g, g < w.heap.size → col' g = col g) : FiAt tS w' col' c v l uv :=
  ⟨h.n, h.row.fr hf (fun g hg hS => by have := hs g hg hS; omega) hc, fun i p s h1 h2 => (h.sec i p s h1 h2).fr hf (fun g hg hS => by
    have := hs g hg hS
    have := (List.getElem?_eq_some_iff.1 h2).1
    omega) hc⟩
end
def fc (i : Nat) : Nat := 5000 * i + 1
structure DvAt (tS tD : TypeId) (w : World) (S : Nat → Prop) (b : Nat) (D : Dv) (col : Nat → Nat) (fv : Nat → Value) (uv : Nat → List Pl) : Prop where
  box : Box w b #[fv 0, fv 1, .bool D.lim, .int .i64 D.left, .bool D.dead] tD
  here : S b
  bcol : col b = 0
  file : ∀ i, i < 2 → FiAt tS w col (fc i) (fv i) (D.f i) (uv i)
  most : ∀ i, i < 2 → (D.f i).length ≤ 4096
  mine : ∀ g, col g ≠ 0 → S g
  old : ∀ g, S g → g < w.heap.size
  left : 0 ≤ D.left ∧ D.left ≤ 9223372036854775807
section
variable {tS tD : TypeId} {w w' : World} {S T : Nat → Prop} {b : Nat} {D : Dv} {col : Nat → Nat} {fv : Nat → Value} {uv : Nat → List Pl}
theorem DvAt.far (h : DvAt tS tD w S b D col fv uv) (hf : Fr T w w') (ht : ∀ g, S g → ¬ T g) : DvAt tS tD w' S b D col fv uv :=
  ⟨h.box.fr hf (ht b h.here), h.here, h.bcol, fun i hi => (h.file i hi).fr hf (fun g hg hT => by
      have : col g = 0 := Decidable.byContradiction fun hc => ht g (h.mine g hc) hT
      unfold fc; omega) (fun _ _ => rfl), h.most, h.mine, fun g hg => Nat.lt_of_lt_of_le (h.old g hg) hf.size, h.left⟩
theorem DvAt.later (h : DvAt tS tD w S b D col fv uv) (hb : Below w.heap.size w w') : DvAt tS tD w' S b D col fv uv := h.far (T := fun _ => False) (Fr.of_below hb) (fun _ _ h => h)
end
end Go.Proofs.Yteggcehjpfmikaa.Disk
namespace Go.Proofs.Yteggcehjpfmikaa.Disk
open Go.ChangeShapes Go.WideShapes Go.ChangeAt Go.RowKit Go.IntWalk Go.Proofs.Mem
set_option linter.unusedVariables false
set_option linter.unusedSimpArgs false
@[reducible] def dC (fv : Nat → Value) (lim : Bool) (left : Int) (dead : Bool) : Array Value := #[fv 0, fv 1, .bool lim, .int .i64 left, .bool dead]
theorem two {i : Nat} (h : i < 2) : i = 0 ∨ i = 1 := by omega
theorem i8_wrap (i : Nat) (h : i ≤ 255) : IntKind.i64.wrap (i : Int) = (i : Int) := IntWalk.i64_in _ (by omega)
theorem file_any (w : World) (b : Nat) (fv : Nat → Value) (lim : Bool) (left : Int) (dead : Bool) (hb : Box w b (dC fv lim left dead) 75) (i : Nat) (hi : i ≤ 255) (A : Option Addr) (n c : Nat) (hv : i < 2 → fv i = .slice A n c) (hn : ¬ i < 2 → A = none ∧ n = 0 ∧ c = 0) :
    Calls Try.prog 75 #[.pointer (some ⟨b, 0, none⟩), .int .u8 i] w fun e w' => e = .returned (.slice A n c) ∧ w = w' := by
  have wi := i8_wrap i hi
  by_cases h : i < 2
  · have hv' := hv h
    have kc : w.cell? ⟨b, i, none⟩ = some (.slice A n c) := by
      rw [hb.cell i]
      rcases two h with rfl | rfl
      · rw [← hv']; rfl
      · rw [← hv']; rfl
    have d1 : decide ((2 : Int) ≤ (i : Int)) = false := by simp; omega
    have hi2 : (i : Int) < 2 := by omega
    clear hv hn hv'
    go_enter Try.func75, Try.ntmps75
    go_wp2
    go_ret
    exact ⟨rfl, rfl⟩
  · obtain ⟨rfl, rfl, rfl⟩ := hn h
    have d1 : decide ((2 : Int) ≤ (i : Int)) = true := by simp; omega
    clear hv hn hb
    go_enter Try.func75, Try.ntmps75
    go_wp2
    go_ret
    exact ⟨rfl, rfl⟩
theorem at_yes (w : World) (b : Nat) (fv : Nat → Value) (lim : Bool) (left : Int) (dead : Bool) (hb : Box w b (dC fv lim left dead) 75) (i : Nat) (hi : i < 2) (g L c : Nat) (hv : fv i = .slice (some ⟨g, 0, none⟩) L c) (n : Nat) (hn : n < L) (hL : L ≤ 4096) (hc : L ≤ c) (N : Int) (hN : N = n) :
    Calls Try.prog 76 #[.pointer (some ⟨b, 0, none⟩), .int .u8 i, .int .i64 N] w fun e w' => e = .returned (.pointer (some ⟨g, 2 * n, none⟩)) ∧ w = w' := by
  subst hN
  have FA := Lib.hid (file_any w b fv lim left dead hb i (by omega) _ _ _ (fun _ => hv) (fun h => absurd hi h))
  have d1 : decide ((n : Int) < 0) = false := by simp
  have d2 : decide ((L : Int) ≤ (n : Int)) = false := by simp; omega
  clear hb hv
  go_enter Try.func76, Try.ntmps76
  go_wp2_with fail
  (with_reducible refine FA.out.mono ?_)
  rintro e w1 ⟨rfl, rfl⟩
  go_wp2
  go_ret
  exact ⟨by rw [Nat.mul_comm]; rfl, rfl⟩
theorem at_no (w : World) (b : Nat) (fv : Nat → Value) (lim : Bool) (left : Int) (dead : Bool) (hb : Box w b (dC fv lim left dead) 75) (i : Nat) (hi : i ≤ 255) (A : Option Addr) (L c : Nat) (hv : i < 2 → fv i = .slice A L c) (hn : ¬ i < 2 → A = none ∧ L = 0 ∧ c = 0) (n : Int) (hno : n < 0 ∨ (L : Int) ≤ n) :
    Calls Try.prog 76 #[.pointer (some ⟨b, 0, none⟩), .int .u8 i, .int .i64 n] w fun e w' => e = .returned (.pointer none) ∧ w = w' := by
  have FA := Lib.hid (file_any w b fv lim left dead hb i hi _ _ _ hv hn)
  obtain ⟨q1, hq1⟩ : ∃ q, q = decide (n < 0) := ⟨_, rfl⟩
  obtain ⟨q2, hq2⟩ : ∃ q, q = decide ((L : Int) ≤ n) := ⟨_, rfl⟩
  have d1 : decide (n < 0) = q1 := hq1.symm
  have d2 : decide ((L : Int) ≤ n) = q2 := hq2.symm
  have HQ := Lib.hid (show (q1 || q2) = true by rw [hq1, hq2]; simpa using hno)
  clear hb hv hn hno hq1 hq2
  go_enter Try.func76, Try.ntmps76
  go_wp2_with fail
  (with_reducible refine FA.out.mono ?_)
  rintro e w1 ⟨rfl, rfl⟩
  cases q1
  · cases q2
    · have := HQ.out; simp at this
    · go_wp2
      go_ret
      exact ⟨rfl, rfl⟩
  · go_wp2
    go_ret
    exact ⟨rfl, rfl⟩
def cntB (lim : Bool) (left : Int) : Bool := !lim || decide (0 < left)
def cntL (lim : Bool) (left : Int) : Int := if lim = true ∧ 0 < left then left - 1 else left
def cntD (lim : Bool) (left : Int) (dead : Bool) : Bool := dead || !cntB lim left
theorem counts_any (w : World) (b : Nat) (fv : Nat → Value) (lim : Bool) (left : Int) (dead : Bool) (hb : Box w b (dC fv lim left dead) 75) (h0 : 0 ≤ left ∧ left ≤ 9223372036854775807) :
    Calls Try.prog 80 #[.pointer (some ⟨b, 0, none⟩)] w fun e w' => e = .returned (.bool (cntB lim left)) ∧ Box w' b (dC fv lim (cntL lim left) (cntD lim left dead)) 75 ∧ Fr (fun x => x = b) w w' := by
  have k2 : w.cell? ⟨b, 2, none⟩ = some (.bool lim) := hb.cell 2
  have k3 : w.cell? ⟨b, 3, none⟩ = some (.int .i64 left) := hb.cell 3
  have k4 : w.cell? ⟨b, 4, none⟩ = some (.bool dead) := hb.cell 4
  have f3 := hb.frozen 3
  have f4 := hb.frozen 4
  have HB := Lib.hid hb
  clear hb
  cases lim
  · go_enter Try.func80, Try.ntmps80
    go_wp2
    go_ret
    exact ⟨by simp [cntB], by simpa [cntL, cntD, cntB] using HB.out, Fr.refl _ _⟩
  · by_cases hl : 0 < left
    · have d1 : decide (0 < left) = true := by simpa using hl
      have wl : wrap64 (left - 1) = left - 1 := wrap64_in _ (by omega)
      go_enter Try.func80, Try.ntmps80
      go_wp2
      go_ret
      have hb := HB.out.set_ 3 (.int .i64 (left - 1))
      have hf := Fr.setCell (Fr.refl (fun x => x = b) w) (p := ⟨b, 3, none⟩) (.inl rfl) (.int .i64 (left - 1))
      simp only [List.setIfInBounds_toArray, List.set_cons_zero, List.set_cons_succ] at hb
      exact ⟨by simp [cntB, hl], by simpa [cntL, cntD, cntB, hl] using hb, hf⟩
    · have d1 : decide (0 < left) = false := by simpa using hl
      go_enter Try.func80, Try.ntmps80
      go_wp2
      go_ret
      have hb := HB.out.set_ 4 (.bool true)
      have hf := Fr.setCell (Fr.refl (fun x => x = b) w) (p := ⟨b, 4, none⟩) (.inl rfl) (.bool true)
      simp only [List.setIfInBounds_toArray, List.set_cons_zero, List.set_cons_succ] at hb
      have e0 : cntB true left = false := by simp [cntB]; omega
      have e1 : cntL true left = left := by simp [cntL]; omega
      have e2 : cntD true left dead = true := by simp [cntD, e0]
      rw [e0, e1, e2]
      exact ⟨rfl, hb, hf⟩
theorem size_any (w : World) (b : Nat) (fv : Nat → Value) (lim : Bool) (left : Int) (dead : Bool) (hb : Box w b (dC fv lim left dead) 75) (i : Nat) (hi : i ≤ 255) (A : Option Addr) (n c : Nat) (hv : i < 2 → fv i = .slice A n c) (hn : ¬ i < 2 → A = none ∧ n = 0 ∧ c = 0) :
    Calls Try.prog 50 #[.pointer (some ⟨b, 0, none⟩), .int .u8 i] w fun e w' => e = .returned (.int .i64 n) ∧ w = w' := by
  have FA := Lib.hid (file_any w b fv lim left dead hb i hi _ _ _ hv hn)
  clear hb hv hn
  go_enter Try.func50, Try.ntmps50
  go_wp2_with fail
  (with_reducible refine FA.out.mono ?_)
  rintro e w1 ⟨rfl, rfl⟩
  go_wp2
  go_ret
  exact ⟨rfl, rfl⟩
theorem halted_any (w : World) (b : Nat) (fv : Nat → Value) (lim : Bool) (left : Int) (dead : Bool) (hb : Box w b (dC fv lim left dead) 75) :
    Calls Try.prog 30 #[.pointer (some ⟨b, 0, none⟩)] w fun e w' => e = .returned (.bool dead) ∧ w = w' := by
  have k4 : w.cell? ⟨b, 4, none⟩ = some (.bool dead) := hb.cell 4
  clear hb
  go_enter Try.func30, Try.ntmps30
  go_wp2
  go_ret
  exact ⟨rfl, rfl⟩
theorem halt_any (w : World) (b : Nat) (fv : Nat → Value) (lim : Bool) (left : Int) (dead : Bool) (hb : Box w b (dC fv lim left dead) 75) (n : Int) :
    Calls Try.prog 12 #[.pointer (some ⟨b, 0, none⟩), .int .i64 n] w fun e w' => e = .returned (.tuple #[]) ∧ Box w' b (dC fv true (max n 0) dead) 75 ∧ Fr (fun x => x = b) w w' := by
  have k2 : w.cell? ⟨b, 2, none⟩ = some (.bool lim) := hb.cell 2
  have k3 : w.cell? ⟨b, 3, none⟩ = some (.int .i64 left) := hb.cell 3
  have f2 := hb.frozen 2
  have f3 := hb.frozen 3
  have HB := Lib.hid hb
  clear hb
  have hd : ∀ z : Int, Box ((w.setCell ⟨b, 2, none⟩ (.bool true)).setCell ⟨b, 3, none⟩ (.int .i64 z)) b (dC fv true z dead) 75 ∧ Fr (fun x => x = b) w ((w.setCell ⟨b, 2, none⟩ (.bool true)).setCell ⟨b, 3, none⟩ (.int .i64 z)) := fun z => by
    have hb := (HB.out.set_ 2 (.bool true)).set_ 3 (.int .i64 z)
    simp only [List.setIfInBounds_toArray, List.set_cons_zero, List.set_cons_succ] at hb
    exact ⟨hb, Fr.setCell (Fr.setCell (Fr.refl (fun x => x = b) w) (p := ⟨b, 2, none⟩) (.inl rfl) _) (p := ⟨b, 3, none⟩) (.inl rfl) _⟩
  have HD := Lib.hid hd
  clear hd
  by_cases hn : n < 0
  · have hm : max n 0 = 0 := by omega
    rw [hm]
    go_enter Try.func12, Try.ntmps12
    go_wp2
    go_end0
    exact ⟨rfl, HD.out _⟩
  · have hm : max n 0 = n := by omega
    have hn0 : 0 ≤ n := by omega
    rw [hm]
    go_enter Try.func12, Try.ntmps12
    go_wp2
    go_end0
    exact ⟨rfl, HD.out _⟩
theorem keep_any (w : World) (g o : Nat) (C : Array Value) (T : TypeId) (u v : Value) (vs : List Value) (hb : Box w g C T) (hu : C[o]? = some u) (hv : C[o + 1]? = some v) (hw : w.ownsRow 0 48 1 v vs.length vs) (n : Nat) (hn : n ≤ vs.length) (hl : vs.length ≤ 100000) (hs : ∀ x ∈ vs, ∃ A c, x = .slice A 128 c) :
    Calls Try.prog 52 #[.pointer (some ⟨g, o, none⟩), .int .i64 n] w fun e w' => e = .returned (.tuple #[]) ∧ Box w' g (C.setIfInBounds o (if n = 0 then u else vs.getD (n - 1) u)) T ∧ Fr (fun x => x = g) w w' := by
  have k0 : w.cell? ⟨g, o, none⟩ = some u := by rw [hb.cell o]; exact hu
  have k1 : w.cell? ⟨g, o + 1, none⟩ = some v := by rw [hb.cell (o + 1)]; exact hv
  have f0 := hb.frozen o
  have HB := Lib.hid hb
  by_cases h : n = 0
  · subst h
    have hC : C.setIfInBounds o u = C := by
      apply Array.ext
      · simp
      · intro i h1 h2
        rw [Array.getElem_setIfInBounds]
        split
        · rename_i e; subst e
          rw [Array.getElem?_eq_getElem h2] at hu
          exact (Option.some.inj hu).symm
        · rfl
    rw [if_pos rfl, hC]
    clear hb hw hs hC
    go_enter Try.func52, Try.ntmps52
    go_wp2
    go_end0
    exact ⟨rfl, HB.out, Fr.refl _ _⟩
  · have hlt : n - 1 < vs.length := by omega
    obtain ⟨gv, cv, rfl, hgv⟩ : ∃ gv cv, v = .slice (some ⟨gv, 0, none⟩) vs.length cv ∧ vs.length ≤ cv := by
      rcases hw.2 with ⟨_, h0⟩ | ⟨gv, cap, _, e1, _, _, h3, _⟩
      · omega
      · exact ⟨gv, cap, e1, h3⟩
    obtain ⟨Ax, cx, ex⟩ := hs vs[n - 1] (List.getElem_mem hlt)
    have kx : w.cell? ⟨gv, n - 1, none⟩ = some (.slice Ax 128 cx) := by
      rw [hw.cellAt (n - 1) (by omega), List.getElem?_eq_getElem hlt, ex]
    obtain ⟨m, hm⟩ : ∃ m, m = n - 1 := ⟨_, rfl⟩
    rw [← hm] at kx
    have d1 : decide (0 < (n : Int)) = true := by simp; omega
    have d1n : decide (0 < n) = true := by simp; omega
    have wn : wrap64 ((n : Int) - 1) = (m : Int) := by rw [wrap64_in _ (by omega)]; omega
    have wn' : IntKind.i64.wrap ((n : Int) - 1) = (m : Int) := by rw [IntWalk.i64_in _ (by omega)]; omega
    have hm1 : m < vs.length := by omega
    have HE := Lib.hid (show vs.getD (n - 1) u = .slice Ax 128 cx by rw [List.getD_eq_getElem?_getD, List.getElem?_eq_getElem hlt, ex]; rfl)
    have HN := Lib.hid h
    rw [if_neg h, HE.out]
    have hfin : Box (w.setCell ⟨g, o, none⟩ (.slice Ax 128 cx)) g (C.setIfInBounds o (.slice Ax 128 cx)) T ∧ Fr (fun x => x = g) w (w.setCell ⟨g, o, none⟩ (.slice Ax 128 cx)) := ⟨HB.out.set_ o _, Fr.setCell (Fr.refl (fun x => x = g) w) (p := ⟨g, o, none⟩) (.inl rfl) _⟩
    have HF := Lib.hid hfin
    clear hb hw hs hfin h hm ex hn hlt
    go_enter Try.func52, Try.ntmps52
    go_wp2
    go_end0
    exact ⟨rfl, HF.out.1, HF.out.2⟩
end Go.Proofs.Yteggcehjpfmikaa.Disk
namespace Go.Proofs.Mem
open Go.RowKit Go.WideShapes
set_option linter.unusedVariables false
theorem run_append_tx {P : Program} {t tx e e' : TypeId} (ht : P.underlying t = some (.slice e)) (hx : P.underlying tx = some (.slice e')) (ty : TypeId) (a b : Value) (w : World) :
    (Builtin.append_ #[t, tx] ty #[a, b]).run P w = (Builtin.append_ #[t, t] ty #[a, b]).run P w := by
  cases a <;> simp [Builtin.append_, run_underlying ht, run_underlying hx]
theorem run_append_all {P : Program} (w : World) (t tx ty : TypeId) (base : Nat) (e e' : TypeId) (i : TypeInfo) (k : IntKind) (bytes : Nat) (ht : P.underlying t = some (.slice e)) (htx : P.underlying tx = some (.slice e')) (hi : P.info? e = some i) (hz : i.zero = some (.int k 0))
    (hsize : i.size = 1) (hby : i.bytes = bytes) (v : Value) (n : Nat) (xs : List Int) (hown : w.ownsRow base e 1 v n (xs.map (.int k)))
    (B : Nat) (u : Value) (ys : List Int) (hr : IR w B k u ys) (h63 : n + ys.length ≤ maxLen) (hbytes : (n + ys.length) * bytes ≤ 140737488355328) (hbase : base ≤ w.heap.size) :
    ∃ v' w', (Builtin.append_ #[t, tx] ty #[v, u]).run P w = .ok v' w' ∧ w'.ownsRow base e 1 v' (n + ys.length) ((xs ++ ys).map (.int k)) ∧ w.grownBy w' v.ownBlock ∧ (v'.ownBlock = v.ownBlock ∨ v'.ownBlock = some w.heap.size) := by
  rw [run_append_tx ht htx]
  obtain ⟨A, c, rfl, h2, h3, h4, h5⟩ := hr
  cases A with
  | none =>
    have hc := h4 rfl
    have hl : ys.length = 0 := by omega
    have hy : ys = [] := List.eq_nil_of_length_eq_zero hl
    subst hy
    subst hc
    refine ⟨v, w, run_append_owned_none (P := P) w base t ty e i 1 ht hi _ n _ hown, by simpa using hown, ⟨rfl, rfl, rfl, Nat.le_refl _, fun _ _ _ => rfl⟩, .inl rfl⟩
  | some ad =>
    obtain ⟨v', w', h1, h2, h3, _, h5⟩ := run_append_own_at (P := P) w base t ty e i _ 1 bytes ht hi hz hsize hby rfl (by omega) v n _ hown ad ys.length c (ys.map (.int k)) (by simp) (by
      intro j u' hj
      have hjl : j < ys.length := by
        rcases Nat.lt_or_ge j ys.length with hh | hh
        · exact hh
        · rw [List.getElem?_eq_none (by simpa using hh)] at hj; cases hj
      obtain ⟨b, off, e, _, hc⟩ := h5 j hjl
      injection e with e
      subst e
      rw [Go.WideShapes.add_plain, hc, ← hj]
      simp [List.getD, List.getElem?_eq_getElem hjl]) (by
      intro u' hu
      obtain ⟨z, _, rfl⟩ := List.mem_map.1 hu
      rfl) h63 hbytes hbase
    exact ⟨v', w', h1, by simpa using h2, h3, h5⟩
theorem wpList_append_tx {P : Program} (w : World) {ops : Array Oper} {rest : List Oper} {o : Oper} {a : Act} {Q : Exit → Act → World → Prop} (hgd : o.guard = none) (s x : Operand) (t tx : TypeId)
    (ho : o.op = .call { callee := .builtin .append, args := #[s, x], argTypes := #[t, tx] })
    (base : Nat) (e e' : TypeId) (i : TypeInfo) (k : IntKind) (bytes : Nat) (ht : P.underlying t = some (.slice e)) (htx : P.underlying tx = some (.slice e')) (hi : P.info? e = some i) (hz : i.zero = some (.int k 0))
    (hsize : i.size = 1) (hby : i.bytes = bytes) (v : Value) (n : Nat) (xs : List Int) (hs : a.eval s = v) (hown : w.ownsRow base e 1 v n (xs.map (.int k)))
    (B : Nat) (u : Value) (ys : List Int) (hx : a.eval x = u) (hr : IR w B k u ys) (h63 : n + ys.length ≤ maxLen) (hbytes : (n + ys.length) * bytes ≤ 140737488355328) (hbase : base ≤ w.heap.size)
    (h : ∀ v' w', w'.ownsRow base e 1 v' (n + ys.length) ((xs ++ ys).map (.int k)) → w.grownBy w' v.ownBlock → (v'.ownBlock = v.ownBlock ∨ v'.ownBlock = some w.heap.size) → wpList P ops Q rest (a.put o.dst v') w') : wpList P ops Q (o :: rest) a w := by
  refine wpList_plain hgd fun K hK' => ?_
  obtain ⟨v', w', hrun, h1, h2, h3⟩ := run_append_all (P := P) w t tx o.type base e e' i k bytes ht htx hi hz hsize hby v n xs hown B u ys hr h63 hbytes hbase
  unfold Oper.wp
  simp [execOp, ho, resolve, invoke, builtin, hs, hx, hrun, Result.andThen]
  exact hK' _ _ (h v' w' h1 h2 h3)
theorem wp_append_tx {P : Program} (w : World) {o : Oper} {a : Act} {K : Act → World → Prop} {Q : Exit → Act → World → Prop} (s x : Operand) (t tx : TypeId)
    (ho : o.op = .call { callee := .builtin .append, args := #[s, x], argTypes := #[t, tx] })
    (base : Nat) (e e' : TypeId) (i : TypeInfo) (k : IntKind) (bytes : Nat) (ht : P.underlying t = some (.slice e)) (htx : P.underlying tx = some (.slice e')) (hi : P.info? e = some i) (hz : i.zero = some (.int k 0))
    (hsize : i.size = 1) (hby : i.bytes = bytes) (v : Value) (n : Nat) (xs : List Int) (hs : a.eval s = v) (hown : w.ownsRow base e 1 v n (xs.map (.int k)))
    (B : Nat) (u : Value) (ys : List Int) (hx : a.eval x = u) (hr : IR w B k u ys) (h63 : n + ys.length ≤ maxLen) (hbytes : (n + ys.length) * bytes ≤ 140737488355328) (hbase : base ≤ w.heap.size)
    (h : ∀ v' w', w'.ownsRow base e 1 v' (n + ys.length) ((xs ++ ys).map (.int k)) → w.grownBy w' v.ownBlock → (v'.ownBlock = v.ownBlock ∨ v'.ownBlock = some w.heap.size) → K (a.put o.dst v') w') : o.wp P a w K Q := by
  obtain ⟨v', w', hrun, h1, h2, h3⟩ := run_append_all (P := P) w t tx o.type base e e' i k bytes ht htx hi hz hsize hby v n xs hown B u ys hr h63 hbytes hbase
  unfold Oper.wp
  simp [execOp, ho, resolve, invoke, builtin, hs, hx, hrun, Result.andThen]
  exact h v' w' h1 h2 h3
end Go.Proofs.Mem
namespace Go.Proofs.Yteggcehjpfmikaa.Disk
open Go.ChangeShapes Go.WideShapes Go.ChangeAt Go.RowKit Go.IntWalk Go.Proofs.Mem
set_option linter.unusedVariables false
set_option linter.unusedSimpArgs false
theorem u8_info : (Try.prog.info? 5).map (fun i => (i.zero, i.size, i.bytes)) = some (some (.int .u8 0), 1, 1) := by kernel_rfl
theorem below_row {W w' a : World} {B base n size : Nat} {e : TypeId} {v : Value} {xs : List Value} (h : Below B a W) (hown : W.ownsRow base e size v n xs) (hg : W.grownBy w' v.ownBlock) (hb : B ≤ base) (hB : B ≤ W.heap.size) : Below B a w' :=
  h.trans ((Below.refl B W).grown hg hB (fun b hb' => by have := (hown.lt b hb').1; omega))
set_option maxRecDepth 100000 in
set_option maxHeartbeats 4000000 in
theorem clone_any (v : Value) (xs : List Int) (w : World) (B : Nat) (hv : IR w B .u8 v xs) (hB : B ≤ w.heap.size) (hl : xs.length ≤ 100000) :
    Calls Try.prog 56 #[v] w fun e w' => ∃ u, e = .returned u ∧ w'.ownsRow w.heap.size 5 1 u xs.length (xs.map (.int .u8)) ∧ Below w.heap.size w w' := by
  obtain ⟨i0, hi0, hz0, hz1, hz2⟩ := info_parts u8_info
  obtain ⟨A, c, rfl, hlc, hcm⟩ := hv.form
  cases A with
  | none =>
    have hc : c = 0 := by
      obtain ⟨A', c', e, _, _, h4, _⟩ := hv
      injection e with e1 e2 e3
      subst e1; subst e3
      exact h4 rfl
    subst hc
    have hx : xs = [] := List.eq_nil_of_length_eq_zero (by omega)
    subst hx
    have hq : ∀ W, (binOp .eql 48 (.slice none 0 0) (.slice none 0 0)).run Try.prog W = .ok (.bool true) W := fun W => Go.Lib.run_eql_slice_nil W 48 5 none 0 0 0 0 Try.underlying48
    go_enter Try.func56, Try.ntmps56
    go_wp2
    go_ret
    exact ⟨_, rfl, World.ownsRow_nil _ _ _ _, Below.refl _ _⟩
  | some a =>
    have HV := Lib.hid (hv.alloc hB (.cells #[] 5))
    have OW := Lib.hid (show (w.alloc (.cells #[] 5)).ownsRow w.heap.size 5 1 (.slice (some ⟨w.heap.size, 0, none⟩) 0 0) 0 (([] : List Int).map (.int .u8)) from ⟨rfl, .inr ⟨w.heap.size, 0, _, rfl, Nat.le_refl _, heap_alloc_new w _, Nat.le_refl _, Nat.zero_le _, rfl, rfl⟩⟩)
    clear hv
    have hq : ∀ W, (binOp .eql 48 (.slice (some a) xs.length c) (.slice none 0 0)).run Try.prog W = .ok (.bool false) W := fun W => Go.Lib.run_eql_slice_nil W 48 5 (some a) xs.length c 0 0 Try.underlying48
    go_enter Try.func56, Try.ntmps56
    go_wp2_with (at_builtin; refine wpList_append_tx _ rfl _ _ _ _ rfl w.heap.size 5 5 i0 .u8 1 Try.underlying48 Try.underlying48 hi0 hz0 hz1 hz2 _ 0 [] rfl OW.out B _ xs rfl HV.out (by unfold maxLen; omega) (by omega) (by simp) ?_; intro v2 w2 hown2 hg2 ho2; rw [Nat.zero_add, List.nil_append] at hown2; have OW2 := Lib.hid hown2; have HB2 := Lib.hid (below_row (new_ (Below.refl w.heap.size w) (.cells #[] 5)) OW.out hg2 (Nat.le_refl _) (by simp)); clear hown2 hg2 ho2)
    go_ret
    exact ⟨_, rfl, OW2.out, HB2.out⟩
theorem flat2 (uv : List Pl) : ∀ n p, uv[n]? = some p → (uv.flatMap cSe)[2 * n]? = some p.1 ∧ (uv.flatMap cSe)[2 * n + 1]? = some p.2.1 := by
  induction uv with
  | nil => intro n p h; simp at h
  | cons q uv ih =>
    intro n p h
    cases n with
    | zero => simp at h; subst h; exact ⟨rfl, rfl⟩
    | succ n =>
      simp only [List.getElem?_cons_succ] at h
      obtain ⟨h1, h2⟩ := ih n p h
      rw [List.flatMap_cons, show 2 * (n + 1) = 2 * n + 2 by omega, show 2 * n + 2 + 1 = 2 * n + 1 + 2 by omega]
      exact ⟨by simpa [cSe] using h1, by simpa [cSe] using h2⟩
theorem flat2_len (uv : List Pl) : (uv.flatMap cSe).length = 2 * uv.length := by
  induction uv with
  | nil => rfl
  | cons q uv ih => rw [List.flatMap_cons, List.length_append, ih]; simp [cSe]; omega
structure Spot (tS : TypeId) (w : World) (col : Nat → Nat) (c : Nat) (v : Value) (l : List Se) (uv : List Pl) (n : Nat) (g cap : Nat) (C : Array Value) (p : Pl) (s : Se) : Prop where
  hv : v = .slice (some ⟨g, 0, none⟩) l.length cap
  hcap : l.length ≤ cap
  hp : uv[n]? = some p
  hs : l[n]? = some s
  hcol : col g = c
  box : Box w g C tS
  c0 : C[2 * n]? = some p.1
  c1 : C[2 * n + 1]? = some p.2.1
  sec : SeAt w col (c + 1 + n) s p.1 p.2.1 p.2.2
  size : C.size = cap * 2 ∧ cap ≤ maxLen ∧ C.toList.take (l.length * 2) = uv.flatMap cSe
theorem FiAt.spot {tS : TypeId} {w : World} {col : Nat → Nat} {c : Nat} {v : Value} {l : List Se} {uv : List Pl} (h : FiAt tS w col c v l uv) (n : Nat) (hn : n < l.length) : ∃ g cap C p s, Spot tS w col c v l uv n g cap C p s := by
  have hp : n < uv.length := by rw [h.n]; exact hn
  rcases h.row.1.2 with ⟨_, h0⟩ | ⟨g, cap, cur, e1, _, hgg, h1, h2, h3, h4⟩
  · omega
  · have ep : uv[n]? = some uv[n] := List.getElem?_eq_getElem hp
    have es : l[n]? = some l[n] := List.getElem?_eq_getElem hn
    obtain ⟨f0, f1⟩ := flat2 uv n _ ep
    have hk : ∀ j, j < l.length * 2 → cur[j]? = (uv.flatMap cSe)[j]? := fun j hj => by
      rw [← h4, List.getElem?_take, if_pos hj, Array.getElem?_toList]
    refine ⟨g, cap, cur, uv[n], l[n], e1, h1, ep, es, h.row.2 g (by rw [e1]; rfl), hgg, ?_, ?_, h.sec n _ _ ep es, h3, h2, h4⟩
    · rw [hk _ (by omega)]; exact f0
    · rw [hk _ (by omega)]; exact f1
def Se.cur (s : Se) : List Int := s.wait.getLast?.getD s.last
theorem SeAt.form_u {w : World} {col : Nat → Nat} {k : Nat} {s : Se} {u v : Value} {vs : List Value} (h : SeAt w col k s u v vs) : ∃ g c, u = .slice (some ⟨g, 0, none⟩) 128 c := by
  rcases h.last.1.2 with ⟨_, h0⟩ | ⟨g, cap, _, e1, _⟩
  · cases h0
  · exact ⟨g, cap, e1⟩
theorem SeAt.form_w {w : World} {col : Nat → Nat} {k : Nat} {s : Se} {u v : Value} {vs : List Value} (h : SeAt w col k s u v vs) : ∀ x ∈ vs, ∃ A c, x = .slice A 128 c := by
  intro x hx
  obtain ⟨j, hj, rfl⟩ := List.mem_iff_getElem.1 hx
  have hr := h.row j _ (s.wait[j]'(by rw [← h.n]; exact hj)) (List.getElem?_eq_getElem hj) (List.getElem?_eq_getElem _)
  rcases hr.1.2 with ⟨_, h0⟩ | ⟨g, cap, _, e1, _⟩
  · cases h0
  · exact ⟨_, cap, e1⟩
theorem SeAt.form_v {w : World} {col : Nat → Nat} {k : Nat} {s : Se} {u v : Value} {vs : List Value} (h : SeAt w col k s u v vs) : ∃ A c, v = .slice A vs.length c ∧ vs.length ≤ c := by
  rcases h.wait.1.2 with ⟨rfl, h0⟩ | ⟨g, cap, _, rfl, _, _, h1, _⟩
  · rw [h0]; exact ⟨none, 0, rfl, Nat.le_refl _⟩
  · exact ⟨_, cap, rfl, h1⟩
theorem Hd.ir {w : World} {col : Nat → Nat} {k n : Nat} {v : Value} {xs : List Int} (h : Hd w col k 5 1 v n (xs.map (.int .u8))) (hn : xs.length = n) : IR w w.heap.size .u8 v xs := by
  subst hn; exact IR.of_own h.1
theorem own_len {W : World} {b : Nat} {v : Value} {n : Nat} {xs : List Int} (h : W.ownsRow b 5 1 v xs.length (xs.map (.int .u8))) (hl : xs.length = n) : W.ownsRow b 5 1 v n (xs.map (.int .u8)) := hl ▸ h
end Go.Proofs.Yteggcehjpfmikaa.Disk
namespace Go.Proofs.Yteggcehjpfmikaa.Disk
open Go.ChangeShapes Go.WideShapes Go.ChangeAt Go.RowKit Go.IntWalk Go.Proofs.Mem
set_option linter.unusedVariables false
set_option linter.unusedSimpArgs false
abbrev DA (w : World) (S : Nat → Prop) (b : Nat) (D : Dv) (col : Nat → Nat) (fv : Nat → Value) (uv : Nat → List Pl) : Prop := DvAt 78 75 w S b D col fv uv
theorem Se.cur_len {s : Se} (h1 : s.last.length = 128) (h2 : ∀ x ∈ s.wait, x.length = 128) : s.cur.length = 128 := by
  unfold Se.cur
  cases e : s.wait.getLast? with
  | none => exact h1
  | some x => exact h2 x (List.mem_of_getLast? e)
set_option maxRecDepth 100000 in
set_option maxHeartbeats 4000000 in
theorem read_yes {w : World} {S : Nat → Prop} {b : Nat} {D : Dv} {col : Nat → Nat} {fv : Nat → Value} {uv : Nat → List Pl} (h : DA w S b D col fv uv) (i : Nat) (hi : i < 2) (n : Nat) (s : Se) (hs : (D.f i)[n]? = some s) (hw : s.wait.length ≤ 100000) (N : Int) (hN : N = n) :
    Calls Try.prog 53 #[.pointer (some ⟨b, 0, none⟩), .int .u8 i, .int .i64 N] w fun e w' => ∃ u, e = .returned (.tuple #[u, .int .u16 0]) ∧ w'.ownsRow w.heap.size 5 1 u 128 (s.cur.map (.int .u8)) ∧ Below w.heap.size w w' := by
  subst hN
  have hn : n < (D.f i).length := (List.getElem?_eq_some_iff.1 hs).1
  obtain ⟨g, cap, C, p, s', sp⟩ := (h.file i hi).spot n hn
  obtain rfl : s' = s := Option.some.inj (sp.hs.symm.trans hs)
  have AT := Lib.hid (at_yes w b fv D.lim D.left D.dead h.box i hi g _ cap sp.hv n hn (h.most i hi) sp.hcap (n : Int) rfl)
  obtain ⟨gu, cu, eu⟩ := sp.sec.form_u
  obtain ⟨Av, cv, ev, hlv⟩ := sp.sec.form_v
  have k0 : w.cell? ⟨g, 2 * n, none⟩ = some p.1 := by rw [sp.box.cell]; exact sp.c0
  have k1 : w.cell? ⟨g, 2 * n + 1, none⟩ = some p.2.1 := by rw [sp.box.cell]; exact sp.c1
  rw [eu] at k0
  rw [ev] at k1
  have HV := Lib.hid sp.sec
  have hvl := sp.sec.n
  obtain ⟨V, hV⟩ : ∃ V, V = p.2.2.length := ⟨_, rfl⟩
  rw [← hV] at k1 hvl hlv
  have hVb : V ≤ 100000 := by omega
  by_cases hz : V = 0
  · have hcur : s'.cur = s'.last := by unfold Se.cur; rw [List.eq_nil_of_length_eq_zero (by omega : s'.wait.length = 0)]; rfl
    rw [hcur]
    subst hz
    have CL := Lib.hid (clone_any _ s'.last w w.heap.size (by have := HV.out.last.ir HV.out.len; exact this) (Nat.le_refl _) (by rw [HV.out.len]; decide))
    rw [eu, HV.out.len] at CL
    clear hvl hlv hV sp ev hs
    go_enter Try.func53, Try.ntmps53
    go_wp2_with fail
    (with_reducible refine AT.out.mono ?_)
    rintro e w1 ⟨rfl, rfl⟩
    go_wp2_with fail
    (with_reducible refine CL.out.mono ?_)
    rintro e w1 ⟨u, rfl, hu, hb⟩
    have HU := Lib.hid hu
    have HB := Lib.hid hb
    clear hu hb
    go_wp2
    go_ret2
    exact ⟨_, rfl, HU.out, HB.out⟩
  · have hlt : V - 1 < p.2.2.length := by omega
    have hlw : V - 1 < s'.wait.length := by omega
    have hcur : s'.cur = s'.wait[V - 1] := by
      unfold Se.cur
      rw [List.getLast?_eq_getElem?, ← hvl, List.getElem?_eq_getElem hlw]; rfl
    rw [hcur]
    obtain ⟨Ax, cx, ex⟩ := HV.out.form_w p.2.2[V - 1] (List.getElem_mem hlt)
    have hrow := HV.out.row (V - 1) _ _ (List.getElem?_eq_getElem hlt) (List.getElem?_eq_getElem hlw)
    have hrl := HV.out.lens _ (List.getElem_mem hlw)
    have CL := Lib.hid (clone_any _ (s'.wait[V - 1]) w w.heap.size (hrow.ir hrl) (Nat.le_refl _) (by rw [hrl]; decide))
    rw [ex, hrl] at CL
    generalize s'.wait[V - 1] = X at CL hrow hrl hcur ⊢
    obtain ⟨gv, eg⟩ : ∃ gv, Av = some ⟨gv, 0, none⟩ := by
      have hwt := HV.out.wait.1.2
      rw [ev] at hwt
      rcases hwt with ⟨_, h0⟩ | ⟨gv, cap, _, e1, _⟩
      · omega
      · injection e1 with e1; exact ⟨gv, e1⟩
    subst eg
    have kx : w.cell? ⟨gv, V - 1, none⟩ = some (.slice Ax 128 cx) := by
      have hwt := HV.out.wait.1
      rw [ev] at hwt
      rw [hwt.cellAt (V - 1) (by omega), List.getElem?_eq_getElem hlt, ex]
    obtain ⟨m, hm⟩ : ∃ m, m = V - 1 := ⟨_, rfl⟩
    rw [← hm] at kx
    have d1 : decide (0 < (V : Int)) = true := by simp; omega
    have d1n : decide (0 < V) = true := by simp; omega
    have wn : wrap64 ((V : Int) - 1) = (m : Int) := by rw [wrap64_in _ (by omega)]; omega
    have wn' : IntKind.i64.wrap ((V : Int) - 1) = (m : Int) := by rw [IntWalk.i64_in _ (by omega)]; omega
    have hm1 : m < V := by omega
    clear hvl hV sp ev hs hrow hrl hcur hm hz ex
    go_enter Try.func53, Try.ntmps53
    go_wp2_with fail
    (with_reducible refine AT.out.mono ?_)
    rintro e w1 ⟨rfl, rfl⟩
    go_wp2_with fail
    (with_reducible refine CL.out.mono ?_)
    rintro e w1 ⟨u, rfl, hu, hb⟩
    have HU := Lib.hid hu
    have HB := Lib.hid hb
    clear hu hb
    go_wp2
    go_ret2
    exact ⟨_, rfl, HU.out, HB.out⟩
end Go.Proofs.Yteggcehjpfmikaa.Disk
namespace Go.Proofs.Yteggcehjpfmikaa.Disk
open Go.ChangeShapes Go.WideShapes Go.ChangeAt Go.RowKit Go.IntWalk Go.Proofs.Mem
set_option linter.unusedVariables false
set_option linter.unusedSimpArgs false
theorem flat2_set (q : Pl) : ∀ (uv : List Pl) (n : Nat), n < uv.length → (uv.set n q).flatMap cSe = ((uv.flatMap cSe).set (2 * n) q.1).set (2 * n + 1) q.2.1
  | [], n, h => by simp at h
  | p :: uv, 0, h => by simp [cSe]
  | p :: uv, n + 1, h => by
    rw [List.set_cons_succ, List.flatMap_cons, List.flatMap_cons, flat2_set q uv n (by simpa using h)]
    have e : cSe p ++ uv.flatMap cSe = p.1 :: p.2.1 :: uv.flatMap cSe := rfl
    have e' : ∀ l : List Value, cSe p ++ l = p.1 :: p.2.1 :: l := fun _ => rfl
    rw [e, e', show 2 * (n + 1) = (2 * n + 1) + 1 by omega, show 2 * n + 1 + 1 + 1 = (2 * n + 1 + 1) + 1 by omega]
    simp only [List.set_cons_succ]
def Dv.upd (D : Dv) (i n : Nat) (s : Se) : Dv := { D with f := fun k => if k = i then (D.f i).set n s else D.f k }
def colN (w w' : World) (col : Nat → Nat) (k : Nat) : Nat → Nat := fun x => if x < w.heap.size then col x else if x < w'.heap.size then k else 0
def growS (w w' : World) (S : Nat → Prop) : Nat → Prop := fun x => S x ∨ (w.heap.size ≤ x ∧ x < w'.heap.size)
theorem colN_old {w w' : World} {col : Nat → Nat} {k g : Nat} (h : g < w.heap.size) : colN w w' col k g = col g := by unfold colN; rw [if_pos h]
theorem colN_new {w w' : World} {col : Nat → Nat} {k g : Nat} (h : w.heap.size ≤ g) (h' : g < w'.heap.size) : colN w w' col k g = k := by unfold colN; rw [if_neg (by omega), if_pos h']
theorem arr_take_set (C : Array Value) (m i : Nat) (x : Value) : (C.setIfInBounds i x).toList.take m = (C.toList.take m).set i x := by
  rw [Array.toList_setIfInBounds, List.take_set]
theorem DvAt.upd {tS tD : TypeId} {w w' : World} {S : Nat → Prop} {b : Nat} {D : Dv} {col : Nat → Nat} {fv : Nat → Value} {uv : Nat → List Pl} (h : DvAt tS tD w S b D col fv uv) {i n g cap : Nat} {C : Array Value} {p : Pl} {s : Se} (hi : i < 2)
    (sp : Spot tS w col (fc i) (fv i) (D.f i) (uv i) n g cap C p s) (hf : Fr (fun x => x = g ∨ col x = fc i + 1 + n) w w') (s' : Se) (p' : Pl) (hb : Box w' g ((C.setIfInBounds (2 * n) p'.1).setIfInBounds (2 * n + 1) p'.2.1) tS)
    (hs : SeAt w' (colN w w' col (fc i + 1 + n)) (fc i + 1 + n) s' p'.1 p'.2.1 p'.2.2) :
    DvAt tS tD w' (growS w w' S) b (D.upd i n s') (colN w w' col (fc i + 1 + n)) fv (fun k => if k = i then (uv i).set n p' else uv k) := by
  have hn : n < (D.f i).length := (List.getElem?_eq_some_iff.1 sp.hs).1
  have hn2 : n < (uv i).length := (List.getElem?_eq_some_iff.1 sp.hp).1
  have hmo := h.most i hi
  have hgl : g < w.heap.size := sp.box.lt
  have hbb : b < w.heap.size := h.box.lt
  have hgc := sp.hcol
  have hco : ∀ x, x < w.heap.size → colN w w' col (fc i + 1 + n) x = col x := fun x hx => colN_old hx
  refine ⟨h.box.fr hf (fun hk => ?_), .inl h.here, ?_, fun k hk => ?_, fun k hk => ?_, fun x hx => ?_, fun x hx => ?_, h.left⟩
  · have hbc := h.bcol
    unfold fc at *
    rcases hk with hk | hk
    · rw [hk] at hbc; omega
    · omega
  · rw [hco b hbb]; exact h.bcol
  · by_cases hki : k = i
    · subst hki
      simp only [Dv.upd, if_true]
      have fi := h.file k hk
      refine ⟨by rw [List.length_set, List.length_set]; exact fi.n, ⟨⟨?_, .inr ⟨g, cap, _, ?_, Nat.zero_le _, hb, ?_, sp.size.2.1, ?_, ?_⟩⟩, ?_⟩, ?_⟩
      · rw [flat2_len, List.length_set, List.length_set, fi.n]; omega
      · rw [List.length_set]; exact sp.hv
      · rw [List.length_set]; exact sp.hcap
      · simpa using sp.size.1
      · rw [arr_take_set, arr_take_set, List.length_set, sp.size.2.2, flat2_set _ _ _ hn2]
      · intro x hx
        rw [sp.hv] at hx
        injection hx with hx
        rw [← hx, hco _ hgl]; exact hgc
      · intro j q r hq hr
        by_cases hj : j = n
        · subst hj
          rw [List.getElem?_set_self hn2] at hq
          rw [List.getElem?_set_self hn] at hr
          cases hq; cases hr
          exact hs
        · rw [List.getElem?_set_ne (Ne.symm hj)] at hq hr
          refine (fi.sec j q r hq hr).fr hf (fun x hx hS => ?_) hco
          rcases hS with rfl | hS
          · rw [hgc]; omega
          · rw [hS]; omega
    · simp only [Dv.upd, if_neg hki]
      refine (h.file k hk).fr hf (fun x hx hS => ?_) hco
      have := h.most k hk
      unfold fc at *
      rcases hS with rfl | hS
      · rw [hgc]; omega
      · rw [hS]; omega
  · by_cases hki : k = i
    · subst hki; simp only [Dv.upd, if_true, List.length_set]; exact hmo
    · simp only [Dv.upd, if_neg hki]; exact h.most k hk
  · by_cases hlt : x < w.heap.size
    · rw [hco x hlt] at hx; exact .inl (h.mine x hx)
    · by_cases hlt' : x < w'.heap.size
      · exact .inr ⟨by omega, hlt'⟩
      · unfold colN at hx; rw [if_neg hlt, if_neg hlt'] at hx; exact absurd rfl hx
  · rcases hx with hx | hx
    · exact Nat.lt_of_lt_of_le (h.old x hx) hf.size
    · exact hx.2
theorem DvAt.head {tS tD : TypeId} {w w' : World} {S : Nat → Prop} {b : Nat} {D : Dv} {col : Nat → Nat} {fv : Nat → Value} {uv : Nat → List Pl} (h : DvAt tS tD w S b D col fv uv) (hf : Fr (fun x => x = b) w w') (lim : Bool) (left : Int) (dead : Bool) (hl : 0 ≤ left ∧ left ≤ 9223372036854775807)
    (hb : Box w' b #[fv 0, fv 1, .bool lim, .int .i64 left, .bool dead] tD) : DvAt tS tD w' S b { D with lim := lim, left := left, dead := dead } col fv uv :=
  ⟨hb, h.here, h.bcol, fun i hi => (h.file i hi).fr hf (fun g hg hT => by subst hT; rw [h.bcol]; unfold fc; omega) (fun _ _ => rfl), h.most, h.mine, fun g hg => Nat.lt_of_lt_of_le (h.old g hg) hf.size, hl⟩
end Go.Proofs.Yteggcehjpfmikaa.Disk
