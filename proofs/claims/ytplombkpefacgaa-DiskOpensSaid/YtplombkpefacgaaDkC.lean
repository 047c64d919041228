import Derived.Test.YtplombkpefacgaaDkB
import Derived.Test.YtplombkpefacgaaSs
/- The map of fates: what it tells. -/
namespace Go.Proofs.Ytplombkpefacgaa.Disk
open Go.ChangeShapes Go.WideShapes Go.ChangeAt Go.RowKit Go.IntWalk Go.Proofs.Mem Law
set_option linter.unusedVariables false
set_option linter.unusedSimpArgs false
/-- a fate -/
structure Ft where
  file : Int
  sec : Int
  keep : Int
  torn : Int
def Ft.Ok (x : Ft) : Prop := (0 ≤ x.file ∧ x.file ≤ 255) ∧ (-9223372036854775808 ≤ x.sec ∧ x.sec ≤ 9223372036854775807)
def cFt (x : Ft) : List Value := [.int .u8 x.file, .int .i64 x.sec, .int .i64 x.keep, .int .i64 x.torn]
@[reducible] def Ft.v (x : Ft) : Value := .agg #[.int .u8 x.file, .int .i64 x.sec, .int .i64 x.keep, .int .i64 x.torn]
def Ft.d (x : Ft) : DataW Unit := .agg [.lit (.int .u8 x.file), .lit (.int .i64 x.sec), .lit (.int .i64 x.keep), .lit (.int .i64 x.torn)]
def noFt : Ft := ⟨0, 0, 0, 0⟩
def RF (v : Value) : Option (DataW Unit × List MemPlace) :=
  match v with
  | .agg cs => match cs.toList with
    | [.int .u8 a, .int .i64 b, .int .i64 c, .int .i64 d] => some (Ft.d ⟨a, b, c, d⟩, [])
    | _ => none
  | _ => none
theorem RF_mk (x : Ft) : RF x.v = some (x.d, []) := rfl
theorem RF_inv {v : Value} {x : Ft} {ps : List MemPlace} (h : RF v = some (x.d, ps)) : v = x.v := by
  unfold RF at h
  split at h
  · rename_i cs
    split at h
    · rename_i a b c d e
      injection h with h
      injection h with h1 _
      unfold Ft.d at h1
      injection h1 with h1
      simp only [List.cons.injEq, DataW.lit.injEq, Lit.int.injEq, true_and, and_true] at h1
      obtain ⟨h1, h2, h3, h4⟩ := h1
      have hc : cs = #[.int .u8 a, .int .i64 b, .int .i64 c, .int .i64 d] := by
        apply Array.ext'
        exact e
      rw [hc, h1, h2, h3, h4]
    · cases h
  · cases h
/-- the first fate that names a sector -/
def hits (f s : Int) (x : Ft) : Bool := decide (x.file = f) && decide (x.sec = s)
def fateAt (l : List Ft) (f s : Int) : Ft := (l.find? (hits f s)).getD noFt
/-- block m is a map of l's fates -/
def MapAt (w : World) (m : Nat) (l : List Ft) : Prop :=
  ∃ (n : Nat) (D : DataW Unit), w.ownsMap Try.prog 90 RF m n D ∧ n ≤ l.length ∧ Maps.IsMap D ∧
    ∀ f s kl, keyOf Try.prog 90 (pk f s) = some kl → D.atKey kl noFt.d = (fateAt l f s).d ∧ Maps.has D kl = (l.find? (hits f s)).isSome
theorem MapAt.kept {w w' : World} {m : Nat} {l : List Ft} {row : Option Nat} (h : MapAt w m l) (hg : w.grownBy w' row) (hne : some m ≠ row) : MapAt w' m l := by
  obtain ⟨n, D, h1, h2⟩ := h
  exact ⟨n, D, h1.kept hg hne, h2⟩
theorem MapAt.later {w w' : World} {m : Nat} {l : List Ft} (h : MapAt w m l) (hb : Below w.heap.size w w') : MapAt w' m l :=
  h.kept (row := none) ⟨hb.os, hb.tape, hb.output, hb.size, fun k hk _ => hb.block k hk⟩ (by simp)
theorem MapAt.lt {w : World} {m : Nat} {l : List Ft} (h : MapAt w m l) : m < w.heap.size := by
  obtain ⟨n, D, h1, _⟩ := h
  exact h1.lt
theorem MapAt.made (w : World) : MapAt (w.alloc (.map #[] 0)) w.heap.size [] :=
  ⟨0, .map [], World.ownsMap_made _ _ _ _, Nat.le_refl _, ⟨[], rfl⟩, fun f s kl _ => ⟨rfl, rfl⟩⟩
theorem zeroFt (w : World) : (zeroValue 50).run Try.prog w = .ok noFt.v w := by kernel_rfl
theorem MapAt.look {w : World} {m : Nat} {l : List Ft} (h : MapAt w m l) (f s : Int) (hf : 0 ≤ f ∧ f ≤ 255) (hs : -9223372036854775808 ≤ s ∧ s ≤ 9223372036854775807) :
    (Instr.lookup 88 (.map (some m)) (pk f s) false).run Try.prog w = .ok (fateAt l f s).v w ∧
    (Instr.lookup 88 (.map (some m)) (pk f s) true).run Try.prog w = .ok (.tuple #[(fateAt l f s).v, .bool (l.find? (hits f s)).isSome]) w := by
  obtain ⟨n, D, h1, h2, h3, h4⟩ := h
  obtain ⟨kl, hk⟩ := keyOf_pk f s hf hs
  obtain ⟨e1, e2⟩ := h4 f s kl hk
  obtain ⟨v, ps, hr, hv⟩ := h1.lookup keyedK Try.underlying88 (zeroFt w) (RF_mk noFt) hk
  obtain ⟨v', ps', hr', hv'⟩ := h1.look_ok keyedK Try.underlying88 (zeroFt w) (RF_mk noFt) hk
  rw [e1] at hv hv'
  rw [RF_inv hv] at hr
  rw [RF_inv hv', e2] at hr'
  exact ⟨hr, hr'⟩
theorem pk_inj {f s f' s' : Int} (h : pk f s = pk f' s') : f = f' ∧ s = s' := by
  unfold pk at h
  injection h with h
  simp at h
  exact h
theorem find_snoc (l : List Ft) (x : Ft) (f s : Int) : (l ++ [x]).find? (hits f s) = (l.find? (hits f s)).or (if hits f s x then some x else none) := by
  rw [List.find?_append]
  congr 1
  rw [List.find?_cons]
  cases hits f s x <;> rfl
theorem MapAt.same {w : World} {m : Nat} {l : List Ft} {x : Ft} (h : MapAt w m l) (hs : (l.find? (hits x.file x.sec)).isSome = true) : MapAt w m (l ++ [x]) := by
  obtain ⟨n, D, h1, h2, h3, h4⟩ := h
  refine ⟨n, D, h1, by rw [List.length_append]; omega, h3, fun f s kl hk => ?_⟩
  have e : (l ++ [x]).find? (hits f s) = l.find? (hits f s) := by
    rw [find_snoc]
    by_cases hh : hits f s x = true
    · have : x.file = f ∧ x.sec = s := by simpa [hits] using hh
      obtain ⟨rfl, rfl⟩ := this
      cases e9 : l.find? (hits x.file x.sec) with
      | none => rw [e9] at hs; cases hs
      | some y => rfl
    · rw [if_neg hh]; cases l.find? (hits f s) <;> rfl
  unfold fateAt
  rw [e]
  exact h4 f s kl hk
theorem MapAt.put {w : World} {m : Nat} {l : List Ft} {x : Ft} (h : MapAt w m l) (hx : x.Ok) (hl : l.length ≤ 100000) (hs : (l.find? (hits x.file x.sec)).isSome = false) :
    ∃ w', (Instr.mapUpdate 88 (.map (some m)) (pk x.file x.sec) x.v).run Try.prog w = .ok () w' ∧ MapAt w' m (l ++ [x]) ∧ w.grownBy w' (some m) := by
  obtain ⟨n, D, h1, h2, h3, h4⟩ := h
  obtain ⟨kl, hk⟩ := keyOf_pk x.file x.sec hx.1 hx.2
  obtain ⟨w', hr, ho, hg⟩ := h1.update keyedK Try.underlying88 (by unfold maxLen; omega) hk (RF_mk x)
  refine ⟨w', hr, ⟨n + 1, D.put kl x.d, ho, by rw [List.length_append]; simp; omega, ?_, fun f s kl' hk' => ?_⟩, hg⟩
  · obtain ⟨es, rfl⟩ := h3; exact ⟨_, rfl⟩
  · by_cases hh : hits f s x = true
    · have : x.file = f ∧ x.sec = s := by simpa [hits] using hh
      obtain ⟨rfl, rfl⟩ := this
      rw [hk] at hk'
      injection hk' with hk'
      subst hk'
      have e9 : l.find? (hits x.file x.sec) = none := by cases e9 : l.find? (hits x.file x.sec) with
        | none => rfl
        | some y => rw [e9] at hs; cases hs
      have e : (l ++ [x]).find? (hits x.file x.sec) = some x := by rw [find_snoc, e9, if_pos hh]; rfl
      unfold fateAt
      rw [e]
      exact ⟨Maps.atKey_put_same h3 (keyedK.key hk) _ _, Maps.has_put_same h3 (keyedK.key hk) _⟩
    · have hne : kl' ≠ kl := fun e => by
        subst e
        obtain ⟨e1, e2⟩ := pk_inj (keyedK.inj hk' hk)
        exact hh (by simp [hits, e1, e2])
      have e : (l ++ [x]).find? (hits f s) = l.find? (hits f s) := by rw [find_snoc, if_neg hh]; cases l.find? (hits f s) <;> rfl
      unfold fateAt
      rw [e, Maps.atKey_put_other hne, Maps.has_put_other hne]
      exact h4 f s kl' hk'
theorem fate_any (w : World) (q m : Nat) (l : List Ft) (hq : Box w q #[.map (some m)] 88) (hm : MapAt w m l) (f s : Int) (hf : 0 ≤ f ∧ f ≤ 255) (hs : -9223372036854775808 ≤ s ∧ s ≤ 9223372036854775807) :
    Calls Try.prog 53 #[.int .u8 f, .int .i64 s, .pointer (some ⟨q, 0, none⟩)] w fun e w' => e = .returned (fateAt l f s).v ∧ Below w.heap.size w w' := by
  obtain ⟨W, hW⟩ : ∃ W, W = w.alloc (.cells #[.int .u8 0, .int .i64 0, .int .i64 0, .int .i64 0] 50) := ⟨_, rfl⟩
  have hbw := new_ (Below.refl w.heap.size w) (.cells #[.int .u8 0, .int .i64 0, .int .i64 0, .int .i64 0] 50)
  rw [← hW] at hbw
  have hl := ((hm.later hbw).look f s hf hs).1
  have kq : W.cell? ⟨q, 0, none⟩ = some (.map (some m)) := (hq.later hbw).cell 0
  have HB := Lib.hid hbw
  generalize fateAt l f s = x at hl ⊢
  unfold pk at hl
  rw [hW] at hl kq
  clear hbw hq hm
  go_enter Try.func53, Try.ntmps53
  go_wp2
  refine bodyPost_ret (v := x.v) (by simp [results, Try.results53, go_sem]; try rfl) rfl ?_
  exact ⟨rfl, new_ (Below.refl _ _) _⟩
end Go.Proofs.Ytplombkpefacgaa.Disk
