import Derived.Test.YtpndcpmfcajmdaaBox
import Derived.Test.YtpndcpmfcajmdaaFr
import Derived.Test.YtpndcpmfcajmdaaLaw
import Derived.Test.YtpndcpmfcajmdaaMem2
import Derived.Test.YtpndcpmfcajmdaaMem3
import Derived.Below
import Derived.BigQuiet
import Derived.BigRegion
import Derived.Deep.Cut
import Derived.Deep.CutBlock
import Derived.Deep.CutRange
import Derived.Deep.QuietTactic
import Derived.Deep.Slices
import Derived.DeepKeys4
import Derived.Laws.AppendOwnNone
import Derived.Laws.MakeOwn
import Derived.Lib.Hide
import Derived.LoopN
import Derived.Maps.AppendAt
import Derived.Maps.Own
import Derived.Maps.OwnOps
import Derived.Maps.OwnSet
import Derived.Maps.RangeWalk
import Derived.Maps.Views
import Derived.OpenShut
import Derived.Orders
import Derived.ProofKit
import Derived.Sort.Grow
import Derived.WalkKit
namespace Go.Proofs.Mem
open Go.RowKit Go.WideShapes Go.Maps
set_option linter.unusedVariables false
structure KE (P : Program) (K : TypeId) (α : Type) where
  kv : α → Value
  ok : α → Prop
  kl : α → Lit
  keyed : Maps.Keyed P K
  key : ∀ x, ok x → keyOf P K (kv x) = some (kl x)
  inv : ∀ v l, keyOf P K v = some l → ∃ x, ok x ∧ v = kv x ∧ l = kl x
  inj : ∀ x y, kv x = kv y → x = y
structure EE (R : Value → Option (DataW Unit × List MemPlace)) (β : Type) where
  ev : β → Value
  ed : β → DataW Unit
  mem : ∀ b, ∃ ps, R (ev b) = some (ed b, ps)
  inv : ∀ v z, R v = some z → ∃ b, v = ev b ∧ z.1 = ed b
  inj : ∀ a b, ed a = ed b → a = b
section
variable {P : Program} {K : TypeId} {α β : Type} {R : Value → Option (DataW Unit × List MemPlace)} {E : KE P K α} {V : EE R β} {w w' : World} {m n : Nat} {f : α → Option β}
theorem EE.back (V : EE R β) {v : Value} {b : β} {ps : List MemPlace} (h : R v = some (V.ed b, ps)) : v = V.ev b := by
  obtain ⟨b', e1, e2⟩ := V.inv _ _ h
  rw [e1, V.inj _ _ e2]
theorem KE.kl_inj (E : KE P K α) {x y : α} (hx : E.ok x) (hy : E.ok y) (h : E.kl x = E.kl y) : x = y := by
  have h1 := E.key x hx
  have h2 := E.key y hy
  rw [h] at h1
  exact E.inj _ _ (E.keyed.inj h1 h2)
theorem KE.same (E : KE P K α) {x : α} (hx : E.ok x) : (E.kl x).sameKey (E.kl x) = true := WideAt.sameKey_self (E.keyed.key (E.key x hx))
theorem KE.other (E : KE P K α) {x y : α} (hx : E.ok x) (hy : E.ok y) (h : y ≠ x) : (E.kl y).sameKey (E.kl x) = false := Maps.sameKey_ne fun e => h (E.kl_inj hy hx e)
def Says (E : KE P K α) (V : EE R β) (D : DataW Unit) (f : α → Option β) : Prop :=
  (∀ x, E.ok x → (∀ z, D.atKey (E.kl x) z = ((f x).map V.ed).getD z) ∧ Maps.has D (E.kl x) = (f x).isSome) ∧ ∀ x, ¬ E.ok x → f x = none
def FM (E : KE P K α) (V : EE R β) (w : World) (m n : Nat) (f : α → Option β) : Prop := ∃ D, w.ownsMap P K R m n D ∧ Says E V D f
theorem FM.lt (h : FM E V w m n f) : m < w.heap.size := by obtain ⟨D, h, _⟩ := h; exact h.lt
theorem FM.mono (h : FM E V w m n f) {n' : Nat} (hn : n ≤ n') : FM E V w m n' f := by obtain ⟨D, h, k⟩ := h; exact ⟨D, h.mono hn, k⟩
theorem FM.kept {row : Option Nat} (h : FM E V w m n f) (hg : w.grownBy w' row) (hne : some m ≠ row) : FM E V w' m n f := by obtain ⟨D, h, k⟩ := h; exact ⟨D, h.kept hg hne, k⟩
theorem FM.fr {S : Nat → Prop} (h : FM E V w m n f) (hf : Fr S w w') (hn : ¬ S m) : FM E V w' m n f := by
  obtain ⟨D, h, k⟩ := h
  have hlt := h.lt
  obtain ⟨es, clock, hb, rest⟩ := h
  exact ⟨D, ⟨es, clock, (hf.block m hlt hn).trans hb, rest⟩, k⟩
theorem FM.later (h : FM E V w m n f) (hb : Below w.heap.size w w') : FM E V w' m n f := h.fr (S := fun _ => False) (Fr.of_below hb) id
theorem FM.drewN (h : FM E V w m n f) (j : Nat) : FM E V (w.drewN j) m n f := h
theorem FM.drew (h : FM E V w m n f) : FM E V w.drew m n f := h
theorem FM.ne_box {g : Nat} {C : Array Value} {t : TypeId} (h : FM E V w m n f) (hb : Box w g C t) : g ≠ m := by
  obtain ⟨D, ⟨es, clock, h1, _⟩, _⟩ := h
  rintro rfl
  unfold Box at hb
  rw [hb] at h1
  cases h1
theorem FM.made (E : KE P K α) (V : EE R β) (w : World) : FM E V (w.alloc (.map #[] 0)) w.heap.size 0 (fun _ => none) :=
  ⟨.map [], World.ownsMap_made _ _ _ _, fun x _ => ⟨fun z => rfl, rfl⟩, fun _ _ => rfl⟩
theorem FM.look (h : FM E V w m n f) {t e : TypeId} (ht : P.underlying t = some (.map K e)) (z : β) (hz : (zeroValue e).run P w = .ok (V.ev z) w) (x : α) (hx : E.ok x) :
    (Instr.lookup t (.map (some m)) (E.kv x) false).run P w = .ok (V.ev ((f x).getD z)) w ∧
    (Instr.lookup t (.map (some m)) (E.kv x) true).run P w = .ok (.tuple #[V.ev ((f x).getD z), .bool (f x).isSome]) w := by
  obtain ⟨D, h1, h2, _⟩ := h
  obtain ⟨e1, e2⟩ := h2 x hx
  obtain ⟨ps, hp⟩ := V.mem z
  obtain ⟨v, qs, hr, hv⟩ := h1.lookup E.keyed ht hz hp (E.key x hx)
  obtain ⟨v', qs', hr', hv'⟩ := h1.look_ok E.keyed ht hz hp (E.key x hx)
  have e3 : ((f x).map V.ed).getD (V.ed z) = V.ed ((f x).getD z) := by cases f x <;> rfl
  rw [e1, e3] at hv hv'
  rw [V.back hv] at hr
  rw [V.back hv', e2] at hr'
  exact ⟨hr, hr'⟩
def FR (E : KE P K α) (V : EE R β) (w : World) (m r n : Nat) (f : α → Option β) (left : α → Bool) (cnt : Nat) : Prop := ∃ D lf, w.ranges P K R m r n D lf cnt ∧ Says E V D f ∧ ∀ x, E.ok x → lf (E.kl x) = left x
theorem FR.fm {r cnt : Nat} {left : α → Bool} (h : FR E V w m r n f left cnt) : FM E V w m n f := by obtain ⟨D, lf, h, k, _⟩ := h; exact ⟨D, h.owns, k⟩
theorem FR.left_eq {r cnt : Nat} {left : α → Bool} (h : FR E V w m r n f left cnt) : w.rangeLeft m r = cnt := by obtain ⟨D, lf, h, k, _⟩ := h; exact h.left_eq
theorem FR.lt {r cnt : Nat} {left : α → Bool} (h : FR E V w m r n f left cnt) : r < w.heap.size := by obtain ⟨D, lf, h, k, _⟩ := h; exact h.lt
theorem FR.ne {r cnt : Nat} {left : α → Bool} (h : FR E V w m r n f left cnt) : r ≠ m := by obtain ⟨D, lf, h, k, _⟩ := h; exact h.ne
theorem FR.ne_box {r cnt g : Nat} {left : α → Bool} {C : Array Value} {t : TypeId} (h : FR E V w m r n f left cnt) (hb : Box w g C t) : g ≠ r := by
  obtain ⟨D, lf, ⟨es, clock, since, seen, c0, _, _, _, _, h1, _⟩, _⟩ := h
  rintro rfl
  unfold Box at hb
  rw [hb] at h1
  cases h1
theorem FR.fr {S : Nat → Prop} {r cnt : Nat} {left : α → Bool} (h : FR E V w m r n f left cnt) (hf : Fr S w w') (hm : ¬ S m) (hr : ¬ S r) : FR E V w' m r n f left cnt := by
  have l1 := h.fm.lt
  have l2 := h.lt
  obtain ⟨D, lf, ⟨es, clock, since, seen, c0, k1, k2, k3, k4, k5, k6⟩, k⟩ := h
  exact ⟨D, lf, ⟨es, clock, since, seen, c0, (hf.block m l1 hm).trans k1, k2, k3, k4, (hf.block r l2 hr).trans k5, k6⟩, k⟩
theorem FR.drewN {r cnt : Nat} {left : α → Bool} (h : FR E V w m r n f left cnt) (j : Nat) : FR E V (w.drewN j) m r n f left cnt := h
theorem FM.range (h : FM E V w m n f) {t e : TypeId} (ht : P.underlying t = some (.map K e)) :
    ∃ w' cnt, (Instr.range t (.map (some m))).run P w = .ok (.pointer (some ⟨w.heap.size, 0, none⟩)) w' ∧ FR E V w' m w.heap.size n f (fun x => (f x).isSome) cnt ∧ cnt ≤ n ∧ w.grownBy w' none ∧ w'.heap.size = w.heap.size + 1 := by
  obtain ⟨D, h1, h2⟩ := h
  have hs := h1.size_le
  obtain ⟨w', hr, hg, k1, k2⟩ := h1.range E.keyed ht
  exact ⟨w', _, hr, ⟨D, _, hg, h2, fun x hx => (h2.1 x hx).2⟩, hs, k1, k2⟩
theorem wpList_range_fm {ops : Array Oper} {rest : List Oper} {o : Oper} {a : Act} {Q : Exit → Act → World → Prop} (hg : o.guard = none) (mo : Operand) (t : TypeId) (hop : o.op = Op.range t mo) (e : TypeId) (ht : P.underlying t = some (.map K e))
    (hm : a.eval mo = .map (some m)) (h : FM E V w m n f)
    (hK : ∀ w' cnt, FR E V w' m w.heap.size n f (fun x => (f x).isSome) cnt → cnt ≤ n → Below w.heap.size w w' → w'.heap.size = w.heap.size + 1 → wpList P ops Q rest (a.put o.dst (.pointer (some ⟨w.heap.size, 0, none⟩))) w') :
    wpList P ops Q (o :: rest) a w := by
  refine wpList_plain hg fun K' hK' => ?_
  obtain ⟨w', cnt, hrun, r1, r0, r2, r3⟩ := h.range ht
  unfold Oper.wp
  simp [execOp, hop, hm, hrun, Result.andThen]
  exact hK' _ _ (hK w' cnt r1 r0 (grown_below r2) r3)
variable [DecidableEq α]
def fput (f : α → Option β) (x : α) (b : β) : α → Option β := fun y => if y = x then some b else f y
def fdel (f : α → Option β) (x : α) : α → Option β := fun y => if y = x then none else f y
theorem fput_same (f : α → Option β) (x : α) (b : β) : fput f x b x = some b := if_pos rfl
theorem fput_other (f : α → Option β) {x y : α} (b : β) (h : y ≠ x) : fput f x b y = f y := if_neg h
theorem fdel_same (f : α → Option β) (x : α) : fdel f x x = none := if_pos rfl
theorem fdel_other (f : α → Option β) {x y : α} (h : y ≠ x) : fdel f x y = f y := if_neg h
theorem Says.put {D : DataW Unit} (h : Says E V D f) (hD : Maps.IsMap D) {x : α} (hx : E.ok x) (b : β) : Says E V (D.put (E.kl x) (V.ed b)) (fput f x b) := by
  refine ⟨fun y hy => ?_, fun y hy => ?_⟩
  · by_cases e : y = x
    · subst e
      rw [fput_same]
      exact ⟨fun z => Maps.atKey_put_same hD (E.keyed.key (E.key y hx)) _ _, Maps.has_put_same hD (E.keyed.key (E.key y hx)) _⟩
    · have hne : E.kl y ≠ E.kl x := fun k => e (E.kl_inj hy hx k)
      rw [fput_other f b e]
      exact ⟨fun z => by rw [Maps.atKey_put_other hne]; exact (h.1 y hy).1 z, by rw [Maps.has_put_other hne]; exact (h.1 y hy).2⟩
  · rw [fput_other f b (fun e => hy (by rw [e]; exact hx))]
    exact h.2 y hy
theorem Says.del {D : DataW Unit} (h : Says E V D f) {x : α} (hx : E.ok x) : Says E V (D.del (E.kl x)) (fdel f x) := by
  refine ⟨fun y hy => ?_, fun y hy => ?_⟩
  · by_cases e : y = x
    · subst e
      rw [fdel_same]
      exact ⟨fun z => Maps.atKey_del_same _, Maps.has_del_same⟩
    · have hne : E.kl y ≠ E.kl x := fun k => e (E.kl_inj hy hx k)
      rw [fdel_other f e]
      exact ⟨fun z => by rw [Maps.atKey_del_other hne]; exact (h.1 y hy).1 z, by rw [Maps.has_del_other hne]; exact (h.1 y hy).2⟩
  · unfold fdel
    split
    · rfl
    · exact h.2 y hy
theorem FM.put (h : FM E V w m n f) {t e : TypeId} (ht : P.underlying t = some (.map K e)) (hn : n < maxLen) (x : α) (hx : E.ok x) (b : β) :
    ∃ w', (Instr.mapUpdate t (.map (some m)) (E.kv x) (V.ev b)).run P w = .ok () w' ∧ FM E V w' m (n + 1) (fput f x b) ∧ w.grownBy w' (some m) := by
  obtain ⟨D, h1, h2⟩ := h
  obtain ⟨ps, hp⟩ := V.mem b
  obtain ⟨w', hr, ho, hg⟩ := h1.update E.keyed ht hn (E.key x hx) hp
  exact ⟨w', hr, ⟨_, ho, h2.put h1.isMap hx b⟩, hg⟩
theorem FM.drop (h : FM E V w m n f) {t e : TypeId} (ht : P.underlying t = some (.map K e)) (x : α) (hx : E.ok x) (ty : TypeId) :
    ∃ w', (Builtin.delete_ #[t, K] ty #[.map (some m), E.kv x]).run P w = .ok (.tuple #[]) w' ∧ FM E V w' m n (fdel f x) ∧ w.grownBy w' (some m) := by
  obtain ⟨D, h1, h2⟩ := h
  obtain ⟨w', hr, ho, hg⟩ := h1.drop E.keyed ht (E.key x hx) ty
  exact ⟨w', hr, ⟨_, ho, h2.del hx⟩, hg.grown⟩
def but (left : α → Bool) (x : α) : α → Bool := fun y => left y && !decide (y = x)
theorem FR.next {r cnt : Nat} {left : α → Bool} (h : FR E V w m r n f left cnt) (ty : TypeId) :
    (cnt = 0 ∧ (∀ x, E.ok x → left x = false) ∧ (Instr.next (.pointer (some ⟨r, 0, none⟩)) false ty).run P w = .ok (.tuple #[.bool false]) w) ∨
    ∃ x b w' cnt', E.ok x ∧ left x = true ∧ f x = some b ∧ (Instr.next (.pointer (some ⟨r, 0, none⟩)) false ty).run P w = .ok (.tuple #[.bool true, E.kv x, V.ev b]) w' ∧
      FR E V w' m r n f (but left x) cnt' ∧ cnt' < cnt ∧ Fr (fun g => g = r) w w' ∧ w'.heap.size = w.heap.size ∧ (Instr.entry (.pointer (some ⟨r, 0, none⟩))).run P w' = .ok (.tuple #[E.kv x, V.ev b]) w' := by
  obtain ⟨D, lf, h1, h2, h3⟩ := h
  rcases h1.next E.keyed ty with ⟨k1, k2, k3⟩ | ⟨key, v, kl, y, w', cnt', k1, k2, k3, k4, k5, k6, k7, k8, k9, k10⟩
  · exact .inl ⟨k1, fun x hx => by rw [← h3 x hx]; exact k2 _, k3⟩
  · obtain ⟨x, hx, rfl, rfl⟩ := E.inv _ _ k1
    obtain ⟨b, rfl, e2⟩ := V.inv _ _ k3
    have hfx : f x = some b := by
      have q1 := (h2.1 x hx).1
      cases e : f x with
      | none =>
        have q2 := (h2.1 x hx).2
        have q3 := Maps.has_true_of_atKey k4
        rw [q3, e] at q2
        cases q2
      | some b' =>
        have q4 := q1 (V.ed b)
        rw [k4, e, e2] at q4
        rw [V.inj _ _ q4]
    refine .inr ⟨x, b, w', cnt', hx, by rw [← h3 x hx]; exact k2, hfx, k5, ⟨D, _, k6, h2, fun y' hy => ?_⟩, k7, ⟨k8.os, k8.tape, k8.output, k8.size, fun i hi hn => k8.block i hi (fun e => hn (by injection e))⟩, k9, k10⟩
    show (lf (E.kl y') && !(E.kl y').sameKey (E.kl x)) = but left x y'
    unfold but
    rw [h3 y' hy]
    by_cases e : y' = x
    · subst e; rw [E.same hx]; simp
    · rw [E.other hx hy e]; simp [e]
theorem wpList_next_fm {ops : Array Oper} {rest : List Oper} {o : Oper} {a : Act} {Q : Exit → Act → World → Prop} {r cnt : Nat} {left : α → Bool} (hg : o.guard = none) (it : Operand) (hop : o.op = Op.next it false)
    (hit : a.eval it = .pointer (some ⟨r, 0, none⟩)) (h : FR E V w m r n f left cnt)
    (hDone : (∀ x, E.ok x → left x = false) → wpList P ops Q rest (a.put o.dst (.tuple #[.bool false])) w)
    (hMore : ∀ (x : α) (b : β) (w' : World) (cnt' : Nat), E.ok x → left x = true → f x = some b → FR E V w' m r n f (but left x) cnt' → cnt' < cnt → Fr (fun g => g = r) w w' → w'.heap.size = w.heap.size →
      (Instr.entry (.pointer (some ⟨r, 0, none⟩))).run P w' = .ok (.tuple #[E.kv x, V.ev b]) w' → wpList P ops Q rest (a.put o.dst (.tuple #[.bool true, E.kv x, V.ev b])) w') :
    wpList P ops Q (o :: rest) a w := by
  refine wpList_plain hg fun K' hK' => ?_
  unfold Oper.wp
  rcases h.next o.type with ⟨h0, hl, hrun⟩ | ⟨x, b, w', cnt', k1, k2, k3, hrun, k5, k6, k7, k8, k9⟩
  · simp [execOp, hop, hit, hrun, Result.andThen]
    exact hK' _ _ (hDone hl)
  · simp [execOp, hop, hit, hrun, Result.andThen]
    exact hK' _ _ (hMore x b w' cnt' k1 k2 k3 k5 k6 k7 k8 k9)
end
def intKE (P : Program) (K : TypeId) (q : IntKind) (hk : P.underlying K = some (.int q)) : KE P K Int where
  kv x := .int q x
  ok x := (Lit.int q x).wf = true
  kl x := .int q x
  keyed := Maps.int_keyed hk
  key x hx := Maps.keyOf_int_mk hk hx
  inv v l h := by obtain ⟨x, e1, e2, e3⟩ := Maps.keyOf_int_inv hk h; exact ⟨x, e3, e1, e2⟩
  inj x y h := by injection h
def RSl (v : Value) : Option (DataW Unit × List MemPlace) :=
  match v with
  | .slice none 0 0 => some (.map [], [])
  | .slice (some ⟨b, 0, none⟩) n c => some (.agg [.lit (.int .u64 b), .lit (.int .u64 n), .lit (.int .u64 c)], [])
  | _ => none
def slEE : EE RSl (Option (Nat × Nat × Nat)) where
  ev b := match b with
    | none => .slice none 0 0
    | some (b, n, c) => .slice (some ⟨b, 0, none⟩) n c
  ed b := match b with
    | none => .map []
    | some (b, n, c) => .agg [.lit (.int .u64 b), .lit (.int .u64 n), .lit (.int .u64 c)]
  mem b := by
    cases b with
    | none => exact ⟨[], rfl⟩
    | some b => exact ⟨[], rfl⟩
  inv v z h := by
    unfold RSl at h
    split at h
    · injection h with h; exact ⟨none, rfl, by rw [← h]⟩
    · rename_i b n c; injection h with h; exact ⟨some (b, n, c), rfl, by rw [← h]⟩
    · cases h
  inj a b h := by
    cases a with
    | none =>
      cases b with
      | none => rfl
      | some b => cases h
    | some a =>
      cases b with
      | none => cases h
      | some b =>
        obtain ⟨a1, a2, a3⟩ := a
        obtain ⟨b1, b2, b3⟩ := b
        simp only [DataW.agg.injEq, List.cons.injEq, DataW.lit.injEq, Lit.int.injEq, true_and, and_true] at h
        obtain ⟨h1, h2, h3⟩ := h
        have : a1 = b1 := by omega
        have : a2 = b2 := by omega
        have : a3 = b3 := by omega
        subst_vars
        rfl
def unEE : EE (unitElem (H := Unit)) Unit where
  ev _ := .agg #[]
  ed _ := .agg []
  mem _ := ⟨[], unitElem_mk⟩
  inv v z h := by obtain ⟨e1, e2⟩ := unitElem_inv h; exact ⟨(), e1, by rw [e2]⟩
  inj _ _ _ := rfl
end Go.Proofs.Mem
namespace Go.Proofs.Each
open Go
set_option linter.unusedVariables false
section
variable {P : Program} {ops : Array Oper} {Q : Exit → Act → World → Prop} {md : Region.Mode}
def left (listed : Array Bool) : Nat := listed.toList.count false
theorem ready_at {listed : Array Bool} {i : Nat} (hs : listed.size = ops.size) (h : i ∈ Region.ready md ops listed) :
    ∃ o, ops[i]? = some o ∧ i < ops.size ∧ listed.getD i true = false ∧ ∀ e ∈ o.after, Region.binds md e = true → listed.getD e.on false = true := by
  unfold Region.ready at h
  rw [List.mem_filter, List.mem_range] at h
  obtain ⟨hi, h⟩ := h
  rw [Bool.and_eq_true] at h
  obtain ⟨h1, h2⟩ := h
  rw [Array.getElem?_eq_getElem hi] at h2
  refine ⟨ops[i], Array.getElem?_eq_getElem hi, hi, by simpa using h1, fun e he hb => ?_⟩
  simp only [Option.map_some, Option.getD_some] at h2
  have := (Array.all_eq_true'.1 h2) e he
  simpa [hb] using this
theorem left_zero {listed : Array Bool} (h : left listed = 0) (i : Nat) : listed.getD i true = true := by
  unfold left at h
  rw [List.count_eq_zero] at h
  by_cases hi : i < listed.size
  · rw [Array.getD_eq_getD_getElem?, Array.getElem?_eq_getElem hi]
    simp only [Option.getD_some]
    cases hb : listed[i]
    · exact absurd (hb ▸ Array.getElem_mem_toList hi) h
    · rfl
  · rw [Array.getD_eq_getD_getElem?, Array.getElem?_eq_none (by omega)]; rfl
theorem left_set {listed : Array Bool} {i : Nat} (hi : i < listed.size) (h : listed.getD i true = false) : left (listed.setIfInBounds i true) + 1 = left listed := by
  unfold left
  have hl : i < listed.toList.length := by simpa using hi
  have hv : listed.toList[i] = false := by
    rw [Array.getD_eq_getD_getElem?, Array.getElem?_eq_getElem hi] at h
    simpa using h
  rw [Array.toList_setIfInBounds]
  have hpos : 0 < listed.toList.count false := List.count_pos_iff.2 (hv ▸ List.getElem_mem hl)
  have := List.count_set (a := true) (b := false) (l := listed.toList) (i := i) hl
  rw [hv, if_pos (by rfl), if_neg (by decide)] at this
  omega
theorem wpAny_inv (I : Array Bool → Act → World → Prop)
    (hstep : ∀ listed a w i, listed.size = ops.size → I listed a w → i ∈ Region.ready md ops listed → wpOp P ops Q i (fun a' w' => I (listed.setIfInBounds i true) a' w') a w)
    (hend : ∀ listed a w, listed.size = ops.size → I listed a w → Region.ready md ops listed = [] → Q .normal a w) :
    ∀ (fuel : Nat) (listed : Array Bool) (a : Act) (w : World), listed.size = ops.size → left listed ≤ fuel → I listed a w → wpAny P md ops Q fuel listed a w := by
  intro fuel
  induction fuel with
  | zero =>
    intro listed a w hs hf hI
    have hr : Region.ready md ops listed = [] := by
      rw [List.eq_nil_iff_forall_not_mem]
      intro i hi
      obtain ⟨o, _, _, h2, _⟩ := ready_at hs hi
      rw [left_zero (by omega)] at h2
      cases h2
    exact ⟨hr, hend listed a w hs hI hr⟩
  | succ fuel ih =>
    intro listed a w hs hf hI
    refine ⟨hend listed a w hs hI, fun i hi => ?_⟩
    obtain ⟨o, _, h1, h2, _⟩ := ready_at hs hi
    have hl := left_set (by omega) h2
    exact wpOp_mono (fun a' w' h => ih _ a' w' (by rw [Array.size_setIfInBounds]; exact hs) (by omega) h) (hstep listed a w i hs hI hi)
theorem all_listed {listed : Array Bool} (hs : listed.size = ops.size) (hb : ∀ i o, ops[i]? = some o → ∀ e ∈ o.after, Region.binds md e = true → e.on < i)
    (hr : Region.ready md ops listed = []) : ∀ i, i < ops.size → listed.getD i false = true := by
  intro i
  induction i using Nat.strongRecOn with
  | _ i ih =>
    intro hi
    cases hc : listed.getD i false with
    | true => rfl
    | false =>
      exfalso
      have : i ∈ Region.ready md ops listed := by
        unfold Region.ready
        rw [List.mem_filter, List.mem_range]
        refine ⟨hi, ?_⟩
        rw [Bool.and_eq_true]
        constructor
        · rw [Array.getD_eq_getD_getElem?, Array.getElem?_eq_getElem (by omega)] at hc ⊢
          simp only [Option.getD_some] at hc ⊢
          rw [hc]; rfl
        · rw [Array.getElem?_eq_getElem hi]
          simp only [Option.map_some, Option.getD_some]
          rw [Array.all_eq_true']
          intro e he
          cases hbe : Region.binds md e with
          | false => rfl
          | true =>
            have hlt := hb i ops[i] (Array.getElem?_eq_getElem hi) e he hbe
            simpa using ih e.on hlt (by omega)
      rw [hr] at this
      cases this
theorem wp_region_inv {id : Nat} {a : Act} {w : World} (hm : P.follows .mixedOrders = true) (I : Array Bool → Act → World → Prop)
    (hstart : I (Array.replicate ops.size false) a w.drew)
    (hstep : ∀ listed a w i, listed.size = ops.size → I listed a w → i ∈ Region.ready .any ops listed → wpOp P ops Q i (fun a' w' => I (listed.setIfInBounds i true) a' w') a w)
    (hend : ∀ listed a w, listed.size = ops.size → I listed a w → Region.ready .any ops listed = [] → Q .normal a w) : (Code.region id ops true).wp P Q a w :=
  wp_region_any hm (wpAny_inv I hstep hend _ _ _ _ (by simp) (by unfold left; exact Nat.le_trans List.count_le_length (by simp)) hstart)
end
end Go.Proofs.Each
namespace Go.Proofs.Each
open Go
set_option linter.unusedVariables false
def upd (f : Nat → Value) (i : Nat) (v : Value) : Nat → Value := fun j => if j = i then v else f j
theorem upd_same (f : Nat → Value) (i : Nat) (v : Value) : upd f i v i = v := by simp [upd]
theorem upd_other (f : Nat → Value) (i j : Nat) (v : Value) (h : j ≠ i) : upd f i v j = f j := by simp [upd, h]
theorem upd_self (f : Nat → Value) (i : Nat) : upd f i (f i) = f := by funext j; unfold upd; split <;> simp_all
section
variable {P : Program} {ops : Array Oper} {a0 : Act} {L L' : Nat → Prop} {vals : Nat → Value} {a a' : Act}
structure Agree (ops : Array Oper) (a0 : Act) (L : Nat → Prop) (vals : Nat → Value) (a : Act) : Prop where
  defers : a.defers = a0.defers
  off : ∀ d, (∀ j oj, ops[j]? = some oj → L j → oj.dst ≠ some d) → a.tmps[d]? = a0.tmps[d]?
  on_ : ∀ j oj d, ops[j]? = some oj → L j → oj.dst = some d → a.tmps[d]? = (a0.tmps[d]?).map fun _ => vals j
def Apart (ops : Array Oper) : Prop := ∀ (i j : Nat) (oi oj : Oper) (d : Tmp), ops[i]? = some oi → ops[j]? = some oj → oi.dst = some d → oj.dst = some d → i = j
theorem Agree.start (h : ∀ j, ¬ L j) : Agree ops a0 L vals a0 := ⟨rfl, fun _ _ => rfl, fun j _ _ _ hj _ => absurd hj (h j)⟩
theorem Agree.put (hA : Apart ops) (h : Agree ops a0 L vals a) {i : Nat} {oi : Oper} (hi : ops[i]? = some oi) (hn : ¬ L i) (v : Value) (hL : ∀ j, L' j ↔ (L j ∨ j = i)) :
    Agree ops a0 L' (upd vals i v) (a.put oi.dst v) := by
  cases hd : oi.dst with
  | none =>
    refine ⟨h.defers, fun d hf => h.off d fun j oj hj hl => hf j oj hj ((hL j).2 (.inl hl)), fun j oj d hj hl hjd => ?_⟩
    rcases (hL j).1 hl with h1 | h1
    · rw [upd_other _ _ _ _ (by rintro rfl; exact hn h1)]; exact h.on_ j oj d hj h1 hjd
    · subst h1; rw [hi] at hj; cases hj; rw [hd] at hjd; cases hjd
  | some e =>
    refine ⟨h.defers, fun d hf => ?_, fun j oj d hj hl hjd => ?_⟩
    · have hne : e ≠ d := by rintro rfl; exact hf i oi hi ((hL i).2 (.inr rfl)) hd
      show (a.tmps.setIfInBounds e v)[d]? = _
      rw [Array.getElem?_setIfInBounds, if_neg hne]
      exact h.off d fun j oj hj hl => hf j oj hj ((hL j).2 (.inl hl))
    · show (a.tmps.setIfInBounds e v)[d]? = _
      by_cases hji : j = i
      · subst hji
        rw [hi] at hj; cases hj
        rw [hd] at hjd; cases hjd
        have ho := h.off e fun j' oj' hj' hl' hd' => hn (hA _ _ _ _ _ hj' hi hd' hd ▸ hl')
        rw [Array.getElem?_setIfInBounds, if_pos rfl, upd_same]
        by_cases hs : e < a.tmps.size
        · rw [if_pos hs]; rw [Array.getElem?_eq_getElem hs] at ho; rw [← ho]; rfl
        · rw [if_neg hs]; rw [Array.getElem?_eq_none (Nat.le_of_not_lt hs)] at ho; rw [← ho]; rfl
      · have hne : e ≠ d := by rintro rfl; exact hji (hA _ _ _ _ _ hj hi hjd hd)
        rw [Array.getElem?_setIfInBounds, if_neg hne, upd_other _ _ _ _ hji]
        rcases (hL j).1 hl with h1 | h1
        · exact h.on_ j oj d hj h1 hjd
        · exact absurd h1 hji
def T (ops : Array Oper) (a0 : Act) (vals : Nat → Value) : Nat → Act
  | 0 => a0
  | i + 1 => (T ops a0 vals i).put ((ops[i]?).bind (·.dst)) (vals i)
theorem agree_T (hA : Apart ops) (vals : Nat → Value) : ∀ i, i ≤ ops.size → Agree ops a0 (· < i) vals (T ops a0 vals i) := by
  intro i
  induction i with
  | zero => intro _; exact Agree.start fun j h => Nat.not_lt_zero j h
  | succ i ih =>
    intro hi
    have hio : ops[i]? = some ops[i] := Array.getElem?_eq_getElem (by omega)
    have := (ih (by omega)).put (L' := (· < i + 1)) hA hio (Nat.lt_irrefl i) (vals i) (fun j => by show j < i + 1 ↔ (j < i ∨ j = i); omega)
    rw [upd_self] at this
    unfold T
    rw [hio]; exact this
theorem Agree.at_ (h : Agree ops a0 L vals a) (h' : Agree ops a0 L' vals a') (d : Tmp) (hd : ∀ j oj, ops[j]? = some oj → oj.dst = some d → (L j ↔ L' j)) : a.tmps[d]? = a'.tmps[d]? := by
  by_cases hx : ∃ j oj, ops[j]? = some oj ∧ L j ∧ oj.dst = some d
  · obtain ⟨j, oj, h1, h2, h3⟩ := hx
    rw [h.on_ j oj d h1 h2 h3, h'.on_ j oj d h1 ((hd j oj h1 h3).1 h2) h3]
  · rw [h.off d fun j oj h1 h2 h3 => hx ⟨j, oj, h1, h2, h3⟩, h'.off d fun j oj h1 h2 h3 => hx ⟨j, oj, h1, (hd j oj h1 h3).2 h2, h3⟩]
theorem Agree.same (h : Agree ops a0 L vals a) (h' : Agree ops a0 L' vals a') (hL : ∀ j, j < ops.size → (L j ↔ L' j)) : a = a' := by
  have ht : a.tmps = a'.tmps := by
    apply Array.ext_getElem?
    intro d
    refine h.at_ h' d fun j oj hj _ => hL j ?_
    rcases Nat.lt_or_ge j ops.size with h1 | h1
    · exact h1
    · rw [Array.getElem?_eq_none h1] at hj; cases hj
  obtain ⟨t, ds⟩ := a
  obtain ⟨t', ds'⟩ := a'
  have e := h.defers.trans h'.defers.symm
  simp only at ht e
  rw [ht, e]
theorem exec_same (o : Oper) (hs : ∀ cs b, o.op ≠ .select cs b) (hl : ∀ d ∈ o.looksAt ops, a.tmps[d]? = a'.tmps[d]?) : execOp a.eval o = execOp a'.eval o :=
  execOp_congr o hs fun x hx => by
    cases x with
    | tmp d =>
      have := hl d (List.mem_append_left _ (List.mem_filterMap.2 ⟨.tmp d, by simpa using hx, rfl⟩))
      simp only [Act.eval, Array.getD_eq_getD_getElem?, this]
    | const v => rfl
    | global g => rfl
    | func f => rfl
theorem wanted_same (o : Oper) (hl : ∀ d ∈ o.looksAt ops, a.tmps[d]? = a'.tmps[d]?) : Region.wanted o (yielded ops a.tmps) = Region.wanted o (yielded ops a'.tmps) := by
  unfold Region.wanted
  cases hg : o.guard with
  | none => rfl
  | some gb =>
    obtain ⟨g, b⟩ := gb
    have : yielded ops a.tmps g = yielded ops a'.tmps g := by
      unfold yielded
      cases hd : (ops[g]?).bind (·.dst) with
      | none => rfl
      | some d =>
        have := hl d (List.mem_append_right _ (by simp [hg, hd]))
        simp [this]
    simp only [this]
end
end Go.Proofs.Each
namespace Go.Proofs.Each
open Go
set_option linter.unusedVariables false
section
variable {P : Program} {ops : Array Oper} {a0 : Act} {a t : Act}
def QF : Exit → Act → World → Prop := fun _ _ _ => False
theorem put_val {a t : Act} (hz : ∀ d : Nat, a.tmps[d]? = none ↔ t.tmps[d]? = none) {dst : Option Tmp} {v u : Value} (h : t.put dst v = t.put dst u) : a.put dst v = a.put dst u := by
  cases dst with
  | none => rfl
  | some d =>
    have h2 : (t.tmps.setIfInBounds d v)[(d : Nat)]? = (t.tmps.setIfInBounds d u)[(d : Nat)]? := by
      have := congrArg Act.tmps h
      exact congrArg (fun x : Array Value => x[(d : Nat)]?) this
    rw [Array.getElem?_setIfInBounds, Array.getElem?_setIfInBounds, if_pos rfl, if_pos rfl] at h2
    by_cases hs : d < t.tmps.size
    · rw [if_pos hs, if_pos hs] at h2
      injection h2 with h3
      rw [h3]
    · have h1 : a.tmps[(d : Nat)]? = none := (hz d).2 (Array.getElem?_eq_none (Nat.le_of_not_lt hs))
      have h4 : a.tmps.size ≤ d := by
        rcases Nat.lt_or_ge d a.tmps.size with h5 | h5
        · rw [Array.getElem?_eq_getElem h5] at h1; cases h1
        · exact h5
      show ({ a with tmps := a.tmps.setIfInBounds d v } : Act) = { a with tmps := a.tmps.setIfInBounds d u }
      rw [Array.setIfInBounds_eq_of_size_le h4, Array.setIfInBounds_eq_of_size_le h4]
theorem put_defers {t : Act} {l : List Deferred} {dst : Option Tmp} {v : Value} : (({ t with defers := l } : Act).put dst v).defers = l := by cases dst <;> rfl
theorem put_defers' {t : Act} {dst : Option Tmp} {u : Value} : (t.put dst u).defers = t.defers := by cases dst <;> rfl
theorem wp_same {o : Oper} {w : World} {F : Value → World → Prop} {Q : Exit → Act → World → Prop} (he : execOp a.eval o = execOp t.eval o) (hz : ∀ d : Nat, a.tmps[d]? = none ↔ t.tmps[d]? = none)
    (h : o.wp P t w (fun a' w' => ∃ v, a' = t.put o.dst v ∧ F v w') QF) : o.wp P a w (fun a' w' => ∃ v, a' = a.put o.dst v ∧ F v w') Q := by
  unfold Oper.wp at *
  rw [he]
  generalize (execOp t.eval o).run P w = r at *
  cases r with
  | ok n w' =>
    cases n <;> simp only [Oper.upon] at h ⊢
    case value v => obtain ⟨u, h1, h2⟩ := h; exact ⟨u, put_val hz h1, h2⟩
    case skip => obtain ⟨u, h1, h2⟩ := h; exact ⟨u, put_val hz h1, h2⟩
    case defer d =>
      obtain ⟨u, h1, h2⟩ := h
      have := congrArg Act.defers h1
      rw [put_defers, put_defers'] at this
      exact absurd (congrArg List.length this) (by simp)
    case enter f args =>
      refine Calls.mono h fun e w'' h2 => ?_
      cases e with
      | returned v => obtain ⟨u, h1, h2⟩ := h2; exact ⟨u, put_val hz h1, h2⟩
      | panicked c => exact h2.elim
      | outgrown => obtain ⟨_, _, h3⟩ := h2; exact h3.elim
    case row r args => exact Rows.mono h fun v w'' ⟨u, h1, h2⟩ => ⟨u, put_val hz h1, h2⟩
  | halt x w' => cases x <;> simp only [Oper.upon] at h ⊢ <;> first | exact h.elim | exact h
theorem Agree.none {L L' : Nat → Prop} {vals vals' : Nat → Value} (h : Agree ops a0 L vals a) (h' : Agree ops a0 L' vals' t) (d : Nat) : a.tmps[d]? = none ↔ t.tmps[d]? = none := by
  have key : ∀ {L : Nat → Prop} {vals : Nat → Value} {a : Act}, Agree ops a0 L vals a → (a.tmps[d]? = Option.none ↔ a0.tmps[d]? = Option.none) := by
    intro L vals a h
    by_cases hx : ∃ j oj, ops[j]? = some oj ∧ L j ∧ oj.dst = some d
    · obtain ⟨j, oj, h1, h2, h3⟩ := hx
      rw [h.on_ j oj d h1 h2 h3]; simp
    · rw [h.off d fun j oj h1 h2 h3 => hx ⟨j, oj, h1, h2, h3⟩]
  exact (key h).trans (key h').symm
end
end Go.Proofs.Each
namespace Go.Proofs.Each
open Go Go.ChangeShapes Go.WideShapes Go.RowKit
set_option linter.unusedVariables false
def isSelect : Op → Bool
  | .select _ _ => true
  | _ => false
def fitB (ops : Array Oper) : Bool :=
  (List.range ops.size).all fun i => match ops[i]? with
    | none => true
    | some o => !isSelect o.op && o.after.all (fun e => !Region.binds .any e || decide (e.on < i)) &&
        (List.range ops.size).all fun j => match ops[j]? with
          | none => true
          | some oj => match oj.dst with
            | none => true
            | some d => (!(o.looksAt ops).contains d || o.after.any fun e => Region.binds .any e && e.on == j) && (decide (i = j) || o.dst != some d)
theorem fitB_at {ops : Array Oper} (h : fitB ops = true) {i : Nat} {o : Oper} (hi : ops[i]? = some o) :
    isSelect o.op = false ∧ (∀ e ∈ o.after, Region.binds .any e = true → e.on < i) ∧ ∀ (j : Nat) (oj : Oper) (d : Tmp), ops[j]? = some oj → oj.dst = some d →
      (d ∈ o.looksAt ops → ∃ e ∈ o.after, Region.binds .any e = true ∧ e.on = j) ∧ (o.dst = some d → i = j) := by
  have lt : ∀ {k : Nat} {x : Oper}, ops[k]? = some x → k < ops.size := fun {k x} hk => by
    rcases Nat.lt_or_ge k ops.size with h1 | h1
    · exact h1
    · rw [Array.getElem?_eq_none h1] at hk; cases hk
  have h1 := List.all_eq_true.1 h i (List.mem_range.2 (lt hi))
  simp only [hi, Bool.and_eq_true] at h1
  obtain ⟨⟨h2, h3⟩, h4⟩ := h1
  refine ⟨by simpa using h2, fun e he hb => ?_, fun j oj d hj hd => ?_⟩
  · have := (Array.all_eq_true'.1 h3) e he
    rw [hb] at this
    simpa using this
  · have h5 := List.all_eq_true.1 h4 j (List.mem_range.2 (lt hj))
    simp only [hj, hd, Bool.and_eq_true, Bool.or_eq_true] at h5
    obtain ⟨h6, h7⟩ := h5
    constructor
    · intro hm
      rcases h6 with h6 | h6
      · have : (o.looksAt ops).contains d = true := List.contains_iff_mem.2 hm
        rw [this] at h6; cases h6
      · obtain ⟨e, he, hb⟩ := Array.any_eq_true'.1 h6
        rw [Bool.and_eq_true] at hb
        exact ⟨e, he, hb.1, by simpa using hb.2⟩
    · intro ho
      rcases h7 with h7 | h7
      · simpa using h7
      · rw [ho] at h7; simp at h7
end Go.Proofs.Each
namespace Go.Proofs.Each
open Go Go.ChangeShapes Go.WideShapes Go.RowKit
set_option linter.unusedVariables false
def AllFrom (S : Nat → Oper → Prop) : Nat → List Oper → Prop
  | _, [] => True
  | k, o :: r => S k o ∧ AllFrom S (k + 1) r
theorem AllFrom.at_ {S : Nat → Oper → Prop} : ∀ {l : List Oper} {k : Nat}, AllFrom S k l → ∀ (i : Nat) (o : Oper), l[i]? = some o → S (k + i) o
  | [], _, _, i, o, h => by simp at h
  | x :: r, k, ⟨h1, h2⟩, 0, o, h => by simp at h; subst h; exact h1
  | x :: r, k, ⟨h1, h2⟩, i + 1, o, h => by
    have := AllFrom.at_ h2 i o (by simpa using h)
    rwa [show k + 1 + i = k + (i + 1) by omega] at this
def Waits (U : Nat → (Nat → Value) → World → Prop) (vals : Nat → Value) (w : World) (o : Oper) : Prop :=
  ∀ e ∈ o.after, Region.binds .any e = true → U e.on vals w
def StepOf (P : Program) (ops : Array Oper) (a0 : Act) (w0 : World) (U : Nat → (Nat → Value) → World → Prop) (i : Nat) (o : Oper) : Prop :=
  ∀ vals w, Below w0.heap.size w0 w → Waits U vals w o →
    if Region.wanted o (yielded ops (T ops a0 vals i).tmps) then o.wp P (T ops a0 vals i) w (fun a' w' => ∃ v, a' = (T ops a0 vals i).put o.dst v ∧ Below w.heap.size w w' ∧ U i (upd vals i v) w') QF
    else U i (upd vals i undef) w
end Go.Proofs.Each
namespace Go.Proofs.Each
open Go Go.ChangeShapes Go.WideShapes Go.RowKit Go.Proofs.Mem
set_option linter.unusedVariables false
def Stays (f : Value → World → Prop) : Prop := ∀ v W W', Below W.heap.size W W' → f v W → f v W'
def AllStay : List (Value → World → Prop) → Prop
  | [] => True
  | f :: r => Stays f ∧ AllStay r
theorem AllStay.at_ : ∀ {l : List (Value → World → Prop)}, AllStay l → ∀ j, Stays (l.getD j fun _ _ => True)
  | [], _, j => by simp [Stays]
  | f :: r, ⟨h1, h2⟩, 0 => by simpa using h1
  | f :: r, ⟨h1, h2⟩, j + 1 => by simpa using AllStay.at_ h2 j
def StepAt (P : Program) (ops : Array Oper) (w0 : World) (F : Nat → Value → World → Prop) (vals : Nat → Value) (k : Nat) (o : Oper) (a : Act) : Prop :=
  ∀ W, Below w0.heap.size w0 W → (∀ e ∈ o.after, Region.binds .any e = true → F e.on (vals e.on) W) →
    if Region.wanted o (yielded ops a.tmps) = true then o.wp P a W (fun a' W' => ∃ v, a' = a.put o.dst v ∧ Below W.heap.size W W' ∧ F k v W') QF else F k undef W
theorem step_plain {P : Program} {o : Oper} {a : Act} {W : World} {K : Act → World → Prop} {y : Nat → Option Bool} {E : Prop} (hg : o.guard = none) (h : o.wp P a W K QF) : if Region.wanted o y = true then o.wp P a W K QF else E := by
  rw [if_pos (by simp [Region.wanted, hg])]; exact h
def ObF (P : Program) (ops : Array Oper) (w0 : World) (F : Nat → Value → World → Prop) (vals : Nat → Value) : Nat → List Oper → Act → Prop
  | _, [], _ => True
  | k, o :: r, a => StepAt P ops w0 F vals k o a ∧ ObF P ops w0 F vals (k + 1) r (a.put o.dst (vals k))
def TL (vals : Nat → Value) : Nat → List Oper → Act → Act
  | _, [], a => a
  | k, o :: r, a => TL vals (k + 1) r (a.put o.dst (vals k))
theorem T_app (vals : Nat → Value) (a0 : Act) (ops : Array Oper) : ∀ (r : List Oper) (k : Nat), (∀ i o, r[i]? = some o → ops[k + i]? = some o) → TL vals k r (T ops a0 vals k) = T ops a0 vals (k + r.length)
  | [], k, _ => rfl
  | o :: r, k, h => by
    have h0 : ops[k]? = some o := h 0 o rfl
    have := T_app vals a0 ops r (k + 1) fun i x hx => by rw [show k + 1 + i = k + (i + 1) by omega]; exact h (i + 1) x (by simpa using hx)
    show TL vals (k + 1) r ((T ops a0 vals k).put o.dst (vals k)) = _
    rw [show (T ops a0 vals k).put o.dst (vals k) = T ops a0 vals (k + 1) by simp only [T, h0, Option.bind_some], this, List.length_cons]
    congr 1; omega
end Go.Proofs.Each
namespace Go.Proofs.Each
open Go Go.RowKit
set_option linter.unusedVariables false
section
variable {P : Program} {ops : Array Oper} {a0 : Act} {a t : Act}
theorem wp_region_eachR {id : Nat} {Q : Exit → Act → World → Prop} {w0 : World} (hm : P.follows .mixedOrders = true) (hA : Apart ops)
    (hsel : ∀ (i : Nat) (o : Oper), ops[i]? = some o → ∀ cs b, o.op ≠ .select cs b)
    (hb : ∀ (i : Nat) (o : Oper), ops[i]? = some o → ∀ e ∈ o.after, Region.binds .any e = true → e.on < i)
    (hdep : ∀ (i : Nat) (o : Oper), ops[i]? = some o → ∀ d ∈ o.looksAt ops, ∀ (j : Nat) (oj : Oper), ops[j]? = some oj → oj.dst = some d → ∃ e ∈ o.after, Region.binds .any e = true ∧ e.on = j)
    (C : World → Prop) (R : Nat → World → World → Prop) (U : Nat → (Nat → Value) → World → Prop)
    (hC0 : C w0.drew) (hCR : ∀ i w w', i < ops.size → C w → R i w w' → C w')
    (hUm : ∀ i j vals w w', i < ops.size → j ≠ i → C w → R i w w' → U j vals w → U j vals w')
    (hUc : ∀ (j : Nat) (oj : Oper) vals vals', ops[j]? = some oj → vals j = vals' j → (∀ e ∈ oj.after, Region.binds .any e = true → vals e.on = vals' e.on) → ∀ w, U j vals w → U j vals' w)
    (hstep : ∀ (i : Nat) (oi : Oper), ops[i]? = some oi → ∀ vals w, C w → (∀ e ∈ oi.after, Region.binds .any e = true → U e.on vals w) →
      wpOp P ops QF i (fun a' w' => ∃ v, a' = (T ops a0 vals i).put oi.dst v ∧ R i w w' ∧ U i (upd vals i v) w') (T ops a0 vals i) w)
    (hend : ∀ vals w, C w → (∀ i, i < ops.size → U i vals w) → Q .normal (T ops a0 vals ops.size) w) : (Code.region id ops true).wp P Q a0 w0 := by
  refine wp_region_inv hm (fun listed a w => ∃ vals, Agree ops a0 (fun j => listed.getD j false = true) vals a ∧ C w ∧ (∀ j, j < ops.size → listed.getD j false = true → U j vals w) ∧ ∀ (j : Nat) (oj : Oper), ops[j]? = some oj → listed.getD j false = true → ∀ e ∈ oj.after, Region.binds .any e = true → listed.getD e.on false = true) ?_ ?_ ?_
  · have hno : ∀ j, ¬ (Array.replicate ops.size false).getD j false = true := by
      intro j h
      rw [Array.getD_eq_getD_getElem?, Array.getElem?_replicate] at h
      split at h <;> simp at h
    exact ⟨fun _ => undef, Agree.start hno, hC0, fun j _ h => absurd h (hno j), fun j _ _ h => absurd h (hno j)⟩
  · intro listed a w i hs hI hi
    obtain ⟨vals, hag, hC, hU, hcl⟩ := hI
    obtain ⟨o, ho, hlt, hnl, haf⟩ := ready_at hs hi
    have hnl2 : ¬ listed.getD i false = true := by
      rw [Array.getD_eq_getD_getElem?, Array.getElem?_eq_getElem (by omega)] at hnl ⊢
      simp only [Option.getD_some] at hnl ⊢
      rw [hnl]; decide
    have hT := agree_T (a0 := a0) hA vals i (Nat.le_of_lt hlt)
    have hlook : ∀ d ∈ o.looksAt ops, a.tmps[d]? = (T ops a0 vals i).tmps[d]? := fun d hd => hag.at_ hT d fun j oj hj hjd => by
      obtain ⟨e, he, hbe, rfl⟩ := hdep i o ho d hd j oj hj hjd
      exact ⟨fun _ => hb i o ho e he hbe, fun _ => haf e he hbe⟩
    have hst := hstep i o ho vals w hC (fun e he hbe => hU e.on (Nat.lt_trans (hb i o ho e he hbe) hlt) (haf e he hbe))
    have hfin : ∀ v w', (R i w w' ∧ U i (upd vals i v) w') → ∃ vals', Agree ops a0 (fun j => (listed.setIfInBounds i true).getD j false = true) vals' (a.put o.dst v) ∧ C w' ∧ (∀ j, j < ops.size → (listed.setIfInBounds i true).getD j false = true → U j vals' w') ∧ ∀ (j : Nat) (oj : Oper), ops[j]? = some oj → (listed.setIfInBounds i true).getD j false = true → ∀ e ∈ oj.after, Region.binds .any e = true → (listed.setIfInBounds i true).getD e.on false = true := by
      intro v w' ⟨hR, hUi⟩
      have hLL : ∀ j, (listed.setIfInBounds i true).getD j false = true ↔ (listed.getD j false = true ∨ j = i) := by
        intro j
        rw [Array.getD_eq_getD_getElem?, Array.getD_eq_getD_getElem?, Array.getElem?_setIfInBounds]
        by_cases hij : i = j
        · subst hij; rw [if_pos rfl, if_pos (by omega)]; simp
        · rw [if_neg hij]
          exact ⟨.inl, fun h => h.resolve_right (fun e => hij e.symm)⟩
      refine ⟨upd vals i v, hag.put hA ho hnl2 v hLL, hCR i _ _ hlt hC hR, fun j hj hl => ?_, fun j oj hj hl e he hbe => ?_⟩
      rcases (hLL j).1 hl with h1 | h1
      · have hji : j ≠ i := by rintro rfl; exact hnl2 h1
        have hjo : ops[j]? = some ops[j] := Array.getElem?_eq_getElem hj
        refine hUc j ops[j] vals (upd vals i v) hjo (upd_other _ _ _ _ hji).symm (fun e he hbe => ?_) w' (hUm i j vals w w' hlt hji hC hR (hU j hj h1))
        have h3 := hcl j ops[j] hjo h1 e he hbe
        exact (upd_other _ _ _ _ (by intro h4; rw [h4] at h3; exact hnl2 h3)).symm
      · subst h1; exact hUi
      · rcases (hLL j).1 hl with h1 | h1
        · exact (hLL e.on).2 (.inl (hcl j oj hj h1 e he hbe))
        · subst h1
          rw [ho] at hj; cases hj
          exact (hLL e.on).2 (.inl (haf e he hbe))
    unfold wpOp at hst ⊢
    simp only [ho] at hst ⊢
    rw [wanted_same o hlook]
    split
    · rename_i hw
      rw [if_pos hw] at hst
      rcases hst with hst | ⟨_, _, _, hst⟩
      · exact .inl (Oper.wp_mono (fun a' w' ⟨v, h1, h2⟩ => h1 ▸ hfin v w' h2) (wp_same (exec_same o (hsel i o ho) hlook) (hag.none hT) hst))
      · exact hst.elim
    · rename_i hw
      rw [if_neg hw] at hst
      obtain ⟨v, h1, h2⟩ := hst
      rw [put_val (hag.none hT) h1]
      exact hfin v w h2
  · intro listed a w hs hI hr
    obtain ⟨vals, hag, hC, hU, hcl⟩ := hI
    have hall := all_listed hs hb hr
    rw [hag.same (agree_T hA vals ops.size (Nat.le_refl _)) (fun j hj => ⟨fun _ => hj, fun _ => hall j hj⟩)]
    exact hend vals w hC fun i hi => hU i hi (hall i hi)
end
def StepC (P : Program) (ops : Array Oper) (C : World → Prop) (R : Nat → World → World → Prop) (F : Nat → (Nat → Value) → World → Prop) (vals : Nat → Value) (k : Nat) (o : Oper) (a : Act) : Prop :=
  ∀ W, C W → (∀ e ∈ o.after, Region.binds .any e = true → F e.on vals W) →
    if Region.wanted o (yielded ops a.tmps) = true then o.wp P a W (fun a' W' => ∃ v, a' = a.put o.dst v ∧ R k W W' ∧ F k (upd vals k v) W') QF else R k W W ∧ F k (upd vals k undef) W
def ObC (P : Program) (ops : Array Oper) (C : World → Prop) (R : Nat → World → World → Prop) (F : Nat → (Nat → Value) → World → Prop) (vals : Nat → Value) : Nat → List Oper → Act → Prop
  | _, [], _ => True
  | k, o :: r, a => StepC P ops C R F vals k o a ∧ ObC P ops C R F vals (k + 1) r (a.put o.dst (vals k))
theorem obC_at {P : Program} {ops : Array Oper} {C : World → Prop} {R : Nat → World → World → Prop} {F : Nat → (Nat → Value) → World → Prop} {vals : Nat → Value} {a0 : Act} : ∀ (r : List Oper) (k : Nat), (∀ i o, r[i]? = some o → ops[k + i]? = some o) → ObC P ops C R F vals k r (T ops a0 vals k) →
    ∀ i o, r[i]? = some o → StepC P ops C R F vals (k + i) o (T ops a0 vals (k + i))
  | [], k, _, _, i, o, h => by simp at h
  | x :: r, k, hk, ⟨h1, h2⟩, 0, o, h => by simp at h; subst h; exact h1
  | x :: r, k, hk, ⟨h1, h2⟩, i + 1, o, h => by
    have h0 : ops[k]? = some x := hk 0 x rfl
    rw [show (T ops a0 vals k).put x.dst (vals k) = T ops a0 vals (k + 1) by simp only [T, h0, Option.bind_some]] at h2
    have := obC_at r (k + 1) (fun i y hy => by rw [show k + 1 + i = k + (i + 1) by omega]; exact hk (i + 1) y (by simpa using hy)) h2 i o (by simpa using h)
    rwa [show k + 1 + i = k + (i + 1) by omega] at this
theorem wp_region_obC {P : Program} {l : List Oper} {a0 : Act} {id : Nat} {Q : Exit → Act → World → Prop} {w0 : World} (hm : P.follows .mixedOrders = true) (hB : fitB l.toArray = true)
    (C : World → Prop) (R : Nat → World → World → Prop) (F : Nat → (Nat → Value) → World → Prop)
    (hC0 : C w0.drew) (hCR : ∀ i w w', C w → R i w w' → C w') (hFm : ∀ i j vals w w', j ≠ i → C w → R i w w' → F j vals w → F j vals w')
    (hFc : ∀ (j : Nat) (oj : Oper) vals vals', l[j]? = some oj → vals j = vals' j → (∀ e ∈ oj.after, Region.binds .any e = true → vals e.on = vals' e.on) → ∀ w, F j vals w → F j vals' w)
    (hob : ∀ vals : Nat → Value, ObC P l.toArray C R F vals 0 l a0)
    (hend : ∀ (vals : Nat → Value) W, C W → (∀ i, i < l.length → F i vals W) → Q .normal (TL vals 0 l a0) W) : (Code.region id l.toArray true).wp P Q a0 w0 := by
  refine wp_region_eachR hm (fun i j oi oj d hi hj hdi hdj => ((fitB_at hB hi).2.2 j oj d hj hdj).2 hdi) (fun i o hi cs b e => by have := (fitB_at hB hi).1; rw [e] at this; cases this)
    (fun i o hi => (fitB_at hB hi).2.1) (fun i o hi d hd j oj hj hjd => ((fitB_at hB hi).2.2 j oj d hj hjd).1 hd)
    C R F hC0 (fun i w w' _ h h' => hCR i w w' h h') (fun i j vals w w' _ h0 h h' => hFm i j vals w w' h0 h h') (fun j oj vals vals' hj => hFc j oj vals vals' (by simpa using hj)) ?_ ?_
  · intro i oi hi vals W hc hw
    have hi' : l[i]? = some oi := by simpa using hi
    have h0 := obC_at l 0 (fun i o h => by simpa using h) (hob vals) i oi hi'
    rw [Nat.zero_add] at h0
    have h1 := h0 W hc hw
    unfold wpOp
    simp only [hi]
    split
    · rename_i hx; rw [if_pos hx] at h1; exact .inl h1
    · rename_i hx; rw [if_neg hx] at h1; exact ⟨undef, rfl, h1⟩
  · intro vals W hc h
    have := T_app vals a0 l.toArray l 0 fun i o h => by simpa using h
    rw [Nat.zero_add] at this
    have h2 := hend vals W hc fun i hi => h i (by simpa using hi)
    rw [show TL vals 0 l a0 = T l.toArray a0 vals l.length from this] at h2
    simpa using h2
end Go.Proofs.Each
namespace Go.Proofs.Each
open Go Go.RowKit Go.Proofs.Mem
set_option linter.unusedVariables false
section
variable {P : Program} {ops : Array Oper} {a0 : Act} {a t : Act}
def Clo (ops : Array Oper) (L : Nat → Bool) : Prop := ∀ (j : Nat) (oj : Oper), ops[j]? = some oj → L j = true → ∀ e ∈ oj.after, Region.binds .any e = true → L e.on = true
def ancB (ops : Array Oper) : Nat → Nat → Nat → Bool
  | 0, _, _ => false
  | n + 1, i, j => match ops[i]? with
    | none => false
    | some o => o.after.any fun e => Region.binds .any e && (e.on == j || ancB ops n e.on j)
theorem Clo.anc {L : Nat → Bool} (h : Clo ops L) : ∀ (n i j : Nat), ancB ops n i j = true → L i = true → L j = true
  | 0, _, _, h0, _ => by cases h0
  | n + 1, i, j, h0, hi => by
    unfold ancB at h0
    cases e : ops[i]? with
    | none => rw [e] at h0; cases h0
    | some o =>
      rw [e] at h0
      simp only [Array.any_eq_true', Bool.and_eq_true, Bool.or_eq_true, beq_iff_eq] at h0
      obtain ⟨d, hd, hb, hj⟩ := h0
      have hl := h i o e hi d hd hb
      rcases hj with hj | hj
      · rw [← hj]; exact hl
      · exact h.anc n d.on j hj hl
theorem Clo.not_yet {L : Nat → Bool} (h : Clo ops L) {k : Nat} (hk : L k = false) (i n : Nat) (ha : ancB ops n i k = true) : L i = false := by
  cases e : L i with
  | false => rfl
  | true => rw [h.anc n i k ha e] at hk; cases hk
theorem wp_region_eachL {id : Nat} {Q : Exit → Act → World → Prop} {w0 : World} (hm : P.follows .mixedOrders = true) (hA : Apart ops)
    (hsel : ∀ (i : Nat) (o : Oper), ops[i]? = some o → ∀ cs b, o.op ≠ .select cs b)
    (hb : ∀ (i : Nat) (o : Oper), ops[i]? = some o → ∀ e ∈ o.after, Region.binds .any e = true → e.on < i)
    (hdep : ∀ (i : Nat) (o : Oper), ops[i]? = some o → ∀ d ∈ o.looksAt ops, ∀ (j : Nat) (oj : Oper), ops[j]? = some oj → oj.dst = some d → ∃ e ∈ o.after, Region.binds .any e = true ∧ e.on = j)
    (C : (Nat → Bool) → World → Prop) (R : Nat → World → World → Prop) (U : Nat → (Nat → Value) → World → Prop)
    (hC0 : ∀ L : Nat → Bool, (∀ j, L j = false) → C L w0.drew) (hCR : ∀ i (L L' : Nat → Bool) w w', i < ops.size → L i = false → (∀ j, L' j = true ↔ (L j = true ∨ j = i)) → C L w → R i w w' → C L' w')
    (hUm : ∀ i j L vals w w', i < ops.size → j ≠ i → C L w → R i w w' → U j vals w → U j vals w')
    (hUc : ∀ (j : Nat) (oj : Oper) vals vals', ops[j]? = some oj → vals j = vals' j → (∀ e ∈ oj.after, Region.binds .any e = true → vals e.on = vals' e.on) → ∀ w, U j vals w → U j vals' w)
    (hstep : ∀ (i : Nat) (oi : Oper), ops[i]? = some oi → ∀ L vals w, Clo ops L → L i = false → C L w → (∀ e ∈ oi.after, Region.binds .any e = true → U e.on vals w) →
      wpOp P ops QF i (fun a' w' => ∃ v, a' = (T ops a0 vals i).put oi.dst v ∧ R i w w' ∧ U i (upd vals i v) w') (T ops a0 vals i) w)
    (hend : ∀ L vals w, C L w → (∀ i, i < ops.size → U i vals w) → Q .normal (T ops a0 vals ops.size) w) : (Code.region id ops true).wp P Q a0 w0 := by
  refine wp_region_inv hm (fun listed a w => ∃ vals, Agree ops a0 (fun j => listed.getD j false = true) vals a ∧ C (fun j => listed.getD j false) w ∧ (∀ j, j < ops.size → listed.getD j false = true → U j vals w) ∧ Clo ops (fun j => listed.getD j false)) ?_ ?_ ?_
  · have hno : ∀ j, ¬ (Array.replicate ops.size false).getD j false = true := by
      intro j h
      rw [Array.getD_eq_getD_getElem?, Array.getElem?_replicate] at h
      split at h <;> simp at h
    exact ⟨fun _ => undef, Agree.start hno, hC0 _ (fun j => by simpa using hno j), fun j _ h => absurd h (hno j), fun j _ _ h => absurd h (hno j)⟩
  · intro listed a w i hs hI hi
    obtain ⟨vals, hag, hC, hU, hcl⟩ := hI
    obtain ⟨o, ho, hlt, hnl, haf⟩ := ready_at hs hi
    have hnl2 : ¬ listed.getD i false = true := by
      rw [Array.getD_eq_getD_getElem?, Array.getElem?_eq_getElem (by omega)] at hnl ⊢
      simp only [Option.getD_some] at hnl ⊢
      rw [hnl]; decide
    have hnl3 : listed.getD i false = false := by simpa using hnl2
    have hT := agree_T (a0 := a0) hA vals i (Nat.le_of_lt hlt)
    have hlook : ∀ d ∈ o.looksAt ops, a.tmps[d]? = (T ops a0 vals i).tmps[d]? := fun d hd => hag.at_ hT d fun j oj hj hjd => by
      obtain ⟨e, he, hbe, rfl⟩ := hdep i o ho d hd j oj hj hjd
      exact ⟨fun _ => hb i o ho e he hbe, fun _ => haf e he hbe⟩
    have hst := hstep i o ho (fun j => listed.getD j false) vals w hcl hnl3 hC (fun e he hbe => hU e.on (Nat.lt_trans (hb i o ho e he hbe) hlt) (haf e he hbe))
    have hfin : ∀ v w', (R i w w' ∧ U i (upd vals i v) w') → ∃ vals', Agree ops a0 (fun j => (listed.setIfInBounds i true).getD j false = true) vals' (a.put o.dst v) ∧ C (fun j => (listed.setIfInBounds i true).getD j false) w' ∧ (∀ j, j < ops.size → (listed.setIfInBounds i true).getD j false = true → U j vals' w') ∧ Clo ops (fun j => (listed.setIfInBounds i true).getD j false) := by
      intro v w' ⟨hR, hUi⟩
      have hLL : ∀ j, (listed.setIfInBounds i true).getD j false = true ↔ (listed.getD j false = true ∨ j = i) := by
        intro j
        rw [Array.getD_eq_getD_getElem?, Array.getD_eq_getD_getElem?, Array.getElem?_setIfInBounds]
        by_cases hij : i = j
        · subst hij; rw [if_pos rfl, if_pos (by omega)]; simp
        · rw [if_neg hij]
          exact ⟨.inl, fun h => h.resolve_right (fun e => hij e.symm)⟩
      refine ⟨upd vals i v, hag.put hA ho hnl2 v hLL, hCR i _ _ _ _ hlt hnl3 hLL hC hR, fun j hj hl => ?_, fun j oj hj hl e he hbe => ?_⟩
      rcases (hLL j).1 hl with h1 | h1
      · have hji : j ≠ i := by rintro rfl; exact hnl2 h1
        have hjo : ops[j]? = some ops[j] := Array.getElem?_eq_getElem hj
        refine hUc j ops[j] vals (upd vals i v) hjo (upd_other _ _ _ _ hji).symm (fun e he hbe => ?_) w' (hUm i j _ vals w w' hlt hji hC hR (hU j hj h1))
        have h3 := hcl j ops[j] hjo h1 e he hbe
        exact (upd_other _ _ _ _ (by intro h4; rw [h4] at h3; exact hnl2 h3)).symm
      · subst h1; exact hUi
      · rcases (hLL j).1 hl with h1 | h1
        · exact (hLL e.on).2 (.inl (hcl j oj hj h1 e he hbe))
        · subst h1
          rw [ho] at hj; cases hj
          exact (hLL e.on).2 (.inl (haf e he hbe))
    unfold wpOp at hst ⊢
    simp only [ho] at hst ⊢
    rw [wanted_same o hlook]
    split
    · rename_i hw
      rw [if_pos hw] at hst
      rcases hst with hst | ⟨_, _, _, hst⟩
      · exact .inl (Oper.wp_mono (fun a' w' ⟨v, h1, h2⟩ => h1 ▸ hfin v w' h2) (wp_same (exec_same o (hsel i o ho) hlook) (hag.none hT) hst))
      · exact hst.elim
    · rename_i hw
      rw [if_neg hw] at hst
      obtain ⟨v, h1, h2⟩ := hst
      rw [put_val (hag.none hT) h1]
      exact hfin v w h2
  · intro listed a w hs hI hr
    obtain ⟨vals, hag, hC, hU, hcl⟩ := hI
    have hall := all_listed hs hb hr
    rw [hag.same (agree_T hA vals ops.size (Nat.le_refl _)) (fun j hj => ⟨fun _ => hj, fun _ => hall j hj⟩)]
    exact hend _ vals w hC fun i hi => hU i hi (hall i hi)
end
def StepL (P : Program) (ops : Array Oper) (C : (Nat → Bool) → World → Prop) (R : Nat → World → World → Prop) (F : Nat → (Nat → Value) → World → Prop) (vals : Nat → Value) (k : Nat) (o : Oper) (a : Act) : Prop :=
  ∀ L W, Clo ops L → L k = false → C L W → (∀ e ∈ o.after, Region.binds .any e = true → F e.on vals W) →
    if Region.wanted o (yielded ops a.tmps) = true then o.wp P a W (fun a' W' => ∃ v, a' = a.put o.dst v ∧ R k W W' ∧ F k (upd vals k v) W') QF else R k W W ∧ F k (upd vals k undef) W
def ObL (P : Program) (ops : Array Oper) (C : (Nat → Bool) → World → Prop) (R : Nat → World → World → Prop) (F : Nat → (Nat → Value) → World → Prop) (vals : Nat → Value) : Nat → List Oper → Act → Prop
  | _, [], _ => True
  | k, o :: r, a => StepL P ops C R F vals k o a ∧ ObL P ops C R F vals (k + 1) r (a.put o.dst (vals k))
theorem obL_at {P : Program} {ops : Array Oper} {C : (Nat → Bool) → World → Prop} {R : Nat → World → World → Prop} {F : Nat → (Nat → Value) → World → Prop} {vals : Nat → Value} {a0 : Act} : ∀ (r : List Oper) (k : Nat), (∀ i o, r[i]? = some o → ops[k + i]? = some o) → ObL P ops C R F vals k r (T ops a0 vals k) →
    ∀ i o, r[i]? = some o → StepL P ops C R F vals (k + i) o (T ops a0 vals (k + i))
  | [], k, _, _, i, o, h => by simp at h
  | x :: r, k, hk, ⟨h1, h2⟩, 0, o, h => by simp at h; subst h; exact h1
  | x :: r, k, hk, ⟨h1, h2⟩, i + 1, o, h => by
    have h0 : ops[k]? = some x := hk 0 x rfl
    rw [show (T ops a0 vals k).put x.dst (vals k) = T ops a0 vals (k + 1) by simp only [T, h0, Option.bind_some]] at h2
    have := obL_at r (k + 1) (fun i y hy => by rw [show k + 1 + i = k + (i + 1) by omega]; exact hk (i + 1) y (by simpa using hy)) h2 i o (by simpa using h)
    rwa [show k + 1 + i = k + (i + 1) by omega] at this
theorem wp_region_obL {P : Program} {l : List Oper} {a0 : Act} {id : Nat} {Q : Exit → Act → World → Prop} {w0 : World} (hm : P.follows .mixedOrders = true) (hB : fitB l.toArray = true)
    (C : (Nat → Bool) → World → Prop) (R : Nat → World → World → Prop) (F : Nat → (Nat → Value) → World → Prop)
    (hC0 : ∀ L : Nat → Bool, (∀ j, L j = false) → C L w0.drew) (hCR : ∀ i (L L' : Nat → Bool) w w', L i = false → (∀ j, L' j = true ↔ (L j = true ∨ j = i)) → C L w → R i w w' → C L' w')
    (hFm : ∀ i j L vals w w', j ≠ i → C L w → R i w w' → F j vals w → F j vals w')
    (hFc : ∀ (j : Nat) (oj : Oper) vals vals', l[j]? = some oj → vals j = vals' j → (∀ e ∈ oj.after, Region.binds .any e = true → vals e.on = vals' e.on) → ∀ w, F j vals w → F j vals' w)
    (hob : ∀ vals : Nat → Value, ObL P l.toArray C R F vals 0 l a0)
    (hend : ∀ L (vals : Nat → Value) W, C L W → (∀ i, i < l.length → F i vals W) → Q .normal (TL vals 0 l a0) W) : (Code.region id l.toArray true).wp P Q a0 w0 := by
  refine wp_region_eachL hm (fun i j oi oj d hi hj hdi hdj => ((fitB_at hB hi).2.2 j oj d hj hdj).2 hdi) (fun i o hi cs b e => by have := (fitB_at hB hi).1; rw [e] at this; cases this)
    (fun i o hi => (fitB_at hB hi).2.1) (fun i o hi d hd j oj hj hjd => ((fitB_at hB hi).2.2 j oj d hj hjd).1 hd)
    C R F hC0 (fun i L L' w w' _ h1 h2 h h' => hCR i L L' w w' h1 h2 h h') (fun i j L vals w w' _ h0 h h' => hFm i j L vals w w' h0 h h') (fun j oj vals vals' hj => hFc j oj vals vals' (by simpa using hj)) ?_ ?_
  · intro i oi hi L vals W hL hn hc hw
    have hi' : l[i]? = some oi := by simpa using hi
    have h0 := obL_at l 0 (fun i o h => by simpa using h) (hob vals) i oi hi'
    rw [Nat.zero_add] at h0
    have h1 := h0 L W hL hn hc hw
    unfold wpOp
    simp only [hi]
    split
    · rename_i hx; rw [if_pos hx] at h1; exact .inl h1
    · rename_i hx; rw [if_neg hx] at h1; exact ⟨undef, rfl, h1⟩
  · intro L vals W hc h
    have := T_app vals a0 l.toArray l 0 fun i o h => by simpa using h
    rw [Nat.zero_add] at this
    have h2 := hend L vals W hc fun i hi => h i (by simpa using hi)
    rw [show TL vals 0 l a0 = T l.toArray a0 vals l.length from this] at h2
    simpa using h2
def Ca (w0 : World) (row : Option Nat) (g p s : Nat) (L : Nat → Bool) (W : World) : Prop := Fr (fun x => (L p = true ∧ row = some x) ∨ (L s = true ∧ x = g)) w0 W
def Ra (row : Option Nat) (g p s i : Nat) (W W' : World) : Prop := Fr (fun x => (i = p ∧ row = some x) ∨ (i = s ∧ x = g)) W W'
theorem Ra.same {row : Option Nat} {g p s i : Nat} (W : World) : Ra row g p s i W W := Fr.refl _ _
theorem Ra.of_below {row : Option Nat} {g p s i : Nat} {W W' : World} (h : Below W.heap.size W W') : Ra row g p s i W W' := Fr.of_below h
theorem Ca.below {w0 : World} {row : Option Nat} {g p s : Nat} {L : Nat → Bool} {W : World} (h : Ca w0 row g p s L W) (hp : L p = false) (hs : L s = false) : Below w0.heap.size w0 W :=
  Fr.to_below h (fun k hk => by rcases hk with ⟨h1, _⟩ | ⟨h1, _⟩; (rw [hp] at h1; cases h1); (rw [hs] at h1; cases h1)) (Nat.le_refl _)
theorem Ca.box {w0 : World} {row : Option Nat} {g p s : Nat} {L : Nat → Bool} {W : World} {C : Array Value} {t : TypeId} (h : Ca w0 row g p s L W) (hb : Box w0 g C t) (hs : L s = false) (hr : row ≠ some g) : Box W g C t :=
  hb.fr h (fun hk => by rcases hk with ⟨_, h1⟩ | ⟨h1, _⟩; (exact hr h1); (rw [hs] at h1; cases h1))
def Fa (s g p : Nat) (t : TypeId) (C' : Value → Array Value) (Fs : List (Value → World → Prop)) (j : Nat) (vals : Nat → Value) (W : World) : Prop := if j = s then Box W g (C' (vals p)) t else (Fs.getD j fun _ _ => True) (vals j) W
section
variable {s g p j : Nat} {t : TypeId} {C' : Value → Array Value} {Fs : List (Value → World → Prop)} {vals : Nat → Value} {W : World} {f : Value → World → Prop} {v : Value}
theorem Fa.val (h : j ≠ s) (hE : (Fs.getD j fun _ _ => True) = f) (hf : f v W) : Fa s g p t C' Fs j (upd vals j v) W := by
  unfold Fa; rw [if_neg h, upd_same, hE]; exact hf
theorem Fa.get (hf : Fa s g p t C' Fs j vals W) (h : j ≠ s) : (Fs.getD j fun _ _ => True) (vals j) W := by
  unfold Fa at hf; rw [if_neg h] at hf; exact hf
theorem Fa.last (h : p ≠ s) (hb : Box W g (C' (vals p)) t) : Fa s g p t C' Fs s (upd vals s v) W := by
  unfold Fa; rw [if_pos rfl, upd_other _ _ _ _ h]; exact hb
end
theorem own_frS {W W' : World} {base n size : Nat} {e : TypeId} {v : Value} {xs : List Value} {S : Nat → Prop} (h : W.ownsRow base e size v n xs) (hf : Fr S W W') (hs : ∀ k, v.ownBlock = some k → ¬ S k) : W'.ownsRow base e size v n xs := by
  refine ⟨h.1, ?_⟩
  rcases h.2 with hn | ⟨g, cap, cur, rfl, hb, hgg, rest⟩
  · exact .inl hn
  · exact .inr ⟨g, cap, cur, rfl, hb, (hf.block g (Array.getElem?_eq_some_iff.1 hgg).1 (hs g rfl)).trans hgg, rest⟩
theorem wp_region_app {P : Program} {l : List Oper} {a0 : Act} {id : Nat} {Q : Exit → Act → World → Prop} {w0 : World} (hm : P.follows .mixedOrders = true) (hB : fitB l.toArray = true)
    (row : Option Nat) (g p s : Nat) (t : TypeId) (C' : Value → Array Value) (Fs : List (Value → World → Prop)) (hps : p ≠ s)
    (hdep : ∀ o, l[s]? = some o → ∃ e ∈ o.after, Region.binds .any e = true ∧ e.on = p) (hrg : row ≠ some g)
    (hstay : ∀ j v W W', j ≠ s → w0.heap.size ≤ W.heap.size → Fr (fun x => (j ≠ p ∧ row = some x) ∨ x = g) W W' → (Fs.getD j fun _ _ => True) v W → (Fs.getD j fun _ _ => True) v W')
    (hob : ∀ vals : Nat → Value, ObL P l.toArray (Ca w0 row g p s) (Ra row g p s) (Fa s g p t C' Fs) vals 0 l a0)
    (hend : ∀ (vals : Nat → Value) W, Fr (fun x => row = some x ∨ x = g) w0 W → Box W g (C' (vals p)) t → (∀ i, i < l.length → i ≠ s → (Fs.getD i fun _ _ => True) (vals i) W) → s < l.length → Q .normal (TL vals 0 l a0) W) (hs : s < l.length) : (Code.region id l.toArray true).wp P Q a0 w0 := by
  refine wp_region_obL hm hB (Ca w0 row g p s) (Ra row g p s) (Fa s g p t C' Fs) ?_ ?_ ?_ ?_ hob ?_
  · intro L _; exact (Fr.refl _ _).drew
  · intro i L L' W W' hi hLL h h'
    refine Fr.trans' (h.mono ?_) h' ?_
    · intro k _ hk
      rcases hk with ⟨h1, h2⟩ | ⟨h1, h2⟩
      · exact .inl ⟨(hLL p).2 (.inl h1), h2⟩
      · exact .inr ⟨(hLL s).2 (.inl h1), h2⟩
    · intro k _ hk
      rcases hk with ⟨h1, h2⟩ | ⟨h1, h2⟩
      · exact .inl ⟨(hLL p).2 (.inr h1.symm), h2⟩
      · exact .inr ⟨(hLL s).2 (.inr h1.symm), h2⟩
  · intro i j L vals W W' hji hc hr hf
    unfold Fa at hf ⊢
    by_cases hj : j = s
    · rw [if_pos hj] at hf ⊢
      refine hf.fr hr (fun hk => ?_)
      rcases hk with ⟨_, h1⟩ | ⟨h1, _⟩
      · exact hrg h1
      · exact hji (hj.trans h1.symm)
    · rw [if_neg hj] at hf ⊢
      refine hstay j _ W W' hj hc.size (hr.mono (fun k _ hk => ?_)) hf
      rcases hk with ⟨h1, h2⟩ | ⟨_, h2⟩
      · exact .inl ⟨fun e => hji (e.trans h1.symm), h2⟩
      · exact .inr h2
  · intro j oj vals vals' hj hv hw W hf
    unfold Fa at hf ⊢
    by_cases h : j = s
    · rw [if_pos h] at hf ⊢
      subst h
      obtain ⟨e, he, hb, rfl⟩ := hdep oj hj
      rw [← hw e he hb]; exact hf
    · rw [if_neg h] at hf ⊢
      rw [← hv]; exact hf
  · intro L vals W hc h
    have h1 := h s hs
    unfold Fa at h1
    rw [if_pos rfl] at h1
    refine hend vals W (hc.mono fun k _ hk => ?_) h1 (fun i hi hne => ?_) hs
    · rcases hk with ⟨_, h2⟩ | ⟨_, h2⟩
      · exact .inl h2
      · exact .inr h2
    · have := h i hi
      unfold Fa at this
      rwa [if_neg hne] at this
end Go.Proofs.Each
namespace Go.Proofs.Each
open Go Go.RowKit Go.Proofs.Mem
set_option linter.unusedVariables false
def Fg (s p : Nat) (Fin : Value → World → Prop) (Fs : List (Value → World → Prop)) (j : Nat) (vals : Nat → Value) (W : World) : Prop := if j = s then Fin (vals p) W else (Fs.getD j fun _ _ => True) (vals j) W
section
variable {s p j : Nat} {Fin : Value → World → Prop} {Fs : List (Value → World → Prop)} {vals : Nat → Value} {W : World} {f : Value → World → Prop} {v : Value}
theorem Fg.val (h : j ≠ s) (hE : (Fs.getD j fun _ _ => True) = f) (hf : f v W) : Fg s p Fin Fs j (upd vals j v) W := by
  unfold Fg; rw [if_neg h, upd_same, hE]; exact hf
theorem Fg.get (hf : Fg s p Fin Fs j vals W) (h : j ≠ s) : (Fs.getD j fun _ _ => True) (vals j) W := by
  unfold Fg at hf; rw [if_neg h] at hf; exact hf
theorem Fg.last (h : p ≠ s) (hb : Fin (vals p) W) : Fg s p Fin Fs s (upd vals s v) W := by
  unfold Fg; rw [if_pos rfl, upd_other _ _ _ _ h]; exact hb
end
end Go.Proofs.Each
namespace Go.Proofs.Mem
open Go.RowKit Go.WideShapes Go.ChangeShapes Go.Deep
set_option linter.unusedVariables false
def SS {α : Type} (F : α → List Value) (sz : Nat) (w : World) (B : Nat) (v : Value) (xs : List α) : Prop :=
  ∃ A c, v = .slice A xs.length c ∧ xs.length ≤ c ∧ c ≤ maxLen ∧
    ∀ i x, xs[i]? = some x → ∃ b off, A = some ⟨b, off, none⟩ ∧ b < B ∧ ∀ j u, (F x)[j]? = some u → w.cell? ⟨b, off + i * sz + j, none⟩ = some u
section
variable {α : Type} {F : α → List Value} {sz : Nat} {w w' : World} {B B' : Nat} {v : Value} {xs : List α}
theorem SS.nil (w : World) (B : Nat) : SS F sz w B (.slice none 0 0) [] := ⟨none, 0, rfl, Nat.le_refl _, Nat.zero_le _, fun i x h => by simp at h⟩
theorem SS.form (h : SS F sz w B v xs) : ∃ A c, v = .slice A xs.length c ∧ xs.length ≤ c ∧ c ≤ maxLen := by
  obtain ⟨A, c, h1, h2, h3, _⟩ := h
  exact ⟨A, c, h1, h2, h3⟩
theorem SS.keep (h : SS F sz w B v xs) (hk : ∀ p : Addr, p.block < B → w'.cell? p = w.cell? p) : SS F sz w' B v xs := by
  obtain ⟨A, c, h1, h2, h3, h5⟩ := h
  refine ⟨A, c, h1, h2, h3, fun i x hx => ?_⟩
  obtain ⟨b, off, e, hb, hc⟩ := h5 i x hx
  exact ⟨b, off, e, hb, fun j u hu => (hk _ hb).trans (hc j u hu)⟩
theorem SS.more (h : SS F sz w B v xs) (hB : B ≤ B') : SS F sz w B' v xs := by
  obtain ⟨A, c, h1, h2, h3, h5⟩ := h
  refine ⟨A, c, h1, h2, h3, fun i x hx => ?_⟩
  obtain ⟨b, off, e, hb, hc⟩ := h5 i x hx
  exact ⟨b, off, e, by omega, hc⟩
theorem SS.below (h : SS F sz w B v xs) (hb : Below B w w') : SS F sz w' B v xs := h.keep fun _ hp => hb.cell hp
theorem SS.at_ {A : Option Addr} {c n : Nat} (h : SS F sz w B (.slice A n c) xs) {i : Nat} {x : α} (hx : xs[i]? = some x) : ∃ b off, A = some ⟨b, off, none⟩ ∧ b < B ∧ ∀ j u, (F x)[j]? = some u → w.cell? ⟨b, off + i * sz + j, none⟩ = some u := by
  obtain ⟨A', c', e, _, _, h5⟩ := h
  injection e with e1 e2 e3
  subst e1
  exact h5 i x hx
end
section
variable {H : Type} {enc : TypeId × Value → H} {P : Program} {w : World}
theorem open_SS {α : Type} (F : α → List Value) (Q : α → Prop) {t e : TypeId} {sz : Nat} {v : Value} {d : DataW H} {p : List MemPlace} {r : Reach} {b0 : Nat} (ht : P.underlying t = some (.slice e)) (hC : P.cellsOf e = sz) (hsz : 0 < sz)
    (hel : ∀ (cs : List Value) n y, cs.length = sz → DataW.trod enc P w 0 (fun _ => true) true n e cs = some y → ∃ x, cs = F x ∧ Q x)
    (hv : Value.okWide P w r b0 t v) (h : DataW.Trod enc P w 0 (fun _ => true) true t v d p) : ∃ xs : List α, SS F sz w w.heap.size v xs ∧ ∀ x ∈ xs, Q x := by
  obtain ⟨a, len, cap, rfl⟩ := okWide_slice ht hv
  obtain ⟨fuel, hf⟩ := h
  rcases open_slice ht hf with ⟨hcs, _⟩ | ⟨x, l, c, m, n, D, Pl, hcs, _, hl, hm, hmm, _, hi⟩
  · simp [Value.cells] at hcs
    obtain ⟨rfl, rfl, rfl⟩ := hcs
    exact ⟨[], SS.nil _ _, fun n hn => by cases hn⟩
  · simp [Value.cells] at hcs
    obtain ⟨rfl, rfl, rfl⟩ := hcs
    simp at hmm
    subst hmm
    have each : ∀ i : Fin len, ∃ y : α, (F y).length = sz ∧ Q y ∧ ∀ j, j < sz → w.cell? ((x.add (i.1 * sz)).add j) = (F y)[j]? := fun i => by
      obtain ⟨cs', hc, ht'⟩ := hi i.1 (by have := i.2; omega)
      rw [hC] at hc
      obtain ⟨_, hlen, hat⟩ := World.cells?_some hc
      obtain ⟨y, rfl, hq⟩ := hel cs' n _ hlen ht'
      exact ⟨y, hlen, hq, hat⟩
    obtain ⟨f, hf⟩ := Classical.skolem.1 each
    refine ⟨List.ofFn f, ⟨some x, m, by rw [List.length_ofFn], by rw [List.length_ofFn]; exact hl, hm, fun i y hy => ?_⟩, fun y hy => ?_⟩
    · have hil : i < len := by
        have := (List.getElem?_eq_some_iff.1 hy).1
        rwa [List.length_ofFn] at this
      obtain ⟨b, off, spot⟩ := x
      have hs : spot = none := by
        obtain ⟨h1, _, h3⟩ := hf ⟨0, by omega⟩
        have h4 := h3 0 hsz
        rw [List.getElem?_eq_getElem (by omega)] at h4
        simpa [Addr.add] using World.cell?_spot h4
      subst hs
      obtain ⟨h1, _, h3⟩ := hf ⟨i, hil⟩
      rw [List.getElem?_ofFn] at hy
      simp [hil] at hy
      have hcell : ∀ j u, (F y)[j]? = some u → w.cell? ⟨b, off + i * sz + j, none⟩ = some u := fun j u hu => by
        rw [hy] at h1 h3
        have hj : j < sz := by rw [← h1]; exact (List.getElem?_eq_some_iff.1 hu).1
        have h4 := h3 j hj
        rw [Go.WideShapes.add_plain, Go.WideShapes.add_plain] at h4
        exact h4.trans hu
      refine ⟨b, off, rfl, ?_, hcell⟩
      have h5 := hcell 0 ((F y)[0]'(by rw [hy] at h1; omega)) (List.getElem?_eq_getElem _)
      rcases Nat.lt_or_ge b w.heap.size with h6 | h6
      · exact h6
      · unfold World.cell? at h5
        simp [Array.getElem?_eq_none h6] at h5
    · obtain ⟨i, rfl⟩ := (List.mem_ofFn (f := f)).1 hy
      exact (hf i).2.1
end
end Go.Proofs.Mem
namespace Go.Proofs.Ytpndcpmfcajmdaa.Lock
open Go.ChangeShapes Go.WideShapes Go.ChangeAt Go.RowKit Go.IntWalk Go.Proofs.Mem
set_option linter.unusedVariables false
set_option linter.unusedSimpArgs false
def RNum (q : IntKind) (v : Value) : Option (DataW Unit × List MemPlace) :=
  match v with
  | .int p x => if p = q then some (.lit (.int q x), []) else none
  | _ => none
def numEE (q : IntKind) : EE (RNum q) Int where
  ev b := .int q b
  ed b := .lit (.int q b)
  mem b := ⟨[], by simp [RNum]⟩
  inv v z h := by
    unfold RNum at h
    split at h
    · rename_i p x
      split at h
      · rename_i e; subst e; injection h with h; exact ⟨x, rfl, by rw [← h]⟩
      · cases h
    · cases h
  inj a b h := by simpa using h
def RPtr (v : Value) : Option (DataW Unit × List MemPlace) :=
  match v with
  | .pointer none => some (.map [], [])
  | .pointer (some ⟨b, 0, none⟩) => some (.lit (.int .u64 b), [])
  | _ => none
def ptrEE : EE RPtr (Option Nat) where
  ev b := match b with
    | none => .pointer none
    | some b => .pointer (some ⟨b, 0, none⟩)
  ed b := match b with
    | none => .map []
    | some b => .lit (.int .u64 b)
  mem b := by
    cases b with
    | none => exact ⟨[], rfl⟩
    | some b => exact ⟨[], rfl⟩
  inv v z h := by
    unfold RPtr at h
    split at h
    · injection h with h; exact ⟨none, rfl, by rw [← h]⟩
    · rename_i b; injection h with h; exact ⟨some b, rfl, by rw [← h]⟩
    · cases h
  inj a b h := by
    cases a with
    | none =>
      cases b with
      | none => rfl
      | some b => cases h
    | some a =>
      cases b with
      | none => cases h
      | some b =>
        simp only [DataW.lit.injEq, Lit.int.injEq, true_and] at h
        have : a = b := by omega
        subst this
        rfl
abbrev KU : KE Try.prog 29 Int := intKE Try.prog 29 .u32 Try.underlying29
abbrev VM : EE (RNum .u8) Int := numEE .u8
theorem zeroM (w : World) : (zeroValue 5).run Try.prog w = .ok (VM.ev 0) w := by kernel_rfl
def tog (a b : Int) : Bool := decide (a = 1) && decide (b = 1)
set_option maxRecDepth 100000 in
theorem together_any (w : World) (a b : Int) : Calls Try.prog 45 #[.int .u8 a, .int .u8 b] w fun e w' => e = .returned (.bool (tog a b)) ∧ w = w' := by
  obtain ⟨F, hF⟩ : ∃ F, F = tog a b := ⟨_, rfl⟩
  rw [← hF]
  have HF := Lib.hid hF
  clear hF
  by_cases h1 : a = 1
  · by_cases h2 : b = 1
    · have d1 : decide (a = 1) = true := decide_eq_true h1
      have d2 : decide (b = 1) = true := decide_eq_true h2
      have FF := Lib.hid (show F = true by rw [HF.out]; simp [tog, h1, h2])
      subst h1 h2
      go_enter Try.func45, Try.ntmps45
      go_wp2
      go_ret
      exact ⟨by rw [FF.out]; rfl, rfl⟩
    · have d1 : decide (a = 1) = true := decide_eq_true h1
      have d2 : decide (b = 1) = false := decide_eq_false h2
      have d2' : (b == 1) = false := by simpa using h2
      have FF := Lib.hid (show F = false by rw [HF.out]; simp [tog, h2])
      subst h1
      clear h2
      go_enter Try.func45, Try.ntmps45
      go_wp2
      go_ret
      exact ⟨by rw [FF.out]; rfl, rfl⟩
  · have d1 : decide (a = 1) = false := decide_eq_false h1
    have d1' : (a == 1) = false := by simpa using h1
    have FF := Lib.hid (show F = false by rw [HF.out]; simp [tog, h1])
    clear h1
    go_enter Try.func45, Try.ntmps45
    go_wp2
    go_ret
    exact ⟨by rw [FF.out]; rfl, rfl⟩
end Go.Proofs.Ytpndcpmfcajmdaa.Lock
namespace Go.Proofs.Ytpndcpmfcajmdaa.Lock
open Go.ChangeShapes Go.WideShapes Go.ChangeAt Go.RowKit Go.IntWalk Go.Proofs.Mem
set_option linter.unusedVariables false
set_option linter.unusedSimpArgs false
def U32 (x : Int) : Prop := 0 ≤ x ∧ x ≤ 4294967295
theorem ku_ok {x : Int} : KU.ok x ↔ U32 x := by
  have a1 : IntKind.u32.min = 0 := by decide
  have a2 : IntKind.u32.max = 4294967295 := by decide
  show (Lit.int .u32 x).wf = true ↔ _
  simp [Lit.wf, a1, a2, U32]
set_option maxRecDepth 100000 in
set_option maxHeartbeats 4000000 in
theorem holds_any (w : World) (e m n : Nat) (lv : Value) (h : Int → Option Int) (txn : Int) (hb : Box w e #[.map (some m), lv] 86) (hf : FM KU VM w m n h) (ht : U32 txn) :
    Calls Try.prog 48 #[.pointer (some ⟨e, 0, none⟩), .int .u32 txn] w fun r w' => r = .returned (.bool (h txn).isSome) ∧ w = w' := by
  have lk := (hf.look (t := 83) Try.underlying83 0 (zeroM w) txn (ku_ok.2 ht)).2
  obtain ⟨q, hq⟩ : ∃ q, (h txn).isSome = q := ⟨_, rfl⟩
  obtain ⟨v, hv⟩ : ∃ v, VM.ev ((h txn).getD 0) = v := ⟨_, rfl⟩
  rw [hq, hv] at lk
  rw [hq]
  have lk2 : (Instr.lookup 83 (.map (some m)) (.int .u32 txn) true).run Try.prog w = .ok (.tuple #[v, .bool q]) w := lk
  have c0 : w.cell? ⟨e, 0, none⟩ = some (.map (some m)) := by rw [hb.cell 0]; rfl
  clear hf hb lk hv hq
  go_enter Try.func48, Try.ntmps48
  go_wp2
  go_ret
  exact ⟨rfl, rfl⟩
open Classical in
noncomputable def fit (h : Int → Option Int) (txn mode : Int) : Bool := decide (∀ x md, h x = some md → x = txn ∨ tog md mode = true)
open Classical in
theorem fit_true {h : Int → Option Int} {txn mode : Int} (H : ∀ x md, h x = some md → x = txn ∨ tog md mode = true) : fit h txn mode = true := decide_eq_true H
open Classical in
theorem fit_false {h : Int → Option Int} {txn mode x md : Int} (hx : h x = some md) (h1 : x ≠ txn) (h2 : tog md mode = false) : fit h txn mode = false :=
  decide_eq_false (fun H => (H x md hx).elim h1 (fun e => by rw [h2] at e; cases e))
set_option maxRecDepth 100000 in
set_option maxHeartbeats 4000000 in
theorem fits_any (w : World) (e m n : Nat) (lv : Value) (h : Int → Option Int) (txn mode : Int) (hb : Box w e #[.map (some m), lv] 86) (he : e < w.heap.size) (hf : FM KU VM w m n h) (hok : ∀ x md, h x = some md → U32 x) :
    Calls Try.prog 34 #[.pointer (some ⟨e, 0, none⟩), .agg #[.int .u32 txn, .int .u8 mode]] w fun r w' => r = .returned (.bool (fit h txn mode)) ∧ Below w.heap.size w w' := by
  obtain ⟨F, hF⟩ : ∃ F, F = fit h txn mode := ⟨_, rfl⟩
  rw [← hF]
  have HF := Lib.hid hF
  have HB := Lib.hid (new_ (Below.refl w.heap.size w) (.cells #[.int .u32 txn, .int .u8 mode] 72))
  have HM := Lib.hid (hf.later (new_ (Below.refl w.heap.size w) (.cells #[.int .u32 txn, .int .u8 mode] 72)))
  have HX := Lib.hid (Box.new w #[.int .u32 txn, .int .u8 mode] 72)
  have c0 : (w.alloc (.cells #[.int .u32 txn, .int .u8 mode] 72)).cell? ⟨e, 0, none⟩ = some (.map (some m)) := by
    rw [(new_ (Below.refl w.heap.size w) (.cells #[.int .u32 txn, .int .u8 mode] 72)).cell (p := ⟨e, 0, none⟩) he, hb.cell 0]; rfl
  have HOK := Lib.hid hok
  have HTG := Lib.hid (fun (W : World) (a : Int) => together_any W a mode)
  clear hF hb hf hok
  go_enter Try.func34, Try.ntmps34
  go_wp2_with (first
    | (at_range; refine wpList_range_fm (E := KU) (V := VM) rfl _ _ rfl _ Try.underlying83 rfl HM.out ?_; intro w1 cnt hfr hcnt hbw hsz))
  have HB1 := Lib.hid (HB.out.trans (hbw.mono HB.out.size))
  have HX1 := Lib.hid (HX.out.below hbw (by simp))
  obtain ⟨r, hr⟩ : ∃ r, r = (w.alloc (.cells #[.int .u32 txn, .int .u8 mode] 72)).heap.size := ⟨_, rfl⟩
  rw [← hr] at hfr ⊢
  have HF1 := Lib.hid hfr
  have HRR := Lib.hid (show w.heap.size < r by rw [hr]; simp)
  clear hfr hcnt hbw hsz hr HB HX c0
  go_frame
  go_loopw [5, 6] (fun _ _ wr => ∃ (left : Int → Bool) (cnt : Nat), Hid (FR KU VM wr m r n h left cnt) ∧ Hid (∀ x md, left x = false → h x = some md → x = txn ∨ tog md mode = true) ∧ Hid (Box wr w.heap.size #[.int .u32 txn, .int .u8 mode] 72) ∧ Hid (Below w.heap.size w wr)) (fun _ _ wr => wr.rangeLeft m r)
  case atStart => exact ⟨_, _, HF1, Lib.hid (fun x md h1 h2 => by rw [h2] at h1; cases h1), HX1, HB1⟩
  case round =>
    obtain ⟨left, cnt, HFR, HDN, HX2, HB2⟩ := hrel
    obtain ⟨w2, rfl⟩ : ∃ w2, w2 = wr := ⟨wr, rfl⟩
    clear HF1 HX1 HB1
    go_wp2_with (first
      | (at_next; refine wpList_next_fm (E := KU) (V := VM) rfl _ rfl rfl HFR.out ?_ ?_))
    · intro hl0
      have FF := Lib.hid (show F = true by
        rw [HF.out]
        exact fit_true (fun x md hx => HDN.out x md (hl0 x (ku_ok.2 (HOK.out x md hx))) hx))
      clear hl0
      go_wp2
      go_ret
      exact ⟨by rw [FF.out]; rfl, HB2.out⟩
    · intro x md w3 cnt' hx hlx hfx hfr3 hlt hF3 hsz3 hen
      have ek : KU.kv x = .int .u32 x := rfl
      have em : VM.ev md = .int .u8 md := rfl
      rw [ek, em] at hen
      rw [ek, em]
      clear ek em
      have HX3 := Lib.hid (HX2.out.fr hF3 (by have := HRR.out; omega))
      have HB3 := Lib.hid (HB2.out.trans (hF3.to_below (fun g e => by have := HRR.out; omega) HB2.out.size))
      have k1 : w3.cell? ⟨w.heap.size, 0, none⟩ = some (.int .u32 txn) := by rw [HX3.out.cell 0]; rfl
      have k2 : w3.cell? ⟨w.heap.size, 1, none⟩ = some (.int .u8 mode) := by rw [HX3.out.cell 1]; rfl
      have HFR3 := Lib.hid hfr3
      have HLT := Lib.hid (⟨hlt, HFR.out.left_eq, hfr3.left_eq⟩ : cnt' < cnt ∧ w2.rangeLeft m r = cnt ∧ w3.rangeLeft m r = cnt')
      have HHX := Lib.hid hfx
      have CT := Lib.hid (HTG.out w3 md)
      obtain ⟨tg, htg⟩ : ∃ q, q = tog md mode := ⟨_, rfl⟩
      rw [← htg] at CT
      have HTT := Lib.hid htg
      clear hfr3 hlt hF3 hsz3 hfx hlx hx htg
      by_cases hxt : x = txn
      · have d1 : decide (x = txn) = true := decide_eq_true hxt
        have d1' : (x != txn) = false := by simp [hxt]
        have HXT := Lib.hid hxt
        clear hxt
        go_wp2
        go_roundw
        case rel => exact ⟨but left x, cnt', HFR3, Lib.hid (fun y md' hy hmd => by
          by_cases e : y = x
          · left; rw [e]; exact HXT.out
          · refine HDN.out y md' ?_ hmd
            simpa [but, e] using hy), HX3, HB3⟩
        case measure => rw [HLT.out.2.1, HLT.out.2.2]; exact HLT.out.1
      · have d1 : decide (x = txn) = false := decide_eq_false hxt
        have d1' : (x != txn) = true := by simpa using hxt
        have HXT := Lib.hid hxt
        clear hxt
        go_wp2_with fail
        (with_reducible refine CT.out.mono ?_)
        rintro e w4 ⟨rfl, rfl⟩
        cases tg with
        | true =>
          go_wp2
          go_roundw
          case rel => exact ⟨but left x, cnt', HFR3, Lib.hid (fun y md' hy hmd => by
            by_cases e : y = x
            · right; subst e; rw [HHX.out] at hmd; injection hmd with hmd; rw [← hmd]; exact HTT.out.symm
            · refine HDN.out y md' ?_ hmd
              simpa [but, e] using hy), HX3, HB3⟩
          case measure => rw [HLT.out.2.1, HLT.out.2.2]; exact HLT.out.1
        | false =>
          have FF := Lib.hid (show F = false by rw [HF.out]; exact fit_false HHX.out HXT.out HTT.out.symm)
          go_wp2
          go_ret
          exact ⟨by rw [FF.out]; rfl, HB3.out⟩
end Go.Proofs.Ytpndcpmfcajmdaa.Lock
namespace Go.Proofs.Ytpndcpmfcajmdaa.Lock
open Go.ChangeShapes Go.WideShapes Go.ChangeAt Go.RowKit Go.IntWalk Go.Proofs.Mem Law
set_option linter.unusedVariables false
set_option linter.unusedSimpArgs false
structure Ky where
  k : Int
  a : Int
  b : Int
def Ky.v (x : Ky) : Value := .agg #[.int .u8 x.k, .int .u32 x.a, .int .u32 x.b]
def Ky.ok (x : Ky) : Prop := (Lit.int .u8 x.k).wf = true ∧ (Lit.int .u32 x.a).wf = true ∧ (Lit.int .u32 x.b).wf = true
theorem rowK : (31 : TypeId) < Try.prog.types.size := of_decide_eq_true (by kernel_rfl)
theorem cellsK : Try.prog.cellsOf 31 = 3 := by kernel_rfl
theorem wideK : (match Try.prog.underlying 31 with | some (.array _ _) | some (.struct _) => true | _ => false) = true := by rw [Try.underlying31]
set_option maxRecDepth 100000 in
theorem keyedK : Maps.Keyed Try.prog 31 := Maps.Keyed.of_law (deep_law_laid laidOut (m := 2) (by omega) rowK (by kernel_rfl) wideK)
theorem keyTypeK : Try.prog.keyType 31 = true := by kernel_rfl
theorem keyLits_ky (x : Ky) (hx : x.ok) : Try.prog.keyLits (Try.prog.types.size + 1) 31 x.v.cells.toList = some [.int .u8 x.k, .int .u32 x.a, .int .u32 x.b] := by
  obtain ⟨m, hm⟩ : ∃ m, Try.prog.types.size = m + 1 := ⟨Try.prog.types.size - 1, by have h : 0 < Try.prog.types.size := Nat.lt_of_le_of_lt (Nat.zero_le _) rowK; omega⟩
  rw [hm]
  have c8 : Try.prog.cellsOf 5 = 1 := by kernel_rfl
  have c32 : Try.prog.cellsOf 29 = 1 := by kernel_rfl
  obtain ⟨w1, w2, w3⟩ := hx
  simp [Program.keyLits, Try.underlying31, Try.underlying5, Try.underlying29, Ky.v, cellsK, c8, c32, w1, w2, w3, Value.cells]
theorem keyOf_ky (x : Ky) (hx : x.ok) : ∃ kl, keyOf Try.prog 31 x.v = some kl := by
  have hformed : (x.v).formed Try.prog 31 = true := by simp [Ky.v, Value.formed, Try.underlying31, cellsK]
  unfold keyOf
  rw [Try.underlying31]
  simp only [keyTypeK, hformed, Bool.and_self, if_true, keyLits_ky x hx]
  exact ⟨_, rfl⟩
theorem keyLits_inv {c0 c1 c2 : Value} {ls : List Lit} (h : Try.prog.keyLits (Try.prog.types.size + 1) 31 [c0, c1, c2] = some ls) : ∃ x : Ky, x.ok ∧ (.agg #[c0, c1, c2] : Value) = x.v := by
  obtain ⟨m, hm⟩ : ∃ m, Try.prog.types.size = m + 1 := ⟨Try.prog.types.size - 1, by have h : 0 < Try.prog.types.size := Nat.lt_of_le_of_lt (Nat.zero_le _) rowK; omega⟩
  rw [hm] at h
  have c8 : Try.prog.cellsOf 5 = 1 := by kernel_rfl
  have c32 : Try.prog.cellsOf 29 = 1 := by kernel_rfl
  simp [Program.keyLits, Try.underlying31, Try.underlying5, Try.underlying29, cellsK, c8, c32] at h
  cases c0 <;> try (simp at h; done)
  rename_i q0 n0
  by_cases h0 : q0 = .u8 ∧ (Lit.int .u8 n0).wf = true
  · obtain ⟨rfl, w0⟩ := h0
    simp [w0] at h
    cases c1 <;> try (simp at h; done)
    rename_i q1 n1
    by_cases h1 : q1 = .u32 ∧ (Lit.int .u32 n1).wf = true
    · obtain ⟨rfl, w1⟩ := h1
      simp [w1] at h
      cases c2 <;> try (simp at h; done)
      rename_i q2 n2
      by_cases h2 : q2 = .u32 ∧ (Lit.int .u32 n2).wf = true
      · obtain ⟨rfl, w2⟩ := h2
        exact ⟨⟨n0, n1, n2⟩, ⟨w0, w1, w2⟩, rfl⟩
      · simp only [if_neg h2] at h
        simp at h
    · simp only [if_neg h1] at h
      simp at h
  · simp only [if_neg h0] at h
    simp at h
set_option maxRecDepth 100000 in
theorem keyOf_inv {v : Value} {l : Lit} (h : keyOf Try.prog 31 v = some l) : ∃ x : Ky, x.ok ∧ v = x.v := by
  unfold keyOf at h
  rw [Try.underlying31] at h
  simp only [keyTypeK, Bool.true_and] at h
  split at h
  · rename_i hf
    cases v <;> try (simp [Value.formed, Try.underlying31] at hf; done)
    rename_i cs
    simp [Value.formed, Try.underlying31, cellsK] at hf
    obtain ⟨cl⟩ := cs
    match cl, hf with
    | [c0, c1, c2], _ =>
      cases e : Try.prog.keyLits (Try.prog.types.size + 1) 31 [c0, c1, c2] with
      | none =>
        have e2 : Try.prog.keyLits (Try.prog.types.size + 1) 31 (Value.agg ⟨[c0, c1, c2]⟩).cells.toList = none := e
        rw [e2] at h; cases h
      | some ls => exact keyLits_inv e
  · cases h
noncomputable def KK : KE Try.prog 31 Ky where
  kv x := x.v
  ok x := x.ok
  kl x := (keyOf Try.prog 31 x.v).getD (.bool false)
  keyed := keyedK
  key x hx := by obtain ⟨l, e⟩ := keyOf_ky x hx; rw [e]; rfl
  inv v l h := by
    obtain ⟨x, hx, rfl⟩ := keyOf_inv h
    exact ⟨x, hx, rfl, by rw [h]; rfl⟩
  inj x y h := by
    obtain ⟨a, b, c⟩ := x
    obtain ⟨a', b', c'⟩ := y
    simpa [Ky.v] using h
end Go.Proofs.Ytpndcpmfcajmdaa.Lock
namespace Go.Proofs.Ytpndcpmfcajmdaa.Lock
open Go.ChangeShapes Go.WideShapes Go.ChangeAt Go.RowKit Go.IntWalk Go.Proofs.Mem Law
set_option linter.unusedVariables false
set_option linter.unusedSimpArgs false
structure Hd where
  k : Int
  a : Int
  b : Int
  m : Int
def Hd.v (x : Hd) : Value := .agg #[.int .u8 x.k, .int .u32 x.a, .int .u32 x.b, .int .u8 x.m]
def RHd (v : Value) : Option (DataW Unit × List MemPlace) :=
  match v with
  | .agg ⟨[.int .u8 k, .int .u32 a, .int .u32 b, .int .u8 m]⟩ => some (.agg [.lit (.int .u8 k), .lit (.int .u32 a), .lit (.int .u32 b), .lit (.int .u8 m)], [])
  | _ => none
def hdEE : EE RHd Hd where
  ev x := x.v
  ed x := .agg [.lit (.int .u8 x.k), .lit (.int .u32 x.a), .lit (.int .u32 x.b), .lit (.int .u8 x.m)]
  mem x := ⟨[], rfl⟩
  inv v z h := by
    unfold RHd at h
    split at h
    · rename_i k a b m
      injection h with h
      exact ⟨⟨k, a, b, m⟩, rfl, by rw [← h]⟩
    · cases h
  inj x y h := by
    obtain ⟨a, b, c, d⟩ := x
    obtain ⟨a', b', c', d'⟩ := y
    simpa using h
theorem zeroH (w : World) : (zeroValue 45).run Try.prog w = .ok (hdEE.ev ⟨0, 0, 0, 0⟩) w := by kernel_rfl
theorem zeroP (w : World) : (zeroValue 69).run Try.prog w = .ok (ptrEE.ev none) w := by kernel_rfl
set_option maxRecDepth 100000 in
set_option maxHeartbeats 4000000 in
theorem new_any (w : World) : Calls Try.prog 10 #[] w fun r w' => ∃ t mk mw, r = .returned (.pointer (some ⟨t, 0, none⟩)) ∧ w.heap.size ≤ t ∧ w.heap.size ≤ mk ∧ w.heap.size ≤ mw ∧ mk ≠ mw ∧ t ≠ mk ∧ t ≠ mw ∧ Box w' t #[.map (some mk), .map (some mw)] 59 ∧ FM KK ptrEE w' mk 0 (fun _ => none) ∧ FM KU hdEE w' mw 0 (fun _ => none) ∧ Below w.heap.size w w' := by
  have hmm := @run_makeMap Try.prog
  have n1 : FM KK ptrEE (w.alloc (.map #[] 0)) w.heap.size 0 (fun _ => none) := FM.made _ _ _
  have b1 := new_ (Below.refl w.heap.size w) (.map #[] 0)
  have n2 : FM KU hdEE ((w.alloc (.map #[] 0)).alloc (.map #[] 0)) (w.alloc (.map #[] 0)).heap.size 0 (fun _ => none) := FM.made _ _ _
  have b2 := new_ (Below.refl (w.alloc (.map #[] 0)).heap.size (w.alloc (.map #[] 0))) (.map #[] 0)
  have n1' := n1.later b2
  have x3 := Box.new ((w.alloc (.map #[] 0)).alloc (.map #[] 0)) #[.map (some w.heap.size), .map (some (w.heap.size + 1))] 59
  have b3 := new_ (Below.refl ((w.alloc (.map #[] 0)).alloc (.map #[] 0)).heap.size ((w.alloc (.map #[] 0)).alloc (.map #[] 0))) (.cells #[.map (some w.heap.size), .map (some (w.heap.size + 1))] 59)
  have s1 : (w.alloc (.map #[] 0)).heap.size = w.heap.size + 1 := by simp
  have s2 : ((w.alloc (.map #[] 0)).alloc (.map #[] 0)).heap.size = w.heap.size + 1 + 1 := by simp
  have n2' := n2.later b3
  rw [s1] at n2'
  rw [s2] at x3
  have N1 := Lib.hid (n1'.later b3)
  have N2 := Lib.hid n2'
  have X3 := Lib.hid x3
  have BB := Lib.hid (b1.trans ((b2.mono b1.size).trans (b3.mono (Nat.le_trans b1.size b2.size))))
  clear n1 b1 n2 b2 n1' x3 b3 s1 s2 n2'
  go_enter Try.func10, Try.ntmps10
  go_wp2
  go_ret
  refine ⟨_, w.heap.size, w.heap.size + 1, rfl, ?_, Nat.le_refl _, Nat.le_succ _, by omega, ?_, ?_, X3.out, N1.out, N2.out, BB.out⟩ <;> omega
end Go.Proofs.Ytpndcpmfcajmdaa.Lock
namespace Go.Proofs.Mem
open Go.RowKit Go.WideShapes
set_option linter.unusedVariables false
def Sc (A B : World) : Prop := ∀ (g : Nat) (C : Array Value) (t : TypeId) (f : Nat × Nat), A.heap[g]? = some (Obj.cells C t f) → B.heap[g]? = some (Obj.cells C t f)
section
variable {A B D w w' : World} {base top n : Nat}
theorem Sc.refl (A : World) : Sc A A := fun _ _ _ _ h => h
theorem Sc.trans (h : Sc A B) (k : Sc B D) : Sc A D := fun g C t f e => k g C t f (h g C t f e)
theorem Sc.of_below (h : Below A.heap.size A B) : Sc A B := fun g C t f e => (h.block g (Array.getElem?_eq_some_iff.1 e).1).trans e
theorem own_sc {e : TypeId} {size : Nat} {v : Value} {xs : List Value} (h : A.ownsRow base e size v n xs) (s : Sc A B) : B.ownsRow base e size v n xs := by
  refine ⟨h.1, ?_⟩
  rcases h.2 with hn | ⟨g, cap, cur, rfl, hb, hgg, rest⟩
  · exact .inl hn
  · exact .inr ⟨g, cap, cur, rfl, hb, s _ _ _ _ hgg, rest⟩
theorem Box.sc {g : Nat} {C : Array Value} {t : TypeId} (h : Box A g C t) (s : Sc A B) : Box B g C t := s _ _ _ _ h
theorem cell_sc {p : Addr} {v : Value} (h : A.cell? p = some v) (s : Sc A B) : B.cell? p = some v := by
  unfold World.cell? at h ⊢
  cases e : A.heap[p.block]? with
  | none => rw [e] at h; simp at h
  | some o =>
    cases o with
    | cells C t f => rw [s _ _ _ _ e]; rw [e] at h; exact h
    | _ => rw [e] at h; simp at h
theorem IR.sc {k : IntKind} {v : Value} {xs : List Int} (h : IR A top k v xs) (s : Sc A B) : IR B top k v xs := by
  obtain ⟨a, c, h1, h2, h3, h4, h5⟩ := h
  refine ⟨a, c, h1, h2, h3, h4, fun i hi => ?_⟩
  obtain ⟨b, off, e, hb, hc⟩ := h5 i hi
  exact ⟨b, off, e, hb, cell_sc hc s⟩
theorem SR.sc {v : Value} {vs : List (Value × List Int)} (h : SR A top v vs) (s : Sc A B) : SR B top v vs := by
  obtain ⟨a, c, h1, h2, h3, h5⟩ := h
  refine ⟨a, c, h1, h2, h3, fun i hi => ?_⟩
  obtain ⟨b, off, u, xs, e, hb, hv, hc, hr, hx⟩ := h5 i hi
  exact ⟨b, off, u, xs, e, hb, hv, cell_sc hc s, hr.sc s, hx⟩
structure RowAt (Tu : TypeId) (w : World) (base : Nat) (g : Nat) (u : Value) (xs : List Int) : Prop where
  form : ∃ cap, u = .slice (some ⟨g, 0, none⟩) xs.length cap
  own : w.ownsRow base Tu 1 u xs.length (xs.map (.int .u8))
theorem RowAt.of_own {Tu : TypeId} {u : Value} {xs : List Int} (h : w.ownsRow base Tu 1 u xs.length (xs.map (.int .u8))) (hx : 0 < xs.length) : ∃ g, RowAt Tu w base g u xs ∧ base ≤ g ∧ g < w.heap.size := by
  rcases h.2 with ⟨_, hn⟩ | ⟨g, cap, cur, rfl, hb, hgg, rest⟩
  · omega
  · exact ⟨g, ⟨⟨cap, rfl⟩, h⟩, hb, (Array.getElem?_eq_some_iff.1 hgg).1⟩
theorem RowAt.sc {Tu : TypeId} {g : Nat} {u : Value} {xs : List Int} (h : RowAt Tu A base g u xs) (s : Sc A B) : RowAt Tu B base g u xs := ⟨h.form, own_sc h.own s⟩
theorem RowAt.heap {Tu : TypeId} {g : Nat} {u : Value} {xs : List Int} (h : RowAt Tu w base g u xs) : ∃ cur cap, u = .slice (some ⟨g, 0, none⟩) xs.length cap ∧ base ≤ g ∧ w.heap[g]? = some (.cells cur Tu (0, 0)) ∧ xs.length ≤ cap ∧ cur.size = cap ∧ cap ≤ maxLen ∧ cur.toList.take xs.length = xs.map (.int .u8) := by
  obtain ⟨cap, rfl⟩ := h.form
  rcases h.own.2 with ⟨hn, _⟩ | ⟨g', cap', cur, e, hb, hgg, h1, h2, h3, h4⟩
  · cases hn
  · injection e with e1 e2 e3
    injection e1 with e1
    injection e1 with e1
    subst e1 e3
    exact ⟨cur, _, rfl, hb, hgg, h1, by omega, h2, by simpa using h4⟩
theorem RowAt.far {Tu : TypeId} {g : Nat} {u : Value} {xs : List Int} {row : Option Nat} (h : RowAt Tu A base g u xs) (hg : A.grownBy B row) (hne : row ≠ some g) : RowAt Tu B base g u xs := by
  refine ⟨h.form, h.own.kept hg (.inr ?_)⟩
  obtain ⟨cap, rfl⟩ := h.form
  simpa [Value.ownBlock] using Ne.symm hne
abbrev Rw := Nat × Value × List Int
structure Tab (Tu Ts : TypeId) (w : World) (base top : Nat) (v : Value) (l : List Rw) : Prop where
  outer : w.ownsRow base Ts 1 v l.length (l.map (·.2.1))
  rows : ∀ p ∈ l, RowAt Tu w base p.1 p.2.1 p.2.2 ∧ p.1 < top
  apart : l.Pairwise (fun p q => p.1 ≠ q.1)
  vtop : ∀ g, v.ownBlock = some g → g < top
variable {Tu Ts : TypeId} {v : Value} {l : List Rw}
theorem Tab.sc (h : Tab Tu Ts A base top v l) (s : Sc A B) : Tab Tu Ts B base top v l := ⟨own_sc h.outer s, fun p hp => ⟨(h.rows p hp).1.sc s, (h.rows p hp).2⟩, h.apart, h.vtop⟩
theorem Tab.later (h : Tab Tu Ts A base top v l) (hb : Below A.heap.size A B) : Tab Tu Ts B base top v l := h.sc (.of_below hb)
theorem Tab.drew (h : Tab Tu Ts A base top v l) : Tab Tu Ts A.drew base top v l := h.sc (Sc.of_below (Below.drew (Below.refl _ _)))
theorem Tab.more {top' : Nat} (h : Tab Tu Ts A base top v l) (ht : top ≤ top') : Tab Tu Ts A base top' v l := ⟨h.outer, fun p hp => ⟨(h.rows p hp).1, by have := (h.rows p hp).2; omega⟩, h.apart, fun g hg => by have := h.vtop g hg; omega⟩
theorem Tab.below (h : Tab Tu Ts A base top v l) (hb : Below top A B) : Tab Tu Ts B base top v l := by
  have hg : ∀ (g : Nat) (C : Array Value) (t : TypeId) (f : Nat × Nat), g < top → A.heap[g]? = some (Obj.cells C t f) → B.heap[g]? = some (Obj.cells C t f) := fun g C t f hlt e => (hb.block g hlt).trans e
  refine ⟨?_, fun p hp => ?_, h.apart, h.vtop⟩
  · refine ⟨h.outer.1, ?_⟩
    rcases h.outer.2 with hn | ⟨g, cap, cur, e, hb', hgg, rest⟩
    · exact .inl hn
    · exact .inr ⟨g, cap, cur, e, hb', hg g _ _ _ (h.vtop g (by rw [e]; rfl)) hgg, rest⟩
  · obtain ⟨hr, hlt⟩ := h.rows p hp
    obtain ⟨cur, cap, e, hb', hgg, _⟩ := hr.heap
    refine ⟨⟨hr.form, hr.own.1, ?_⟩, hlt⟩
    rcases hr.own.2 with hn | ⟨g, cap, cur, e', hb', hgg, rest⟩
    · exact .inl hn
    · refine .inr ⟨g, cap, cur, e', hb', hg g _ _ _ ?_ hgg, rest⟩
      rw [e] at e'
      injection e' with e1
      injection e1 with e1
      injection e1 with e1
      omega
theorem Tab.nil (w : World) (base top : Nat) : Tab Tu Ts w base top (.slice none 0 0) [] := ⟨World.ownsRow_nil _ _ _ _, (fun p hp => by cases hp), List.Pairwise.nil, (fun g hg => by cases hg)⟩
theorem Tab.value (h : Tab Tu Ts w base top v l) : v = .slice none 0 0 ∧ l = [] ∨ ∃ g cap, v = .slice (some ⟨g, 0, none⟩) l.length cap ∧ base ≤ g ∧ g < top := by
  rcases h.outer.2 with ⟨rfl, hn⟩ | ⟨g, cap, cur, rfl, hb, hgg, h1, h2, h3, h4⟩
  · exact .inl ⟨rfl, List.eq_nil_of_length_eq_zero hn⟩
  · exact .inr ⟨g, cap, rfl, hb, h.vtop g rfl⟩
theorem Box.grown {g : Nat} {C : Array Value} {t : TypeId} {row : Option Nat} (h : Box A g C t) (hg : A.grownBy B row) (hne : row ≠ some g) : Box B g C t := (hg.block g h.lt (Ne.symm hne)).trans h
theorem grownBy_set (w : World) (p : Addr) (u : Value) : w.grownBy (w.setCell p u) (some p.block) :=
  ⟨rfl, rfl, rfl, by simp [World.setCell], fun k _ hk => Below.heap_setCell w p u k (fun e => hk (by rw [e]))⟩
end
end Go.Proofs.Mem
namespace Go.Proofs.Mem
open Go.RowKit Go.WideShapes
set_option linter.unusedVariables false
end Go.Proofs.Mem
namespace Go.Proofs.Mem
open Go.RowKit Go.WideShapes
set_option linter.unusedVariables false
structure RowTo (w w' : World) (v v' : Value) : Prop where
  fr : Fr (fun x => v.ownBlock = some x) w w'
  own : v'.ownBlock = v.ownBlock ∨ ∃ k, v'.ownBlock = some k ∧ w.heap.size ≤ k
section
variable {a b c : World} {u v x : Value}
theorem RowTo.refl (a : World) (u : Value) : RowTo a a u u := ⟨Fr.refl _ _, .inl rfl⟩
theorem RowTo.trans (h : RowTo a b u v) (k : RowTo b c v x) : RowTo a c u x := by
  refine ⟨h.fr.trans' k.fr (fun i hi hs => ?_), ?_⟩
  · rcases h.own with e | ⟨m, e, hm⟩
    · exact e ▸ hs
    · rw [e] at hs; injection hs with hs; omega
  · rcases k.own with e | ⟨m, e, hm⟩
    · rcases h.own with e' | ⟨m, e', hm⟩
      · exact .inl (e.trans e')
      · exact .inr ⟨m, e.trans e', hm⟩
    · exact .inr ⟨m, e, Nat.le_trans h.fr.size hm⟩
theorem RowTo.of_below (hb : Below a.heap.size a b) (u : Value) : RowTo a b u u := ⟨Fr.of_below hb, .inl rfl⟩
theorem RowTo.later (h : RowTo a b u v) (hb : Below b.heap.size b c) : RowTo a c u v := h.trans (.of_below hb v)
theorem RowTo.made {n size : Nat} {e : TypeId} {xs : List Value} (hb : Below a.heap.size a b) (ho : b.ownsRow a.heap.size e size v n xs) : RowTo a b (.slice none 0 0) v := by
  refine ⟨Fr.of_below hb, ?_⟩
  cases h : v.ownBlock with
  | none => exact .inl rfl
  | some k => exact .inr ⟨k, rfl, (ho.lt k h).1⟩
theorem RowTo.app (hg : a.grownBy b u.ownBlock) (ho : v.ownBlock = u.ownBlock ∨ v.ownBlock = some a.heap.size) : RowTo a b u v :=
  ⟨(Fr.refl _ _).grown hg (fun k e => .inl e), ho.imp id (fun e => ⟨_, e, Nat.le_refl _⟩)⟩
theorem RowTo.box {m : Nat} {C : Array Value} {t : TypeId} (h : RowTo a b u v) (hb : Box a m C t) (hu : u.ownBlock ≠ some m) : Box b m C t := hb.fr h.fr hu
theorem RowTo.below {B : Nat} (h : RowTo a b u v) (hu : ∀ k, u.ownBlock = some k → B ≤ k) (hB : B ≤ a.heap.size) : Below B a b := h.fr.to_below hu hB
theorem RowTo.all (h : RowTo a b (.slice none 0 0) v) : Below a.heap.size a b := h.below (fun k e => by cases e) (Nat.le_refl _)
theorem RowTo.far {m : Nat} (h : RowTo a b u v) (hm : m < a.heap.size) (hu : u.ownBlock ≠ some m) : v.ownBlock ≠ some m := fun e => by
  rcases h.own with e' | ⟨k, e', hk⟩
  · exact hu (e'.symm.trans e)
  · rw [e'] at e; injection e with e; omega
end
end Go.Proofs.Mem
namespace Go.Proofs.Each
open Go Go.RowKit Go.Proofs.Mem Go.Sort
set_option linter.unusedVariables false
def Gr (w w' : World) : Prop := ∃ q os, w' = grow (w.drewN q) os
theorem Gr.refl (w : World) : Gr w w := ⟨0, #[], by rw [grow_empty]; rfl⟩
theorem Gr.drewN (w : World) (q : Nat) : Gr w (w.drewN q) := ⟨q, #[], by rw [grow_empty]⟩
theorem Gr.drew (w : World) : Gr w w.drew := Gr.drewN w 1
theorem Gr.alloc (w : World) (o : Obj) : Gr w (w.alloc o) := ⟨0, #[o], by rw [alloc_eq_grow]; rfl⟩
theorem Gr.trans {a b c : World} (h : Gr a b) (k : Gr b c) : Gr a c := by
  obtain ⟨q, os, rfl⟩ := h
  obtain ⟨q', os', rfl⟩ := k
  refine ⟨q + q', os ++ os', ?_⟩
  rw [← grow_grow]
  have e : (a.drewN q).drewN q' = a.drewN (q + q') := by simp [World.drewN, Nat.add_assoc]
  show grow (grow ((a.drewN q).drewN q') os) os' = _
  rw [e]
theorem Gr.below {a b : World} (h : Gr a b) : Below a.heap.size a b := by
  obtain ⟨q, os, rfl⟩ := h
  refine ⟨rfl, rfl, rfl, by simp [grow, World.drewN], fun k hk => ?_⟩
  simp only [grow, World.drewN]
  exact Array.getElem?_append_left hk
def Fz (Fs : List (Value → World → Prop)) (j : Nat) (vals : Nat → Value) (W : World) : Prop := (Fs.getD j fun _ _ => True) (vals j) W
theorem Fz.val {Fs : List (Value → World → Prop)} {j : Nat} {vals : Nat → Value} {W : World} {f : Value → World → Prop} {v : Value} (hE : (Fs.getD j fun _ _ => True) = f) (hf : f v W) : Fz Fs j (upd vals j v) W := by
  unfold Fz; rw [upd_same, hE]; exact hf
theorem wp_region_gr {P : Program} {l : List Oper} {a0 : Act} {id : Nat} {Q : Exit → Act → World → Prop} {w0 : World} (hm : P.follows .mixedOrders = true) (hB : fitB l.toArray = true) (Fs : List (Value → World → Prop))
    (hstay : ∀ j v W W', Gr W W' → (Fs.getD j fun _ _ => True) v W → (Fs.getD j fun _ _ => True) v W')
    (hob : ∀ vals : Nat → Value, ObC P l.toArray (Gr w0) (fun _ => Gr) (Fz Fs) vals 0 l a0)
    (hend : ∀ (vals : Nat → Value) W, Gr w0 W → (∀ i, i < l.length → (Fs.getD i fun _ _ => True) (vals i) W) → Q .normal (TL vals 0 l a0) W) : (Code.region id l.toArray true).wp P Q a0 w0 := by
  refine wp_region_obC hm hB (Gr w0) (fun _ => Gr) (Fz Fs) (Gr.drew _) (fun i w w' h k => h.trans k) (fun i j vals w w' _ _ k h => hstay j _ _ _ k h) (fun j oj vals vals' _ hv _ W hf => ?_) hob hend
  unfold Fz at hf ⊢
  rw [← hv]; exact hf
end Go.Proofs.Each
