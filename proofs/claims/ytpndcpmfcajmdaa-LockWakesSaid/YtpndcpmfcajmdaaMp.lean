import Derived.Test.YtpndcpmfcajmdaaBox
import Derived.Maps.Own
import Derived.Maps.OwnSet
import Derived.Maps.OwnOps
import Derived.Maps.Views
import Derived.Maps.RangeWalk
/- Maps that are read as functions of their keys. -/
namespace Go.Proofs.Mem
open Go.RowKit Go.WideShapes Go.Maps
set_option linter.unusedVariables false
/-- what stands for a map's keys -/
structure KE (P : Program) (K : TypeId) (α : Type) where
  kv : α → Value
  ok : α → Prop
  kl : α → Lit
  keyed : Maps.Keyed P K
  key : ∀ x, ok x → keyOf P K (kv x) = some (kl x)
  inv : ∀ v l, keyOf P K v = some l → ∃ x, ok x ∧ v = kv x ∧ l = kl x
  inj : ∀ x y, kv x = kv y → x = y
/-- what stands for its elements -/
structure EE (R : Value → Option (DataW Unit × List MemPlace)) (β : Type) where
  ev : β → Value
  ed : β → DataW Unit
  mem : ∀ b, ∃ ps, R (ev b) = some (ed b, ps)
  inv : ∀ v z, R v = some z → ∃ b, v = ev b ∧ z.1 = ed b
  inj : ∀ a b, ed a = ed b → a = b
section
variable {P : Program} {K : TypeId} {α β : Type} {R : Value → Option (DataW Unit × List MemPlace)} {E : KE P K α} {V : EE R β} {w w' : World} {m n : Nat} {f : α → Option β}
theorem EE.back (V : EE R β) {v : Value} {b : β} {ps : List MemPlace} (h : R v = some (V.ed b, ps)) : v = V.ev b := by
  obtain ⟨b', e1, e2⟩ := V.inv _ _ h
  rw [e1, V.inj _ _ e2]
theorem KE.kl_inj (E : KE P K α) {x y : α} (hx : E.ok x) (hy : E.ok y) (h : E.kl x = E.kl y) : x = y := by
  have h1 := E.key x hx
  have h2 := E.key y hy
  rw [h] at h1
  exact E.inj _ _ (E.keyed.inj h1 h2)
theorem KE.same (E : KE P K α) {x : α} (hx : E.ok x) : (E.kl x).sameKey (E.kl x) = true := WideAt.sameKey_self (E.keyed.key (E.key x hx))
theorem KE.other (E : KE P K α) {x y : α} (hx : E.ok x) (hy : E.ok y) (h : y ≠ x) : (E.kl y).sameKey (E.kl x) = false := Maps.sameKey_ne fun e => h (E.kl_inj hy hx e)
/-- a map as it is read says what f says -/
def Says (E : KE P K α) (V : EE R β) (D : DataW Unit) (f : α → Option β) : Prop :=
  (∀ x, E.ok x → (∀ z, D.atKey (E.kl x) z = ((f x).map V.ed).getD z) ∧ Maps.has D (E.kl x) = (f x).isSome) ∧ ∀ x, ¬ E.ok x → f x = none
/-- block m is a map that is f -/
def FM (E : KE P K α) (V : EE R β) (w : World) (m n : Nat) (f : α → Option β) : Prop := ∃ D, w.ownsMap P K R m n D ∧ Says E V D f
theorem FM.lt (h : FM E V w m n f) : m < w.heap.size := by obtain ⟨D, h, _⟩ := h; exact h.lt
theorem FM.mono (h : FM E V w m n f) {n' : Nat} (hn : n ≤ n') : FM E V w m n' f := by obtain ⟨D, h, k⟩ := h; exact ⟨D, h.mono hn, k⟩
theorem FM.kept {row : Option Nat} (h : FM E V w m n f) (hg : w.grownBy w' row) (hne : some m ≠ row) : FM E V w' m n f := by obtain ⟨D, h, k⟩ := h; exact ⟨D, h.kept hg hne, k⟩
theorem FM.fr {S : Nat → Prop} (h : FM E V w m n f) (hf : Fr S w w') (hn : ¬ S m) : FM E V w' m n f := by
  obtain ⟨D, h, k⟩ := h
  have hlt := h.lt
  obtain ⟨es, clock, hb, rest⟩ := h
  exact ⟨D, ⟨es, clock, (hf.block m hlt hn).trans hb, rest⟩, k⟩
theorem FM.later (h : FM E V w m n f) (hb : Below w.heap.size w w') : FM E V w' m n f := h.fr (S := fun _ => False) (Fr.of_below hb) id
theorem FM.drewN (h : FM E V w m n f) (j : Nat) : FM E V (w.drewN j) m n f := h
theorem FM.drew (h : FM E V w m n f) : FM E V w.drew m n f := h
theorem FM.ne_box {g : Nat} {C : Array Value} {t : TypeId} (h : FM E V w m n f) (hb : Box w g C t) : g ≠ m := by
  obtain ⟨D, ⟨es, clock, h1, _⟩, _⟩ := h
  rintro rfl
  unfold Box at hb
  rw [hb] at h1
  cases h1
theorem FM.made (E : KE P K α) (V : EE R β) (w : World) : FM E V (w.alloc (.map #[] 0)) w.heap.size 0 (fun _ => none) :=
  ⟨.map [], World.ownsMap_made _ _ _ _, fun x _ => ⟨fun z => rfl, rfl⟩, fun _ _ => rfl⟩
theorem FM.look (h : FM E V w m n f) {t e : TypeId} (ht : P.underlying t = some (.map K e)) (z : β) (hz : (zeroValue e).run P w = .ok (V.ev z) w) (x : α) (hx : E.ok x) :
    (Instr.lookup t (.map (some m)) (E.kv x) false).run P w = .ok (V.ev ((f x).getD z)) w ∧
    (Instr.lookup t (.map (some m)) (E.kv x) true).run P w = .ok (.tuple #[V.ev ((f x).getD z), .bool (f x).isSome]) w := by
  obtain ⟨D, h1, h2, _⟩ := h
  obtain ⟨e1, e2⟩ := h2 x hx
  obtain ⟨ps, hp⟩ := V.mem z
  obtain ⟨v, qs, hr, hv⟩ := h1.lookup E.keyed ht hz hp (E.key x hx)
  obtain ⟨v', qs', hr', hv'⟩ := h1.look_ok E.keyed ht hz hp (E.key x hx)
  have e3 : ((f x).map V.ed).getD (V.ed z) = V.ed ((f x).getD z) := by cases f x <;> rfl
  rw [e1, e3] at hv hv'
  rw [V.back hv] at hr
  rw [V.back hv', e2] at hr'
  exact ⟨hr, hr'⟩
/-- a range over the map f is under way; left: which keys are still to come -/
def FR (E : KE P K α) (V : EE R β) (w : World) (m r n : Nat) (f : α → Option β) (left : α → Bool) (cnt : Nat) : Prop := ∃ D lf, w.ranges P K R m r n D lf cnt ∧ Says E V D f ∧ ∀ x, E.ok x → lf (E.kl x) = left x
theorem FR.fm {r cnt : Nat} {left : α → Bool} (h : FR E V w m r n f left cnt) : FM E V w m n f := by obtain ⟨D, lf, h, k, _⟩ := h; exact ⟨D, h.owns, k⟩
theorem FR.left_eq {r cnt : Nat} {left : α → Bool} (h : FR E V w m r n f left cnt) : w.rangeLeft m r = cnt := by obtain ⟨D, lf, h, k, _⟩ := h; exact h.left_eq
theorem FR.lt {r cnt : Nat} {left : α → Bool} (h : FR E V w m r n f left cnt) : r < w.heap.size := by obtain ⟨D, lf, h, k, _⟩ := h; exact h.lt
theorem FR.ne {r cnt : Nat} {left : α → Bool} (h : FR E V w m r n f left cnt) : r ≠ m := by obtain ⟨D, lf, h, k, _⟩ := h; exact h.ne
theorem FR.ne_box {r cnt g : Nat} {left : α → Bool} {C : Array Value} {t : TypeId} (h : FR E V w m r n f left cnt) (hb : Box w g C t) : g ≠ r := by
  obtain ⟨D, lf, ⟨es, clock, since, seen, c0, _, _, _, _, h1, _⟩, _⟩ := h
  rintro rfl
  unfold Box at hb
  rw [hb] at h1
  cases h1
theorem FR.fr {S : Nat → Prop} {r cnt : Nat} {left : α → Bool} (h : FR E V w m r n f left cnt) (hf : Fr S w w') (hm : ¬ S m) (hr : ¬ S r) : FR E V w' m r n f left cnt := by
  have l1 := h.fm.lt
  have l2 := h.lt
  obtain ⟨D, lf, ⟨es, clock, since, seen, c0, k1, k2, k3, k4, k5, k6⟩, k⟩ := h
  exact ⟨D, lf, ⟨es, clock, since, seen, c0, (hf.block m l1 hm).trans k1, k2, k3, k4, (hf.block r l2 hr).trans k5, k6⟩, k⟩
theorem FR.drewN {r cnt : Nat} {left : α → Bool} (h : FR E V w m r n f left cnt) (j : Nat) : FR E V (w.drewN j) m r n f left cnt := h
theorem FM.range (h : FM E V w m n f) {t e : TypeId} (ht : P.underlying t = some (.map K e)) :
    ∃ w' cnt, (Instr.range t (.map (some m))).run P w = .ok (.pointer (some ⟨w.heap.size, 0, none⟩)) w' ∧ FR E V w' m w.heap.size n f (fun x => (f x).isSome) cnt ∧ cnt ≤ n ∧ w.grownBy w' none ∧ w'.heap.size = w.heap.size + 1 := by
  obtain ⟨D, h1, h2⟩ := h
  have hs := h1.size_le
  obtain ⟨w', hr, hg, k1, k2⟩ := h1.range E.keyed ht
  exact ⟨w', _, hr, ⟨D, _, hg, h2, fun x hx => (h2.1 x hx).2⟩, hs, k1, k2⟩
theorem wpList_range_fm {ops : Array Oper} {rest : List Oper} {o : Oper} {a : Act} {Q : Exit → Act → World → Prop} (hg : o.guard = none) (mo : Operand) (t : TypeId) (hop : o.op = Op.range t mo) (e : TypeId) (ht : P.underlying t = some (.map K e))
    (hm : a.eval mo = .map (some m)) (h : FM E V w m n f)
    (hK : ∀ w' cnt, FR E V w' m w.heap.size n f (fun x => (f x).isSome) cnt → cnt ≤ n → Below w.heap.size w w' → w'.heap.size = w.heap.size + 1 → wpList P ops Q rest (a.put o.dst (.pointer (some ⟨w.heap.size, 0, none⟩))) w') :
    wpList P ops Q (o :: rest) a w := by
  refine wpList_plain hg fun K' hK' => ?_
  obtain ⟨w', cnt, hrun, r1, r0, r2, r3⟩ := h.range ht
  unfold Oper.wp
  simp [execOp, hop, hm, hrun, Result.andThen]
  exact hK' _ _ (hK w' cnt r1 r0 (grown_below r2) r3)
variable [DecidableEq α]
/-- f with b at x -/
def fput (f : α → Option β) (x : α) (b : β) : α → Option β := fun y => if y = x then some b else f y
def fdel (f : α → Option β) (x : α) : α → Option β := fun y => if y = x then none else f y
theorem fput_same (f : α → Option β) (x : α) (b : β) : fput f x b x = some b := if_pos rfl
theorem fput_other (f : α → Option β) {x y : α} (b : β) (h : y ≠ x) : fput f x b y = f y := if_neg h
theorem fdel_same (f : α → Option β) (x : α) : fdel f x x = none := if_pos rfl
theorem fdel_other (f : α → Option β) {x y : α} (h : y ≠ x) : fdel f x y = f y := if_neg h
theorem Says.put {D : DataW Unit} (h : Says E V D f) (hD : Maps.IsMap D) {x : α} (hx : E.ok x) (b : β) : Says E V (D.put (E.kl x) (V.ed b)) (fput f x b) := by
  refine ⟨fun y hy => ?_, fun y hy => ?_⟩
  · by_cases e : y = x
    · subst e
      rw [fput_same]
      exact ⟨fun z => Maps.atKey_put_same hD (E.keyed.key (E.key y hx)) _ _, Maps.has_put_same hD (E.keyed.key (E.key y hx)) _⟩
    · have hne : E.kl y ≠ E.kl x := fun k => e (E.kl_inj hy hx k)
      rw [fput_other f b e]
      exact ⟨fun z => by rw [Maps.atKey_put_other hne]; exact (h.1 y hy).1 z, by rw [Maps.has_put_other hne]; exact (h.1 y hy).2⟩
  · rw [fput_other f b (fun e => hy (by rw [e]; exact hx))]
    exact h.2 y hy
theorem Says.del {D : DataW Unit} (h : Says E V D f) {x : α} (hx : E.ok x) : Says E V (D.del (E.kl x)) (fdel f x) := by
  refine ⟨fun y hy => ?_, fun y hy => ?_⟩
  · by_cases e : y = x
    · subst e
      rw [fdel_same]
      exact ⟨fun z => Maps.atKey_del_same _, Maps.has_del_same⟩
    · have hne : E.kl y ≠ E.kl x := fun k => e (E.kl_inj hy hx k)
      rw [fdel_other f e]
      exact ⟨fun z => by rw [Maps.atKey_del_other hne]; exact (h.1 y hy).1 z, by rw [Maps.has_del_other hne]; exact (h.1 y hy).2⟩
  · unfold fdel
    split
    · rfl
    · exact h.2 y hy
theorem FM.put (h : FM E V w m n f) {t e : TypeId} (ht : P.underlying t = some (.map K e)) (hn : n < maxLen) (x : α) (hx : E.ok x) (b : β) :
    ∃ w', (Instr.mapUpdate t (.map (some m)) (E.kv x) (V.ev b)).run P w = .ok () w' ∧ FM E V w' m (n + 1) (fput f x b) ∧ w.grownBy w' (some m) := by
  obtain ⟨D, h1, h2⟩ := h
  obtain ⟨ps, hp⟩ := V.mem b
  obtain ⟨w', hr, ho, hg⟩ := h1.update E.keyed ht hn (E.key x hx) hp
  exact ⟨w', hr, ⟨_, ho, h2.put h1.isMap hx b⟩, hg⟩
theorem FM.drop (h : FM E V w m n f) {t e : TypeId} (ht : P.underlying t = some (.map K e)) (x : α) (hx : E.ok x) (ty : TypeId) :
    ∃ w', (Builtin.delete_ #[t, K] ty #[.map (some m), E.kv x]).run P w = .ok (.tuple #[]) w' ∧ FM E V w' m n (fdel f x) ∧ w.grownBy w' (some m) := by
  obtain ⟨D, h1, h2⟩ := h
  obtain ⟨w', hr, ho, hg⟩ := h1.drop E.keyed ht (E.key x hx) ty
  exact ⟨w', hr, ⟨_, ho, h2.del hx⟩, hg.grown⟩
/-- all but x -/
def but (left : α → Bool) (x : α) : α → Bool := fun y => left y && !decide (y = x)
theorem FR.next {r cnt : Nat} {left : α → Bool} (h : FR E V w m r n f left cnt) (ty : TypeId) :
    (cnt = 0 ∧ (∀ x, E.ok x → left x = false) ∧ (Instr.next (.pointer (some ⟨r, 0, none⟩)) false ty).run P w = .ok (.tuple #[.bool false]) w) ∨
    ∃ x b w' cnt', E.ok x ∧ left x = true ∧ f x = some b ∧ (Instr.next (.pointer (some ⟨r, 0, none⟩)) false ty).run P w = .ok (.tuple #[.bool true, E.kv x, V.ev b]) w' ∧
      FR E V w' m r n f (but left x) cnt' ∧ cnt' < cnt ∧ Fr (fun g => g = r) w w' ∧ w'.heap.size = w.heap.size ∧ (Instr.entry (.pointer (some ⟨r, 0, none⟩))).run P w' = .ok (.tuple #[E.kv x, V.ev b]) w' := by
  obtain ⟨D, lf, h1, h2, h3⟩ := h
  rcases h1.next E.keyed ty with ⟨k1, k2, k3⟩ | ⟨key, v, kl, y, w', cnt', k1, k2, k3, k4, k5, k6, k7, k8, k9, k10⟩
  · exact .inl ⟨k1, fun x hx => by rw [← h3 x hx]; exact k2 _, k3⟩
  · obtain ⟨x, hx, rfl, rfl⟩ := E.inv _ _ k1
    obtain ⟨b, rfl, e2⟩ := V.inv _ _ k3
    have hfx : f x = some b := by
      have q1 := (h2.1 x hx).1
      cases e : f x with
      | none =>
        have q2 := (h2.1 x hx).2
        have q3 := Maps.has_true_of_atKey k4
        rw [q3, e] at q2
        cases q2
      | some b' =>
        have q4 := q1 (V.ed b)
        rw [k4, e, e2] at q4
        rw [V.inj _ _ q4]
    refine .inr ⟨x, b, w', cnt', hx, by rw [← h3 x hx]; exact k2, hfx, k5, ⟨D, _, k6, h2, fun y' hy => ?_⟩, k7, ⟨k8.os, k8.tape, k8.output, k8.size, fun i hi hn => k8.block i hi (fun e => hn (by injection e))⟩, k9, k10⟩
    show (lf (E.kl y') && !(E.kl y').sameKey (E.kl x)) = but left x y'
    unfold but
    rw [h3 y' hy]
    by_cases e : y' = x
    · subst e; rw [E.same hx]; simp
    · rw [E.other hx hy e]; simp [e]
theorem wpList_next_fm {ops : Array Oper} {rest : List Oper} {o : Oper} {a : Act} {Q : Exit → Act → World → Prop} {r cnt : Nat} {left : α → Bool} (hg : o.guard = none) (it : Operand) (hop : o.op = Op.next it false)
    (hit : a.eval it = .pointer (some ⟨r, 0, none⟩)) (h : FR E V w m r n f left cnt)
    (hDone : (∀ x, E.ok x → left x = false) → wpList P ops Q rest (a.put o.dst (.tuple #[.bool false])) w)
    (hMore : ∀ (x : α) (b : β) (w' : World) (cnt' : Nat), E.ok x → left x = true → f x = some b → FR E V w' m r n f (but left x) cnt' → cnt' < cnt → Fr (fun g => g = r) w w' → w'.heap.size = w.heap.size →
      (Instr.entry (.pointer (some ⟨r, 0, none⟩))).run P w' = .ok (.tuple #[E.kv x, V.ev b]) w' → wpList P ops Q rest (a.put o.dst (.tuple #[.bool true, E.kv x, V.ev b])) w') :
    wpList P ops Q (o :: rest) a w := by
  refine wpList_plain hg fun K' hK' => ?_
  unfold Oper.wp
  rcases h.next o.type with ⟨h0, hl, hrun⟩ | ⟨x, b, w', cnt', k1, k2, k3, hrun, k5, k6, k7, k8, k9⟩
  · simp [execOp, hop, hit, hrun, Result.andThen]
    exact hK' _ _ (hDone hl)
  · simp [execOp, hop, hit, hrun, Result.andThen]
    exact hK' _ _ (hMore x b w' cnt' k1 k2 k3 k5 k6 k7 k8 k9)
theorem wpList_put_fm {ops : Array Oper} {rest : List Oper} {o : Oper} {a : Act} {Q : Exit → Act → World → Prop} (hg : o.guard = none) (mo x v : Operand) (t : TypeId) (hop : o.op = Op.mapUpdate t mo x v) (e : TypeId) (ht : P.underlying t = some (.map K e))
    (hm : a.eval mo = .map (some m)) (h : FM E V w m n f) (hn : n < maxLen) (y : α) (hy : E.ok y) (hx : a.eval x = E.kv y) (b : β) (hv : a.eval v = V.ev b)
    (hK : ∀ w', FM E V w' m (n + 1) (fput f y b) → w.grownBy w' (some m) → wpList P ops Q rest (a.put o.dst undef) w') : wpList P ops Q (o :: rest) a w := by
  refine wpList_plain hg fun K' hK' => ?_
  obtain ⟨w', hrun, r1, r2⟩ := h.put ht hn y hy b
  unfold Oper.wp
  simp [execOp, hop, hm, hx, hv, hrun, Result.andThen]
  exact hK' _ _ (hK w' r1 r2)
theorem wpList_drop_fm {ops : Array Oper} {rest : List Oper} {o : Oper} {a : Act} {Q : Exit → Act → World → Prop} (hg : o.guard = none) (mo x : Operand) (t : TypeId) (hop : o.op = Op.call { callee := Callee.builtin Builtin.delete, args := #[mo, x], argTypes := #[t, K] }) (e : TypeId) (ht : P.underlying t = some (.map K e))
    (hm : a.eval mo = .map (some m)) (h : FM E V w m n f) (y : α) (hy : E.ok y) (hx : a.eval x = E.kv y)
    (hK : ∀ w', FM E V w' m n (fdel f y) → w.grownBy w' (some m) → wpList P ops Q rest (a.put o.dst (.tuple #[])) w') : wpList P ops Q (o :: rest) a w := by
  refine wpList_plain hg fun K' hK' => ?_
  obtain ⟨w', hrun, r1, r2⟩ := h.drop ht y hy o.type
  unfold Oper.wp
  simp [execOp, hop, resolve, invoke, builtin, hm, hx, hrun, Result.andThen]
  exact hK' _ _ (hK w' r1 r2)
end
/-- keys of an integer kind -/
def intKE (P : Program) (K : TypeId) (q : IntKind) (hk : P.underlying K = some (.int q)) : KE P K Int where
  kv x := .int q x
  ok x := (Lit.int q x).wf = true
  kl x := .int q x
  keyed := Maps.int_keyed hk
  key x hx := Maps.keyOf_int_mk hk hx
  inv v l h := by obtain ⟨x, e1, e2, e3⟩ := Maps.keyOf_int_inv hk h; exact ⟨x, e3, e1, e2⟩
  inj x y h := by injection h
/-- slices of one's own, from their row's beginning on, as elements: none is nil -/
def RSl (v : Value) : Option (DataW Unit × List MemPlace) :=
  match v with
  | .slice none 0 0 => some (.map [], [])
  | .slice (some ⟨b, 0, none⟩) n c => some (.agg [.lit (.int .u64 b), .lit (.int .u64 n), .lit (.int .u64 c)], [])
  | _ => none
def slEE : EE RSl (Option (Nat × Nat × Nat)) where
  ev b := match b with
    | none => .slice none 0 0
    | some (b, n, c) => .slice (some ⟨b, 0, none⟩) n c
  ed b := match b with
    | none => .map []
    | some (b, n, c) => .agg [.lit (.int .u64 b), .lit (.int .u64 n), .lit (.int .u64 c)]
  mem b := by
    cases b with
    | none => exact ⟨[], rfl⟩
    | some b => exact ⟨[], rfl⟩
  inv v z h := by
    unfold RSl at h
    split at h
    · injection h with h; exact ⟨none, rfl, by rw [← h]⟩
    · rename_i b n c; injection h with h; exact ⟨some (b, n, c), rfl, by rw [← h]⟩
    · cases h
  inj a b h := by
    cases a with
    | none =>
      cases b with
      | none => rfl
      | some b => cases h
    | some a =>
      cases b with
      | none => cases h
      | some b =>
        obtain ⟨a1, a2, a3⟩ := a
        obtain ⟨b1, b2, b3⟩ := b
        simp only [DataW.agg.injEq, List.cons.injEq, DataW.lit.injEq, Lit.int.injEq, true_and, and_true] at h
        obtain ⟨h1, h2, h3⟩ := h
        have : a1 = b1 := by omega
        have : a2 = b2 := by omega
        have : a3 = b3 := by omega
        subst_vars
        rfl
/-- sets -/
def unEE : EE (unitElem (H := Unit)) Unit where
  ev _ := .agg #[]
  ed _ := .agg []
  mem _ := ⟨[], unitElem_mk⟩
  inv v z h := by obtain ⟨e1, e2⟩ := unitElem_inv h; exact ⟨(), e1, by rw [e2]⟩
  inj _ _ _ := rfl
end Go.Proofs.Mem
