import Derived.Test.YtbbphfhkedldmaaEach7
import Derived.Test.YtbbphfhkedldmaaBox
/- Regions that draw their order and end by laying a struct into a variable: one that is there, or a new one. -/
namespace Go.Proofs.Each
open Go Go.RowKit Go.Proofs.Mem
set_option linter.unusedVariables false
/-- laid into block g, that is there; all else only draws -/
def Cq (w : World) (g n : Nat) (t : TypeId) (W : World) : Prop := Below w.heap.size w W ∧ ∃ C, Box W g C t ∧ C.size = n
def Rq (w : World) (g : Nat) (t : TypeId) (fin : Array Value) (s i : Nat) (W W' : World) : Prop := if i = s then Box W' g fin t ∧ Below w.heap.size W W' else ∃ d, W' = W.drewN d
def Fq (g : Nat) (t : TypeId) (fin : Array Value) (s : Nat) (Es : List Value) (j : Nat) (vals : Nat → Value) (W : World) : Prop := if j = s then Box W g fin t else vals j = Es.getD j undef
theorem Rq.same {w : World} {g : Nat} {t : TypeId} {fin : Array Value} {s i : Nat} (h : i ≠ s) (W : World) : Rq w g t fin s i W W := by unfold Rq; rw [if_neg h]; exact ⟨0, rfl⟩
theorem Rq.drewN {w : World} {g : Nat} {t : TypeId} {fin : Array Value} {s i : Nat} (h : i ≠ s) (W : World) (d : Nat) : Rq w g t fin s i W (W.drewN d) := by unfold Rq; rw [if_neg h]; exact ⟨d, rfl⟩
theorem Rq.last {w : World} {g : Nat} {t : TypeId} {fin : Array Value} {s : Nat} {W W' : World} (h : Box W' g fin t) (hb : Below w.heap.size W W') : Rq w g t fin s s W W' := by unfold Rq; rw [if_pos rfl]; exact ⟨h, hb⟩
theorem Fq.val {g : Nat} {t : TypeId} {fin : Array Value} {s j : Nat} {Es : List Value} {vals : Nat → Value} {W : World} {v E : Value} (h : j ≠ s) (hE : Es.getD j undef = E) (hv : v = E) : Fq g t fin s Es j (upd vals j v) W := by
  unfold Fq; rw [if_neg h, upd_same, hE, hv]
theorem Fq.last {g : Nat} {t : TypeId} {fin : Array Value} {s : Nat} {Es : List Value} {vals : Nat → Value} {W : World} (h : Box W g fin t) : Fq g t fin s Es s vals W := by unfold Fq; rw [if_pos rfl]; exact h
theorem Fq.get {g : Nat} {t : TypeId} {fin : Array Value} {s j : Nat} {Es : List Value} {vals : Nat → Value} {W : World} {E : Value} (hf : Fq g t fin s Es j vals W) (h : j ≠ s) (hE : Es.getD j undef = E) : vals j = E := by
  unfold Fq at hf; rw [if_neg h, hE] at hf; exact hf
theorem wp_region_one {P : Program} {l : List Oper} {a0 : Act} {id : Nat} {Q : Exit → Act → World → Prop} {w0 : World} (hm : P.follows .mixedOrders = true) (hB : fitB l.toArray = true)
    (w : World) (g n : Nat) (t : TypeId) (fin : Array Value) (s : Nat) (Es : List Value) (hn : fin.size = n) (hs : s < l.length) (hw : Below w.heap.size w w0) (C0 : Array Value) (hb0 : Box w0 g C0 t) (hc0 : C0.size = n)
    (hob : ∀ vals : Nat → Value, ObC P l.toArray (Cq w g n t) (Rq w g t fin s) (Fq g t fin s Es) vals 0 l a0)
    (hend : ∀ (vals : Nat → Value) W, Below w.heap.size w W → Box W g fin t → (∀ i, i < l.length → i ≠ s → vals i = Es.getD i undef) → Q .normal (TL vals 0 l a0) W) : (Code.region id l.toArray true).wp P Q a0 w0 := by
  refine wp_region_obC hm hB (Cq w g n t) (Rq w g t fin s) (Fq g t fin s Es) ⟨hw.drew, C0, hb0.drew, hc0⟩ ?_ ?_ ?_ hob ?_
  · rintro i W W' ⟨h1, C, h2, h3⟩ hr
    unfold Rq at hr
    split at hr
    · exact ⟨h1.trans hr.2, fin, hr.1, hn⟩
    · obtain ⟨d, rfl⟩ := hr
      exact ⟨⟨h1.os, h1.tape, h1.output, h1.size, h1.block⟩, C, h2.drewN d, h3⟩
  · intro i j vals W W' hji hc hr hf
    unfold Fq at hf ⊢
    unfold Rq at hr
    split at hf
    · rename_i hj
      rw [if_pos hj]
      rw [if_neg (fun e => hji (hj.trans e.symm))] at hr
      obtain ⟨d, rfl⟩ := hr
      exact hf.drewN d
    · rename_i hj; rw [if_neg hj]; exact hf
  · intro j oj vals vals' _ hv _ W hf
    unfold Fq at hf ⊢
    rw [← hv]; exact hf
  · intro vals W hc h
    have h1 := h s hs
    unfold Fq at h1
    rw [if_pos rfl] at h1
    exact hend vals W hc.1 h1 fun i hi hne => (h i hi).get hne rfl
/-- laid into a block that the region makes; all else only draws, or makes more -/
def Rn (w0 : World) (t : TypeId) (s i : Nat) (W W' : World) : Prop :=
  if i = s then Below w0.heap.size W W' ∧ (∀ g C, Box W g C t → ∃ C', Box W' g C' t ∧ C'.size = C.size) else Below W.heap.size W W'
def Fn_ (w0 : World) (t : TypeId) (n : Nat) (fin : Array Value) (a s : Nat) (Es : List Value) (j : Nat) (vals : Nat → Value) (W : World) : Prop :=
  if j = s then ∃ g, vals a = .pointer (some ⟨g, 0, none⟩) ∧ w0.heap.size ≤ g ∧ Box W g fin t else
  if j = a then ∃ g C, vals a = .pointer (some ⟨g, 0, none⟩) ∧ w0.heap.size ≤ g ∧ Box W g C t ∧ C.size = n else vals j = Es.getD j undef
theorem Rn.same {w0 : World} {t : TypeId} {s i : Nat} (h : i ≠ s) {W W' : World} (hb : Below W.heap.size W W') : Rn w0 t s i W W' := by unfold Rn; rw [if_neg h]; exact hb
theorem Fn_.val {w0 : World} {t : TypeId} {n a s j : Nat} {fin : Array Value} {Es : List Value} {vals : Nat → Value} {W : World} {v E : Value} (h : j ≠ s) (h' : j ≠ a) (hE : Es.getD j undef = E) (hv : v = E) : Fn_ w0 t n fin a s Es j (upd vals j v) W := by
  unfold Fn_; rw [if_neg h, if_neg h', upd_same, hE, hv]
theorem Fn_.get {w0 : World} {t : TypeId} {n a s j : Nat} {fin : Array Value} {Es : List Value} {vals : Nat → Value} {W : World} {E : Value} (hf : Fn_ w0 t n fin a s Es j vals W) (h : j ≠ s) (h' : j ≠ a) (hE : Es.getD j undef = E) : vals j = E := by
  unfold Fn_ at hf; rw [if_neg h, if_neg h', hE] at hf; exact hf
theorem Fn_.made {w0 : World} {t : TypeId} {n a s : Nat} {fin : Array Value} {Es : List Value} {vals : Nat → Value} {W : World} (has : a ≠ s) {C : Array Value} (g : Nat) (hg : w0.heap.size ≤ g) (hb : Box W g C t) (hc : C.size = n) : Fn_ w0 t n fin a s Es a (upd vals a (.pointer (some ⟨g, 0, none⟩))) W := by
  unfold Fn_; rw [if_neg has, if_pos rfl]; exact ⟨g, C, upd_same _ _ _, hg, hb, hc⟩
theorem Fn_.there {w0 : World} {t : TypeId} {n a s : Nat} {fin : Array Value} {Es : List Value} {vals : Nat → Value} {W : World} (has : a ≠ s) (hf : Fn_ w0 t n fin a s Es a vals W) : ∃ g C, vals a = .pointer (some ⟨g, 0, none⟩) ∧ w0.heap.size ≤ g ∧ Box W g C t ∧ C.size = n := by
  unfold Fn_ at hf; rw [if_neg has, if_pos rfl] at hf; exact hf
theorem laid {w0 W W' : World} {t : TypeId} {n a s g : Nat} {fin C : Array Value} {Es : List Value} {vals : Nat → Value} {v : Value} (has : a ≠ s) (hv : vals a = .pointer (some ⟨g, 0, none⟩)) (hg : w0.heap.size ≤ g) (hgW : g < W.heap.size) (hb : Box W g C t) (hn : C.size = n) (hfn : fin.size = n)
    (h' : Box W' g fin t) (hsz : W.heap.size ≤ W'.heap.size) (hos : W'.os = W.os ∧ W'.tape = W.tape ∧ W'.output = W.output) (hbl : ∀ k, k < W.heap.size → k ≠ g → W'.heap[k]? = W.heap[k]?) : Rn w0 t s s W W' ∧ Fn_ w0 t n fin a s Es s (upd vals s v) W' := by
  constructor
  · unfold Rn; rw [if_pos rfl]
    refine ⟨⟨hos.1, hos.2.1, hos.2.2, hsz, fun k hk => ?_⟩, fun g' C' hC' => ?_⟩
    · by_cases hkW : k < W.heap.size
      · exact hbl k hkW (by omega)
      · omega
    · by_cases e : g' = g
      · subst e
        unfold Box at hb hC' h'
        rw [hb] at hC'
        injection hC' with hC'
        injection hC' with hC' _ _
        subst hC'
        exact ⟨fin, h', by omega⟩
      · exact ⟨C', (hbl g' hC'.lt e).trans hC', rfl⟩
  · unfold Fn_; rw [if_pos rfl]
    exact ⟨g, by rw [upd_other _ _ _ _ has]; exact hv, hg, h'⟩
theorem wp_region_new {P : Program} {l : List Oper} {a0 : Act} {id : Nat} {Q : Exit → Act → World → Prop} {w0 : World} (hm : P.follows .mixedOrders = true) (hB : fitB l.toArray = true)
    (t : TypeId) (n : Nat) (fin : Array Value) (a s : Nat) (Es : List Value) (has : a ≠ s) (hs : s < l.length) (hdep : ∀ o, l[s]? = some o → ∃ e ∈ o.after, Region.binds .any e = true ∧ e.on = a)
    (hob : ∀ vals : Nat → Value, ObC P l.toArray (Below w0.heap.size w0) (Rn w0 t s) (Fn_ w0 t n fin a s Es) vals 0 l a0)
    (hend : ∀ (vals : Nat → Value) W g, Below w0.heap.size w0 W → vals a = .pointer (some ⟨g, 0, none⟩) → w0.heap.size ≤ g → Box W g fin t → (∀ i, i < l.length → i ≠ s → i ≠ a → vals i = Es.getD i undef) → Q .normal (TL vals 0 l a0) W) : (Code.region id l.toArray true).wp P Q a0 w0 := by
  refine wp_region_obC hm hB (Below w0.heap.size w0) (Rn w0 t s) (Fn_ w0 t n fin a s Es) ⟨rfl, rfl, rfl, Nat.le_refl _, fun _ _ => rfl⟩ ?_ ?_ ?_ hob ?_
  · intro i W W' hc hr
    unfold Rn at hr
    split at hr
    · exact hc.trans hr.1
    · exact hc.trans (hr.mono hc.size)
  · intro i j vals W W' hji hc hr hf
    unfold Fn_ at hf ⊢
    unfold Rn at hr
    split at hf
    · rename_i hj
      rw [if_pos hj]
      rw [if_neg (fun e => hji (hj.trans e.symm))] at hr
      obtain ⟨g, h1, h2, h3⟩ := hf
      exact ⟨g, h1, h2, h3.later hr⟩
    · rename_i hj
      rw [if_neg hj]
      split at hf
      · rename_i hja
        rw [if_pos hja]
        obtain ⟨g, C, h1, h2, h3, h4⟩ := hf
        split at hr
        · obtain ⟨C', h5, h6⟩ := hr.2 g C h3
          exact ⟨g, C', h1, h2, h5, by omega⟩
        · exact ⟨g, C, h1, h2, h3.later hr, h4⟩
      · rename_i hja; rw [if_neg hja]; exact hf
  · intro j oj vals vals' hj hv hw W hf
    unfold Fn_ at hf ⊢
    split at hf
    · rename_i hjs
      subst hjs
      rw [if_pos rfl]
      obtain ⟨e, he, hb, rfl⟩ := hdep oj hj
      rw [← hw e he hb]; exact hf
    · rename_i hjs
      rw [if_neg hjs]
      split at hf
      · rename_i hja
        subst hja
        rw [if_pos rfl, ← hv]; exact hf
      · rename_i hja; rw [if_neg hja, ← hv]; exact hf
  · intro vals W hc h
    have h1 := h s hs
    unfold Fn_ at h1
    rw [if_pos rfl] at h1
    obtain ⟨g, e1, e2, e3⟩ := h1
    exact hend vals W g hc e1 e2 e3 fun i hi hne hna => (h i hi).get hne hna rfl
theorem arr4 {C : Array Value} (h : C.size = 4) : ∃ a b c d, C = #[a, b, c, d] := by
  obtain ⟨l⟩ := C
  match l, h with
  | [a, b, c, d], _ => exact ⟨a, b, c, d, rfl⟩
theorem arr7 {C : Array Value} (h : C.size = 7) : ∃ a b c d e f g, C = #[a, b, c, d, e, f, g] := by
  obtain ⟨l⟩ := C
  match l, h with
  | [a, b, c, d, e, f, g], _ => exact ⟨a, b, c, d, e, f, g, rfl⟩
theorem arr9 {C : Array Value} (h : C.size = 9) : ∃ a b c d e f g i j, C = #[a, b, c, d, e, f, g, i, j] := by
  obtain ⟨l⟩ := C
  match l, h with
  | [a, b, c, d, e, f, g, i, j], _ => exact ⟨a, b, c, d, e, f, g, i, j, rfl⟩
end Go.Proofs.Each
