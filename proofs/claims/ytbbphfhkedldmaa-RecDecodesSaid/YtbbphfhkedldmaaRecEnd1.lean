/- Texts of layer 6 in one: what is read of any bytes, by the program and by the document. -/
import Derived.Test.YtbbphfhkedldmaaEach7
import Derived.Test.YtbbphfhkedldmaaBox
import Derived.Maps.AppendAt
import Derived.Laws.AppendOwnNone
import Derived.Test.YtbbphfhkedldmaaRecR
import Derived.Test.YtbbphfhkedldmaaRecF
import Derived.Deep.DeepCutAuto
import Derived.Test.YtbbphfhkedldmaaCodecMath
/- A region that draws its order: what is there may depend on which operations are done; one appends to a row, one lays a cell of a block. -/
namespace Go.Proofs.Each
open Go Go.RowKit Go.Proofs.Mem
set_option linter.unusedVariables false
section
variable {P : Program} {ops : Array Oper} {a0 : Act} {a t : Act}
/-- with an operation all are done that it waits for -/
def Clo (ops : Array Oper) (L : Nat → Bool) : Prop := ∀ (j : Nat) (oj : Oper), ops[j]? = some oj → L j = true → ∀ e ∈ oj.after, Region.binds .any e = true → L e.on = true
/-- is j waited for by i, in so many steps? -/
def ancB (ops : Array Oper) : Nat → Nat → Nat → Bool
  | 0, _, _ => false
  | n + 1, i, j => match ops[i]? with
    | none => false
    | some o => o.after.any fun e => Region.binds .any e && (e.on == j || ancB ops n e.on j)
theorem Clo.anc {L : Nat → Bool} (h : Clo ops L) : ∀ (n i j : Nat), ancB ops n i j = true → L i = true → L j = true
  | 0, _, _, h0, _ => by cases h0
  | n + 1, i, j, h0, hi => by
    unfold ancB at h0
    cases e : ops[i]? with
    | none => rw [e] at h0; cases h0
    | some o =>
      rw [e] at h0
      simp only [Array.any_eq_true', Bool.and_eq_true, Bool.or_eq_true, beq_iff_eq] at h0
      obtain ⟨d, hd, hb, hj⟩ := h0
      have hl := h i o e hi d hd hb
      rcases hj with hj | hj
      · rw [← hj]; exact hl
      · exact h.anc n d.on j hj hl
theorem Clo.not_yet {L : Nat → Bool} (h : Clo ops L) {k : Nat} (hk : L k = false) (i n : Nat) (ha : ancB ops n i k = true) : L i = false := by
  cases e : L i with
  | false => rfl
  | true => rw [h.anc n i k ha e] at hk; cases hk
theorem wp_region_eachL {id : Nat} {Q : Exit → Act → World → Prop} {w0 : World} (hm : P.follows .mixedOrders = true) (hA : Apart ops)
    (hsel : ∀ (i : Nat) (o : Oper), ops[i]? = some o → ∀ cs b, o.op ≠ .select cs b)
    (hb : ∀ (i : Nat) (o : Oper), ops[i]? = some o → ∀ e ∈ o.after, Region.binds .any e = true → e.on < i)
    (hdep : ∀ (i : Nat) (o : Oper), ops[i]? = some o → ∀ d ∈ o.looksAt ops, ∀ (j : Nat) (oj : Oper), ops[j]? = some oj → oj.dst = some d → ∃ e ∈ o.after, Region.binds .any e = true ∧ e.on = j)
    (C : (Nat → Bool) → World → Prop) (R : Nat → World → World → Prop) (U : Nat → (Nat → Value) → World → Prop)
    (hC0 : ∀ L : Nat → Bool, (∀ j, L j = false) → C L w0.drew) (hCR : ∀ i (L L' : Nat → Bool) w w', i < ops.size → L i = false → (∀ j, L' j = true ↔ (L j = true ∨ j = i)) → C L w → R i w w' → C L' w')
    (hUm : ∀ i j L vals w w', i < ops.size → j ≠ i → C L w → R i w w' → U j vals w → U j vals w')
    (hUc : ∀ (j : Nat) (oj : Oper) vals vals', ops[j]? = some oj → vals j = vals' j → (∀ e ∈ oj.after, Region.binds .any e = true → vals e.on = vals' e.on) → ∀ w, U j vals w → U j vals' w)
    (hstep : ∀ (i : Nat) (oi : Oper), ops[i]? = some oi → ∀ L vals w, Clo ops L → L i = false → C L w → (∀ e ∈ oi.after, Region.binds .any e = true → U e.on vals w) →
      wpOp P ops QF i (fun a' w' => ∃ v, a' = (T ops a0 vals i).put oi.dst v ∧ R i w w' ∧ U i (upd vals i v) w') (T ops a0 vals i) w)
    (hend : ∀ L vals w, C L w → (∀ i, i < ops.size → U i vals w) → Q .normal (T ops a0 vals ops.size) w) : (Code.region id ops true).wp P Q a0 w0 := by
  refine wp_region_inv hm (fun listed a w => ∃ vals, Agree ops a0 (fun j => listed.getD j false = true) vals a ∧ C (fun j => listed.getD j false) w ∧ (∀ j, j < ops.size → listed.getD j false = true → U j vals w) ∧ Clo ops (fun j => listed.getD j false)) ?_ ?_ ?_
  · have hno : ∀ j, ¬ (Array.replicate ops.size false).getD j false = true := by
      intro j h
      rw [Array.getD_eq_getD_getElem?, Array.getElem?_replicate] at h
      split at h <;> simp at h
    exact ⟨fun _ => undef, Agree.start hno, hC0 _ (fun j => by simpa using hno j), fun j _ h => absurd h (hno j), fun j _ _ h => absurd h (hno j)⟩
  · intro listed a w i hs hI hi
    obtain ⟨vals, hag, hC, hU, hcl⟩ := hI
    obtain ⟨o, ho, hlt, hnl, haf⟩ := ready_at hs hi
    have hnl2 : ¬ listed.getD i false = true := by
      rw [Array.getD_eq_getD_getElem?, Array.getElem?_eq_getElem (by omega)] at hnl ⊢
      simp only [Option.getD_some] at hnl ⊢
      rw [hnl]; decide
    have hnl3 : listed.getD i false = false := by simpa using hnl2
    have hT := agree_T (a0 := a0) hA vals i (Nat.le_of_lt hlt)
    have hlook : ∀ d ∈ o.looksAt ops, a.tmps[d]? = (T ops a0 vals i).tmps[d]? := fun d hd => hag.at_ hT d fun j oj hj hjd => by
      obtain ⟨e, he, hbe, rfl⟩ := hdep i o ho d hd j oj hj hjd
      exact ⟨fun _ => hb i o ho e he hbe, fun _ => haf e he hbe⟩
    have hst := hstep i o ho (fun j => listed.getD j false) vals w hcl hnl3 hC (fun e he hbe => hU e.on (Nat.lt_trans (hb i o ho e he hbe) hlt) (haf e he hbe))
    have hfin : ∀ v w', (R i w w' ∧ U i (upd vals i v) w') → ∃ vals', Agree ops a0 (fun j => (listed.setIfInBounds i true).getD j false = true) vals' (a.put o.dst v) ∧ C (fun j => (listed.setIfInBounds i true).getD j false) w' ∧ (∀ j, j < ops.size → (listed.setIfInBounds i true).getD j false = true → U j vals' w') ∧ Clo ops (fun j => (listed.setIfInBounds i true).getD j false) := by
      intro v w' ⟨hR, hUi⟩
      have hLL : ∀ j, (listed.setIfInBounds i true).getD j false = true ↔ (listed.getD j false = true ∨ j = i) := by
        intro j
        rw [Array.getD_eq_getD_getElem?, Array.getD_eq_getD_getElem?, Array.getElem?_setIfInBounds]
        by_cases hij : i = j
        · subst hij; rw [if_pos rfl, if_pos (by omega)]; simp
        · rw [if_neg hij]
          exact ⟨.inl, fun h => h.resolve_right (fun e => hij e.symm)⟩
      refine ⟨upd vals i v, hag.put hA ho hnl2 v hLL, hCR i _ _ _ _ hlt hnl3 hLL hC hR, fun j hj hl => ?_, fun j oj hj hl e he hbe => ?_⟩
      rcases (hLL j).1 hl with h1 | h1
      · have hji : j ≠ i := by rintro rfl; exact hnl2 h1
        have hjo : ops[j]? = some ops[j] := Array.getElem?_eq_getElem hj
        refine hUc j ops[j] vals (upd vals i v) hjo (upd_other _ _ _ _ hji).symm (fun e he hbe => ?_) w' (hUm i j _ vals w w' hlt hji hC hR (hU j hj h1))
        have h3 := hcl j ops[j] hjo h1 e he hbe
        exact (upd_other _ _ _ _ (by intro h4; rw [h4] at h3; exact hnl2 h3)).symm
      · subst h1; exact hUi
      · rcases (hLL j).1 hl with h1 | h1
        · exact (hLL e.on).2 (.inl (hcl j oj hj h1 e he hbe))
        · subst h1
          rw [ho] at hj; cases hj
          exact (hLL e.on).2 (.inl (haf e he hbe))
    unfold wpOp at hst ⊢
    simp only [ho] at hst ⊢
    rw [wanted_same o hlook]
    split
    · rename_i hw
      rw [if_pos hw] at hst
      rcases hst with hst | ⟨_, _, _, hst⟩
      · exact .inl (Oper.wp_mono (fun a' w' ⟨v, h1, h2⟩ => h1 ▸ hfin v w' h2) (wp_same (exec_same o (hsel i o ho) hlook) (hag.none hT) hst))
      · exact hst.elim
    · rename_i hw
      rw [if_neg hw] at hst
      obtain ⟨v, h1, h2⟩ := hst
      rw [put_val (hag.none hT) h1]
      exact hfin v w h2
  · intro listed a w hs hI hr
    obtain ⟨vals, hag, hC, hU, hcl⟩ := hI
    have hall := all_listed hs hb hr
    rw [hag.same (agree_T hA vals ops.size (Nat.le_refl _)) (fun j hj => ⟨fun _ => hj, fun _ => hall j hj⟩)]
    exact hend _ vals w hC fun i hi => hU i hi (hall i hi)
end
def StepL (P : Program) (ops : Array Oper) (C : (Nat → Bool) → World → Prop) (R : Nat → World → World → Prop) (F : Nat → (Nat → Value) → World → Prop) (vals : Nat → Value) (k : Nat) (o : Oper) (a : Act) : Prop :=
  ∀ L W, Clo ops L → L k = false → C L W → (∀ e ∈ o.after, Region.binds .any e = true → F e.on vals W) →
    if Region.wanted o (yielded ops a.tmps) = true then o.wp P a W (fun a' W' => ∃ v, a' = a.put o.dst v ∧ R k W W' ∧ F k (upd vals k v) W') QF else R k W W ∧ F k (upd vals k undef) W
def ObL (P : Program) (ops : Array Oper) (C : (Nat → Bool) → World → Prop) (R : Nat → World → World → Prop) (F : Nat → (Nat → Value) → World → Prop) (vals : Nat → Value) : Nat → List Oper → Act → Prop
  | _, [], _ => True
  | k, o :: r, a => StepL P ops C R F vals k o a ∧ ObL P ops C R F vals (k + 1) r (a.put o.dst (vals k))
theorem obL_at {P : Program} {ops : Array Oper} {C : (Nat → Bool) → World → Prop} {R : Nat → World → World → Prop} {F : Nat → (Nat → Value) → World → Prop} {vals : Nat → Value} {a0 : Act} : ∀ (r : List Oper) (k : Nat), (∀ i o, r[i]? = some o → ops[k + i]? = some o) → ObL P ops C R F vals k r (T ops a0 vals k) →
    ∀ i o, r[i]? = some o → StepL P ops C R F vals (k + i) o (T ops a0 vals (k + i))
  | [], k, _, _, i, o, h => by simp at h
  | x :: r, k, hk, ⟨h1, h2⟩, 0, o, h => by simp at h; subst h; exact h1
  | x :: r, k, hk, ⟨h1, h2⟩, i + 1, o, h => by
    have h0 : ops[k]? = some x := hk 0 x rfl
    rw [show (T ops a0 vals k).put x.dst (vals k) = T ops a0 vals (k + 1) by simp only [T, h0, Option.bind_some]] at h2
    have := obL_at r (k + 1) (fun i y hy => by rw [show k + 1 + i = k + (i + 1) by omega]; exact hk (i + 1) y (by simpa using hy)) h2 i o (by simpa using h)
    rwa [show k + 1 + i = k + (i + 1) by omega] at this
theorem wp_region_obL {P : Program} {l : List Oper} {a0 : Act} {id : Nat} {Q : Exit → Act → World → Prop} {w0 : World} (hm : P.follows .mixedOrders = true) (hB : fitB l.toArray = true)
    (C : (Nat → Bool) → World → Prop) (R : Nat → World → World → Prop) (F : Nat → (Nat → Value) → World → Prop)
    (hC0 : ∀ L : Nat → Bool, (∀ j, L j = false) → C L w0.drew) (hCR : ∀ i (L L' : Nat → Bool) w w', L i = false → (∀ j, L' j = true ↔ (L j = true ∨ j = i)) → C L w → R i w w' → C L' w')
    (hFm : ∀ i j L vals w w', j ≠ i → C L w → R i w w' → F j vals w → F j vals w')
    (hFc : ∀ (j : Nat) (oj : Oper) vals vals', l[j]? = some oj → vals j = vals' j → (∀ e ∈ oj.after, Region.binds .any e = true → vals e.on = vals' e.on) → ∀ w, F j vals w → F j vals' w)
    (hob : ∀ vals : Nat → Value, ObL P l.toArray C R F vals 0 l a0)
    (hend : ∀ L (vals : Nat → Value) W, C L W → (∀ i, i < l.length → F i vals W) → Q .normal (TL vals 0 l a0) W) : (Code.region id l.toArray true).wp P Q a0 w0 := by
  refine wp_region_eachL hm (fun i j oi oj d hi hj hdi hdj => ((fitB_at hB hi).2.2 j oj d hj hdj).2 hdi) (fun i o hi cs b e => by have := (fitB_at hB hi).1; rw [e] at this; cases this)
    (fun i o hi => (fitB_at hB hi).2.1) (fun i o hi d hd j oj hj hjd => ((fitB_at hB hi).2.2 j oj d hj hjd).1 hd)
    C R F hC0 (fun i L L' w w' _ h1 h2 h h' => hCR i L L' w w' h1 h2 h h') (fun i j L vals w w' _ h0 h h' => hFm i j L vals w w' h0 h h') (fun j oj vals vals' hj => hFc j oj vals vals' (by simpa using hj)) ?_ ?_
  · intro i oi hi L vals W hL hn hc hw
    have hi' : l[i]? = some oi := by simpa using hi
    have h0 := obL_at l 0 (fun i o h => by simpa using h) (hob vals) i oi hi'
    rw [Nat.zero_add] at h0
    have h1 := h0 L W hL hn hc hw
    unfold wpOp
    simp only [hi]
    split
    · rename_i hx; rw [if_pos hx] at h1; exact .inl h1
    · rename_i hx; rw [if_neg hx] at h1; exact ⟨undef, rfl, h1⟩
  · intro L vals W hc h
    have := T_app vals a0 l.toArray l 0 fun i o h => by simpa using h
    rw [Nat.zero_add] at this
    have h2 := hend L vals W hc fun i hi => h i (by simpa using hi)
    rw [show TL vals 0 l a0 = T l.toArray a0 vals l.length from this] at h2
    simpa using h2
/-- operation p writes row's block, operation s block g; all others make memory at most -/
def Ca (w0 : World) (row : Option Nat) (g p s : Nat) (L : Nat → Bool) (W : World) : Prop := Fr (fun x => (L p = true ∧ row = some x) ∨ (L s = true ∧ x = g)) w0 W
def Ra (row : Option Nat) (g p s i : Nat) (W W' : World) : Prop := Fr (fun x => (i = p ∧ row = some x) ∨ (i = s ∧ x = g)) W W'
theorem Ra.same {row : Option Nat} {g p s i : Nat} (W : World) : Ra row g p s i W W := Fr.refl _ _
theorem Ra.of_below {row : Option Nat} {g p s i : Nat} {W W' : World} (h : Below W.heap.size W W') : Ra row g p s i W W' := Fr.of_below h
theorem Ca.below {w0 : World} {row : Option Nat} {g p s : Nat} {L : Nat → Bool} {W : World} (h : Ca w0 row g p s L W) (hp : L p = false) (hs : L s = false) : Below w0.heap.size w0 W :=
  Fr.to_below h (fun k hk => by rcases hk with ⟨h1, _⟩ | ⟨h1, _⟩; (rw [hp] at h1; cases h1); (rw [hs] at h1; cases h1)) (Nat.le_refl _)
theorem Ca.box {w0 : World} {row : Option Nat} {g p s : Nat} {L : Nat → Bool} {W : World} {C : Array Value} {t : TypeId} (h : Ca w0 row g p s L W) (hb : Box w0 g C t) (hs : L s = false) (hr : row ≠ some g) : Box W g C t :=
  hb.fr h (fun hk => by rcases hk with ⟨_, h1⟩ | ⟨h1, _⟩; (exact hr h1); (rw [hs] at h1; cases h1))
/-- what is said of the operations: of s what block g holds then, of any other one what is listed -/
def Fa (s g p : Nat) (t : TypeId) (C' : Value → Array Value) (Fs : List (Value → World → Prop)) (j : Nat) (vals : Nat → Value) (W : World) : Prop := if j = s then Box W g (C' (vals p)) t else (Fs.getD j fun _ _ => True) (vals j) W
section
variable {s g p j : Nat} {t : TypeId} {C' : Value → Array Value} {Fs : List (Value → World → Prop)} {vals : Nat → Value} {W : World} {f : Value → World → Prop} {v : Value}
theorem Fa.val (h : j ≠ s) (hE : (Fs.getD j fun _ _ => True) = f) (hf : f v W) : Fa s g p t C' Fs j (upd vals j v) W := by
  unfold Fa; rw [if_neg h, upd_same, hE]; exact hf
theorem Fa.get (hf : Fa s g p t C' Fs j vals W) (h : j ≠ s) : (Fs.getD j fun _ _ => True) (vals j) W := by
  unfold Fa at hf; rw [if_neg h] at hf; exact hf
theorem Fa.last (h : p ≠ s) (hb : Box W g (C' (vals p)) t) : Fa s g p t C' Fs s (upd vals s v) W := by
  unfold Fa; rw [if_pos rfl, upd_other _ _ _ _ h]; exact hb
end
theorem own_frS {W W' : World} {base n size : Nat} {e : TypeId} {v : Value} {xs : List Value} {S : Nat → Prop} (h : W.ownsRow base e size v n xs) (hf : Fr S W W') (hs : ∀ k, v.ownBlock = some k → ¬ S k) : W'.ownsRow base e size v n xs := by
  refine ⟨h.1, ?_⟩
  rcases h.2 with hn | ⟨g, cap, cur, rfl, hb, hgg, rest⟩
  · exact .inl hn
  · exact .inr ⟨g, cap, cur, rfl, hb, (hf.block g (Array.getElem?_eq_some_iff.1 hgg).1 (hs g rfl)).trans hgg, rest⟩
theorem own_slice' {W : World} {b n sz : Nat} {e : TypeId} {v : Value} {xs : List Value} (h : W.ownsRow b e sz v n xs) : ∃ A c, v = .slice A n c := by
  rcases h.2 with ⟨rfl, rfl⟩ | ⟨g, cap, cur, rfl, _⟩
  · exact ⟨_, _, rfl⟩
  · exact ⟨_, _, rfl⟩
/-- 'append(s, x)', x the cells of a block; one operation -/
theorem wp_push {P : Program} (w : World) {o : Oper} {a : Act} {K : Act → World → Prop} {Q : Exit → Act → World → Prop} (s x : Operand) (t : TypeId)
    (ho : o.op = .call { callee := .builtin .append, args := #[s, x], argTypes := #[t, t] })
    (base : Nat) (e : TypeId) (i : TypeInfo) (z : Value) (sz bytes : Nat) (ht : P.underlying t = some (.slice e)) (hi : P.info? e = some i) (hz : i.zero = some z)
    (hsize : i.size = sz) (hby : i.bytes = bytes) (hzs : z.cells.size = sz) (hsz : 0 < sz) (us : List Value) (hus : us.length = sz) (h1 : ∀ u ∈ us, u.oneCell' = true)
    (v : Value) (n : Nat) (xs : List Value) (hs : a.eval s = v) (hown : w.ownsRow base e sz v n xs)
    (g : Nat) (T : TypeId) (hx : a.eval x = .slice (some ⟨g, 0, none⟩) 1 1) (hc : Box w g us.toArray T) (h63 : n + 1 ≤ maxLen) (hbytes : (n + 1) * bytes ≤ 140737488355328) (hbase : base ≤ w.heap.size)
    (h : ∀ v' w', w'.ownsRow base e sz v' (n + 1) (xs ++ us) → w.grownBy w' v.ownBlock → (v'.ownBlock = v.ownBlock ∨ v'.ownBlock = some w.heap.size) → K (a.put o.dst v') w') : o.wp P a w K Q := by
  obtain ⟨v', w', hrun, h2, h3, _, h5⟩ := run_append_own_at (P := P) (w := w) base t o.type e i z sz bytes ht hi hz hsize hby hzs hsz v n xs hown ⟨g, 0, none⟩ 1 1 us (by omega) (by
    intro j u hj
    rw [Go.WideShapes.add_plain, Nat.zero_add, hc.cell j]
    simpa using hj) h1 h63 hbytes hbase
  unfold Oper.wp
  simp [execOp, ho, resolve, invoke, builtin, hs, hx, hrun, Result.andThen]
  exact h v' w' h2 h3 h5
/-- a region whose operation p appends to row, and whose operation s stores what came of it to block g -/
theorem wp_region_app {P : Program} {l : List Oper} {a0 : Act} {id : Nat} {Q : Exit → Act → World → Prop} {w0 : World} (hm : P.follows .mixedOrders = true) (hB : fitB l.toArray = true)
    (row : Option Nat) (g p s : Nat) (t : TypeId) (C' : Value → Array Value) (Fs : List (Value → World → Prop)) (hps : p ≠ s)
    (hdep : ∀ o, l[s]? = some o → ∃ e ∈ o.after, Region.binds .any e = true ∧ e.on = p) (hrg : row ≠ some g)
    (hstay : ∀ j v W W', j ≠ s → w0.heap.size ≤ W.heap.size → Fr (fun x => (j ≠ p ∧ row = some x) ∨ x = g) W W' → (Fs.getD j fun _ _ => True) v W → (Fs.getD j fun _ _ => True) v W')
    (hob : ∀ vals : Nat → Value, ObL P l.toArray (Ca w0 row g p s) (Ra row g p s) (Fa s g p t C' Fs) vals 0 l a0)
    (hend : ∀ (vals : Nat → Value) W, Fr (fun x => row = some x ∨ x = g) w0 W → Box W g (C' (vals p)) t → (∀ i, i < l.length → i ≠ s → (Fs.getD i fun _ _ => True) (vals i) W) → s < l.length → Q .normal (TL vals 0 l a0) W) (hs : s < l.length) : (Code.region id l.toArray true).wp P Q a0 w0 := by
  refine wp_region_obL hm hB (Ca w0 row g p s) (Ra row g p s) (Fa s g p t C' Fs) ?_ ?_ ?_ ?_ hob ?_
  · intro L _; exact (Fr.refl _ _).drew
  · intro i L L' W W' hi hLL h h'
    refine Fr.trans' (h.mono ?_) h' ?_
    · intro k _ hk
      rcases hk with ⟨h1, h2⟩ | ⟨h1, h2⟩
      · exact .inl ⟨(hLL p).2 (.inl h1), h2⟩
      · exact .inr ⟨(hLL s).2 (.inl h1), h2⟩
    · intro k _ hk
      rcases hk with ⟨h1, h2⟩ | ⟨h1, h2⟩
      · exact .inl ⟨(hLL p).2 (.inr h1.symm), h2⟩
      · exact .inr ⟨(hLL s).2 (.inr h1.symm), h2⟩
  · intro i j L vals W W' hji hc hr hf
    unfold Fa at hf ⊢
    by_cases hj : j = s
    · rw [if_pos hj] at hf ⊢
      refine hf.fr hr (fun hk => ?_)
      rcases hk with ⟨_, h1⟩ | ⟨h1, _⟩
      · exact hrg h1
      · exact hji (hj.trans h1.symm)
    · rw [if_neg hj] at hf ⊢
      refine hstay j _ W W' hj hc.size (hr.mono (fun k _ hk => ?_)) hf
      rcases hk with ⟨h1, h2⟩ | ⟨_, h2⟩
      · exact .inl ⟨fun e => hji (e.trans h1.symm), h2⟩
      · exact .inr h2
  · intro j oj vals vals' hj hv hw W hf
    unfold Fa at hf ⊢
    by_cases h : j = s
    · rw [if_pos h] at hf ⊢
      subst h
      obtain ⟨e, he, hb, rfl⟩ := hdep oj hj
      rw [← hw e he hb]; exact hf
    · rw [if_neg h] at hf ⊢
      rw [← hv]; exact hf
  · intro L vals W hc h
    have h1 := h s hs
    unfold Fa at h1
    rw [if_pos rfl] at h1
    refine hend vals W (hc.mono fun k _ hk => ?_) h1 (fun i hi hne => ?_) hs
    · rcases hk with ⟨_, h2⟩ | ⟨_, h2⟩
      · exact .inl h2
      · exact .inr h2
    · have := h i hi
      unfold Fa at this
      rwa [if_neg hne] at this
end Go.Proofs.Each

/- Decode's deferred closure, when a reader has given up. -/
namespace Go.Proofs.Ytbbphfhkedldmaa.Rec
open Go.ChangeShapes Go.WideShapes Go.ChangeAt Go.RowKit Go.IntWalk Go.Proofs.NumMath Go.Proofs.Mem Go.Proofs.CrcMath NumBytes CrcA
set_option linter.unusedVariables false
set_option linter.unusedSimpArgs false
theorem arr12 {C : Array Value} (h : C.size = 12) : ∃ a b c d e f g i j k m n, C = #[a, b, c, d, e, f, g, i, j, k, m, n] := by
  obtain ⟨l⟩ := C
  match l, h with
  | [a, b, c, d, e, f, g, i, j, k, m, n], _ => exact ⟨a, b, c, d, e, f, g, i, j, k, m, n, rfl⟩
theorem out_size {w : World} {g : Nat} {t : TypeId} {a0 a1 a2 a3 a4 a5 a6 a7 a8 a9 a10 a11 : Value} (h : Box w g #[a0, a1, a2, a3, a4, a5, a6, a7, a8, a9, a10, a11] t) : ∃ C, Box w g C t ∧ C.size = 12 := ⟨_, h, rfl⟩
set_option maxRecDepth 100000 in
set_option maxHeartbeats 8000000 in
theorem catch_panic (r k : Nat) (hrk : r ≠ k) (C : Array Value) (w : World) (hC : C.size = 12) (hb : Box w r C 31) (b : Bool) (hk : Box w k #[.bool b] 4) :
    CallsD Try.prog 45 #[.pointer (some ⟨r, 0, none⟩), .pointer (some ⟨k, 0, none⟩)] (.panicking raise_) w fun en u' w' =>
      en = .returned (.tuple #[]) ∧ u' = .panicking [{ v := .iface 35 (.int .u16 61), recovered := true }] ∧ Box w' r (bareC 0 0 0 0) 31 ∧ Box w' k #[.bool false] 4 ∧ Fr (fun x => x = r ∨ x = k) w w' := by
  unfold raise_
  obtain ⟨a0, a1, a2, a3, a4, a5, a6, a7, a8, a9, a10, a11, rfl⟩ := arr12 hC
  refine callsD_of_wpS Try.func45 rfl fun c₀ cs hu => ?_
  simp only [Try.ntmps45, List.size_toArray, List.length_cons, List.length_nil, Nat.reduceAdd, Nat.reduceSub, Array.replicate_succ, Array.replicate_zero, List.push_toArray, List.append_toArray, List.nil_append, List.cons_append]
  apply wpS_seq
  apply wpS_region
  simp [wpOpsS, go_sem, recoverD, hu, Exit.thenS]
  have HB := Lib.hid hb
  have HK := Lib.hid hk
  have HN := Lib.hid hrk
  have k0 : w.cell? ⟨r, 0, none⟩ = some a0 := hb.cell 0
  have f0 := hb.frozen 0
  have k1 : w.cell? ⟨r, 1, none⟩ = some a1 := hb.cell 1
  have f1 := hb.frozen 1
  have k2 : w.cell? ⟨r, 2, none⟩ = some a2 := hb.cell 2
  have f2 := hb.frozen 2
  have k3 : w.cell? ⟨r, 3, none⟩ = some a3 := hb.cell 3
  have f3 := hb.frozen 3
  have k4 : w.cell? ⟨r, 4, none⟩ = some a4 := hb.cell 4
  have f4 := hb.frozen 4
  have k5 : w.cell? ⟨r, 5, none⟩ = some a5 := hb.cell 5
  have f5 := hb.frozen 5
  have k6 : w.cell? ⟨r, 6, none⟩ = some a6 := hb.cell 6
  have f6 := hb.frozen 6
  have k7 : w.cell? ⟨r, 7, none⟩ = some a7 := hb.cell 7
  have f7 := hb.frozen 7
  have k8 : w.cell? ⟨r, 8, none⟩ = some a8 := hb.cell 8
  have f8 := hb.frozen 8
  have k9 : w.cell? ⟨r, 9, none⟩ = some a9 := hb.cell 9
  have f9 := hb.frozen 9
  have k10 : w.cell? ⟨r, 10, none⟩ = some a10 := hb.cell 10
  have f10 := hb.frozen 10
  have k11 : w.cell? ⟨r, 11, none⟩ = some a11 := hb.cell 11
  have f11 := hb.frozen 11
  have kk : w.cell? ⟨k, 0, none⟩ = some (.bool b) := hk.cell 0
  have fk := hk.frozen 0
  have hkr : k ≠ r := fun e => hrk e.symm
  clear hb hk
  refine wpS_of_wp ?_
  go_wp2

  have b9 := Box.far (p := ⟨k, 0, none⟩) (((((((((((((HB.out).set_ 0 (.int .u8 0)).set_ 1 (.int .u32 0)).set_ 2 (.int .u64 0)).set_ 3 (.int .u64 0)).set_ 4 (.int .u32 0)).set_ 5 (.int .u16 0)).set_ 6 (.bool false)).set_ 7 (.bool false)).set_ 8 (.slice none 0 0)).set_ 9 (.slice none 0 0)).set_ 10 (.slice none 0 0)).set_ 11 (.slice none 0 0)) HN.out (.bool false)
  simp only [List.setIfInBounds_toArray, List.set_cons_zero, List.set_cons_succ] at b9
  have k9 := Box.set_ (Box.far (p := ⟨r, 11, none⟩) (Box.far (p := ⟨r, 10, none⟩) (Box.far (p := ⟨r, 9, none⟩) (Box.far (p := ⟨r, 8, none⟩) (Box.far (p := ⟨r, 7, none⟩) (Box.far (p := ⟨r, 6, none⟩) (Box.far (p := ⟨r, 5, none⟩) (Box.far (p := ⟨r, 4, none⟩) (Box.far (p := ⟨r, 3, none⟩) (Box.far (p := ⟨r, 2, none⟩) (Box.far (p := ⟨r, 1, none⟩) (Box.far (p := ⟨r, 0, none⟩) (HK.out) hkr (.int .u8 0)) hkr (.int .u32 0)) hkr (.int .u64 0)) hkr (.int .u64 0)) hkr (.int .u32 0)) hkr (.int .u16 0)) hkr (.bool false)) hkr (.bool false)) hkr (.slice none 0 0)) hkr (.slice none 0 0)) hkr (.slice none 0 0)) hkr (.slice none 0 0)) 0 (.bool false)
  simp only [List.setIfInBounds_toArray, List.set_cons_zero, List.set_cons_succ] at k9
  have f9 := Fr.setCell (Fr.setCell (Fr.setCell (Fr.setCell (Fr.setCell (Fr.setCell (Fr.setCell (Fr.setCell (Fr.setCell (Fr.setCell (Fr.setCell (Fr.setCell (Fr.setCell (Fr.refl (fun x => x = r ∨ x = k) w) (p := ⟨r, 0, none⟩) (.inl (.inl rfl)) (.int .u8 0)) (p := ⟨r, 1, none⟩) (.inl (.inl rfl)) (.int .u32 0)) (p := ⟨r, 2, none⟩) (.inl (.inl rfl)) (.int .u64 0)) (p := ⟨r, 3, none⟩) (.inl (.inl rfl)) (.int .u64 0)) (p := ⟨r, 4, none⟩) (.inl (.inl rfl)) (.int .u32 0)) (p := ⟨r, 5, none⟩) (.inl (.inl rfl)) (.int .u16 0)) (p := ⟨r, 6, none⟩) (.inl (.inl rfl)) (.bool false)) (p := ⟨r, 7, none⟩) (.inl (.inl rfl)) (.bool false)) (p := ⟨r, 8, none⟩) (.inl (.inl rfl)) (.slice none 0 0)) (p := ⟨r, 9, none⟩) (.inl (.inl rfl)) (.slice none 0 0)) (p := ⟨r, 10, none⟩) (.inl (.inl rfl)) (.slice none 0 0)) (p := ⟨r, 11, none⟩) (.inl (.inl rfl)) (.slice none 0 0)) (p := ⟨k, 0, none⟩) (.inl (.inr rfl)) (.bool false)
  generalize World.setCell (World.setCell (World.setCell (World.setCell (World.setCell (World.setCell (World.setCell (World.setCell (World.setCell (World.setCell (World.setCell (World.setCell (World.setCell (w) (⟨r, 0, none⟩ : Addr) (.int .u8 0)) (⟨r, 1, none⟩ : Addr) (.int .u32 0)) (⟨r, 2, none⟩ : Addr) (.int .u64 0)) (⟨r, 3, none⟩ : Addr) (.int .u64 0)) (⟨r, 4, none⟩ : Addr) (.int .u32 0)) (⟨r, 5, none⟩ : Addr) (.int .u16 0)) (⟨r, 6, none⟩ : Addr) (.bool false)) (⟨r, 7, none⟩ : Addr) (.bool false)) (⟨r, 8, none⟩ : Addr) (.slice none 0 0)) (⟨r, 9, none⟩ : Addr) (.slice none 0 0)) (⟨r, 10, none⟩ : Addr) (.slice none 0 0)) (⟨r, 11, none⟩ : Addr) (.slice none 0 0)) (⟨k, 0, none⟩ : Addr) (.bool false) = W9 at *
  simp [bodyPostS, results, Try.results45, b9, k9, f9, bareC]
end Go.Proofs.Ytbbphfhkedldmaa.Rec

/- Decode of just so many bytes, whatever they are. -/
namespace Go.Proofs.Ytbbphfhkedldmaa.Rec
open Go.ChangeShapes Go.WideShapes Go.ChangeAt Go.RowKit Go.IntWalk Go.Proofs.NumMath Go.Proofs.Mem Go.Proofs.CrcMath NumBytes CrcA
set_option linter.unusedVariables false
set_option linter.unusedSimpArgs false
@[reducible] def nullC : Cg := ⟨0, 0, false, false, [], []⟩
def rFull (k t p n : Int) (c : Cg) (ts : List Ac) (ds : List Dt) (f : List Int) : Option Rc := if f = [] ∧ mayS ⟨k, t, p, n, c, ts, ds⟩ = true then some ⟨k, t, p, n, c, ts, ds⟩ else none
def rTail (k t p n : Int) (d : List Int) : Option Rc :=
  if k = 2 ∨ k = 3 then (match rChg d with | none => none | some (c, e) => rFull k t p n c [] [] e)
  else if k = 8 then (match rTab d with | none => none | some (ts, ds, e) => rFull k t p n nullC ts ds e)
  else rFull k t p n nullC [] [] d
def rBody (xs : List Int) : Option Rc :=
  match rNum 1 xs with
  | none => none
  | some (k, a) => match rNum 4 a with
    | none => none
    | some (t, b) => match rNum 8 b with
      | none => none
      | some (p, c) => match rNum 8 c with
        | none => none
        | some (n, d) => rTail k t p n d
def rDec (xs : List Int) : Option Rc :=
  match rNum 2 xs with
  | none => none
  | some (_, a) => match rNum 4 a with
    | none => none
    | some (s, b) => if s = tn (sumF 0#32 b) then rBody b else none
/-- a record whose lists are rows of one's own -/
structure RcOwn (w : World) (base : Nat) (r : Rc) (a b ta da : Value) : Prop where
  a : w.ownsRow base 5 1 a r.c.xs.length (r.c.xs.map (.int .u8))
  b : w.ownsRow base 5 1 b r.c.ys.length (r.c.ys.map (.int .u8))
  t : w.ownsRow base 64 4 ta r.ts.length (r.ts.flatMap cAc)
  d : w.ownsRow base 66 2 da r.ds.length (r.ds.flatMap cDt)
theorem RcOwn.in_ {w : World} {base : Nat} {r : Rc} {a b ta da : Value} (h : RcOwn w base r a b ta da) : RcIn w w.heap.size r a b ta da := ⟨IR.of_own h.a, IR.of_own h.b, SS.of_own cAc_len h.t, SS.of_own cDt_len h.d⟩
theorem RcOwn.later {w w' : World} {base : Nat} {r : Rc} {a b ta da : Value} (h : RcOwn w base r a b ta da) (hb : Below w.heap.size w w') : RcOwn w' base r a b ta da := ⟨own_below h.a hb, own_below h.b hb, own_below h.t hb, own_below h.d hb⟩
theorem RcOwn.lower {w : World} {base base' : Nat} {r : Rc} {a b ta da : Value} (h : RcOwn w base r a b ta da) (hb : base' ≤ base) : RcOwn w base' r a b ta da := ⟨own_lower h.a hb, own_lower h.b hb, own_lower h.t hb, own_lower h.d hb⟩
theorem RcOwn.far {w : World} {base : Nat} {r : Rc} {a b ta da : Value} (h : RcOwn w base r a b ta da) {p : Addr} (hp : p.block < base) (u : Value) : RcOwn (w.setCell p u) base r a b ta da := ⟨own_set_far h.a hp u, own_set_far h.b hp u, own_set_far h.t hp u, own_set_far h.d hp u⟩
def DecPost (w : World) (xs : List Int) (e : Ending) (w' : World) : Prop :=
  match rDec xs with
  | none => e = .returned (.tuple #[.agg (bareC 0 0 0 0), .bool false]) ∧ Below w.heap.size w w'
  | some r => ∃ a b ta da, e = .returned (.tuple #[.agg (rcV r a b ta da), .bool true]) ∧ RcOwn w' w.heap.size r a b ta da ∧ Below w.heap.size w w'
theorem DecPost.no {w w' : World} {xs : List Int} (h : rDec xs = none) (hb : Below w.heap.size w w') : DecPost w xs (.returned (.tuple #[.agg (bareC 0 0 0 0), .bool false])) w' := by
  unfold DecPost; rw [h]; exact ⟨rfl, hb⟩
set_option maxRecDepth 100000 in
set_option maxHeartbeats 32000000 in
theorem decode_any (w : World) (B : Nat) (hB : B ≤ w.heap.size) (v : Value) (xs : List Int) (hv : IR w B .u8 v xs) (hx : Bytes xs) (hxl : xs.length ≤ 100000) :
    Calls Try.prog 35 #[v] w (DecPost w xs) := by
  have hmf : ∀ (fn : Fn) (first cap : Array Value) (w : World), (Instr.makeFunc fn first cap).run Try.prog w = .ok (.func fn first cap) w := fun _ _ _ _ => rfl
  obtain ⟨A0, c0, hv0, hl0, hm0⟩ := hv.form
  obtain ⟨mr, mk, mg⟩ := made3 w B hB _ _ hv
  obtain ⟨L0, hL0⟩ : ∃ L, L = xs.length := ⟨_, rfl⟩
  rw [← hL0] at hv0
  subst hv0
  have BR := Lib.hid mr
  have BK := Lib.hid mk
  have RD := Lib.hid mg
  have FR := Lib.hid ((((Fr.refl (fun x => w.heap.size ≤ x) w).alloc (.cells (bareC 0 0 0 0) 31)).alloc (.cells #[.bool false] 4)).alloc (.cells #[.slice A0 L0 c0] 80))
  have HX := Lib.hid hx
  have HXL := Lib.hid hxl
  have HBB := Lib.hid hB
  clear mr mk mg hv hL0 hl0 hm0 hx hxl hB
  go_enter_defers Try.func35, Try.ntmps35
  go_wp2_with fail
  cases e_a : rNum 2 xs with
  | none =>
    have HN := Lib.hid (show rDec xs = none by simp [rDec, rBody, e_a])
    (with_reducible refine (num_none _ _ _ _ _ RD.out 2 2 rfl (by decide) e_a).mono ?_)
    rintro e z ⟨rfl, rfl⟩
    clear e_a
    refine leaves_cons (f := 45) (args := #[.pointer (some ⟨w.heap.size, 0, none⟩), .pointer (some ⟨w.heap.size + 1, 0, none⟩)]) (by simp) (by simp [go_sem]) ?_
    obtain ⟨Cz, hcz, hcs⟩ := out_size BR.out
    refine (catch_panic w.heap.size (w.heap.size + 1) (by omega) Cz _ hcs hcz false BK.out).mono ?_
    rintro en u' w'' ⟨rfl, rfl, hb, hk, hf⟩
    have hfin := FR.out.trans' hf (fun x _ hx => by rcases hx with hx | hx <;> omega)
    have q0 : w''.cell? ⟨w.heap.size, 0, none⟩ = some (.int .u8 0) := hb.cell 0
    have q1 : w''.cell? ⟨w.heap.size, 1, none⟩ = some (.int .u32 0) := hb.cell 1
    have q2 : w''.cell? ⟨w.heap.size, 2, none⟩ = some (.int .u64 0) := hb.cell 2
    have q3 : w''.cell? ⟨w.heap.size, 3, none⟩ = some (.int .u64 0) := hb.cell 3
    have q4 : w''.cell? ⟨w.heap.size, 4, none⟩ = some (.int .u32 0) := hb.cell 4
    have q5 : w''.cell? ⟨w.heap.size, 5, none⟩ = some (.int .u16 0) := hb.cell 5
    have q6 : w''.cell? ⟨w.heap.size, 6, none⟩ = some (.bool false) := hb.cell 6
    have q7 : w''.cell? ⟨w.heap.size, 7, none⟩ = some (.bool false) := hb.cell 7
    have q8 : w''.cell? ⟨w.heap.size, 8, none⟩ = some (.slice none 0 0) := hb.cell 8
    have q9 : w''.cell? ⟨w.heap.size, 9, none⟩ = some (.slice none 0 0) := hb.cell 9
    have q10 : w''.cell? ⟨w.heap.size, 10, none⟩ = some (.slice none 0 0) := hb.cell 10
    have q11 : w''.cell? ⟨w.heap.size, 11, none⟩ = some (.slice none 0 0) := hb.cell 11
    have qk : w''.cell? ⟨w.heap.size + 1, 0, none⟩ = some (.bool false) := hk.cell 0
    have HFIN := Lib.hid hfin
    clear hb hk hf hfin hcz hcs
    refine ⟨.tuple #[.agg (bareC 0 0 0 0), .bool false], ?_, DecPost.no HN.out (HFIN.out.to_below (fun x hx => hx) (Nat.le_refl _))⟩
    simp [results, Try.results35, go_sem, q0, q1, q2, q3, q4, q5, q6, q7, q8, q9, q10, q11, qk, bareC]
  | some p =>
    obtain ⟨len_, ya⟩ := p
    have b0_ := rNum_bytes e_a HX.out
    have HBa := Lib.hid b0_
    have bd_a := rNum_bd (by decide) e_a HX.out
    rw [show (2 : Int) ^ (8 * 2) = 65536 from rfl] at bd_a
    have LLa := Lib.hid (show ya.length ≤ xs.length by rw [(rNum_some e_a).2.2]; simp)
    (with_reducible refine (num_some _ _ _ _ _ _ _ RD.out HX.out 2 2 rfl e_a).mono ?_)
    rintro e x_a ⟨rfl, ⟨v_a, rd⟩, fr⟩
    have BR' := Lib.hid (BR.out.fr fr (by omega))
    have BK' := Lib.hid (BK.out.fr fr (by omega))
    have FR' := Lib.hid (FR.out.trans' fr (fun x _ hx => by rw [hx]; omega))
    clear BR BK FR
    have BR := BR'
    have BK := BK'
    have FR := FR'
    clear BR' BK' FR'
    have RD' := Lib.hid rd
    clear RD
    have RD := RD'
    clear RD' rd fr b0_
    have He_a := Lib.hid e_a
    clear e_a
    go_wp2_with fail
    cases e_b : rNum 4 ya with
    | none =>
      have HN := Lib.hid (show rDec xs = none by simp [rDec, rBody, He_a.out, e_b])
      (with_reducible refine (num_none _ _ _ _ _ RD.out 4 4 rfl (by decide) e_b).mono ?_)
      rintro e z ⟨rfl, rfl⟩
      clear e_b
      refine leaves_cons (f := 45) (args := #[.pointer (some ⟨w.heap.size, 0, none⟩), .pointer (some ⟨w.heap.size + 1, 0, none⟩)]) (by simp) (by simp [go_sem]) ?_
      obtain ⟨Cz, hcz, hcs⟩ := out_size BR.out
      refine (catch_panic w.heap.size (w.heap.size + 1) (by omega) Cz _ hcs hcz false BK.out).mono ?_
      rintro en u' w'' ⟨rfl, rfl, hb, hk, hf⟩
      have hfin := FR.out.trans' hf (fun x _ hx => by rcases hx with hx | hx <;> omega)
      have q0 : w''.cell? ⟨w.heap.size, 0, none⟩ = some (.int .u8 0) := hb.cell 0
      have q1 : w''.cell? ⟨w.heap.size, 1, none⟩ = some (.int .u32 0) := hb.cell 1
      have q2 : w''.cell? ⟨w.heap.size, 2, none⟩ = some (.int .u64 0) := hb.cell 2
      have q3 : w''.cell? ⟨w.heap.size, 3, none⟩ = some (.int .u64 0) := hb.cell 3
      have q4 : w''.cell? ⟨w.heap.size, 4, none⟩ = some (.int .u32 0) := hb.cell 4
      have q5 : w''.cell? ⟨w.heap.size, 5, none⟩ = some (.int .u16 0) := hb.cell 5
      have q6 : w''.cell? ⟨w.heap.size, 6, none⟩ = some (.bool false) := hb.cell 6
      have q7 : w''.cell? ⟨w.heap.size, 7, none⟩ = some (.bool false) := hb.cell 7
      have q8 : w''.cell? ⟨w.heap.size, 8, none⟩ = some (.slice none 0 0) := hb.cell 8
      have q9 : w''.cell? ⟨w.heap.size, 9, none⟩ = some (.slice none 0 0) := hb.cell 9
      have q10 : w''.cell? ⟨w.heap.size, 10, none⟩ = some (.slice none 0 0) := hb.cell 10
      have q11 : w''.cell? ⟨w.heap.size, 11, none⟩ = some (.slice none 0 0) := hb.cell 11
      have qk : w''.cell? ⟨w.heap.size + 1, 0, none⟩ = some (.bool false) := hk.cell 0
      have HFIN := Lib.hid hfin
      clear hb hk hf hfin hcz hcs
      refine ⟨.tuple #[.agg (bareC 0 0 0 0), .bool false], ?_, DecPost.no HN.out (HFIN.out.to_below (fun x hx => hx) (Nat.le_refl _))⟩
      simp [results, Try.results35, go_sem, q0, q1, q2, q3, q4, q5, q6, q7, q8, q9, q10, q11, qk, bareC]
    | some p =>
      obtain ⟨s, yb⟩ := p
      have b0_ := rNum_bytes e_b HBa.out
      have HBb := Lib.hid b0_
      have bd_b := rNum_bd (by decide) e_b HBa.out
      rw [show (2 : Int) ^ (8 * 4) = 4294967296 from rfl] at bd_b
      have LLb := Lib.hid (show yb.length ≤ ya.length by rw [(rNum_some e_b).2.2]; simp)
      (with_reducible refine (num_some _ _ _ _ _ _ _ RD.out HBa.out 4 4 rfl e_b).mono ?_)
      rintro e x_b ⟨rfl, ⟨v_b, rd⟩, fr⟩
      have BR' := Lib.hid (BR.out.fr fr (by omega))
      have BK' := Lib.hid (BK.out.fr fr (by omega))
      have FR' := Lib.hid (FR.out.trans' fr (fun x _ hx => by rw [hx]; omega))
      clear BR BK FR
      have BR := BR'
      have BK := BK'
      have FR := FR'
      clear BR' BK' FR'
      have RD' := Lib.hid rd
      clear RD
      have RD := RD'
      clear RD' rd fr b0_
      have He_b := Lib.hid e_b
      clear e_b
      obtain ⟨A2, c2, e2, hl2, hm2⟩ := RD.out.ir.form
      obtain ⟨Lb, hLb⟩ : ∃ n, n = yb.length := ⟨_, rfl⟩
      rw [← hLb] at e2 hl2
      subst e2
      have HLb := Lib.hid hLb
      clear hLb
      unfold maxLen at hm2
      obtain ⟨C, hC⟩ : ∃ C, C = tn (sumF 0#32 yb) := ⟨_, rfl⟩
      have hCb := tn_bd (sumF 0#32 yb)
      rw [← hC] at hCb
      have wC := u64_wrap (x := C) (by omega) (by omega)
      have SU := Lib.hid (sum_one _ yb x_b (RD.out.ir.more (Nat.le_trans RD.out.le (Nat.le_of_lt RD.out.box.lt))) HBb.out)
      rw [← hC] at SU
      have HC := Lib.hid hC
      clear hC
      have kk := RD.out.box.cell
      obtain ⟨ds_, hds⟩ : ∃ q, q = !decide (s = C) := ⟨_, rfl⟩
      have d_s : (s != C) = ds_ := by rw [hds, bne_dec]
      have HDS := Lib.hid hds
      clear hds
      go_wp2_with fail
      (with_reducible refine SU.out.mono ?_)
      rintro e z ⟨rfl, rfl⟩
      have RD' := Lib.hid (RD.out.alloc (.cells #[.slice A2 Lb c2] 25))
      have BR' := Lib.hid (BR.out.alloc (.cells #[.slice A2 Lb c2] 25))
      have BK' := Lib.hid (BK.out.alloc (.cells #[.slice A2 Lb c2] 25))
      have FR' := Lib.hid (FR.out.alloc (.cells #[.slice A2 Lb c2] 25))
      have kk2 := RD'.out.box.cell
      clear RD BR BK FR
      have RD := RD'
      have BR := BR'
      have BK := BK'
      have FR := FR'
      clear RD' BR' BK' FR'
      cases ds_
      case true =>
        have HN := Lib.hid (show rDec xs = none by have := HDS.out; simp at this; rw [HC.out] at this; simp [rDec, He_a.out, He_b.out, this])
        go_wp2_with (go_at_call 47; (with_reducible refine (give_up _ _).mono ?_); rintro e z ⟨rfl, rfl⟩)
        refine leaves_cons (f := 45) (args := #[.pointer (some ⟨w.heap.size, 0, none⟩), .pointer (some ⟨w.heap.size + 1, 0, none⟩)]) (by simp) (by simp [go_sem]) ?_
        obtain ⟨Cz, hcz, hcs⟩ := out_size BR.out
        refine (catch_panic w.heap.size (w.heap.size + 1) (by omega) Cz _ hcs hcz false BK.out).mono ?_
        rintro en u' w'' ⟨rfl, rfl, hb, hk, hf⟩
        have hfin := FR.out.trans' hf (fun x _ hx => by rcases hx with hx | hx <;> omega)
        have q0 : w''.cell? ⟨w.heap.size, 0, none⟩ = some (.int .u8 0) := hb.cell 0
        have q1 : w''.cell? ⟨w.heap.size, 1, none⟩ = some (.int .u32 0) := hb.cell 1
        have q2 : w''.cell? ⟨w.heap.size, 2, none⟩ = some (.int .u64 0) := hb.cell 2
        have q3 : w''.cell? ⟨w.heap.size, 3, none⟩ = some (.int .u64 0) := hb.cell 3
        have q4 : w''.cell? ⟨w.heap.size, 4, none⟩ = some (.int .u32 0) := hb.cell 4
        have q5 : w''.cell? ⟨w.heap.size, 5, none⟩ = some (.int .u16 0) := hb.cell 5
        have q6 : w''.cell? ⟨w.heap.size, 6, none⟩ = some (.bool false) := hb.cell 6
        have q7 : w''.cell? ⟨w.heap.size, 7, none⟩ = some (.bool false) := hb.cell 7
        have q8 : w''.cell? ⟨w.heap.size, 8, none⟩ = some (.slice none 0 0) := hb.cell 8
        have q9 : w''.cell? ⟨w.heap.size, 9, none⟩ = some (.slice none 0 0) := hb.cell 9
        have q10 : w''.cell? ⟨w.heap.size, 10, none⟩ = some (.slice none 0 0) := hb.cell 10
        have q11 : w''.cell? ⟨w.heap.size, 11, none⟩ = some (.slice none 0 0) := hb.cell 11
        have qk : w''.cell? ⟨w.heap.size + 1, 0, none⟩ = some (.bool false) := hk.cell 0
        have HFIN := Lib.hid hfin
        clear hb hk hf hfin hcz hcs
        refine ⟨.tuple #[.agg (bareC 0 0 0 0), .bool false], ?_, DecPost.no HN.out (HFIN.out.to_below (fun x hx => hx) (Nat.le_refl _))⟩
        simp [results, Try.results35, go_sem, q0, q1, q2, q3, q4, q5, q6, q7, q8, q9, q10, q11, qk, bareC]
      case false =>
        have HSC := Lib.hid (show s = tn (sumF 0#32 yb) by have := HDS.out; simp at this; rw [this]; exact HC.out)
        go_wp2_with fail
        clear kk kk2 d_s
        cases e_c : rNum 1 yb with
        | none =>
          have HN := Lib.hid (show rDec xs = none by simp [rDec, rBody, He_a.out, He_b.out, HSC.out, e_c])
          (with_reducible refine (num_none _ _ _ _ _ RD.out 1 1 rfl (by decide) e_c).mono ?_)
          rintro e z ⟨rfl, rfl⟩
          clear e_c
          refine leaves_cons (f := 45) (args := #[.pointer (some ⟨w.heap.size, 0, none⟩), .pointer (some ⟨w.heap.size + 1, 0, none⟩)]) (by simp) (by simp [go_sem]) ?_
          obtain ⟨Cz, hcz, hcs⟩ := out_size BR.out
          refine (catch_panic w.heap.size (w.heap.size + 1) (by omega) Cz _ hcs hcz false BK.out).mono ?_
          rintro en u' w'' ⟨rfl, rfl, hb, hk, hf⟩
          have hfin := FR.out.trans' hf (fun x _ hx => by rcases hx with hx | hx <;> omega)
          have q0 : w''.cell? ⟨w.heap.size, 0, none⟩ = some (.int .u8 0) := hb.cell 0
          have q1 : w''.cell? ⟨w.heap.size, 1, none⟩ = some (.int .u32 0) := hb.cell 1
          have q2 : w''.cell? ⟨w.heap.size, 2, none⟩ = some (.int .u64 0) := hb.cell 2
          have q3 : w''.cell? ⟨w.heap.size, 3, none⟩ = some (.int .u64 0) := hb.cell 3
          have q4 : w''.cell? ⟨w.heap.size, 4, none⟩ = some (.int .u32 0) := hb.cell 4
          have q5 : w''.cell? ⟨w.heap.size, 5, none⟩ = some (.int .u16 0) := hb.cell 5
          have q6 : w''.cell? ⟨w.heap.size, 6, none⟩ = some (.bool false) := hb.cell 6
          have q7 : w''.cell? ⟨w.heap.size, 7, none⟩ = some (.bool false) := hb.cell 7
          have q8 : w''.cell? ⟨w.heap.size, 8, none⟩ = some (.slice none 0 0) := hb.cell 8
          have q9 : w''.cell? ⟨w.heap.size, 9, none⟩ = some (.slice none 0 0) := hb.cell 9
          have q10 : w''.cell? ⟨w.heap.size, 10, none⟩ = some (.slice none 0 0) := hb.cell 10
          have q11 : w''.cell? ⟨w.heap.size, 11, none⟩ = some (.slice none 0 0) := hb.cell 11
          have qk : w''.cell? ⟨w.heap.size + 1, 0, none⟩ = some (.bool false) := hk.cell 0
          have HFIN := Lib.hid hfin
          clear hb hk hf hfin hcz hcs
          refine ⟨.tuple #[.agg (bareC 0 0 0 0), .bool false], ?_, DecPost.no HN.out (HFIN.out.to_below (fun x hx => hx) (Nat.le_refl _))⟩
          simp [results, Try.results35, go_sem, q0, q1, q2, q3, q4, q5, q6, q7, q8, q9, q10, q11, qk, bareC]
        | some p =>
          obtain ⟨k, yc⟩ := p
          have b0_ := rNum_bytes e_c HBb.out
          have HBc := Lib.hid b0_
          have bd_c := rNum_bd (by decide) e_c HBb.out
          rw [show (2 : Int) ^ (8 * 1) = 256 from rfl] at bd_c
          have LLc := Lib.hid (show yc.length ≤ yb.length by rw [(rNum_some e_c).2.2]; simp)
          (with_reducible refine (num_some _ _ _ _ _ _ _ RD.out HBb.out 1 1 rfl e_c).mono ?_)
          rintro e x_c ⟨rfl, ⟨v_c, rd⟩, fr⟩
          have BR' := Lib.hid (BR.out.fr fr (by omega))
          have BK' := Lib.hid (BK.out.fr fr (by omega))
          have FR' := Lib.hid (FR.out.trans' fr (fun x _ hx => by rw [hx]; omega))
          clear BR BK FR
          have BR := BR'
          have BK := BK'
          have FR := FR'
          clear BR' BK' FR'
          have RD' := Lib.hid rd
          clear RD
          have RD := RD'
          clear RD' rd fr b0_
          have He_c := Lib.hid e_c
          clear e_c
          have wr_c := u8_wrap (x := k) (by omega) (by omega)
          have kR := BR.out.cell
          have fR := BR.out.frozen
          have b_ := BR.out.set_ 0 (.int .u8 k)
          simp only [bareC, List.setIfInBounds_toArray, List.set_cons_zero, List.set_cons_succ] at b_
          have k_ := BK.out.far (p := ⟨w.heap.size, 0, none⟩) (Nat.ne_of_gt (Nat.lt_succ_self _)) (.int .u8 k)
          have r_ := RD.out.set (p := ⟨w.heap.size, 0, none⟩) (Nat.ne_of_gt (by show w.heap.size < w.heap.size + 1 + 1; omega)) HBB.out (.int .u8 k)
          have f_ := FR.out.setCell (p := ⟨w.heap.size, 0, none⟩) (.inl (Nat.le_refl _)) (.int .u8 k)
          go_wp2_with fail
          generalize World.setCell x_c (⟨w.heap.size, 0, none⟩ : Addr) (.int .u8 k) = w_c at *
          clear BR BK RD FR kR fR
          have BR := Lib.hid b_
          have BK := Lib.hid k_
          have RD := Lib.hid r_
          have FR := Lib.hid f_
          clear b_ k_ r_ f_
          cases e_d : rNum 4 yc with
          | none =>
            have HN := Lib.hid (show rDec xs = none by simp [rDec, rBody, He_a.out, He_b.out, HSC.out, He_c.out, e_d])
            (with_reducible refine (num_none _ _ _ _ _ RD.out 4 4 rfl (by decide) e_d).mono ?_)
            rintro e z ⟨rfl, rfl⟩
            clear e_d
            refine leaves_cons (f := 45) (args := #[.pointer (some ⟨w.heap.size, 0, none⟩), .pointer (some ⟨w.heap.size + 1, 0, none⟩)]) (by simp) (by simp [go_sem]) ?_
            obtain ⟨Cz, hcz, hcs⟩ := out_size BR.out
            refine (catch_panic w.heap.size (w.heap.size + 1) (by omega) Cz _ hcs hcz false BK.out).mono ?_
            rintro en u' w'' ⟨rfl, rfl, hb, hk, hf⟩
            have hfin := FR.out.trans' hf (fun x _ hx => by rcases hx with hx | hx <;> omega)
            have q0 : w''.cell? ⟨w.heap.size, 0, none⟩ = some (.int .u8 0) := hb.cell 0
            have q1 : w''.cell? ⟨w.heap.size, 1, none⟩ = some (.int .u32 0) := hb.cell 1
            have q2 : w''.cell? ⟨w.heap.size, 2, none⟩ = some (.int .u64 0) := hb.cell 2
            have q3 : w''.cell? ⟨w.heap.size, 3, none⟩ = some (.int .u64 0) := hb.cell 3
            have q4 : w''.cell? ⟨w.heap.size, 4, none⟩ = some (.int .u32 0) := hb.cell 4
            have q5 : w''.cell? ⟨w.heap.size, 5, none⟩ = some (.int .u16 0) := hb.cell 5
            have q6 : w''.cell? ⟨w.heap.size, 6, none⟩ = some (.bool false) := hb.cell 6
            have q7 : w''.cell? ⟨w.heap.size, 7, none⟩ = some (.bool false) := hb.cell 7
            have q8 : w''.cell? ⟨w.heap.size, 8, none⟩ = some (.slice none 0 0) := hb.cell 8
            have q9 : w''.cell? ⟨w.heap.size, 9, none⟩ = some (.slice none 0 0) := hb.cell 9
            have q10 : w''.cell? ⟨w.heap.size, 10, none⟩ = some (.slice none 0 0) := hb.cell 10
            have q11 : w''.cell? ⟨w.heap.size, 11, none⟩ = some (.slice none 0 0) := hb.cell 11
            have qk : w''.cell? ⟨w.heap.size + 1, 0, none⟩ = some (.bool false) := hk.cell 0
            have HFIN := Lib.hid hfin
            clear hb hk hf hfin hcz hcs
            refine ⟨.tuple #[.agg (bareC 0 0 0 0), .bool false], ?_, DecPost.no HN.out (HFIN.out.to_below (fun x hx => hx) (Nat.le_refl _))⟩
            simp [results, Try.results35, go_sem, q0, q1, q2, q3, q4, q5, q6, q7, q8, q9, q10, q11, qk, bareC]
          | some p =>
            obtain ⟨t, yd⟩ := p
            have b0_ := rNum_bytes e_d HBc.out
            have HBd := Lib.hid b0_
            have bd_d := rNum_bd (by decide) e_d HBc.out
            rw [show (2 : Int) ^ (8 * 4) = 4294967296 from rfl] at bd_d
            have LLd := Lib.hid (show yd.length ≤ yc.length by rw [(rNum_some e_d).2.2]; simp)
            (with_reducible refine (num_some _ _ _ _ _ _ _ RD.out HBc.out 4 4 rfl e_d).mono ?_)
            rintro e x_d ⟨rfl, ⟨v_d, rd⟩, fr⟩
            have BR' := Lib.hid (BR.out.fr fr (by omega))
            have BK' := Lib.hid (BK.out.fr fr (by omega))
            have FR' := Lib.hid (FR.out.trans' fr (fun x _ hx => by rw [hx]; omega))
            clear BR BK FR
            have BR := BR'
            have BK := BK'
            have FR := FR'
            clear BR' BK' FR'
            have RD' := Lib.hid rd
            clear RD
            have RD := RD'
            clear RD' rd fr b0_
            have He_d := Lib.hid e_d
            clear e_d
            have wr_d := u32_wrap (x := t) (by omega) (by omega)
            have kR := BR.out.cell
            have fR := BR.out.frozen
            have b_ := BR.out.set_ 1 (.int .u32 t)
            simp only [bareC, List.setIfInBounds_toArray, List.set_cons_zero, List.set_cons_succ] at b_
            have k_ := BK.out.far (p := ⟨w.heap.size, 1, none⟩) (Nat.ne_of_gt (Nat.lt_succ_self _)) (.int .u32 t)
            have r_ := RD.out.set (p := ⟨w.heap.size, 1, none⟩) (Nat.ne_of_gt (by show w.heap.size < w.heap.size + 1 + 1; omega)) HBB.out (.int .u32 t)
            have f_ := FR.out.setCell (p := ⟨w.heap.size, 1, none⟩) (.inl (Nat.le_refl _)) (.int .u32 t)
            go_wp2_with fail
            generalize World.setCell x_d (⟨w.heap.size, 1, none⟩ : Addr) (.int .u32 t) = w_d at *
            clear BR BK RD FR kR fR
            have BR := Lib.hid b_
            have BK := Lib.hid k_
            have RD := Lib.hid r_
            have FR := Lib.hid f_
            clear b_ k_ r_ f_
            cases e_e : rNum 8 yd with
            | none =>
              have HN := Lib.hid (show rDec xs = none by simp [rDec, rBody, He_a.out, He_b.out, HSC.out, He_c.out, He_d.out, e_e])
              (with_reducible refine (num_none _ _ _ _ _ RD.out 8 8 rfl (by decide) e_e).mono ?_)
              rintro e z ⟨rfl, rfl⟩
              clear e_e
              refine leaves_cons (f := 45) (args := #[.pointer (some ⟨w.heap.size, 0, none⟩), .pointer (some ⟨w.heap.size + 1, 0, none⟩)]) (by simp) (by simp [go_sem]) ?_
              obtain ⟨Cz, hcz, hcs⟩ := out_size BR.out
              refine (catch_panic w.heap.size (w.heap.size + 1) (by omega) Cz _ hcs hcz false BK.out).mono ?_
              rintro en u' w'' ⟨rfl, rfl, hb, hk, hf⟩
              have hfin := FR.out.trans' hf (fun x _ hx => by rcases hx with hx | hx <;> omega)
              have q0 : w''.cell? ⟨w.heap.size, 0, none⟩ = some (.int .u8 0) := hb.cell 0
              have q1 : w''.cell? ⟨w.heap.size, 1, none⟩ = some (.int .u32 0) := hb.cell 1
              have q2 : w''.cell? ⟨w.heap.size, 2, none⟩ = some (.int .u64 0) := hb.cell 2
              have q3 : w''.cell? ⟨w.heap.size, 3, none⟩ = some (.int .u64 0) := hb.cell 3
              have q4 : w''.cell? ⟨w.heap.size, 4, none⟩ = some (.int .u32 0) := hb.cell 4
              have q5 : w''.cell? ⟨w.heap.size, 5, none⟩ = some (.int .u16 0) := hb.cell 5
              have q6 : w''.cell? ⟨w.heap.size, 6, none⟩ = some (.bool false) := hb.cell 6
              have q7 : w''.cell? ⟨w.heap.size, 7, none⟩ = some (.bool false) := hb.cell 7
              have q8 : w''.cell? ⟨w.heap.size, 8, none⟩ = some (.slice none 0 0) := hb.cell 8
              have q9 : w''.cell? ⟨w.heap.size, 9, none⟩ = some (.slice none 0 0) := hb.cell 9
              have q10 : w''.cell? ⟨w.heap.size, 10, none⟩ = some (.slice none 0 0) := hb.cell 10
              have q11 : w''.cell? ⟨w.heap.size, 11, none⟩ = some (.slice none 0 0) := hb.cell 11
              have qk : w''.cell? ⟨w.heap.size + 1, 0, none⟩ = some (.bool false) := hk.cell 0
              have HFIN := Lib.hid hfin
              clear hb hk hf hfin hcz hcs
              refine ⟨.tuple #[.agg (bareC 0 0 0 0), .bool false], ?_, DecPost.no HN.out (HFIN.out.to_below (fun x hx => hx) (Nat.le_refl _))⟩
              simp [results, Try.results35, go_sem, q0, q1, q2, q3, q4, q5, q6, q7, q8, q9, q10, q11, qk, bareC]
            | some p =>
              obtain ⟨p, ye⟩ := p
              have b0_ := rNum_bytes e_e HBd.out
              have HBe := Lib.hid b0_
              have bd_e := rNum_bd (by decide) e_e HBd.out
              rw [show (2 : Int) ^ (8 * 8) = 18446744073709551616 from rfl] at bd_e
              have LLe := Lib.hid (show ye.length ≤ yd.length by rw [(rNum_some e_e).2.2]; simp)
              (with_reducible refine (num_some _ _ _ _ _ _ _ RD.out HBd.out 8 8 rfl e_e).mono ?_)
              rintro e x_e ⟨rfl, ⟨v_e, rd⟩, fr⟩
              have BR' := Lib.hid (BR.out.fr fr (by omega))
              have BK' := Lib.hid (BK.out.fr fr (by omega))
              have FR' := Lib.hid (FR.out.trans' fr (fun x _ hx => by rw [hx]; omega))
              clear BR BK FR
              have BR := BR'
              have BK := BK'
              have FR := FR'
              clear BR' BK' FR'
              have RD' := Lib.hid rd
              clear RD
              have RD := RD'
              clear RD' rd fr b0_
              have He_e := Lib.hid e_e
              clear e_e
              have kR := BR.out.cell
              have fR := BR.out.frozen
              have b_ := BR.out.set_ 2 (.int .u64 p)
              simp only [bareC, List.setIfInBounds_toArray, List.set_cons_zero, List.set_cons_succ] at b_
              have k_ := BK.out.far (p := ⟨w.heap.size, 2, none⟩) (Nat.ne_of_gt (Nat.lt_succ_self _)) (.int .u64 p)
              have r_ := RD.out.set (p := ⟨w.heap.size, 2, none⟩) (Nat.ne_of_gt (by show w.heap.size < w.heap.size + 1 + 1; omega)) HBB.out (.int .u64 p)
              have f_ := FR.out.setCell (p := ⟨w.heap.size, 2, none⟩) (.inl (Nat.le_refl _)) (.int .u64 p)
              go_wp2_with fail
              generalize World.setCell x_e (⟨w.heap.size, 2, none⟩ : Addr) (.int .u64 p) = w_e at *
              clear BR BK RD FR kR fR
              have BR := Lib.hid b_
              have BK := Lib.hid k_
              have RD := Lib.hid r_
              have FR := Lib.hid f_
              clear b_ k_ r_ f_
              cases e_f : rNum 8 ye with
              | none =>
                have HN := Lib.hid (show rDec xs = none by simp [rDec, rBody, He_a.out, He_b.out, HSC.out, He_c.out, He_d.out, He_e.out, e_f])
                (with_reducible refine (num_none _ _ _ _ _ RD.out 8 8 rfl (by decide) e_f).mono ?_)
                rintro e z ⟨rfl, rfl⟩
                clear e_f
                refine leaves_cons (f := 45) (args := #[.pointer (some ⟨w.heap.size, 0, none⟩), .pointer (some ⟨w.heap.size + 1, 0, none⟩)]) (by simp) (by simp [go_sem]) ?_
                obtain ⟨Cz, hcz, hcs⟩ := out_size BR.out
                refine (catch_panic w.heap.size (w.heap.size + 1) (by omega) Cz _ hcs hcz false BK.out).mono ?_
                rintro en u' w'' ⟨rfl, rfl, hb, hk, hf⟩
                have hfin := FR.out.trans' hf (fun x _ hx => by rcases hx with hx | hx <;> omega)
                have q0 : w''.cell? ⟨w.heap.size, 0, none⟩ = some (.int .u8 0) := hb.cell 0
                have q1 : w''.cell? ⟨w.heap.size, 1, none⟩ = some (.int .u32 0) := hb.cell 1
                have q2 : w''.cell? ⟨w.heap.size, 2, none⟩ = some (.int .u64 0) := hb.cell 2
                have q3 : w''.cell? ⟨w.heap.size, 3, none⟩ = some (.int .u64 0) := hb.cell 3
                have q4 : w''.cell? ⟨w.heap.size, 4, none⟩ = some (.int .u32 0) := hb.cell 4
                have q5 : w''.cell? ⟨w.heap.size, 5, none⟩ = some (.int .u16 0) := hb.cell 5
                have q6 : w''.cell? ⟨w.heap.size, 6, none⟩ = some (.bool false) := hb.cell 6
                have q7 : w''.cell? ⟨w.heap.size, 7, none⟩ = some (.bool false) := hb.cell 7
                have q8 : w''.cell? ⟨w.heap.size, 8, none⟩ = some (.slice none 0 0) := hb.cell 8
                have q9 : w''.cell? ⟨w.heap.size, 9, none⟩ = some (.slice none 0 0) := hb.cell 9
                have q10 : w''.cell? ⟨w.heap.size, 10, none⟩ = some (.slice none 0 0) := hb.cell 10
                have q11 : w''.cell? ⟨w.heap.size, 11, none⟩ = some (.slice none 0 0) := hb.cell 11
                have qk : w''.cell? ⟨w.heap.size + 1, 0, none⟩ = some (.bool false) := hk.cell 0
                have HFIN := Lib.hid hfin
                clear hb hk hf hfin hcz hcs
                refine ⟨.tuple #[.agg (bareC 0 0 0 0), .bool false], ?_, DecPost.no HN.out (HFIN.out.to_below (fun x hx => hx) (Nat.le_refl _))⟩
                simp [results, Try.results35, go_sem, q0, q1, q2, q3, q4, q5, q6, q7, q8, q9, q10, q11, qk, bareC]
              | some p =>
                obtain ⟨n, yf⟩ := p
                have b0_ := rNum_bytes e_f HBe.out
                have HBf := Lib.hid b0_
                have bd_f := rNum_bd (by decide) e_f HBe.out
                rw [show (2 : Int) ^ (8 * 8) = 18446744073709551616 from rfl] at bd_f
                have LLf := Lib.hid (show yf.length ≤ ye.length by rw [(rNum_some e_f).2.2]; simp)
                (with_reducible refine (num_some _ _ _ _ _ _ _ RD.out HBe.out 8 8 rfl e_f).mono ?_)
                rintro e x_f ⟨rfl, ⟨v_f, rd⟩, fr⟩
                have BR' := Lib.hid (BR.out.fr fr (by omega))
                have BK' := Lib.hid (BK.out.fr fr (by omega))
                have FR' := Lib.hid (FR.out.trans' fr (fun x _ hx => by rw [hx]; omega))
                clear BR BK FR
                have BR := BR'
                have BK := BK'
                have FR := FR'
                clear BR' BK' FR'
                have RD' := Lib.hid rd
                clear RD
                have RD := RD'
                clear RD' rd fr b0_
                have He_f := Lib.hid e_f
                clear e_f
                have kR := BR.out.cell
                have fR := BR.out.frozen
                have b_ := BR.out.set_ 3 (.int .u64 n)
                simp only [bareC, List.setIfInBounds_toArray, List.set_cons_zero, List.set_cons_succ] at b_
                have k_ := BK.out.far (p := ⟨w.heap.size, 3, none⟩) (Nat.ne_of_gt (Nat.lt_succ_self _)) (.int .u64 n)
                have r_ := RD.out.set (p := ⟨w.heap.size, 3, none⟩) (Nat.ne_of_gt (by show w.heap.size < w.heap.size + 1 + 1; omega)) HBB.out (.int .u64 n)
                have f_ := FR.out.setCell (p := ⟨w.heap.size, 3, none⟩) (.inl (Nat.le_refl _)) (.int .u64 n)
                go_wp2_with fail
                generalize World.setCell x_f (⟨w.heap.size, 3, none⟩ : Addr) (.int .u64 n) = w_f at *
                clear BR BK RD FR kR fR
                have BR := Lib.hid b_
                have BK := Lib.hid k_
                have RD := Lib.hid r_
                have FR := Lib.hid f_
                clear b_ k_ r_ f_
                have HGA := Lib.hid (show w.heap.size < w_f.heap.size ∧ w.heap.size + 1 < w_f.heap.size by have := RD.out.box.lt; omega)
                by_cases hk2 : k = 2 ∨ k = 3
                · have d2 : (decide (k = 2) || decide (k = 3)) = true := by simpa using hk2
                  have d8 : (k == 8) = false := by rw [beq_dec]; simp; omega
                  have HK2 := Lib.hid hk2
                  have CH := Lib.hid (fun W => changes_any k W)
                  rw [d2] at CH
                  clear d2 hk2
                  (with_reducible refine (CH.out _).mono ?_)
                  rintro e z ⟨rfl, rfl⟩
                  go_wp2_with fail
                  (with_reducible refine (rchange_any _ _ _ _ _ RD.out HBf.out).mono ?_)
                  rintro e z hz
                  unfold ChgPost at hz
                  cases eC : rChg yf with
                  | none =>
                    rw [eC] at hz
                    obtain ⟨rfl, fr⟩ := hz
                    have HN := Lib.hid (show rDec xs = none by simp [rDec, rBody, rTail, eC, HK2.out, He_a.out, He_b.out, HSC.out, He_c.out, He_d.out, He_e.out, He_f.out])
                    have BR' := Lib.hid (BR.out.fr fr (by omega))
                    have BK' := Lib.hid (BK.out.fr fr (by omega))
                    have FR' := Lib.hid (FR.out.trans' fr (fun x _ hx => by rw [hx]; omega))
                    clear BR BK FR
                    have BR := BR'
                    have BK := BK'
                    have FR := FR'
                    clear BR' BK' FR'
                    clear fr eC
                    refine leaves_cons (f := 45) (args := #[.pointer (some ⟨w.heap.size, 0, none⟩), .pointer (some ⟨w.heap.size + 1, 0, none⟩)]) (by simp) (by simp [go_sem]) ?_
                    obtain ⟨Cz, hcz, hcs⟩ := out_size BR.out
                    refine (catch_panic w.heap.size (w.heap.size + 1) (by omega) Cz _ hcs hcz false BK.out).mono ?_
                    rintro en u' w'' ⟨rfl, rfl, hb, hk, hf⟩
                    have hfin := FR.out.trans' hf (fun x _ hx => by rcases hx with hx | hx <;> omega)
                    have q0 : w''.cell? ⟨w.heap.size, 0, none⟩ = some (.int .u8 0) := hb.cell 0
                    have q1 : w''.cell? ⟨w.heap.size, 1, none⟩ = some (.int .u32 0) := hb.cell 1
                    have q2 : w''.cell? ⟨w.heap.size, 2, none⟩ = some (.int .u64 0) := hb.cell 2
                    have q3 : w''.cell? ⟨w.heap.size, 3, none⟩ = some (.int .u64 0) := hb.cell 3
                    have q4 : w''.cell? ⟨w.heap.size, 4, none⟩ = some (.int .u32 0) := hb.cell 4
                    have q5 : w''.cell? ⟨w.heap.size, 5, none⟩ = some (.int .u16 0) := hb.cell 5
                    have q6 : w''.cell? ⟨w.heap.size, 6, none⟩ = some (.bool false) := hb.cell 6
                    have q7 : w''.cell? ⟨w.heap.size, 7, none⟩ = some (.bool false) := hb.cell 7
                    have q8 : w''.cell? ⟨w.heap.size, 8, none⟩ = some (.slice none 0 0) := hb.cell 8
                    have q9 : w''.cell? ⟨w.heap.size, 9, none⟩ = some (.slice none 0 0) := hb.cell 9
                    have q10 : w''.cell? ⟨w.heap.size, 10, none⟩ = some (.slice none 0 0) := hb.cell 10
                    have q11 : w''.cell? ⟨w.heap.size, 11, none⟩ = some (.slice none 0 0) := hb.cell 11
                    have qk : w''.cell? ⟨w.heap.size + 1, 0, none⟩ = some (.bool false) := hk.cell 0
                    have HFIN := Lib.hid hfin
                    clear hb hk hf hfin hcz hcs
                    refine ⟨.tuple #[.agg (bareC 0 0 0 0), .bool false], ?_, DecPost.no HN.out (HFIN.out.to_below (fun x hx => hx) (Nat.le_refl _))⟩
                    simp [results, Try.results35, go_sem, q0, q1, q2, q3, q4, q5, q6, q7, q8, q9, q10, q11, qk, bareC]
                  | some p =>
                    obtain ⟨c, yg⟩ := p
                    rw [eC] at hz
                    obtain ⟨ca, cb, rfl, oa, ob, ⟨vg, rd⟩, fr⟩ := hz
                    have BR' := Lib.hid (BR.out.fr fr (by omega))
                    have BK' := Lib.hid (BK.out.fr fr (by omega))
                    have FR' := Lib.hid (FR.out.trans' fr (fun x _ hx => by rw [hx]; omega))
                    clear BR BK FR
                    have BR := BR'
                    have BK := BK'
                    have FR := FR'
                    clear BR' BK' FR'
                    clear RD
                    have RD := Lib.hid rd
                    clear rd fr
                    obtain ⟨Aa, ka, ea, _, _⟩ := (IR.of_own oa).form
                    obtain ⟨Ab, kb, eb, _, _⟩ := (IR.of_own ob).form
                    subst ea eb
                    have OA := Lib.hid oa
                    have OB := Lib.hid ob
                    have HEC := Lib.hid eC
                    clear oa ob eC
                    have kR := BR.out.cell
                    have fR := BR.out.frozen
                    go_upto_region 13 with (fail)
                    have b_ := Box.set_ (Box.set_ (Box.set_ (Box.set_ (Box.set_ (Box.set_ (BR.out) 4 (.int .u32 c.pg)) 5 (.int .u16 c.sl)) 6 (.bool c.had)) 7 (.bool c.has)) 8 (.slice Aa c.xs.length ka)) 9 (.slice Ab c.ys.length kb)
                    simp only [bareC, List.setIfInBounds_toArray, List.set_cons_zero, List.set_cons_succ] at b_
                    have k_ := Box.far (p := ⟨w.heap.size, 9, none⟩) (Box.far (p := ⟨w.heap.size, 8, none⟩) (Box.far (p := ⟨w.heap.size, 7, none⟩) (Box.far (p := ⟨w.heap.size, 6, none⟩) (Box.far (p := ⟨w.heap.size, 5, none⟩) (Box.far (p := ⟨w.heap.size, 4, none⟩) (BK.out) (Nat.ne_of_gt (Nat.lt_succ_self _)) (.int .u32 c.pg)) (Nat.ne_of_gt (Nat.lt_succ_self _)) (.int .u16 c.sl)) (Nat.ne_of_gt (Nat.lt_succ_self _)) (.bool c.had)) (Nat.ne_of_gt (Nat.lt_succ_self _)) (.bool c.has)) (Nat.ne_of_gt (Nat.lt_succ_self _)) (.slice Aa c.xs.length ka)) (Nat.ne_of_gt (Nat.lt_succ_self _)) (.slice Ab c.ys.length kb)
                    have r_ := Rd.set (p := ⟨w.heap.size, 9, none⟩) (Rd.set (p := ⟨w.heap.size, 8, none⟩) (Rd.set (p := ⟨w.heap.size, 7, none⟩) (Rd.set (p := ⟨w.heap.size, 6, none⟩) (Rd.set (p := ⟨w.heap.size, 5, none⟩) (Rd.set (p := ⟨w.heap.size, 4, none⟩) (RD.out) (Nat.ne_of_gt (by show w.heap.size < w.heap.size + 1 + 1; omega)) HBB.out (.int .u32 c.pg)) (Nat.ne_of_gt (by show w.heap.size < w.heap.size + 1 + 1; omega)) HBB.out (.int .u16 c.sl)) (Nat.ne_of_gt (by show w.heap.size < w.heap.size + 1 + 1; omega)) HBB.out (.bool c.had)) (Nat.ne_of_gt (by show w.heap.size < w.heap.size + 1 + 1; omega)) HBB.out (.bool c.has)) (Nat.ne_of_gt (by show w.heap.size < w.heap.size + 1 + 1; omega)) HBB.out (.slice Aa c.xs.length ka)) (Nat.ne_of_gt (by show w.heap.size < w.heap.size + 1 + 1; omega)) HBB.out (.slice Ab c.ys.length kb)
                    have f_ := Fr.setCell (p := ⟨w.heap.size, 9, none⟩) (Fr.setCell (p := ⟨w.heap.size, 8, none⟩) (Fr.setCell (p := ⟨w.heap.size, 7, none⟩) (Fr.setCell (p := ⟨w.heap.size, 6, none⟩) (Fr.setCell (p := ⟨w.heap.size, 5, none⟩) (Fr.setCell (p := ⟨w.heap.size, 4, none⟩) (FR.out) (.inl (Nat.le_refl _)) (.int .u32 c.pg)) (.inl (Nat.le_refl _)) (.int .u16 c.sl)) (.inl (Nat.le_refl _)) (.bool c.had)) (.inl (Nat.le_refl _)) (.bool c.has)) (.inl (Nat.le_refl _)) (.slice Aa c.xs.length ka)) (.inl (Nat.le_refl _)) (.slice Ab c.ys.length kb)
                    have OA_ := own_set_far (p := ⟨w.heap.size, 9, none⟩) (own_set_far (p := ⟨w.heap.size, 8, none⟩) (own_set_far (p := ⟨w.heap.size, 7, none⟩) (own_set_far (p := ⟨w.heap.size, 6, none⟩) (own_set_far (p := ⟨w.heap.size, 5, none⟩) (own_set_far (p := ⟨w.heap.size, 4, none⟩) (OA.out) HGA.out.1 (.int .u32 c.pg)) HGA.out.1 (.int .u16 c.sl)) HGA.out.1 (.bool c.had)) HGA.out.1 (.bool c.has)) HGA.out.1 (.slice Aa c.xs.length ka)) HGA.out.1 (.slice Ab c.ys.length kb)
                    have OB_ := own_set_far (p := ⟨w.heap.size, 9, none⟩) (own_set_far (p := ⟨w.heap.size, 8, none⟩) (own_set_far (p := ⟨w.heap.size, 7, none⟩) (own_set_far (p := ⟨w.heap.size, 6, none⟩) (own_set_far (p := ⟨w.heap.size, 5, none⟩) (own_set_far (p := ⟨w.heap.size, 4, none⟩) (OB.out) HGA.out.1 (.int .u32 c.pg)) HGA.out.1 (.int .u16 c.sl)) HGA.out.1 (.bool c.had)) HGA.out.1 (.bool c.has)) HGA.out.1 (.slice Aa c.xs.length ka)) HGA.out.1 (.slice Ab c.ys.length kb)
                    generalize World.setCell (World.setCell (World.setCell (World.setCell (World.setCell (World.setCell (z) (⟨w.heap.size, 4, none⟩ : Addr) (.int .u32 c.pg)) (⟨w.heap.size, 5, none⟩ : Addr) (.int .u16 c.sl)) (⟨w.heap.size, 6, none⟩ : Addr) (.bool c.had)) (⟨w.heap.size, 7, none⟩ : Addr) (.bool c.has)) (⟨w.heap.size, 8, none⟩ : Addr) (.slice Aa c.xs.length ka)) (⟨w.heap.size, 9, none⟩ : Addr) (.slice Ab c.ys.length kb) = w_g at *
                    clear BR BK RD FR kR fR OA OB
                    have BR := Lib.hid b_
                    have BK := Lib.hid k_
                    have RD := Lib.hid r_
                    have FR := Lib.hid f_
                    have OA := Lib.hid OA_
                    have OB := Lib.hid OB_
                    clear b_ k_ r_ f_ OA_ OB_
                    obtain ⟨A9, c9, e9, hl9, hm9⟩ := RD.out.ir.form
                    obtain ⟨L9, hL9⟩ : ∃ n, n = yg.length := ⟨_, rfl⟩
                    rw [← hL9] at e9 hl9
                    subst e9
                    unfold maxLen at hm9
                    have kk := RD.out.box.cell
                    have kR := BR.out.cell
                    have fR := BR.out.frozen
                    by_cases h9 : 0 < L9
                    · have hne : ¬ yg = [] := fun e => by rw [e] at hL9; simp at hL9; omega
                      have HN := Lib.hid (show rDec xs = none by simp [rDec, rBody, rTail, rFull, hne, He_a.out, He_b.out, HSC.out, He_c.out, He_d.out, He_e.out, He_f.out, HK2.out, HEC.out])
                      have d9 : decide ((0 : Int) < (L9 : Int)) = true := by simpa using h9
                      have d9' : decide (0 < L9) = true := by simpa using h9
                      clear h9 hL9
                      go_wp2_with (go_at_call 47; (with_reducible refine (give_up _ _).mono ?_); rintro e z ⟨rfl, rfl⟩)
                      refine leaves_cons (f := 45) (args := #[.pointer (some ⟨w.heap.size, 0, none⟩), .pointer (some ⟨w.heap.size + 1, 0, none⟩)]) (by simp) (by simp [go_sem]) ?_
                      obtain ⟨Cz, hcz, hcs⟩ := out_size BR.out
                      refine (catch_panic w.heap.size (w.heap.size + 1) (by omega) Cz _ hcs hcz false BK.out).mono ?_
                      rintro en u' w'' ⟨rfl, rfl, hb, hk, hf⟩
                      have hfin := FR.out.trans' hf (fun x _ hx => by rcases hx with hx | hx <;> omega)
                      have q0 : w''.cell? ⟨w.heap.size, 0, none⟩ = some (.int .u8 0) := hb.cell 0
                      have q1 : w''.cell? ⟨w.heap.size, 1, none⟩ = some (.int .u32 0) := hb.cell 1
                      have q2 : w''.cell? ⟨w.heap.size, 2, none⟩ = some (.int .u64 0) := hb.cell 2
                      have q3 : w''.cell? ⟨w.heap.size, 3, none⟩ = some (.int .u64 0) := hb.cell 3
                      have q4 : w''.cell? ⟨w.heap.size, 4, none⟩ = some (.int .u32 0) := hb.cell 4
                      have q5 : w''.cell? ⟨w.heap.size, 5, none⟩ = some (.int .u16 0) := hb.cell 5
                      have q6 : w''.cell? ⟨w.heap.size, 6, none⟩ = some (.bool false) := hb.cell 6
                      have q7 : w''.cell? ⟨w.heap.size, 7, none⟩ = some (.bool false) := hb.cell 7
                      have q8 : w''.cell? ⟨w.heap.size, 8, none⟩ = some (.slice none 0 0) := hb.cell 8
                      have q9 : w''.cell? ⟨w.heap.size, 9, none⟩ = some (.slice none 0 0) := hb.cell 9
                      have q10 : w''.cell? ⟨w.heap.size, 10, none⟩ = some (.slice none 0 0) := hb.cell 10
                      have q11 : w''.cell? ⟨w.heap.size, 11, none⟩ = some (.slice none 0 0) := hb.cell 11
                      have qk : w''.cell? ⟨w.heap.size + 1, 0, none⟩ = some (.bool false) := hk.cell 0
                      have HFIN := Lib.hid hfin
                      clear hb hk hf hfin hcz hcs
                      refine ⟨.tuple #[.agg (bareC 0 0 0 0), .bool false], ?_, DecPost.no HN.out (HFIN.out.to_below (fun x hx => hx) (Nat.le_refl _))⟩
                      simp [results, Try.results35, go_sem, q0, q1, q2, q3, q4, q5, q6, q7, q8, q9, q10, q11, qk, bareC]
                    · have h0 : L9 = 0 := by omega
                      have hnil : yg = [] := List.eq_nil_of_length_eq_zero (by omega)
                      have HNIL := Lib.hid hnil
                      subst h0
                      clear h9 hL9 hnil
                      have HRI := Lib.hid (fun W (h : RcIn W W.heap.size ⟨k, t, p, n, c, [], []⟩ (.slice Aa c.xs.length ka) (.slice Ab c.ys.length kb) (.slice none 0 0) (.slice none 0 0)) => may_any ⟨k, t, p, n, c, [], []⟩ _ _ _ _ W _ (Nat.le_refl _) h)
                      go_wp2_with fail
                      (with_reducible refine (HRI.out _ ⟨IR.of_own OA.out, IR.of_own OB.out, SS.nil _ _, SS.nil _ _⟩).mono ?_)
                      rintro e wm ⟨rfl, hbm⟩
                      have BR' := Lib.hid (BR.out.later hbm)
                      have BK' := Lib.hid (BK.out.later hbm)
                      have FR' := Lib.hid (FR.out.trans (.of_below hbm))
                      have RD' := Lib.hid (RD.out.below hbm)
                      clear BR BK FR RD
                      have BR := BR'
                      have BK := BK'
                      have FR := FR'
                      have RD := RD'
                      clear BR' BK' FR' RD'
                      have OA' := Lib.hid (own_below OA.out hbm)
                      clear OA
                      have OA := OA'
                      clear OA'
                      have OB' := Lib.hid (own_below OB.out hbm)
                      clear OB
                      have OB := OB'
                      clear OB'
                      clear hbm kk kR fR HRI
                      cases hq : mayS ⟨k, t, p, n, c, [], []⟩
                      case false =>
                        have HN := Lib.hid (show rDec xs = none by simp [rDec, rBody, rTail, rFull, HNIL.out, hq, He_a.out, He_b.out, HSC.out, He_c.out, He_d.out, He_e.out, He_f.out, HK2.out, HEC.out])
                        have kk := RD.out.box.cell
                        clear hq
                        go_wp2_with (go_at_call 47; (with_reducible refine (give_up _ _).mono ?_); rintro e z ⟨rfl, rfl⟩)
                        refine leaves_cons (f := 45) (args := #[.pointer (some ⟨w.heap.size, 0, none⟩), .pointer (some ⟨w.heap.size + 1, 0, none⟩)]) (by simp) (by simp [go_sem]) ?_
                        obtain ⟨Cz, hcz, hcs⟩ := out_size BR.out
                        refine (catch_panic w.heap.size (w.heap.size + 1) (by omega) Cz _ hcs hcz false BK.out).mono ?_
                        rintro en u' w'' ⟨rfl, rfl, hb, hk, hf⟩
                        have hfin := FR.out.trans' hf (fun x _ hx => by rcases hx with hx | hx <;> omega)
                        have q0 : w''.cell? ⟨w.heap.size, 0, none⟩ = some (.int .u8 0) := hb.cell 0
                        have q1 : w''.cell? ⟨w.heap.size, 1, none⟩ = some (.int .u32 0) := hb.cell 1
                        have q2 : w''.cell? ⟨w.heap.size, 2, none⟩ = some (.int .u64 0) := hb.cell 2
                        have q3 : w''.cell? ⟨w.heap.size, 3, none⟩ = some (.int .u64 0) := hb.cell 3
                        have q4 : w''.cell? ⟨w.heap.size, 4, none⟩ = some (.int .u32 0) := hb.cell 4
                        have q5 : w''.cell? ⟨w.heap.size, 5, none⟩ = some (.int .u16 0) := hb.cell 5
                        have q6 : w''.cell? ⟨w.heap.size, 6, none⟩ = some (.bool false) := hb.cell 6
                        have q7 : w''.cell? ⟨w.heap.size, 7, none⟩ = some (.bool false) := hb.cell 7
                        have q8 : w''.cell? ⟨w.heap.size, 8, none⟩ = some (.slice none 0 0) := hb.cell 8
                        have q9 : w''.cell? ⟨w.heap.size, 9, none⟩ = some (.slice none 0 0) := hb.cell 9
                        have q10 : w''.cell? ⟨w.heap.size, 10, none⟩ = some (.slice none 0 0) := hb.cell 10
                        have q11 : w''.cell? ⟨w.heap.size, 11, none⟩ = some (.slice none 0 0) := hb.cell 11
                        have qk : w''.cell? ⟨w.heap.size + 1, 0, none⟩ = some (.bool false) := hk.cell 0
                        have HFIN := Lib.hid hfin
                        clear hb hk hf hfin hcz hcs
                        refine ⟨.tuple #[.agg (bareC 0 0 0 0), .bool false], ?_, DecPost.no HN.out (HFIN.out.to_below (fun x hx => hx) (Nat.le_refl _))⟩
                        simp [results, Try.results35, go_sem, q0, q1, q2, q3, q4, q5, q6, q7, q8, q9, q10, q11, qk, bareC]
                      case true =>
                        have HV := Lib.hid (show rDec xs = some ⟨k, t, p, n, c, [], []⟩ by simp [rDec, rBody, rTail, rFull, HNIL.out, hq, He_a.out, He_b.out, HSC.out, He_c.out, He_d.out, He_e.out, He_f.out, HK2.out, HEC.out])
                        clear hq
                        have k_0 : wm.cell? ⟨w.heap.size, 0, none⟩ = some (.int .u8 k) := BR.out.cell 0
                        have f_0 := BR.out.frozen 0
                        have k_1 : wm.cell? ⟨w.heap.size, 1, none⟩ = some (.int .u32 t) := BR.out.cell 1
                        have f_1 := BR.out.frozen 1
                        have k_2 : wm.cell? ⟨w.heap.size, 2, none⟩ = some (.int .u64 p) := BR.out.cell 2
                        have f_2 := BR.out.frozen 2
                        have k_3 : wm.cell? ⟨w.heap.size, 3, none⟩ = some (.int .u64 n) := BR.out.cell 3
                        have f_3 := BR.out.frozen 3
                        have k_4 : wm.cell? ⟨w.heap.size, 4, none⟩ = some (.int .u32 c.pg) := BR.out.cell 4
                        have f_4 := BR.out.frozen 4
                        have k_5 : wm.cell? ⟨w.heap.size, 5, none⟩ = some (.int .u16 c.sl) := BR.out.cell 5
                        have f_5 := BR.out.frozen 5
                        have k_6 : wm.cell? ⟨w.heap.size, 6, none⟩ = some (.bool c.had) := BR.out.cell 6
                        have f_6 := BR.out.frozen 6
                        have k_7 : wm.cell? ⟨w.heap.size, 7, none⟩ = some (.bool c.has) := BR.out.cell 7
                        have f_7 := BR.out.frozen 7
                        have k_8 : wm.cell? ⟨w.heap.size, 8, none⟩ = some (.slice Aa c.xs.length ka) := BR.out.cell 8
                        have f_8 := BR.out.frozen 8
                        have k_9 : wm.cell? ⟨w.heap.size, 9, none⟩ = some (.slice Ab c.ys.length kb) := BR.out.cell 9
                        have f_9 := BR.out.frozen 9
                        have k_10 : wm.cell? ⟨w.heap.size, 10, none⟩ = some (.slice none 0 0) := BR.out.cell 10
                        have f_10 := BR.out.frozen 10
                        have k_11 : wm.cell? ⟨w.heap.size, 11, none⟩ = some (.slice none 0 0) := BR.out.cell 11
                        have f_11 := BR.out.frozen 11
                        have k_k : wm.cell? ⟨w.heap.size + 1, 0, none⟩ = some (.bool false) := BK.out.cell 0
                        have f_k := BK.out.frozen 0
                        go_wp2
                        clear k_0 f_0 k_1 f_1 k_2 f_2 k_3 f_3 k_4 f_4 k_5 f_5 k_6 f_6 k_7 f_7 k_8 f_8 k_9 f_9 k_10 f_10 k_11 f_11 k_k f_k
                        have b9 := Box.far (p := ⟨w.heap.size + 1, 0, none⟩) (Box.set_ (Box.set_ (Box.set_ (Box.set_ (Box.set_ (Box.set_ (Box.set_ (Box.set_ (Box.set_ (Box.set_ (Box.set_ (Box.set_ (BR.out) 0 (.int .u8 k)) 1 (.int .u32 t)) 2 (.int .u64 p)) 3 (.int .u64 n)) 4 (.int .u32 c.pg)) 5 (.int .u16 c.sl)) 6 (.bool c.had)) 7 (.bool c.has)) 8 (.slice Aa c.xs.length ka)) 9 (.slice Ab c.ys.length kb)) 10 (.slice none 0 0)) 11 (.slice none 0 0)) (Nat.ne_of_lt (Nat.lt_succ_self _)) (.bool true)
                        simp only [List.setIfInBounds_toArray, List.set_cons_zero, List.set_cons_succ] at b9
                        have k9 := Box.set_ (Box.far (p := ⟨w.heap.size, 11, none⟩) (Box.far (p := ⟨w.heap.size, 10, none⟩) (Box.far (p := ⟨w.heap.size, 9, none⟩) (Box.far (p := ⟨w.heap.size, 8, none⟩) (Box.far (p := ⟨w.heap.size, 7, none⟩) (Box.far (p := ⟨w.heap.size, 6, none⟩) (Box.far (p := ⟨w.heap.size, 5, none⟩) (Box.far (p := ⟨w.heap.size, 4, none⟩) (Box.far (p := ⟨w.heap.size, 3, none⟩) (Box.far (p := ⟨w.heap.size, 2, none⟩) (Box.far (p := ⟨w.heap.size, 1, none⟩) (Box.far (p := ⟨w.heap.size, 0, none⟩) (BK.out) (Nat.ne_of_gt (Nat.lt_succ_self _)) (.int .u8 k)) (Nat.ne_of_gt (Nat.lt_succ_self _)) (.int .u32 t)) (Nat.ne_of_gt (Nat.lt_succ_self _)) (.int .u64 p)) (Nat.ne_of_gt (Nat.lt_succ_self _)) (.int .u64 n)) (Nat.ne_of_gt (Nat.lt_succ_self _)) (.int .u32 c.pg)) (Nat.ne_of_gt (Nat.lt_succ_self _)) (.int .u16 c.sl)) (Nat.ne_of_gt (Nat.lt_succ_self _)) (.bool c.had)) (Nat.ne_of_gt (Nat.lt_succ_self _)) (.bool c.has)) (Nat.ne_of_gt (Nat.lt_succ_self _)) (.slice Aa c.xs.length ka)) (Nat.ne_of_gt (Nat.lt_succ_self _)) (.slice Ab c.ys.length kb)) (Nat.ne_of_gt (Nat.lt_succ_self _)) (.slice none 0 0)) (Nat.ne_of_gt (Nat.lt_succ_self _)) (.slice none 0 0)) 0 (.bool true)
                        simp only [List.setIfInBounds_toArray, List.set_cons_zero, List.set_cons_succ] at k9
                        have f9 := Fr.setCell (Fr.setCell (Fr.setCell (Fr.setCell (Fr.setCell (Fr.setCell (Fr.setCell (Fr.setCell (Fr.setCell (Fr.setCell (Fr.setCell (Fr.setCell (Fr.setCell (FR.out) (p := ⟨w.heap.size, 0, none⟩) (.inl (Nat.le_refl _)) (.int .u8 k)) (p := ⟨w.heap.size, 1, none⟩) (.inl (Nat.le_refl _)) (.int .u32 t)) (p := ⟨w.heap.size, 2, none⟩) (.inl (Nat.le_refl _)) (.int .u64 p)) (p := ⟨w.heap.size, 3, none⟩) (.inl (Nat.le_refl _)) (.int .u64 n)) (p := ⟨w.heap.size, 4, none⟩) (.inl (Nat.le_refl _)) (.int .u32 c.pg)) (p := ⟨w.heap.size, 5, none⟩) (.inl (Nat.le_refl _)) (.int .u16 c.sl)) (p := ⟨w.heap.size, 6, none⟩) (.inl (Nat.le_refl _)) (.bool c.had)) (p := ⟨w.heap.size, 7, none⟩) (.inl (Nat.le_refl _)) (.bool c.has)) (p := ⟨w.heap.size, 8, none⟩) (.inl (Nat.le_refl _)) (.slice Aa c.xs.length ka)) (p := ⟨w.heap.size, 9, none⟩) (.inl (Nat.le_refl _)) (.slice Ab c.ys.length kb)) (p := ⟨w.heap.size, 10, none⟩) (.inl (Nat.le_refl _)) (.slice none 0 0)) (p := ⟨w.heap.size, 11, none⟩) (.inl (Nat.le_refl _)) (.slice none 0 0)) (p := ⟨w.heap.size + 1, 0, none⟩) (.inl (Nat.le_succ _)) (.bool true)
                        have OA9 := own_set_far (own_set_far (own_set_far (own_set_far (own_set_far (own_set_far (own_set_far (own_set_far (own_set_far (own_set_far (own_set_far (own_set_far (own_set_far (OA.out) (p := ⟨w.heap.size, 0, none⟩) HGA.out.1 (.int .u8 k)) (p := ⟨w.heap.size, 1, none⟩) HGA.out.1 (.int .u32 t)) (p := ⟨w.heap.size, 2, none⟩) HGA.out.1 (.int .u64 p)) (p := ⟨w.heap.size, 3, none⟩) HGA.out.1 (.int .u64 n)) (p := ⟨w.heap.size, 4, none⟩) HGA.out.1 (.int .u32 c.pg)) (p := ⟨w.heap.size, 5, none⟩) HGA.out.1 (.int .u16 c.sl)) (p := ⟨w.heap.size, 6, none⟩) HGA.out.1 (.bool c.had)) (p := ⟨w.heap.size, 7, none⟩) HGA.out.1 (.bool c.has)) (p := ⟨w.heap.size, 8, none⟩) HGA.out.1 (.slice Aa c.xs.length ka)) (p := ⟨w.heap.size, 9, none⟩) HGA.out.1 (.slice Ab c.ys.length kb)) (p := ⟨w.heap.size, 10, none⟩) HGA.out.1 (.slice none 0 0)) (p := ⟨w.heap.size, 11, none⟩) HGA.out.1 (.slice none 0 0)) (p := ⟨w.heap.size + 1, 0, none⟩) HGA.out.2 (.bool true)
                        have OB9 := own_set_far (own_set_far (own_set_far (own_set_far (own_set_far (own_set_far (own_set_far (own_set_far (own_set_far (own_set_far (own_set_far (own_set_far (own_set_far (OB.out) (p := ⟨w.heap.size, 0, none⟩) HGA.out.1 (.int .u8 k)) (p := ⟨w.heap.size, 1, none⟩) HGA.out.1 (.int .u32 t)) (p := ⟨w.heap.size, 2, none⟩) HGA.out.1 (.int .u64 p)) (p := ⟨w.heap.size, 3, none⟩) HGA.out.1 (.int .u64 n)) (p := ⟨w.heap.size, 4, none⟩) HGA.out.1 (.int .u32 c.pg)) (p := ⟨w.heap.size, 5, none⟩) HGA.out.1 (.int .u16 c.sl)) (p := ⟨w.heap.size, 6, none⟩) HGA.out.1 (.bool c.had)) (p := ⟨w.heap.size, 7, none⟩) HGA.out.1 (.bool c.has)) (p := ⟨w.heap.size, 8, none⟩) HGA.out.1 (.slice Aa c.xs.length ka)) (p := ⟨w.heap.size, 9, none⟩) HGA.out.1 (.slice Ab c.ys.length kb)) (p := ⟨w.heap.size, 10, none⟩) HGA.out.1 (.slice none 0 0)) (p := ⟨w.heap.size, 11, none⟩) HGA.out.1 (.slice none 0 0)) (p := ⟨w.heap.size + 1, 0, none⟩) HGA.out.2 (.bool true)
                        generalize World.setCell (World.setCell (World.setCell (World.setCell (World.setCell (World.setCell (World.setCell (World.setCell (World.setCell (World.setCell (World.setCell (World.setCell (World.setCell (wm) (⟨w.heap.size, 0, none⟩ : Addr) (.int .u8 k)) (⟨w.heap.size, 1, none⟩ : Addr) (.int .u32 t)) (⟨w.heap.size, 2, none⟩ : Addr) (.int .u64 p)) (⟨w.heap.size, 3, none⟩ : Addr) (.int .u64 n)) (⟨w.heap.size, 4, none⟩ : Addr) (.int .u32 c.pg)) (⟨w.heap.size, 5, none⟩ : Addr) (.int .u16 c.sl)) (⟨w.heap.size, 6, none⟩ : Addr) (.bool c.had)) (⟨w.heap.size, 7, none⟩ : Addr) (.bool c.has)) (⟨w.heap.size, 8, none⟩ : Addr) (.slice Aa c.xs.length ka)) (⟨w.heap.size, 9, none⟩ : Addr) (.slice Ab c.ys.length kb)) (⟨w.heap.size, 10, none⟩ : Addr) (.slice none 0 0)) (⟨w.heap.size, 11, none⟩ : Addr) (.slice none 0 0)) (⟨w.heap.size + 1, 0, none⟩ : Addr) (.bool true) = W9 at *
                        refine leaves_cons (f := 45) (args := #[.pointer (some ⟨w.heap.size, 0, none⟩), .pointer (some ⟨w.heap.size + 1, 0, none⟩)]) (by simp) (by simp [go_sem]) ?_
                        refine (catch_none w.heap.size (w.heap.size + 1) _).mono ?_
                        rintro en u' w'' ⟨rfl, rfl, rfl⟩
                        have q0 : W9.cell? ⟨w.heap.size, 0, none⟩ = some (.int .u8 k) := b9.cell 0
                        have q1 : W9.cell? ⟨w.heap.size, 1, none⟩ = some (.int .u32 t) := b9.cell 1
                        have q2 : W9.cell? ⟨w.heap.size, 2, none⟩ = some (.int .u64 p) := b9.cell 2
                        have q3 : W9.cell? ⟨w.heap.size, 3, none⟩ = some (.int .u64 n) := b9.cell 3
                        have q4 : W9.cell? ⟨w.heap.size, 4, none⟩ = some (.int .u32 c.pg) := b9.cell 4
                        have q5 : W9.cell? ⟨w.heap.size, 5, none⟩ = some (.int .u16 c.sl) := b9.cell 5
                        have q6 : W9.cell? ⟨w.heap.size, 6, none⟩ = some (.bool c.had) := b9.cell 6
                        have q7 : W9.cell? ⟨w.heap.size, 7, none⟩ = some (.bool c.has) := b9.cell 7
                        have q8 : W9.cell? ⟨w.heap.size, 8, none⟩ = some (.slice Aa c.xs.length ka) := b9.cell 8
                        have q9 : W9.cell? ⟨w.heap.size, 9, none⟩ = some (.slice Ab c.ys.length kb) := b9.cell 9
                        have q10 : W9.cell? ⟨w.heap.size, 10, none⟩ = some (.slice none 0 0) := b9.cell 10
                        have q11 : W9.cell? ⟨w.heap.size, 11, none⟩ = some (.slice none 0 0) := b9.cell 11
                        have qk : W9.cell? ⟨w.heap.size + 1, 0, none⟩ = some (.bool true) := k9.cell 0
                        refine ⟨.tuple #[.agg #[.int .u8 k, .int .u32 t, .int .u64 p, .int .u64 n, .int .u32 c.pg, .int .u16 c.sl, .bool c.had, .bool c.has, .slice Aa c.xs.length ka, .slice Ab c.ys.length kb, .slice none 0 0, .slice none 0 0], .bool true], ?_, ?_⟩
                        · simp [results, Try.results35, go_sem, q0, q1, q2, q3, q4, q5, q6, q7, q8, q9, q10, q11, qk]
                        · unfold DecPost
                          rw [HV.out]
                          exact ⟨(.slice Aa c.xs.length ka), (.slice Ab c.ys.length kb), (.slice none 0 0), (.slice none 0 0), rfl, ⟨own_lower OA9 (Nat.le_of_lt HGA.out.1), own_lower OB9 (Nat.le_of_lt HGA.out.1), World.ownsRow_nil _ _ _ _, World.ownsRow_nil _ _ _ _⟩, f9.to_below (fun x hx => hx) (Nat.le_refl _)⟩
                · have d2 : (decide (k = 2) || decide (k = 3)) = false := by simp; omega
                  have CH := Lib.hid (fun W => changes_any k W)
                  rw [d2] at CH
                  clear d2
                  (with_reducible refine (CH.out _).mono ?_)
                  rintro e z ⟨rfl, rfl⟩
                  by_cases hk8 : k = 8
                  · have d8 : (k == 8) = true := by rw [beq_dec]; simpa using hk8
                    have HK2 := Lib.hid hk2
                    have HK8 := Lib.hid hk8
                    clear hk2 hk8
                    have kR := BR.out.cell
                    have fR := BR.out.frozen
                    go_wp2_with fail
                    (with_reducible refine (rtables_any _ _ _ _ _ RD.out HBf.out).mono ?_)
                    rintro e z hz
                    unfold TabPost at hz
                    cases eC : rTab yf with
                    | none =>
                      rw [eC] at hz
                      obtain ⟨rfl, fr⟩ := hz
                      have HN := Lib.hid (show rDec xs = none by simp [rDec, rBody, rTail, eC, HK2.out, HK8.out, He_a.out, He_b.out, HSC.out, He_c.out, He_d.out, He_e.out, He_f.out])
                      have BR' := Lib.hid (BR.out.fr fr (by omega))
                      have BK' := Lib.hid (BK.out.fr fr (by omega))
                      have FR' := Lib.hid (FR.out.trans' fr (fun x _ hx => by rw [hx]; omega))
                      clear BR BK FR
                      have BR := BR'
                      have BK := BK'
                      have FR := FR'
                      clear BR' BK' FR'
                      clear fr eC
                      refine leaves_cons (f := 45) (args := #[.pointer (some ⟨w.heap.size, 0, none⟩), .pointer (some ⟨w.heap.size + 1, 0, none⟩)]) (by simp) (by simp [go_sem]) ?_
                      obtain ⟨Cz, hcz, hcs⟩ := out_size BR.out
                      refine (catch_panic w.heap.size (w.heap.size + 1) (by omega) Cz _ hcs hcz false BK.out).mono ?_
                      rintro en u' w'' ⟨rfl, rfl, hb, hk, hf⟩
                      have hfin := FR.out.trans' hf (fun x _ hx => by rcases hx with hx | hx <;> omega)
                      have q0 : w''.cell? ⟨w.heap.size, 0, none⟩ = some (.int .u8 0) := hb.cell 0
                      have q1 : w''.cell? ⟨w.heap.size, 1, none⟩ = some (.int .u32 0) := hb.cell 1
                      have q2 : w''.cell? ⟨w.heap.size, 2, none⟩ = some (.int .u64 0) := hb.cell 2
                      have q3 : w''.cell? ⟨w.heap.size, 3, none⟩ = some (.int .u64 0) := hb.cell 3
                      have q4 : w''.cell? ⟨w.heap.size, 4, none⟩ = some (.int .u32 0) := hb.cell 4
                      have q5 : w''.cell? ⟨w.heap.size, 5, none⟩ = some (.int .u16 0) := hb.cell 5
                      have q6 : w''.cell? ⟨w.heap.size, 6, none⟩ = some (.bool false) := hb.cell 6
                      have q7 : w''.cell? ⟨w.heap.size, 7, none⟩ = some (.bool false) := hb.cell 7
                      have q8 : w''.cell? ⟨w.heap.size, 8, none⟩ = some (.slice none 0 0) := hb.cell 8
                      have q9 : w''.cell? ⟨w.heap.size, 9, none⟩ = some (.slice none 0 0) := hb.cell 9
                      have q10 : w''.cell? ⟨w.heap.size, 10, none⟩ = some (.slice none 0 0) := hb.cell 10
                      have q11 : w''.cell? ⟨w.heap.size, 11, none⟩ = some (.slice none 0 0) := hb.cell 11
                      have qk : w''.cell? ⟨w.heap.size + 1, 0, none⟩ = some (.bool false) := hk.cell 0
                      have HFIN := Lib.hid hfin
                      clear hb hk hf hfin hcz hcs
                      refine ⟨.tuple #[.agg (bareC 0 0 0 0), .bool false], ?_, DecPost.no HN.out (HFIN.out.to_below (fun x hx => hx) (Nat.le_refl _))⟩
                      simp [results, Try.results35, go_sem, q0, q1, q2, q3, q4, q5, q6, q7, q8, q9, q10, q11, qk, bareC]
                    | some p =>
                      obtain ⟨ts, ds, yg⟩ := p
                      rw [eC] at hz
                      obtain ⟨ta, da, rfl, ot, od, ⟨vg, rd⟩, fr⟩ := hz
                      have BR' := Lib.hid (BR.out.fr fr (by omega))
                      have BK' := Lib.hid (BK.out.fr fr (by omega))
                      have FR' := Lib.hid (FR.out.trans' fr (fun x _ hx => by rw [hx]; omega))
                      clear BR BK FR
                      have BR := BR'
                      have BK := BK'
                      have FR := FR'
                      clear BR' BK' FR'
                      clear RD kR fR
                      have RD := Lib.hid rd
                      clear rd fr
                      obtain ⟨At, kt, et, _, _⟩ := (SS.of_own cAc_len ot).form
                      obtain ⟨Ad, kd, ed, _, _⟩ := (SS.of_own cDt_len od).form
                      subst et ed
                      have OT := Lib.hid ot
                      have OD := Lib.hid od
                      have HEC := Lib.hid eC
                      clear ot od eC
                      have kR := BR.out.cell
                      have fR := BR.out.frozen
                      go_upto_region 15 with (fail)
                      have b_ := Box.set_ (Box.set_ (BR.out) 10 (.slice At ts.length kt)) 11 (.slice Ad ds.length kd)
                      simp only [bareC, List.setIfInBounds_toArray, List.set_cons_zero, List.set_cons_succ] at b_
                      have k_ := Box.far (p := ⟨w.heap.size, 11, none⟩) (Box.far (p := ⟨w.heap.size, 10, none⟩) (BK.out) (Nat.ne_of_gt (Nat.lt_succ_self _)) (.slice At ts.length kt)) (Nat.ne_of_gt (Nat.lt_succ_self _)) (.slice Ad ds.length kd)
                      have r_ := Rd.set (p := ⟨w.heap.size, 11, none⟩) (Rd.set (p := ⟨w.heap.size, 10, none⟩) (RD.out) (Nat.ne_of_gt (by show w.heap.size < w.heap.size + 1 + 1; omega)) HBB.out (.slice At ts.length kt)) (Nat.ne_of_gt (by show w.heap.size < w.heap.size + 1 + 1; omega)) HBB.out (.slice Ad ds.length kd)
                      have f_ := Fr.setCell (p := ⟨w.heap.size, 11, none⟩) (Fr.setCell (p := ⟨w.heap.size, 10, none⟩) (FR.out) (.inl (Nat.le_refl _)) (.slice At ts.length kt)) (.inl (Nat.le_refl _)) (.slice Ad ds.length kd)
                      have OT_ := own_set_far (p := ⟨w.heap.size, 11, none⟩) (own_set_far (p := ⟨w.heap.size, 10, none⟩) (OT.out) HGA.out.1 (.slice At ts.length kt)) HGA.out.1 (.slice Ad ds.length kd)
                      have OD_ := own_set_far (p := ⟨w.heap.size, 11, none⟩) (own_set_far (p := ⟨w.heap.size, 10, none⟩) (OD.out) HGA.out.1 (.slice At ts.length kt)) HGA.out.1 (.slice Ad ds.length kd)
                      generalize World.setCell (World.setCell (z) (⟨w.heap.size, 10, none⟩ : Addr) (.slice At ts.length kt)) (⟨w.heap.size, 11, none⟩ : Addr) (.slice Ad ds.length kd) = w_g at *
                      clear BR BK RD FR kR fR OT OD
                      have BR := Lib.hid b_
                      have BK := Lib.hid k_
                      have RD := Lib.hid r_
                      have FR := Lib.hid f_
                      have OT := Lib.hid OT_
                      have OD := Lib.hid OD_
                      clear b_ k_ r_ f_ OT_ OD_
                      obtain ⟨A9, c9, e9, hl9, hm9⟩ := RD.out.ir.form
                      obtain ⟨L9, hL9⟩ : ∃ n, n = yg.length := ⟨_, rfl⟩
                      rw [← hL9] at e9 hl9
                      subst e9
                      unfold maxLen at hm9
                      have kk := RD.out.box.cell
                      have kR := BR.out.cell
                      have fR := BR.out.frozen
                      by_cases h9 : 0 < L9
                      · have hne : ¬ yg = [] := fun e => by rw [e] at hL9; simp at hL9; omega
                        have HN := Lib.hid (show rDec xs = none by simp [rDec, rBody, rTail, rFull, hne, He_a.out, He_b.out, HSC.out, He_c.out, He_d.out, He_e.out, He_f.out, HK2.out, if_pos HK8.out, HEC.out])
                        have d9 : decide ((0 : Int) < (L9 : Int)) = true := by simpa using h9
                        have d9' : decide (0 < L9) = true := by simpa using h9
                        clear h9 hL9
                        go_wp2_with (go_at_call 47; (with_reducible refine (give_up _ _).mono ?_); rintro e z ⟨rfl, rfl⟩)
                        refine leaves_cons (f := 45) (args := #[.pointer (some ⟨w.heap.size, 0, none⟩), .pointer (some ⟨w.heap.size + 1, 0, none⟩)]) (by simp) (by simp [go_sem]) ?_
                        obtain ⟨Cz, hcz, hcs⟩ := out_size BR.out
                        refine (catch_panic w.heap.size (w.heap.size + 1) (by omega) Cz _ hcs hcz false BK.out).mono ?_
                        rintro en u' w'' ⟨rfl, rfl, hb, hk, hf⟩
                        have hfin := FR.out.trans' hf (fun x _ hx => by rcases hx with hx | hx <;> omega)
                        have q0 : w''.cell? ⟨w.heap.size, 0, none⟩ = some (.int .u8 0) := hb.cell 0
                        have q1 : w''.cell? ⟨w.heap.size, 1, none⟩ = some (.int .u32 0) := hb.cell 1
                        have q2 : w''.cell? ⟨w.heap.size, 2, none⟩ = some (.int .u64 0) := hb.cell 2
                        have q3 : w''.cell? ⟨w.heap.size, 3, none⟩ = some (.int .u64 0) := hb.cell 3
                        have q4 : w''.cell? ⟨w.heap.size, 4, none⟩ = some (.int .u32 0) := hb.cell 4
                        have q5 : w''.cell? ⟨w.heap.size, 5, none⟩ = some (.int .u16 0) := hb.cell 5
                        have q6 : w''.cell? ⟨w.heap.size, 6, none⟩ = some (.bool false) := hb.cell 6
                        have q7 : w''.cell? ⟨w.heap.size, 7, none⟩ = some (.bool false) := hb.cell 7
                        have q8 : w''.cell? ⟨w.heap.size, 8, none⟩ = some (.slice none 0 0) := hb.cell 8
                        have q9 : w''.cell? ⟨w.heap.size, 9, none⟩ = some (.slice none 0 0) := hb.cell 9
                        have q10 : w''.cell? ⟨w.heap.size, 10, none⟩ = some (.slice none 0 0) := hb.cell 10
                        have q11 : w''.cell? ⟨w.heap.size, 11, none⟩ = some (.slice none 0 0) := hb.cell 11
                        have qk : w''.cell? ⟨w.heap.size + 1, 0, none⟩ = some (.bool false) := hk.cell 0
                        have HFIN := Lib.hid hfin
                        clear hb hk hf hfin hcz hcs
                        refine ⟨.tuple #[.agg (bareC 0 0 0 0), .bool false], ?_, DecPost.no HN.out (HFIN.out.to_below (fun x hx => hx) (Nat.le_refl _))⟩
                        simp [results, Try.results35, go_sem, q0, q1, q2, q3, q4, q5, q6, q7, q8, q9, q10, q11, qk, bareC]
                      · have h0 : L9 = 0 := by omega
                        have hnil : yg = [] := List.eq_nil_of_length_eq_zero (by omega)
                        have HNIL := Lib.hid hnil
                        subst h0
                        clear h9 hL9 hnil
                        have HRI := Lib.hid (fun W (h : RcIn W W.heap.size ⟨k, t, p, n, nullC, ts, ds⟩ (.slice none 0 0) (.slice none 0 0) (.slice At ts.length kt) (.slice Ad ds.length kd)) => may_any ⟨k, t, p, n, nullC, ts, ds⟩ _ _ _ _ W _ (Nat.le_refl _) h)
                        go_wp2_with fail
                        (with_reducible refine (HRI.out _ ⟨IR.nil _ _ _, IR.nil _ _ _, SS.of_own cAc_len OT.out, SS.of_own cDt_len OD.out⟩).mono ?_)
                        rintro e wm ⟨rfl, hbm⟩
                        have BR' := Lib.hid (BR.out.later hbm)
                        have BK' := Lib.hid (BK.out.later hbm)
                        have FR' := Lib.hid (FR.out.trans (.of_below hbm))
                        have RD' := Lib.hid (RD.out.below hbm)
                        clear BR BK FR RD
                        have BR := BR'
                        have BK := BK'
                        have FR := FR'
                        have RD := RD'
                        clear BR' BK' FR' RD'
                        have OT' := Lib.hid (own_below OT.out hbm)
                        clear OT
                        have OT := OT'
                        clear OT'
                        have OD' := Lib.hid (own_below OD.out hbm)
                        clear OD
                        have OD := OD'
                        clear OD'
                        clear hbm kk kR fR HRI
                        cases hq : mayS ⟨k, t, p, n, nullC, ts, ds⟩
                        case false =>
                          have HN := Lib.hid (show rDec xs = none by simp [rDec, rBody, rTail, rFull, HNIL.out, hq, He_a.out, He_b.out, HSC.out, He_c.out, He_d.out, He_e.out, He_f.out, HK2.out, if_pos HK8.out, HEC.out])
                          have kk := RD.out.box.cell
                          clear hq
                          go_wp2_with (go_at_call 47; (with_reducible refine (give_up _ _).mono ?_); rintro e z ⟨rfl, rfl⟩)
                          refine leaves_cons (f := 45) (args := #[.pointer (some ⟨w.heap.size, 0, none⟩), .pointer (some ⟨w.heap.size + 1, 0, none⟩)]) (by simp) (by simp [go_sem]) ?_
                          obtain ⟨Cz, hcz, hcs⟩ := out_size BR.out
                          refine (catch_panic w.heap.size (w.heap.size + 1) (by omega) Cz _ hcs hcz false BK.out).mono ?_
                          rintro en u' w'' ⟨rfl, rfl, hb, hk, hf⟩
                          have hfin := FR.out.trans' hf (fun x _ hx => by rcases hx with hx | hx <;> omega)
                          have q0 : w''.cell? ⟨w.heap.size, 0, none⟩ = some (.int .u8 0) := hb.cell 0
                          have q1 : w''.cell? ⟨w.heap.size, 1, none⟩ = some (.int .u32 0) := hb.cell 1
                          have q2 : w''.cell? ⟨w.heap.size, 2, none⟩ = some (.int .u64 0) := hb.cell 2
                          have q3 : w''.cell? ⟨w.heap.size, 3, none⟩ = some (.int .u64 0) := hb.cell 3
                          have q4 : w''.cell? ⟨w.heap.size, 4, none⟩ = some (.int .u32 0) := hb.cell 4
                          have q5 : w''.cell? ⟨w.heap.size, 5, none⟩ = some (.int .u16 0) := hb.cell 5
                          have q6 : w''.cell? ⟨w.heap.size, 6, none⟩ = some (.bool false) := hb.cell 6
                          have q7 : w''.cell? ⟨w.heap.size, 7, none⟩ = some (.bool false) := hb.cell 7
                          have q8 : w''.cell? ⟨w.heap.size, 8, none⟩ = some (.slice none 0 0) := hb.cell 8
                          have q9 : w''.cell? ⟨w.heap.size, 9, none⟩ = some (.slice none 0 0) := hb.cell 9
                          have q10 : w''.cell? ⟨w.heap.size, 10, none⟩ = some (.slice none 0 0) := hb.cell 10
                          have q11 : w''.cell? ⟨w.heap.size, 11, none⟩ = some (.slice none 0 0) := hb.cell 11
                          have qk : w''.cell? ⟨w.heap.size + 1, 0, none⟩ = some (.bool false) := hk.cell 0
                          have HFIN := Lib.hid hfin
                          clear hb hk hf hfin hcz hcs
                          refine ⟨.tuple #[.agg (bareC 0 0 0 0), .bool false], ?_, DecPost.no HN.out (HFIN.out.to_below (fun x hx => hx) (Nat.le_refl _))⟩
                          simp [results, Try.results35, go_sem, q0, q1, q2, q3, q4, q5, q6, q7, q8, q9, q10, q11, qk, bareC]
                        case true =>
                          have HV := Lib.hid (show rDec xs = some ⟨k, t, p, n, nullC, ts, ds⟩ by simp [rDec, rBody, rTail, rFull, HNIL.out, hq, He_a.out, He_b.out, HSC.out, He_c.out, He_d.out, He_e.out, He_f.out, HK2.out, if_pos HK8.out, HEC.out])
                          clear hq
                          have k_0 : wm.cell? ⟨w.heap.size, 0, none⟩ = some (.int .u8 k) := BR.out.cell 0
                          have f_0 := BR.out.frozen 0
                          have k_1 : wm.cell? ⟨w.heap.size, 1, none⟩ = some (.int .u32 t) := BR.out.cell 1
                          have f_1 := BR.out.frozen 1
                          have k_2 : wm.cell? ⟨w.heap.size, 2, none⟩ = some (.int .u64 p) := BR.out.cell 2
                          have f_2 := BR.out.frozen 2
                          have k_3 : wm.cell? ⟨w.heap.size, 3, none⟩ = some (.int .u64 n) := BR.out.cell 3
                          have f_3 := BR.out.frozen 3
                          have k_4 : wm.cell? ⟨w.heap.size, 4, none⟩ = some (.int .u32 0) := BR.out.cell 4
                          have f_4 := BR.out.frozen 4
                          have k_5 : wm.cell? ⟨w.heap.size, 5, none⟩ = some (.int .u16 0) := BR.out.cell 5
                          have f_5 := BR.out.frozen 5
                          have k_6 : wm.cell? ⟨w.heap.size, 6, none⟩ = some (.bool false) := BR.out.cell 6
                          have f_6 := BR.out.frozen 6
                          have k_7 : wm.cell? ⟨w.heap.size, 7, none⟩ = some (.bool false) := BR.out.cell 7
                          have f_7 := BR.out.frozen 7
                          have k_8 : wm.cell? ⟨w.heap.size, 8, none⟩ = some (.slice none 0 0) := BR.out.cell 8
                          have f_8 := BR.out.frozen 8
                          have k_9 : wm.cell? ⟨w.heap.size, 9, none⟩ = some (.slice none 0 0) := BR.out.cell 9
                          have f_9 := BR.out.frozen 9
                          have k_10 : wm.cell? ⟨w.heap.size, 10, none⟩ = some (.slice At ts.length kt) := BR.out.cell 10
                          have f_10 := BR.out.frozen 10
                          have k_11 : wm.cell? ⟨w.heap.size, 11, none⟩ = some (.slice Ad ds.length kd) := BR.out.cell 11
                          have f_11 := BR.out.frozen 11
                          have k_k : wm.cell? ⟨w.heap.size + 1, 0, none⟩ = some (.bool false) := BK.out.cell 0
                          have f_k := BK.out.frozen 0
                          go_wp2
                          clear k_0 f_0 k_1 f_1 k_2 f_2 k_3 f_3 k_4 f_4 k_5 f_5 k_6 f_6 k_7 f_7 k_8 f_8 k_9 f_9 k_10 f_10 k_11 f_11 k_k f_k
                          have b9 := Box.far (p := ⟨w.heap.size + 1, 0, none⟩) (Box.set_ (Box.set_ (Box.set_ (Box.set_ (Box.set_ (Box.set_ (Box.set_ (Box.set_ (Box.set_ (Box.set_ (Box.set_ (Box.set_ (BR.out) 0 (.int .u8 k)) 1 (.int .u32 t)) 2 (.int .u64 p)) 3 (.int .u64 n)) 4 (.int .u32 0)) 5 (.int .u16 0)) 6 (.bool false)) 7 (.bool false)) 8 (.slice none 0 0)) 9 (.slice none 0 0)) 10 (.slice At ts.length kt)) 11 (.slice Ad ds.length kd)) (Nat.ne_of_lt (Nat.lt_succ_self _)) (.bool true)
                          simp only [List.setIfInBounds_toArray, List.set_cons_zero, List.set_cons_succ] at b9
                          have k9 := Box.set_ (Box.far (p := ⟨w.heap.size, 11, none⟩) (Box.far (p := ⟨w.heap.size, 10, none⟩) (Box.far (p := ⟨w.heap.size, 9, none⟩) (Box.far (p := ⟨w.heap.size, 8, none⟩) (Box.far (p := ⟨w.heap.size, 7, none⟩) (Box.far (p := ⟨w.heap.size, 6, none⟩) (Box.far (p := ⟨w.heap.size, 5, none⟩) (Box.far (p := ⟨w.heap.size, 4, none⟩) (Box.far (p := ⟨w.heap.size, 3, none⟩) (Box.far (p := ⟨w.heap.size, 2, none⟩) (Box.far (p := ⟨w.heap.size, 1, none⟩) (Box.far (p := ⟨w.heap.size, 0, none⟩) (BK.out) (Nat.ne_of_gt (Nat.lt_succ_self _)) (.int .u8 k)) (Nat.ne_of_gt (Nat.lt_succ_self _)) (.int .u32 t)) (Nat.ne_of_gt (Nat.lt_succ_self _)) (.int .u64 p)) (Nat.ne_of_gt (Nat.lt_succ_self _)) (.int .u64 n)) (Nat.ne_of_gt (Nat.lt_succ_self _)) (.int .u32 0)) (Nat.ne_of_gt (Nat.lt_succ_self _)) (.int .u16 0)) (Nat.ne_of_gt (Nat.lt_succ_self _)) (.bool false)) (Nat.ne_of_gt (Nat.lt_succ_self _)) (.bool false)) (Nat.ne_of_gt (Nat.lt_succ_self _)) (.slice none 0 0)) (Nat.ne_of_gt (Nat.lt_succ_self _)) (.slice none 0 0)) (Nat.ne_of_gt (Nat.lt_succ_self _)) (.slice At ts.length kt)) (Nat.ne_of_gt (Nat.lt_succ_self _)) (.slice Ad ds.length kd)) 0 (.bool true)
                          simp only [List.setIfInBounds_toArray, List.set_cons_zero, List.set_cons_succ] at k9
                          have f9 := Fr.setCell (Fr.setCell (Fr.setCell (Fr.setCell (Fr.setCell (Fr.setCell (Fr.setCell (Fr.setCell (Fr.setCell (Fr.setCell (Fr.setCell (Fr.setCell (Fr.setCell (FR.out) (p := ⟨w.heap.size, 0, none⟩) (.inl (Nat.le_refl _)) (.int .u8 k)) (p := ⟨w.heap.size, 1, none⟩) (.inl (Nat.le_refl _)) (.int .u32 t)) (p := ⟨w.heap.size, 2, none⟩) (.inl (Nat.le_refl _)) (.int .u64 p)) (p := ⟨w.heap.size, 3, none⟩) (.inl (Nat.le_refl _)) (.int .u64 n)) (p := ⟨w.heap.size, 4, none⟩) (.inl (Nat.le_refl _)) (.int .u32 0)) (p := ⟨w.heap.size, 5, none⟩) (.inl (Nat.le_refl _)) (.int .u16 0)) (p := ⟨w.heap.size, 6, none⟩) (.inl (Nat.le_refl _)) (.bool false)) (p := ⟨w.heap.size, 7, none⟩) (.inl (Nat.le_refl _)) (.bool false)) (p := ⟨w.heap.size, 8, none⟩) (.inl (Nat.le_refl _)) (.slice none 0 0)) (p := ⟨w.heap.size, 9, none⟩) (.inl (Nat.le_refl _)) (.slice none 0 0)) (p := ⟨w.heap.size, 10, none⟩) (.inl (Nat.le_refl _)) (.slice At ts.length kt)) (p := ⟨w.heap.size, 11, none⟩) (.inl (Nat.le_refl _)) (.slice Ad ds.length kd)) (p := ⟨w.heap.size + 1, 0, none⟩) (.inl (Nat.le_succ _)) (.bool true)
                          have OT9 := own_set_far (own_set_far (own_set_far (own_set_far (own_set_far (own_set_far (own_set_far (own_set_far (own_set_far (own_set_far (own_set_far (own_set_far (own_set_far (OT.out) (p := ⟨w.heap.size, 0, none⟩) HGA.out.1 (.int .u8 k)) (p := ⟨w.heap.size, 1, none⟩) HGA.out.1 (.int .u32 t)) (p := ⟨w.heap.size, 2, none⟩) HGA.out.1 (.int .u64 p)) (p := ⟨w.heap.size, 3, none⟩) HGA.out.1 (.int .u64 n)) (p := ⟨w.heap.size, 4, none⟩) HGA.out.1 (.int .u32 0)) (p := ⟨w.heap.size, 5, none⟩) HGA.out.1 (.int .u16 0)) (p := ⟨w.heap.size, 6, none⟩) HGA.out.1 (.bool false)) (p := ⟨w.heap.size, 7, none⟩) HGA.out.1 (.bool false)) (p := ⟨w.heap.size, 8, none⟩) HGA.out.1 (.slice none 0 0)) (p := ⟨w.heap.size, 9, none⟩) HGA.out.1 (.slice none 0 0)) (p := ⟨w.heap.size, 10, none⟩) HGA.out.1 (.slice At ts.length kt)) (p := ⟨w.heap.size, 11, none⟩) HGA.out.1 (.slice Ad ds.length kd)) (p := ⟨w.heap.size + 1, 0, none⟩) HGA.out.2 (.bool true)
                          have OD9 := own_set_far (own_set_far (own_set_far (own_set_far (own_set_far (own_set_far (own_set_far (own_set_far (own_set_far (own_set_far (own_set_far (own_set_far (own_set_far (OD.out) (p := ⟨w.heap.size, 0, none⟩) HGA.out.1 (.int .u8 k)) (p := ⟨w.heap.size, 1, none⟩) HGA.out.1 (.int .u32 t)) (p := ⟨w.heap.size, 2, none⟩) HGA.out.1 (.int .u64 p)) (p := ⟨w.heap.size, 3, none⟩) HGA.out.1 (.int .u64 n)) (p := ⟨w.heap.size, 4, none⟩) HGA.out.1 (.int .u32 0)) (p := ⟨w.heap.size, 5, none⟩) HGA.out.1 (.int .u16 0)) (p := ⟨w.heap.size, 6, none⟩) HGA.out.1 (.bool false)) (p := ⟨w.heap.size, 7, none⟩) HGA.out.1 (.bool false)) (p := ⟨w.heap.size, 8, none⟩) HGA.out.1 (.slice none 0 0)) (p := ⟨w.heap.size, 9, none⟩) HGA.out.1 (.slice none 0 0)) (p := ⟨w.heap.size, 10, none⟩) HGA.out.1 (.slice At ts.length kt)) (p := ⟨w.heap.size, 11, none⟩) HGA.out.1 (.slice Ad ds.length kd)) (p := ⟨w.heap.size + 1, 0, none⟩) HGA.out.2 (.bool true)
                          generalize World.setCell (World.setCell (World.setCell (World.setCell (World.setCell (World.setCell (World.setCell (World.setCell (World.setCell (World.setCell (World.setCell (World.setCell (World.setCell (wm) (⟨w.heap.size, 0, none⟩ : Addr) (.int .u8 k)) (⟨w.heap.size, 1, none⟩ : Addr) (.int .u32 t)) (⟨w.heap.size, 2, none⟩ : Addr) (.int .u64 p)) (⟨w.heap.size, 3, none⟩ : Addr) (.int .u64 n)) (⟨w.heap.size, 4, none⟩ : Addr) (.int .u32 0)) (⟨w.heap.size, 5, none⟩ : Addr) (.int .u16 0)) (⟨w.heap.size, 6, none⟩ : Addr) (.bool false)) (⟨w.heap.size, 7, none⟩ : Addr) (.bool false)) (⟨w.heap.size, 8, none⟩ : Addr) (.slice none 0 0)) (⟨w.heap.size, 9, none⟩ : Addr) (.slice none 0 0)) (⟨w.heap.size, 10, none⟩ : Addr) (.slice At ts.length kt)) (⟨w.heap.size, 11, none⟩ : Addr) (.slice Ad ds.length kd)) (⟨w.heap.size + 1, 0, none⟩ : Addr) (.bool true) = W9 at *
                          refine leaves_cons (f := 45) (args := #[.pointer (some ⟨w.heap.size, 0, none⟩), .pointer (some ⟨w.heap.size + 1, 0, none⟩)]) (by simp) (by simp [go_sem]) ?_
                          refine (catch_none w.heap.size (w.heap.size + 1) _).mono ?_
                          rintro en u' w'' ⟨rfl, rfl, rfl⟩
                          have q0 : W9.cell? ⟨w.heap.size, 0, none⟩ = some (.int .u8 k) := b9.cell 0
                          have q1 : W9.cell? ⟨w.heap.size, 1, none⟩ = some (.int .u32 t) := b9.cell 1
                          have q2 : W9.cell? ⟨w.heap.size, 2, none⟩ = some (.int .u64 p) := b9.cell 2
                          have q3 : W9.cell? ⟨w.heap.size, 3, none⟩ = some (.int .u64 n) := b9.cell 3
                          have q4 : W9.cell? ⟨w.heap.size, 4, none⟩ = some (.int .u32 0) := b9.cell 4
                          have q5 : W9.cell? ⟨w.heap.size, 5, none⟩ = some (.int .u16 0) := b9.cell 5
                          have q6 : W9.cell? ⟨w.heap.size, 6, none⟩ = some (.bool false) := b9.cell 6
                          have q7 : W9.cell? ⟨w.heap.size, 7, none⟩ = some (.bool false) := b9.cell 7
                          have q8 : W9.cell? ⟨w.heap.size, 8, none⟩ = some (.slice none 0 0) := b9.cell 8
                          have q9 : W9.cell? ⟨w.heap.size, 9, none⟩ = some (.slice none 0 0) := b9.cell 9
                          have q10 : W9.cell? ⟨w.heap.size, 10, none⟩ = some (.slice At ts.length kt) := b9.cell 10
                          have q11 : W9.cell? ⟨w.heap.size, 11, none⟩ = some (.slice Ad ds.length kd) := b9.cell 11
                          have qk : W9.cell? ⟨w.heap.size + 1, 0, none⟩ = some (.bool true) := k9.cell 0
                          refine ⟨.tuple #[.agg #[.int .u8 k, .int .u32 t, .int .u64 p, .int .u64 n, .int .u32 0, .int .u16 0, .bool false, .bool false, .slice none 0 0, .slice none 0 0, .slice At ts.length kt, .slice Ad ds.length kd], .bool true], ?_, ?_⟩
                          · simp [results, Try.results35, go_sem, q0, q1, q2, q3, q4, q5, q6, q7, q8, q9, q10, q11, qk]
                          · unfold DecPost
                            rw [HV.out]
                            exact ⟨(.slice none 0 0), (.slice none 0 0), (.slice At ts.length kt), (.slice Ad ds.length kd), rfl, ⟨World.ownsRow_nil _ _ _ _, World.ownsRow_nil _ _ _ _, own_lower OT9 (Nat.le_of_lt HGA.out.1), own_lower OD9 (Nat.le_of_lt HGA.out.1)⟩, f9.to_below (fun x hx => hx) (Nat.le_refl _)⟩
                  · have d8 : (k == 8) = false := by rw [beq_dec]; simp; omega
                    have HK2 := Lib.hid hk2
                    have HK8 := Lib.hid hk8
                    clear hk2 hk8
                    obtain ⟨A9, c9, e9, hl9, hm9⟩ := RD.out.ir.form
                    obtain ⟨L9, hL9⟩ : ∃ n, n = yf.length := ⟨_, rfl⟩
                    rw [← hL9] at e9 hl9
                    subst e9
                    unfold maxLen at hm9
                    have kk := RD.out.box.cell
                    have kR := BR.out.cell
                    have fR := BR.out.frozen
                    by_cases h9 : 0 < L9
                    · have hne : ¬ yf = [] := fun e => by rw [e] at hL9; simp at hL9; omega
                      have HN := Lib.hid (show rDec xs = none by simp [rDec, rBody, rTail, rFull, hne, He_a.out, He_b.out, HSC.out, He_c.out, He_d.out, He_e.out, He_f.out, HK2.out, HK8.out])
                      have d9 : decide ((0 : Int) < (L9 : Int)) = true := by simpa using h9
                      have d9' : decide (0 < L9) = true := by simpa using h9
                      clear h9 hL9
                      go_wp2_with (go_at_call 47; (with_reducible refine (give_up _ _).mono ?_); rintro e z ⟨rfl, rfl⟩)
                      refine leaves_cons (f := 45) (args := #[.pointer (some ⟨w.heap.size, 0, none⟩), .pointer (some ⟨w.heap.size + 1, 0, none⟩)]) (by simp) (by simp [go_sem]) ?_
                      obtain ⟨Cz, hcz, hcs⟩ := out_size BR.out
                      refine (catch_panic w.heap.size (w.heap.size + 1) (by omega) Cz _ hcs hcz false BK.out).mono ?_
                      rintro en u' w'' ⟨rfl, rfl, hb, hk, hf⟩
                      have hfin := FR.out.trans' hf (fun x _ hx => by rcases hx with hx | hx <;> omega)
                      have q0 : w''.cell? ⟨w.heap.size, 0, none⟩ = some (.int .u8 0) := hb.cell 0
                      have q1 : w''.cell? ⟨w.heap.size, 1, none⟩ = some (.int .u32 0) := hb.cell 1
                      have q2 : w''.cell? ⟨w.heap.size, 2, none⟩ = some (.int .u64 0) := hb.cell 2
                      have q3 : w''.cell? ⟨w.heap.size, 3, none⟩ = some (.int .u64 0) := hb.cell 3
                      have q4 : w''.cell? ⟨w.heap.size, 4, none⟩ = some (.int .u32 0) := hb.cell 4
                      have q5 : w''.cell? ⟨w.heap.size, 5, none⟩ = some (.int .u16 0) := hb.cell 5
                      have q6 : w''.cell? ⟨w.heap.size, 6, none⟩ = some (.bool false) := hb.cell 6
                      have q7 : w''.cell? ⟨w.heap.size, 7, none⟩ = some (.bool false) := hb.cell 7
                      have q8 : w''.cell? ⟨w.heap.size, 8, none⟩ = some (.slice none 0 0) := hb.cell 8
                      have q9 : w''.cell? ⟨w.heap.size, 9, none⟩ = some (.slice none 0 0) := hb.cell 9
                      have q10 : w''.cell? ⟨w.heap.size, 10, none⟩ = some (.slice none 0 0) := hb.cell 10
                      have q11 : w''.cell? ⟨w.heap.size, 11, none⟩ = some (.slice none 0 0) := hb.cell 11
                      have qk : w''.cell? ⟨w.heap.size + 1, 0, none⟩ = some (.bool false) := hk.cell 0
                      have HFIN := Lib.hid hfin
                      clear hb hk hf hfin hcz hcs
                      refine ⟨.tuple #[.agg (bareC 0 0 0 0), .bool false], ?_, DecPost.no HN.out (HFIN.out.to_below (fun x hx => hx) (Nat.le_refl _))⟩
                      simp [results, Try.results35, go_sem, q0, q1, q2, q3, q4, q5, q6, q7, q8, q9, q10, q11, qk, bareC]
                    · have h0 : L9 = 0 := by omega
                      have hnil : yf = [] := List.eq_nil_of_length_eq_zero (by omega)
                      have HNIL := Lib.hid hnil
                      subst h0
                      clear h9 hL9 hnil
                      have HRI := Lib.hid (fun W (h : RcIn W W.heap.size ⟨k, t, p, n, nullC, [], []⟩ (.slice none 0 0) (.slice none 0 0) (.slice none 0 0) (.slice none 0 0)) => may_any ⟨k, t, p, n, nullC, [], []⟩ _ _ _ _ W _ (Nat.le_refl _) h)
                      go_wp2_with fail
                      (with_reducible refine (HRI.out _ ⟨IR.nil _ _ _, IR.nil _ _ _, SS.nil _ _, SS.nil _ _⟩).mono ?_)
                      rintro e wm ⟨rfl, hbm⟩
                      have BR' := Lib.hid (BR.out.later hbm)
                      have BK' := Lib.hid (BK.out.later hbm)
                      have FR' := Lib.hid (FR.out.trans (.of_below hbm))
                      have RD' := Lib.hid (RD.out.below hbm)
                      clear BR BK FR RD
                      have BR := BR'
                      have BK := BK'
                      have FR := FR'
                      have RD := RD'
                      clear BR' BK' FR' RD'
                      clear hbm kk kR fR HRI
                      cases hq : mayS ⟨k, t, p, n, nullC, [], []⟩
                      case false =>
                        have HN := Lib.hid (show rDec xs = none by simp [rDec, rBody, rTail, rFull, HNIL.out, hq, He_a.out, He_b.out, HSC.out, He_c.out, He_d.out, He_e.out, He_f.out, HK2.out, HK8.out])
                        have kk := RD.out.box.cell
                        clear hq
                        go_wp2_with (go_at_call 47; (with_reducible refine (give_up _ _).mono ?_); rintro e z ⟨rfl, rfl⟩)
                        refine leaves_cons (f := 45) (args := #[.pointer (some ⟨w.heap.size, 0, none⟩), .pointer (some ⟨w.heap.size + 1, 0, none⟩)]) (by simp) (by simp [go_sem]) ?_
                        obtain ⟨Cz, hcz, hcs⟩ := out_size BR.out
                        refine (catch_panic w.heap.size (w.heap.size + 1) (by omega) Cz _ hcs hcz false BK.out).mono ?_
                        rintro en u' w'' ⟨rfl, rfl, hb, hk, hf⟩
                        have hfin := FR.out.trans' hf (fun x _ hx => by rcases hx with hx | hx <;> omega)
                        have q0 : w''.cell? ⟨w.heap.size, 0, none⟩ = some (.int .u8 0) := hb.cell 0
                        have q1 : w''.cell? ⟨w.heap.size, 1, none⟩ = some (.int .u32 0) := hb.cell 1
                        have q2 : w''.cell? ⟨w.heap.size, 2, none⟩ = some (.int .u64 0) := hb.cell 2
                        have q3 : w''.cell? ⟨w.heap.size, 3, none⟩ = some (.int .u64 0) := hb.cell 3
                        have q4 : w''.cell? ⟨w.heap.size, 4, none⟩ = some (.int .u32 0) := hb.cell 4
                        have q5 : w''.cell? ⟨w.heap.size, 5, none⟩ = some (.int .u16 0) := hb.cell 5
                        have q6 : w''.cell? ⟨w.heap.size, 6, none⟩ = some (.bool false) := hb.cell 6
                        have q7 : w''.cell? ⟨w.heap.size, 7, none⟩ = some (.bool false) := hb.cell 7
                        have q8 : w''.cell? ⟨w.heap.size, 8, none⟩ = some (.slice none 0 0) := hb.cell 8
                        have q9 : w''.cell? ⟨w.heap.size, 9, none⟩ = some (.slice none 0 0) := hb.cell 9
                        have q10 : w''.cell? ⟨w.heap.size, 10, none⟩ = some (.slice none 0 0) := hb.cell 10
                        have q11 : w''.cell? ⟨w.heap.size, 11, none⟩ = some (.slice none 0 0) := hb.cell 11
                        have qk : w''.cell? ⟨w.heap.size + 1, 0, none⟩ = some (.bool false) := hk.cell 0
                        have HFIN := Lib.hid hfin
                        clear hb hk hf hfin hcz hcs
                        refine ⟨.tuple #[.agg (bareC 0 0 0 0), .bool false], ?_, DecPost.no HN.out (HFIN.out.to_below (fun x hx => hx) (Nat.le_refl _))⟩
                        simp [results, Try.results35, go_sem, q0, q1, q2, q3, q4, q5, q6, q7, q8, q9, q10, q11, qk, bareC]
                      case true =>
                        have HV := Lib.hid (show rDec xs = some ⟨k, t, p, n, nullC, [], []⟩ by simp [rDec, rBody, rTail, rFull, HNIL.out, hq, He_a.out, He_b.out, HSC.out, He_c.out, He_d.out, He_e.out, He_f.out, HK2.out, HK8.out])
                        clear hq
                        have k_0 : wm.cell? ⟨w.heap.size, 0, none⟩ = some (.int .u8 k) := BR.out.cell 0
                        have f_0 := BR.out.frozen 0
                        have k_1 : wm.cell? ⟨w.heap.size, 1, none⟩ = some (.int .u32 t) := BR.out.cell 1
                        have f_1 := BR.out.frozen 1
                        have k_2 : wm.cell? ⟨w.heap.size, 2, none⟩ = some (.int .u64 p) := BR.out.cell 2
                        have f_2 := BR.out.frozen 2
                        have k_3 : wm.cell? ⟨w.heap.size, 3, none⟩ = some (.int .u64 n) := BR.out.cell 3
                        have f_3 := BR.out.frozen 3
                        have k_4 : wm.cell? ⟨w.heap.size, 4, none⟩ = some (.int .u32 0) := BR.out.cell 4
                        have f_4 := BR.out.frozen 4
                        have k_5 : wm.cell? ⟨w.heap.size, 5, none⟩ = some (.int .u16 0) := BR.out.cell 5
                        have f_5 := BR.out.frozen 5
                        have k_6 : wm.cell? ⟨w.heap.size, 6, none⟩ = some (.bool false) := BR.out.cell 6
                        have f_6 := BR.out.frozen 6
                        have k_7 : wm.cell? ⟨w.heap.size, 7, none⟩ = some (.bool false) := BR.out.cell 7
                        have f_7 := BR.out.frozen 7
                        have k_8 : wm.cell? ⟨w.heap.size, 8, none⟩ = some (.slice none 0 0) := BR.out.cell 8
                        have f_8 := BR.out.frozen 8
                        have k_9 : wm.cell? ⟨w.heap.size, 9, none⟩ = some (.slice none 0 0) := BR.out.cell 9
                        have f_9 := BR.out.frozen 9
                        have k_10 : wm.cell? ⟨w.heap.size, 10, none⟩ = some (.slice none 0 0) := BR.out.cell 10
                        have f_10 := BR.out.frozen 10
                        have k_11 : wm.cell? ⟨w.heap.size, 11, none⟩ = some (.slice none 0 0) := BR.out.cell 11
                        have f_11 := BR.out.frozen 11
                        have k_k : wm.cell? ⟨w.heap.size + 1, 0, none⟩ = some (.bool false) := BK.out.cell 0
                        have f_k := BK.out.frozen 0
                        go_wp2
                        clear k_0 f_0 k_1 f_1 k_2 f_2 k_3 f_3 k_4 f_4 k_5 f_5 k_6 f_6 k_7 f_7 k_8 f_8 k_9 f_9 k_10 f_10 k_11 f_11 k_k f_k
                        have b9 := Box.far (p := ⟨w.heap.size + 1, 0, none⟩) (Box.set_ (Box.set_ (Box.set_ (Box.set_ (Box.set_ (Box.set_ (Box.set_ (Box.set_ (Box.set_ (Box.set_ (Box.set_ (Box.set_ (BR.out) 0 (.int .u8 k)) 1 (.int .u32 t)) 2 (.int .u64 p)) 3 (.int .u64 n)) 4 (.int .u32 0)) 5 (.int .u16 0)) 6 (.bool false)) 7 (.bool false)) 8 (.slice none 0 0)) 9 (.slice none 0 0)) 10 (.slice none 0 0)) 11 (.slice none 0 0)) (Nat.ne_of_lt (Nat.lt_succ_self _)) (.bool true)
                        simp only [List.setIfInBounds_toArray, List.set_cons_zero, List.set_cons_succ] at b9
                        have k9 := Box.set_ (Box.far (p := ⟨w.heap.size, 11, none⟩) (Box.far (p := ⟨w.heap.size, 10, none⟩) (Box.far (p := ⟨w.heap.size, 9, none⟩) (Box.far (p := ⟨w.heap.size, 8, none⟩) (Box.far (p := ⟨w.heap.size, 7, none⟩) (Box.far (p := ⟨w.heap.size, 6, none⟩) (Box.far (p := ⟨w.heap.size, 5, none⟩) (Box.far (p := ⟨w.heap.size, 4, none⟩) (Box.far (p := ⟨w.heap.size, 3, none⟩) (Box.far (p := ⟨w.heap.size, 2, none⟩) (Box.far (p := ⟨w.heap.size, 1, none⟩) (Box.far (p := ⟨w.heap.size, 0, none⟩) (BK.out) (Nat.ne_of_gt (Nat.lt_succ_self _)) (.int .u8 k)) (Nat.ne_of_gt (Nat.lt_succ_self _)) (.int .u32 t)) (Nat.ne_of_gt (Nat.lt_succ_self _)) (.int .u64 p)) (Nat.ne_of_gt (Nat.lt_succ_self _)) (.int .u64 n)) (Nat.ne_of_gt (Nat.lt_succ_self _)) (.int .u32 0)) (Nat.ne_of_gt (Nat.lt_succ_self _)) (.int .u16 0)) (Nat.ne_of_gt (Nat.lt_succ_self _)) (.bool false)) (Nat.ne_of_gt (Nat.lt_succ_self _)) (.bool false)) (Nat.ne_of_gt (Nat.lt_succ_self _)) (.slice none 0 0)) (Nat.ne_of_gt (Nat.lt_succ_self _)) (.slice none 0 0)) (Nat.ne_of_gt (Nat.lt_succ_self _)) (.slice none 0 0)) (Nat.ne_of_gt (Nat.lt_succ_self _)) (.slice none 0 0)) 0 (.bool true)
                        simp only [List.setIfInBounds_toArray, List.set_cons_zero, List.set_cons_succ] at k9
                        have f9 := Fr.setCell (Fr.setCell (Fr.setCell (Fr.setCell (Fr.setCell (Fr.setCell (Fr.setCell (Fr.setCell (Fr.setCell (Fr.setCell (Fr.setCell (Fr.setCell (Fr.setCell (FR.out) (p := ⟨w.heap.size, 0, none⟩) (.inl (Nat.le_refl _)) (.int .u8 k)) (p := ⟨w.heap.size, 1, none⟩) (.inl (Nat.le_refl _)) (.int .u32 t)) (p := ⟨w.heap.size, 2, none⟩) (.inl (Nat.le_refl _)) (.int .u64 p)) (p := ⟨w.heap.size, 3, none⟩) (.inl (Nat.le_refl _)) (.int .u64 n)) (p := ⟨w.heap.size, 4, none⟩) (.inl (Nat.le_refl _)) (.int .u32 0)) (p := ⟨w.heap.size, 5, none⟩) (.inl (Nat.le_refl _)) (.int .u16 0)) (p := ⟨w.heap.size, 6, none⟩) (.inl (Nat.le_refl _)) (.bool false)) (p := ⟨w.heap.size, 7, none⟩) (.inl (Nat.le_refl _)) (.bool false)) (p := ⟨w.heap.size, 8, none⟩) (.inl (Nat.le_refl _)) (.slice none 0 0)) (p := ⟨w.heap.size, 9, none⟩) (.inl (Nat.le_refl _)) (.slice none 0 0)) (p := ⟨w.heap.size, 10, none⟩) (.inl (Nat.le_refl _)) (.slice none 0 0)) (p := ⟨w.heap.size, 11, none⟩) (.inl (Nat.le_refl _)) (.slice none 0 0)) (p := ⟨w.heap.size + 1, 0, none⟩) (.inl (Nat.le_succ _)) (.bool true)
                        generalize World.setCell (World.setCell (World.setCell (World.setCell (World.setCell (World.setCell (World.setCell (World.setCell (World.setCell (World.setCell (World.setCell (World.setCell (World.setCell (wm) (⟨w.heap.size, 0, none⟩ : Addr) (.int .u8 k)) (⟨w.heap.size, 1, none⟩ : Addr) (.int .u32 t)) (⟨w.heap.size, 2, none⟩ : Addr) (.int .u64 p)) (⟨w.heap.size, 3, none⟩ : Addr) (.int .u64 n)) (⟨w.heap.size, 4, none⟩ : Addr) (.int .u32 0)) (⟨w.heap.size, 5, none⟩ : Addr) (.int .u16 0)) (⟨w.heap.size, 6, none⟩ : Addr) (.bool false)) (⟨w.heap.size, 7, none⟩ : Addr) (.bool false)) (⟨w.heap.size, 8, none⟩ : Addr) (.slice none 0 0)) (⟨w.heap.size, 9, none⟩ : Addr) (.slice none 0 0)) (⟨w.heap.size, 10, none⟩ : Addr) (.slice none 0 0)) (⟨w.heap.size, 11, none⟩ : Addr) (.slice none 0 0)) (⟨w.heap.size + 1, 0, none⟩ : Addr) (.bool true) = W9 at *
                        refine leaves_cons (f := 45) (args := #[.pointer (some ⟨w.heap.size, 0, none⟩), .pointer (some ⟨w.heap.size + 1, 0, none⟩)]) (by simp) (by simp [go_sem]) ?_
                        refine (catch_none w.heap.size (w.heap.size + 1) _).mono ?_
                        rintro en u' w'' ⟨rfl, rfl, rfl⟩
                        have q0 : W9.cell? ⟨w.heap.size, 0, none⟩ = some (.int .u8 k) := b9.cell 0
                        have q1 : W9.cell? ⟨w.heap.size, 1, none⟩ = some (.int .u32 t) := b9.cell 1
                        have q2 : W9.cell? ⟨w.heap.size, 2, none⟩ = some (.int .u64 p) := b9.cell 2
                        have q3 : W9.cell? ⟨w.heap.size, 3, none⟩ = some (.int .u64 n) := b9.cell 3
                        have q4 : W9.cell? ⟨w.heap.size, 4, none⟩ = some (.int .u32 0) := b9.cell 4
                        have q5 : W9.cell? ⟨w.heap.size, 5, none⟩ = some (.int .u16 0) := b9.cell 5
                        have q6 : W9.cell? ⟨w.heap.size, 6, none⟩ = some (.bool false) := b9.cell 6
                        have q7 : W9.cell? ⟨w.heap.size, 7, none⟩ = some (.bool false) := b9.cell 7
                        have q8 : W9.cell? ⟨w.heap.size, 8, none⟩ = some (.slice none 0 0) := b9.cell 8
                        have q9 : W9.cell? ⟨w.heap.size, 9, none⟩ = some (.slice none 0 0) := b9.cell 9
                        have q10 : W9.cell? ⟨w.heap.size, 10, none⟩ = some (.slice none 0 0) := b9.cell 10
                        have q11 : W9.cell? ⟨w.heap.size, 11, none⟩ = some (.slice none 0 0) := b9.cell 11
                        have qk : W9.cell? ⟨w.heap.size + 1, 0, none⟩ = some (.bool true) := k9.cell 0
                        refine ⟨.tuple #[.agg #[.int .u8 k, .int .u32 t, .int .u64 p, .int .u64 n, .int .u32 0, .int .u16 0, .bool false, .bool false, .slice none 0 0, .slice none 0 0, .slice none 0 0, .slice none 0 0], .bool true], ?_, ?_⟩
                        · simp [results, Try.results35, go_sem, q0, q1, q2, q3, q4, q5, q6, q7, q8, q9, q10, q11, qk]
                        · unfold DecPost
                          rw [HV.out]
                          exact ⟨(.slice none 0 0), (.slice none 0 0), (.slice none 0 0), (.slice none 0 0), rfl, ⟨World.ownsRow_nil _ _ _ _, World.ownsRow_nil _ _ _ _, World.ownsRow_nil _ _ _ _, World.ownsRow_nil _ _ _ _⟩, f9.to_below (fun x hx => hx) (Nat.le_refl _)⟩
end Go.Proofs.Ytbbphfhkedldmaa.Rec

/- What is written is read. -/
namespace Go.Proofs.Ytbbphfhkedldmaa.Rec
open Go.ChangeShapes Go.WideShapes Go.ChangeAt Go.RowKit Go.IntWalk Go.Proofs.NumMath Go.Proofs.Mem Go.Proofs.CrcMath NumBytes CrcA
set_option linter.unusedVariables false
set_option linter.unusedSimpArgs false
theorem rNum_put {a : Int} {k : Nat} (hk : k ≤ 8) (ha : 0 ≤ a ∧ a < 2 ^ (8 * k)) (Y : List Int) : rNum k (putS a k ++ Y) = some (a, Y) := by
  unfold rNum
  rw [if_pos (by rw [List.length_append, putS_len]; omega), List.take_left' (putS_len a k), List.drop_left' (putS_len a k), get_put a k hk, Int.emod_eq_of_lt ha.1 ha.2]
theorem rText_put (xs Y : List Int) (h : xs.length ≤ 64) : rText (putS xs.length 1 ++ (xs ++ Y)) = some (xs, Y) := by
  unfold rText
  rw [rNum_put (by decide) (b8 (nat_b8 h))]
  simp only [Int.toNat_natCast]
  rw [if_pos (by simp), List.take_left' rfl, List.drop_left' rfl]
theorem rChg_put (c : Cg) (hc : c.Ok) (hx : c.xs.length ≤ 64) (hy : c.ys.length ≤ 64) (Y : List Int) : rChg (chgS c ++ Y) = some (c, Y) := by
  unfold rChg chgS
  simp only [List.append_assoc]
  rw [rNum_put (by decide) (b32 hc.1)]
  simp only
  rw [rNum_put (by decide) (b16 hc.2.1)]
  simp only
  rw [rNum_put (by decide) (b8 (flag_b _ _))]
  simp only
  rw [if_neg (by cases c.had <;> cases c.has <;> decide), rText_put _ _ hx]
  simp only
  rw [rText_put _ _ hy]
  simp only
  obtain ⟨pg, sl, had, has, xs, ys⟩ := c
  simp only
  cases had <;> cases has <;> rfl
theorem rAc_put (a : Ac) (ha : a.Ok) (Y : List Int) : rAc (acS a ++ Y) = some (a, Y) := by
  unfold rAc acS
  simp only [List.append_assoc]
  rw [rNum_put (by decide) (b32 ha.1)]
  simp only
  rw [rNum_put (by decide) (b64 ha.2.1)]
  simp only
  rw [rNum_put (by decide) (b64 ha.2.2.1)]
  simp only
  rw [rNum_put (by decide) (b8 ha.2.2.2)]
theorem rDt_put (a : Dt) (ha : a.Ok) (Y : List Int) : rDt (dtS a ++ Y) = some (a, Y) := by
  unfold rDt dtS
  simp only [List.append_assoc]
  rw [rNum_put (by decide) (b32 ha.1)]
  simp only
  rw [rNum_put (by decide) (b64 ha.2)]
theorem rMany_put {α : Type} {f : List Int → Option (α × List Int)} {g : α → List Int} {ok : α → Prop} (hf : ∀ a, ok a → ∀ Y, f (g a ++ Y) = some (a, Y)) : ∀ (l : List α), (∀ a ∈ l, ok a) → ∀ Y, rMany f l.length (l.flatMap g ++ Y) = some (l, Y)
  | [], _, Y => rfl
  | a :: l, h, Y => by
    rw [List.flatMap_cons, List.append_assoc, List.length_cons]
    unfold rMany
    rw [hf a (h a (List.mem_cons_self ..))]
    simp only
    rw [rMany_put hf l (fun b hb => h b (List.mem_cons_of_mem _ hb)) Y]
theorem rTab_put (ts : List Ac) (ds : List Dt) (h1 : ∀ x ∈ ts, x.Ok) (h2 : ∀ x ∈ ds, x.Ok) (l1 : ts.length ≤ 64) (l2 : ds.length ≤ 64) (Y : List Int) : rTab (tabS ts ds ++ Y) = some (ts, ds, Y) := by
  unfold rTab tabS
  simp only [List.append_assoc]
  rw [rNum_put (by decide) (b8 (nat_b8 l1))]
  simp only [Int.toNat_natCast]
  unfold acsS
  rw [rMany_put (ok := Ac.Ok) rAc_put ts h1]
  simp only
  rw [rNum_put (by decide) (b8 (nat_b8 l2))]
  simp only [Int.toNat_natCast]
  unfold dtsS
  rw [rMany_put (ok := Dt.Ok) rDt_put ds h2]
theorem rBody_put (r : Rc) (hr : r.Ok) (hm : mayS r = true) : rBody (bodyS r) = some r := by
  have la := may_lens r hm
  obtain ⟨na, ta⟩ := may_more r hm
  unfold rBody bodyS
  simp only [List.append_assoc]
  rw [rNum_put (by decide) (b8 hr.1)]
  simp only
  rw [rNum_put (by decide) (b32 hr.2.1)]
  simp only
  rw [rNum_put (by decide) (b64 hr.2.2.1)]
  simp only
  rw [rNum_put (by decide) (b64 hr.2.2.2.1)]
  simp only
  unfold rTail
  by_cases hk : r.k = 2 ∨ r.k = 3
  · have h8 : ¬ r.k = 8 := by omega
    obtain ⟨e1, e2⟩ := ta h8
    rw [if_pos hk, if_pos hk, if_neg h8, rChg_put _ hr.2.2.2.2.1 la.xs la.ys]
    simp only
    unfold rFull
    rw [show (⟨r.k, r.t, r.p, r.n, r.c, [], []⟩ : Rc) = r by rw [← e1, ← e2], hm]
    simp
  · rw [if_neg hk, if_neg hk, List.nil_append]
    by_cases h8 : r.k = 8
    · rw [if_pos h8, if_pos h8]
      have := rTab_put r.ts r.ds hr.2.2.2.2.2.1 hr.2.2.2.2.2.2 la.ts la.ds []
      rw [List.append_nil] at this
      rw [this]
      simp only
      unfold rFull
      rw [show (⟨r.k, r.t, r.p, r.n, nullC, r.ts, r.ds⟩ : Rc) = r by rw [show nullC = r.c from (na hk).symm], hm]
      simp
    · rw [if_neg h8, if_neg h8]
      obtain ⟨e1, e2⟩ := ta h8
      unfold rFull
      rw [show (⟨r.k, r.t, r.p, r.n, nullC, [], []⟩ : Rc) = r by rw [show nullC = r.c from (na hk).symm, ← e1, ← e2], hm]
      simp
theorem len_bd (r : Rc) (hm : mayS r = true) : 0 ≤ (6 + ((bodyS r).length : Int)) ∧ (6 + ((bodyS r).length : Int)) ≤ 65535 := by
  have := body_len r (may_lens r hm)
  omega
theorem rDec_put (r : Rc) (hr : r.Ok) (hm : mayS r = true) : rDec (encS r) = some r := by
  unfold rDec encS
  rw [List.append_assoc, rNum_put (by decide) (b16 (len_bd r hm))]
  simp only
  have hb := tn_bd (sumF 0#32 (bodyS r))
  rw [rNum_put (by decide) (b32 ⟨hb.1, by omega⟩)]
  simp only
  rw [if_pos trivial, rBody_put r hr hm]
end Go.Proofs.Ytbbphfhkedldmaa.Rec

/- Decode of any bytes. -/
namespace Go.Proofs.Ytbbphfhkedldmaa.Rec
open Go.ChangeShapes Go.WideShapes Go.ChangeAt Go.RowKit Go.IntWalk Go.Proofs.NumMath Go.Proofs.Mem Go.Proofs.CrcMath NumBytes CrcA
set_option linter.unusedVariables false
set_option linter.unusedSimpArgs false
/-- a record's LENGTH -/
def lenB (xs : List Int) : Nat := (getS (xs.take 2)).toNat
/-- what Decode comes to: a record, or which error -/
def resD (xs : List Int) : Option Rc × Int :=
  if xs.length < 27 then (none, 60) else if lenB xs = 0 ∨ xs.length < lenB xs then (none, 60) else match rDec (xs.take (lenB xs)) with
    | none => (none, 61)
    | some r => (some r, 0)
def DecodePost (w : World) (xs : List Int) (e : Ending) (w' : World) : Prop :=
  match resD xs with
  | (none, er) => e = .returned (.tuple #[.agg (bareC 0 0 0 0), .int .i64 0, .int .u16 er]) ∧ Below w.heap.size w w'
  | (some r, _) => ∃ a b ta da, e = .returned (.tuple #[.agg (rcV r a b ta da), .int .i64 (lenB xs), .int .u16 0]) ∧ RcOwn w' w.heap.size r a b ta da ∧ Below w.heap.size w w'
theorem DecodePost.no {w w' : World} {xs : List Int} {er : Int} (h : resD xs = (none, er)) (hb : Below w.heap.size w w') : DecodePost w xs (.returned (.tuple #[.agg (bareC 0 0 0 0), .int .i64 0, .int .u16 er])) w' := by
  unfold DecodePost; rw [h]; exact ⟨rfl, hb⟩
set_option maxRecDepth 100000 in
set_option maxHeartbeats 16000000 in
theorem decode_all_any (w : World) (v : Value) (xs : List Int) (hv : IR w w.heap.size .u8 v xs) (hx : Bytes xs) (hxl : xs.length ≤ 100000) :
    Calls Try.prog 16 #[v] w (DecodePost w xs) := by
  obtain ⟨A, c, rfl, hlc, hcm⟩ := hv.form
  unfold maxLen at hcm
  obtain ⟨L, hL⟩ : ∃ L, L = xs.length := ⟨_, rfl⟩
  rw [← hL] at hv hlc hxl ⊢
  by_cases h27 : L < 27
  · have HN := Lib.hid (show resD xs = (none, 60) by unfold resD; rw [if_pos (by omega)])
    refine (decode_few A L c h27 w).mono ?_
    rintro e w' ⟨rfl, hb⟩
    exact DecodePost.no HN.out hb
  · have hc2 : 2 ≤ c := by omega
    have hc2' : (2 : Int) ≤ (c : Int) := by omega
    have d27 : decide ((L : Int) < 27) = false := by simp; omega
    have hz : IR (w.alloc (.cells (bareC 0 0 0 0) 31)) w.heap.size .u8 (.slice A L c) xs := hv.alloc (Nat.le_refl _) _
    have h2 : IR (w.alloc (.cells (bareC 0 0 0 0) 31)) w.heap.size .u8 (.slice A 2 c) (xs.take 2) := hz.take (by omega)
    obtain ⟨g0, hg0⟩ : ∃ g, g = getS (xs.take 2) := ⟨_, rfl⟩
    have GT := Lib.hid (get_any _ _ (w.alloc (.cells (bareC 0 0 0 0) 31)) w.heap.size h2 (bytes_take hx 2))
    rw [← hg0] at GT
    have hgb : 0 ≤ g0 ∧ g0 < 65536 := by
      rw [hg0]; unfold getS
      have e : min (xs.take 2).length 8 = 2 := by rw [List.length_take]; omega
      rw [e]; exact getTo_bd _ (bytes_take hx 2) 2
    obtain ⟨K, rfl⟩ : ∃ K : Nat, g0 = K := ⟨g0.toNat, by omega⟩
    have hK : lenB xs = K := by unfold lenB; rw [← hg0]; simp
    have wk : IntKind.i64.wrap (K : Int) = (K : Int) := IntWalk.i64_in _ (by omega)
    by_cases hbad : K = 0 ∨ L < K
    · have HN := Lib.hid (show resD xs = (none, 60) by unfold resD; rw [if_neg (by omega), if_pos (by rw [hK]; omega)])
      obtain ⟨q1, hq1⟩ : ∃ q, q = decide (K = 0) := ⟨_, rfl⟩
      obtain ⟨q2, hq2⟩ : ∃ q, q = decide (L < K) := ⟨_, rfl⟩
      have d1 : ((K : Int) == 0) = q1 := by rw [hq1, beq_zero]
      have d2 : decide ((L : Int) < (K : Int)) = q2 := by rw [hq2, decide_eq_decide]; omega
      have d2' : decide (L < K) = q2 := hq2.symm
      have HQ := Lib.hid (show (q1 || q2) = true by rw [hq1, hq2]; simpa using hbad)
      clear hg0 hgb hK hbad h27 hz h2 hv hL hxl hq1 hq2
      go_enter Try.func16, Try.ntmps16
      go_wp2_with fail
      (with_reducible refine GT.out.mono ?_)
      rintro e w1 ⟨rfl, rfl⟩
      cases q1
      · cases q2
        · have := HQ.out; simp at this
        · go_wp2
          refine bodyPost_ret (v := .tuple #[.agg (bareC 0 0 0 0), .int .i64 0, .int .u16 60]) (by simp [results, Try.results16, go_sem]; try rfl) rfl ?_
          exact DecodePost.no HN.out (new_ (Below.refl _ _) _)
      · go_wp2
        refine bodyPost_ret (v := .tuple #[.agg (bareC 0 0 0 0), .int .i64 0, .int .u16 60]) (by simp [results, Try.results16, go_sem]; try rfl) rfl ?_
        exact DecodePost.no HN.out (new_ (Below.refl _ _) _)
    · have d1 : ((K : Int) == 0) = false := by rw [beq_zero]; simp; omega
      have d2 : decide ((L : Int) < (K : Int)) = false := by simp; omega
      have d2' : decide (L < K) = false := by simp; omega
      have b1 : (0 : Int) ≤ (K : Int) := by omega
      have b2 : (K : Int) ≤ (c : Int) := by omega
      have hkL : K ≤ L := by omega
      have DB := Lib.hid (decode_any (w.alloc (.cells (bareC 0 0 0 0) 31)) w.heap.size (by simp) _ _ (hz.take hkL) (bytes_take hx K) (by rw [List.length_take]; omega))
      have BR0 := Lib.hid (Box.new w (bareC 0 0 0 0) 31)
      have HR := Lib.hid (show ∀ o, rDec (xs.take K) = o → resD xs = (match o with | none => (none, 61) | some r => (some r, 0)) from fun o ho => by unfold resD; rw [if_neg (by omega), if_neg (by rw [hK]; omega), hK, ho])
      have HK := Lib.hid hK
      clear hg0 hgb hK hbad h27 hz h2 hv hL hxl
      go_enter Try.func16, Try.ntmps16
      go_wp2_with fail
      (with_reducible refine GT.out.mono ?_)
      rintro e w1 ⟨rfl, rfl⟩
      go_wp2_with fail
      (with_reducible refine DB.out.mono ?_)
      rintro e w1 hz
      unfold DecPost at hz
      cases eD : rDec (xs.take K) with
      | none =>
        rw [eD] at hz
        obtain ⟨rfl, hb1⟩ := hz
        have HN := Lib.hid (HR.out none eD)
        have BR1 := Lib.hid (BR0.out.later hb1)
        have HW1 := Lib.hid (step_ (new_ (Below.refl w.heap.size w) _) hb1)
        have HL := Lib.hid (BR0.out.later hb1).lt
        clear hb1 eD
        have hb2 := BR1.out.alloc (.cells (bareC 0 0 0 0) 31)
        have a_0 : (w1.alloc (.cells (bareC 0 0 0 0) 31)).cell? ⟨w.heap.size, 0, none⟩ = some (.int .u8 0) := hb2.cell 0
        have f_0 := hb2.frozen 0
        have a_1 : (w1.alloc (.cells (bareC 0 0 0 0) 31)).cell? ⟨w.heap.size, 1, none⟩ = some (.int .u32 0) := hb2.cell 1
        have f_1 := hb2.frozen 1
        have a_2 : (w1.alloc (.cells (bareC 0 0 0 0) 31)).cell? ⟨w.heap.size, 2, none⟩ = some (.int .u64 0) := hb2.cell 2
        have f_2 := hb2.frozen 2
        have a_3 : (w1.alloc (.cells (bareC 0 0 0 0) 31)).cell? ⟨w.heap.size, 3, none⟩ = some (.int .u64 0) := hb2.cell 3
        have f_3 := hb2.frozen 3
        have a_4 : (w1.alloc (.cells (bareC 0 0 0 0) 31)).cell? ⟨w.heap.size, 4, none⟩ = some (.int .u32 0) := hb2.cell 4
        have f_4 := hb2.frozen 4
        have a_5 : (w1.alloc (.cells (bareC 0 0 0 0) 31)).cell? ⟨w.heap.size, 5, none⟩ = some (.int .u16 0) := hb2.cell 5
        have f_5 := hb2.frozen 5
        have a_6 : (w1.alloc (.cells (bareC 0 0 0 0) 31)).cell? ⟨w.heap.size, 6, none⟩ = some (.bool false) := hb2.cell 6
        have f_6 := hb2.frozen 6
        have a_7 : (w1.alloc (.cells (bareC 0 0 0 0) 31)).cell? ⟨w.heap.size, 7, none⟩ = some (.bool false) := hb2.cell 7
        have f_7 := hb2.frozen 7
        have a_8 : (w1.alloc (.cells (bareC 0 0 0 0) 31)).cell? ⟨w.heap.size, 8, none⟩ = some (.slice none 0 0) := hb2.cell 8
        have f_8 := hb2.frozen 8
        have a_9 : (w1.alloc (.cells (bareC 0 0 0 0) 31)).cell? ⟨w.heap.size, 9, none⟩ = some (.slice none 0 0) := hb2.cell 9
        have f_9 := hb2.frozen 9
        have a_10 : (w1.alloc (.cells (bareC 0 0 0 0) 31)).cell? ⟨w.heap.size, 10, none⟩ = some (.slice none 0 0) := hb2.cell 10
        have f_10 := hb2.frozen 10
        have a_11 : (w1.alloc (.cells (bareC 0 0 0 0) 31)).cell? ⟨w.heap.size, 11, none⟩ = some (.slice none 0 0) := hb2.cell 11
        have f_11 := hb2.frozen 11
        have HB2 := Lib.hid hb2
        clear hb2
        go_wp2
        have b9 := Box.set_ (Box.set_ (Box.set_ (Box.set_ (Box.set_ (Box.set_ (Box.set_ (Box.set_ (Box.set_ (Box.set_ (Box.set_ (Box.set_ (HB2.out) 0 (.int .u8 0)) 1 (.int .u32 0)) 2 (.int .u64 0)) 3 (.int .u64 0)) 4 (.int .u32 0)) 5 (.int .u16 0)) 6 (.bool false)) 7 (.bool false)) 8 (.slice none 0 0)) 9 (.slice none 0 0)) 10 (.slice none 0 0)) 11 (.slice none 0 0)
        simp only [bareC, rcV, List.setIfInBounds_toArray, List.set_cons_zero, List.set_cons_succ] at b9
        have l9 := Below.setCell (Below.setCell (Below.setCell (Below.setCell (Below.setCell (Below.setCell (Below.setCell (Below.setCell (Below.setCell (Below.setCell (Below.setCell (Below.setCell (new_ HW1.out (.cells (bareC 0 0 0 0) 31)) (p := ⟨w.heap.size, 0, none⟩) (Nat.le_refl _) (.int .u8 0)) (p := ⟨w.heap.size, 1, none⟩) (Nat.le_refl _) (.int .u32 0)) (p := ⟨w.heap.size, 2, none⟩) (Nat.le_refl _) (.int .u64 0)) (p := ⟨w.heap.size, 3, none⟩) (Nat.le_refl _) (.int .u64 0)) (p := ⟨w.heap.size, 4, none⟩) (Nat.le_refl _) (.int .u32 0)) (p := ⟨w.heap.size, 5, none⟩) (Nat.le_refl _) (.int .u16 0)) (p := ⟨w.heap.size, 6, none⟩) (Nat.le_refl _) (.bool false)) (p := ⟨w.heap.size, 7, none⟩) (Nat.le_refl _) (.bool false)) (p := ⟨w.heap.size, 8, none⟩) (Nat.le_refl _) (.slice none 0 0)) (p := ⟨w.heap.size, 9, none⟩) (Nat.le_refl _) (.slice none 0 0)) (p := ⟨w.heap.size, 10, none⟩) (Nat.le_refl _) (.slice none 0 0)) (p := ⟨w.heap.size, 11, none⟩) (Nat.le_refl _) (.slice none 0 0)
        clear a_0 f_0 a_1 f_1 a_2 f_2 a_3 f_3 a_4 f_4 a_5 f_5 a_6 f_6 a_7 f_7 a_8 f_8 a_9 f_9 a_10 f_10 a_11 f_11
        generalize World.setCell (World.setCell (World.setCell (World.setCell (World.setCell (World.setCell (World.setCell (World.setCell (World.setCell (World.setCell (World.setCell (World.setCell ((w1.alloc (.cells (bareC 0 0 0 0) 31))) (⟨w.heap.size, 0, none⟩ : Addr) (.int .u8 0)) (⟨w.heap.size, 1, none⟩ : Addr) (.int .u32 0)) (⟨w.heap.size, 2, none⟩ : Addr) (.int .u64 0)) (⟨w.heap.size, 3, none⟩ : Addr) (.int .u64 0)) (⟨w.heap.size, 4, none⟩ : Addr) (.int .u32 0)) (⟨w.heap.size, 5, none⟩ : Addr) (.int .u16 0)) (⟨w.heap.size, 6, none⟩ : Addr) (.bool false)) (⟨w.heap.size, 7, none⟩ : Addr) (.bool false)) (⟨w.heap.size, 8, none⟩ : Addr) (.slice none 0 0)) (⟨w.heap.size, 9, none⟩ : Addr) (.slice none 0 0)) (⟨w.heap.size, 10, none⟩ : Addr) (.slice none 0 0)) (⟨w.heap.size, 11, none⟩ : Addr) (.slice none 0 0) = W9 at *
        have q0 : W9.cell? ⟨w.heap.size, 0, none⟩ = some (.int .u8 0) := b9.cell 0
        have q1 : W9.cell? ⟨w.heap.size, 1, none⟩ = some (.int .u32 0) := b9.cell 1
        have q2 : W9.cell? ⟨w.heap.size, 2, none⟩ = some (.int .u64 0) := b9.cell 2
        have q3 : W9.cell? ⟨w.heap.size, 3, none⟩ = some (.int .u64 0) := b9.cell 3
        have q4 : W9.cell? ⟨w.heap.size, 4, none⟩ = some (.int .u32 0) := b9.cell 4
        have q5 : W9.cell? ⟨w.heap.size, 5, none⟩ = some (.int .u16 0) := b9.cell 5
        have q6 : W9.cell? ⟨w.heap.size, 6, none⟩ = some (.bool false) := b9.cell 6
        have q7 : W9.cell? ⟨w.heap.size, 7, none⟩ = some (.bool false) := b9.cell 7
        have q8 : W9.cell? ⟨w.heap.size, 8, none⟩ = some (.slice none 0 0) := b9.cell 8
        have q9 : W9.cell? ⟨w.heap.size, 9, none⟩ = some (.slice none 0 0) := b9.cell 9
        have q10 : W9.cell? ⟨w.heap.size, 10, none⟩ = some (.slice none 0 0) := b9.cell 10
        have q11 : W9.cell? ⟨w.heap.size, 11, none⟩ = some (.slice none 0 0) := b9.cell 11
        refine bodyPost_ret (v := .tuple #[.agg (bareC 0 0 0 0), .int .i64 0, .int .u16 61]) (by simp [results, Try.results16, go_sem, bareC, q0, q1, q2, q3, q4, q5, q6, q7, q8, q9, q10, q11]) rfl ?_
        exact DecodePost.no HN.out l9
      | some r =>
        rw [eD] at hz
        obtain ⟨a, b, ta, da, rfl, ri, hb1⟩ := hz
        have hV := HR.out (some r) eD
        simp only at hV
        have HV := Lib.hid hV
        obtain ⟨A1, k1, e1, _, _⟩ := ri.in_.a.form
        obtain ⟨A2, k2, e2, _, _⟩ := ri.in_.b.form
        obtain ⟨A3, k3, e3, _, _⟩ := ri.in_.t.form
        obtain ⟨A4, k4, e4, _, _⟩ := ri.in_.d.form
        subst e1 e2 e3 e4
        have BR1 := Lib.hid (BR0.out.later hb1)
        have HW1 := Lib.hid (step_ (new_ (Below.refl w.heap.size w) _) hb1)
        have HL := Lib.hid (BR0.out.later hb1).lt
        have RI := Lib.hid ri
        clear hb1 eD ri hV
        have hb2 := BR1.out.alloc (.cells (rcV r (.slice A1 r.c.xs.length k1) (.slice A2 r.c.ys.length k2) (.slice A3 r.ts.length k3) (.slice A4 r.ds.length k4)) 31)
        have a_0 : (w1.alloc (.cells (rcV r (.slice A1 r.c.xs.length k1) (.slice A2 r.c.ys.length k2) (.slice A3 r.ts.length k3) (.slice A4 r.ds.length k4)) 31)).cell? ⟨w.heap.size, 0, none⟩ = some (.int .u8 0) := hb2.cell 0
        have f_0 := hb2.frozen 0
        have a_1 : (w1.alloc (.cells (rcV r (.slice A1 r.c.xs.length k1) (.slice A2 r.c.ys.length k2) (.slice A3 r.ts.length k3) (.slice A4 r.ds.length k4)) 31)).cell? ⟨w.heap.size, 1, none⟩ = some (.int .u32 0) := hb2.cell 1
        have f_1 := hb2.frozen 1
        have a_2 : (w1.alloc (.cells (rcV r (.slice A1 r.c.xs.length k1) (.slice A2 r.c.ys.length k2) (.slice A3 r.ts.length k3) (.slice A4 r.ds.length k4)) 31)).cell? ⟨w.heap.size, 2, none⟩ = some (.int .u64 0) := hb2.cell 2
        have f_2 := hb2.frozen 2
        have a_3 : (w1.alloc (.cells (rcV r (.slice A1 r.c.xs.length k1) (.slice A2 r.c.ys.length k2) (.slice A3 r.ts.length k3) (.slice A4 r.ds.length k4)) 31)).cell? ⟨w.heap.size, 3, none⟩ = some (.int .u64 0) := hb2.cell 3
        have f_3 := hb2.frozen 3
        have a_4 : (w1.alloc (.cells (rcV r (.slice A1 r.c.xs.length k1) (.slice A2 r.c.ys.length k2) (.slice A3 r.ts.length k3) (.slice A4 r.ds.length k4)) 31)).cell? ⟨w.heap.size, 4, none⟩ = some (.int .u32 0) := hb2.cell 4
        have f_4 := hb2.frozen 4
        have a_5 : (w1.alloc (.cells (rcV r (.slice A1 r.c.xs.length k1) (.slice A2 r.c.ys.length k2) (.slice A3 r.ts.length k3) (.slice A4 r.ds.length k4)) 31)).cell? ⟨w.heap.size, 5, none⟩ = some (.int .u16 0) := hb2.cell 5
        have f_5 := hb2.frozen 5
        have a_6 : (w1.alloc (.cells (rcV r (.slice A1 r.c.xs.length k1) (.slice A2 r.c.ys.length k2) (.slice A3 r.ts.length k3) (.slice A4 r.ds.length k4)) 31)).cell? ⟨w.heap.size, 6, none⟩ = some (.bool false) := hb2.cell 6
        have f_6 := hb2.frozen 6
        have a_7 : (w1.alloc (.cells (rcV r (.slice A1 r.c.xs.length k1) (.slice A2 r.c.ys.length k2) (.slice A3 r.ts.length k3) (.slice A4 r.ds.length k4)) 31)).cell? ⟨w.heap.size, 7, none⟩ = some (.bool false) := hb2.cell 7
        have f_7 := hb2.frozen 7
        have a_8 : (w1.alloc (.cells (rcV r (.slice A1 r.c.xs.length k1) (.slice A2 r.c.ys.length k2) (.slice A3 r.ts.length k3) (.slice A4 r.ds.length k4)) 31)).cell? ⟨w.heap.size, 8, none⟩ = some (.slice none 0 0) := hb2.cell 8
        have f_8 := hb2.frozen 8
        have a_9 : (w1.alloc (.cells (rcV r (.slice A1 r.c.xs.length k1) (.slice A2 r.c.ys.length k2) (.slice A3 r.ts.length k3) (.slice A4 r.ds.length k4)) 31)).cell? ⟨w.heap.size, 9, none⟩ = some (.slice none 0 0) := hb2.cell 9
        have f_9 := hb2.frozen 9
        have a_10 : (w1.alloc (.cells (rcV r (.slice A1 r.c.xs.length k1) (.slice A2 r.c.ys.length k2) (.slice A3 r.ts.length k3) (.slice A4 r.ds.length k4)) 31)).cell? ⟨w.heap.size, 10, none⟩ = some (.slice none 0 0) := hb2.cell 10
        have f_10 := hb2.frozen 10
        have a_11 : (w1.alloc (.cells (rcV r (.slice A1 r.c.xs.length k1) (.slice A2 r.c.ys.length k2) (.slice A3 r.ts.length k3) (.slice A4 r.ds.length k4)) 31)).cell? ⟨w.heap.size, 11, none⟩ = some (.slice none 0 0) := hb2.cell 11
        have f_11 := hb2.frozen 11
        have HB2 := Lib.hid hb2
        clear hb2
        go_wp2
        have b9 := Box.set_ (Box.set_ (Box.set_ (Box.set_ (Box.set_ (Box.set_ (Box.set_ (Box.set_ (Box.set_ (Box.set_ (Box.set_ (Box.set_ (HB2.out) 0 (.int .u8 r.k)) 1 (.int .u32 r.t)) 2 (.int .u64 r.p)) 3 (.int .u64 r.n)) 4 (.int .u32 r.c.pg)) 5 (.int .u16 r.c.sl)) 6 (.bool r.c.had)) 7 (.bool r.c.has)) 8 (.slice A1 r.c.xs.length k1)) 9 (.slice A2 r.c.ys.length k2)) 10 (.slice A3 r.ts.length k3)) 11 (.slice A4 r.ds.length k4)
        simp only [bareC, rcV, List.setIfInBounds_toArray, List.set_cons_zero, List.set_cons_succ] at b9
        have l9 := Below.setCell (Below.setCell (Below.setCell (Below.setCell (Below.setCell (Below.setCell (Below.setCell (Below.setCell (Below.setCell (Below.setCell (Below.setCell (Below.setCell (new_ HW1.out (.cells (rcV r (.slice A1 r.c.xs.length k1) (.slice A2 r.c.ys.length k2) (.slice A3 r.ts.length k3) (.slice A4 r.ds.length k4)) 31)) (p := ⟨w.heap.size, 0, none⟩) (Nat.le_refl _) (.int .u8 r.k)) (p := ⟨w.heap.size, 1, none⟩) (Nat.le_refl _) (.int .u32 r.t)) (p := ⟨w.heap.size, 2, none⟩) (Nat.le_refl _) (.int .u64 r.p)) (p := ⟨w.heap.size, 3, none⟩) (Nat.le_refl _) (.int .u64 r.n)) (p := ⟨w.heap.size, 4, none⟩) (Nat.le_refl _) (.int .u32 r.c.pg)) (p := ⟨w.heap.size, 5, none⟩) (Nat.le_refl _) (.int .u16 r.c.sl)) (p := ⟨w.heap.size, 6, none⟩) (Nat.le_refl _) (.bool r.c.had)) (p := ⟨w.heap.size, 7, none⟩) (Nat.le_refl _) (.bool r.c.has)) (p := ⟨w.heap.size, 8, none⟩) (Nat.le_refl _) (.slice A1 r.c.xs.length k1)) (p := ⟨w.heap.size, 9, none⟩) (Nat.le_refl _) (.slice A2 r.c.ys.length k2)) (p := ⟨w.heap.size, 10, none⟩) (Nat.le_refl _) (.slice A3 r.ts.length k3)) (p := ⟨w.heap.size, 11, none⟩) (Nat.le_refl _) (.slice A4 r.ds.length k4)
        have r9 := RcOwn.far (RcOwn.far (RcOwn.far (RcOwn.far (RcOwn.far (RcOwn.far (RcOwn.far (RcOwn.far (RcOwn.far (RcOwn.far (RcOwn.far (RcOwn.far (RI.out.later (new_ (Below.refl _ _) (.cells (rcV r (.slice A1 r.c.xs.length k1) (.slice A2 r.c.ys.length k2) (.slice A3 r.ts.length k3) (.slice A4 r.ds.length k4)) 31))) (p := ⟨w.heap.size, 0, none⟩) (by simp) (.int .u8 r.k)) (p := ⟨w.heap.size, 1, none⟩) (by simp) (.int .u32 r.t)) (p := ⟨w.heap.size, 2, none⟩) (by simp) (.int .u64 r.p)) (p := ⟨w.heap.size, 3, none⟩) (by simp) (.int .u64 r.n)) (p := ⟨w.heap.size, 4, none⟩) (by simp) (.int .u32 r.c.pg)) (p := ⟨w.heap.size, 5, none⟩) (by simp) (.int .u16 r.c.sl)) (p := ⟨w.heap.size, 6, none⟩) (by simp) (.bool r.c.had)) (p := ⟨w.heap.size, 7, none⟩) (by simp) (.bool r.c.has)) (p := ⟨w.heap.size, 8, none⟩) (by simp) (.slice A1 r.c.xs.length k1)) (p := ⟨w.heap.size, 9, none⟩) (by simp) (.slice A2 r.c.ys.length k2)) (p := ⟨w.heap.size, 10, none⟩) (by simp) (.slice A3 r.ts.length k3)) (p := ⟨w.heap.size, 11, none⟩) (by simp) (.slice A4 r.ds.length k4)
        clear a_0 f_0 a_1 f_1 a_2 f_2 a_3 f_3 a_4 f_4 a_5 f_5 a_6 f_6 a_7 f_7 a_8 f_8 a_9 f_9 a_10 f_10 a_11 f_11
        generalize World.setCell (World.setCell (World.setCell (World.setCell (World.setCell (World.setCell (World.setCell (World.setCell (World.setCell (World.setCell (World.setCell (World.setCell ((w1.alloc (.cells (rcV r (.slice A1 r.c.xs.length k1) (.slice A2 r.c.ys.length k2) (.slice A3 r.ts.length k3) (.slice A4 r.ds.length k4)) 31))) (⟨w.heap.size, 0, none⟩ : Addr) (.int .u8 r.k)) (⟨w.heap.size, 1, none⟩ : Addr) (.int .u32 r.t)) (⟨w.heap.size, 2, none⟩ : Addr) (.int .u64 r.p)) (⟨w.heap.size, 3, none⟩ : Addr) (.int .u64 r.n)) (⟨w.heap.size, 4, none⟩ : Addr) (.int .u32 r.c.pg)) (⟨w.heap.size, 5, none⟩ : Addr) (.int .u16 r.c.sl)) (⟨w.heap.size, 6, none⟩ : Addr) (.bool r.c.had)) (⟨w.heap.size, 7, none⟩ : Addr) (.bool r.c.has)) (⟨w.heap.size, 8, none⟩ : Addr) (.slice A1 r.c.xs.length k1)) (⟨w.heap.size, 9, none⟩ : Addr) (.slice A2 r.c.ys.length k2)) (⟨w.heap.size, 10, none⟩ : Addr) (.slice A3 r.ts.length k3)) (⟨w.heap.size, 11, none⟩ : Addr) (.slice A4 r.ds.length k4) = W9 at *
        have q0 : W9.cell? ⟨w.heap.size, 0, none⟩ = some (.int .u8 r.k) := b9.cell 0
        have q1 : W9.cell? ⟨w.heap.size, 1, none⟩ = some (.int .u32 r.t) := b9.cell 1
        have q2 : W9.cell? ⟨w.heap.size, 2, none⟩ = some (.int .u64 r.p) := b9.cell 2
        have q3 : W9.cell? ⟨w.heap.size, 3, none⟩ = some (.int .u64 r.n) := b9.cell 3
        have q4 : W9.cell? ⟨w.heap.size, 4, none⟩ = some (.int .u32 r.c.pg) := b9.cell 4
        have q5 : W9.cell? ⟨w.heap.size, 5, none⟩ = some (.int .u16 r.c.sl) := b9.cell 5
        have q6 : W9.cell? ⟨w.heap.size, 6, none⟩ = some (.bool r.c.had) := b9.cell 6
        have q7 : W9.cell? ⟨w.heap.size, 7, none⟩ = some (.bool r.c.has) := b9.cell 7
        have q8 : W9.cell? ⟨w.heap.size, 8, none⟩ = some (.slice A1 r.c.xs.length k1) := b9.cell 8
        have q9 : W9.cell? ⟨w.heap.size, 9, none⟩ = some (.slice A2 r.c.ys.length k2) := b9.cell 9
        have q10 : W9.cell? ⟨w.heap.size, 10, none⟩ = some (.slice A3 r.ts.length k3) := b9.cell 10
        have q11 : W9.cell? ⟨w.heap.size, 11, none⟩ = some (.slice A4 r.ds.length k4) := b9.cell 11
        refine bodyPost_ret (v := .tuple #[.agg #[.int .u8 r.k, .int .u32 r.t, .int .u64 r.p, .int .u64 r.n, .int .u32 r.c.pg, .int .u16 r.c.sl, .bool r.c.had, .bool r.c.has, .slice A1 r.c.xs.length k1, .slice A2 r.c.ys.length k2, .slice A3 r.ts.length k3, .slice A4 r.ds.length k4], .int .i64 K, .int .u16 0]) (by simp [results, Try.results16, go_sem, q0, q1, q2, q3, q4, q5, q6, q7, q8, q9, q10, q11]) rfl ?_
        unfold DecodePost
        rw [HV.out, HK.out]
        exact ⟨_, _, _, _, rfl, r9.lower (by simp), l9⟩
end Go.Proofs.Ytbbphfhkedldmaa.Rec

/- What stands behind a record makes no difference; a front of it is not enough. -/
namespace Go.Proofs.Ytbbphfhkedldmaa.Rec
open Go.ChangeShapes Go.WideShapes Go.ChangeAt Go.RowKit Go.IntWalk Go.Proofs.NumMath Go.Proofs.Mem Go.Proofs.CrcMath NumBytes CrcA
set_option linter.unusedVariables false
set_option linter.unusedSimpArgs false
theorem enc_two (r : Rc) (Y : List Int) : (encS r ++ Y).take 2 = putS (6 + (bodyS r).length) 2 := by
  unfold encS; rw [List.append_assoc, List.append_assoc, List.take_left' (putS_len _ 2)]
theorem lenB_two (r : Rc) (hm : mayS r = true) {xs : List Int} (h : xs.take 2 = putS (6 + (bodyS r).length) 2) : lenB xs = (encS r).length := by
  have hb := len_bd r hm
  unfold lenB
  rw [h, get_put _ 2 (by decide), enc_len, show (2 : Int) ^ (8 * 2) = 65536 from rfl, Int.emod_eq_of_lt hb.1 (by omega)]
  omega
theorem enc_min (r : Rc) (hm : mayS r = true) : 27 ≤ (encS r).length := by
  have := body_len r (may_lens r hm); rw [enc_len]; omega
theorem resD_enc (r : Rc) (hr : r.Ok) (hm : mayS r = true) (Y : List Int) : resD (encS r ++ Y) = (some r, 0) ∧ lenB (encS r ++ Y) = (encS r).length := by
  have hl := lenB_two r hm (enc_two r Y)
  have h27 := enc_min r hm
  refine ⟨?_, hl⟩
  unfold resD
  rw [hl, if_neg (by rw [List.length_append]; omega), if_neg (by rw [List.length_append]; omega), List.take_left' rfl, rDec_put r hr hm]
theorem resD_front (r : Rc) (hm : mayS r = true) (m : Nat) (h : m < (encS r).length) : resD ((encS r).take m) = (none, 60) := by
  unfold resD
  by_cases h27 : ((encS r).take m).length < 27
  · rw [if_pos h27]
  · have hlm : ((encS r).take m).length = m := by rw [List.length_take]; omega
    have e : ((encS r).take m).take 2 = putS (6 + (bodyS r).length) 2 := by
      rw [List.take_take, Nat.min_eq_left (by omega)]
      have := enc_two r []
      rwa [List.append_nil] at this
    rw [if_neg h27, if_pos (.inr (by rw [lenB_two r hm e, hlm]; exact h))]
end Go.Proofs.Ytbbphfhkedldmaa.Rec

/- What is read has just these bytes. -/
namespace Go.Proofs.Ytbbphfhkedldmaa.Rec
open Go.ChangeShapes Go.WideShapes Go.ChangeAt Go.RowKit Go.IntWalk Go.Proofs.NumMath Go.Proofs.Mem Go.Proofs.CrcMath NumBytes CrcA
set_option linter.unusedVariables false
set_option linter.unusedSimpArgs false
theorem rNum_inv {n : Nat} {xs ys : List Int} {a : Int} (h : rNum n xs = some (a, ys)) (hn : n ≤ 8) (hx : Bytes xs) : xs = putS a n ++ ys := by
  obtain ⟨h1, rfl, rfl⟩ := rNum_some h
  have e := Codec.put_get (xs.take n) (bytes_take hx n) (by rw [List.length_take]; omega)
  rw [List.length_take, Nat.min_eq_left h1] at e
  rw [e, List.take_append_drop]
theorem rText_inv {xs ys zs : List Int} (h : rText xs = some (ys, zs)) (hx : Bytes xs) : xs = putS ys.length 1 ++ ys ++ zs := by
  unfold rText at h
  cases e : rNum 1 xs with
  | none => rw [e] at h; cases h
  | some p =>
    obtain ⟨k, us⟩ := p
    rw [e] at h
    simp only at h
    have hk := rNum_bd (by decide) e hx
    have hi := rNum_inv e (by decide) hx
    split at h
    · injection h with h
      injection h with h1 h2
      subst h1 h2
      rw [List.length_take, Nat.min_eq_left (by assumption), show ((k.toNat : Nat) : Int) = k from Int.toNat_of_nonneg hk.1, List.append_assoc, List.take_append_drop]
      exact hi
    · cases h
theorem flag_back (f : Int) (h0 : 0 ≤ f) (h3 : ¬ 3 < f) : flagS (decide (f % 2 = 1)) (decide (f / 2 % 2 = 1)) = f := by
  have : f = 0 ∨ f = 1 ∨ f = 2 ∨ f = 3 := by omega
  rcases this with rfl | rfl | rfl | rfl <;> decide
theorem nb8 {a : Int} (h : 0 ≤ a ∧ a < 2 ^ (8 * 1)) : 0 ≤ a ∧ a ≤ 255 := by rw [show (2 : Int) ^ (8 * 1) = 256 from rfl] at h; omega
theorem nb16 {a : Int} (h : 0 ≤ a ∧ a < 2 ^ (8 * 2)) : 0 ≤ a ∧ a ≤ 65535 := by rw [show (2 : Int) ^ (8 * 2) = 65536 from rfl] at h; omega
theorem nb32 {a : Int} (h : 0 ≤ a ∧ a < 2 ^ (8 * 4)) : 0 ≤ a ∧ a ≤ 4294967295 := by rw [show (2 : Int) ^ (8 * 4) = 4294967296 from rfl] at h; omega
theorem nb64 {a : Int} (h : 0 ≤ a ∧ a < 2 ^ (8 * 8)) : 0 ≤ a ∧ a ≤ 18446744073709551615 := by rw [show (2 : Int) ^ (8 * 8) = 18446744073709551616 from rfl] at h; omega
theorem rChg_inv {xs zs : List Int} {c : Cg} (h : rChg xs = some (c, zs)) (hx : Bytes xs) : xs = chgS c ++ zs ∧ c.Ok ∧ Bytes zs := by
  unfold rChg at h
  cases e1 : rNum 4 xs with
  | none => rw [e1] at h; cases h
  | some p1 =>
  obtain ⟨pg, a⟩ := p1
  rw [e1] at h
  simp only at h
  have ha := rNum_bytes e1 hx
  cases e2 : rNum 2 a with
  | none => rw [e2] at h; cases h
  | some p2 =>
  obtain ⟨sl, b⟩ := p2
  rw [e2] at h
  simp only at h
  have hb := rNum_bytes e2 ha
  cases e3 : rNum 1 b with
  | none => rw [e3] at h; cases h
  | some p3 =>
  obtain ⟨f, cc⟩ := p3
  rw [e3] at h
  simp only at h
  have hcc := rNum_bytes e3 hb
  split at h
  · cases h
  rename_i h3
  cases e4 : rText cc with
  | none => rw [e4] at h; cases h
  | some p4 =>
  obtain ⟨x, d⟩ := p4
  rw [e4] at h
  simp only at h
  have hd := rText_bytes e4 hcc
  cases e5 : rText d with
  | none => rw [e5] at h; cases h
  | some p5 =>
  obtain ⟨y, z⟩ := p5
  rw [e5] at h
  simp only at h
  have hz := rText_bytes e5 hd.2.1
  injection h with h
  injection h with h1 h2
  subst h1 h2
  refine ⟨?_, ⟨nb32 (rNum_bd (by decide) e1 hx), nb16 (rNum_bd (by decide) e2 ha), hd.1, hz.1⟩, hz.2.1⟩
  unfold chgS
  simp only
  rw [flag_back f (rNum_bd (by decide) e3 hb).1 h3]
  rw [rNum_inv e1 (by decide) hx, rNum_inv e2 (by decide) ha, rNum_inv e3 (by decide) hb, rText_inv e4 hcc, rText_inv e5 hd.2.1]
  simp only [List.append_assoc]
theorem rAc_inv {xs zs : List Int} {a : Ac} (h : rAc xs = some (a, zs)) (hx : Bytes xs) : xs = acS a ++ zs ∧ a.Ok ∧ Bytes zs := by
  unfold rAc at h
  cases e1 : rNum 4 xs with
  | none => rw [e1] at h; cases h
  | some p1 =>
  obtain ⟨t, b⟩ := p1
  rw [e1] at h
  simp only at h
  have hb := rNum_bytes e1 hx
  cases e2 : rNum 8 b with
  | none => rw [e2] at h; cases h
  | some p2 =>
  obtain ⟨l, c⟩ := p2
  rw [e2] at h
  simp only at h
  have hc := rNum_bytes e2 hb
  cases e3 : rNum 8 c with
  | none => rw [e3] at h; cases h
  | some p3 =>
  obtain ⟨u, d⟩ := p3
  rw [e3] at h
  simp only at h
  have hd := rNum_bytes e3 hc
  cases e4 : rNum 1 d with
  | none => rw [e4] at h; cases h
  | some p4 =>
  obtain ⟨s, e⟩ := p4
  rw [e4] at h
  simp only at h
  injection h with h
  injection h with h1 h2
  subst h1 h2
  refine ⟨?_, ⟨nb32 (rNum_bd (by decide) e1 hx), nb64 (rNum_bd (by decide) e2 hb), nb64 (rNum_bd (by decide) e3 hc), nb8 (rNum_bd (by decide) e4 hd)⟩, rNum_bytes e4 hd⟩
  unfold acS
  simp only
  rw [rNum_inv e1 (by decide) hx, rNum_inv e2 (by decide) hb, rNum_inv e3 (by decide) hc, rNum_inv e4 (by decide) hd]
  simp only [List.append_assoc]
theorem rDt_inv {xs zs : List Int} {a : Dt} (h : rDt xs = some (a, zs)) (hx : Bytes xs) : xs = dtS a ++ zs ∧ a.Ok ∧ Bytes zs := by
  unfold rDt at h
  cases e1 : rNum 4 xs with
  | none => rw [e1] at h; cases h
  | some p1 =>
  obtain ⟨t, b⟩ := p1
  rw [e1] at h
  simp only at h
  have hb := rNum_bytes e1 hx
  cases e2 : rNum 8 b with
  | none => rw [e2] at h; cases h
  | some p2 =>
  obtain ⟨l, c⟩ := p2
  rw [e2] at h
  simp only at h
  injection h with h
  injection h with h1 h2
  subst h1 h2
  refine ⟨?_, ⟨nb32 (rNum_bd (by decide) e1 hx), nb64 (rNum_bd (by decide) e2 hb)⟩, rNum_bytes e2 hb⟩
  unfold dtS
  simp only
  rw [rNum_inv e1 (by decide) hx, rNum_inv e2 (by decide) hb]
  simp only [List.append_assoc]
theorem rMany_inv {α : Type} {f : List Int → Option (α × List Int)} {g : α → List Int} {ok : α → Prop} (hf : ∀ xs a zs, f xs = some (a, zs) → Bytes xs → xs = g a ++ zs ∧ ok a ∧ Bytes zs) :
    ∀ (n : Nat) (xs zs : List Int) (l : List α), rMany f n xs = some (l, zs) → Bytes xs → xs = l.flatMap g ++ zs ∧ l.length = n ∧ (∀ a ∈ l, ok a) ∧ Bytes zs
  | 0, xs, zs, l, h, hx => by
    injection h with h
    injection h with h1 h2
    subst h1 h2
    exact ⟨rfl, rfl, fun a ha => (List.not_mem_nil ha).elim, hx⟩
  | n + 1, xs, zs, l, h, hx => by
    unfold rMany at h
    cases e1 : f xs with
    | none => rw [e1] at h; cases h
    | some p1 =>
    obtain ⟨a, ys⟩ := p1
    rw [e1] at h
    simp only at h
    obtain ⟨i1, i2, i3⟩ := hf _ _ _ e1 hx
    cases e2 : rMany f n ys with
    | none => rw [e2] at h; cases h
    | some p2 =>
    obtain ⟨m, us⟩ := p2
    rw [e2] at h
    simp only at h
    injection h with h
    injection h with h1 h2
    subst h1 h2
    obtain ⟨j1, j2, j3, j4⟩ := rMany_inv hf n ys us m e2 i3
    refine ⟨?_, by rw [List.length_cons, j2], ?_, j4⟩
    · rw [List.flatMap_cons, List.append_assoc, ← j1]; exact i1
    · intro b hb
      rcases List.mem_cons.1 hb with rfl | hb
      · exact i2
      · exact j3 b hb
theorem rTab_inv {xs zs : List Int} {ts : List Ac} {ds : List Dt} (h : rTab xs = some (ts, ds, zs)) (hx : Bytes xs) : xs = tabS ts ds ++ zs ∧ (∀ x ∈ ts, x.Ok) ∧ (∀ x ∈ ds, x.Ok) ∧ Bytes zs := by
  unfold rTab at h
  cases e1 : rNum 1 xs with
  | none => rw [e1] at h; cases h
  | some p1 =>
  obtain ⟨n, a⟩ := p1
  rw [e1] at h
  simp only at h
  have ha := rNum_bytes e1 hx
  have hn := rNum_bd (by decide) e1 hx
  cases e2 : rMany rAc n.toNat a with
  | none => rw [e2] at h; cases h
  | some p2 =>
  obtain ⟨us, b⟩ := p2
  rw [e2] at h
  simp only at h
  obtain ⟨i1, i2, i3, hb⟩ := rMany_inv (g := acS) (ok := Ac.Ok) (fun _ _ _ h h' => rAc_inv h h') _ _ _ _ e2 ha
  cases e3 : rNum 1 b with
  | none => rw [e3] at h; cases h
  | some p3 =>
  obtain ⟨m, c⟩ := p3
  rw [e3] at h
  simp only at h
  have hc := rNum_bytes e3 hb
  have hm := rNum_bd (by decide) e3 hb
  cases e4 : rMany rDt m.toNat c with
  | none => rw [e4] at h; cases h
  | some p4 =>
  obtain ⟨es, d⟩ := p4
  rw [e4] at h
  simp only at h
  obtain ⟨j1, j2, j3, hd⟩ := rMany_inv (g := dtS) (ok := Dt.Ok) (fun _ _ _ h h' => rDt_inv h h') _ _ _ _ e4 hc
  injection h with h
  injection h with h1 h
  injection h with h2 h3
  subst h1 h2 h3
  refine ⟨?_, i3, j3, hd⟩
  unfold tabS acsS dtsS
  rw [rNum_inv e1 (by decide) hx, i1, rNum_inv e3 (by decide) hb, j1, i2, j2, Int.toNat_of_nonneg hn.1, Int.toNat_of_nonneg hm.1]
  simp only [List.append_assoc]
theorem rFull_inv {k t p n : Int} {c : Cg} {ts : List Ac} {ds : List Dt} {f : List Int} {r : Rc} (h : rFull k t p n c ts ds f = some r) : f = [] ∧ r = ⟨k, t, p, n, c, ts, ds⟩ ∧ mayS r = true := by
  unfold rFull at h
  split at h
  · rename_i hc
    injection h with h
    subst h
    exact ⟨hc.1, rfl, hc.2⟩
  · cases h
theorem nullC_ok : nullC.Ok := ⟨by decide, by decide, Bytes.nil, Bytes.nil⟩
theorem rBody_inv {xs : List Int} {r : Rc} (h : rBody xs = some r) (hx : Bytes xs) : xs = bodyS r ∧ r.Ok ∧ mayS r = true := by
  unfold rBody at h
  cases e1 : rNum 1 xs with
  | none => rw [e1] at h; cases h
  | some p1 =>
  obtain ⟨k, a⟩ := p1
  rw [e1] at h
  simp only at h
  have ha := rNum_bytes e1 hx
  cases e2 : rNum 4 a with
  | none => rw [e2] at h; cases h
  | some p2 =>
  obtain ⟨t, b⟩ := p2
  rw [e2] at h
  simp only at h
  have hb := rNum_bytes e2 ha
  cases e3 : rNum 8 b with
  | none => rw [e3] at h; cases h
  | some p3 =>
  obtain ⟨p, c⟩ := p3
  rw [e3] at h
  simp only at h
  have hc := rNum_bytes e3 hb
  cases e4 : rNum 8 c with
  | none => rw [e4] at h; cases h
  | some p4 =>
  obtain ⟨n, d⟩ := p4
  rw [e4] at h
  simp only at h
  have hd := rNum_bytes e4 hc
  have k1 := nb8 (rNum_bd (by decide) e1 hx)
  have k2 := nb32 (rNum_bd (by decide) e2 ha)
  have k3 := nb64 (rNum_bd (by decide) e3 hb)
  have k4 := nb64 (rNum_bd (by decide) e4 hc)
  have q1 := rNum_inv e1 (by decide) hx
  have q2 := rNum_inv e2 (by decide) ha
  have q3 := rNum_inv e3 (by decide) hb
  have q4 := rNum_inv e4 (by decide) hc
  unfold rTail at h
  unfold bodyS
  split at h
  · rename_i h23
    cases e5 : rChg d with
    | none => rw [e5] at h; cases h
    | some p5 =>
    obtain ⟨cg, f⟩ := p5
    rw [e5] at h
    simp only at h
    obtain ⟨rfl, rfl, hm⟩ := rFull_inv h
    obtain ⟨i1, i2, i3⟩ := rChg_inv e5 hd
    have h8 : ¬ k = 8 := by omega
    refine ⟨?_, ⟨k1, k2, k3, k4, i2, fun a ha => (List.not_mem_nil ha).elim, fun a ha => (List.not_mem_nil ha).elim⟩, hm⟩
    simp only
    rw [if_pos h23, if_neg h8, q1, q2, q3, q4, i1]
    simp only [List.append_assoc]
  · rename_i h23
    split at h
    · rename_i h8
      cases e5 : rTab d with
      | none => rw [e5] at h; cases h
      | some p5 =>
      obtain ⟨ts, ds, f⟩ := p5
      rw [e5] at h
      simp only at h
      obtain ⟨rfl, rfl, hm⟩ := rFull_inv h
      obtain ⟨i1, i2, i3, i4⟩ := rTab_inv e5 hd
      refine ⟨?_, ⟨k1, k2, k3, k4, nullC_ok, i2, i3⟩, hm⟩
      simp only
      rw [if_neg h23, if_pos h8, q1, q2, q3, q4, i1]
      simp only [List.append_assoc, List.append_nil, List.nil_append]
    · rename_i h8
      obtain ⟨rfl, rfl, hm⟩ := rFull_inv h
      refine ⟨?_, ⟨k1, k2, k3, k4, nullC_ok, fun a ha => (List.not_mem_nil ha).elim, fun a ha => (List.not_mem_nil ha).elim⟩, hm⟩
      simp only
      rw [if_neg h23, if_neg h8, q1, q2, q3, q4]
      simp only [List.append_assoc, List.append_nil]
theorem rDec_inv {xs : List Int} {r : Rc} (h : rDec xs = some r) (hx : Bytes xs) : xs = putS (getS (xs.take 2)) 2 ++ putS (tn (sumF 0#32 (bodyS r))) 4 ++ bodyS r ∧ r.Ok ∧ mayS r = true := by
  unfold rDec at h
  cases e1 : rNum 2 xs with
  | none => rw [e1] at h; cases h
  | some p1 =>
  obtain ⟨l, a⟩ := p1
  rw [e1] at h
  simp only at h
  have ha := rNum_bytes e1 hx
  cases e2 : rNum 4 a with
  | none => rw [e2] at h; cases h
  | some p2 =>
  obtain ⟨s, b⟩ := p2
  rw [e2] at h
  simp only at h
  have hb := rNum_bytes e2 ha
  have q1 := rNum_inv e1 (by decide) hx
  have q2 := rNum_inv e2 (by decide) ha
  have ql := (rNum_some e1).2.1
  split at h
  · rename_i hs
    obtain ⟨i1, i2, i3⟩ := rBody_inv h hb
    refine ⟨?_, i2, i3⟩
    rw [← ql, ← i1, ← hs, List.append_assoc, ← q2]
    exact q1
  · cases h
theorem resD_inv {xs : List Int} {r : Rc} {er : Int} (h : resD xs = (some r, er)) (hx : Bytes xs) : er = 0 ∧ r.Ok ∧ mayS r = true ∧ xs.take (lenB xs) = encS r ∧ lenB xs ≤ xs.length ∧ lenB xs = (encS r).length := by
  unfold resD at h
  split at h
  · cases h
  split at h
  · cases h
  rename_i h27 hl
  cases e : rDec (xs.take (lenB xs)) with
  | none => rw [e] at h; cases h
  | some r' =>
    rw [e] at h
    injection h with h1 h2
    injection h1 with h1
    subst h1 h2
    obtain ⟨i1, i2, i3⟩ := rDec_inv e (bytes_take hx _)
    have hle : lenB xs ≤ xs.length := by omega
    have hlt : (xs.take (lenB xs)).length = lenB xs := by rw [List.length_take]; omega
    have hl2 : lenB xs = 6 + (bodyS r').length := by
      rw [← hlt, i1]; simp [putS_len]; omega
    have hbl := body_len r' (may_lens r' i3)
    have ht2 : (xs.take (lenB xs)).take 2 = xs.take 2 := by rw [List.take_take, Nat.min_eq_left (by omega)]
    have hg : getS (xs.take 2) = 6 + ((bodyS r').length : Int) := by
      have hg0 := (Codec.get_bd (xs.take 2) (bytes_take hx 2)).1
      have : lenB xs = (getS (xs.take 2)).toNat := rfl
      omega
    refine ⟨rfl, i2, i3, ?_, hle, by rw [enc_len]; exact hl2⟩
    rw [i1, ht2, hg]
    rfl
/-- the sum tells a byte that is another one -/
theorem sum_inj (l : List Int) : ∀ s t : BitVec 32, sumF s l = sumF t l → s = t := by
  induction l with
  | nil => intro s t h; exact h
  | cons x l ih => intro s t h; exact (next_sum s t _).1 (ih _ _ h)
theorem sum_byte (pre post : List Int) (x y : Int) (hx : 0 ≤ x ∧ x ≤ 255) (hy : 0 ≤ y ∧ y ≤ 255) (h : sumF 0#32 (pre ++ x :: post) = sumF 0#32 (pre ++ y :: post)) : x = y := by
  rw [sumF_app, sumF_app] at h
  have h1 := (next_byte _ _ _).1 (sum_inj post _ _ h)
  rw [byte_tn x hx, byte_tn y hy, h1]
theorem rDec_none {xs a b : List Int} {l s : Int} (h1 : rNum 2 xs = some (l, a)) (h2 : rNum 4 a = some (s, b)) (hs : ¬ s = tn (sumF 0#32 b)) : rDec xs = none := by
  unfold rDec; rw [h1]; simp only; rw [h2]; simp only; rw [if_neg hs]
theorem getD_app_r (P Q : List Int) (i : Nat) (h : P.length ≤ i) : (P ++ Q).getD i 0 = Q.getD (i - P.length) 0 := by
  rw [List.getD_eq_getElem?_getD, List.getD_eq_getElem?_getD, List.getElem?_append_right h]
theorem getD_app_l (P Q : List Int) (i : Nat) (h : i < P.length) : (P ++ Q).getD i 0 = P.getD i 0 := by
  rw [List.getD_eq_getElem?_getD, List.getD_eq_getElem?_getD, List.getElem?_append_left h]
theorem getD_set_app (P Q : List Int) (i : Nat) (c : Int) (h : P.length ≤ i) : (P ++ Q).set i c = P ++ Q.set (i - P.length) c := by
  rw [List.set_append_right _ _ h]
theorem list_split (l : List Int) (i : Nat) (h : i < l.length) (c : Int) : l.set i c = l.take i ++ c :: l.drop (i + 1) ∧ l = l.take i ++ l.getD i 0 :: l.drop (i + 1) := by
  refine ⟨List.set_eq_take_append_cons_drop.trans (by rw [if_pos h]), ?_⟩
  have := List.take_append_drop i l
  rw [List.drop_eq_getElem_cons h] at this
  rw [List.getD_eq_getElem?_getD, List.getElem?_eq_getElem h]
  exact this.symm
theorem resD_turn (r : Rc) (hr : r.Ok) (hm : mayS r = true) (i : Nat) (c : Int) (hc : 0 ≤ c ∧ c ≤ 255) (h2 : 2 ≤ i) (hi : i < (encS r).length) (hne : ¬ (encS r).getD i 0 = c) : resD ((encS r).set i c) = (none, 61) := by
  have h27 := enc_min r hm
  have hlen : ((encS r).set i c).length = (encS r).length := List.length_set
  have hb := len_bd r hm
  have e0 : (encS r).set i c = putS (6 + (bodyS r).length) 2 ++ (putS (tn (sumF 0#32 (bodyS r))) 4 ++ bodyS r).set (i - 2) c := by
    have := getD_set_app (putS (6 + (bodyS r).length) 2) (putS (tn (sumF 0#32 (bodyS r))) 4 ++ bodyS r) i c (by rw [putS_len]; exact h2)
    rw [putS_len] at this
    rw [← this]; unfold encS; rw [List.append_assoc]
  have t2 : ((encS r).set i c).take 2 = putS (6 + (bodyS r).length) 2 := by rw [e0, List.take_left' (putS_len _ 2)]
  have hL := lenB_two r hm t2
  unfold resD
  rw [hL, hlen, if_neg (by omega), if_neg (by omega), List.take_of_length_le (by rw [hlen]; exact Nat.le_refl _)]
  have n1 : rNum 2 ((encS r).set i c) = some (6 + ((bodyS r).length : Int), (putS (tn (sumF 0#32 (bodyS r))) 4 ++ bodyS r).set (i - 2) c) := by
    rw [e0]; exact rNum_put (by decide) (b16 hb) _
  have hn : rDec ((encS r).set i c) = none := by
    have bs := tn_bd (sumF 0#32 (bodyS r))
    have hpl : (putS (tn (sumF 0#32 (bodyS r))) 4).length = 4 := putS_len _ 4
    have hg : (encS r).getD i 0 = (putS (tn (sumF 0#32 (bodyS r))) 4 ++ bodyS r).getD (i - 2) 0 := by
      unfold encS
      rw [List.append_assoc, getD_app_r _ _ _ (by rw [putS_len]; exact h2), putS_len]
    by_cases h6 : i < 6
    · have e1 : (putS (tn (sumF 0#32 (bodyS r))) 4 ++ bodyS r).set (i - 2) c = (putS (tn (sumF 0#32 (bodyS r))) 4).set (i - 2) c ++ bodyS r := List.set_append_left _ _ (by rw [putS_len]; omega)
      have hsl : ((putS (tn (sumF 0#32 (bodyS r))) 4).set (i - 2) c).length = 4 := by rw [List.length_set, putS_len]
      refine rDec_none (a := _) (b := bodyS r) (s := getS ((putS (tn (sumF 0#32 (bodyS r))) 4).set (i - 2) c)) n1 ?_ ?_
      · rw [e1]
        unfold rNum
        rw [if_pos (by rw [List.length_append, hsl]; omega), List.take_left' hsl, List.drop_left' hsl]
      · intro he
        have hbs : Bytes ((putS (tn (sumF 0#32 (bodyS r))) 4).set (i - 2) c) := fun x hx => by
          rcases List.mem_or_eq_of_mem_set hx with h1 | h1
          · exact putS_bytes _ _ x h1
          · rw [h1]; exact hc
        have e2 := Codec.put_get _ hbs (by rw [hsl]; decide)
        rw [he, hsl] at e2
        apply hne
        rw [hg, getD_app_l _ _ _ (by rw [putS_len]; omega), e2]
        rw [List.getD_eq_getElem?_getD, List.getElem?_set_self (by rw [putS_len]; omega)]
        rfl
    · have e1 : (putS (tn (sumF 0#32 (bodyS r))) 4 ++ bodyS r).set (i - 2) c = putS (tn (sumF 0#32 (bodyS r))) 4 ++ (bodyS r).set (i - 6) c := by
        rw [List.set_append_right _ _ (by rw [putS_len]; omega), putS_len, show i - 2 - 4 = i - 6 by omega]
      refine rDec_none (a := _) (b := (bodyS r).set (i - 6) c) (s := tn (sumF 0#32 (bodyS r))) n1 ?_ ?_
      · rw [e1]; exact rNum_put (by decide) (b32 ⟨bs.1, by omega⟩) _
      · intro he
        have hli : i - 6 < (bodyS r).length := by rw [enc_len] at hi; omega
        obtain ⟨s1, s2⟩ := list_split (bodyS r) (i - 6) hli c
        have he2 := tn_inj he
        have hbo := (body_bytes r hr).at_ (i - 6)
        rw [s1] at he2
        have he3 : sumF 0#32 ((bodyS r).take (i - 6) ++ (bodyS r).getD (i - 6) 0 :: (bodyS r).drop (i - 6 + 1)) = sumF 0#32 ((bodyS r).take (i - 6) ++ c :: (bodyS r).drop (i - 6 + 1)) := by rw [← s2]; exact he2
        have := sum_byte _ _ _ _ hbo hc he3
        apply hne
        rw [hg, getD_app_r _ _ _ (by rw [putS_len]; omega), putS_len, show i - 2 - 4 = i - 6 by omega]
        exact this
  rw [hn]
theorem set_getD (l : List Int) (i : Nat) (h : i < l.length) : l.set i (l.getD i 0) = l := by
  rw [List.getD_eq_getElem?_getD, List.getElem?_eq_getElem h]; exact List.set_getElem_self h
end Go.Proofs.Ytbbphfhkedldmaa.Rec
