import Derived.Test.YtpndcpmfcajmdaaEach7
import Derived.Test.YtpndcpmfcajmdaaBox
import Derived.Maps.AppendAt
import Derived.Laws.AppendOwnNone
/- A region that draws its order: what is there may depend on which operations are done; one appends to a row, one lays a cell of a block. -/
namespace Go.Proofs.Each
open Go Go.RowKit Go.Proofs.Mem
set_option linter.unusedVariables false
section
variable {P : Program} {ops : Array Oper} {a0 : Act} {a t : Act}
/-- with an operation all are done that it waits for -/
def Clo (ops : Array Oper) (L : Nat → Bool) : Prop := ∀ (j : Nat) (oj : Oper), ops[j]? = some oj → L j = true → ∀ e ∈ oj.after, Region.binds .any e = true → L e.on = true
/-- is j waited for by i, in so many steps? -/
def ancB (ops : Array Oper) : Nat → Nat → Nat → Bool
  | 0, _, _ => false
  | n + 1, i, j => match ops[i]? with
    | none => false
    | some o => o.after.any fun e => Region.binds .any e && (e.on == j || ancB ops n e.on j)
theorem Clo.anc {L : Nat → Bool} (h : Clo ops L) : ∀ (n i j : Nat), ancB ops n i j = true → L i = true → L j = true
  | 0, _, _, h0, _ => by cases h0
  | n + 1, i, j, h0, hi => by
    unfold ancB at h0
    cases e : ops[i]? with
    | none => rw [e] at h0; cases h0
    | some o =>
      rw [e] at h0
      simp only [Array.any_eq_true', Bool.and_eq_true, Bool.or_eq_true, beq_iff_eq] at h0
      obtain ⟨d, hd, hb, hj⟩ := h0
      have hl := h i o e hi d hd hb
      rcases hj with hj | hj
      · rw [← hj]; exact hl
      · exact h.anc n d.on j hj hl
theorem Clo.not_yet {L : Nat → Bool} (h : Clo ops L) {k : Nat} (hk : L k = false) (i n : Nat) (ha : ancB ops n i k = true) : L i = false := by
  cases e : L i with
  | false => rfl
  | true => rw [h.anc n i k ha e] at hk; cases hk
theorem wp_region_eachL {id : Nat} {Q : Exit → Act → World → Prop} {w0 : World} (hm : P.follows .mixedOrders = true) (hA : Apart ops)
    (hsel : ∀ (i : Nat) (o : Oper), ops[i]? = some o → ∀ cs b, o.op ≠ .select cs b)
    (hb : ∀ (i : Nat) (o : Oper), ops[i]? = some o → ∀ e ∈ o.after, Region.binds .any e = true → e.on < i)
    (hdep : ∀ (i : Nat) (o : Oper), ops[i]? = some o → ∀ d ∈ o.looksAt ops, ∀ (j : Nat) (oj : Oper), ops[j]? = some oj → oj.dst = some d → ∃ e ∈ o.after, Region.binds .any e = true ∧ e.on = j)
    (C : (Nat → Bool) → World → Prop) (R : Nat → World → World → Prop) (U : Nat → (Nat → Value) → World → Prop)
    (hC0 : ∀ L : Nat → Bool, (∀ j, L j = false) → C L w0.drew) (hCR : ∀ i (L L' : Nat → Bool) w w', i < ops.size → L i = false → (∀ j, L' j = true ↔ (L j = true ∨ j = i)) → C L w → R i w w' → C L' w')
    (hUm : ∀ i j L vals w w', i < ops.size → j ≠ i → C L w → R i w w' → U j vals w → U j vals w')
    (hUc : ∀ (j : Nat) (oj : Oper) vals vals', ops[j]? = some oj → vals j = vals' j → (∀ e ∈ oj.after, Region.binds .any e = true → vals e.on = vals' e.on) → ∀ w, U j vals w → U j vals' w)
    (hstep : ∀ (i : Nat) (oi : Oper), ops[i]? = some oi → ∀ L vals w, Clo ops L → L i = false → C L w → (∀ e ∈ oi.after, Region.binds .any e = true → U e.on vals w) →
      wpOp P ops QF i (fun a' w' => ∃ v, a' = (T ops a0 vals i).put oi.dst v ∧ R i w w' ∧ U i (upd vals i v) w') (T ops a0 vals i) w)
    (hend : ∀ L vals w, C L w → (∀ i, i < ops.size → U i vals w) → Q .normal (T ops a0 vals ops.size) w) : (Code.region id ops true).wp P Q a0 w0 := by
  refine wp_region_inv hm (fun listed a w => ∃ vals, Agree ops a0 (fun j => listed.getD j false = true) vals a ∧ C (fun j => listed.getD j false) w ∧ (∀ j, j < ops.size → listed.getD j false = true → U j vals w) ∧ Clo ops (fun j => listed.getD j false)) ?_ ?_ ?_
  · have hno : ∀ j, ¬ (Array.replicate ops.size false).getD j false = true := by
      intro j h
      rw [Array.getD_eq_getD_getElem?, Array.getElem?_replicate] at h
      split at h <;> simp at h
    exact ⟨fun _ => undef, Agree.start hno, hC0 _ (fun j => by simpa using hno j), fun j _ h => absurd h (hno j), fun j _ _ h => absurd h (hno j)⟩
  · intro listed a w i hs hI hi
    obtain ⟨vals, hag, hC, hU, hcl⟩ := hI
    obtain ⟨o, ho, hlt, hnl, haf⟩ := ready_at hs hi
    have hnl2 : ¬ listed.getD i false = true := by
      rw [Array.getD_eq_getD_getElem?, Array.getElem?_eq_getElem (by omega)] at hnl ⊢
      simp only [Option.getD_some] at hnl ⊢
      rw [hnl]; decide
    have hnl3 : listed.getD i false = false := by simpa using hnl2
    have hT := agree_T (a0 := a0) hA vals i (Nat.le_of_lt hlt)
    have hlook : ∀ d ∈ o.looksAt ops, a.tmps[d]? = (T ops a0 vals i).tmps[d]? := fun d hd => hag.at_ hT d fun j oj hj hjd => by
      obtain ⟨e, he, hbe, rfl⟩ := hdep i o ho d hd j oj hj hjd
      exact ⟨fun _ => hb i o ho e he hbe, fun _ => haf e he hbe⟩
    have hst := hstep i o ho (fun j => listed.getD j false) vals w hcl hnl3 hC (fun e he hbe => hU e.on (Nat.lt_trans (hb i o ho e he hbe) hlt) (haf e he hbe))
    have hfin : ∀ v w', (R i w w' ∧ U i (upd vals i v) w') → ∃ vals', Agree ops a0 (fun j => (listed.setIfInBounds i true).getD j false = true) vals' (a.put o.dst v) ∧ C (fun j => (listed.setIfInBounds i true).getD j false) w' ∧ (∀ j, j < ops.size → (listed.setIfInBounds i true).getD j false = true → U j vals' w') ∧ Clo ops (fun j => (listed.setIfInBounds i true).getD j false) := by
      intro v w' ⟨hR, hUi⟩
      have hLL : ∀ j, (listed.setIfInBounds i true).getD j false = true ↔ (listed.getD j false = true ∨ j = i) := by
        intro j
        rw [Array.getD_eq_getD_getElem?, Array.getD_eq_getD_getElem?, Array.getElem?_setIfInBounds]
        by_cases hij : i = j
        · subst hij; rw [if_pos rfl, if_pos (by omega)]; simp
        · rw [if_neg hij]
          exact ⟨.inl, fun h => h.resolve_right (fun e => hij e.symm)⟩
      refine ⟨upd vals i v, hag.put hA ho hnl2 v hLL, hCR i _ _ _ _ hlt hnl3 hLL hC hR, fun j hj hl => ?_, fun j oj hj hl e he hbe => ?_⟩
      rcases (hLL j).1 hl with h1 | h1
      · have hji : j ≠ i := by rintro rfl; exact hnl2 h1
        have hjo : ops[j]? = some ops[j] := Array.getElem?_eq_getElem hj
        refine hUc j ops[j] vals (upd vals i v) hjo (upd_other _ _ _ _ hji).symm (fun e he hbe => ?_) w' (hUm i j _ vals w w' hlt hji hC hR (hU j hj h1))
        have h3 := hcl j ops[j] hjo h1 e he hbe
        exact (upd_other _ _ _ _ (by intro h4; rw [h4] at h3; exact hnl2 h3)).symm
      · subst h1; exact hUi
      · rcases (hLL j).1 hl with h1 | h1
        · exact (hLL e.on).2 (.inl (hcl j oj hj h1 e he hbe))
        · subst h1
          rw [ho] at hj; cases hj
          exact (hLL e.on).2 (.inl (haf e he hbe))
    unfold wpOp at hst ⊢
    simp only [ho] at hst ⊢
    rw [wanted_same o hlook]
    split
    · rename_i hw
      rw [if_pos hw] at hst
      rcases hst with hst | ⟨_, _, _, hst⟩
      · exact .inl (Oper.wp_mono (fun a' w' ⟨v, h1, h2⟩ => h1 ▸ hfin v w' h2) (wp_same (exec_same o (hsel i o ho) hlook) (hag.none hT) hst))
      · exact hst.elim
    · rename_i hw
      rw [if_neg hw] at hst
      obtain ⟨v, h1, h2⟩ := hst
      rw [put_val (hag.none hT) h1]
      exact hfin v w h2
  · intro listed a w hs hI hr
    obtain ⟨vals, hag, hC, hU, hcl⟩ := hI
    have hall := all_listed hs hb hr
    rw [hag.same (agree_T hA vals ops.size (Nat.le_refl _)) (fun j hj => ⟨fun _ => hj, fun _ => hall j hj⟩)]
    exact hend _ vals w hC fun i hi => hU i hi (hall i hi)
end
def StepL (P : Program) (ops : Array Oper) (C : (Nat → Bool) → World → Prop) (R : Nat → World → World → Prop) (F : Nat → (Nat → Value) → World → Prop) (vals : Nat → Value) (k : Nat) (o : Oper) (a : Act) : Prop :=
  ∀ L W, Clo ops L → L k = false → C L W → (∀ e ∈ o.after, Region.binds .any e = true → F e.on vals W) →
    if Region.wanted o (yielded ops a.tmps) = true then o.wp P a W (fun a' W' => ∃ v, a' = a.put o.dst v ∧ R k W W' ∧ F k (upd vals k v) W') QF else R k W W ∧ F k (upd vals k undef) W
def ObL (P : Program) (ops : Array Oper) (C : (Nat → Bool) → World → Prop) (R : Nat → World → World → Prop) (F : Nat → (Nat → Value) → World → Prop) (vals : Nat → Value) : Nat → List Oper → Act → Prop
  | _, [], _ => True
  | k, o :: r, a => StepL P ops C R F vals k o a ∧ ObL P ops C R F vals (k + 1) r (a.put o.dst (vals k))
theorem obL_at {P : Program} {ops : Array Oper} {C : (Nat → Bool) → World → Prop} {R : Nat → World → World → Prop} {F : Nat → (Nat → Value) → World → Prop} {vals : Nat → Value} {a0 : Act} : ∀ (r : List Oper) (k : Nat), (∀ i o, r[i]? = some o → ops[k + i]? = some o) → ObL P ops C R F vals k r (T ops a0 vals k) →
    ∀ i o, r[i]? = some o → StepL P ops C R F vals (k + i) o (T ops a0 vals (k + i))
  | [], k, _, _, i, o, h => by simp at h
  | x :: r, k, hk, ⟨h1, h2⟩, 0, o, h => by simp at h; subst h; exact h1
  | x :: r, k, hk, ⟨h1, h2⟩, i + 1, o, h => by
    have h0 : ops[k]? = some x := hk 0 x rfl
    rw [show (T ops a0 vals k).put x.dst (vals k) = T ops a0 vals (k + 1) by simp only [T, h0, Option.bind_some]] at h2
    have := obL_at r (k + 1) (fun i y hy => by rw [show k + 1 + i = k + (i + 1) by omega]; exact hk (i + 1) y (by simpa using hy)) h2 i o (by simpa using h)
    rwa [show k + 1 + i = k + (i + 1) by omega] at this
theorem wp_region_obL {P : Program} {l : List Oper} {a0 : Act} {id : Nat} {Q : Exit → Act → World → Prop} {w0 : World} (hm : P.follows .mixedOrders = true) (hB : fitB l.toArray = true)
    (C : (Nat → Bool) → World → Prop) (R : Nat → World → World → Prop) (F : Nat → (Nat → Value) → World → Prop)
    (hC0 : ∀ L : Nat → Bool, (∀ j, L j = false) → C L w0.drew) (hCR : ∀ i (L L' : Nat → Bool) w w', L i = false → (∀ j, L' j = true ↔ (L j = true ∨ j = i)) → C L w → R i w w' → C L' w')
    (hFm : ∀ i j L vals w w', j ≠ i → C L w → R i w w' → F j vals w → F j vals w')
    (hFc : ∀ (j : Nat) (oj : Oper) vals vals', l[j]? = some oj → vals j = vals' j → (∀ e ∈ oj.after, Region.binds .any e = true → vals e.on = vals' e.on) → ∀ w, F j vals w → F j vals' w)
    (hob : ∀ vals : Nat → Value, ObL P l.toArray C R F vals 0 l a0)
    (hend : ∀ L (vals : Nat → Value) W, C L W → (∀ i, i < l.length → F i vals W) → Q .normal (TL vals 0 l a0) W) : (Code.region id l.toArray true).wp P Q a0 w0 := by
  refine wp_region_eachL hm (fun i j oi oj d hi hj hdi hdj => ((fitB_at hB hi).2.2 j oj d hj hdj).2 hdi) (fun i o hi cs b e => by have := (fitB_at hB hi).1; rw [e] at this; cases this)
    (fun i o hi => (fitB_at hB hi).2.1) (fun i o hi d hd j oj hj hjd => ((fitB_at hB hi).2.2 j oj d hj hjd).1 hd)
    C R F hC0 (fun i L L' w w' _ h1 h2 h h' => hCR i L L' w w' h1 h2 h h') (fun i j L vals w w' _ h0 h h' => hFm i j L vals w w' h0 h h') (fun j oj vals vals' hj => hFc j oj vals vals' (by simpa using hj)) ?_ ?_
  · intro i oi hi L vals W hL hn hc hw
    have hi' : l[i]? = some oi := by simpa using hi
    have h0 := obL_at l 0 (fun i o h => by simpa using h) (hob vals) i oi hi'
    rw [Nat.zero_add] at h0
    have h1 := h0 L W hL hn hc hw
    unfold wpOp
    simp only [hi]
    split
    · rename_i hx; rw [if_pos hx] at h1; exact .inl h1
    · rename_i hx; rw [if_neg hx] at h1; exact ⟨undef, rfl, h1⟩
  · intro L vals W hc h
    have := T_app vals a0 l.toArray l 0 fun i o h => by simpa using h
    rw [Nat.zero_add] at this
    have h2 := hend L vals W hc fun i hi => h i (by simpa using hi)
    rw [show TL vals 0 l a0 = T l.toArray a0 vals l.length from this] at h2
    simpa using h2
/-- operation p writes row's block, operation s block g; all others make memory at most -/
def Ca (w0 : World) (row : Option Nat) (g p s : Nat) (L : Nat → Bool) (W : World) : Prop := Fr (fun x => (L p = true ∧ row = some x) ∨ (L s = true ∧ x = g)) w0 W
def Ra (row : Option Nat) (g p s i : Nat) (W W' : World) : Prop := Fr (fun x => (i = p ∧ row = some x) ∨ (i = s ∧ x = g)) W W'
theorem Ra.same {row : Option Nat} {g p s i : Nat} (W : World) : Ra row g p s i W W := Fr.refl _ _
theorem Ra.of_below {row : Option Nat} {g p s i : Nat} {W W' : World} (h : Below W.heap.size W W') : Ra row g p s i W W' := Fr.of_below h
theorem Ca.below {w0 : World} {row : Option Nat} {g p s : Nat} {L : Nat → Bool} {W : World} (h : Ca w0 row g p s L W) (hp : L p = false) (hs : L s = false) : Below w0.heap.size w0 W :=
  Fr.to_below h (fun k hk => by rcases hk with ⟨h1, _⟩ | ⟨h1, _⟩; (rw [hp] at h1; cases h1); (rw [hs] at h1; cases h1)) (Nat.le_refl _)
theorem Ca.box {w0 : World} {row : Option Nat} {g p s : Nat} {L : Nat → Bool} {W : World} {C : Array Value} {t : TypeId} (h : Ca w0 row g p s L W) (hb : Box w0 g C t) (hs : L s = false) (hr : row ≠ some g) : Box W g C t :=
  hb.fr h (fun hk => by rcases hk with ⟨_, h1⟩ | ⟨h1, _⟩; (exact hr h1); (rw [hs] at h1; cases h1))
/-- what is said of the operations: of s what block g holds then, of any other one what is listed -/
def Fa (s g p : Nat) (t : TypeId) (C' : Value → Array Value) (Fs : List (Value → World → Prop)) (j : Nat) (vals : Nat → Value) (W : World) : Prop := if j = s then Box W g (C' (vals p)) t else (Fs.getD j fun _ _ => True) (vals j) W
section
variable {s g p j : Nat} {t : TypeId} {C' : Value → Array Value} {Fs : List (Value → World → Prop)} {vals : Nat → Value} {W : World} {f : Value → World → Prop} {v : Value}
theorem Fa.val (h : j ≠ s) (hE : (Fs.getD j fun _ _ => True) = f) (hf : f v W) : Fa s g p t C' Fs j (upd vals j v) W := by
  unfold Fa; rw [if_neg h, upd_same, hE]; exact hf
theorem Fa.get (hf : Fa s g p t C' Fs j vals W) (h : j ≠ s) : (Fs.getD j fun _ _ => True) (vals j) W := by
  unfold Fa at hf; rw [if_neg h] at hf; exact hf
theorem Fa.last (h : p ≠ s) (hb : Box W g (C' (vals p)) t) : Fa s g p t C' Fs s (upd vals s v) W := by
  unfold Fa; rw [if_pos rfl, upd_other _ _ _ _ h]; exact hb
end
theorem own_frS {W W' : World} {base n size : Nat} {e : TypeId} {v : Value} {xs : List Value} {S : Nat → Prop} (h : W.ownsRow base e size v n xs) (hf : Fr S W W') (hs : ∀ k, v.ownBlock = some k → ¬ S k) : W'.ownsRow base e size v n xs := by
  refine ⟨h.1, ?_⟩
  rcases h.2 with hn | ⟨g, cap, cur, rfl, hb, hgg, rest⟩
  · exact .inl hn
  · exact .inr ⟨g, cap, cur, rfl, hb, (hf.block g (Array.getElem?_eq_some_iff.1 hgg).1 (hs g rfl)).trans hgg, rest⟩
theorem own_slice' {W : World} {b n sz : Nat} {e : TypeId} {v : Value} {xs : List Value} (h : W.ownsRow b e sz v n xs) : ∃ A c, v = .slice A n c := by
  rcases h.2 with ⟨rfl, rfl⟩ | ⟨g, cap, cur, rfl, _⟩
  · exact ⟨_, _, rfl⟩
  · exact ⟨_, _, rfl⟩
/-- 'append(s, x)', x the cells of a block; one operation -/
theorem wp_push {P : Program} (w : World) {o : Oper} {a : Act} {K : Act → World → Prop} {Q : Exit → Act → World → Prop} (s x : Operand) (t : TypeId)
    (ho : o.op = .call { callee := .builtin .append, args := #[s, x], argTypes := #[t, t] })
    (base : Nat) (e : TypeId) (i : TypeInfo) (z : Value) (sz bytes : Nat) (ht : P.underlying t = some (.slice e)) (hi : P.info? e = some i) (hz : i.zero = some z)
    (hsize : i.size = sz) (hby : i.bytes = bytes) (hzs : z.cells.size = sz) (hsz : 0 < sz) (us : List Value) (hus : us.length = sz) (h1 : ∀ u ∈ us, u.oneCell' = true)
    (v : Value) (n : Nat) (xs : List Value) (hs : a.eval s = v) (hown : w.ownsRow base e sz v n xs)
    (g : Nat) (T : TypeId) (hx : a.eval x = .slice (some ⟨g, 0, none⟩) 1 1) (hc : Box w g us.toArray T) (h63 : n + 1 ≤ maxLen) (hbytes : (n + 1) * bytes ≤ 140737488355328) (hbase : base ≤ w.heap.size)
    (h : ∀ v' w', w'.ownsRow base e sz v' (n + 1) (xs ++ us) → w.grownBy w' v.ownBlock → (v'.ownBlock = v.ownBlock ∨ v'.ownBlock = some w.heap.size) → K (a.put o.dst v') w') : o.wp P a w K Q := by
  obtain ⟨v', w', hrun, h2, h3, _, h5⟩ := run_append_own_at (P := P) (w := w) base t o.type e i z sz bytes ht hi hz hsize hby hzs hsz v n xs hown ⟨g, 0, none⟩ 1 1 us (by omega) (by
    intro j u hj
    rw [Go.WideShapes.add_plain, Nat.zero_add, hc.cell j]
    simpa using hj) h1 h63 hbytes hbase
  unfold Oper.wp
  simp [execOp, ho, resolve, invoke, builtin, hs, hx, hrun, Result.andThen]
  exact h v' w' h2 h3 h5
/-- a region whose operation p appends to row, and whose operation s stores what came of it to block g -/
theorem wp_region_app {P : Program} {l : List Oper} {a0 : Act} {id : Nat} {Q : Exit → Act → World → Prop} {w0 : World} (hm : P.follows .mixedOrders = true) (hB : fitB l.toArray = true)
    (row : Option Nat) (g p s : Nat) (t : TypeId) (C' : Value → Array Value) (Fs : List (Value → World → Prop)) (hps : p ≠ s)
    (hdep : ∀ o, l[s]? = some o → ∃ e ∈ o.after, Region.binds .any e = true ∧ e.on = p) (hrg : row ≠ some g)
    (hstay : ∀ j v W W', j ≠ s → w0.heap.size ≤ W.heap.size → Fr (fun x => (j ≠ p ∧ row = some x) ∨ x = g) W W' → (Fs.getD j fun _ _ => True) v W → (Fs.getD j fun _ _ => True) v W')
    (hob : ∀ vals : Nat → Value, ObL P l.toArray (Ca w0 row g p s) (Ra row g p s) (Fa s g p t C' Fs) vals 0 l a0)
    (hend : ∀ (vals : Nat → Value) W, Fr (fun x => row = some x ∨ x = g) w0 W → Box W g (C' (vals p)) t → (∀ i, i < l.length → i ≠ s → (Fs.getD i fun _ _ => True) (vals i) W) → s < l.length → Q .normal (TL vals 0 l a0) W) (hs : s < l.length) : (Code.region id l.toArray true).wp P Q a0 w0 := by
  refine wp_region_obL hm hB (Ca w0 row g p s) (Ra row g p s) (Fa s g p t C' Fs) ?_ ?_ ?_ ?_ hob ?_
  · intro L _; exact (Fr.refl _ _).drew
  · intro i L L' W W' hi hLL h h'
    refine Fr.trans' (h.mono ?_) h' ?_
    · intro k _ hk
      rcases hk with ⟨h1, h2⟩ | ⟨h1, h2⟩
      · exact .inl ⟨(hLL p).2 (.inl h1), h2⟩
      · exact .inr ⟨(hLL s).2 (.inl h1), h2⟩
    · intro k _ hk
      rcases hk with ⟨h1, h2⟩ | ⟨h1, h2⟩
      · exact .inl ⟨(hLL p).2 (.inr h1.symm), h2⟩
      · exact .inr ⟨(hLL s).2 (.inr h1.symm), h2⟩
  · intro i j L vals W W' hji hc hr hf
    unfold Fa at hf ⊢
    by_cases hj : j = s
    · rw [if_pos hj] at hf ⊢
      refine hf.fr hr (fun hk => ?_)
      rcases hk with ⟨_, h1⟩ | ⟨h1, _⟩
      · exact hrg h1
      · exact hji (hj.trans h1.symm)
    · rw [if_neg hj] at hf ⊢
      refine hstay j _ W W' hj hc.size (hr.mono (fun k _ hk => ?_)) hf
      rcases hk with ⟨h1, h2⟩ | ⟨_, h2⟩
      · exact .inl ⟨fun e => hji (e.trans h1.symm), h2⟩
      · exact .inr h2
  · intro j oj vals vals' hj hv hw W hf
    unfold Fa at hf ⊢
    by_cases h : j = s
    · rw [if_pos h] at hf ⊢
      subst h
      obtain ⟨e, he, hb, rfl⟩ := hdep oj hj
      rw [← hw e he hb]; exact hf
    · rw [if_neg h] at hf ⊢
      rw [← hv]; exact hf
  · intro L vals W hc h
    have h1 := h s hs
    unfold Fa at h1
    rw [if_pos rfl] at h1
    refine hend vals W (hc.mono fun k _ hk => ?_) h1 (fun i hi hne => ?_) hs
    · rcases hk with ⟨_, h2⟩ | ⟨_, h2⟩
      · exact .inl h2
      · exact .inr h2
    · have := h i hi
      unfold Fa at this
      rwa [if_neg hne] at this
end Go.Proofs.Each
