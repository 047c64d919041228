import Derived.Test.YtpndcpmfcajmdaaEach2
/- A region that draws its order, slot by slot: the law. -/
namespace Go.Proofs.Each
open Go
set_option linter.unusedVariables false
section
variable {P : Program} {ops : Array Oper} {a0 : Act} {a t : Act}
def QF : Exit → Act → World → Prop := fun _ _ _ => False
theorem put_val {a t : Act} (hz : ∀ d : Nat, a.tmps[d]? = none ↔ t.tmps[d]? = none) {dst : Option Tmp} {v u : Value} (h : t.put dst v = t.put dst u) : a.put dst v = a.put dst u := by
  cases dst with
  | none => rfl
  | some d =>
    have h2 : (t.tmps.setIfInBounds d v)[(d : Nat)]? = (t.tmps.setIfInBounds d u)[(d : Nat)]? := by
      have := congrArg Act.tmps h
      exact congrArg (fun x : Array Value => x[(d : Nat)]?) this
    rw [Array.getElem?_setIfInBounds, Array.getElem?_setIfInBounds, if_pos rfl, if_pos rfl] at h2
    by_cases hs : d < t.tmps.size
    · rw [if_pos hs, if_pos hs] at h2
      injection h2 with h3
      rw [h3]
    · have h1 : a.tmps[(d : Nat)]? = none := (hz d).2 (Array.getElem?_eq_none (Nat.le_of_not_lt hs))
      have h4 : a.tmps.size ≤ d := by
        rcases Nat.lt_or_ge d a.tmps.size with h5 | h5
        · rw [Array.getElem?_eq_getElem h5] at h1; cases h1
        · exact h5
      show ({ a with tmps := a.tmps.setIfInBounds d v } : Act) = { a with tmps := a.tmps.setIfInBounds d u }
      rw [Array.setIfInBounds_eq_of_size_le h4, Array.setIfInBounds_eq_of_size_le h4]
theorem put_defers {t : Act} {l : List Deferred} {dst : Option Tmp} {v : Value} : (({ t with defers := l } : Act).put dst v).defers = l := by cases dst <;> rfl
theorem put_defers' {t : Act} {dst : Option Tmp} {u : Value} : (t.put dst u).defers = t.defers := by cases dst <;> rfl
theorem wp_same {o : Oper} {w : World} {F : Value → World → Prop} {Q : Exit → Act → World → Prop} (he : execOp a.eval o = execOp t.eval o) (hz : ∀ d : Nat, a.tmps[d]? = none ↔ t.tmps[d]? = none)
    (h : o.wp P t w (fun a' w' => ∃ v, a' = t.put o.dst v ∧ F v w') QF) : o.wp P a w (fun a' w' => ∃ v, a' = a.put o.dst v ∧ F v w') Q := by
  unfold Oper.wp at *
  rw [he]
  generalize (execOp t.eval o).run P w = r at *
  cases r with
  | ok n w' =>
    cases n <;> simp only [Oper.upon] at h ⊢
    case value v => obtain ⟨u, h1, h2⟩ := h; exact ⟨u, put_val hz h1, h2⟩
    case skip => obtain ⟨u, h1, h2⟩ := h; exact ⟨u, put_val hz h1, h2⟩
    case defer d =>
      obtain ⟨u, h1, h2⟩ := h
      have := congrArg Act.defers h1
      rw [put_defers, put_defers'] at this
      exact absurd (congrArg List.length this) (by simp)
    case enter f args =>
      refine Calls.mono h fun e w'' h2 => ?_
      cases e with
      | returned v => obtain ⟨u, h1, h2⟩ := h2; exact ⟨u, put_val hz h1, h2⟩
      | panicked c => exact h2.elim
      | outgrown => obtain ⟨_, _, h3⟩ := h2; exact h3.elim
    case row r args => exact Rows.mono h fun v w'' ⟨u, h1, h2⟩ => ⟨u, put_val hz h1, h2⟩
  | halt x w' => cases x <;> simp only [Oper.upon] at h ⊢ <;> first | exact h.elim | exact h
theorem Agree.none {L L' : Nat → Prop} {vals vals' : Nat → Value} (h : Agree ops a0 L vals a) (h' : Agree ops a0 L' vals' t) (d : Nat) : a.tmps[d]? = none ↔ t.tmps[d]? = none := by
  have key : ∀ {L : Nat → Prop} {vals : Nat → Value} {a : Act}, Agree ops a0 L vals a → (a.tmps[d]? = Option.none ↔ a0.tmps[d]? = Option.none) := by
    intro L vals a h
    by_cases hx : ∃ j oj, ops[j]? = some oj ∧ L j ∧ oj.dst = some d
    · obtain ⟨j, oj, h1, h2, h3⟩ := hx
      rw [h.on_ j oj d h1 h2 h3]; simp
    · rw [h.off d fun j oj h1 h2 h3 => hx ⟨j, oj, h1, h2, h3⟩]
  exact (key h).trans (key h').symm
theorem wp_region_each {id : Nat} {Q : Exit → Act → World → Prop} {w0 : World} (hm : P.follows .mixedOrders = true) (hA : Apart ops)
    (hsel : ∀ (i : Nat) (o : Oper), ops[i]? = some o → ∀ cs b, o.op ≠ .select cs b)
    (hb : ∀ (i : Nat) (o : Oper), ops[i]? = some o → ∀ e ∈ o.after, Region.binds .any e = true → e.on < i)
    (hdep : ∀ (i : Nat) (o : Oper), ops[i]? = some o → ∀ d ∈ o.looksAt ops, ∀ (j : Nat) (oj : Oper), ops[j]? = some oj → oj.dst = some d → ∃ e ∈ o.after, Region.binds .any e = true ∧ e.on = j)
    (C : World → Prop) (R : World → World → Prop) (U : Nat → (Nat → Value) → World → Prop)
    (hC0 : C w0.drew) (hCR : ∀ w w', C w → R w w' → C w')
    (hUm : ∀ j vals w w', C w → R w w' → U j vals w → U j vals w')
    (hUc : ∀ (j : Nat) (oj : Oper) vals vals', ops[j]? = some oj → vals j = vals' j → (∀ e ∈ oj.after, Region.binds .any e = true → vals e.on = vals' e.on) → ∀ w, U j vals w → U j vals' w)
    (hstep : ∀ (i : Nat) (oi : Oper), ops[i]? = some oi → ∀ vals w, C w → (∀ e ∈ oi.after, Region.binds .any e = true → U e.on vals w) →
      wpOp P ops QF i (fun a' w' => ∃ v, a' = (T ops a0 vals i).put oi.dst v ∧ R w w' ∧ U i (upd vals i v) w') (T ops a0 vals i) w)
    (hend : ∀ vals w, C w → (∀ i, i < ops.size → U i vals w) → Q .normal (T ops a0 vals ops.size) w) : (Code.region id ops true).wp P Q a0 w0 := by
  refine wp_region_inv hm (fun listed a w => ∃ vals, Agree ops a0 (fun j => listed.getD j false = true) vals a ∧ C w ∧ (∀ j, j < ops.size → listed.getD j false = true → U j vals w) ∧ ∀ (j : Nat) (oj : Oper), ops[j]? = some oj → listed.getD j false = true → ∀ e ∈ oj.after, Region.binds .any e = true → listed.getD e.on false = true) ?_ ?_ ?_
  · have hno : ∀ j, ¬ (Array.replicate ops.size false).getD j false = true := by
      intro j h
      rw [Array.getD_eq_getD_getElem?, Array.getElem?_replicate] at h
      split at h <;> simp at h
    exact ⟨fun _ => undef, Agree.start hno, hC0, fun j _ h => absurd h (hno j), fun j _ _ h => absurd h (hno j)⟩
  · intro listed a w i hs hI hi
    obtain ⟨vals, hag, hC, hU, hcl⟩ := hI
    obtain ⟨o, ho, hlt, hnl, haf⟩ := ready_at hs hi
    have hnl2 : ¬ listed.getD i false = true := by
      rw [Array.getD_eq_getD_getElem?, Array.getElem?_eq_getElem (by omega)] at hnl ⊢
      simp only [Option.getD_some] at hnl ⊢
      rw [hnl]; decide
    have hT := agree_T (a0 := a0) hA vals i (Nat.le_of_lt hlt)
    have hlook : ∀ d ∈ o.looksAt ops, a.tmps[d]? = (T ops a0 vals i).tmps[d]? := fun d hd => hag.at_ hT d fun j oj hj hjd => by
      obtain ⟨e, he, hbe, rfl⟩ := hdep i o ho d hd j oj hj hjd
      exact ⟨fun _ => hb i o ho e he hbe, fun _ => haf e he hbe⟩
    have hst := hstep i o ho vals w hC (fun e he hbe => hU e.on (Nat.lt_trans (hb i o ho e he hbe) hlt) (haf e he hbe))
    have hfin : ∀ v w', (R w w' ∧ U i (upd vals i v) w') → ∃ vals', Agree ops a0 (fun j => (listed.setIfInBounds i true).getD j false = true) vals' (a.put o.dst v) ∧ C w' ∧ (∀ j, j < ops.size → (listed.setIfInBounds i true).getD j false = true → U j vals' w') ∧ ∀ (j : Nat) (oj : Oper), ops[j]? = some oj → (listed.setIfInBounds i true).getD j false = true → ∀ e ∈ oj.after, Region.binds .any e = true → (listed.setIfInBounds i true).getD e.on false = true := by
      intro v w' ⟨hR, hUi⟩
      have hLL : ∀ j, (listed.setIfInBounds i true).getD j false = true ↔ (listed.getD j false = true ∨ j = i) := by
        intro j
        rw [Array.getD_eq_getD_getElem?, Array.getD_eq_getD_getElem?, Array.getElem?_setIfInBounds]
        by_cases hij : i = j
        · subst hij; rw [if_pos rfl, if_pos (by omega)]; simp
        · rw [if_neg hij]
          exact ⟨.inl, fun h => h.resolve_right (fun e => hij e.symm)⟩
      refine ⟨upd vals i v, hag.put hA ho hnl2 v hLL, hCR _ _ hC hR, fun j hj hl => ?_, fun j oj hj hl e he hbe => ?_⟩
      rcases (hLL j).1 hl with h1 | h1
      · have hji : j ≠ i := by rintro rfl; exact hnl2 h1
        have hjo : ops[j]? = some ops[j] := Array.getElem?_eq_getElem hj
        refine hUc j ops[j] vals (upd vals i v) hjo (upd_other _ _ _ _ hji).symm (fun e he hbe => ?_) w' (hUm j vals w w' hC hR (hU j hj h1))
        have h3 := hcl j ops[j] hjo h1 e he hbe
        exact (upd_other _ _ _ _ (by intro h4; rw [h4] at h3; exact hnl2 h3)).symm
      · subst h1; exact hUi
      · rcases (hLL j).1 hl with h1 | h1
        · exact (hLL e.on).2 (.inl (hcl j oj hj h1 e he hbe))
        · subst h1
          rw [ho] at hj; cases hj
          exact (hLL e.on).2 (.inl (haf e he hbe))
    unfold wpOp at hst ⊢
    simp only [ho] at hst ⊢
    rw [wanted_same o hlook]
    split
    · rename_i hw
      rw [if_pos hw] at hst
      rcases hst with hst | ⟨_, _, _, hst⟩
      · exact .inl (Oper.wp_mono (fun a' w' ⟨v, h1, h2⟩ => h1 ▸ hfin v w' h2) (wp_same (exec_same o (hsel i o ho) hlook) (hag.none hT) hst))
      · exact hst.elim
    · rename_i hw
      rw [if_neg hw] at hst
      obtain ⟨v, h1, h2⟩ := hst
      rw [put_val (hag.none hT) h1]
      exact hfin v w h2
  · intro listed a w hs hI hr
    obtain ⟨vals, hag, hC, hU, hcl⟩ := hI
    have hall := all_listed hs hb hr
    rw [hag.same (agree_T hA vals ops.size (Nat.le_refl _)) (fun j hj => ⟨fun _ => hj, fun _ => hall j hj⟩)]
    exact hend vals w hC fun i hi => hU i hi (hall i hi)
end
end Go.Proofs.Each
