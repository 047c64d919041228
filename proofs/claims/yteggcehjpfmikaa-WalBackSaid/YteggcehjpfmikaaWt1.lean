import Derived.Test.YteggcehjpfmikaaBox
import Derived.Test.YteggcehjpfmikaaMem2
import Derived.Below
import Derived.Deep.Slices
import Derived.Laws.AppendOwnNone
import Derived.Laws.BitsAllLaws
import Derived.Maps.AppendAt
import Derived.OpenShut
import Derived.Orders
import Derived.WalkKit
namespace Go.Proofs.Each
open Go
set_option linter.unusedVariables false
section
variable {P : Program} {ops : Array Oper} {Q : Exit → Act → World → Prop} {md : Region.Mode}
def left (listed : Array Bool) : Nat := listed.toList.count false
theorem ready_at {listed : Array Bool} {i : Nat} (hs : listed.size = ops.size) (h : i ∈ Region.ready md ops listed) :
    ∃ o, ops[i]? = some o ∧ i < ops.size ∧ listed.getD i true = false ∧ ∀ e ∈ o.after, Region.binds md e = true → listed.getD e.on false = true := by
  unfold Region.ready at h
  rw [List.mem_filter, List.mem_range] at h
  obtain ⟨hi, h⟩ := h
  rw [Bool.and_eq_true] at h
  obtain ⟨h1, h2⟩ := h
  rw [Array.getElem?_eq_getElem hi] at h2
  refine ⟨ops[i], Array.getElem?_eq_getElem hi, hi, by simpa using h1, fun e he hb => ?_⟩
  simp only [Option.map_some, Option.getD_some] at h2
  have := (Array.all_eq_true'.1 h2) e he
  simpa [hb] using this
theorem left_zero {listed : Array Bool} (h : left listed = 0) (i : Nat) : listed.getD i true = true := by
  unfold left at h
  rw [List.count_eq_zero] at h
  by_cases hi : i < listed.size
  · rw [Array.getD_eq_getD_getElem?, Array.getElem?_eq_getElem hi]
    simp only [Option.getD_some]
    cases hb : listed[i]
    · exact absurd (hb ▸ Array.getElem_mem_toList hi) h
    · rfl
  · rw [Array.getD_eq_getD_getElem?, Array.getElem?_eq_none (by omega)]; rfl
theorem left_set {listed : Array Bool} {i : Nat} (hi : i < listed.size) (h : listed.getD i true = false) : left (listed.setIfInBounds i true) + 1 = left listed := by
  unfold left
  have hl : i < listed.toList.length := by simpa using hi
  have hv : listed.toList[i] = false := by
    rw [Array.getD_eq_getD_getElem?, Array.getElem?_eq_getElem hi] at h
    simpa using h
  rw [Array.toList_setIfInBounds]
  have hpos : 0 < listed.toList.count false := List.count_pos_iff.2 (hv ▸ List.getElem_mem hl)
  have := List.count_set (a := true) (b := false) (l := listed.toList) (i := i) hl
  rw [hv, if_pos (by rfl), if_neg (by decide)] at this
  omega
theorem wpAny_inv (I : Array Bool → Act → World → Prop)
    (hstep : ∀ listed a w i, listed.size = ops.size → I listed a w → i ∈ Region.ready md ops listed → wpOp P ops Q i (fun a' w' => I (listed.setIfInBounds i true) a' w') a w)
    (hend : ∀ listed a w, listed.size = ops.size → I listed a w → Region.ready md ops listed = [] → Q .normal a w) :
    ∀ (fuel : Nat) (listed : Array Bool) (a : Act) (w : World), listed.size = ops.size → left listed ≤ fuel → I listed a w → wpAny P md ops Q fuel listed a w := by
  intro fuel
  induction fuel with
  | zero =>
    intro listed a w hs hf hI
    have hr : Region.ready md ops listed = [] := by
      rw [List.eq_nil_iff_forall_not_mem]
      intro i hi
      obtain ⟨o, _, _, h2, _⟩ := ready_at hs hi
      rw [left_zero (by omega)] at h2
      cases h2
    exact ⟨hr, hend listed a w hs hI hr⟩
  | succ fuel ih =>
    intro listed a w hs hf hI
    refine ⟨hend listed a w hs hI, fun i hi => ?_⟩
    obtain ⟨o, _, h1, h2, _⟩ := ready_at hs hi
    have hl := left_set (by omega) h2
    exact wpOp_mono (fun a' w' h => ih _ a' w' (by rw [Array.size_setIfInBounds]; exact hs) (by omega) h) (hstep listed a w i hs hI hi)
theorem all_listed {listed : Array Bool} (hs : listed.size = ops.size) (hb : ∀ i o, ops[i]? = some o → ∀ e ∈ o.after, Region.binds md e = true → e.on < i)
    (hr : Region.ready md ops listed = []) : ∀ i, i < ops.size → listed.getD i false = true := by
  intro i
  induction i using Nat.strongRecOn with
  | _ i ih =>
    intro hi
    cases hc : listed.getD i false with
    | true => rfl
    | false =>
      exfalso
      have : i ∈ Region.ready md ops listed := by
        unfold Region.ready
        rw [List.mem_filter, List.mem_range]
        refine ⟨hi, ?_⟩
        rw [Bool.and_eq_true]
        constructor
        · rw [Array.getD_eq_getD_getElem?, Array.getElem?_eq_getElem (by omega)] at hc ⊢
          simp only [Option.getD_some] at hc ⊢
          rw [hc]; rfl
        · rw [Array.getElem?_eq_getElem hi]
          simp only [Option.map_some, Option.getD_some]
          rw [Array.all_eq_true']
          intro e he
          cases hbe : Region.binds md e with
          | false => rfl
          | true =>
            have hlt := hb i ops[i] (Array.getElem?_eq_getElem hi) e he hbe
            simpa using ih e.on hlt (by omega)
      rw [hr] at this
      cases this
theorem wp_region_inv {id : Nat} {a : Act} {w : World} (hm : P.follows .mixedOrders = true) (I : Array Bool → Act → World → Prop)
    (hstart : I (Array.replicate ops.size false) a w.drew)
    (hstep : ∀ listed a w i, listed.size = ops.size → I listed a w → i ∈ Region.ready .any ops listed → wpOp P ops Q i (fun a' w' => I (listed.setIfInBounds i true) a' w') a w)
    (hend : ∀ listed a w, listed.size = ops.size → I listed a w → Region.ready .any ops listed = [] → Q .normal a w) : (Code.region id ops true).wp P Q a w :=
  wp_region_any hm (wpAny_inv I hstep hend _ _ _ _ (by simp) (by unfold left; exact Nat.le_trans List.count_le_length (by simp)) hstart)
end
end Go.Proofs.Each
namespace Go.Proofs.Each
open Go
set_option linter.unusedVariables false
def upd (f : Nat → Value) (i : Nat) (v : Value) : Nat → Value := fun j => if j = i then v else f j
theorem upd_same (f : Nat → Value) (i : Nat) (v : Value) : upd f i v i = v := by simp [upd]
theorem upd_other (f : Nat → Value) (i j : Nat) (v : Value) (h : j ≠ i) : upd f i v j = f j := by simp [upd, h]
theorem upd_self (f : Nat → Value) (i : Nat) : upd f i (f i) = f := by funext j; unfold upd; split <;> simp_all
section
variable {P : Program} {ops : Array Oper} {a0 : Act} {L L' : Nat → Prop} {vals : Nat → Value} {a a' : Act}
structure Agree (ops : Array Oper) (a0 : Act) (L : Nat → Prop) (vals : Nat → Value) (a : Act) : Prop where
  defers : a.defers = a0.defers
  off : ∀ d, (∀ j oj, ops[j]? = some oj → L j → oj.dst ≠ some d) → a.tmps[d]? = a0.tmps[d]?
  on_ : ∀ j oj d, ops[j]? = some oj → L j → oj.dst = some d → a.tmps[d]? = (a0.tmps[d]?).map fun _ => vals j
def Apart (ops : Array Oper) : Prop := ∀ (i j : Nat) (oi oj : Oper) (d : Tmp), ops[i]? = some oi → ops[j]? = some oj → oi.dst = some d → oj.dst = some d → i = j
theorem Agree.start (h : ∀ j, ¬ L j) : Agree ops a0 L vals a0 := ⟨rfl, fun _ _ => rfl, fun j _ _ _ hj _ => absurd hj (h j)⟩
theorem Agree.put (hA : Apart ops) (h : Agree ops a0 L vals a) {i : Nat} {oi : Oper} (hi : ops[i]? = some oi) (hn : ¬ L i) (v : Value) (hL : ∀ j, L' j ↔ (L j ∨ j = i)) :
    Agree ops a0 L' (upd vals i v) (a.put oi.dst v) := by
  cases hd : oi.dst with
  | none =>
    refine ⟨h.defers, fun d hf => h.off d fun j oj hj hl => hf j oj hj ((hL j).2 (.inl hl)), fun j oj d hj hl hjd => ?_⟩
    rcases (hL j).1 hl with h1 | h1
    · rw [upd_other _ _ _ _ (by rintro rfl; exact hn h1)]; exact h.on_ j oj d hj h1 hjd
    · subst h1; rw [hi] at hj; cases hj; rw [hd] at hjd; cases hjd
  | some e =>
    refine ⟨h.defers, fun d hf => ?_, fun j oj d hj hl hjd => ?_⟩
    · have hne : e ≠ d := by rintro rfl; exact hf i oi hi ((hL i).2 (.inr rfl)) hd
      show (a.tmps.setIfInBounds e v)[d]? = _
      rw [Array.getElem?_setIfInBounds, if_neg hne]
      exact h.off d fun j oj hj hl => hf j oj hj ((hL j).2 (.inl hl))
    · show (a.tmps.setIfInBounds e v)[d]? = _
      by_cases hji : j = i
      · subst hji
        rw [hi] at hj; cases hj
        rw [hd] at hjd; cases hjd
        have ho := h.off e fun j' oj' hj' hl' hd' => hn (hA _ _ _ _ _ hj' hi hd' hd ▸ hl')
        rw [Array.getElem?_setIfInBounds, if_pos rfl, upd_same]
        by_cases hs : e < a.tmps.size
        · rw [if_pos hs]; rw [Array.getElem?_eq_getElem hs] at ho; rw [← ho]; rfl
        · rw [if_neg hs]; rw [Array.getElem?_eq_none (Nat.le_of_not_lt hs)] at ho; rw [← ho]; rfl
      · have hne : e ≠ d := by rintro rfl; exact hji (hA _ _ _ _ _ hj hi hjd hd)
        rw [Array.getElem?_setIfInBounds, if_neg hne, upd_other _ _ _ _ hji]
        rcases (hL j).1 hl with h1 | h1
        · exact h.on_ j oj d hj h1 hjd
        · exact absurd h1 hji
def T (ops : Array Oper) (a0 : Act) (vals : Nat → Value) : Nat → Act
  | 0 => a0
  | i + 1 => (T ops a0 vals i).put ((ops[i]?).bind (·.dst)) (vals i)
theorem agree_T (hA : Apart ops) (vals : Nat → Value) : ∀ i, i ≤ ops.size → Agree ops a0 (· < i) vals (T ops a0 vals i) := by
  intro i
  induction i with
  | zero => intro _; exact Agree.start fun j h => Nat.not_lt_zero j h
  | succ i ih =>
    intro hi
    have hio : ops[i]? = some ops[i] := Array.getElem?_eq_getElem (by omega)
    have := (ih (by omega)).put (L' := (· < i + 1)) hA hio (Nat.lt_irrefl i) (vals i) (fun j => by show j < i + 1 ↔ (j < i ∨ j = i); omega)
    rw [upd_self] at this
    unfold T
    rw [hio]; exact this
theorem Agree.at_ (h : Agree ops a0 L vals a) (h' : Agree ops a0 L' vals a') (d : Tmp) (hd : ∀ j oj, ops[j]? = some oj → oj.dst = some d → (L j ↔ L' j)) : a.tmps[d]? = a'.tmps[d]? := by
  by_cases hx : ∃ j oj, ops[j]? = some oj ∧ L j ∧ oj.dst = some d
  · obtain ⟨j, oj, h1, h2, h3⟩ := hx
    rw [h.on_ j oj d h1 h2 h3, h'.on_ j oj d h1 ((hd j oj h1 h3).1 h2) h3]
  · rw [h.off d fun j oj h1 h2 h3 => hx ⟨j, oj, h1, h2, h3⟩, h'.off d fun j oj h1 h2 h3 => hx ⟨j, oj, h1, (hd j oj h1 h3).2 h2, h3⟩]
theorem Agree.same (h : Agree ops a0 L vals a) (h' : Agree ops a0 L' vals a') (hL : ∀ j, j < ops.size → (L j ↔ L' j)) : a = a' := by
  have ht : a.tmps = a'.tmps := by
    apply Array.ext_getElem?
    intro d
    refine h.at_ h' d fun j oj hj _ => hL j ?_
    rcases Nat.lt_or_ge j ops.size with h1 | h1
    · exact h1
    · rw [Array.getElem?_eq_none h1] at hj; cases hj
  obtain ⟨t, ds⟩ := a
  obtain ⟨t', ds'⟩ := a'
  have e := h.defers.trans h'.defers.symm
  simp only at ht e
  rw [ht, e]
theorem exec_same (o : Oper) (hs : ∀ cs b, o.op ≠ .select cs b) (hl : ∀ d ∈ o.looksAt ops, a.tmps[d]? = a'.tmps[d]?) : execOp a.eval o = execOp a'.eval o :=
  execOp_congr o hs fun x hx => by
    cases x with
    | tmp d =>
      have := hl d (List.mem_append_left _ (List.mem_filterMap.2 ⟨.tmp d, by simpa using hx, rfl⟩))
      simp only [Act.eval, Array.getD_eq_getD_getElem?, this]
    | const v => rfl
    | global g => rfl
    | func f => rfl
theorem wanted_same (o : Oper) (hl : ∀ d ∈ o.looksAt ops, a.tmps[d]? = a'.tmps[d]?) : Region.wanted o (yielded ops a.tmps) = Region.wanted o (yielded ops a'.tmps) := by
  unfold Region.wanted
  cases hg : o.guard with
  | none => rfl
  | some gb =>
    obtain ⟨g, b⟩ := gb
    have : yielded ops a.tmps g = yielded ops a'.tmps g := by
      unfold yielded
      cases hd : (ops[g]?).bind (·.dst) with
      | none => rfl
      | some d =>
        have := hl d (List.mem_append_right _ (by simp [hg, hd]))
        simp [this]
    simp only [this]
end
end Go.Proofs.Each
namespace Go.Proofs.Each
open Go
set_option linter.unusedVariables false
section
variable {P : Program} {ops : Array Oper} {a0 : Act} {a t : Act}
def QF : Exit → Act → World → Prop := fun _ _ _ => False
theorem put_val {a t : Act} (hz : ∀ d : Nat, a.tmps[d]? = none ↔ t.tmps[d]? = none) {dst : Option Tmp} {v u : Value} (h : t.put dst v = t.put dst u) : a.put dst v = a.put dst u := by
  cases dst with
  | none => rfl
  | some d =>
    have h2 : (t.tmps.setIfInBounds d v)[(d : Nat)]? = (t.tmps.setIfInBounds d u)[(d : Nat)]? := by
      have := congrArg Act.tmps h
      exact congrArg (fun x : Array Value => x[(d : Nat)]?) this
    rw [Array.getElem?_setIfInBounds, Array.getElem?_setIfInBounds, if_pos rfl, if_pos rfl] at h2
    by_cases hs : d < t.tmps.size
    · rw [if_pos hs, if_pos hs] at h2
      injection h2 with h3
      rw [h3]
    · have h1 : a.tmps[(d : Nat)]? = none := (hz d).2 (Array.getElem?_eq_none (Nat.le_of_not_lt hs))
      have h4 : a.tmps.size ≤ d := by
        rcases Nat.lt_or_ge d a.tmps.size with h5 | h5
        · rw [Array.getElem?_eq_getElem h5] at h1; cases h1
        · exact h5
      show ({ a with tmps := a.tmps.setIfInBounds d v } : Act) = { a with tmps := a.tmps.setIfInBounds d u }
      rw [Array.setIfInBounds_eq_of_size_le h4, Array.setIfInBounds_eq_of_size_le h4]
theorem put_defers {t : Act} {l : List Deferred} {dst : Option Tmp} {v : Value} : (({ t with defers := l } : Act).put dst v).defers = l := by cases dst <;> rfl
theorem put_defers' {t : Act} {dst : Option Tmp} {u : Value} : (t.put dst u).defers = t.defers := by cases dst <;> rfl
theorem wp_same {o : Oper} {w : World} {F : Value → World → Prop} {Q : Exit → Act → World → Prop} (he : execOp a.eval o = execOp t.eval o) (hz : ∀ d : Nat, a.tmps[d]? = none ↔ t.tmps[d]? = none)
    (h : o.wp P t w (fun a' w' => ∃ v, a' = t.put o.dst v ∧ F v w') QF) : o.wp P a w (fun a' w' => ∃ v, a' = a.put o.dst v ∧ F v w') Q := by
  unfold Oper.wp at *
  rw [he]
  generalize (execOp t.eval o).run P w = r at *
  cases r with
  | ok n w' =>
    cases n <;> simp only [Oper.upon] at h ⊢
    case value v => obtain ⟨u, h1, h2⟩ := h; exact ⟨u, put_val hz h1, h2⟩
    case skip => obtain ⟨u, h1, h2⟩ := h; exact ⟨u, put_val hz h1, h2⟩
    case defer d =>
      obtain ⟨u, h1, h2⟩ := h
      have := congrArg Act.defers h1
      rw [put_defers, put_defers'] at this
      exact absurd (congrArg List.length this) (by simp)
    case enter f args =>
      refine Calls.mono h fun e w'' h2 => ?_
      cases e with
      | returned v => obtain ⟨u, h1, h2⟩ := h2; exact ⟨u, put_val hz h1, h2⟩
      | panicked c => exact h2.elim
      | outgrown => obtain ⟨_, _, h3⟩ := h2; exact h3.elim
    case row r args => exact Rows.mono h fun v w'' ⟨u, h1, h2⟩ => ⟨u, put_val hz h1, h2⟩
  | halt x w' => cases x <;> simp only [Oper.upon] at h ⊢ <;> first | exact h.elim | exact h
theorem Agree.none {L L' : Nat → Prop} {vals vals' : Nat → Value} (h : Agree ops a0 L vals a) (h' : Agree ops a0 L' vals' t) (d : Nat) : a.tmps[d]? = none ↔ t.tmps[d]? = none := by
  have key : ∀ {L : Nat → Prop} {vals : Nat → Value} {a : Act}, Agree ops a0 L vals a → (a.tmps[d]? = Option.none ↔ a0.tmps[d]? = Option.none) := by
    intro L vals a h
    by_cases hx : ∃ j oj, ops[j]? = some oj ∧ L j ∧ oj.dst = some d
    · obtain ⟨j, oj, h1, h2, h3⟩ := hx
      rw [h.on_ j oj d h1 h2 h3]; simp
    · rw [h.off d fun j oj h1 h2 h3 => hx ⟨j, oj, h1, h2, h3⟩]
  exact (key h).trans (key h').symm
theorem wp_region_each {id : Nat} {Q : Exit → Act → World → Prop} {w0 : World} (hm : P.follows .mixedOrders = true) (hA : Apart ops)
    (hsel : ∀ (i : Nat) (o : Oper), ops[i]? = some o → ∀ cs b, o.op ≠ .select cs b)
    (hb : ∀ (i : Nat) (o : Oper), ops[i]? = some o → ∀ e ∈ o.after, Region.binds .any e = true → e.on < i)
    (hdep : ∀ (i : Nat) (o : Oper), ops[i]? = some o → ∀ d ∈ o.looksAt ops, ∀ (j : Nat) (oj : Oper), ops[j]? = some oj → oj.dst = some d → ∃ e ∈ o.after, Region.binds .any e = true ∧ e.on = j)
    (C : World → Prop) (R : World → World → Prop) (U : Nat → (Nat → Value) → World → Prop)
    (hC0 : C w0.drew) (hCR : ∀ w w', C w → R w w' → C w')
    (hUm : ∀ j vals w w', C w → R w w' → U j vals w → U j vals w')
    (hUc : ∀ (j : Nat) (oj : Oper) vals vals', ops[j]? = some oj → vals j = vals' j → (∀ e ∈ oj.after, Region.binds .any e = true → vals e.on = vals' e.on) → ∀ w, U j vals w → U j vals' w)
    (hstep : ∀ (i : Nat) (oi : Oper), ops[i]? = some oi → ∀ vals w, C w → (∀ e ∈ oi.after, Region.binds .any e = true → U e.on vals w) →
      wpOp P ops QF i (fun a' w' => ∃ v, a' = (T ops a0 vals i).put oi.dst v ∧ R w w' ∧ U i (upd vals i v) w') (T ops a0 vals i) w)
    (hend : ∀ vals w, C w → (∀ i, i < ops.size → U i vals w) → Q .normal (T ops a0 vals ops.size) w) : (Code.region id ops true).wp P Q a0 w0 := by
  refine wp_region_inv hm (fun listed a w => ∃ vals, Agree ops a0 (fun j => listed.getD j false = true) vals a ∧ C w ∧ (∀ j, j < ops.size → listed.getD j false = true → U j vals w) ∧ ∀ (j : Nat) (oj : Oper), ops[j]? = some oj → listed.getD j false = true → ∀ e ∈ oj.after, Region.binds .any e = true → listed.getD e.on false = true) ?_ ?_ ?_
  · have hno : ∀ j, ¬ (Array.replicate ops.size false).getD j false = true := by
      intro j h
      rw [Array.getD_eq_getD_getElem?, Array.getElem?_replicate] at h
      split at h <;> simp at h
    exact ⟨fun _ => undef, Agree.start hno, hC0, fun j _ h => absurd h (hno j), fun j _ _ h => absurd h (hno j)⟩
  · intro listed a w i hs hI hi
    obtain ⟨vals, hag, hC, hU, hcl⟩ := hI
    obtain ⟨o, ho, hlt, hnl, haf⟩ := ready_at hs hi
    have hnl2 : ¬ listed.getD i false = true := by
      rw [Array.getD_eq_getD_getElem?, Array.getElem?_eq_getElem (by omega)] at hnl ⊢
      simp only [Option.getD_some] at hnl ⊢
      rw [hnl]; decide
    have hT := agree_T (a0 := a0) hA vals i (Nat.le_of_lt hlt)
    have hlook : ∀ d ∈ o.looksAt ops, a.tmps[d]? = (T ops a0 vals i).tmps[d]? := fun d hd => hag.at_ hT d fun j oj hj hjd => by
      obtain ⟨e, he, hbe, rfl⟩ := hdep i o ho d hd j oj hj hjd
      exact ⟨fun _ => hb i o ho e he hbe, fun _ => haf e he hbe⟩
    have hst := hstep i o ho vals w hC (fun e he hbe => hU e.on (Nat.lt_trans (hb i o ho e he hbe) hlt) (haf e he hbe))
    have hfin : ∀ v w', (R w w' ∧ U i (upd vals i v) w') → ∃ vals', Agree ops a0 (fun j => (listed.setIfInBounds i true).getD j false = true) vals' (a.put o.dst v) ∧ C w' ∧ (∀ j, j < ops.size → (listed.setIfInBounds i true).getD j false = true → U j vals' w') ∧ ∀ (j : Nat) (oj : Oper), ops[j]? = some oj → (listed.setIfInBounds i true).getD j false = true → ∀ e ∈ oj.after, Region.binds .any e = true → (listed.setIfInBounds i true).getD e.on false = true := by
      intro v w' ⟨hR, hUi⟩
      have hLL : ∀ j, (listed.setIfInBounds i true).getD j false = true ↔ (listed.getD j false = true ∨ j = i) := by
        intro j
        rw [Array.getD_eq_getD_getElem?, Array.getD_eq_getD_getElem?, Array.getElem?_setIfInBounds]
        by_cases hij : i = j
        · subst hij; rw [if_pos rfl, if_pos (by omega)]; simp
        · rw [if_neg hij]
          exact ⟨.inl, fun h => h.resolve_right (fun e => hij e.symm)⟩
      refine ⟨upd vals i v, hag.put hA ho hnl2 v hLL, hCR _ _ hC hR, fun j hj hl => ?_, fun j oj hj hl e he hbe => ?_⟩
      rcases (hLL j).1 hl with h1 | h1
      · have hji : j ≠ i := by rintro rfl; exact hnl2 h1
        have hjo : ops[j]? = some ops[j] := Array.getElem?_eq_getElem hj
        refine hUc j ops[j] vals (upd vals i v) hjo (upd_other _ _ _ _ hji).symm (fun e he hbe => ?_) w' (hUm j vals w w' hC hR (hU j hj h1))
        have h3 := hcl j ops[j] hjo h1 e he hbe
        exact (upd_other _ _ _ _ (by intro h4; rw [h4] at h3; exact hnl2 h3)).symm
      · subst h1; exact hUi
      · rcases (hLL j).1 hl with h1 | h1
        · exact (hLL e.on).2 (.inl (hcl j oj hj h1 e he hbe))
        · subst h1
          rw [ho] at hj; cases hj
          exact (hLL e.on).2 (.inl (haf e he hbe))
    unfold wpOp at hst ⊢
    simp only [ho] at hst ⊢
    rw [wanted_same o hlook]
    split
    · rename_i hw
      rw [if_pos hw] at hst
      rcases hst with hst | ⟨_, _, _, hst⟩
      · exact .inl (Oper.wp_mono (fun a' w' ⟨v, h1, h2⟩ => h1 ▸ hfin v w' h2) (wp_same (exec_same o (hsel i o ho) hlook) (hag.none hT) hst))
      · exact hst.elim
    · rename_i hw
      rw [if_neg hw] at hst
      obtain ⟨v, h1, h2⟩ := hst
      rw [put_val (hag.none hT) h1]
      exact hfin v w h2
  · intro listed a w hs hI hr
    obtain ⟨vals, hag, hC, hU, hcl⟩ := hI
    have hall := all_listed hs hb hr
    rw [hag.same (agree_T hA vals ops.size (Nat.le_refl _)) (fun j hj => ⟨fun _ => hj, fun _ => hall j hj⟩)]
    exact hend vals w hC fun i hi => hU i hi (hall i hi)
end
end Go.Proofs.Each
namespace Go.Proofs.Each
open Go Go.ChangeShapes Go.WideShapes Go.RowKit
set_option linter.unusedVariables false
def isSelect : Op → Bool
  | .select _ _ => true
  | _ => false
def fitB (ops : Array Oper) : Bool :=
  (List.range ops.size).all fun i => match ops[i]? with
    | none => true
    | some o => !isSelect o.op && o.after.all (fun e => !Region.binds .any e || decide (e.on < i)) &&
        (List.range ops.size).all fun j => match ops[j]? with
          | none => true
          | some oj => match oj.dst with
            | none => true
            | some d => (!(o.looksAt ops).contains d || o.after.any fun e => Region.binds .any e && e.on == j) && (decide (i = j) || o.dst != some d)
theorem fitB_at {ops : Array Oper} (h : fitB ops = true) {i : Nat} {o : Oper} (hi : ops[i]? = some o) :
    isSelect o.op = false ∧ (∀ e ∈ o.after, Region.binds .any e = true → e.on < i) ∧ ∀ (j : Nat) (oj : Oper) (d : Tmp), ops[j]? = some oj → oj.dst = some d →
      (d ∈ o.looksAt ops → ∃ e ∈ o.after, Region.binds .any e = true ∧ e.on = j) ∧ (o.dst = some d → i = j) := by
  have lt : ∀ {k : Nat} {x : Oper}, ops[k]? = some x → k < ops.size := fun {k x} hk => by
    rcases Nat.lt_or_ge k ops.size with h1 | h1
    · exact h1
    · rw [Array.getElem?_eq_none h1] at hk; cases hk
  have h1 := List.all_eq_true.1 h i (List.mem_range.2 (lt hi))
  simp only [hi, Bool.and_eq_true] at h1
  obtain ⟨⟨h2, h3⟩, h4⟩ := h1
  refine ⟨by simpa using h2, fun e he hb => ?_, fun j oj d hj hd => ?_⟩
  · have := (Array.all_eq_true'.1 h3) e he
    rw [hb] at this
    simpa using this
  · have h5 := List.all_eq_true.1 h4 j (List.mem_range.2 (lt hj))
    simp only [hj, hd, Bool.and_eq_true, Bool.or_eq_true] at h5
    obtain ⟨h6, h7⟩ := h5
    constructor
    · intro hm
      rcases h6 with h6 | h6
      · have : (o.looksAt ops).contains d = true := List.contains_iff_mem.2 hm
        rw [this] at h6; cases h6
      · obtain ⟨e, he, hb⟩ := Array.any_eq_true'.1 h6
        rw [Bool.and_eq_true] at hb
        exact ⟨e, he, hb.1, by simpa using hb.2⟩
    · intro ho
      rcases h7 with h7 | h7
      · simpa using h7
      · rw [ho] at h7; simp at h7
theorem wp_region_grows {P : Program} {ops : Array Oper} {a0 : Act} {id : Nat} {Q : Exit → Act → World → Prop} {w0 : World} (hm : P.follows .mixedOrders = true) (hB : fitB ops = true)
    (U : Nat → (Nat → Value) → World → Prop)
    (hUm : ∀ j vals w w', Below w.heap.size w w' → U j vals w → U j vals w')
    (hUc : ∀ (j : Nat) (oj : Oper) vals vals', ops[j]? = some oj → vals j = vals' j → (∀ e ∈ oj.after, Region.binds .any e = true → vals e.on = vals' e.on) → ∀ w, U j vals w → U j vals' w)
    (hstep : ∀ (i : Nat) (oi : Oper), ops[i]? = some oi → ∀ vals w, Below w0.heap.size w0 w → (∀ e ∈ oi.after, Region.binds .any e = true → U e.on vals w) →
      wpOp P ops QF i (fun a' w' => ∃ v, a' = (T ops a0 vals i).put oi.dst v ∧ Below w.heap.size w w' ∧ U i (upd vals i v) w') (T ops a0 vals i) w)
    (hend : ∀ vals w, Below w0.heap.size w0 w → (∀ i, i < ops.size → U i vals w) → Q .normal (T ops a0 vals ops.size) w) : (Code.region id ops true).wp P Q a0 w0 :=
  wp_region_each hm (fun i j oi oj d hi hj hdi hdj => ((fitB_at hB hi).2.2 j oj d hj hdj).2 hdi) (fun i o hi cs b e => by have := (fitB_at hB hi).1; rw [e] at this; cases this)
    (fun i o hi => (fitB_at hB hi).2.1) (fun i o hi d hd j oj hj hjd => ((fitB_at hB hi).2.2 j oj d hj hjd).1 hd)
    (Below w0.heap.size w0) (fun w w' => Below w.heap.size w w') U ⟨rfl, rfl, rfl, Nat.le_refl _, fun _ _ => rfl⟩ (fun w w' h h' => h.trans (h'.mono h.size)) (fun j vals w w' _ h => hUm j vals w w' h) hUc hstep hend
end Go.Proofs.Each
namespace Go.Proofs.Each
open Go Go.ChangeShapes Go.WideShapes Go.RowKit
set_option linter.unusedVariables false
def AllFrom (S : Nat → Oper → Prop) : Nat → List Oper → Prop
  | _, [] => True
  | k, o :: r => S k o ∧ AllFrom S (k + 1) r
theorem AllFrom.at_ {S : Nat → Oper → Prop} : ∀ {l : List Oper} {k : Nat}, AllFrom S k l → ∀ (i : Nat) (o : Oper), l[i]? = some o → S (k + i) o
  | [], _, _, i, o, h => by simp at h
  | x :: r, k, ⟨h1, h2⟩, 0, o, h => by simp at h; subst h; exact h1
  | x :: r, k, ⟨h1, h2⟩, i + 1, o, h => by
    have := AllFrom.at_ h2 i o (by simpa using h)
    rwa [show k + 1 + i = k + (i + 1) by omega] at this
def Waits (U : Nat → (Nat → Value) → World → Prop) (vals : Nat → Value) (w : World) (o : Oper) : Prop :=
  ∀ e ∈ o.after, Region.binds .any e = true → U e.on vals w
def StepOf (P : Program) (ops : Array Oper) (a0 : Act) (w0 : World) (U : Nat → (Nat → Value) → World → Prop) (i : Nat) (o : Oper) : Prop :=
  ∀ vals w, Below w0.heap.size w0 w → Waits U vals w o →
    if Region.wanted o (yielded ops (T ops a0 vals i).tmps) then o.wp P (T ops a0 vals i) w (fun a' w' => ∃ v, a' = (T ops a0 vals i).put o.dst v ∧ Below w.heap.size w w' ∧ U i (upd vals i v) w') QF
    else U i (upd vals i undef) w
end Go.Proofs.Each
namespace Go.Proofs.Each
open Go Go.ChangeShapes Go.WideShapes Go.RowKit Go.Proofs.Mem
set_option linter.unusedVariables false
def Stays (f : Value → World → Prop) : Prop := ∀ v W W', Below W.heap.size W W' → f v W → f v W'
def AllStay : List (Value → World → Prop) → Prop
  | [] => True
  | f :: r => Stays f ∧ AllStay r
theorem AllStay.at_ : ∀ {l : List (Value → World → Prop)}, AllStay l → ∀ j, Stays (l.getD j fun _ _ => True)
  | [], _, j => by simp [Stays]
  | f :: r, ⟨h1, h2⟩, 0 => by simpa using h1
  | f :: r, ⟨h1, h2⟩, j + 1 => by simpa using AllStay.at_ h2 j
theorem stays_eq (E : Value) : Stays (fun v _ => v = E) := fun _ _ _ _ h => h
def StepAt (P : Program) (ops : Array Oper) (w0 : World) (F : Nat → Value → World → Prop) (vals : Nat → Value) (k : Nat) (o : Oper) (a : Act) : Prop :=
  ∀ W, Below w0.heap.size w0 W → (∀ e ∈ o.after, Region.binds .any e = true → F e.on (vals e.on) W) →
    if Region.wanted o (yielded ops a.tmps) = true then o.wp P a W (fun a' W' => ∃ v, a' = a.put o.dst v ∧ Below W.heap.size W W' ∧ F k v W') QF else F k undef W
theorem step_plain {P : Program} {o : Oper} {a : Act} {W : World} {K : Act → World → Prop} {y : Nat → Option Bool} {E : Prop} (hg : o.guard = none) (h : o.wp P a W K QF) : if Region.wanted o y = true then o.wp P a W K QF else E := by
  rw [if_pos (by simp [Region.wanted, hg])]; exact h
def ObF (P : Program) (ops : Array Oper) (w0 : World) (F : Nat → Value → World → Prop) (vals : Nat → Value) : Nat → List Oper → Act → Prop
  | _, [], _ => True
  | k, o :: r, a => StepAt P ops w0 F vals k o a ∧ ObF P ops w0 F vals (k + 1) r (a.put o.dst (vals k))
def TL (vals : Nat → Value) : Nat → List Oper → Act → Act
  | _, [], a => a
  | k, o :: r, a => TL vals (k + 1) r (a.put o.dst (vals k))
theorem T_app (vals : Nat → Value) (a0 : Act) (ops : Array Oper) : ∀ (r : List Oper) (k : Nat), (∀ i o, r[i]? = some o → ops[k + i]? = some o) → TL vals k r (T ops a0 vals k) = T ops a0 vals (k + r.length)
  | [], k, _ => rfl
  | o :: r, k, h => by
    have h0 : ops[k]? = some o := h 0 o rfl
    have := T_app vals a0 ops r (k + 1) fun i x hx => by rw [show k + 1 + i = k + (i + 1) by omega]; exact h (i + 1) x (by simpa using hx)
    show TL vals (k + 1) r ((T ops a0 vals k).put o.dst (vals k)) = _
    rw [show (T ops a0 vals k).put o.dst (vals k) = T ops a0 vals (k + 1) by simp only [T, h0, Option.bind_some], this, List.length_cons]
    congr 1; omega
theorem ob_at {P : Program} {ops : Array Oper} {w0 : World} {F : Nat → Value → World → Prop} {vals : Nat → Value} {a0 : Act} : ∀ (r : List Oper) (k : Nat), (∀ i o, r[i]? = some o → ops[k + i]? = some o) → ObF P ops w0 F vals k r (T ops a0 vals k) →
    ∀ i o, r[i]? = some o → StepAt P ops w0 F vals (k + i) o (T ops a0 vals (k + i))
  | [], k, _, _, i, o, h => by simp at h
  | x :: r, k, hk, ⟨h1, h2⟩, 0, o, h => by simp at h; subst h; exact h1
  | x :: r, k, hk, ⟨h1, h2⟩, i + 1, o, h => by
    have h0 : ops[k]? = some x := hk 0 x rfl
    rw [show (T ops a0 vals k).put x.dst (vals k) = T ops a0 vals (k + 1) by simp only [T, h0, Option.bind_some]] at h2
    have := ob_at r (k + 1) (fun i y hy => by rw [show k + 1 + i = k + (i + 1) by omega]; exact hk (i + 1) y (by simpa using hy)) h2 i o (by simpa using h)
    rwa [show k + 1 + i = k + (i + 1) by omega] at this
theorem wp_region_ob {P : Program} {l : List Oper} {a0 : Act} {id : Nat} {Q : Exit → Act → World → Prop} {w0 : World} (hm : P.follows .mixedOrders = true) (hB : fitB l.toArray = true)
    (Fs : List (Value → World → Prop)) (hF : AllStay Fs)
    (hob : ∀ vals : Nat → Value, ObF P l.toArray w0 (fun j => Fs.getD j fun _ _ => True) vals 0 l a0)
    (hend : ∀ (vals : Nat → Value) W, Below w0.heap.size w0 W → (∀ i, i < l.length → (Fs.getD i fun _ _ => True) (vals i) W) → Q .normal (TL vals 0 l a0) W) : (Code.region id l.toArray true).wp P Q a0 w0 := by
  refine wp_region_grows hm hB (fun j vals W => (Fs.getD j fun _ _ => True) (vals j) W) (fun j vals W W' hb h => hF.at_ j _ _ _ hb h) (fun j oj vals vals' _ e _ W h => by rw [← e]; exact h) ?_ ?_
  · intro i oi hi vals W hb hw
    have hi' : l[i]? = some oi := by simpa using hi
    have h0 := ob_at l 0 (fun i o h => by simpa using h) (hob vals) i oi hi'
    rw [Nat.zero_add] at h0
    have h1 := h0 W hb hw
    unfold wpOp
    simp only [hi]
    split
    · rename_i hx; rw [if_pos hx] at h1
      refine .inl (Oper.wp_mono (fun a' W' => ?_) h1)
      rintro ⟨v, e1, e2, e3⟩
      exact ⟨v, e1, e2, by rw [upd_same]; exact e3⟩
    · rename_i hx; rw [if_neg hx] at h1
      exact ⟨undef, rfl, Below.refl _ _, by rw [upd_same]; exact h1⟩
  · intro vals W hb h
    have := T_app vals a0 l.toArray l 0 fun i o h => by simpa using h
    rw [Nat.zero_add] at this
    have h2 := hend vals W hb fun i hi => h i (by simpa using hi)
    rw [show TL vals 0 l a0 = T l.toArray a0 vals l.length from this] at h2
    simpa using h2
end Go.Proofs.Each
namespace Go.Proofs.Each
open Go Go.RowKit
set_option linter.unusedVariables false
section
variable {P : Program} {ops : Array Oper} {a0 : Act} {a t : Act}
end
def StepC (P : Program) (ops : Array Oper) (C : World → Prop) (R : Nat → World → World → Prop) (F : Nat → (Nat → Value) → World → Prop) (vals : Nat → Value) (k : Nat) (o : Oper) (a : Act) : Prop :=
  ∀ W, C W → (∀ e ∈ o.after, Region.binds .any e = true → F e.on vals W) →
    if Region.wanted o (yielded ops a.tmps) = true then o.wp P a W (fun a' W' => ∃ v, a' = a.put o.dst v ∧ R k W W' ∧ F k (upd vals k v) W') QF else R k W W ∧ F k (upd vals k undef) W
def ObC (P : Program) (ops : Array Oper) (C : World → Prop) (R : Nat → World → World → Prop) (F : Nat → (Nat → Value) → World → Prop) (vals : Nat → Value) : Nat → List Oper → Act → Prop
  | _, [], _ => True
  | k, o :: r, a => StepC P ops C R F vals k o a ∧ ObC P ops C R F vals (k + 1) r (a.put o.dst (vals k))
end Go.Proofs.Each
namespace Go.Proofs.Each
open Go Go.RowKit Go.Proofs.Mem
set_option linter.unusedVariables false
section
variable {P : Program} {ops : Array Oper} {a0 : Act} {a t : Act}
def Clo (ops : Array Oper) (L : Nat → Bool) : Prop := ∀ (j : Nat) (oj : Oper), ops[j]? = some oj → L j = true → ∀ e ∈ oj.after, Region.binds .any e = true → L e.on = true
def ancB (ops : Array Oper) : Nat → Nat → Nat → Bool
  | 0, _, _ => false
  | n + 1, i, j => match ops[i]? with
    | none => false
    | some o => o.after.any fun e => Region.binds .any e && (e.on == j || ancB ops n e.on j)
theorem Clo.anc {L : Nat → Bool} (h : Clo ops L) : ∀ (n i j : Nat), ancB ops n i j = true → L i = true → L j = true
  | 0, _, _, h0, _ => by cases h0
  | n + 1, i, j, h0, hi => by
    unfold ancB at h0
    cases e : ops[i]? with
    | none => rw [e] at h0; cases h0
    | some o =>
      rw [e] at h0
      simp only [Array.any_eq_true', Bool.and_eq_true, Bool.or_eq_true, beq_iff_eq] at h0
      obtain ⟨d, hd, hb, hj⟩ := h0
      have hl := h i o e hi d hd hb
      rcases hj with hj | hj
      · rw [← hj]; exact hl
      · exact h.anc n d.on j hj hl
theorem Clo.not_yet {L : Nat → Bool} (h : Clo ops L) {k : Nat} (hk : L k = false) (i n : Nat) (ha : ancB ops n i k = true) : L i = false := by
  cases e : L i with
  | false => rfl
  | true => rw [h.anc n i k ha e] at hk; cases hk
theorem wp_region_eachL {id : Nat} {Q : Exit → Act → World → Prop} {w0 : World} (hm : P.follows .mixedOrders = true) (hA : Apart ops)
    (hsel : ∀ (i : Nat) (o : Oper), ops[i]? = some o → ∀ cs b, o.op ≠ .select cs b)
    (hb : ∀ (i : Nat) (o : Oper), ops[i]? = some o → ∀ e ∈ o.after, Region.binds .any e = true → e.on < i)
    (hdep : ∀ (i : Nat) (o : Oper), ops[i]? = some o → ∀ d ∈ o.looksAt ops, ∀ (j : Nat) (oj : Oper), ops[j]? = some oj → oj.dst = some d → ∃ e ∈ o.after, Region.binds .any e = true ∧ e.on = j)
    (C : (Nat → Bool) → World → Prop) (R : Nat → World → World → Prop) (U : Nat → (Nat → Value) → World → Prop)
    (hC0 : ∀ L : Nat → Bool, (∀ j, L j = false) → C L w0.drew) (hCR : ∀ i (L L' : Nat → Bool) w w', i < ops.size → L i = false → (∀ j, L' j = true ↔ (L j = true ∨ j = i)) → C L w → R i w w' → C L' w')
    (hUm : ∀ i j L vals w w', i < ops.size → j ≠ i → C L w → R i w w' → U j vals w → U j vals w')
    (hUc : ∀ (j : Nat) (oj : Oper) vals vals', ops[j]? = some oj → vals j = vals' j → (∀ e ∈ oj.after, Region.binds .any e = true → vals e.on = vals' e.on) → ∀ w, U j vals w → U j vals' w)
    (hstep : ∀ (i : Nat) (oi : Oper), ops[i]? = some oi → ∀ L vals w, Clo ops L → L i = false → C L w → (∀ e ∈ oi.after, Region.binds .any e = true → U e.on vals w) →
      wpOp P ops QF i (fun a' w' => ∃ v, a' = (T ops a0 vals i).put oi.dst v ∧ R i w w' ∧ U i (upd vals i v) w') (T ops a0 vals i) w)
    (hend : ∀ L vals w, C L w → (∀ i, i < ops.size → U i vals w) → Q .normal (T ops a0 vals ops.size) w) : (Code.region id ops true).wp P Q a0 w0 := by
  refine wp_region_inv hm (fun listed a w => ∃ vals, Agree ops a0 (fun j => listed.getD j false = true) vals a ∧ C (fun j => listed.getD j false) w ∧ (∀ j, j < ops.size → listed.getD j false = true → U j vals w) ∧ Clo ops (fun j => listed.getD j false)) ?_ ?_ ?_
  · have hno : ∀ j, ¬ (Array.replicate ops.size false).getD j false = true := by
      intro j h
      rw [Array.getD_eq_getD_getElem?, Array.getElem?_replicate] at h
      split at h <;> simp at h
    exact ⟨fun _ => undef, Agree.start hno, hC0 _ (fun j => by simpa using hno j), fun j _ h => absurd h (hno j), fun j _ _ h => absurd h (hno j)⟩
  · intro listed a w i hs hI hi
    obtain ⟨vals, hag, hC, hU, hcl⟩ := hI
    obtain ⟨o, ho, hlt, hnl, haf⟩ := ready_at hs hi
    have hnl2 : ¬ listed.getD i false = true := by
      rw [Array.getD_eq_getD_getElem?, Array.getElem?_eq_getElem (by omega)] at hnl ⊢
      simp only [Option.getD_some] at hnl ⊢
      rw [hnl]; decide
    have hnl3 : listed.getD i false = false := by simpa using hnl2
    have hT := agree_T (a0 := a0) hA vals i (Nat.le_of_lt hlt)
    have hlook : ∀ d ∈ o.looksAt ops, a.tmps[d]? = (T ops a0 vals i).tmps[d]? := fun d hd => hag.at_ hT d fun j oj hj hjd => by
      obtain ⟨e, he, hbe, rfl⟩ := hdep i o ho d hd j oj hj hjd
      exact ⟨fun _ => hb i o ho e he hbe, fun _ => haf e he hbe⟩
    have hst := hstep i o ho (fun j => listed.getD j false) vals w hcl hnl3 hC (fun e he hbe => hU e.on (Nat.lt_trans (hb i o ho e he hbe) hlt) (haf e he hbe))
    have hfin : ∀ v w', (R i w w' ∧ U i (upd vals i v) w') → ∃ vals', Agree ops a0 (fun j => (listed.setIfInBounds i true).getD j false = true) vals' (a.put o.dst v) ∧ C (fun j => (listed.setIfInBounds i true).getD j false) w' ∧ (∀ j, j < ops.size → (listed.setIfInBounds i true).getD j false = true → U j vals' w') ∧ Clo ops (fun j => (listed.setIfInBounds i true).getD j false) := by
      intro v w' ⟨hR, hUi⟩
      have hLL : ∀ j, (listed.setIfInBounds i true).getD j false = true ↔ (listed.getD j false = true ∨ j = i) := by
        intro j
        rw [Array.getD_eq_getD_getElem?, Array.getD_eq_getD_getElem?, Array.getElem?_setIfInBounds]
        by_cases hij : i = j
        · subst hij; rw [if_pos rfl, if_pos (by omega)]; simp
        · rw [if_neg hij]
          exact ⟨.inl, fun h => h.resolve_right (fun e => hij e.symm)⟩
      refine ⟨upd vals i v, hag.put hA ho hnl2 v hLL, hCR i _ _ _ _ hlt hnl3 hLL hC hR, fun j hj hl => ?_, fun j oj hj hl e he hbe => ?_⟩
      rcases (hLL j).1 hl with h1 | h1
      · have hji : j ≠ i := by rintro rfl; exact hnl2 h1
        have hjo : ops[j]? = some ops[j] := Array.getElem?_eq_getElem hj
        refine hUc j ops[j] vals (upd vals i v) hjo (upd_other _ _ _ _ hji).symm (fun e he hbe => ?_) w' (hUm i j _ vals w w' hlt hji hC hR (hU j hj h1))
        have h3 := hcl j ops[j] hjo h1 e he hbe
        exact (upd_other _ _ _ _ (by intro h4; rw [h4] at h3; exact hnl2 h3)).symm
      · subst h1; exact hUi
      · rcases (hLL j).1 hl with h1 | h1
        · exact (hLL e.on).2 (.inl (hcl j oj hj h1 e he hbe))
        · subst h1
          rw [ho] at hj; cases hj
          exact (hLL e.on).2 (.inl (haf e he hbe))
    unfold wpOp at hst ⊢
    simp only [ho] at hst ⊢
    rw [wanted_same o hlook]
    split
    · rename_i hw
      rw [if_pos hw] at hst
      rcases hst with hst | ⟨_, _, _, hst⟩
      · exact .inl (Oper.wp_mono (fun a' w' ⟨v, h1, h2⟩ => h1 ▸ hfin v w' h2) (wp_same (exec_same o (hsel i o ho) hlook) (hag.none hT) hst))
      · exact hst.elim
    · rename_i hw
      rw [if_neg hw] at hst
      obtain ⟨v, h1, h2⟩ := hst
      rw [put_val (hag.none hT) h1]
      exact hfin v w h2
  · intro listed a w hs hI hr
    obtain ⟨vals, hag, hC, hU, hcl⟩ := hI
    have hall := all_listed hs hb hr
    rw [hag.same (agree_T hA vals ops.size (Nat.le_refl _)) (fun j hj => ⟨fun _ => hj, fun _ => hall j hj⟩)]
    exact hend _ vals w hC fun i hi => hU i hi (hall i hi)
end
def StepL (P : Program) (ops : Array Oper) (C : (Nat → Bool) → World → Prop) (R : Nat → World → World → Prop) (F : Nat → (Nat → Value) → World → Prop) (vals : Nat → Value) (k : Nat) (o : Oper) (a : Act) : Prop :=
  ∀ L W, Clo ops L → L k = false → C L W → (∀ e ∈ o.after, Region.binds .any e = true → F e.on vals W) →
    if Region.wanted o (yielded ops a.tmps) = true then o.wp P a W (fun a' W' => ∃ v, a' = a.put o.dst v ∧ R k W W' ∧ F k (upd vals k v) W') QF else R k W W ∧ F k (upd vals k undef) W
def ObL (P : Program) (ops : Array Oper) (C : (Nat → Bool) → World → Prop) (R : Nat → World → World → Prop) (F : Nat → (Nat → Value) → World → Prop) (vals : Nat → Value) : Nat → List Oper → Act → Prop
  | _, [], _ => True
  | k, o :: r, a => StepL P ops C R F vals k o a ∧ ObL P ops C R F vals (k + 1) r (a.put o.dst (vals k))
theorem obL_at {P : Program} {ops : Array Oper} {C : (Nat → Bool) → World → Prop} {R : Nat → World → World → Prop} {F : Nat → (Nat → Value) → World → Prop} {vals : Nat → Value} {a0 : Act} : ∀ (r : List Oper) (k : Nat), (∀ i o, r[i]? = some o → ops[k + i]? = some o) → ObL P ops C R F vals k r (T ops a0 vals k) →
    ∀ i o, r[i]? = some o → StepL P ops C R F vals (k + i) o (T ops a0 vals (k + i))
  | [], k, _, _, i, o, h => by simp at h
  | x :: r, k, hk, ⟨h1, h2⟩, 0, o, h => by simp at h; subst h; exact h1
  | x :: r, k, hk, ⟨h1, h2⟩, i + 1, o, h => by
    have h0 : ops[k]? = some x := hk 0 x rfl
    rw [show (T ops a0 vals k).put x.dst (vals k) = T ops a0 vals (k + 1) by simp only [T, h0, Option.bind_some]] at h2
    have := obL_at r (k + 1) (fun i y hy => by rw [show k + 1 + i = k + (i + 1) by omega]; exact hk (i + 1) y (by simpa using hy)) h2 i o (by simpa using h)
    rwa [show k + 1 + i = k + (i + 1) by omega] at this
theorem wp_region_obL {P : Program} {l : List Oper} {a0 : Act} {id : Nat} {Q : Exit → Act → World → Prop} {w0 : World} (hm : P.follows .mixedOrders = true) (hB : fitB l.toArray = true)
    (C : (Nat → Bool) → World → Prop) (R : Nat → World → World → Prop) (F : Nat → (Nat → Value) → World → Prop)
    (hC0 : ∀ L : Nat → Bool, (∀ j, L j = false) → C L w0.drew) (hCR : ∀ i (L L' : Nat → Bool) w w', L i = false → (∀ j, L' j = true ↔ (L j = true ∨ j = i)) → C L w → R i w w' → C L' w')
    (hFm : ∀ i j L vals w w', j ≠ i → C L w → R i w w' → F j vals w → F j vals w')
    (hFc : ∀ (j : Nat) (oj : Oper) vals vals', l[j]? = some oj → vals j = vals' j → (∀ e ∈ oj.after, Region.binds .any e = true → vals e.on = vals' e.on) → ∀ w, F j vals w → F j vals' w)
    (hob : ∀ vals : Nat → Value, ObL P l.toArray C R F vals 0 l a0)
    (hend : ∀ L (vals : Nat → Value) W, C L W → (∀ i, i < l.length → F i vals W) → Q .normal (TL vals 0 l a0) W) : (Code.region id l.toArray true).wp P Q a0 w0 := by
  refine wp_region_eachL hm (fun i j oi oj d hi hj hdi hdj => ((fitB_at hB hi).2.2 j oj d hj hdj).2 hdi) (fun i o hi cs b e => by have := (fitB_at hB hi).1; rw [e] at this; cases this)
    (fun i o hi => (fitB_at hB hi).2.1) (fun i o hi d hd j oj hj hjd => ((fitB_at hB hi).2.2 j oj d hj hjd).1 hd)
    C R F hC0 (fun i L L' w w' _ h1 h2 h h' => hCR i L L' w w' h1 h2 h h') (fun i j L vals w w' _ h0 h h' => hFm i j L vals w w' h0 h h') (fun j oj vals vals' hj => hFc j oj vals vals' (by simpa using hj)) ?_ ?_
  · intro i oi hi L vals W hL hn hc hw
    have hi' : l[i]? = some oi := by simpa using hi
    have h0 := obL_at l 0 (fun i o h => by simpa using h) (hob vals) i oi hi'
    rw [Nat.zero_add] at h0
    have h1 := h0 L W hL hn hc hw
    unfold wpOp
    simp only [hi]
    split
    · rename_i hx; rw [if_pos hx] at h1; exact .inl h1
    · rename_i hx; rw [if_neg hx] at h1; exact ⟨undef, rfl, h1⟩
  · intro L vals W hc h
    have := T_app vals a0 l.toArray l 0 fun i o h => by simpa using h
    rw [Nat.zero_add] at this
    have h2 := hend L vals W hc fun i hi => h i (by simpa using hi)
    rw [show TL vals 0 l a0 = T l.toArray a0 vals l.length from this] at h2
    simpa using h2
def Ca (w0 : World) (row : Option Nat) (g p s : Nat) (L : Nat → Bool) (W : World) : Prop := Fr (fun x => (L p = true ∧ row = some x) ∨ (L s = true ∧ x = g)) w0 W
def Ra (row : Option Nat) (g p s i : Nat) (W W' : World) : Prop := Fr (fun x => (i = p ∧ row = some x) ∨ (i = s ∧ x = g)) W W'
theorem Ra.same {row : Option Nat} {g p s i : Nat} (W : World) : Ra row g p s i W W := Fr.refl _ _
theorem Ra.of_below {row : Option Nat} {g p s i : Nat} {W W' : World} (h : Below W.heap.size W W') : Ra row g p s i W W' := Fr.of_below h
theorem Ca.below {w0 : World} {row : Option Nat} {g p s : Nat} {L : Nat → Bool} {W : World} (h : Ca w0 row g p s L W) (hp : L p = false) (hs : L s = false) : Below w0.heap.size w0 W :=
  Fr.to_below h (fun k hk => by rcases hk with ⟨h1, _⟩ | ⟨h1, _⟩; (rw [hp] at h1; cases h1); (rw [hs] at h1; cases h1)) (Nat.le_refl _)
theorem Ca.box {w0 : World} {row : Option Nat} {g p s : Nat} {L : Nat → Bool} {W : World} {C : Array Value} {t : TypeId} (h : Ca w0 row g p s L W) (hb : Box w0 g C t) (hs : L s = false) (hr : row ≠ some g) : Box W g C t :=
  hb.fr h (fun hk => by rcases hk with ⟨_, h1⟩ | ⟨h1, _⟩; (exact hr h1); (rw [hs] at h1; cases h1))
def Fa (s g p : Nat) (t : TypeId) (C' : Value → Array Value) (Fs : List (Value → World → Prop)) (j : Nat) (vals : Nat → Value) (W : World) : Prop := if j = s then Box W g (C' (vals p)) t else (Fs.getD j fun _ _ => True) (vals j) W
section
variable {s g p j : Nat} {t : TypeId} {C' : Value → Array Value} {Fs : List (Value → World → Prop)} {vals : Nat → Value} {W : World} {f : Value → World → Prop} {v : Value}
theorem Fa.val (h : j ≠ s) (hE : (Fs.getD j fun _ _ => True) = f) (hf : f v W) : Fa s g p t C' Fs j (upd vals j v) W := by
  unfold Fa; rw [if_neg h, upd_same, hE]; exact hf
theorem Fa.get (hf : Fa s g p t C' Fs j vals W) (h : j ≠ s) : (Fs.getD j fun _ _ => True) (vals j) W := by
  unfold Fa at hf; rw [if_neg h] at hf; exact hf
theorem Fa.last (h : p ≠ s) (hb : Box W g (C' (vals p)) t) : Fa s g p t C' Fs s (upd vals s v) W := by
  unfold Fa; rw [if_pos rfl, upd_other _ _ _ _ h]; exact hb
end
theorem own_frS {W W' : World} {base n size : Nat} {e : TypeId} {v : Value} {xs : List Value} {S : Nat → Prop} (h : W.ownsRow base e size v n xs) (hf : Fr S W W') (hs : ∀ k, v.ownBlock = some k → ¬ S k) : W'.ownsRow base e size v n xs := by
  refine ⟨h.1, ?_⟩
  rcases h.2 with hn | ⟨g, cap, cur, rfl, hb, hgg, rest⟩
  · exact .inl hn
  · exact .inr ⟨g, cap, cur, rfl, hb, (hf.block g (Array.getElem?_eq_some_iff.1 hgg).1 (hs g rfl)).trans hgg, rest⟩
theorem own_slice' {W : World} {b n sz : Nat} {e : TypeId} {v : Value} {xs : List Value} (h : W.ownsRow b e sz v n xs) : ∃ A c, v = .slice A n c := by
  rcases h.2 with ⟨rfl, rfl⟩ | ⟨g, cap, cur, rfl, _⟩
  · exact ⟨_, _, rfl⟩
  · exact ⟨_, _, rfl⟩
theorem wp_push {P : Program} (w : World) {o : Oper} {a : Act} {K : Act → World → Prop} {Q : Exit → Act → World → Prop} (s x : Operand) (t : TypeId)
    (ho : o.op = .call { callee := .builtin .append, args := #[s, x], argTypes := #[t, t] })
    (base : Nat) (e : TypeId) (i : TypeInfo) (z : Value) (sz bytes : Nat) (ht : P.underlying t = some (.slice e)) (hi : P.info? e = some i) (hz : i.zero = some z)
    (hsize : i.size = sz) (hby : i.bytes = bytes) (hzs : z.cells.size = sz) (hsz : 0 < sz) (us : List Value) (hus : us.length = sz) (h1 : ∀ u ∈ us, u.oneCell' = true)
    (v : Value) (n : Nat) (xs : List Value) (hs : a.eval s = v) (hown : w.ownsRow base e sz v n xs)
    (g : Nat) (T : TypeId) (hx : a.eval x = .slice (some ⟨g, 0, none⟩) 1 1) (hc : Box w g us.toArray T) (h63 : n + 1 ≤ maxLen) (hbytes : (n + 1) * bytes ≤ 140737488355328) (hbase : base ≤ w.heap.size)
    (h : ∀ v' w', w'.ownsRow base e sz v' (n + 1) (xs ++ us) → w.grownBy w' v.ownBlock → (v'.ownBlock = v.ownBlock ∨ v'.ownBlock = some w.heap.size) → K (a.put o.dst v') w') : o.wp P a w K Q := by
  obtain ⟨v', w', hrun, h2, h3, _, h5⟩ := run_append_own_at (P := P) (w := w) base t o.type e i z sz bytes ht hi hz hsize hby hzs hsz v n xs hown ⟨g, 0, none⟩ 1 1 us (by omega) (by
    intro j u hj
    rw [Go.WideShapes.add_plain, Nat.zero_add, hc.cell j]
    simpa using hj) h1 h63 hbytes hbase
  unfold Oper.wp
  simp [execOp, ho, resolve, invoke, builtin, hs, hx, hrun, Result.andThen]
  exact h v' w' h2 h3 h5
theorem wp_region_app {P : Program} {l : List Oper} {a0 : Act} {id : Nat} {Q : Exit → Act → World → Prop} {w0 : World} (hm : P.follows .mixedOrders = true) (hB : fitB l.toArray = true)
    (row : Option Nat) (g p s : Nat) (t : TypeId) (C' : Value → Array Value) (Fs : List (Value → World → Prop)) (hps : p ≠ s)
    (hdep : ∀ o, l[s]? = some o → ∃ e ∈ o.after, Region.binds .any e = true ∧ e.on = p) (hrg : row ≠ some g)
    (hstay : ∀ j v W W', j ≠ s → w0.heap.size ≤ W.heap.size → Fr (fun x => (j ≠ p ∧ row = some x) ∨ x = g) W W' → (Fs.getD j fun _ _ => True) v W → (Fs.getD j fun _ _ => True) v W')
    (hob : ∀ vals : Nat → Value, ObL P l.toArray (Ca w0 row g p s) (Ra row g p s) (Fa s g p t C' Fs) vals 0 l a0)
    (hend : ∀ (vals : Nat → Value) W, Fr (fun x => row = some x ∨ x = g) w0 W → Box W g (C' (vals p)) t → (∀ i, i < l.length → i ≠ s → (Fs.getD i fun _ _ => True) (vals i) W) → s < l.length → Q .normal (TL vals 0 l a0) W) (hs : s < l.length) : (Code.region id l.toArray true).wp P Q a0 w0 := by
  refine wp_region_obL hm hB (Ca w0 row g p s) (Ra row g p s) (Fa s g p t C' Fs) ?_ ?_ ?_ ?_ hob ?_
  · intro L _; exact (Fr.refl _ _).drew
  · intro i L L' W W' hi hLL h h'
    refine Fr.trans' (h.mono ?_) h' ?_
    · intro k _ hk
      rcases hk with ⟨h1, h2⟩ | ⟨h1, h2⟩
      · exact .inl ⟨(hLL p).2 (.inl h1), h2⟩
      · exact .inr ⟨(hLL s).2 (.inl h1), h2⟩
    · intro k _ hk
      rcases hk with ⟨h1, h2⟩ | ⟨h1, h2⟩
      · exact .inl ⟨(hLL p).2 (.inr h1.symm), h2⟩
      · exact .inr ⟨(hLL s).2 (.inr h1.symm), h2⟩
  · intro i j L vals W W' hji hc hr hf
    unfold Fa at hf ⊢
    by_cases hj : j = s
    · rw [if_pos hj] at hf ⊢
      refine hf.fr hr (fun hk => ?_)
      rcases hk with ⟨_, h1⟩ | ⟨h1, _⟩
      · exact hrg h1
      · exact hji (hj.trans h1.symm)
    · rw [if_neg hj] at hf ⊢
      refine hstay j _ W W' hj hc.size (hr.mono (fun k _ hk => ?_)) hf
      rcases hk with ⟨h1, h2⟩ | ⟨_, h2⟩
      · exact .inl ⟨fun e => hji (e.trans h1.symm), h2⟩
      · exact .inr h2
  · intro j oj vals vals' hj hv hw W hf
    unfold Fa at hf ⊢
    by_cases h : j = s
    · rw [if_pos h] at hf ⊢
      subst h
      obtain ⟨e, he, hb, rfl⟩ := hdep oj hj
      rw [← hw e he hb]; exact hf
    · rw [if_neg h] at hf ⊢
      rw [← hv]; exact hf
  · intro L vals W hc h
    have h1 := h s hs
    unfold Fa at h1
    rw [if_pos rfl] at h1
    refine hend vals W (hc.mono fun k _ hk => ?_) h1 (fun i hi hne => ?_) hs
    · rcases hk with ⟨_, h2⟩ | ⟨_, h2⟩
      · exact .inl h2
      · exact .inr h2
    · have := h i hi
      unfold Fa at this
      rwa [if_neg hne] at this
end Go.Proofs.Each
namespace Go.Proofs.Each
open Go Go.RowKit Go.Proofs.Mem
set_option linter.unusedVariables false
def Ce (w0 : World) (s : Nat) (L : Nat → Bool) (W : World) : Prop := L s = false → Below w0.heap.size w0 W
def Re (Rs : World → World → Prop) (s i : Nat) (W W' : World) : Prop := if i = s then Rs W W' else Below W.heap.size W W'
def Fe (s : Nat) (Fin : World → Prop) (Fs : List (Value → World → Prop)) (j : Nat) (vals : Nat → Value) (W : World) : Prop := if j = s then Fin W else (Fs.getD j fun _ _ => True) (vals j) W
section
variable {s j : Nat} {Fin : World → Prop} {Rs : World → World → Prop} {Fs : List (Value → World → Prop)} {vals : Nat → Value} {W W' : World} {f : Value → World → Prop} {v : Value}
theorem Fe.val (h : j ≠ s) (hE : (Fs.getD j fun _ _ => True) = f) (hf : f v W) : Fe s Fin Fs j (upd vals j v) W := by
  unfold Fe; rw [if_neg h, upd_same, hE]; exact hf
theorem Fe.get (hf : Fe s Fin Fs j vals W) (h : j ≠ s) : (Fs.getD j fun _ _ => True) (vals j) W := by
  unfold Fe at hf; rw [if_neg h] at hf; exact hf
theorem Fe.last (h : Fin W) : Fe s Fin Fs s (upd vals s v) W := by unfold Fe; rw [if_pos rfl]; exact h
theorem Re.of (h : j ≠ s) (hb : Below W.heap.size W W') : Re Rs s j W W' := by unfold Re; rw [if_neg h]; exact hb
theorem Re.same (h : j ≠ s) : Re Rs s j W W := Re.of h (Below.refl _ _)
theorem Re.last (h : Rs W W') : Re Rs s s W W' := by unfold Re; rw [if_pos rfl]; exact h
end
theorem wp_region_end {P : Program} {l : List Oper} {a0 : Act} {id : Nat} {Q : Exit → Act → World → Prop} {w0 : World} (hm : P.follows .mixedOrders = true) (hB : fitB l.toArray = true)
    (s : Nat) (Rs : World → World → Prop) (Fin : World → Prop) (Fs : List (Value → World → Prop))
    (hfin : ∀ W W', Below W.heap.size W W' → Fin W → Fin W')
    (hstay : ∀ j v W W', j ≠ s → (Rs W W' ∨ Below W.heap.size W W') → (Fs.getD j fun _ _ => True) v W → (Fs.getD j fun _ _ => True) v W')
    (hob : ∀ vals : Nat → Value, ObL P l.toArray (Ce w0 s) (Re Rs s) (Fe s Fin Fs) vals 0 l a0)
    (hend : ∀ (vals : Nat → Value) W, Fin W → (∀ i, i < l.length → i ≠ s → (Fs.getD i fun _ _ => True) (vals i) W) → Q .normal (TL vals 0 l a0) W) (hs : s < l.length) : (Code.region id l.toArray true).wp P Q a0 w0 := by
  refine wp_region_obL hm hB (Ce w0 s) (Re Rs s) (Fe s Fin Fs) ?_ ?_ ?_ ?_ hob ?_
  · intro L _ _; exact (Below.refl _ _).drew
  · intro i L L' W W' hi hLL h h' hL'
    have hLs : L s = false := by
      cases e : L s with
      | false => rfl
      | true => rw [(hLL s).2 (.inl e)] at hL'; cases hL'
    have his : i ≠ s := fun e => by rw [(hLL s).2 (.inr e.symm)] at hL'; cases hL'
    unfold Re at h'
    rw [if_neg his] at h'
    exact (h hLs).trans (h'.mono (h hLs).size)
  · intro i j L vals W W' hji hc hr hf
    unfold Fe at hf ⊢
    unfold Re at hr
    by_cases hj : j = s
    · rw [if_pos hj] at hf ⊢
      rw [if_neg (fun e => hji (hj.trans e.symm))] at hr
      exact hfin _ _ hr hf
    · rw [if_neg hj] at hf ⊢
      refine hstay j _ W W' hj ?_ hf
      split at hr
      · exact .inl hr
      · exact .inr hr
  · intro j oj vals vals' hj hv hw W hf
    unfold Fe at hf ⊢
    rw [← hv]; exact hf
  · intro L vals W hc h
    have h1 := h s hs
    unfold Fe at h1
    rw [if_pos rfl] at h1
    refine hend vals W h1 (fun i hi hne => ?_)
    have := h i hi
    unfold Fe at this
    rwa [if_neg hne] at this
end Go.Proofs.Each
namespace Go.Proofs.Mem
open Go.RowKit Go.WideShapes Go.ChangeShapes Go.Deep
set_option linter.unusedVariables false
def SS {α : Type} (F : α → List Value) (sz : Nat) (w : World) (B : Nat) (v : Value) (xs : List α) : Prop :=
  ∃ A c, v = .slice A xs.length c ∧ xs.length ≤ c ∧ c ≤ maxLen ∧
    ∀ i x, xs[i]? = some x → ∃ b off, A = some ⟨b, off, none⟩ ∧ b < B ∧ ∀ j u, (F x)[j]? = some u → w.cell? ⟨b, off + i * sz + j, none⟩ = some u
section
variable {α : Type} {F : α → List Value} {sz : Nat} {w w' : World} {B B' : Nat} {v : Value} {xs : List α}
theorem SS.nil (w : World) (B : Nat) : SS F sz w B (.slice none 0 0) [] := ⟨none, 0, rfl, Nat.le_refl _, Nat.zero_le _, fun i x h => by simp at h⟩
theorem SS.form (h : SS F sz w B v xs) : ∃ A c, v = .slice A xs.length c ∧ xs.length ≤ c ∧ c ≤ maxLen := by
  obtain ⟨A, c, h1, h2, h3, _⟩ := h
  exact ⟨A, c, h1, h2, h3⟩
theorem SS.keep (h : SS F sz w B v xs) (hk : ∀ p : Addr, p.block < B → w'.cell? p = w.cell? p) : SS F sz w' B v xs := by
  obtain ⟨A, c, h1, h2, h3, h5⟩ := h
  refine ⟨A, c, h1, h2, h3, fun i x hx => ?_⟩
  obtain ⟨b, off, e, hb, hc⟩ := h5 i x hx
  exact ⟨b, off, e, hb, fun j u hu => (hk _ hb).trans (hc j u hu)⟩
theorem SS.more (h : SS F sz w B v xs) (hB : B ≤ B') : SS F sz w B' v xs := by
  obtain ⟨A, c, h1, h2, h3, h5⟩ := h
  refine ⟨A, c, h1, h2, h3, fun i x hx => ?_⟩
  obtain ⟨b, off, e, hb, hc⟩ := h5 i x hx
  exact ⟨b, off, e, by omega, hc⟩
theorem SS.below (h : SS F sz w B v xs) (hb : Below B w w') : SS F sz w' B v xs := h.keep fun _ hp => hb.cell hp
theorem SS.at_ {A : Option Addr} {c n : Nat} (h : SS F sz w B (.slice A n c) xs) {i : Nat} {x : α} (hx : xs[i]? = some x) : ∃ b off, A = some ⟨b, off, none⟩ ∧ b < B ∧ ∀ j u, (F x)[j]? = some u → w.cell? ⟨b, off + i * sz + j, none⟩ = some u := by
  obtain ⟨A', c', e, _, _, h5⟩ := h
  injection e with e1 e2 e3
  subst e1
  exact h5 i x hx
end
section
variable {H : Type} {enc : TypeId × Value → H} {P : Program} {w : World}
theorem open_SS {α : Type} (F : α → List Value) (Q : α → Prop) {t e : TypeId} {sz : Nat} {v : Value} {d : DataW H} {p : List MemPlace} {r : Reach} {b0 : Nat} (ht : P.underlying t = some (.slice e)) (hC : P.cellsOf e = sz) (hsz : 0 < sz)
    (hel : ∀ (cs : List Value) n y, cs.length = sz → DataW.trod enc P w 0 (fun _ => true) true n e cs = some y → ∃ x, cs = F x ∧ Q x)
    (hv : Value.okWide P w r b0 t v) (h : DataW.Trod enc P w 0 (fun _ => true) true t v d p) : ∃ xs : List α, SS F sz w w.heap.size v xs ∧ ∀ x ∈ xs, Q x := by
  obtain ⟨a, len, cap, rfl⟩ := okWide_slice ht hv
  obtain ⟨fuel, hf⟩ := h
  rcases open_slice ht hf with ⟨hcs, _⟩ | ⟨x, l, c, m, n, D, Pl, hcs, _, hl, hm, hmm, _, hi⟩
  · simp [Value.cells] at hcs
    obtain ⟨rfl, rfl, rfl⟩ := hcs
    exact ⟨[], SS.nil _ _, fun n hn => by cases hn⟩
  · simp [Value.cells] at hcs
    obtain ⟨rfl, rfl, rfl⟩ := hcs
    simp at hmm
    subst hmm
    have each : ∀ i : Fin len, ∃ y : α, (F y).length = sz ∧ Q y ∧ ∀ j, j < sz → w.cell? ((x.add (i.1 * sz)).add j) = (F y)[j]? := fun i => by
      obtain ⟨cs', hc, ht'⟩ := hi i.1 (by have := i.2; omega)
      rw [hC] at hc
      obtain ⟨_, hlen, hat⟩ := World.cells?_some hc
      obtain ⟨y, rfl, hq⟩ := hel cs' n _ hlen ht'
      exact ⟨y, hlen, hq, hat⟩
    obtain ⟨f, hf⟩ := Classical.skolem.1 each
    refine ⟨List.ofFn f, ⟨some x, m, by rw [List.length_ofFn], by rw [List.length_ofFn]; exact hl, hm, fun i y hy => ?_⟩, fun y hy => ?_⟩
    · have hil : i < len := by
        have := (List.getElem?_eq_some_iff.1 hy).1
        rwa [List.length_ofFn] at this
      obtain ⟨b, off, spot⟩ := x
      have hs : spot = none := by
        obtain ⟨h1, _, h3⟩ := hf ⟨0, by omega⟩
        have h4 := h3 0 hsz
        rw [List.getElem?_eq_getElem (by omega)] at h4
        simpa [Addr.add] using World.cell?_spot h4
      subst hs
      obtain ⟨h1, _, h3⟩ := hf ⟨i, hil⟩
      rw [List.getElem?_ofFn] at hy
      simp [hil] at hy
      have hcell : ∀ j u, (F y)[j]? = some u → w.cell? ⟨b, off + i * sz + j, none⟩ = some u := fun j u hu => by
        rw [hy] at h1 h3
        have hj : j < sz := by rw [← h1]; exact (List.getElem?_eq_some_iff.1 hu).1
        have h4 := h3 j hj
        rw [Go.WideShapes.add_plain, Go.WideShapes.add_plain] at h4
        exact h4.trans hu
      refine ⟨b, off, rfl, ?_, hcell⟩
      have h5 := hcell 0 ((F y)[0]'(by rw [hy] at h1; omega)) (List.getElem?_eq_getElem _)
      rcases Nat.lt_or_ge b w.heap.size with h6 | h6
      · exact h6
      · unfold World.cell? at h5
        simp [Array.getElem?_eq_none h6] at h5
    · obtain ⟨i, rfl⟩ := (List.mem_ofFn (f := f)).1 hy
      exact (hf i).2.1
end
end Go.Proofs.Mem
namespace Go.Proofs.CrcMath
set_option linter.unusedVariables false
def tn (x : BitVec 32) : Int := (x.toNat : Int)
theorem tn_bd (x : BitVec 32) : 0 ≤ tn x ∧ tn x ≤ 4294967295 := by unfold tn; have := x.isLt; omega
theorem tn_of (s : Int) (h : 0 ≤ s ∧ s ≤ 4294967295) : s = tn (BitVec.ofInt 32 s) := by
  unfold tn
  rw [BitVec.toNat_ofInt]
  omega
def poly : BitVec 32 := 2197175160#32
theorem xor_tn (a b : BitVec 32) : bits .xor .u32 (tn a) (tn b) = tn (a ^^^ b) := by
  unfold tn
  rw [u32_xor_nat _ _ a.isLt b.isLt, BitVec.toNat_xor]
theorem xor_ones (a : BitVec 32) : bits .xor .u32 IntKind.u32.max (tn a) = tn (~~~a) := by
  have e : IntKind.u32.max = tn (BitVec.allOnes 32) := by decide
  rw [e, xor_tn, BitVec.xor_comm, BitVec.xor_allOnes]
theorem xor_poly (a : BitVec 32) : bits .xor .u32 (tn a) 2197175160 = tn (a ^^^ poly) := by
  have e : (2197175160 : Int) = tn poly := by decide
  rw [e, xor_tn]
theorem half_tn (a : BitVec 32) : tn a / (2 : Int) = tn (a >>> 1) := by
  unfold tn
  rw [BitVec.toNat_ushiftRight, Nat.shiftRight_eq_div_pow]; simp
theorem odd_tn (a : BitVec 32) : tn a % 2 = if a.getLsbD 0 then 1 else 0 := by
  unfold tn
  rw [BitVec.getLsbD, Nat.testBit_zero]
  split <;> rename_i h <;> simp at h <;> omega
theorem and_tn (a : BitVec 32) : bits .and .u32 (tn a) 1 = if a.getLsbD 0 then 1 else 0 := by
  rw [← odd_tn]
  unfold tn
  have := u32_and_nat a.toNat 1 a.isLt (by omega)
  rw [show ((1 : Nat) : Int) = 1 from rfl] at this
  rw [this, nat_mask1]; simp
def stepB (q : BitVec 32) : BitVec 32 := if q.getLsbD 0 then (q >>> 1) ^^^ poly else q >>> 1
def itB : Nat → BitVec 32 → BitVec 32
  | 0, q => q
  | k + 1, q => itB k (stepB q)
def nextB (s b : BitVec 32) : BitVec 32 := ~~~(itB 8 (~~~s ^^^ b))
def sumF (s : BitVec 32) : List Int → BitVec 32
  | [] => s
  | x :: r => sumF (nextB s (BitVec.ofInt 32 x)) r
end Go.Proofs.CrcMath
