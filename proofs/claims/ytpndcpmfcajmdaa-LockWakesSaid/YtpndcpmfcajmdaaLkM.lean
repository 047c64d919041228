import Derived.Test.YtpndcpmfcajmdaaLkL
import Derived.Test.YtpndcpmfcajmdaaLkJ
import Derived.Test.YtpndcpmfcajmdaaLkO
/- Locks, pure: those that want a key as their own get it one by one. -/
namespace Go.Proofs.Ytpndcpmfcajmdaa.Lock
open Go.ChangeShapes Go.WideShapes Go.ChangeAt Go.RowKit Go.IntWalk Go.Proofs.Mem Law
set_option linter.unusedVariables false
set_option linter.unusedSimpArgs false
def hd1 : List Int → Int → Option Int
  | [] => fun _ => none
  | x :: _ => fput (fun _ => none) x 2
/-- d have asked for k as their own, in this order -/
def stT (k : Ky) (d : List Int) : Tb := Tb.one k (hd1 d) (d.tail.map fun x => ⟨x, 2⟩) (fun x => if x ∈ d.tail then some (hdOf k 2) else none)
theorem stT_nil (k : Ky) : stT k [] = T0 := by rw [T0_one k]; unfold stT; simp [hd1]
theorem hd1_cons (x : Int) (r : List Int) : hd1 (x :: r) = fput (fun _ => none) x 2 := rfl
theorem hd1_at (x : Int) (r : List Int) : hd1 (x :: r) x = some 2 := by rw [hd1_cons]; exact fput_same _ _ _
theorem hd1_is {x : Int} {r : List Int} {y m : Int} (h : hd1 (x :: r) y = some m) : y = x ∧ m = 2 := by
  rw [hd1_cons] at h
  unfold fput at h
  split at h
  · injection h with h; exact ⟨by assumption, h.symm⟩
  · cases h
theorem first_ask {k : Ky} {d : List Int} {t : Int} (ht : t ∉ d) : askB (stT k d) t k 2 = d.isEmpty ∧ askT (stT k d) t k 2 = stT k (d ++ [t]) := by
  cases d with
  | nil =>
    obtain ⟨h1, h2⟩ := ask_put (T := stT k []) (t := t) (k := k) (m := 2) (md := 2) rfl (by unfold stT; rw [one_at]; rfl) (by rfl) (by unfold stT; rw [one_at]; exact fit_none _ _) (.inr (by unfold stT; rw [one_at]; rfl))
    refine ⟨h1, h2.trans ?_⟩
    unfold stT
    rw [one_at, one_set]
    rfl
  | cons x r =>
    have hne : x ≠ t := fun e => ht (by rw [e]; exact List.mem_cons_self ..)
    have hr : t ∉ r := fun h => ht (List.mem_cons_of_mem _ h)
    have hh : hd1 (x :: r) t = none := by
      cases e : hd1 (x :: r) t with
      | none => rfl
      | some m => exact absurd (hd1_is e).1.symm hne
    have hf : fit (hd1 (x :: r)) t 2 = false := fit_false (x := x) (md := 2) (hd1_at x r) hne rfl
    obtain ⟨h1, h2⟩ := ask_wait (T := stT k (x :: r)) (t := t) (k := k) (m := 2) (md := 2) rfl (by unfold stT; rw [one_at]; show hasE (hd1 (x :: r) t) 2 = false; rw [hh]; rfl) (by show (if t ∈ r then _ else _) = _; rw [if_neg hr]) (by unfold stT; rw [one_at]; show (fit (hd1 (x :: r)) t 2 && _) = false; rw [hf]; rfl)
    refine ⟨h1, h2.trans ?_⟩
    unfold stT
    rw [one_at, one_set, one_wait]
    have e1 : insP (hd1 (x :: r)) ⟨t, 2⟩ ((x :: r).tail.map fun x => ⟨x, 2⟩) = ((x :: r) ++ [t]).tail.map fun x => ⟨x, 2⟩ := by
      unfold insP
      rw [show (hd1 (x :: r) (⟨t, 2⟩ : Pl).t).isSome = false by show (hd1 (x :: r) t).isSome = false; rw [hh]; rfl]
      simp
    have e2 : fput (fun y => if y ∈ (x :: r).tail then some (hdOf k 2) else none) t (hdOf k 2) = fun y => if y ∈ ((x :: r) ++ [t]).tail then some (hdOf k 2) else none := by
      funext y
      unfold fput
      by_cases e : y = t
      · simp [e]
      · by_cases h : y ∈ r <;> simp [e, h]
    show Tb.one k (hd1 (x :: r)) (insP (hd1 (x :: r)) ⟨t, 2⟩ _) _ = _
    rw [e1, e2]
    rfl
theorem filter_keep {r : List Int} {x : Int} (h : x ∉ r) : ((r.map fun y => (⟨y, 2⟩ : Pl)).filter fun y => !isT x y) = r.map fun y => (⟨y, 2⟩ : Pl) := by
  rw [List.filter_eq_self]
  intro y hy
  obtain ⟨z, hz, rfl⟩ := List.mem_map.1 hy
  have : z ≠ x := fun e => h (e ▸ hz)
  simp [isT, this]
theorem first_rel {k : Ky} {x : Int} {r : List Int} (hn : (x :: r).Nodup) {ks : List Ky} {T' : Tb} {got : List Int} (ho : OfL (stT k (x :: r)) x ks) (hr : relAll ((stT k (x :: r)).stop x) x ks = (T', got)) : T' = stT k r ∧ got = r.take 1 := by
  rw [List.nodup_cons] at hn
  have hfd : fdel (hd1 (x :: r)) x = fun _ => none := by
    funext y
    unfold fdel
    by_cases e : y = x
    · simp [e]
    · rw [if_neg e]
      cases h : hd1 (x :: r) y with
      | none => rfl
      | some m => exact absurd (hd1_is h).1 e
  have hhas : (⟨hd1 (x :: r), (x :: r).tail.map fun x => ⟨x, 2⟩⟩ : En).has x = true := by
    show ((hd1 (x :: r) x).isSome || _) = true
    rw [hd1_at]
    rfl
  cases r with
  | nil =>
    obtain ⟨h1, h2⟩ := one_rel (h' := fun _ => none) (l' := []) (g := []) hhas ho (by rw [hfd]; exact wake_nil _) hr
    refine ⟨h1.trans ?_, h2⟩
    rw [stopAll_nil]
    unfold stT hd1
    simp only [List.tail_cons, List.tail_nil, List.map_nil, List.not_mem_nil, if_false]
    congr 1
    funext y
    unfold fdel
    split <;> rfl
  | cons y s =>
    have hys := List.nodup_cons.1 hn.2
    have hw : wake (fdel (hd1 (x :: y :: s)) x) (((x :: y :: s).tail.map fun x => (⟨x, 2⟩ : Pl)).filter fun z => !isT x z) = (hd1 (y :: s), (y :: s).tail.map fun x => ⟨x, 2⟩, [y]) := by
      rw [hfd, List.tail_cons, filter_keep hn.1, List.map_cons, wake_yes (p := ⟨y, 2⟩) (fit_none _ _)]
      have h2 : wake (fput (fun _ => none) y 2) (s.map fun x => (⟨x, 2⟩ : Pl)) = (hd1 (y :: s), s.map fun x => ⟨x, 2⟩, []) := by
        cases s with
        | nil => exact wake_nil _
        | cons z s =>
          have hzy : y ≠ z := fun e => hys.1 (by rw [e]; exact List.mem_cons_self ..)
          exact wake_no (p := ⟨z, 2⟩) (fit_false (x := y) (md := 2) (fput_same _ _ _) hzy rfl)
      rw [h2]
      rfl
    obtain ⟨h1, h2⟩ := one_rel hhas ho hw hr
    refine ⟨h1.trans ?_, h2⟩
    unfold stT
    congr 1
    funext z
    unfold stopAll fdel
    simp only [List.tail_cons, List.mem_singleton, List.mem_cons]
    by_cases e1 : z = y
    · subst e1
      simp [hys.1]
    · by_cases e2 : z = x
      · subst e2
        have : z ∉ s := fun h => hn.1 (List.mem_cons_of_mem _ h)
        simp [e1, this]
      · by_cases h : z ∈ s <;> simp [e1, e2, h]
theorem TabAt.more {w : World} {S : Nat → Prop} {N L N' L' t : Nat} {T : Tb} (h : TabAt w S N L t T) (hN : N ≤ N') (hL : L ≤ L') : TabAt w S N' L' t T := by
  obtain ⟨_, _, _, _, _, _, h⟩ := h
  exact ⟨_, _, _, _, _, _, h.more (fun _ => id) (fun x hx => h.old x hx) hN hL⟩
theorem TabAt.old {w : World} {S : Nat → Prop} {N L t : Nat} {T : Tb} (h : TabAt w S N L t T) : ∀ x, S x → x < w.heap.size := by
  obtain ⟨_, _, _, _, _, _, h⟩ := h
  exact h.old
theorem own_is {w : World} {B n : Nat} {e : TypeId} {v : Value} {xs : List Value} (h : w.ownsRow B e 1 v n xs) : ∃ A c, v = .slice A n c ∧ n ≤ c ∧ c ≤ maxLen := by
  rcases h.2 with ⟨rfl, rfl⟩ | ⟨g, cap, cur, rfl, _, _, h1, h2, _⟩
  · exact ⟨_, _, rfl, Nat.le_refl _, Nat.zero_le _⟩
  · exact ⟨_, _, rfl, h1, h2⟩
/-- who asked, each once, in the order in which they asked -/
def dst (l : List Int) : List Int := l.foldl (fun d x => if x ∈ d then d else d ++ [x]) []
theorem dst_take {l : List Int} {i : Nat} {x : Int} (h : l[i]? = some x) : dst (l.take (i + 1)) = if x ∈ dst (l.take i) then dst (l.take i) else dst (l.take i) ++ [x] := by
  unfold dst
  rw [List.take_add_one, h, List.foldl_append]
  rfl
theorem dst_nodup : ∀ (l : List Int) (i : Nat), (dst (l.take i)).Nodup
  | l, 0 => by simp [dst]
  | l, i + 1 => by
    cases h : l[i]? with
    | none =>
      have : l.take (i + 1) = l.take i := by rw [List.take_add_one, h]; simp
      rw [this]; exact dst_nodup l i
    | some x =>
      rw [dst_take h]
      split
      · exact dst_nodup l i
      · rename_i hn
        rw [List.nodup_append]
        exact ⟨dst_nodup l i, by simp, fun a ha b hb => by rw [List.mem_singleton.1 hb]; exact fun e => hn (e ▸ ha)⟩
theorem dst_len : ∀ (l : List Int) (i : Nat), (dst (l.take i)).length ≤ i
  | l, 0 => by simp [dst]
  | l, i + 1 => by
    cases h : l[i]? with
    | none =>
      have : l.take (i + 1) = l.take i := by rw [List.take_add_one, h]; simp
      rw [this]; exact Nat.le_succ_of_le (dst_len l i)
    | some x =>
      rw [dst_take h]
      have := dst_len l i
      split
      · omega
      · simp; omega
theorem dst_mem : ∀ (l : List Int) (i : Nat) (x : Int), x ∈ dst (l.take i) → x ∈ l
  | l, 0, x => by simp [dst]
  | l, i + 1, x => by
    cases h : l[i]? with
    | none =>
      have : l.take (i + 1) = l.take i := by rw [List.take_add_one, h]; simp
      rw [this]; exact dst_mem l i x
    | some y =>
      rw [dst_take h]
      intro hx
      split at hx
      · exact dst_mem l i x hx
      · rcases List.mem_append.1 hx with h1 | h1
        · exact dst_mem l i x h1
        · rw [List.mem_singleton.1 h1]; exact List.mem_of_getElem? h
/-- rising numbers: one more, or not -/
theorem into_sorted {l : List Int} {n : Int} (h : l.Pairwise (· < ·)) : (into l n).Pairwise (· < ·) ∧ (into l n).length = if n ∈ l then l.length else l.length + 1 := by
  have key : ∀ l : List Int, l.Pairwise (· < ·) → ((l.dropWhile fun x => decide (x < n)).head? = some n ↔ n ∈ l) ∧ (∀ x ∈ l.takeWhile (fun x => decide (x < n)), x < n) ∧ (∀ x ∈ l.dropWhile (fun x => decide (x < n)), n ≤ x) := by
    intro l
    induction l with
    | nil => intro _; simp
    | cons y l ih =>
      intro h
      rw [List.pairwise_cons] at h
      obtain ⟨i1, i2, i3⟩ := ih h.2
      by_cases hy : y < n
      · have hne : n ≠ y := by omega
        simp only [List.dropWhile_cons, List.takeWhile_cons, decide_eq_true hy, if_true, List.mem_cons]
        refine ⟨by rw [i1]; simp [hne], fun x hx => ?_, i3⟩
        rcases hx with h1 | h1
        · omega
        · exact i2 x h1
      · simp only [List.dropWhile_cons, List.takeWhile_cons, decide_eq_false hy, Bool.false_eq_true, if_false, List.mem_cons, List.head?_cons, List.not_mem_nil]
        refine ⟨⟨fun e => .inl (by injection e with e; exact e.symm), fun e => ?_⟩, fun x hx => hx.elim, fun x hx => ?_⟩
        · rcases e with e | e
          · rw [e]
          · have := h.1 n e; omega
        · rcases hx with h1 | h1
          · omega
          · have := h.1 x h1; omega
  obtain ⟨k1, k2, k3⟩ := key l h
  have e := List.takeWhile_append_dropWhile (p := fun x => decide (x < n)) (l := l)
  unfold into
  by_cases hm : n ∈ l
  · rw [if_pos (k1.2 hm), if_pos hm]; exact ⟨h, rfl⟩
  · rw [if_neg (fun hh => hm (k1.1 hh)), if_neg hm]
    constructor
    · rw [← e, List.pairwise_append] at h
      rw [List.pairwise_append, List.pairwise_cons]
      refine ⟨h.1, ⟨fun x hx => ?_, h.2.1⟩, fun x hx y hy => ?_⟩
      · have h1 := k3 x hx
        have h2 : x ≠ n := fun e' => hm (by rw [← e', ← e]; exact List.mem_append_right _ hx)
        omega
      · rcases List.mem_cons.1 hy with h1 | h1
        · rw [h1]; exact k2 x hx
        · exact h.2.2 x hx y h1
    · rw [List.length_append, List.length_cons]
      have := congrArg List.length e
      rw [List.length_append] at this
      omega
end Go.Proofs.Ytpndcpmfcajmdaa.Lock
