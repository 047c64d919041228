/- Pure: the search for a ring. -/
namespace Go.Proofs.Ring
set_option linter.unusedVariables false
abbrev Seen := Int → Bool
def ins (s : Seen) (n : Int) : Seen := fun x => if x = n then true else s x
abbrev Res := Bool × List Int × Seen
def loop (f : Int → Seen → Res) (pre : List Int) : List Int → Seen → Res
  | [], s => (false, pre, s)
  | n :: ns, s => if s n then loop f pre ns s else if (f n (ins s n)).1 then f n (ins s n) else loop f pre ns (f n (ins s n)).2.2
def dfs (G : Int → List Int) (fr : Int) : Nat → List Int → Int → Seen → Res
  | 0, pre, _, s => (false, pre, s)
  | k + 1, pre, cur, s => if fr ∈ G cur then (true, pre ++ [cur], s) else loop (fun n s => dfs G fr k (pre ++ [cur]) n s) pre (G cur) s
theorem dfs_succ (G : Int → List Int) (fr : Int) (k : Nat) (pre : List Int) (cur : Int) (s : Seen) :
    dfs G fr (k + 1) pre cur s = if fr ∈ G cur then (true, pre ++ [cur], s) else loop (fun n s => dfs G fr k (pre ++ [cur]) n s) pre (G cur) s := rfl
/-- what is left to be seen -/
def left (us : List Int) (s : Seen) : Nat := (us.filter fun x => !s x).length
theorem left_ins {us : List Int} {s : Seen} {n : Int} (hn : n ∈ us) (h : s n = false) : left us (ins s n) + 1 ≤ left us s := by
  unfold left
  induction us with
  | nil => cases hn
  | cons u us ih =>
    have hle : (us.filter fun x => !(ins s n) x).length ≤ (us.filter fun x => !s x).length := by
      rw [← List.countP_eq_length_filter, ← List.countP_eq_length_filter]
      refine List.countP_mono_left fun x _ hx => ?_
      unfold ins at hx
      split at hx <;> simp_all
    by_cases e : u = n
    · subst e
      have e1 : (!(ins s u) u) = false := by simp [ins]
      have e2 : (!s u) = true := by simp [h]
      rw [List.filter_cons_of_neg (by simp [e1]), List.filter_cons_of_pos (by simp [e2]), List.length_cons]
      omega
    · have e1 : (!(ins s n) u) = !s u := by simp [ins, e]
      rcases List.mem_cons.1 hn with h1 | h1
      · exact absurd h1.symm e
      · have := ih h1
        by_cases e3 : s u = true
        · rw [List.filter_cons_of_neg (by simp [e1, e3]), List.filter_cons_of_neg (by simp [e3])]
          exact this
        · rw [List.filter_cons_of_pos (by simp [e1, e3]), List.filter_cons_of_pos (by simp [e3])]
          simp only [List.length_cons]
          omega
theorem left_mono {us : List Int} {s s' : Seen} (h : ∀ x, s x = true → s' x = true) : left us s' ≤ left us s := by
  unfold left
  rw [← List.countP_eq_length_filter, ← List.countP_eq_length_filter]
  refine List.countP_mono_left fun x _ hx => ?_
  cases e : s x with
  | false => rfl
  | true => rw [h x e] at hx; cases hx
theorem ins_self (s : Seen) (n : Int) : ins s n n = true := by simp [ins]
theorem ins_keep {s : Seen} {n x : Int} (h : s x = true) : ins s n x = true := by unfold ins; split <;> simp_all
theorem ins_or {s : Seen} {n x : Int} (h : ins s n x = true) : x = n ∨ s x = true := by
  unfold ins at h
  split at h
  · exact .inl (by assumption)
  · exact .inr h
/-- what is seen stays seen -/
def Mono (r : Res) (s : Seen) : Prop := ∀ x, s x = true → r.2.2 x = true
theorem loop_mono {f : Int → Seen → Res} {pre : List Int} (hf : ∀ n s, Mono (f n s) s) : ∀ (ns : List Int) (s : Seen), Mono (loop f pre ns s) s
  | [], s => fun x h => h
  | n :: ns, s => by
    unfold loop
    split
    · exact loop_mono hf ns s
    · split
      · exact fun x h => hf n _ x (ins_keep h)
      · exact fun x h => loop_mono hf ns _ x (hf n _ x (ins_keep h))
theorem dfs_mono (G : Int → List Int) (fr : Int) : ∀ (k : Nat) (pre : List Int) (cur : Int) (s : Seen), Mono (dfs G fr k pre cur s) s
  | 0, _, _, _ => fun x h => h
  | k + 1, pre, cur, s => by
    rw [dfs_succ]
    split
    · exact fun x h => h
    · exact loop_mono (fun n s => dfs_mono G fr k _ n s) _ s
theorem dfs_dead (G : Int → List Int) (fr : Int) : ∀ (k : Nat) (pre : List Int) (cur : Int) (s : Seen), (dfs G fr k pre cur s).1 = false → (dfs G fr k pre cur s).2.1 = pre := by
  intro k pre cur s h
  cases k with
  | zero => rfl
  | succ k =>
    rw [dfs_succ] at h ⊢
    split at h
    · cases h
    · rename_i hc
      rw [if_neg hc]
      revert h
      generalize G cur = ns
      generalize (fun n s => dfs G fr k (pre ++ [cur]) n s) = f
      induction ns generalizing s with
      | nil => intro _; rfl
      | cons n ns ih =>
        unfold loop
        intro h
        split
        · rename_i h1; rw [if_pos h1] at h; exact ih s h
        · rename_i h1
          rw [if_neg h1] at h
          split
          · rename_i h2; rw [if_pos h2] at h; rw [h] at h2; cases h2
          · rename_i h2; rw [if_neg h2] at h; exact ih _ h
theorem dfs_len (G : Int → List Int) (fr : Int) : ∀ (k : Nat) (pre : List Int) (cur : Int) (s : Seen), (dfs G fr k pre cur s).2.1.length ≤ pre.length + k
  | 0, _, _, _ => Nat.le_refl _
  | k + 1, pre, cur, s => by
    rw [dfs_succ]
    split
    · simp
    · have H : ∀ (ns : List Int) (s : Seen), (loop (fun n s => dfs G fr k (pre ++ [cur]) n s) pre ns s).2.1.length ≤ pre.length + (k + 1) := by
        intro ns
        induction ns with
        | nil => intro s; exact Nat.le_add_right _ _
        | cons n ns ih =>
          intro s
          unfold loop
          split
          · exact ih s
          · split
            · have := dfs_len G fr k (pre ++ [cur]) n (ins s n)
              rw [List.length_append] at this
              simp only [List.length_cons, List.length_nil] at this
              omega
            · exact ih _
      exact H _ s
/-- a way: each leads to the next -/
def Way (G : Int → List Int) : List Int → Prop
  | [] => True
  | [_] => True
  | a :: b :: r => b ∈ G a ∧ Way G (b :: r)
theorem way_snoc {G : Int → List Int} : ∀ {p : List Int} {c n : Int}, Way G (p ++ [c]) → n ∈ G c → Way G (p ++ [c] ++ [n])
  | [], c, n, h, hn => ⟨hn, trivial⟩
  | [a], c, n, h, hn => ⟨h.1, hn, trivial⟩
  | a :: b :: p, c, n, h, hn => ⟨h.1, way_snoc (p := b :: p) h.2 hn⟩
/-- what a ring is -/
structure IsRing (G : Int → List Int) (fr : Int) (r : List Int) : Prop where
  way : Way G r
  back : ∃ z, r.getLast? = some z ∧ fr ∈ G z
  nodup : r.Nodup
/-- what stands on the way has been seen, or is the first -/
def On (fr : Int) (p : List Int) (s : Seen) : Prop := ∀ x ∈ p, x = fr ∨ s x = true
theorem dfs_ring (G : Int → List Int) (fr : Int) : ∀ (k : Nat) (pre : List Int) (cur : Int) (s : Seen), Way G (pre ++ [cur]) → (pre ++ [cur]).Nodup → On fr (pre ++ [cur]) s → (dfs G fr k pre cur s).1 = true →
    IsRing G fr (dfs G fr k pre cur s).2.1 ∧ ∃ r, (dfs G fr k pre cur s).2.1 = pre ++ [cur] ++ r
  | 0, _, _, _, _, _, _, h => by cases h
  | k + 1, pre, cur, s, hw, hnd, ho, h => by
    rw [dfs_succ] at h ⊢
    split at h
    · rename_i hc
      rw [if_pos hc]
      exact ⟨⟨hw, ⟨cur, by simp, hc⟩, hnd⟩, [], by simp⟩
    · rename_i hc
      rw [if_neg hc]
      have H : ∀ (ns : List Int) (s : Seen), (∀ n ∈ ns, n ∈ G cur) → On fr (pre ++ [cur]) s → (loop (fun n s => dfs G fr k (pre ++ [cur]) n s) pre ns s).1 = true →
          IsRing G fr (loop (fun n s => dfs G fr k (pre ++ [cur]) n s) pre ns s).2.1 ∧ ∃ r, (loop (fun n s => dfs G fr k (pre ++ [cur]) n s) pre ns s).2.1 = pre ++ [cur] ++ r := by
        intro ns
        induction ns with
        | nil => intro s _ _ h; cases h
        | cons n ns ih =>
          intro s hG ho h
          unfold loop at h ⊢
          by_cases hs : s n = true
          · rw [if_pos hs] at h ⊢
            exact ih s (fun x hx => hG x (List.mem_cons_of_mem _ hx)) ho h
          · rw [if_neg hs] at h ⊢
            have hn := hG n (List.mem_cons_self ..)
            by_cases hf : (dfs G fr k (pre ++ [cur]) n (ins s n)).1 = true
            · rw [if_pos hf]
              have hne : n ≠ fr := fun e => hc (e ▸ hn)
              have hnin : n ∉ pre ++ [cur] := fun hm => by
                rcases ho n hm with h1 | h1
                · exact hne h1
                · exact hs h1
              obtain ⟨h1, r, h2⟩ := dfs_ring G fr k (pre ++ [cur]) n (ins s n) (way_snoc hw hn) (by
                rw [List.nodup_append]
                refine ⟨hnd, by simp, fun a ha b hb e => ?_⟩
                simp at hb
                subst hb e
                exact hnin ha) (fun x hx => by
                rcases List.mem_append.1 hx with h1 | h1
                · rcases ho x h1 with h2 | h2
                  · exact .inl h2
                  · exact .inr (ins_keep h2)
                · simp at h1; subst h1; exact .inr (ins_self _ _)) hf
              exact ⟨h1, [n] ++ r, by rw [h2]; simp⟩
            · rw [if_neg hf] at h ⊢
              refine ih _ (fun x hx => hG x (List.mem_cons_of_mem _ hx)) (fun x hx => ?_) h
              rcases ho x hx with h1 | h1
              · exact .inl h1
              · exact .inr (dfs_mono G fr k _ n _ x (ins_keep h1))
      exact H (G cur) s (fun n h => h) ho h
/-- those that have been left lead to none but those seen, and not to the first -/
def Shut (G : Int → List Int) (fr : Int) (p : List Int) (s : Seen) : Prop := ∀ d, s d = true → d ∉ p → fr ∉ G d ∧ ∀ n ∈ G d, s n = true
theorem dfs_shut (G : Int → List Int) (fr : Int) (us : List Int) (hus : ∀ x, ∀ n ∈ G x, n ∈ us) : ∀ (k : Nat) (pre : List Int) (cur : Int) (s : Seen), left us s + 1 ≤ k → Shut G fr (pre ++ [cur]) s → (dfs G fr k pre cur s).1 = false →
    Shut G fr pre (dfs G fr k pre cur s).2.2 ∧ fr ∉ G cur ∧ ∀ n ∈ G cur, (dfs G fr k pre cur s).2.2 n = true
  | 0, _, _, _, hk, _, _ => by omega
  | k + 1, pre, cur, s, hk, hS, h => by
    rw [dfs_succ] at h ⊢
    split at h
    · cases h
    · rename_i hc
      rw [if_neg hc]
      have H : ∀ (ns : List Int) (s : Seen), (∀ n ∈ ns, n ∈ G cur) → left us s ≤ k → Shut G fr (pre ++ [cur]) s → (loop (fun n s => dfs G fr k (pre ++ [cur]) n s) pre ns s).1 = false →
          Shut G fr (pre ++ [cur]) (loop (fun n s => dfs G fr k (pre ++ [cur]) n s) pre ns s).2.2 ∧ ∀ n ∈ ns, (loop (fun n s => dfs G fr k (pre ++ [cur]) n s) pre ns s).2.2 n = true := by
        intro ns
        induction ns with
        | nil => intro s _ _ hS _; exact ⟨hS, fun n h => by cases h⟩
        | cons n ns ih =>
          intro s hG hk hS h
          unfold loop at h ⊢
          by_cases hs : s n = true
          · rw [if_pos hs] at h ⊢
            obtain ⟨h1, h2⟩ := ih s (fun x hx => hG x (List.mem_cons_of_mem _ hx)) hk hS h
            refine ⟨h1, fun x hx => ?_⟩
            rcases List.mem_cons.1 hx with rfl | hx
            · exact loop_mono (fun n s => dfs_mono G fr k _ n s) ns s x hs
            · exact h2 x hx
          · rw [if_neg hs] at h ⊢
            have hn := hG n (List.mem_cons_self ..)
            have hs' : s n = false := by simpa using hs
            have hl := left_ins (hus cur n hn) hs'
            by_cases hf : (dfs G fr k (pre ++ [cur]) n (ins s n)).1 = true
            · rw [if_pos hf] at h; rw [hf] at h; cases h
            · rw [if_neg hf] at h ⊢
              obtain ⟨h1, _, _⟩ := dfs_shut G fr us hus k (pre ++ [cur]) n (ins s n) (by omega) (fun d hd hdn => by
                rcases ins_or hd with e | e
                · exact absurd (by rw [e]; simp) hdn
                · obtain ⟨h1, h2⟩ := hS d e (fun hm => hdn (List.mem_append_left _ hm))
                  exact ⟨h1, fun n' hn' => ins_keep (h2 n' hn')⟩) (by simpa using hf)
              have hm := dfs_mono G fr k (pre ++ [cur]) n (ins s n)
              obtain ⟨h3, h4⟩ := ih _ (fun x hx => hG x (List.mem_cons_of_mem _ hx)) (by
                have := left_mono (us := us) hm
                omega) h1 h
              refine ⟨h3, fun x hx => ?_⟩
              rcases List.mem_cons.1 hx with rfl | hx
              · exact loop_mono (fun n s => dfs_mono G fr k _ n s) ns _ x (hm x (ins_self _ _))
              · exact h4 x hx
      obtain ⟨h1, h2⟩ := H (G cur) s (fun n h => h) (by omega) hS h
      refine ⟨fun d hd hdn => ?_, hc, h2⟩
      by_cases e : d = cur
      · subst e; exact ⟨hc, h2⟩
      · exact h1 d hd (fun hm => by
          rcases List.mem_append.1 hm with h3 | h3
          · exact hdn h3
          · simp at h3; exact e h3)
/-- the ring that is told; none: nothing -/
def ring (G : Int → List Int) (fr : Int) (k : Nat) : List Int := if (dfs G fr k [] fr fun _ => false).1 then (dfs G fr k [] fr fun _ => false).2.1 else []
theorem ring_is {G : Int → List Int} {fr : Int} {k : Nat} (h : ring G fr k ≠ []) : IsRing G fr (ring G fr k) ∧ (ring G fr k).head? = some fr := by
  unfold ring at h ⊢
  split at h
  · rename_i hc
    rw [if_pos hc]
    obtain ⟨h1, r, h2⟩ := dfs_ring G fr k [] fr (fun _ => false) trivial (by simp) (fun x hx => .inl (by simpa using hx)) hc
    exact ⟨h1, by rw [h2]; rfl⟩
  · exact absurd rfl h
/-- who is reached -/
inductive Reach (G : Int → List Int) (fr : Int) : Int → Prop
  | start : Reach G fr fr
  | step {x n : Int} : Reach G fr x → n ∈ G x → Reach G fr n
theorem way_reach {G : Int → List Int} {fr : Int} : ∀ {r : List Int} {z a : Int}, Way G (a :: r) → Reach G fr a → (a :: r).getLast? = some z → Reach G fr z
  | [], z, a, _, h, e => by simp at e; subst e; exact h
  | b :: r, z, a, h, h1, e => way_reach (r := r) h.2 (.step h1 h.1) (by simpa using e)
theorem ring_some {G : Int → List Int} {fr : Int} {k : Nat} (h : ring G fr k ≠ []) : ∃ z, Reach G fr z ∧ fr ∈ G z := by
  obtain ⟨h1, h2⟩ := ring_is h
  obtain ⟨z, h3, h4⟩ := h1.back
  cases e : ring G fr k with
  | nil => exact absurd e h
  | cons a r =>
    have hw := h1.way
    rw [e] at h2 h3 hw
    simp at h2
    subst h2
    exact ⟨z, way_reach hw .start h3, h4⟩
theorem ring_none {G : Int → List Int} {fr : Int} {k : Nat} (us : List Int) (hus : ∀ x, ∀ n ∈ G x, n ∈ us) (hk : us.length + 1 ≤ k) (h : ring G fr k = []) : ∀ z, Reach G fr z → fr ∉ G z := by
  have hd : (dfs G fr k [] fr fun _ => false).1 = false := by
    unfold ring at h
    split at h
    · rename_i hc
      obtain ⟨h1, r, h2⟩ := dfs_ring G fr k [] fr (fun _ => false) trivial (by simp) (fun x hx => .inl (by simpa using hx)) hc
      rw [h] at h2
      simp at h2
    · rename_i hc; simpa using hc
  have hl : left us (fun _ => false) + 1 ≤ k := by
    unfold left
    have := List.length_filter_le (fun x : Int => !(fun _ => false : Seen) x) us
    omega
  obtain ⟨h1, h2, h3⟩ := dfs_shut G fr us hus k [] fr (fun _ => false) hl (fun d hd _ => by cases hd) hd
  have H : ∀ z, Reach G fr z → fr ∉ G z ∧ ∀ n ∈ G z, (dfs G fr k [] fr fun _ => false).2.2 n = true := by
    intro z hz
    induction hz with
    | start => exact ⟨h2, h3⟩
    | step hx hn ih => exact h1 _ (ih.2 _ hn) (by simp)
  exact fun z hz => (H z hz).1
theorem ring_iff {G : Int → List Int} {fr : Int} {k : Nat} (us : List Int) (hus : ∀ x, ∀ n ∈ G x, n ∈ us) (hk : us.length + 1 ≤ k) : ring G fr k ≠ [] ↔ ∃ z, Reach G fr z ∧ fr ∈ G z :=
  ⟨ring_some, fun ⟨z, h1, h2⟩ e => ring_none us hus hk e z h1 h2⟩
/-- each once -/
def dd : List Int → List Int
  | [] => []
  | [a] => [a]
  | a :: b :: r => if a = b then dd (b :: r) else a :: dd (b :: r)
theorem dd_mem {x : Int} : ∀ (l : List Int), x ∈ dd l ↔ x ∈ l
  | [] => Iff.rfl
  | [a] => Iff.rfl
  | a :: b :: r => by
    unfold dd
    by_cases e : a = b
    · rw [if_pos e, dd_mem (b :: r), e]; simp
    · rw [if_neg e, List.mem_cons, dd_mem (b :: r)]
      exact (List.mem_cons (a := x) (b := a) (l := b :: r)).symm
theorem loop_dd {f : Int → Seen → Res} {pre : List Int} (hf : ∀ n s, Mono (f n s) s) : ∀ (ns : List Int) (s : Seen), loop f pre ns s = loop f pre (dd ns) s
  | [], s => rfl
  | [a], s => rfl
  | a :: b :: r, s => by
    have ih := loop_dd (pre := pre) hf (b :: r)
    unfold dd
    by_cases e : a = b
    · subst e
      rw [if_pos rfl, ← ih]
      conv => lhs; unfold loop
      by_cases hs : s a = true
      · rw [if_pos hs]
      · rw [if_neg hs]
        conv => rhs; unfold loop
        rw [if_neg hs]
        by_cases h1 : (f a (ins s a)).1 = true
        · rw [if_pos h1, if_pos h1]
        · rw [if_neg h1, if_neg h1]
          conv => lhs; unfold loop
          rw [if_pos (hf a (ins s a) a (ins_self _ _))]
    · rw [if_neg e]
      conv => lhs; unfold loop
      conv => rhs; unfold loop
      rw [ih s, ih]
theorem dfs_dd (G : Int → List Int) (fr : Int) : ∀ (k : Nat) (pre : List Int) (cur : Int) (s : Seen), dfs G fr k pre cur s = dfs (fun x => dd (G x)) fr k pre cur s
  | 0, _, _, _ => rfl
  | k + 1, pre, cur, s => by
    rw [dfs_succ, dfs_succ]
    have e : (fun n s => dfs G fr k (pre ++ [cur]) n s) = fun n s => dfs (fun x => dd (G x)) fr k (pre ++ [cur]) n s := by
      funext n s
      exact dfs_dd G fr k _ n s
    rw [e]
    by_cases h : fr ∈ G cur
    · rw [if_pos h, if_pos ((dd_mem _).2 h)]
    · rw [if_neg h, if_neg (fun h1 => h ((dd_mem _).1 h1))]
      exact loop_dd (fun n s => dfs_mono _ fr k _ n s) _ s
theorem ring_dd (G : Int → List Int) (fr : Int) (k : Nat) : ring G fr k = ring (fun x => dd (G x)) fr k := by
  unfold ring
  rw [dfs_dd G fr k [] fr]
theorem dd_sorted : ∀ (l : List Int), l.Pairwise (· ≤ ·) → (dd l).Pairwise (· < ·)
  | [], _ => List.Pairwise.nil
  | [a], _ => List.pairwise_singleton _ _
  | a :: b :: r, h => by
    rw [List.pairwise_cons] at h
    unfold dd
    by_cases e : a = b
    · rw [if_pos e]; exact dd_sorted (b :: r) h.2
    · rw [if_neg e, List.pairwise_cons]
      refine ⟨fun x hx => ?_, dd_sorted (b :: r) h.2⟩
      have h1 := h.1 x ((dd_mem _).1 hx)
      have h2 := h.1 b (List.mem_cons_self ..)
      have h3 := (dd_mem _).1 hx
      rcases List.mem_cons.1 h3 with e1 | e1
      · omega
      · have := (List.pairwise_cons.1 h.2).1 x e1
        omega
theorem rising_eq : ∀ (l m : List Int), l.Pairwise (· < ·) → m.Pairwise (· < ·) → (∀ x, x ∈ l ↔ x ∈ m) → l = m
  | [], [], _, _, _ => rfl
  | [], b :: m, _, _, h => absurd ((h b).2 (List.mem_cons_self ..)) (by simp)
  | a :: l, [], _, _, h => absurd ((h a).1 (List.mem_cons_self ..)) (by simp)
  | a :: l, b :: m, hl, hm, h => by
    rw [List.pairwise_cons] at hl hm
    have e : a = b := by
      have h1 := (h a).1 (List.mem_cons_self ..)
      have h2 := (h b).2 (List.mem_cons_self ..)
      rcases List.mem_cons.1 h1 with e | e
      · exact e
      · rcases List.mem_cons.1 h2 with e2 | e2
        · exact e2.symm
        · have := hm.1 a e
          have := hl.1 b e2
          omega
    subst e
    congr 1
    refine rising_eq l m hl.2 hm.2 fun x => ⟨fun hx => ?_, fun hx => ?_⟩
    · rcases List.mem_cons.1 ((h x).1 (List.mem_cons_of_mem _ hx)) with e | e
      · have := hl.1 x hx; omega
      · exact e
    · rcases List.mem_cons.1 ((h x).2 (List.mem_cons_of_mem _ hx)) with e | e
      · have := hm.1 x hx; omega
      · exact e
/-- the same edges, the same ring -/
theorem ring_same {G H : Int → List Int} {fr : Int} {k : Nat} (hG : ∀ x, (G x).Pairwise (· ≤ ·)) (hH : ∀ x, (H x).Pairwise (· ≤ ·)) (h : ∀ x n, n ∈ G x ↔ n ∈ H x) : ring G fr k = ring H fr k := by
  rw [ring_dd G, ring_dd H]
  congr 1
  funext x
  exact rising_eq _ _ (dd_sorted _ (hG x)) (dd_sorted _ (hH x)) fun n => by rw [dd_mem, dd_mem]; exact h x n
end Go.Proofs.Ring
