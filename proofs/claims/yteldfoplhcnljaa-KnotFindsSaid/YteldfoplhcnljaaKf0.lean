import Derived.Test.YteldfoplhcnljaaKn9
/- Pure: step by step, to the smallest of those that come back, is the search. -/
namespace Go.Proofs.Ring
set_option linter.unusedVariables false
/-- x comes back to fr outside W -/
inductive Bk (G : Int → List Int) (fr : Int) (W : List Int) : Int → Prop
  | here {x : Int} : fr ∈ G x → x ∉ W → Bk G fr W x
  | step {x n : Int} : n ∈ G x → Bk G fr W n → x ∉ W → Bk G fr W x
theorem Bk.out {G : Int → List Int} {fr : Int} {W : List Int} {x : Int} (h : Bk G fr W x) : x ∉ W := by
  cases h <;> assumption
theorem bk_dead {G : Int → List Int} {fr : Int} {W : List Int} {s : Seen} (hS : Shut G fr W s) {d : Int} (h : Bk G fr W d) : s d = true → False := by
  induction h with
  | here h1 h2 => intro h; exact (hS _ h h2).1 h1
  | step h1 h2 h3 ih => intro h; exact ih ((hS _ h h3).2 _ h1)
theorem bk_way {G : Int → List Int} {fr : Int} {W : List Int} : ∀ {r : List Int} {n z : Int}, Way G (n :: r) → (n :: r).getLast? = some z → fr ∈ G z → (∀ x ∈ n :: r, x ∉ W) → Bk G fr W n
  | [], n, z, _, e, h, hW => by
    simp at e
    subst e
    exact .here h (hW _ (List.mem_cons_self ..))
  | a :: r, n, z, hw, e, h, hW => by
    refine .step hw.1 (bk_way (r := r) hw.2 (by simpa using e) h (fun x hx => hW x (List.mem_cons_of_mem _ hx))) (hW _ (List.mem_cons_self ..))
open Classical in
/-- step by step -/
noncomputable def rf (G : Int → List Int) (fr : Int) : Nat → List Int → Int → List Int
  | 0, _, _ => []
  | k + 1, pre, cur => if fr ∈ G cur then pre ++ [cur] else
    match (G cur).find? (fun n => decide (Bk G fr (pre ++ [cur]) n)) with
    | none => []
    | some n => rf G fr k (pre ++ [cur]) n
open Classical in
theorem dfs_rf (G : Int → List Int) (fr : Int) (us : List Int) (hus : ∀ x, ∀ n ∈ G x, n ∈ us) : ∀ (k : Nat) (pre : List Int) (cur : Int) (s : Seen), left us s + 1 ≤ k → Shut G fr (pre ++ [cur]) s → Way G (pre ++ [cur]) → (pre ++ [cur]).Nodup → On fr (pre ++ [cur]) s →
    rf G fr k pre cur = if (dfs G fr k pre cur s).1 then (dfs G fr k pre cur s).2.1 else []
  | 0, _, _, _, hk, _, _, _, _ => by omega
  | k + 1, pre, cur, s, hk, hS, hw, hnd, ho => by
    rw [dfs_succ]
    show (if fr ∈ G cur then pre ++ [cur] else _) = _
    by_cases hfr : fr ∈ G cur
    · rw [if_pos hfr, if_pos hfr]; rfl
    · rw [if_neg hfr, if_neg hfr]
      have hG := hus cur
      have hGc : ∀ n ∈ G cur, n ∈ G cur := fun n h => h
      generalize hns : G cur = ns at hG hGc ⊢
      have hGc2 : ∀ n ∈ ns, n ∈ G cur := fun n h => hns ▸ h
      clear hns hGc
      -- along the row
      suffices H : ∀ (ns : List Int), (∀ n ∈ ns, n ∈ us) → (∀ n ∈ ns, n ∈ G cur) → ∀ s, left us s ≤ k → Shut G fr (pre ++ [cur]) s → On fr (pre ++ [cur]) s →
          (match ns.find? (fun n => decide (Bk G fr (pre ++ [cur]) n)) with
            | none => []
            | some n => rf G fr k (pre ++ [cur]) n) = if (loop (fun n s => dfs G fr k (pre ++ [cur]) n s) pre ns s).1 then (loop (fun n s => dfs G fr k (pre ++ [cur]) n s) pre ns s).2.1 else [] from H ns hG hGc2 s (by omega) hS ho
      clear hG hGc2 ns hS ho hk s
      intro ns
      induction ns with
      | nil => intro _ _ s _ _ _; rfl
      | cons n ns ih =>
        intro hG hc s hk hS ho
        have hn := hG n (List.mem_cons_self ..)
        have ht : ∀ n ∈ ns, n ∈ us := fun x hx => hG x (List.mem_cons_of_mem _ hx)
        have hc2 : ∀ n ∈ ns, n ∈ G cur := fun x hx => hc x (List.mem_cons_of_mem _ hx)
        have hcn := hc n (List.mem_cons_self ..)
        cases e : s n with
        | true =>
          have hno : ¬ Bk G fr (pre ++ [cur]) n := fun h => bk_dead hS h e
          rw [List.find?_cons_of_neg (by simpa using hno), show loop (fun n s => dfs G fr k (pre ++ [cur]) n s) pre (n :: ns) s = loop (fun n s => dfs G fr k (pre ++ [cur]) n s) pre ns s by simp [loop, e]]
          exact ih ht hc2 s hk hS ho
        | false =>
          have h1 := left_ins hn e
          have hnW : n ∉ pre ++ [cur] := fun hm => by
            rcases ho n hm with h | h
            · exact hfr (h ▸ hcn)
            · rw [e] at h; cases h
          have hw' : Way G (pre ++ [cur] ++ [n]) := way_snoc hw hcn
          have hnd' : (pre ++ [cur] ++ [n]).Nodup := by
            rw [List.nodup_append]
            exact ⟨hnd, by simp, fun a ha b hb e' => hnW (by simp at hb; rw [← hb, ← e']; exact ha)⟩
          have ho' : On fr (pre ++ [cur] ++ [n]) (ins s n) := fun x hx => by
            rcases List.mem_append.1 hx with h | h
            · exact (ho x h).imp id ins_keep
            · rw [List.mem_singleton.1 h]; exact .inr (ins_self _ _)
          have hS' : Shut G fr (pre ++ [cur] ++ [n]) (ins s n) := fun d hd hdn => by
            have hd2 : d ≠ n := fun e' => hdn (by rw [e']; simp)
            have hd3 : d ∉ pre ++ [cur] := fun h => hdn (List.mem_append_left _ h)
            have h := hS d ((ins_or hd).resolve_left hd2) hd3
            exact ⟨h.1, fun m hm => ins_keep (h.2 m hm)⟩
          have key := dfs_rf G fr us hus k (pre ++ [cur]) n (ins s n) (by omega) hS' hw' hnd' ho'
          cases hr : (dfs G fr k (pre ++ [cur]) n (ins s n)).1 with
          | true =>
            obtain ⟨hI, r, hr2⟩ := dfs_ring G fr k (pre ++ [cur]) n (ins s n) hw' hnd' ho' hr
            have hb : Bk G fr (pre ++ [cur]) n := by
              obtain ⟨z, hz, hzf⟩ := hI.back
              rw [hr2, List.append_assoc] at hz
              have hway := hI.way
              rw [hr2, List.append_assoc] at hway
              have hnd2 := hI.nodup
              rw [hr2, List.append_assoc] at hnd2
              have hway2 : Way G (n :: r) := by
                clear hz hnd2 key hr hr2 hI hS' ho' hnd' hw' hnW
                generalize pre ++ [cur] = p at hway
                induction p with
                | nil => exact hway
                | cons a p ihp =>
                  cases p with
                  | nil => exact hway.2
                  | cons b p => exact ihp hway.2
              refine bk_way hway2 (z := z) ?_ hzf (fun x hx hx2 => ?_)
              · have e2 : (pre ++ [cur] ++ ([n] ++ r)).getLast? = (n :: r).getLast? := by
                  rw [List.getLast?_append]
                  cases h : (n :: r).getLast? with
                  | none => simp at h
                  | some v => show ((n :: r).getLast?).or _ = _; rw [h]; rfl
                rw [← e2]; exact hz
              · rw [List.nodup_append] at hnd2
                exact hnd2.2.2 x hx2 x (by simpa using hx) rfl
            rw [List.find?_cons_of_pos (by simpa using hb)]
            show rf G fr k (pre ++ [cur]) n = _
            rw [key, hr]
            simp [loop, e, hr]
          | false =>
            have hsh := dfs_shut G fr us hus k (pre ++ [cur]) n (ins s n) (by omega) hS' hr
            have hmono := dfs_mono G fr k (pre ++ [cur]) n (ins s n)
            have hno : ¬ Bk G fr (pre ++ [cur]) n := fun h => bk_dead hsh.1 h (hmono n (ins_self _ _))
            rw [List.find?_cons_of_neg (by simpa using hno), show loop (fun n s => dfs G fr k (pre ++ [cur]) n s) pre (n :: ns) s = loop (fun n s => dfs G fr k (pre ++ [cur]) n s) pre ns (dfs G fr k (pre ++ [cur]) n (ins s n)).2.2 by simp [loop, e, hr]]
            refine ih ht hc2 _ ?_ hsh.1 (fun x hx => (ho x hx).imp id fun h => hmono x (ins_keep h))
            have := left_mono (us := us) hmono
            omega
theorem ring_rf {G : Int → List Int} {us : List Int} (hus : ∀ x, ∀ n ∈ G x, n ∈ us) (fr : Int) {k : Nat} (h : left us (fun _ => false) + 1 ≤ k) : ring G fr k = rf G fr k [] fr := by
  rw [dfs_rf G fr us hus k [] fr (fun _ => false) h (fun d hd => by cases hd) trivial (by simp) (fun x hx => .inl (by simpa using hx))]
  rfl
end Go.Proofs.Ring
namespace Go.Proofs.Yteldfoplhcnljaa.Knot
open Go.Proofs.Ring
set_option linter.unusedVariables false
/-- those whom x waits for, each once -/
def nx (l : List Ed) (x : Int) : List Int := dd (srt l x)
theorem nx_mem {l : List Ed} {x n : Int} : n ∈ nx l x ↔ n ∈ tos l x := by unfold nx; rw [dd_mem, srt_mem]
theorem nx_is {l : List Ed} {x : Int} {r : List Int} (h1 : r.Pairwise (· < ·)) (h2 : ∀ n, n ∈ r ↔ n ∈ tos l x) : r = nx l x :=
  rising_eq _ _ h1 (dd_sorted _ (srt_sorted l x)) (fun n => by rw [h2, nx_mem])
theorem cyc_rf (l : List Ed) (fr : Int) : cyc l fr = rf (nx l) fr (l.length + 1) [] fr := by
  unfold cyc
  rw [ring_dd]
  exact ring_rf (us := us l) (fun x n hn => tos_us (nx_mem.1 hn)) fr (by have := left_le (us l); rw [us_len] at this; omega)
end Go.Proofs.Yteldfoplhcnljaa.Knot
