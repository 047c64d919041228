import Derived.Test.YthbbnebanmpcjaaPg3
/- A page's data, what is used, free; its bytes. -/
namespace Go.Proofs.Ythbbnebanmpcjaa.Pg
open Go.ChangeShapes Go.WideShapes Go.ChangeAt Go.RowKit Go.IntWalk Go.Proofs.Mem
set_option linter.unusedVariables false
set_option linter.unusedSimpArgs false
theorem wpList_copy_row {P : Program} (w : World) {ops : Array Oper} {rest : List Oper} {o : Oper} {a : Act} {Q : Exit → Act → World → Prop} (hgd : o.guard = none) (d s : Operand) (dT sT : TypeId)
    (ho : o.op = .call { callee := .builtin .copy, args := #[d, s], argTypes := #[dT, sT] }) (elem : TypeId) (hu : P.underlying dT = some (.slice elem)) (hsz : (P.info? elem).map (·.size) = some 1)
    (Tu : TypeId) (base g n cap : Nat) (xs : List Int) (hn : xs.length = n) (hd : a.eval d = .slice (some ⟨g, 0, none⟩) n cap) (hrow : RowAt Tu w base g (.slice (some ⟨g, 0, none⟩) n cap) xs)
    (B : Nat) (ad : Addr) (c : Nat) (k : Nat) (ys : List Int) (hk : ys.length = k) (hs : a.eval s = .slice (some ad) k c) (hr : IR w B .u8 (.slice (some ad) k c) ys) (hl : k ≤ n)
    (h : ∀ w', RowAt Tu w' base g (.slice (some ⟨g, 0, none⟩) n cap) (ys ++ xs.drop ys.length) → w.grownBy w' (some g) → wpList P ops Q rest (a.put o.dst (goInt k)) w') : wpList P ops Q (o :: rest) a w :=
  wpList_plain hgd fun _ hK => by
    subst hn hk
    obtain ⟨w', hrun, r1, r2⟩ := Cpy.copy_runs (P := P) dT sT o.type elem hu hsz hrow B ad c ys hr hl
    unfold Oper.wp execOp
    simp only [ho, resolve, invoke, builtin, Sem.run_bind, Sem.run_pure, Result.andThen_ok, List.map_toArray, List.map_cons, List.map_nil, hs, hd, hrun]
    exact hK _ _ (h w' r1 r2)
set_option maxRecDepth 100000 in
set_option maxHeartbeats 4000000 in
theorem bytes_any (w : World) (b : Nat) (xs : List Int) (h : PgAt w b xs) :
    Calls Try.prog 19 #[.pointer (some ⟨b, 0, none⟩)] w fun e w' => ∃ u, e = .returned u ∧ w'.ownsRow w.heap.size 5 1 u 448 (xs.map (.int .u8)) ∧ Below w.heap.size w w' := by
  obtain ⟨i0, hi0, hz0, hz1, hz2⟩ := info_parts NumBytes.u8_info
  have HP := Lib.hid h
  clear h
  go_enter Try.func19, Try.ntmps19
  go_wp2_with (first
    | (refine wpList_make_full _ rfl _ _ _ rfl w.heap.size 5 i0 _ 1 Try.underlying31 hi0 hz0 hz1 .i64 .i64 448 448 448 rfl rfl rfl rfl (by rw [hz2]; omega) (by simp only [maxLen]; omega) (Nat.le_refl _) ?_
       intro w1 hown1 hg1
       have ROW := Lib.hid (show RowAt 5 w1 w.heap.size w.heap.size (.slice (some ⟨w.heap.size, 0, none⟩) 448 448) z448 from ⟨⟨448, by simp [z448]⟩, by rw [madeZero] at hown1; simpa [z448] using hown1⟩)
       have HB1 := Lib.hid (grown_below hg1)
       have IR1 := Lib.hid (show IR w1 w1.heap.size .u8 (.slice (some ⟨b, 0, none⟩) 448 448) xs by
         have h9 := (HP.out.later HB1.out).ir 0 448 (by decide)
         rw [List.drop_zero, List.take_of_length_le (by rw [HP.out.len]; exact Nat.le_refl _)] at h9
         exact h9)
       clear hown1 hg1)
    | (refine wpList_copy_row _ rfl _ _ _ _ rfl 5 Try.underlying31 (by kernel_rfl) 5 w.heap.size w.heap.size 448 448 z448 List.length_replicate rfl ROW.out w1.heap.size ⟨b, 0, none⟩ 448 448 xs HP.out.len rfl IR1.out (Nat.le_refl _) ?_
       intro w2 hr2 hg2
       have R2 := Lib.hid hr2
       have HB2 := Lib.hid (HB1.out.trans ((Below.refl w.heap.size w1).grown hg2 HB1.out.size (fun g hg => by injection hg with hg; omega)))
       clear hr2 hg2))
  go_ret
  have h9 := R2.out.own
  rw [show xs ++ z448.drop xs.length = xs by rw [HP.out.len, show z448.drop 448 = [] by decide, List.append_nil], HP.out.len] at h9
  exact ⟨_, rfl, h9, HB2.out⟩
/-- what a slot's data are -/
def dat (xs : List Int) (s : Nat) : List Int := (xs.drop (off xs s)).take (len xs s)
theorem data_any (w : World) (b : Nat) (xs : List Int) (h : PgAt w b xs) (s : Nat) (hs : s < 107) (hw : off xs s + len xs s ≤ 448) (N : Int) (hN : N = s) :
    Calls Try.prog 45 #[.pointer (some ⟨b, 0, none⟩), .int .i64 N] w fun e w' => e = .returned (if len xs s = 0 then .slice none 0 0 else .slice (some ⟨b, off xs s, none⟩) (len xs s) (448 - off xs s)) ∧ ∃ d, w' = w.drewN d := by
  subst hN
  have LA := Lib.hid (length_any w b xs h s hs (s : Int) rfl)
  have OA := Lib.hid (fun d : Nat => offset_any (w.drewN d) b xs (h.later (below_drewN (Below.refl _ _) d)) s (by omega) (s : Int) rfl)
  obtain ⟨L, hL⟩ : ∃ L, L = len xs s := ⟨_, rfl⟩
  obtain ⟨O, hO⟩ : ∃ O, O = off xs s := ⟨_, rfl⟩
  rw [← hL] at LA hw ⊢
  rw [← hO] at OA hw ⊢
  clear h hL hO
  by_cases h0 : L = 0
  · subst h0
    rw [if_pos rfl]
    go_enter Try.func45, Try.ntmps45
    go_wp2_with fail
    (with_reducible refine LA.out.mono ?_)
    rintro e w1 ⟨rfl, rfl⟩
    go_wp2
    go_ret
    exact ⟨rfl, 0, rfl⟩
  · rw [if_neg h0]
    have b0 : ((L : Int) == 0) = false := by rw [beq_eq_false_iff_ne]; omega
    have c1 : (0 : Int) ≤ O := by omega
    have c3 : (O : Int) ≤ 448 := by omega
    have e1 : ((448 : Int) - O) = ((448 - O : Nat) : Int) := by omega
    have c4 : ¬ 448 - O = 0 := by omega
    have c5 : O < 448 := by omega
    have c6 : ¬ 448 ≤ O := by omega
    have c7 : ¬ 448 = O := by omega
    have c8 : L ≤ 448 - O := by omega
    have c9 : (L : Int) ≤ ((448 - O : Nat) : Int) := by omega
    go_enter Try.func45, Try.ntmps45
    go_wp2_with fail
    (with_reducible refine LA.out.mono ?_)
    rintro e w1 ⟨rfl, rfl⟩
    go_wp2_with fail
    go_quiet ((go_at_call 59; (with_reducible exact quiet_l (OA.out _))))
    go_wp2
    go_ret
    exact ⟨rfl, _, rfl⟩
/-- how many bytes the first n slots use -/
def usedTo (xs : List Int) (n : Nat) : Nat := ((List.range n).map (len xs)).sum
theorem usedTo_succ (xs : List Int) (n : Nat) : usedTo xs (n + 1) = usedTo xs n + len xs n := by unfold usedTo; rw [List.range_succ, List.map_append, List.sum_append]; simp
theorem usedTo_le (xs : List Int) (hx : ∀ s, len xs s ≤ 65535) (n : Nat) : usedTo xs n ≤ 65535 * n := by
  induction n with
  | zero => exact Nat.le_refl _
  | succ n ih => rw [usedTo_succ]; have := hx n; omega
theorem len_le (xs : List Int) (hb : Bytes xs) (hl : xs.length = 448) (s : Nat) (hs : s < 107) : len xs s ≤ 65535 := by
  unfold len
  split
  · have := two_b hb (18 + 4 * s) (by rw [hl]; omega)
    unfold lenR; omega
  · omega
set_option maxRecDepth 100000 in
set_option maxHeartbeats 4000000 in
theorem used_any (w : World) (b : Nat) (xs : List Int) (h : PgAt w b xs) (hc : cnt xs ≤ 40) :
    Calls Try.prog 47 #[.pointer (some ⟨b, 0, none⟩)] w fun e w' => e = .returned (.int .i64 (usedTo xs (cnt xs))) ∧ w = w' := by
  have CA := Lib.hid (count_any w b xs h)
  have LA := Lib.hid (fun s (hs : s < 107) => length_any w b xs h s hs (s : Int) rfl)
  have LL := Lib.hid (fun s (hs : s < 107) => len_le xs h.byt h.len s hs)
  have UT := Lib.hid (show ∀ n, n ≤ 40 → usedTo xs n ≤ 65535 * n from fun n hn => by
    induction n with
    | zero => exact Nat.le_refl _
    | succ n ih => rw [usedTo_succ]; have := ih (by omega); have := len_le xs h.byt h.len n (by omega); omega)
  obtain ⟨C, hC⟩ : ∃ C, C = cnt xs := ⟨_, rfl⟩
  rw [← hC] at CA hc ⊢
  clear h hC
  go_enter Try.func47, Try.ntmps47
  go_wp2_with fail
  (with_reducible refine CA.out.mono ?_)
  rintro e w1 ⟨rfl, rfl⟩
  go_wp2
  go_loopw [3, 7] (fun u x wr => ∃ s : Nat, s ≤ C ∧ x = .int .i64 s ∧ u = .int .i64 (usedTo xs s) ∧ w = wr) (fun _ x _ => C - (intOf x).toNat)
  case atStart => exact ⟨0, Nat.zero_le _, rfl, rfl, rfl⟩
  case round =>
    obtain ⟨s, hs, rfl, rfl, rfl⟩ := hrel
    by_cases hlt : s < C
    · have ds : decide ((s : Int) < (C : Int)) = true := by simp; omega
      have LS := Lib.hid (LA.out s (by omega))
      have hl := LL.out s (by omega)
      have hu := UT.out s (by omega)
      have HU := Lib.hid (usedTo_succ xs s)
      obtain ⟨L, hL⟩ : ∃ L, L = len xs s := ⟨_, rfl⟩
      obtain ⟨U, hU⟩ : ∃ U, U = usedTo xs s := ⟨_, rfl⟩
      rw [← hL] at LS hl HU
      rw [← hU] at hu HU ⊢
      have wu : wrap64 ((U : Int) + (L : Int)) = (U : Int) + (L : Int) := wrap64_in _ (by omega)
      have HLT := Lib.hid hlt
      clear hL hU
      go_wp2_with fail
      (with_reducible refine LS.out.mono ?_)
      rintro e w1 ⟨rfl, rfl⟩
      go_wp2
      go_roundw
      case rel => exact ⟨s + 1, HLT.out, by go_num, by rw [HU.out]; simp, trivial⟩
      case measure => have := HLT.out; simp [intOf]; omega
    · have es : s = C := by omega
      have ds : decide ((s : Int) < (C : Int)) = false := by simp; omega
      subst es
      go_wp2
      go_ret
      exact ⟨rfl, rfl⟩
def free (xs : List Int) : Int := 448 - ((16 + 4 * cnt xs : Nat) : Int) - (usedTo xs (cnt xs) : Int)
theorem free_any (w : World) (b : Nat) (xs : List Int) (h : PgAt w b xs) (hc : cnt xs ≤ 40) :
    Calls Try.prog 26 #[.pointer (some ⟨b, 0, none⟩)] w fun e w' => e = .returned (.int .i64 (free xs)) ∧ w = w' := by
  have CA := Lib.hid (count_any w b xs h)
  have UA := Lib.hid (used_any w b xs h hc)
  have LE := Lib.hid (listEnd_any w (cnt xs) (by omega) _ rfl)
  have hu : usedTo xs (cnt xs) ≤ 65535 * 40 := by
    have : ∀ n, n ≤ 40 → usedTo xs n ≤ 65535 * n := fun n hn => by
      induction n with
      | zero => exact Nat.le_refl _
      | succ n ih => rw [usedTo_succ]; have := ih (by omega); have := len_le xs h.byt h.len n (by omega); omega
    have := this _ hc
    omega
  unfold free
  obtain ⟨U, hU⟩ : ∃ U, U = usedTo xs (cnt xs) := ⟨_, rfl⟩
  rw [← hU] at UA hu ⊢
  obtain ⟨C, hC⟩ : ∃ C, C = cnt xs := ⟨_, rfl⟩
  rw [← hC] at CA LE hc ⊢
  obtain ⟨E, hE⟩ : ∃ E : Int, E = ((16 + 4 * C : Nat) : Int) := ⟨_, rfl⟩
  rw [← hE] at LE ⊢
  obtain ⟨X, hX⟩ : ∃ X : Int, X = 448 - E := ⟨_, rfl⟩
  have wfa : wrap64 (448 - E) = X := by rw [hX]; exact wrap64_in _ (by omega)
  have wfb : wrap64 (X - (U : Int)) = X - (U : Int) := wrap64_in _ (by omega)
  rw [← hX]
  clear h hU hC hE hX
  go_enter Try.func26, Try.ntmps26
  go_wp2_with fail
  (with_reducible refine CA.out.mono ?_)
  rintro e w1 ⟨rfl, rfl⟩
  go_wp2_with fail
  (with_reducible refine LE.out.mono ?_)
  rintro e w1 ⟨rfl, rfl⟩
  go_wp2_with fail
  (with_reducible refine UA.out.mono ?_)
  rintro e w1 ⟨rfl, rfl⟩
  go_wp2
  go_ret
  refine ⟨?_, rfl⟩
  show Ending.returned (.int .i64 (wrap64 (X - (U : Int)))) = _
  rw [wfb]
end Go.Proofs.Ythbbnebanmpcjaa.Pg
