import Derived.Test.YthbbnebanmpcjaaPg5
import Derived.Lib.SliceRun
/- A page: data are laid, are taken away. -/
namespace Go.Proofs.Ythbbnebanmpcjaa.Pg
open Go.ChangeShapes Go.WideShapes Go.ChangeAt Go.RowKit Go.IntWalk Go.Proofs.Mem
set_option linter.unusedVariables false
set_option linter.unusedSimpArgs false
theorem wpList_copy_pg {P : Program} (w : World) {ops : Array Oper} {rest : List Oper} {o : Oper} {ac : Act} {Q : Exit → Act → World → Prop} (hgd : o.guard = none) (d s : Operand) (dT sT : TypeId)
    (ho : o.op = .call { callee := .builtin .copy, args := #[d, s], argTypes := #[dT, sT] }) (elem : TypeId) (hu : P.underlying dT = some (.slice elem)) (hsz : (P.info? elem).map (·.size) = some 1)
    (b a n cap : Nat) (xs : List Int) (hp : PgAt w b xs) (hd : ac.eval d = .slice (some ⟨b, a, none⟩) n cap)
    (B : Nat) (ad : Addr) (c : Nat) (k : Nat) (ys : List Int) (hk : ys.length = k) (hs : ac.eval s = .slice (some ad) k c) (hr : IR w B .u8 (.slice (some ad) k c) ys) (hy : Bytes ys) (hl : k ≤ n) (hn : a + n ≤ 448)
    (h : ∀ w', PgAt w' b (splice xs a ys) → Fr (fun x => x = b) w w' → wpList P ops Q rest (ac.put o.dst (goInt k)) w') : wpList P ops Q (o :: rest) ac w := by
  subst hk
  refine wpList_plain hgd fun K hK' => ?_
  obtain ⟨w', hrun, r1, r2⟩ := run_copy_pg (P := P) dT sT o.type elem hu hsz hp n cap B ad c hr hy hl hn
  unfold Oper.wp
  simp [execOp, ho, resolve, invoke, builtin, hs, hd, hrun, Result.andThen]
  exact hK' _ _ (h w' r1 r2)
theorem pg_set {w : World} {b : Nat} {xs : List Int} (h : PgAt w b xs) (i : Nat) (z : Int) (hz : 0 ≤ z ∧ z ≤ 255) : PgAt (w.setCell ⟨b, i, none⟩ (.int .u8 z)) b (xs.set i z) := by
  refine ⟨?_, by rw [List.length_set]; exact h.len, fun x hx => ?_⟩
  · have h9 := h.box.set_ i (.int .u8 z)
    have e : (pgC xs).setIfInBounds i (.int .u8 z) = pgC (xs.set i z) := by unfold pgC; simp [List.map_set]
    rw [e] at h9; exact h9
  · rcases List.mem_or_eq_of_mem_set hx with hx | rfl
    · exact h.byt x hx
    · exact hz
theorem pg_fill {b : Nat} : ∀ (n o : Nat) (w : World) (xs : List Int), PgAt w b xs → o + n ≤ 448 → PgAt (w.setCells b o (List.replicate n (.int .u8 0))) b (splice xs o (List.replicate n 0)) ∧ Fr (fun x => x = b) w (w.setCells b o (List.replicate n (.int .u8 0)))
  | 0, o, w, xs, h, ho => by
    have e : splice xs o (List.replicate 0 0) = xs := by simp [splice]
    rw [e]; exact ⟨h, Fr.refl _ _⟩
  | n + 1, o, w, xs, h, ho => by
    have h1 := pg_set h o 0 (by decide)
    obtain ⟨h2, h3⟩ := pg_fill n (o + 1) _ _ h1 (by omega)
    have e : splice (xs.set o 0) (o + 1) (List.replicate n 0) = splice xs o (List.replicate (n + 1) 0) := by
      unfold splice
      have hl : o < xs.length := by rw [h.len]; omega
      rw [List.length_replicate, List.length_replicate, List.replicate_succ, show o + 1 + n = o + (n + 1) by omega, List.drop_set_of_lt (by omega)]
      have e2 : (xs.set o 0).take (o + 1) = xs.take o ++ [0] := by
        rw [List.take_succ_eq_append_getElem (by rw [List.length_set]; exact hl), List.getElem_set_self, List.take_set_of_le (Nat.le_refl _)]
      rw [e2]; simp
    rw [e] at h2
    exact ⟨h2, (Fr.setCell (Fr.refl (fun x => x = b) w) (p := ⟨b, o, none⟩) (.inl rfl) (.int .u8 0)).trans h3⟩
theorem zero8 (w : World) : (zeroValue 5).run Try.prog w = .ok (.int .u8 0) w := by kernel_rfl
theorem run_clear_pg {w : World} {b o n c : Nat} {xs : List Int} (h : PgAt w b xs) (hn : 0 < n) (ho : o + n ≤ 448) (ty : TypeId) : ∃ w', (Builtin.clear_ #[31] ty #[.slice (some ⟨b, o, none⟩) n c]).run Try.prog w = .ok (.tuple #[]) w' ∧ PgAt w' b (splice xs o (List.replicate n 0)) ∧ Fr (fun x => x = b) w w' := by
  have hr := Go.Lib.run_clear_slice (P := Try.prog) w 31 5 ty (.int .u8 0) Try.underlying31 zero8 rfl rfl b o n c hn (fun j hj => by rw [h.cell (o + j) (by omega)]; rfl) (fun j hj => h.box.frozen (o + j))
  obtain ⟨h1, h2⟩ := pg_fill n o w xs h ho
  exact ⟨_, hr, h1, h2⟩
theorem wpList_clear_pg (w : World) {ops : Array Oper} {rest : List Oper} {o : Oper} {ac : Act} {Q : Exit → Act → World → Prop} (hgd : o.guard = none) (s : Operand)
    (ho : o.op = .call { callee := .builtin .clear, args := #[s], argTypes := #[31] }) (b a n c : Nat) (xs : List Int) (hp : PgAt w b xs) (hs : ac.eval s = .slice (some ⟨b, a, none⟩) n c) (hn : 0 < n) (hl : a + n ≤ 448)
    (h : ∀ w', PgAt w' b (splice xs a (List.replicate n 0)) → Fr (fun x => x = b) w w' → wpList Try.prog ops Q rest (ac.put o.dst (.tuple #[])) w') : wpList Try.prog ops Q (o :: rest) ac w := by
  refine wpList_plain hgd fun K hK' => ?_
  obtain ⟨w', hrun, r1, r2⟩ := run_clear_pg (c := c) hp hn hl o.type
  unfold Oper.wp
  simp [execOp, ho, resolve, invoke, builtin, hs, hrun, Result.andThen]
  exact hK' _ _ (h w' r1 r2)
/-- data are laid right ahead of LOW -/
def layP (xs : List Int) (s : Nat) (ys : List Int) : List Int := setN (place (splice xs (low xs - ys.length) ys) s (low xs - ys.length) ys.length) 14 2 ((low xs - ys.length : Nat) : Int)
set_option maxRecDepth 100000 in
set_option maxHeartbeats 4000000 in
theorem lay_any (w : World) (b : Nat) (xs : List Int) (h : PgAt w b xs) (s : Nat) (hs : s < 107) (N : Int) (hN : N = s) (ad : Addr) (c k : Nat) (ys : List Int) (hk : ys.length = k) (hk0 : 0 < k) (hy : Bytes ys) (B : Nat) (hr : IR w B .u8 (.slice (some ad) k c) ys) (hl : ys.length ≤ low xs) (hlow : low xs ≤ 448) :
    Calls Try.prog 51 #[.pointer (some ⟨b, 0, none⟩), .int .i64 N, .slice (some ad) k c] w fun e w' => e = .returned (.tuple #[]) ∧ PgAt w' b (layP xs s ys) ∧ Fr (fun x => x = b) w w' := by
  subst hN
  have LW := Lib.hid (low_any w b xs h)
  have HP := Lib.hid h
  have HR := Lib.hid hr
  have HY := Lib.hid hy
  have HK := Lib.hid hk
  obtain ⟨a, ha⟩ : ∃ a, a = low xs - ys.length := ⟨_, rfl⟩
  have hak : a + k ≤ 448 := by omega
  have ha8 : a < 448 := by omega
  have wa : wrap64 ((low xs : Int) - (k : Int)) = (a : Int) := by rw [wrap64_in _ (by omega)]; omega
  have PL := Lib.hid (fun W (hp : PgAt W b (splice xs a ys)) => place_any W b _ hp (s : Int) (a : Int) (k : Int) s a k rfl rfl rfl (by omega) (by omega) (by omega))
  have PU := Lib.hid (fun W (hp : PgAt W b (place (splice xs a ys) s a k)) => put_at W b _ hp 14 2 (a : Int) 14 2 rfl rfl (by omega) (by decide) (by decide) (by decide))
  have HL := Lib.hid (show layP xs s ys = setN (place (splice xs a ys) s a k) 14 2 (a : Int) by unfold layP; rw [← ha, hk])
  rw [HL.out]
  have c1 : (0 : Int) ≤ a := by omega
  have c3 : (a : Int) ≤ 448 := by omega
  have e1 : ((448 : Int) - a) = ((448 - a : Nat) : Int) := by omega
  have c4 : ¬ 448 - a = 0 := by omega
  have c6 : ¬ 448 ≤ a := by omega
  have c7 : ¬ 448 = a := by omega
  have wu : IntKind.u64.wrap (a : Int) = (a : Int) := by rw [IntKind.wrap_u64]; omega
  have hka : k ≤ 448 - a := by omega
  have han : a + (448 - a) ≤ 448 := by omega
  obtain ⟨LO, hLO⟩ : ∃ LO, LO = low xs := ⟨_, rfl⟩
  rw [← hLO] at LW wa
  clear h hr hy hk ha hl hlow hLO
  go_enter Try.func51, Try.ntmps51
  go_wp2_with (first
    | ((with_reducible refine LW.out.mono ?_); rintro e w1 ⟨rfl, rfl⟩)
    | (refine wpList_copy_pg _ rfl _ _ _ _ rfl 5 Try.underlying31 (by kernel_rfl) b a (448 - a) (448 - a) xs HP.out rfl B ad c k ys HK.out rfl HR.out HY.out hka han ?_
       intro w2 hp2 hf2
       have P2 := Lib.hid hp2
       have F2 := Lib.hid hf2
       clear hp2 hf2)
    | fail)
  (with_reducible refine (PL.out _ P2.out).mono ?_)
  rintro e w3 ⟨rfl, p3, f3⟩
  have P3 := Lib.hid p3
  have F3 := Lib.hid (F2.out.trans f3)
  clear p3 f3
  go_wp2_with fail
  (with_reducible refine (PU.out _ P3.out).mono ?_)
  rintro e w4 ⟨rfl, p4, f4⟩
  have P4 := Lib.hid p4
  have F4 := Lib.hid (F3.out.trans f4)
  clear p4 f4
  go_wp2
  go_end0
  exact ⟨rfl, P4.out, F4.out⟩
/-- a slot's data are taken away -/
def emptyP (xs : List Int) (s : Nat) : List Int :=
  let zs := place (splice xs (off xs s) (List.replicate (len xs s) 0)) s 0 0
  setN zs 14 2 (lowTo zs (min (cnt zs) 40) : Nat)
set_option maxRecDepth 100000 in
set_option maxHeartbeats 4000000 in
theorem empty_any (w : World) (b : Nat) (xs : List Int) (h : PgAt w b xs) (s : Nat) (hs : s < 107) (h0 : len xs s ≠ 0) (hw : off xs s + len xs s ≤ 448) (N : Int) (hN : N = s) :
    Calls Try.prog 48 #[.pointer (some ⟨b, 0, none⟩), .int .i64 N] w fun e w' => e = .returned (.tuple #[]) ∧ PgAt w' b (emptyP xs s) ∧ Fr (fun x => x = b) w w' := by
  subst hN
  have DA := Lib.hid (data_any w b xs h s hs hw (s : Int) rfl)
  rw [if_neg h0] at DA
  have HP := Lib.hid h
  obtain ⟨zs, hzs⟩ : ∃ zs, zs = place (splice xs (off xs s) (List.replicate (len xs s) 0)) s 0 0 := ⟨_, rfl⟩
  have HE := Lib.hid (show emptyP xs s = setN zs 14 2 ((lowTo zs (min (cnt zs) 40) : Nat) : Int) by unfold emptyP; rw [← hzs])
  rw [HE.out]
  obtain ⟨L, hL⟩ : ∃ L, L = len xs s := ⟨_, rfl⟩
  obtain ⟨O, hO⟩ : ∃ O, O = off xs s := ⟨_, rfl⟩
  rw [← hL] at DA hw h0 hzs
  rw [← hO] at DA hw hzs
  have hL0 : 0 < L := by omega
  have PL := Lib.hid (fun W (hp : PgAt W b (splice xs O (List.replicate L 0))) => place_any W b _ hp (s : Int) 0 0 s 0 0 rfl rfl rfl (by omega) (by decide) (by decide))
  rw [← hzs] at PL
  have LWA := Lib.hid (fun W (hp : PgAt W b zs) => lowest_any W b zs hp)
  have hlo := lowTo_le zs (min (cnt zs) 40)
  obtain ⟨M, hM⟩ : ∃ M, M = lowTo zs (min (cnt zs) 40) := ⟨_, rfl⟩
  rw [← hM] at LWA hlo ⊢
  have PU := Lib.hid (fun W (hp : PgAt W b zs) => put_at W b zs hp 14 2 (M : Int) 14 2 rfl rfl (by omega) (by decide) (by decide) (by decide))
  have wu : IntKind.u64.wrap (M : Int) = (M : Int) := by rw [IntKind.wrap_u64]; omega
  clear h hL hO hM hzs h0
  go_enter Try.func48, Try.ntmps48
  go_wp2_with (first
    | ((with_reducible refine DA.out.mono ?_); rintro e w1 ⟨rfl, d, rfl⟩; have PD := Lib.hid (HP.out.later (below_drewN (Below.refl _ _) d)))
    | (refine wpList_clear_pg _ rfl _ rfl b O L (448 - O) xs PD.out rfl hL0 hw ?_
       intro w2 hp2 hf2
       have P2 := Lib.hid hp2
       have F2 := Lib.hid (show Fr (fun x => x = b) w w2 from ((Fr.refl (fun x => x = b) w).drewN _).trans hf2)
       clear hp2 hf2)
    | fail)
  (with_reducible refine (PL.out _ P2.out).mono ?_)
  rintro e w3 ⟨rfl, p3, f3⟩
  have P3 := Lib.hid p3
  have F3 := Lib.hid (F2.out.trans f3)
  clear p3 f3
  go_wp2_with fail
  (with_reducible refine (LWA.out _ P3.out).mono ?_)
  rintro e w4 ⟨rfl, rfl⟩
  go_wp2_with fail
  (with_reducible refine (PU.out _ P3.out).mono ?_)
  rintro e w4 ⟨rfl, p4, f4⟩
  have P4 := Lib.hid p4
  have F4 := Lib.hid (F3.out.trans f4)
  clear p4 f4
  go_wp2
  go_end0
  exact ⟨rfl, P4.out, F4.out⟩
end Go.Proofs.Ythbbnebanmpcjaa.Pg
