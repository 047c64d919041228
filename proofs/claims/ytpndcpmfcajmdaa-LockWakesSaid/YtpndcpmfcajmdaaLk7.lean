import Derived.Test.YtpndcpmfcajmdaaLk6
import Derived.Shelf.RegionOpenPlain
/- slices.Insert of one place ahead of others. -/
namespace Go.Proofs.Ytpndcpmfcajmdaa.Lock
open Go.ChangeShapes Go.WideShapes Go.ChangeAt Go.RowKit Go.IntWalk Go.Proofs.Mem Law Go.Shelf
set_option linter.unusedVariables false
set_option linter.unusedSimpArgs false
/-- 'copy(d, x)' whose run is known: one step of a region that draws -/
theorem step_copyR {P : Program} {ops : Array Oper} {o : Oper} {a : Act} {w : World} {K : Act → World → Prop} {Q : Exit → Act → World → Prop} {E : Prop} (hg : o.guard = none) (d x : Operand) (t : TypeId)
    (hop : o.op = Op.call { callee := Callee.builtin Builtin.copy, args := #[d, x], argTypes := #[t, t] }) (v u : Value) (hd : a.eval d = v) (hx : a.eval x = u) {v' : Value} {w' : World}
    (hr : (Builtin.copy_ #[t, t] o.type #[v, u]).run P w = .ok v' w') (hK : K (a.put o.dst v') w') : if Region.wanted o (yielded ops a.tmps) = true then Oper.wp P o a w K Q else E := by
  rw [if_pos (show Region.wanted o (yielded ops a.tmps) = true by simp [Region.wanted, hg])]
  unfold Oper.wp
  simp [execOp, hop, resolve, invoke, builtin, hd, hx, hr, Result.andThen]
  exact hK
theorem wpList_copyR {P : Program} {w : World} {ops : Array Oper} {rest : List Oper} {o : Oper} {a : Act} {Q : Exit → Act → World → Prop} (hgd : o.guard = none) (d x : Operand) (t : TypeId)
    (hop : o.op = Op.call { callee := Callee.builtin Builtin.copy, args := #[d, x], argTypes := #[t, t] }) (v u : Value) (hd : a.eval d = v) (hx : a.eval x = u) {v' : Value} {w' : World}
    (hr : (Builtin.copy_ #[t, t] o.type #[v, u]).run P w = .ok v' w') (h : wpList P ops Q rest (a.put o.dst v') w') : wpList P ops Q (o :: rest) a w := by
  refine wpList_plain hgd fun K hK => ?_
  unfold Oper.wp
  simp [execOp, hop, resolve, invoke, builtin, hd, hx, hr, Result.andThen]
  exact hK _ _ h
theorem cut_at {l : List Pl} {k : Nat} (h : k < l.length) : ∃ A x B, l = A ++ x :: B ∧ A.length = k ∧ l.take k = A ∧ l.drop k = x :: B := by
  refine ⟨l.take k, l[k], l.drop (k + 1), ?_, by simp; omega, rfl, ?_⟩
  · rw [← List.drop_eq_getElem_cons h, List.take_append_drop]
  · rw [← List.drop_eq_getElem_cons h]
set_option maxRecDepth 100000 in
set_option maxHeartbeats 4000000 in
/-- ahead of others, there is room -/
theorem insert_mid_room (w : World) (base b cap vb : Nat) (pre post : List Value) (A B : List Pl) (x p : Pl) (hbase : base ≤ b) (hb : RowB w b (pre ++ Pls (A ++ x :: B) ++ post)) (hcap : cap ≤ maxLen) (hpost : cap * 2 ≤ (A ++ x :: B).length * 2 + post.length) (hlt : (A ++ x :: B).length < cap)
    (hv : Box w vb (cPl p).toArray 72) (hne : vb ≠ b) :
    Calls Try.prog 53 #[.slice (some ⟨b, pre.length, none⟩) (A ++ x :: B).length cap, .int .i64 (A.length : Nat), .slice (some ⟨vb, 0, none⟩) 1 1] w fun e w' => Ins w base (.slice (some ⟨b, pre.length, none⟩) (A ++ x :: B).length cap) (A ++ p :: x :: B) w' e := by
  obtain ⟨old, rest, rfl, ho⟩ := take2 (post := post) (by omega)
  -- the row: pre, A, (x :: B), old, rest; first copy writes x :: B one place on
  obtain ⟨M, hM⟩ : ∃ M, M = (x :: B : List Pl) := ⟨_, rfl⟩
  have hMl : M.length = B.length + 1 := by rw [hM]; rfl
  have hb0 : RowB w b ((pre ++ Pls A) ++ Pls M ++ (old ++ rest)) := by rw [hM]; simpa [Pls_app, List.append_assoc] using hb
  have hb1 : RowB w b ((pre ++ Pls A ++ cPl x) ++ (Pls B ++ old) ++ rest) := by simpa [Pls_app, Pls_cons, List.append_assoc] using hb
  have hlA : (pre ++ Pls A).length = pre.length + A.length * 2 := by rw [List.length_append, Pls_len]
  have hlAx : (pre ++ Pls A ++ cPl x).length = pre.length + (A.length + 1) * 2 := by rw [List.length_append, hlA]; simp [cPl]; omega
  have hcp1 : ∀ ty dc sc, (Builtin.copy_ #[84, 84] ty #[.slice (some ⟨b, pre.length + (A.length + 1) * 2, none⟩) M.length dc, .slice (some ⟨b, pre.length + A.length * 2, none⟩) (M.length + 1) sc]).run Try.prog w.drew = .ok (goInt M.length) (w.drew.setRow b (pre ++ Pls A ++ cPl x ++ Pls M ++ rest).toArray) := fun ty dc sc => by
    rw [← hlAx]
    refine run_copyK w.drew ty b (pre ++ Pls A ++ cPl x) (Pls B ++ old) rest (Pls M) ⟨b, pre.length + A.length * 2, none⟩ M.length dc (M.length + 1) sc hb1 (by rw [List.length_append, ho, Pls_len, Pls_len]; omega) M.length (by show min (M.length + 1) M.length = M.length; omega) (Pls_len _) (fun j v h => ?_) (Pls_one _)
    rw [← hlA]; exact RowB.cells hb0 j v h
  have hW1 : RowB (w.drew.setRow b (pre ++ Pls A ++ cPl x ++ Pls M ++ rest).toArray) b ((pre ++ Pls A) ++ cPl x ++ (Pls M ++ rest)) := by
    have := RowB.set_ (Box.drew hb) (ds := pre ++ Pls A ++ cPl x ++ Pls M ++ rest)
    simpa [List.append_assoc] using this
  have hv1 : Box (w.drew.setRow b (pre ++ Pls A ++ cPl x ++ Pls M ++ rest).toArray) vb (cPl p).toArray 72 := Box.fr (Box.drew hv) (fr_setRow w.drew b _) (fun e => hne e)
  have hF1 : Fr (fun y => y = b) w (w.drew.setRow b (pre ++ Pls A ++ cPl x ++ Pls M ++ rest).toArray) := ((Fr.refl _ w).drew).trans (fr_setRow w.drew b _)
  generalize w.drew.setRow b (pre ++ Pls A ++ cPl x ++ Pls M ++ rest).toArray = W1 at hcp1 hW1 hv1 hF1
  have hcp2 : ∀ ty dc, (Builtin.copy_ #[84, 84] ty #[.slice (some ⟨b, pre.length + A.length * 2, none⟩) (M.length + 1) dc, .slice (some ⟨vb, 0, none⟩) 1 1]).run Try.prog W1 = .ok (goInt 1) (W1.setRow b ((pre ++ Pls A) ++ cPl p ++ (Pls M ++ rest)).toArray) := fun ty dc => by
    rw [← hlA]
    refine run_copyK W1 ty b (pre ++ Pls A) (cPl x) (Pls M ++ rest) (cPl p) ⟨vb, 0, none⟩ (M.length + 1) dc 1 1 hW1 rfl 1 (by show min 1 (M.length + 1) = 1; omega) rfl (fun j v h => ?_) (cPl_one p)
    exact sub_one W1 vb p hv1 j v h
  have hN : LnAt (W1.setRow b ((pre ++ Pls A) ++ cPl p ++ (Pls M ++ rest)).toArray) base (.slice (some ⟨b, pre.length, none⟩) ((A ++ x :: B).length + 1) cap) (A ++ p :: x :: B) ∧ RowTo w (W1.setRow b ((pre ++ Pls A) ++ cPl p ++ (Pls M ++ rest)).toArray) (.slice (some ⟨b, pre.length, none⟩) (A ++ x :: B).length cap) (.slice (some ⟨b, pre.length, none⟩) ((A ++ x :: B).length + 1) cap) := by
    refine ⟨.inr ⟨b, pre, rest, cap, by simp; omega, hbase, ?_, by simp at hlt ⊢; omega, hcap, by simp at hpost ⊢; omega⟩, ⟨(hF1.trans (fr_setRow _ b _)).mono (fun k _ h => by rw [h]; rfl), .inl rfl⟩⟩
    have := RowB.set_ hW1 (ds := (pre ++ Pls A) ++ cPl p ++ (Pls M ++ rest))
    rw [Pls_app, Pls_cons, ← hM]
    simpa [List.append_assoc] using this
  generalize hcs : ((pre ++ Pls A) ++ cPl p ++ (Pls M ++ rest)).toArray = cs at hcp2 hN
  have hnl : (A ++ x :: B).length = A.length + M.length := by rw [← hM, List.length_append]
  rw [hnl] at hN hlt ⊢
  obtain ⟨k, hk⟩ : ∃ k, A.length = k := ⟨_, rfl⟩
  obtain ⟨m, hm⟩ : ∃ k, M.length = k := ⟨_, rfl⟩
  obtain ⟨o, hoo⟩ : ∃ n, pre.length = n := ⟨_, rfl⟩
  simp only [hk, hm, hoo] at hcp1 hcp2 hN hlt ⊢
  have hm0 : 0 < m := by omega
  have hsa : w.shape? vb = some (72, 2) := by unfold Box at hv; simp [World.shape?, hv, cPl]
  obtain ⟨tB, kB, hsb, hkB⟩ : ∃ tB kB, w.shape? b = some (tB, kB) ∧ kB ≠ 0 := by unfold RowB Box at hb; exact ⟨_, _, by simp only [World.shape?, hb]; rfl, by simp [Pls, cPl]⟩
  have hfa : w.frozen? ⟨vb, 0, none⟩ = false := hv.frozen 0
  have hfe : w.frozen? ⟨vb, 2, none⟩ = false := hv.frozen 2
  have z2 : ∀ w, (Go.sizeOf 72).run Try.prog w = .ok 2 w := by
    intro w; obtain ⟨i, hi, _, hsz, _⟩ := pl_parts; simp [sizeOf, typeInfo, hi, hsz]
  have hov : ∀ off lb cb, (callFunc 60 #[.slice (some ⟨vb, 0, none⟩) 1 1, .slice (some ⟨b, off, none⟩) lb cb]).run Try.prog w = .ok (.value (.bool false)) w := fun off lb cb => by
    rw [run_callFunc_extern Try.func60 (by kernel_rfl) (by kernel_rfl) (by kernel_rfl) (e := Extern.SlicesOverlaps.overlaps #[84, 84] #[4]) (by kernel_rfl),
      Lib.run_overlaps_apart w 84 4 72 Try.underlying84 2 z2 ⟨vb, 0, none⟩ ⟨b, off, none⟩ 1 1 lb cb hne 72 tB 2 kB hsa hsb hkB hfa hfe]
    rfl
  have HN := Lib.hid hN
  clear hN hW1 hv1 hF1 hb hb0 hb1 hlA hlAx hnl hM hMl hcs hk hm hoo ho hpost hbase hsa hsb hkB hfa hfe z2 hv
  have hm63 : k + m < 9223372036854775807 := by unfold maxLen at hcap; omega
  have d0 : ¬ ((k : Int) = ((k + m : Nat) : Int)) := by omega
  have d1 : ¬ ((k : Int) = (k : Int) + (m : Int)) := by omega
  have d2 : ¬ (cap = k) := by omega
  have d3 : ¬ (cap = k + 1) := by omega
  have d4 : k ≤ k + m := by omega
  have d5 : k + m ≤ cap := by omega
  have hw1 : IntKind.i64.wrap ((k : Int) + 1) = (k : Int) + 1 := by rw [IntKind.wrap_i64]; omega
  have hw2 : IntKind.i64.wrap (((k : Int) + (m : Int)) + 1) = ((k : Int) + (m : Int)) + 1 := by rw [IntKind.wrap_i64]; omega
  go_enter Try.func53, Try.ntmps53
  go_wp2_with (simp only [hov])
  have hq : k + m + 1 - k = m + 1 := by omega
  have hb5 : (k : Int) ≤ (k : Int) + (m : Int) + 1 := by omega
  have mixed : Try.prog.follows .mixedOrders = true := by kernel_rfl
  have hb1 : (0 : Int) ≤ (k : Int) + 1 := by omega
  have hb3 : (k : Int) ≤ (k : Int) + (m : Int) := by omega
  go_region_law_o (refine step_copyR rfl _ _ 84 rfl _ _ (by simp [Act.eval, Act.put]) (by simp [Act.eval, Act.put]) (hcp1 _ _ _) ?_)
  go_wp2_with (at_builtin; refine wpList_copyR rfl _ _ 84 rfl _ _ rfl rfl (hcp2 _ _) ?_)
  go_ret
  exact ⟨_, rfl, HN.out.1, HN.out.2⟩
set_option maxRecDepth 100000 in
set_option maxHeartbeats 4000000 in
/-- ahead of others, no room -/
theorem insert_mid_grow (w : World) (base b vb : Nat) (pre post : List Value) (A B : List Pl) (x p : Pl) (hbase : base ≤ w.heap.size) (hb : RowB w b (pre ++ Pls (A ++ x :: B) ++ post)) (hsmall : (A ++ x :: B).length ≤ 100000)
    (hv : Box w vb (cPl p).toArray 72) :
    Calls Try.prog 53 #[.slice (some ⟨b, pre.length, none⟩) (A ++ x :: B).length (A ++ x :: B).length, .int .i64 (A.length : Nat), .slice (some ⟨vb, 0, none⟩) 1 1] w fun e w' => Ins w base (.slice (some ⟨b, pre.length, none⟩) (A ++ x :: B).length (A ++ x :: B).length) (A ++ p :: x :: B) w' e := by
  obtain ⟨M, hM⟩ : ∃ M, M = (x :: B : List Pl) := ⟨_, rfl⟩
  have hMl : 0 < M.length := by rw [hM]; simp
  rw [← hM] at hb hsmall ⊢
  have hnl : (A ++ M).length = A.length + M.length := List.length_append
  rw [hnl] at hsmall ⊢
  obtain ⟨i, hi, hz, hs, hby⟩ := pl_parts
  have hb0 : RowB w b ((pre ++ Pls A) ++ Pls M ++ post) := by simpa [Pls_app, List.append_assoc] using hb
  have hb2 : RowB w b (pre ++ Pls A ++ (Pls M ++ post)) := by simpa [Pls_app, List.append_assoc] using hb
  have hlA : (pre ++ Pls A).length = pre.length + A.length * 2 := by rw [List.length_append, Pls_len]
  have hblt : b < w.heap.size := Box.lt hb
  have hvlt : vb < w.heap.size := hv.lt
  have hold : (Builtin.firstCells i.size A.length (.slice (some ⟨b, pre.length, none⟩) A.length (A.length + M.length))).run Try.prog w.drew = .ok (Pls A).toArray w.drew :=
    run_firstCells_some w.drew i.size A.length ⟨b, pre.length, none⟩ A.length _ (Pls A) (by rw [hs]; exact Pls_len A) (fun j v h => RowB.cells (Box.drew hb2) j v h)
  have hrun : ∀ ty, (Builtin.append_ #[84, 3] ty #[.slice (some ⟨b, pre.length, none⟩) A.length (A.length + M.length), .int .i64 ((M.length + 1 : Nat) : Int)]).run Try.prog w = _ := fun ty =>
    Lib.run_append_grow_zeros (P := Try.prog) w 84 3 ty 72 i _ .i64 .i64 Try.underlying84 Try.underlying3 hi hz (some ⟨b, pre.length, none⟩) A.length (A.length + M.length) (Pls A) hold (M.length + 1) (by omega) (by omega) (by omega) (by omega) (by rw [hby]; omega)
      (by rw [hby]; exact growslice_fits (by omega) (by omega))
  have hge := grownCap_ge w (A.length + (M.length + 1)) (A.length + M.length) 72
  have hcm := grownCap_le_maxLen w (A.length + (M.length + 1)) (A.length + M.length) 72 (by unfold maxLen; omega)
  generalize grownCap w (A.length + (M.length + 1)) (A.length + M.length) 72 = cap at hrun hge hcm
  -- zeros: one place, then as many as M has
  obtain ⟨Z1, Z2, hZ, hZ1, hZ2⟩ : ∃ Z1 Z2, (Builtin.zeroCells (Value.agg #[.int .u32 0, .int .u8 0]).cells (M.length + 1)).toList = Z1 ++ Z2 ∧ Z1.length = 2 ∧ Z2.length = M.length * 2 := by
    have h := zeros_len (M.length + 1)
    exact ⟨_, _, (List.take_append_drop 2 _).symm, by rw [List.length_take, h]; omega, by rw [List.length_drop, h]; omega⟩
  obtain ⟨Z3, hZ3, hZ3l⟩ : ∃ Z3, (Builtin.zeroCells (Value.agg #[.int .u32 0, .int .u8 0]).cells (cap - (A.length + (M.length + 1)))).toList = Z3 ∧ Z3.length = (cap - (A.length + (M.length + 1))) * 2 := ⟨_, rfl, zeros_len _⟩
  have he : ((Pls A).toArray ++ Builtin.zeroCells (Value.agg #[.int .u32 0, .int .u8 0]).cells (M.length + 1) ++ Builtin.zeroCells (Value.agg #[.int .u32 0, .int .u8 0]).cells (cap - (A.length + (M.length + 1)))) = (Pls A ++ Z1 ++ (Z2 ++ Z3)).toArray := by
    apply Array.ext'; simp [hZ, hZ3, List.append_assoc]
  rw [he] at hrun
  have hR0 : RowB (w.drew.alloc (.cells (Pls A ++ Z1 ++ (Z2 ++ Z3)).toArray 72)) w.heap.size (Pls A ++ Z1 ++ (Z2 ++ Z3)) := Box.new w.drew _ _
  have hv0 : Box (w.drew.alloc (.cells (Pls A ++ Z1 ++ (Z2 ++ Z3)).toArray 72)) vb (cPl p).toArray 72 := Box.alloc (Box.drew hv) _
  have hB0 : RowB (w.drew.alloc (.cells (Pls A ++ Z1 ++ (Z2 ++ Z3)).toArray 72)) b ((pre ++ Pls A) ++ Pls M ++ post) := Box.alloc (Box.drew hb0) _
  have hF0 : Fr (fun _ => False) w (w.drew.alloc (.cells (Pls A ++ Z1 ++ (Z2 ++ Z3)).toArray 72)) := (Fr.refl _ w).drew.alloc _
  generalize w.drew.alloc (.cells (Pls A ++ Z1 ++ (Z2 ++ Z3)).toArray 72) = W0 at hrun hR0 hv0 hB0 hF0
  obtain ⟨g, hg⟩ : ∃ g, w.heap.size = g := ⟨_, rfl⟩
  have hgF : ∀ {X Y : World}, Fr (fun _ => False) w X → Fr (fun y => y = g) X Y → Fr (fun _ => False) w Y := fun h1 h2 => h1.trans' h2 (fun k hk e => by omega)
  have hlP : (Pls A).length = A.length * 2 := Pls_len A
  rw [hg] at hR0 hrun
  have hcp1 : ∀ dl, 0 < dl → ∀ ty dc, (Builtin.copy_ #[84, 84] ty #[.slice (some ⟨g, A.length * 2, none⟩) dl dc, .slice (some ⟨vb, 0, none⟩) 1 1]).run Try.prog W0 = .ok (goInt 1) (W0.setRow g (Pls A ++ cPl p ++ (Z2 ++ Z3)).toArray) := fun dl hd ty dc => by
    rw [← hlP]
    exact run_copyK W0 ty g (Pls A) Z1 (Z2 ++ Z3) (cPl p) ⟨vb, 0, none⟩ dl dc 1 1 hR0 hZ1 1 (by show min 1 dl = 1; omega) rfl (sub_one W0 vb p hv0) (cPl_one p)
  have hR1 : RowB (W0.setRow g (Pls A ++ cPl p ++ (Z2 ++ Z3)).toArray) g ((Pls A ++ cPl p) ++ Z2 ++ Z3) := by
    have := RowB.set_ hR0 (ds := Pls A ++ cPl p ++ (Z2 ++ Z3))
    simpa [List.append_assoc] using this
  have hB1 : RowB (W0.setRow g (Pls A ++ cPl p ++ (Z2 ++ Z3)).toArray) b ((pre ++ Pls A) ++ Pls M ++ post) := Box.fr hB0 (fr_setRow W0 g _) (fun e => by omega)
  have hF1 := hgF hF0 (fr_setRow W0 g (Pls A ++ cPl p ++ (Z2 ++ Z3)).toArray)
  generalize W0.setRow g (Pls A ++ cPl p ++ (Z2 ++ Z3)).toArray = W1 at hcp1 hR1 hB1 hF1
  have hlP1 : (Pls A ++ cPl p).length = (A.length + 1) * 2 := by rw [List.length_append, hlP]; simp [cPl]; omega
  have hcp2 : ∀ ty dc sc, (Builtin.copy_ #[84, 84] ty #[.slice (some ⟨g, (A.length + 1) * 2, none⟩) M.length dc, .slice (some ⟨b, pre.length + A.length * 2, none⟩) M.length sc]).run Try.prog W1.drew = .ok (goInt M.length) (W1.drew.setRow g (Pls A ++ cPl p ++ Pls M ++ Z3).toArray) := fun ty dc sc => by
    rw [← hlP1, ← hlA]
    exact run_copyK W1.drew ty g (Pls A ++ cPl p) Z2 Z3 (Pls M) ⟨b, (pre ++ Pls A).length, none⟩ M.length dc M.length sc hR1.drew (by rw [hZ2, Pls_len]) M.length (by show min M.length M.length = M.length; omega) (Pls_len _) (fun j v h => RowB.cells (Box.drew hB1) j v h) (Pls_one _)
  have hN : LnAt (W1.drew.setRow g (Pls A ++ cPl p ++ Pls M ++ Z3).toArray) base (.slice (some ⟨g, 0, none⟩) (A.length + (M.length + 1)) cap) (A ++ p :: M) ∧ RowTo w (W1.drew.setRow g (Pls A ++ cPl p ++ Pls M ++ Z3).toArray) (.slice (some ⟨b, pre.length, none⟩) (A.length + M.length) (A.length + M.length)) (.slice (some ⟨g, 0, none⟩) (A.length + (M.length + 1)) cap) := by
    have h := RowB.set_ (Box.drew hR1) (ds := Pls A ++ cPl p ++ Pls M ++ Z3)
    rw [show A.length + (M.length + 1) = (A ++ p :: M).length by simp]
    refine ⟨LnAt.made h (by omega) (by simp [Pls_app, Pls_cons]) (by simp; omega) hcm (by rw [hZ3l]; simp; omega), ⟨(hgF hF1.drew (fr_setRow _ g _)).mono (fun _ _ h => h.elim), .inr ⟨g, rfl, by omega⟩⟩⟩
  generalize W1.drew.setRow g (Pls A ++ cPl p ++ Pls M ++ Z3).toArray = W2 at hcp2 hN
  obtain ⟨k, hk⟩ : ∃ k, A.length = k := ⟨_, rfl⟩
  obtain ⟨m, hm⟩ : ∃ k, M.length = k := ⟨_, rfl⟩
  obtain ⟨o, hoo⟩ : ∃ n, pre.length = n := ⟨_, rfl⟩
  simp only [hk, hm, hoo] at hrun hcp1 hcp2 hN hMl hsmall hge ⊢
  have HN := Lib.hid hN
  have HC1 := Lib.hid (hcp1 (m + 1) (by omega))
  have HC2 := Lib.hid hcp2
  have HR := Lib.hid hrun
  clear hN hrun hcp1 hcp2 hR0 hv0 hB0 hF0 hR1 hB1 hF1 hgF hlP hlP1 hlA hb hb0 hb2 hold hi hz hs hby hk hm hoo hM hnl hZ hZ1 hZ2 hZ3 hZ3l he hblt hvlt hbase hv hg
  have hm63 : k + m < 9223372036854775807 := by omega
  have d0 : ¬ ((k : Int) = ((k + m : Nat) : Int)) := by omega
  have d1 : ¬ ((k : Int) = (k : Int) + (m : Int)) := by omega
  have d2 : ¬ (k + m = k) := by omega
  have d4 : k ≤ k + m := by omega
  have d6 : ¬ (cap = k) := by omega
  have d7 : ¬ (cap = k + 1) := by omega
  have hw1 : IntKind.i64.wrap ((k : Int) + 1) = (k : Int) + 1 := by rw [IntKind.wrap_i64]; omega
  have hw2 : IntKind.i64.wrap (((k : Int) + (m : Int)) + 1) = ((k : Int) + (m : Int)) + 1 := by rw [IntKind.wrap_i64]; omega
  have hw3 : IntKind.i64.wrap (((k : Int) + (m : Int)) + 1 - (k : Int)) = (m : Int) + 1 := by rw [IntKind.wrap_i64]; omega
  have mixed : Try.prog.follows .mixedOrders = true := by kernel_rfl
  have hb1 : (0 : Int) ≤ (k : Int) + 1 := by omega
  have hb3 : (k : Int) ≤ (k : Int) + (m : Int) := by omega
  have hq : k + m - k = m := by omega
  have hq2 : k + (m + 1) - (k + 1) = m := by omega
  have hm0 : ¬ m = 0 := by omega
  have hb6 : (1 : Int) ≤ (m : Int) + 1 := by omega
  have hb5 : (k : Int) ≤ (k : Int) + (m : Int) + 1 := by omega
  go_enter Try.func53, Try.ntmps53
  go_wp2_with (first
    | (at_builtin; refine Lib.wpList_append_run _ rfl _ _ _ _ rfl _ _ rfl rfl _ _ (HR.out _) ?_)
    | (refine wpList_copyR rfl _ _ 84 rfl _ _ rfl rfl (HC1.out _ _) ?_))
  go_region_law_o (refine step_copyR rfl _ _ 84 rfl (.slice (some ⟨g, (k + 1) * 2, none⟩) m (cap - (k + 1))) (.slice (some ⟨b, o + k * 2, none⟩) m m) (by simp [Act.eval, Act.put, hm0, hq, hq2]) (by simp [Act.eval, Act.put, hm0, hq, hq2]) (HC2.out _ _ _) ?_)
  go_wp2
  go_ret
  exact ⟨_, rfl, HN.out.1, HN.out.2⟩
/-- Insert of one place, anywhere into a line -/
theorem insert_any (w : World) (base vb : Nat) (lv : Value) (l : List Pl) (p : Pl) (k : Nat) (hk : k ≤ l.length) (hbase : base ≤ w.heap.size) (h : LnAt w base lv l) (hsmall : l.length ≤ 100000) (hv : Box w vb (cPl p).toArray 72) (hne : lv.ownBlock ≠ some vb) :
    Calls Try.prog 53 #[lv, .int .i64 (k : Nat), .slice (some ⟨vb, 0, none⟩) 1 1] w fun e w' => Ins w base lv (l.take k ++ p :: l.drop k) w' e := by
  rcases h with ⟨rfl, rfl⟩ | ⟨b, pre, post, cap, rfl, h2, h3, h4, h5, h6⟩
  · have : k = 0 := by simpa using hk
    subst this
    exact insert_nil w base vb p hbase hv
  · have hne' : vb ≠ b := fun e => hne (by rw [e]; rfl)
    by_cases hkl : k = l.length
    · subst hkl
      rw [List.take_length, List.drop_length]
      by_cases hc : l.length < cap
      · exact insert_end_room w base b cap vb pre post l p h2 h3 h5 h6 hc hv
      · have : cap = l.length := by omega
        subst this
        exact insert_end_grow w base b vb pre post l p hbase h3 hsmall hv
    · obtain ⟨A, x, B, rfl, hA, e1, e2⟩ := cut_at (l := l) (k := k) (by omega)
      subst hA
      rw [e1, e2]
      by_cases hc : (A ++ x :: B).length < cap
      · exact insert_mid_room w base b cap vb pre post A B x p h2 h3 h5 h6 hc hv hne'
      · have : cap = (A ++ x :: B).length := by omega
        subst this
        exact insert_mid_grow w base b vb pre post A B x p hbase h3 hsmall hv
end Go.Proofs.Ytpndcpmfcajmdaa.Lock
