import Derived.Test.YthbbnebanmpcjaaPgK
/- A page is read; lists of ints compared. -/
namespace Go.Proofs.Ythbbnebanmpcjaa.Pg
open Go.ChangeShapes Go.WideShapes Go.ChangeAt Go.RowKit Go.IntWalk Go.Proofs.Mem Go.Proofs.Each
set_option linter.unusedVariables false
set_option linter.unusedSimpArgs false
def QuietB (q : Bool) (w : World) (e : Ending) (w' : World) : Prop := e = .returned (.bool q) ∧ ∃ d, w' = w.drewN d
theorem take_eq {xs ys : List Int} {k : Nat} (h : xs.take k = ys.take k) (hx : k < xs.length) (hy : k < ys.length) (e : xs.getD k 0 = ys.getD k 0) : xs.take (k + 1) = ys.take (k + 1) := by
  rw [List.take_add_one, List.take_add_one, h, List.getElem?_eq_getElem hx, List.getElem?_eq_getElem hy]
  rw [List.getD_eq_getElem?_getD, List.getD_eq_getElem?_getD, List.getElem?_eq_getElem hx, List.getElem?_eq_getElem hy] at e
  simp only [Option.getD_some] at e
  rw [e]
set_option maxHeartbeats 4000000 in
theorem ints_same (a b : Value) (xs ys : List Int) (w : World) (B B' : Nat) (ha : IR w B .i64 a xs) (hb : IR w B' .i64 b ys) :
    Calls Try.prog 22 #[a, b] w (QuietB (decide (xs = ys)) w) := by
  obtain ⟨q, hq⟩ : ∃ q, decide (xs = ys) = q := ⟨_, rfl⟩
  rw [hq]
  have HQ := Lib.hid hq
  clear hq
  obtain ⟨A1, c1, rfl, hl1, hm1⟩ := ha.form
  obtain ⟨A2, c2, rfl, hl2, hm2⟩ := hb.form
  unfold maxLen at hm1 hm2
  by_cases hl : xs.length = ys.length
  · have HA := Lib.hid ha
    have HB := Lib.hid hb
    have HL := Lib.hid hl
    have d1 : ((xs.length : Int) == (ys.length : Int)) = true := by simp [hl]
    have d2 : ((xs.length : Int) != (ys.length : Int)) = false := by simp [hl]
    clear ha hb hl
    go_enter Try.func22, Try.ntmps22
    go_wp2
    go_loopw [5] (fun i wr => ∃ k : Nat, i = .int .i64 k ∧ k ≤ xs.length ∧ Hid (xs.take k = ys.take k) ∧ ∃ d, Hid (wr = w.drewN d)) (fun i _ => xs.length - (intOf i).toNat)
    case atStart => exact ⟨0, rfl, by omega, Lib.hid rfl, 0, Lib.hid rfl⟩
    case round =>
      obtain ⟨k, rfl, hk, HK, d, HW⟩ := hrel
      obtain rfl := HW.out
      by_cases hlt : k < xs.length
      · obtain ⟨b1, o1, rfl, _, g1⟩ := HA.out.index k hlt
        obtain ⟨b2, o2, rfl, _, g2⟩ := HB.out.index k (by have := HL.out; omega)
        have hlt2 : k < ys.length := by have := HL.out; omega
        have q1 : decide ((k : Int) < (xs.length : Int)) = true := decide_eq_true (by omega)
        have q1' : decide (k < xs.length) = true := decide_eq_true hlt
        have q2 : decide ((k : Int) < (ys.length : Int)) = true := decide_eq_true (by have := HL.out; omega)
        have q2' : decide (k < ys.length) = true := decide_eq_true (by have := HL.out; omega)
        have t1 : ∀ D : Nat, (w.drewN D).cell? ⟨b1, o1 + k, none⟩ = some (.int .i64 (xs.getD k 0)) := fun D => g1
        have t2 : ∀ D : Nat, (w.drewN D).cell? ⟨b2, o2 + k, none⟩ = some (.int .i64 (ys.getD k 0)) := fun D => g2
        obtain ⟨u1, hu1⟩ : ∃ u, u = xs.getD k 0 := ⟨_, rfl⟩
        obtain ⟨u2, hu2⟩ : ∃ u, u = ys.getD k 0 := ⟨_, rfl⟩
        rw [← hu1] at t1
        rw [← hu2] at t2
        have M1 := Lib.hid hu1
        have M2 := Lib.hid hu2
        clear g1 g2 hu1 hu2
        obtain ⟨qe, hqe⟩ : ∃ q, (u1 != u2) = q := ⟨_, rfl⟩
        have HE := Lib.hid (show qe = true ↔ u1 ≠ u2 by rw [← hqe, bne_iff_ne])
        cases qe
        · have e0 : u1 = u2 := by
            have := HE.out
            rcases Int.decEq u1 u2 with h | h
            · exact absurd (this.2 h) (by decide)
            · exact h
          have HT := Lib.hid (take_eq HK.out hlt hlt2 (by rw [← M1.out, ← M2.out]; exact e0))
          clear e0
          go_wp2
          go_quiet (fail)
          go_wp2
          go_roundw
          case rel => exact ⟨k + 1, by go_num, by omega, HT, _, Lib.hid rfl⟩
          case measure => simp [intOf]; omega
        · have hne : xs ≠ ys := fun e => by
            have := HE.out.1 rfl
            rw [M1.out, M2.out, e] at this
            exact this rfl
          have HN := Lib.hid (decide_eq_false hne)
          clear hne
          go_wp2
          go_quiet (fail)
          go_wp2
          go_ret
          obtain rfl : q = false := HQ.out.symm.trans HN.out
          exact ⟨rfl, d + nq, by rw [World.drewN_drewN]⟩
      · have q1 : decide ((k : Int) < (xs.length : Int)) = false := decide_eq_false (by omega)
        have q1' : decide (k < xs.length) = false := decide_eq_false hlt
        have he : xs = ys := by
          have h := HK.out
          have e := HL.out
          rwa [List.take_of_length_le (by omega), List.take_of_length_le (by omega)] at h
        have HE := Lib.hid (decide_eq_true he)
        clear he
        go_wp2
        go_ret
        obtain rfl : q = true := HQ.out.symm.trans HE.out
        exact ⟨rfl, d, rfl⟩
  · have d2 : ((xs.length : Int) != (ys.length : Int)) = true := by rw [bne_iff_ne]; omega
    have hne : xs ≠ ys := fun e => hl (by rw [e])
    have HN := Lib.hid (decide_eq_false hne)
    clear ha hb hne hl
    go_enter Try.func22, Try.ntmps22
    go_wp2
    go_ret
    obtain rfl : q = false := HQ.out.symm.trans HN.out
    exact ⟨rfl, 0, rfl⟩
/-! a page is built of its image -/
theorem fill_from : ∀ (l : List Value) (k : Nat) (z : Array Value), k + l.length ≤ z.size → (l.zipIdx k).foldl (fun (cs : Array Value) (x : Value × Nat) => cs.setIfInBounds x.2 x.1) z = (z.toList.take k ++ l ++ z.toList.drop (k + l.length)).toArray
  | [], k, z, h => by simp
  | v :: l, k, z, h => by
    simp only [List.length_cons] at h
    rw [List.zipIdx_cons, List.foldl_cons, fill_from l (k + 1) _ (by simp; omega)]
    have hk : k < z.toList.length := by simp; omega
    congr 1
    simp only [Array.toList_setIfInBounds, List.length_cons]
    rw [List.take_succ_eq_append_getElem (by rw [List.length_set]; exact hk), List.getElem_set_self, List.take_set_of_le (Nat.le_refl _), List.drop_set_of_lt (by omega), show k + 1 + l.length = k + (l.length + 1) by omega]
    simp
theorem fill_all (v z : Array Value) (h : v.size = z.size) : v.zipIdx.foldl (fun cs (x : Value × Nat) => cs.setIfInBounds (0 + x.2) x.1) z = v := by
  rw [← Array.foldl_toList, Array.toList_zipIdx]
  have := fill_from v.toList 0 z (by simp; omega)
  simp only [Nat.zero_add] at this ⊢
  rw [this]
  have e : z.toList.drop v.toList.length = [] := List.drop_eq_nil_of_le (by simp; omega)
  rw [e]; simp
theorem built_pg (V : Array Value) : Try.prog.built 64 [(0, .agg V)] = Instr.fill (fun i => #[((0 : Nat), (448 : Nat))][i]?) (pgC z448) [(0, .agg V)] := by kernel_rfl
theorem pg_build (V : Array Value) (hV : V.size = 448) (W : World) : (Instr.build 64 #[(0, .agg V)]).run Try.prog W = .ok (.agg V) W := by
  refine run_build W 64 #[(0, .agg V)] V ?_
  have hz : (pgC z448).size = 448 := pgC_size List.length_replicate
  show Try.prog.built 64 [(0, .agg V)] = some V
  rw [built_pg]
  have hc : (Value.agg V).cells = V := rfl
  have hf := fill_all V (pgC z448) (by omega)
  unfold Instr.fill
  simp only [hc, hV, hz]
  have e0 : (#[((0 : Nat), (448 : Nat))][0]?) = some (0, 448) := rfl
  rw [e0]
  dsimp only
  rw [if_neg (by decide)]
  unfold Instr.fill
  exact congrArg some hf
theorem wpList_build_pg (w : World) {ops : Array Oper} {rest : List Oper} {o : Oper} {ac : Act} {Q : Exit → Act → World → Prop} (hgd : o.guard = none) (x : Operand) (ho : o.op = .build 64 #[(0, x)]) (V : Array Value) (hV : V.size = 448) (hx : ac.eval x = .agg V)
    (h : wpList Try.prog ops Q rest (ac.put o.dst (.agg V)) w) : wpList Try.prog ops Q (o :: rest) ac w := by
  refine wpList_plain hgd fun K hK' => ?_
  unfold Oper.wp execOp
  have e : (#[((0 : Nat), x)].map fun (i, x) => (i, ac.eval x)) = #[(0, .agg V)] := by simp [hx]
  simp only [ho, e, Sem.run_bind, pg_build V hV w, Result.andThen_ok]
  exact hK' _ _ h
/-- what bytes are read as -/
def ReadOut (xs : List Int) (w : World) (e : Ending) (w' : World) : Prop :=
  (∃ b ys, e = .returned (.tuple #[.pointer (some ⟨b, 0, none⟩), .int .u16 0]) ∧ w.heap.size ≤ b ∧ Pw w' b ys ∧ Below w.heap.size w w' ∧ ((xs = z448 ∧ ys = newP 0) ∨ (xs ≠ z448 ∧ Wf xs ∧ ys = xs)))
  ∨ (e = .returned (.tuple #[.pointer none, .int .u16 90]) ∧ Below w.heap.size w w' ∧ xs ≠ z448 ∧ ¬ Wf xs)
theorem ir_range {w : World} {B n c g o : Nat} {xs : List Int} (h : IR w B .u8 (.slice (some ⟨g, o, none⟩) n c) xs) : w.rangeAt g o (pgC xs).toList := by
  intro j v hj
  unfold pgC at hj
  simp only [List.getElem?_map] at hj
  have hl : j < xs.length := by
    rcases Nat.lt_or_ge j xs.length with e | e
    · exact e
    · rw [List.getElem?_eq_none e] at hj; cases hj
  obtain ⟨A, c', e, _, _, _, h5⟩ := h
  injection e with e1 e2 e3
  obtain ⟨b', o', e4, _, hc⟩ := h5 j hl
  rw [← e1] at e4
  injection e4 with e4
  injection e4 with e5 e6
  subst e5 e6
  rw [List.getElem?_eq_getElem hl] at hj
  simp only [Option.map_some, Option.some.injEq] at hj
  rw [hc, ← hj, List.getD_eq_getElem?_getD, List.getElem?_eq_getElem hl]
  rfl
set_option maxRecDepth 100000 in
set_option maxHeartbeats 8000000 in
theorem read_any (w : World) (B : Nat) (v : Value) (xs : List Int) (hr : IR w B .u8 v xs) (hb : Bytes xs) :
    Calls Try.prog 16 #[v] w (ReadOut xs w) := by
  obtain ⟨A, c, rfl, hlc, hcm⟩ := hr.form
  unfold maxLen at hcm
  by_cases hl : xs.length = 448
  case neg =>
    have dl : ((xs.length : Int) != 448) = true := by rw [bne_iff_ne]; omega
    have HO := Lib.hid (show ReadOut xs w (.returned (.tuple #[.pointer none, .int .u16 90])) w from .inr ⟨rfl, Below.refl _ _, fun e => hl (by rw [e]; exact List.length_replicate), fun W => hl W.w0.len⟩)
    clear hr hl hb
    go_enter Try.func16, Try.ntmps16
    go_wp2
    go_ret2
    exact HO.out
  obtain ⟨g, o, rfl, _, _⟩ := hr.index 0 (by omega)
  have HR := Lib.hid (ir_range hr)
  have dl : ((xs.length : Int) != 448) = false := by rw [bne_eq_false_iff_eq]; omega
  have dl2 : ¬ xs.length < 448 := by omega
  have HSX : Hid ((Try.prog.info? 62).map (·.size) = some (pgC xs).size) := Lib.hid (by rw [pgC_size hl]; exact im_info)
  have hq1 := im_eq w xs z448 hl List.length_replicate
  have HBX := Lib.hid hb
  have HXL := Lib.hid hl
  obtain ⟨LX, hLX⟩ : ∃ L, L = xs.length := ⟨_, rfl⟩
  rw [← hLX] at dl dl2 hlc ⊢
  clear hr hb hl hLX
  obtain ⟨q, hq⟩ : ∃ q, q = decide (xs = z448) := ⟨_, rfl⟩
  obtain ⟨PX, hPX⟩ : ∃ P, P = pgC xs := ⟨_, rfl⟩
  obtain ⟨PZ, hPZ⟩ : ∃ P, P = pgC z448 := ⟨_, rfl⟩
  have HXS := Lib.hid (show PX.size = 448 by rw [hPX]; exact pgC_size HXL.out)
  have hzi : ∀ W : World, (zeroValue 62).run Try.prog W = .ok (.agg PZ) W := fun W => by rw [hPZ]; exact zeroIm W
  have heq : ∀ W : World, (binOp .eql 62 (.agg PX) (.agg PZ)).run Try.prog W = .ok (.bool q) W := fun W => by rw [hPX, hPZ, hq]; exact im_eq W xs z448 HXL.out List.length_replicate
  have hgr : ∀ (x y : Operand) (W : World), (eqGuard .eql 62 x y (.agg PX) (.agg PZ)).run Try.prog W = .ok () W := fun x y W => im_grd x y PX PZ W
  have HPX := Lib.hid hPX
  have HQ := Lib.hid hq
  rw [← hPX] at HR HSX
  clear hPX hPZ hq hq1
  have harr : ∀ W : World, (Instr.arrayAt 62 (.slice (some ⟨g, o, none⟩) LX c)).run Try.prog W = .ok (.pointer (some ⟨g, o, none⟩)) W := fun W => by
    simp [Instr.arrayAt, Sem.run_bind, run_underlying Try.underlying62, dl2]
  go_enter Try.func16, Try.ntmps16
  go_wp2_with fail
  refine wp_load_mid 62 _ rfl g o rfl PX.toList _ HR.out Try.underlying62 rfl (by rw [Array.length_toList]; exact HSX.out) ?_
  rw [Array.toArray_toList]
  clear harr
  go_wp2_with (first
    | (refine wpList_build_pg _ rfl _ rfl PX HXS.out rfl ?_)
    | fail)
  obtain ⟨w1, hw1⟩ : ∃ w1, w.alloc (.cells PX 64) = w1 := ⟨_, rfl⟩
  have P1 := Lib.hid (show PgAt w1 w.heap.size xs from ⟨by rw [← hw1, HPX.out]; exact Box.new _ _ _, HXL.out, HBX.out⟩)
  have B1 := Lib.hid (show Below w.heap.size w w1 by rw [← hw1]; exact new_ (Below.refl _ _) _)
  have HX1 := Lib.hid (show Box w1 w.heap.size PX 64 by rw [← hw1]; exact Box.new _ _ _)
  have NE := Lib.hid (new_any w1 0 (by decide))
  have WH := Lib.hid (whole_any w1 w.heap.size xs P1.out)
  rw [hw1]
  obtain ⟨b, hb⟩ : ∃ b, b = w.heap.size := ⟨_, rfl⟩
  have HB := Lib.hid hb
  rw [← hb] at HX1 WH P1 ⊢
  clear hw1 hb
  refine wp_load_row 62 _ rfl b rfl 64 PX (0, 0) _ HX1.out Try.underlying62 rfl HSX.out ?_
  clear hlc hcm dl dl2
  cases q
  case true =>
    go_wp2_with fail
    (with_reducible refine NE.out.mono ?_)
    rintro e w2 ⟨rfl, p2, b2⟩
    have HO := Lib.hid (show ReadOut xs w (.returned (.tuple #[.pointer (some ⟨w1.heap.size, 0, none⟩), .int .u16 0])) w2 from .inl ⟨_, _, rfl, B1.out.size, ⟨p2, (new_wf 0).1⟩, B1.out.trans (b2.mono B1.out.size), .inl ⟨of_decide_eq_true HQ.out.symm, rfl⟩⟩)
    clear p2 b2
    go_wp2
    go_ret2
    exact HO.out
  case false =>
    have HN := Lib.hid (of_decide_eq_false HQ.out.symm)
    go_wp2_with fail
    (with_reducible refine WH.out.mono ?_)
    rintro e w2 ⟨q2, rfl, h2, b2⟩
    have B2 := Lib.hid (B1.out.trans (b2.mono B1.out.size))
    have P2 := Lib.hid (P1.out.later b2)
    have H2 := Lib.hid h2
    clear h2 b2
    cases q2
    · have HO := Lib.hid (show ReadOut xs w (.returned (.tuple #[.pointer none, .int .u16 90])) w2 from .inr ⟨rfl, B2.out, HN.out, fun W => absurd (H2.out.2 W) (by decide)⟩)
      clear H2 HN HQ
      go_wp2
      go_ret2
      exact HO.out
    · have HO := Lib.hid (show ReadOut xs w (.returned (.tuple #[.pointer (some ⟨b, 0, none⟩), .int .u16 0])) w2 from .inl ⟨_, _, rfl, by rw [HB.out]; exact Nat.le_refl _, ⟨P2.out, H2.out.1 rfl⟩, B2.out, .inr ⟨HN.out, H2.out.1 rfl, rfl⟩⟩)
      clear H2 HN HQ
      go_wp2
      go_ret2
      exact HO.out
end Go.Proofs.Ythbbnebanmpcjaa.Pg
