import Derived.Test.YtpndcpmfcajmdaaLk9
/- slices.DeleteFunc on a line. -/
namespace Go.Proofs.Ytpndcpmfcajmdaa.Lock
open Go.ChangeShapes Go.WideShapes Go.ChangeAt Go.RowKit Go.IntWalk Go.Proofs.Mem Law Go.Shelf
set_option linter.unusedVariables false
set_option linter.unusedSimpArgs false
def Zs (n : Nat) : List Value := (Builtin.zeroCells (Value.agg #[.int .u32 0, .int .u8 0]).cells n).toList
theorem Zs_len (n : Nat) : (Zs n).length = n * 2 := zeros_len n
theorem Zs_one (n : Nat) : ∀ v ∈ Zs n, v.oneCell' = true := by
  intro v hv
  unfold Zs Builtin.zeroCells at hv
  simp [Value.cells] at hv
  obtain ⟨i, _, rfl⟩ := hv
  rcases Nat.mod_two_eq_zero_or_one i with h | h <;> rw [h] <;> rfl
theorem run_clearK (w : World) (ty : TypeId) (g : Nat) (pre mid post : List Value) (n c : Nat) (hn : 0 < n) (hb : RowB w g (pre ++ mid ++ post)) (hm : mid.length = n * 2) :
    (Builtin.clear_ #[84] ty #[.slice (some ⟨g, pre.length, none⟩) n c]).run Try.prog w = .ok (.tuple #[]) (w.setRow g (pre ++ Zs n ++ post).toArray) := by
  have hst := run_storeCells_at Try.prog g pre.length 72 (Zs n) 0 _ w hb (by simp [Zs_len]; omega) (Zs_one n)
  have e := take_drop3 pre mid post (Zs n) (by rw [hm, Zs_len])
  simp only [Nat.add_zero] at hst
  rw [e] at hst
  obtain ⟨i, hi, hz, _, _⟩ := pl_parts
  obtain ⟨m, rfl⟩ : ∃ m, n = m + 1 := ⟨n - 1, by omega⟩
  have hz2 : (zeroValue 72).run Try.prog w = .ok (Value.agg #[.int .u32 0, .int .u8 0]) w := by simp [zeroValue, typeInfo, hi, hz]
  unfold Zs at hst ⊢
  simp only [Builtin.clear_, run_underlying Try.underlying84]
  simp [run_underlying Try.underlying84, hz2]
  rw [hst]
  simp only [Result.andThen_ok, List.append_assoc]
/-- two cells are written: a place is another one -/
theorem set_pl {R : List Pl} {i : Nat} (hi : i < R.length) (pre post : List Value) (a b : Int) :
    ((pre ++ Pls R ++ post).toArray.setIfInBounds (pre.length + i * 2) (.int .u32 a)).setIfInBounds (pre.length + i * 2 + 1) (.int .u8 b) = (pre ++ Pls (R.set i ⟨a, b⟩) ++ post).toArray := by
  obtain ⟨A, x, B, rfl, rfl, _, _⟩ := cut_at hi
  have e1 : (A ++ x :: B).set A.length ⟨a, b⟩ = A ++ ⟨a, b⟩ :: B := by simp
  rw [e1]
  apply Array.ext'
  have hl : (pre ++ Pls A).length = pre.length + A.length * 2 := by rw [List.length_append, Pls_len]
  simp only [Array.toList_setIfInBounds, Pls_app, Pls_cons, cPl, ← hl]
  rw [show pre ++ (Pls A ++ ([Value.int .u32 x.t, Value.int .u8 x.m] ++ Pls B)) ++ post = (pre ++ Pls A) ++ (Value.int .u32 x.t :: Value.int .u8 x.m :: (Pls B ++ post)) by simp]
  rw [List.set_append_right _ _ (Nat.le_refl _), Nat.sub_self, List.set_cons_zero, List.set_append_right _ _ (by omega), Nat.add_sub_cancel_left]
  simp
/-- what is asked of a predicate while blocks of S are written -/
def PredF (g : Nat) (lb : Array Value) (p : Pl → Bool) (w : World) (S : Nat → Prop) (l : List Pl) : Prop :=
  ∀ (W : World) (x : Pl), x ∈ l → Fr S w W → Calls Try.prog g (#[.agg #[.int .u32 x.t, .int .u8 x.m]] ++ lb) W fun e w' => e = .returned (.bool (p x)) ∧ Below W.heap.size W w'
theorem PredF.pred {g : Nat} {lb : Array Value} {p : Pl → Bool} {w : World} {S : Nat → Prop} {l : List Pl} (h : PredF g lb p w S l) : Pred g lb p w l :=
  fun W x hx hb => (h W x hx (Fr.of_below hb)).mono fun _ _ ⟨h1, h2⟩ => ⟨h1, hb.trans (h2.mono hb.size)⟩
/-- the row while it is gone through: of the first j those that stay stand first -/
structure Del (p : Pl → Bool) (l R : List Pl) (i j : Nat) : Prop where
  len : R.length = l.length
  front : R.take i = (l.take j).filter fun x => !p x
  back : R.drop j = l.drop j
  cnt : ((l.take j).filter fun x => !p x).length = i
  lt : i < j
theorem Del.start {p : Pl → Bool} {l : List Pl} {k : Nat} {x : Pl} (hx : l[k]? = some x) (hp : p x = true) (ha : ∀ y ∈ l.take k, p y = false) : Del p l l k (k + 1) := by
  have hk : k < l.length := (List.getElem?_eq_some_iff.1 hx).1
  have h1 : (l.take k).filter (fun x => !p x) = l.take k := List.filter_eq_self.2 (fun y hy => by simp [ha y hy])
  have h2 : (l.take (k + 1)).filter (fun x => !p x) = l.take k := by rw [List.take_add_one, hx, List.filter_append, h1]; simp [hp]
  exact ⟨rfl, h2.symm, rfl, by rw [h2]; simp; omega, Nat.lt_succ_self _⟩
theorem Del.skip {p : Pl → Bool} {l R : List Pl} {i j : Nat} {x : Pl} (h : Del p l R i j) (hx : l[j]? = some x) (hp : p x = true) : Del p l R i (j + 1) := by
  have h2 : (l.take (j + 1)).filter (fun x => !p x) = (l.take j).filter fun x => !p x := by rw [List.take_add_one, hx, List.filter_append]; simp [hp]
  refine ⟨h.len, by rw [h2]; exact h.front, ?_, by rw [h2]; exact h.cnt, by have := h.lt; omega⟩
  have := congrArg (List.drop 1) h.back
  simpa [List.drop_drop] using this
theorem Del.keep {p : Pl → Bool} {l R : List Pl} {i j : Nat} {x : Pl} (h : Del p l R i j) (hx : l[j]? = some x) (hp : p x = false) : Del p l (R.set i x) (i + 1) (j + 1) := by
  have hj : j < l.length := (List.getElem?_eq_some_iff.1 hx).1
  have hl := h.lt
  have hR := h.len
  have h2 : (l.take (j + 1)).filter (fun x => !p x) = (l.take j).filter (fun x => !p x) ++ [x] := by rw [List.take_add_one, hx, List.filter_append]; simp [hp]
  refine ⟨by simp [hR], ?_, ?_, by rw [h2, List.length_append, h.cnt]; rfl, by omega⟩
  · rw [h2, ← h.front, List.take_add_one, List.getElem?_set_self (by omega)]
    simp [List.take_set_of_le (Nat.le_refl i)]
  · have := congrArg (List.drop 1) h.back
    simp [List.drop_drop] at this
    rw [List.drop_set_of_lt (by omega)]
    exact this
theorem Del.at_ {p : Pl → Bool} {l R : List Pl} {i j : Nat} (h : Del p l R i j) : R[j]? = l[j]? := by
  have := congrArg (fun q : List Pl => q[0]?) h.back
  simpa using this
def DelOut (w w' : World) (base : Nat) (lv : Value) (l' : List Pl) (e : Ending) : Prop := ∃ lv', e = .returned lv' ∧ LnAt w' base lv' l' ∧ Fr (fun x => lv.ownBlock = some x) w w' ∧ lv'.ownBlock = lv.ownBlock
set_option maxRecDepth 100000 in
set_option maxHeartbeats 8000000 in
theorem delete_any (w : World) (base : Nat) (lv : Value) (l : List Pl) (g : Nat) (lb : Array Value) (p : Pl → Bool) (eg : ∀ args w, (callFunc g args).run Try.prog w = .ok (.enter g args) w) (hl : LnAt w base lv l) (hp : PredF g lb p w (fun x => lv.ownBlock = some x) l) :
    Calls Try.prog 36 #[lv, .func (.func g) #[] lb] w fun e w' => DelOut w w' base lv (l.filter fun x => !p x) e := by
  have CI := Lib.hid (index_any w lv l g lb p eg hl.ss hp.pred)
  have HL := Lib.hid hl
  have HP := Lib.hid hp
  obtain ⟨A, c, hlv, hc1, hc2⟩ := hl.form
  rcases hl with ⟨rfl, rfl⟩ | ⟨b, pre, post, cap, rfl, h2, h3, h4, h5, h6⟩
  · clear hlv hc1 hc2 HP hp
    go_enter Try.func36, Try.ntmps36
    go_wp2_with fail
    (with_reducible refine CI.out.mono ?_)
    rintro er w1 ⟨⟨r, rfl, hr⟩, hb⟩
    rcases hr with ⟨rfl, _⟩ | ⟨k, x, rfl, hx, _, _⟩
    · have HB := Lib.hid hb
      clear hb
      go_wp2
      go_ret
      exact ⟨_, rfl, LnAt.nil _ _, Fr.of_below HB.out, rfl⟩
    · simp at hx
  · clear hlv hc1 hc2 hp A c
    obtain ⟨N, hN⟩ : ∃ N, l.length = N := ⟨_, rfl⟩
    obtain ⟨o, ho⟩ : ∃ o, pre.length = o := ⟨_, rfl⟩
    have HN := Lib.hid hN
    have HO := Lib.hid ho
    have H3 := Lib.hid h3
    have H6 := Lib.hid h6
    have H2 := Lib.hid h2
    have hN63 : (N : Int) ≤ 9223372036854775807 := by unfold maxLen at h5; omega
    have hNc : N ≤ cap := by omega
    have hcap : (cap : Int) ≤ 9223372036854775807 := by unfold maxLen at h5; omega
    have H5 := Lib.hid h5
    rw [hN, ho] at CI HP HL ⊢
    clear hN ho h2 h3 h4 h5 h6
    go_enter Try.func36, Try.ntmps36
    go_wp2_with fail
    (with_reducible refine CI.out.mono ?_)
    rintro er w1 ⟨⟨r, rfl, hr⟩, hb⟩
    have HB := Lib.hid hb
    clear hb
    rcases hr with ⟨rfl, ha⟩ | ⟨k, x, rfl, hx, hpx, ha⟩
    · have HA := Lib.hid ha
      clear ha
      go_wp2
      go_ret
      refine ⟨_, rfl, ?_, Fr.of_below HB.out, rfl⟩
      rw [List.filter_eq_self.2 (fun y hy => by simp [HA.out y hy])]
      exact HL.out.later HB.out
    · have hk : k < N := by have := (List.getElem?_eq_some_iff.1 hx).1; have := HN.out; omega
      have HD := Lib.hid (Del.start hx hpx ha)
      have HR1 := Lib.hid (H3.out.later HB.out)
      have HF1 := Lib.hid (Fr.of_below (S := fun x => x = b) HB.out)
      have dk : ((k : Int) == -1) = false := by rw [beq_eq_false_iff_ne]; omega
      have dk' : ¬ ((k : Int) = -1) := by omega
      have hw1 : IntKind.i64.wrap ((k : Int) + 1) = ((k + 1 : Nat) : Int) := by rw [IntKind.wrap_i64]; omega
      clear hx hpx ha HB
      go_wp2_with fail
      go_loopw [5, 6, 7] (fun s5 s6 _ wr => ∃ (i j : Nat) (R : List Pl), j ≤ N ∧ i < j ∧ s5 = .int .i64 i ∧ s6 = .int .i64 j ∧ Hid (Del p l R i j) ∧ Hid (RowB wr b (pre ++ Pls R ++ post)) ∧ Hid (Fr (fun x => x = b) w wr)) (fun _ s6 _ _ => N - (intOf s6).toNat)
      case atStart => exact ⟨k, k + 1, l, by omega, by omega, rfl, rfl, HD, HR1, HF1⟩
      case round =>
        obtain ⟨i, j, R, hj, hij, rfl, rfl, HD2, HR2, HF2⟩ := hrel
        obtain ⟨w2, rfl⟩ : ∃ w2, w2 = wr := ⟨wr, rfl⟩
        by_cases hjl : j < N
        · have d1 : decide ((j : Int) < (N : Int)) = true := by simp; omega
          have d1' : decide (j < N) = true := by simp; omega
          obtain ⟨x, hx⟩ : ∃ x, l[j]? = some x := ⟨_, List.getElem?_eq_getElem (by have := HN.out; omega)⟩
          have hRx : R[j]? = some x := by rw [HD2.out.at_]; exact hx
          have hc : ∀ q u, (cPl x)[q]? = some u → w2.cell? ⟨b, o + j * 2 + q, none⟩ = some u := fun q u hu => by
            have hq : q < 2 := by rw [← cPl_len x]; exact (List.getElem?_eq_some_iff.1 hu).1
            have := RowB.cells HR2.out (j * 2 + q) u (by unfold Pls; rw [flat_at cPl_len R j x q hRx hq]; exact hu)
            rw [Go.WideShapes.add_plain, HO.out] at this
            rw [Nat.add_assoc]; exact this
          have k1 : w2.cell? ⟨b, o + j * 2, none⟩ = some (.int .u32 x.t) := hc 0 _ rfl
          have k2 : w2.cell? ⟨b, o + j * 2 + 1, none⟩ = some (.int .u8 x.m) := hc 1 _ rfl
          have HX := Lib.hid hx
          have HXM := Lib.hid (List.mem_of_getElem? hx)
          clear hc hRx hx
          obtain ⟨a, md⟩ := x
          go_upto_region 8 with fail
          have hb3 := new_ (Below.refl w2.heap.size w2) (.cells #[.int .u32 a, .int .u8 md] 72)
          have BX := Lib.hid (Box.new w2 #[.int .u32 a, .int .u8 md] 72)
          have HF3 := Lib.hid (HF2.out.below hb3)
          have HR3 := Lib.hid (HR2.out.later hb3)
          have hbl := HR2.out.lt
          obtain ⟨x7, hx7⟩ : ∃ x7, w2.heap.size = x7 := ⟨_, rfl⟩
          rw [hx7] at BX hbl
          obtain ⟨w3, hw3⟩ : ∃ w3, w2.alloc (.cells #[.int .u32 a, .int .u8 md] 72) = w3 := ⟨_, rfl⟩
          rw [hw3] at BX HF3 HR3
          rw [hx7, hw3]
          have CP := Lib.hid (HP.out w3 ⟨a, md⟩ HXM.out (HF3.out.mono fun y _ h => by rw [h]; rfl))
          have HXB := Lib.hid (show b ≠ x7 by omega)
          have hiN : i < N := by omega
          clear hb3 k1 k2 HF2 HR2 hx7 hw3 hbl
          obtain ⟨q, hq⟩ : ∃ q, p ⟨a, md⟩ = q := ⟨_, rfl⟩
          rw [hq] at CP
          have HQ := Lib.hid hq
          have l1 : w3.cell? ⟨x7, 0, none⟩ = some (.int .u32 a) := by rw [BX.out.cell 0]; rfl
          have l2 : w3.cell? ⟨x7, 1, none⟩ = some (.int .u8 md) := by rw [BX.out.cell 1]; rfl
          clear hq
          go_wp2_with fail
          (with_reducible refine CP.out.mono ?_)
          rintro er w4 ⟨rfl, hb4⟩
          have HF4 := Lib.hid (HF3.out.below hb4)
          have HR4 := Lib.hid (HR3.out.later hb4)
          have BX4 := Lib.hid (BX.out.later hb4)
          have k1 : w4.cell? ⟨x7, 0, none⟩ = some (.int .u32 a) := by rw [BX4.out.cell 0]; rfl
          have k2 : w4.cell? ⟨x7, 1, none⟩ = some (.int .u8 md) := by rw [BX4.out.cell 1]; rfl
          clear hb4 HF3 HR3 BX l1 l2
          cases q with
          | true =>
            go_wp2
            go_roundw
            case rel => exact ⟨i, j + 1, R, by omega, by omega, rfl, by go_num, Lib.hid (HD2.out.skip HX.out HQ.out), HR4, HF4⟩
            case measure => simp [intOf]; omega
          | false =>
            obtain ⟨y, hy⟩ : ∃ y, R[i]? = some y := ⟨_, List.getElem?_eq_getElem (by rw [HD2.out.len, HN.out]; omega)⟩
            have hc : ∀ q u, (cPl y)[q]? = some u → w4.cell? ⟨b, o + i * 2 + q, none⟩ = some u := fun q u hu => by
              have hq : q < 2 := by rw [← cPl_len y]; exact (List.getElem?_eq_some_iff.1 hu).1
              have := RowB.cells HR4.out (i * 2 + q) u (by unfold Pls; rw [flat_at cPl_len R i y q hy hq]; exact hu)
              rw [Go.WideShapes.add_plain, HO.out] at this
              rw [Nat.add_assoc]; exact this
            have k3 : w4.cell? ⟨b, o + i * 2, none⟩ = some (.int .u32 y.t) := hc 0 _ rfl
            have k4 : w4.cell? ⟨b, o + i * 2 + 1, none⟩ = some (.int .u8 y.m) := hc 1 _ rfl
            have f3 : w4.frozen? ⟨b, o + i * 2, none⟩ = false := HR4.out.frozen _
            have f4 : w4.frozen? ⟨b, o + i * 2 + 1, none⟩ = false := HR4.out.frozen _
            have HRS := Lib.hid (Box.set_ (Box.set_ HR4.out (o + i * 2) (.int .u32 a)) (o + i * 2 + 1) (.int .u8 md))
            have HFS := Lib.hid ((HF4.out.setCell (p := ⟨b, o + i * 2, none⟩) (.inl rfl) (.int .u32 a)).setCell (p := ⟨b, o + i * 2 + 1, none⟩) (.inl rfl) (.int .u8 md))
            have hset := set_pl (R := R) (i := i) (by rw [HD2.out.len, HN.out]; omega) pre post a md
            rw [HO.out] at hset
            rw [hset] at HRS
            have hw2 : IntKind.i64.wrap ((i : Int) + 1) = ((i + 1 : Nat) : Int) := by rw [IntKind.wrap_i64]; omega
            have hw3 : IntKind.i64.wrap ((j : Int) + 1) = ((j + 1 : Nat) : Int) := by rw [IntKind.wrap_i64]; omega
            clear hc hy hset
            go_wp2
            go_roundw
            case rel => exact ⟨i + 1, j + 1, R.set i ⟨a, md⟩, by omega, by omega, by go_num, by go_num, Lib.hid (HD2.out.keep HX.out HQ.out), HRS, HFS⟩
            case measure => simp [intOf]; omega
        · have hjN : j = N := by omega
          have d1 : decide ((j : Int) < (N : Int)) = false := by simp; omega
          have d1' : decide (j < N) = false := by simp; omega
          have hfl : l.filter (fun x => !p x) = R.take i := by rw [HD2.out.front, hjN, ← HN.out, List.take_length]
          have hRl : R.length = N := by rw [HD2.out.len, HN.out]
          have hsplit : pre ++ Pls R ++ post = (pre ++ Pls (R.take i)) ++ Pls (R.drop i) ++ post := by
            conv => lhs; rw [← List.take_append_drop i R, Pls_app]
            simp [List.append_assoc]
          have hti : (R.take i).length = i := by simp; omega
          have hl2 : (pre ++ Pls (R.take i)).length = o + i * 2 := by rw [List.length_append, Pls_len, hti, HO.out]
          have hR5 := HR2.out
          rw [hsplit] at hR5
          have hcl : ∀ ty c, (Builtin.clear_ #[84] ty #[.slice (some ⟨b, o + i * 2, none⟩) (N - i) c]).run Try.prog w2 = .ok (.tuple #[]) (w2.setRow b ((pre ++ Pls (R.take i)) ++ Zs (N - i) ++ post).toArray) := fun ty c => by
            rw [← hl2]
            exact run_clearK w2 ty b _ _ post (N - i) c (by omega) hR5 (by rw [Pls_len]; simp; omega)
          have HW := Lib.hid (show DelOut w (w2.setRow b ((pre ++ Pls (R.take i)) ++ Zs (N - i) ++ post).toArray) base (.slice (some ⟨b, o, none⟩) N cap) (l.filter fun x => !p x) (.returned (.slice (some ⟨b, o, none⟩) i cap)) from by
            refine ⟨_, rfl, .inr ⟨b, pre, Zs (N - i) ++ post, cap, by rw [hfl, hti, HO.out], H2.out, ?_, by rw [hfl, hti]; omega, H5.out, ?_⟩, (HF2.out.trans (fr_setRow w2 b _)).mono (fun y _ h => by rw [h]; rfl), rfl⟩
            · rw [hfl]
              have := RowB.set_ HR2.out (ds := (pre ++ Pls (R.take i)) ++ Zs (N - i) ++ post)
              simpa [List.append_assoc] using this
            · rw [hfl, hti, List.length_append, Zs_len]; have := H6.out; rw [HN.out] at this; omega)
          generalize w2.setRow b ((pre ++ Pls (R.take i)) ++ Zs (N - i) ++ post).toArray = w3 at hcl HW
          have e1 : ¬ (cap = i) := by omega
          have e2 : i ≤ N := by omega
          clear hfl hRl hsplit hti hl2 hR5
          go_wp2
          go_ret
          exact HW.out
end Go.Proofs.Ytpndcpmfcajmdaa.Lock
