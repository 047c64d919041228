import Derived.Test.YteggcehjpfmikaaWs7
import Derived.Test.YteggcehjpfmikaaWs8
import Derived.Test.YteggcehjpfmikaaWs9
namespace Go.Proofs.Yteggcehjpfmikaa.Wal
open Go.ChangeShapes Go.WideShapes Go.ChangeAt Go.RowKit Go.IntWalk Go.Proofs.Mem Go.Proofs.Each Law Go.Proofs.Yteggcehjpfmikaa.Disk Rec
set_option linter.unusedVariables false
set_option linter.unusedSimpArgs false
section
variable {w : World} {S : Nat → Prop} {g t : Nat} {fv : Nat → Value} {D : Dv} {H : Hh} {se : Int} {la : Nat} {A At : Option Addr} {n c nt ct : Nat} {r : Rc} {a b ta da : Value}
set_option maxRecDepth 100000 in
set_option maxHeartbeats 4000000 in
theorem append_bad (r : Rc) (hm : mayS r = false) (a b ta da : Value) (hi : RcIn w w.heap.size r a b ta da) (t : Nat) (spare : Int) :
    Calls Try.prog 23 #[.pointer (some ⟨t, 0, none⟩), .agg (rcV r a b ta da), .int .u64 spare] w fun e w' => e = .returned (.tuple #[.int .u64 0, .int .u16 61]) ∧ Below w.heap.size w w' := by
  have R := hi.alloc (Nat.le_refl _) (.cells (rcV r a b ta da) 54)
  have b1 := new_ (Below.refl w.heap.size w) (.cells (rcV r a b ta da) 54)
  have BX := Lib.hid (Box.new w (rcV r a b ta da) 54)
  obtain ⟨w1, hw1⟩ : ∃ w1, w.alloc (.cells (rcV r a b ta da) 54) = w1 := ⟨_, rfl⟩
  rw [hw1] at R b1 BX
  have EN := Lib.hid (encode_no r hm a b ta da w1 w.heap.size b1.size R)
  have HB1 := Lib.hid b1
  have k0 := BX.out.cell
  obtain ⟨A1, c1, rfl, _, _⟩ := hi.a.form
  obtain ⟨A2, c2, rfl, _, _⟩ := hi.b.form
  obtain ⟨A3, c3, rfl, _, _⟩ := hi.t.form
  obtain ⟨A4, c4, rfl, _, _⟩ := hi.d.form
  clear R b1 hi hm
  go_enter Try.func23, Try.ntmps23
  go_wp2_with fail
  (with_reducible refine (EN.out).mono ?_)
  rintro e w2 ⟨rfl, hb2⟩
  have HB2 := Lib.hid (HB1.out.trans (hb2.mono HB1.out.size))
  clear hb2
  go_wp2
  go_ret2
  exact ⟨rfl, HB2.out⟩
set_option maxRecDepth 100000 in
set_option maxHeartbeats 4000000 in
theorem append_full (X : Box w t (lgC g H se (.slice A n c) (.slice At nt ct) la) 89) (h : DX w S g fv D) (hl : 2 ≤ (D.f 0).length) (hn : n ≤ sz D * 127) (r : Rc) (hr : r.Ok) (hm : mayS r = true) (a b ta da : Value) (hi : RcIn w w.heap.size r a b ta da) (spare : Nat) (hsp : spare ≤ 18446744073709551615) (hf : ¬ n + (encS r).length + spare ≤ sz D * 127) :
    Calls Try.prog 23 #[.pointer (some ⟨t, 0, none⟩), .agg (rcV r a b ta da), .int .u64 spare] w fun e w' => e = .returned (.tuple #[.int .u64 0, .int .u16 80]) ∧ Below w.heap.size w w' := by
  have hs : sz D ≤ 2047 := by obtain ⟨col, uv, h'⟩ := h; exact sz_le h'
  have hel : (encS r).length ≤ 2500 := by have := body_len r (may_lens r hm); rw [enc_len]; omega
  have R := hi.alloc (Nat.le_refl _) (.cells (rcV r a b ta da) 54)
  have b1 := new_ (Below.refl w.heap.size w) (.cells (rcV r a b ta da) 54)
  have BX := Lib.hid (Box.new w (rcV r a b ta da) 54)
  obtain ⟨w1, hw1⟩ : ∃ w1, w.alloc (.cells (rcV r a b ta da) 54) = w1 := ⟨_, rfl⟩
  rw [hw1] at R b1 BX
  have EN := Lib.hid (encode_yes r hr hm a b ta da w1 w.heap.size b1.size R)
  have HB1 := Lib.hid b1
  have k0 := BX.out.cell
  obtain ⟨A1, c1, rfl, _, _⟩ := hi.a.form
  obtain ⟨A2, c2, rfl, _, _⟩ := hi.b.form
  obtain ⟨A3, c3, rfl, _, _⟩ := hi.t.form
  obtain ⟨A4, c4, rfl, _, _⟩ := hi.d.form
  have RM := Lib.hid (fun W (hb : Below w.heap.size w W) => (by obtain ⟨col, uv, h'⟩ := h; exact room_any W (X.later hb) (h'.later hb) hl hn : Calls Try.prog 22 #[.pointer (some ⟨t, 0, none⟩)] W fun e w' => e = .returned (.int .u64 (sz D * 127 - n : Nat)) ∧ Below W.heap.size W w'))
  obtain ⟨E, hE⟩ : ∃ E, (encS r).length = E := ⟨_, rfl⟩
  rw [hE] at EN hel hf
  obtain ⟨rm, hrm⟩ : ∃ rm, sz D * 127 - n = rm := ⟨_, rfl⟩
  rw [hrm] at RM
  obtain ⟨q5, hq5⟩ : ∃ q, q = decide (rm < spare) := ⟨_, rfl⟩
  have d5 : decide ((rm : Int) < (spare : Int)) = q5 := by rw [hq5, decide_eq_decide]; omega
  have d5n : decide (rm < spare) = q5 := hq5.symm
  have wE : IntKind.u64.wrap (E : Int) = (E : Int) := by rw [IntKind.wrap_u64]; omega
  obtain ⟨df, hdf⟩ : ∃ df : Int, IntKind.u64.wrap ((rm : Int) - (spare : Int)) = df := ⟨_, rfl⟩
  have d6 : q5 = false → decide (df < (E : Int)) = true := fun hq => by
    have h1 : ¬ rm < spare := of_decide_eq_false (by rw [← hq5]; exact hq)
    rw [← hdf, show IntKind.u64.wrap ((rm : Int) - (spare : Int)) = (rm : Int) - (spare : Int) from by rw [IntKind.wrap_u64]; omega]
    simp; omega
  have D6 := Lib.hid d6
  have XS := Lib.hid (fun W (hb : Below w.heap.size w W) => (X.later hb).cell)
  clear R b1 hi hm hr h X hrm hq5 hf hn hE d6
  go_enter Try.func23, Try.ntmps23
  go_wp2_with fail
  (with_reducible refine (EN.out).mono ?_)
  rintro e w2 ⟨u, rfl, ho, hb2⟩
  have HB2 := Lib.hid (HB1.out.trans (hb2.mono HB1.out.size))
  have HO := Lib.hid ho
  obtain ⟨Au, cu, rfl⟩ := own_slice' HO.out
  clear hb2 ho
  go_wp2_with fail
  (with_reducible refine ((RM.out w2 HB2.out)).mono ?_)
  rintro e w3 ⟨rfl, hb3⟩
  have HB3 := Lib.hid (HB2.out.trans (hb3.mono HB2.out.size))
  clear hb3
  cases q5 with
  | true =>
    clear D6
    go_wp2
    go_ret2
    exact ⟨rfl, HB3.out⟩
  | false =>
    have d7 := D6.out rfl
    clear D6
    go_wp2
    go_ret2
    exact ⟨rfl, HB3.out⟩
end
end Go.Proofs.Yteggcehjpfmikaa.Wal
namespace Go.Proofs.Yteggcehjpfmikaa.Wal
open Go.ChangeShapes Go.WideShapes Go.ChangeAt Go.RowKit Go.IntWalk Go.Proofs.Mem Go.Proofs.Each Law Go.Proofs.Yteggcehjpfmikaa.Disk Rec
set_option linter.unusedVariables false
set_option linter.unusedSimpArgs false
theorem int_info : (Try.prog.info? 3).map (fun i => (i.zero, i.size, i.bytes)) = some (some (.int .i64 0), 1, 8) := by kernel_rfl
theorem wpList_app_at {P : Program} (w : World) {ops : Array Oper} {rest : List Oper} {o : Oper} {a : Act} {Q : Exit → Act → World → Prop} (hgd : o.guard = none) (s x : Operand) (t : TypeId)
    (ho : o.op = .call { callee := .builtin .append, args := #[s, x], argTypes := #[t, t] })
    (base : Nat) (e : TypeId) (i : TypeInfo) (k : IntKind) (bytes : Nat) (ht : P.underlying t = some (.slice e)) (hi : P.info? e = some i) (hz : i.zero = some (.int k 0))
    (hsize : i.size = 1) (hby : i.bytes = bytes) (v : Value) (n : Nat) (xs : List Int) (hs : a.eval s = v) (hown : w.ownsRow base e 1 v n (xs.map (.int k)))
    (B : Nat) (u : Value) (ys : List Int) (m : Nat) (hm : ys.length = m) (hpos : 0 < m) (hx : a.eval x = u) (hr : IR w B k u ys) (h63 : n + m ≤ maxLen) (hbytes : (n + m) * bytes ≤ 140737488355328) (hbase : base ≤ w.heap.size)
    (h : ∀ v' w', w'.ownsRow base e 1 v' (n + m) ((xs ++ ys).map (.int k)) → w.grownBy w' v.ownBlock → (v'.ownBlock = v.ownBlock ∨ v'.ownBlock = some w.heap.size) → wpList P ops Q rest (a.put o.dst v') w') : wpList P ops Q (o :: rest) a w := by
  subst hm
  obtain ⟨A, c, rfl, h2, h3, h4, h5⟩ := hr
  obtain ⟨b, off, rfl, _, _⟩ := h5 0 hpos
  refine wpList_append_own_at w hgd s x t ho base e i _ 1 bytes ht hi hz hsize hby rfl (by omega) v n _ hs hown ⟨b, off, none⟩ ys.length c (ys.map (.int k)) hx (by simp) ?_ ?_ h63 hbytes hbase ?_
  · intro j u' hj
    have hjl : j < ys.length := by
      rcases Nat.lt_or_ge j ys.length with hh | hh
      · exact hh
      · rw [List.getElem?_eq_none (by simpa using hh)] at hj; cases hj
    obtain ⟨b', off', e, _, hc⟩ := h5 j hjl
    injection e with e
    injection e with e1 e2
    subst e1 e2
    rw [Go.WideShapes.add_plain, hc, ← hj]
    simp [List.getD, List.getElem?_eq_getElem hjl]
  · intro u' hu
    obtain ⟨z, _, rfl⟩ := List.mem_map.1 hu
    rfl
  · intro v' w' h1 h2 _ h4
    exact h v' w' (by simpa using h1) h2 h4
theorem row_ne_box {w : World} {n sz b g : Nat} {t t' : TypeId} {v : Value} {xs : List Value} {C : Array Value} (h : w.ownsRow b t sz v n xs) (hb : Box w g C t') (hne : t ≠ t') : v.ownBlock ≠ some g := fun hv => by
  rcases h.2 with ⟨rfl, _⟩ | ⟨g', cap, cur, rfl, _, hg, _⟩
  · cases hv
  · injection hv with hv
    subst hv
    have hh : w.heap[g']? = some (.cells C t' (0, 0)) := hb
    rw [hg] at hh
    injection hh with hh
    injection hh with _ hh _
    exact hne hh
section
variable {w : World} {S : Nat → Prop} {g t : Nat} {fv : Nat → Value} {D : Dv} {H : Hh} {se : Int} {la : Nat} {A At : Option Addr} {n c nt ct : Nat} {xs : List Value} {ys : List Int}
set_option maxRecDepth 100000 in
set_option maxHeartbeats 8000000 in
theorem append_yes (X : Box w t (lgC g H se (.slice A n c) (.slice At nt ct) la) 89) (h : DX w S g fv D) (hl : 2 ≤ (D.f 0).length)
    (hso : w.ownsRow 0 5 1 (.slice A n c) n (ys.map (.int .u8))) (hto : w.ownsRow 0 3 1 (.slice At nt ct) nt xs) (hnt : nt ≤ 100000) (hb : 0 ≤ H.ba ∧ H.ba + n ≤ 18446744073709551615)
    (r : Rc) (hr : r.Ok) (hm : mayS r = true) (a b ta da : Value) (hi : RcIn w w.heap.size r a b ta da) (spare : Nat) (hsp : spare ≤ 18446744073709551615) (hf : n + (encS r).length + spare ≤ sz D * 127) :
    Calls Try.prog 23 #[.pointer (some ⟨t, 0, none⟩), .agg (rcV r a b ta da), .int .u64 spare] w fun e w' => e = .returned (.tuple #[.int .u64 (H.ba + n), .int .u16 0]) ∧
      ∃ sv tv, Box w' t (lgC g H se sv tv la) 89 ∧ w'.ownsRow 0 5 1 sv (n + (encS r).length) ((ys ++ encS r).map (.int .u8)) ∧ w'.ownsRow 0 3 1 tv (nt + 1) (xs ++ [.int .i64 n]) ∧
      Fr (fun x => x = t ∨ (Value.slice A n c).ownBlock = some x ∨ (Value.slice At nt ct).ownBlock = some x) w w' ∧
      (sv.ownBlock = (Value.slice A n c).ownBlock ∨ ∀ k, sv.ownBlock = some k → w.heap.size ≤ k) ∧ (tv.ownBlock = (Value.slice At nt ct).ownBlock ∨ ∀ k, tv.ownBlock = some k → w.heap.size ≤ k) := by
  have hs : sz D ≤ 2047 := by obtain ⟨col, uv, h'⟩ := h; exact sz_le h'
  have hel : (encS r).length ≤ 2500 := by have := body_len r (may_lens r hm); rw [enc_len]; omega
  have R := hi.alloc (Nat.le_refl _) (.cells (rcV r a b ta da) 54)
  have b1 := new_ (Below.refl w.heap.size w) (.cells (rcV r a b ta da) 54)
  have BX := Lib.hid (Box.new w (rcV r a b ta da) 54)
  obtain ⟨w0, hw0⟩ : ∃ w0, w.alloc (.cells (rcV r a b ta da) 54) = w0 := ⟨_, rfl⟩
  rw [hw0] at R b1 BX
  have EN := Lib.hid (encode_yes r hr hm a b ta da w0 w.heap.size b1.size R)
  have HB1 := Lib.hid b1
  have k0 := BX.out.cell
  obtain ⟨A1, c1, rfl, _, _⟩ := hi.a.form
  obtain ⟨A2, c2, rfl, _, _⟩ := hi.b.form
  obtain ⟨A3, c3, rfl, _, _⟩ := hi.t.form
  obtain ⟨A4, c4, rfl, _, _⟩ := hi.d.form
  obtain ⟨j0, hj0, hj1, hj2, hj3⟩ := info_parts int_info
  have RM := Lib.hid (fun W (hb : Below w.heap.size w W) => (by obtain ⟨col, uv, h'⟩ := h; exact room_any W (X.later hb) (h'.later hb) hl (by omega) : Calls Try.prog 22 #[.pointer (some ⟨t, 0, none⟩)] W fun e w' => e = .returned (.int .u64 (sz D * 127 - n : Nat)) ∧ Below W.heap.size W w'))
  obtain ⟨es, hes⟩ : ∃ es, encS r = es := ⟨_, rfl⟩
  rw [hes] at EN hel hf ⊢
  obtain ⟨E, hE⟩ : ∃ E, es.length = E := ⟨_, rfl⟩
  rw [hE] at EN hel hf ⊢
  have HE := Lib.hid hE
  have HEP := Lib.hid (show 0 < E by rw [← hE, ← hes, enc_len]; omega)
  obtain ⟨rm, hrm⟩ : ∃ rm, sz D * 127 - n = rm := ⟨_, rfl⟩
  rw [hrm] at RM
  have d5 : decide ((rm : Int) < (spare : Int)) = false := by simp; omega
  have d5n : decide (rm < spare) = false := by simp; omega
  have wE : IntKind.u64.wrap (E : Int) = (E : Int) := by rw [IntKind.wrap_u64]; omega
  obtain ⟨df, hdf⟩ : ∃ df : Nat, rm - spare = df := ⟨_, rfl⟩
  have hdf2 : IntKind.u64.wrap ((rm : Int) - (spare : Int)) = (df : Int) := by rw [IntKind.wrap_u64]; omega
  have d6 : decide ((df : Int) < (E : Int)) = false := by simp; omega
  have d6n : decide (df < E) = false := by simp; omega
  have HX := Lib.hid X
  have HNT := Lib.hid hnt
  have HSO := Lib.hid hso
  have HTO := Lib.hid hto
  have HVB := Lib.hid (show nt ≤ 100000 from hnt)
  have HEL := Lib.hid (show n + E ≤ 300000 by omega)
  have HBA := Lib.hid hb
  have HRG : (Value.slice At nt ct).ownBlock ≠ some t := fun e => row_ne_box hto X (by decide) e
  have HRS : (Value.slice A n c).ownBlock ≠ some t := fun e => row_ne_box hso X (by decide) e
  have HRA : ∀ k, (Value.slice A n c).ownBlock = some k → (Value.slice At nt ct).ownBlock ≠ some k := fun k e => own_apart hso hto (by decide) k e
  clear R b1 hi hm hr h X hrm hf hE hdf hs hel hso hto hnt hb hes hl hsp
  go_enter Try.func23, Try.ntmps23
  go_wp2_with fail
  (with_reducible refine (EN.out).mono ?_)
  rintro e w2 ⟨u, rfl, ho, hb2⟩
  have HB2 := Lib.hid (HB1.out.trans (hb2.mono HB1.out.size))
  have HO := Lib.hid ho
  obtain ⟨Au, cu, rfl⟩ := own_slice' HO.out
  clear hb2 ho
  go_wp2_with fail
  (with_reducible refine ((RM.out w2 HB2.out)).mono ?_)
  rintro e w1 ⟨rfl, hb3⟩
  have HB3 := Lib.hid (HB2.out.trans (hb3.mono HB2.out.size))
  have HU3 := Lib.hid (own_below HO.out hb3)
  clear hb3
  have BX1 := Lib.hid (HX.out.later HB3.out)
  have OW1 := Lib.hid (own_below HTO.out HB3.out)
  have OS1 := Lib.hid (own_below HSO.out HB3.out)
  have HRL := Lib.hid (show ∀ k, (Value.slice At nt ct).ownBlock = some k → k < w1.heap.size from fun k e => (OW1.out.lt k e).2)
  go_upto_region 7 with fail
  refine wp_region_app (by kernel_rfl) (by kernel_rfl) (Value.slice At nt ct).ownBlock t 11 14 89 (fun v => (lgC g H se (.slice A n c) (.slice At nt ct) la).setIfInBounds 7 v) [(fun v _ => v = .pointer (some ⟨t, 0, none⟩)), (fun v _ => v = .pointer (some ⟨t, 0, none⟩)), (fun v _ => v = .pointer (some ⟨t, 0, none⟩)), (fun v _ => v = .pointer (some ⟨t, 7, none⟩)), (fun v _ => v = .slice At nt ct), (fun v _ => v = .pointer (some ⟨t, 0, none⟩)), (fun v _ => v = .pointer (some ⟨t, 0, none⟩)), (fun v _ => v = .pointer (some ⟨t, 6, none⟩)), (fun v _ => v = .slice A n c), (fun v _ => v = .int .i64 n), (fun v W => ∃ g1, v = .slice (some ⟨g1, 0, none⟩) 1 1 ∧ w1.heap.size ≤ g1 ∧ Box W g1 #[.int .i64 n] 3), (fun v W => W.ownsRow 0 3 1 v (nt + 1) (xs ++ [.int .i64 n]) ∧ (v.ownBlock = (Value.slice At nt ct).ownBlock ∨ ∀ k, v.ownBlock = some k → w1.heap.size ≤ k)), (fun v _ => v = .pointer (some ⟨t, 0, none⟩)), (fun v _ => v = .pointer (some ⟨t, 7, none⟩)), (fun v _ => v = undef)] (by decide) (by intro o ho; injection ho with ho; subst ho; exact ⟨⟨11, .data⟩, by simp, rfl, rfl⟩) HRG ?_ (fun vals => ?_) (fun vals W hfr hbx hall _ => ?_) (by decide)
  · intro j v W W' hj hsz hf h
    match j, hj, h with
    | 0, _, h => exact h
    | 1, _, h => exact h
    | 2, _, h => exact h
    | 3, _, h => exact h
    | 4, _, h => exact h
    | 5, _, h => exact h
    | 6, _, h => exact h
    | 7, _, h => exact h
    | 8, _, h => exact h
    | 9, _, h => exact h
    | 10, _, h => obtain ⟨g1, e1, e2, e3⟩ := h; exact ⟨g1, e1, e2, e3.fr hf (fun hk => by rcases hk with ⟨_, h1⟩ | h1; (have := HRL.out _ h1; omega); (have := BX1.out.lt; omega))⟩
    | 11, _, h => obtain ⟨e1, e3⟩ := h; exact ⟨Disk.own_frS e1 hf (fun k hk hs => by rcases hs with ⟨h1, _⟩ | h1; (exact h1 rfl); (subst h1; rcases e3 with h3 | h3; (rw [h3] at hk; exact HRG hk); (have := h3 _ hk; have := BX1.out.lt; omega))), e3⟩
    | 12, _, h => exact h
    | 13, _, h => exact h
    | 14, hj, _ => exact absurd rfl hj
    | _ + 15, _, _ => trivial
  · simp only [ObL, Act.put, List.setIfInBounds_toArray, List.set_cons_succ, List.set_cons_zero]
    refine ⟨?_, ?_, ?_, ?_, ?_, ?_, ?_, ?_, ?_, ?_, ?_, ?_, ?_, ?_, ?_, trivial⟩
    · intro L W hL hk hC hw
      clear hw
      clear hL hC hk
      refine step_plain rfl ?_
      go_simp
      first | exact ⟨Ra.same _, Fa.val (by decide) rfl rfl⟩ | exact ⟨_, rfl, Ra.same _, Fa.val (by decide) rfl rfl⟩
    · intro L W hL hk hC hw
      clear hw
      clear hL hC hk
      refine step_plain rfl ?_
      go_simp
      first | exact ⟨Ra.same _, Fa.val (by decide) rfl rfl⟩ | exact ⟨_, rfl, Ra.same _, Fa.val (by decide) rfl rfl⟩
    · intro L W hL hk hC hw
      have f1 : vals 1 = .pointer (some ⟨t, 0, none⟩) := Fa.get (hw ⟨1, .data⟩ (by simp) rfl) (by decide)
      clear hw
      clear hL hC hk
      refine step_plain rfl ?_
      go_simp
      first | exact ⟨Ra.same _, Fa.val (by decide) rfl rfl⟩ | exact ⟨_, rfl, Ra.same _, Fa.val (by decide) rfl rfl⟩
    · intro L W hL hk hC hw
      have f2 : vals 2 = .pointer (some ⟨t, 0, none⟩) := Fa.get (hw ⟨2, .data⟩ (by simp) rfl) (by decide)
      clear hw
      clear hL hC hk
      refine step_plain rfl ?_
      go_simp
      first | exact ⟨Ra.same _, Fa.val (by decide) rfl rfl⟩ | exact ⟨_, rfl, Ra.same _, Fa.val (by decide) rfl rfl⟩
    · intro L W hL hk hC hw
      have f3 : vals 3 = .pointer (some ⟨t, 7, none⟩) := Fa.get (hw ⟨3, .data⟩ (by simp) rfl) (by decide)
      clear hw
      have bx := hC.box BX1.out (hL.not_yet hk 14 8 (by decide +kernel)) HRG
      have kc : W.cell? ⟨t, 7, none⟩ = some (.slice At nt ct) := bx.cell 7
      clear hL hC hk bx
      refine step_plain rfl ?_
      go_simp
      first | exact ⟨Ra.same _, Fa.val (by decide) rfl rfl⟩ | exact ⟨_, rfl, Ra.same _, Fa.val (by decide) rfl rfl⟩
    · intro L W hL hk hC hw
      clear hw
      clear hL hC hk
      refine step_plain rfl ?_
      go_simp
      first | exact ⟨Ra.same _, Fa.val (by decide) rfl rfl⟩ | exact ⟨_, rfl, Ra.same _, Fa.val (by decide) rfl rfl⟩
    · intro L W hL hk hC hw
      have f5 : vals 5 = .pointer (some ⟨t, 0, none⟩) := Fa.get (hw ⟨5, .data⟩ (by simp) rfl) (by decide)
      clear hw
      clear hL hC hk
      refine step_plain rfl ?_
      go_simp
      first | exact ⟨Ra.same _, Fa.val (by decide) rfl rfl⟩ | exact ⟨_, rfl, Ra.same _, Fa.val (by decide) rfl rfl⟩
    · intro L W hL hk hC hw
      have f6 : vals 6 = .pointer (some ⟨t, 0, none⟩) := Fa.get (hw ⟨6, .data⟩ (by simp) rfl) (by decide)
      clear hw
      clear hL hC hk
      refine step_plain rfl ?_
      go_simp
      first | exact ⟨Ra.same _, Fa.val (by decide) rfl rfl⟩ | exact ⟨_, rfl, Ra.same _, Fa.val (by decide) rfl rfl⟩
    · intro L W hL hk hC hw
      have f7 : vals 7 = .pointer (some ⟨t, 6, none⟩) := Fa.get (hw ⟨7, .data⟩ (by simp) rfl) (by decide)
      clear hw
      have bx := hC.box BX1.out (hL.not_yet hk 14 8 (by decide +kernel)) HRG
      have kc : W.cell? ⟨t, 6, none⟩ = some (.slice A n c) := bx.cell 6
      clear hL hC hk bx
      refine step_plain rfl ?_
      go_simp
      first | exact ⟨Ra.same _, Fa.val (by decide) rfl rfl⟩ | exact ⟨_, rfl, Ra.same _, Fa.val (by decide) rfl rfl⟩
    · intro L W hL hk hC hw
      have f8 : vals 8 = .slice A n c := Fa.get (hw ⟨8, .data⟩ (by simp) rfl) (by decide)
      clear hw
      clear hL hC hk
      refine step_plain rfl ?_
      go_simp
      first | exact ⟨Ra.same _, Fa.val (by decide) rfl rfl⟩ | exact ⟨_, rfl, Ra.same _, Fa.val (by decide) rfl rfl⟩
    · intro L W hL hk hC hw
      have f9 : vals 9 = .int .i64 n := Fa.get (hw ⟨9, .data⟩ (by simp) rfl) (by decide)
      clear hw
      have hsz := Lib.hid (show w1.heap.size ≤ W.heap.size from hC.size)
      clear hL hC hk
      refine step_plain rfl ?_
      go_simp
      have hz := new_ (Below.refl W.heap.size W) (.cells #[.int .i64 n] 3)
      first | exact ⟨Ra.of_below hz, Fa.val (by decide) rfl ⟨_, rfl, hsz.out, Box.new _ _ _⟩⟩ | exact ⟨_, rfl, Ra.of_below hz, Fa.val (by decide) rfl ⟨_, rfl, hsz.out, Box.new _ _ _⟩⟩
    · intro L W hL hk hC hw
      have f4 : vals 4 = .slice At nt ct := Fa.get (hw ⟨4, .data⟩ (by simp) rfl) (by decide)
      have f10 : ∃ g1, (vals 10) = .slice (some ⟨g1, 0, none⟩) 1 1 ∧ w1.heap.size ≤ g1 ∧ Box W g1 #[.int .i64 n] 3 := Fa.get (hw ⟨10, .data⟩ (by simp) rfl) (by decide)
      clear hw
      have hb := hC.below hk (hL.not_yet hk 14 8 (by decide +kernel))
      have ow := own_below OW1.out hb
      obtain ⟨g1, e7, hg1, hbx1⟩ := f10
      clear hL hC hk
      refine step_plain rfl ?_
      refine wp_push W _ _ _ rfl 0 3 j0 _ 1 8 Try.underlying87 hj0 hj1 hj2 hj3 rfl (by decide) [.int .i64 n] rfl (by intro u hu; simp only [List.mem_singleton] at hu; subst hu; rfl) (.slice At nt ct) nt xs f4 ow g1 _ e7 hbx1 (by simp only [maxLen]; have := HVB.out; omega) (by have := HVB.out; omega) (Nat.zero_le _) ?_
      intro v1 w2 ho1 hgr1 hb1
      have hk2 : v1.ownBlock = (Value.slice At nt ct).ownBlock ∨ ∀ k, v1.ownBlock = some k → w1.heap.size ≤ k := by
              rcases hb1 with h | h
              · exact .inl h
              · exact .inr (fun k hk => by rw [h] at hk; injection hk with hk; have := hb.size; omega)
      exact ⟨_, rfl, Fr.grown (Fr.refl _ _) hgr1 (fun g e => .inl (.inl ⟨rfl, e⟩)), Fa.val (by decide) rfl ⟨ho1, hk2⟩⟩
    · intro L W hL hk hC hw
      have f0 : vals 0 = .pointer (some ⟨t, 0, none⟩) := Fa.get (hw ⟨0, .data⟩ (by simp) rfl) (by decide)
      clear hw
      clear hL hC hk
      refine step_plain rfl ?_
      go_simp
      first | exact ⟨Ra.same _, Fa.val (by decide) rfl rfl⟩ | exact ⟨_, rfl, Ra.same _, Fa.val (by decide) rfl rfl⟩
    · intro L W hL hk hC hw
      have f12 : vals 12 = .pointer (some ⟨t, 0, none⟩) := Fa.get (hw ⟨12, .data⟩ (by simp) rfl) (by decide)
      clear hw
      clear hL hC hk
      refine step_plain rfl ?_
      go_simp
      first | exact ⟨Ra.same _, Fa.val (by decide) rfl rfl⟩ | exact ⟨_, rfl, Ra.same _, Fa.val (by decide) rfl rfl⟩
    · intro L W hL hk hC hw
      have f13 : vals 13 = .pointer (some ⟨t, 7, none⟩) := Fa.get (hw ⟨13, .data⟩ (by simp) rfl) (by decide)
      have f11 : W.ownsRow 0 3 1 (vals 11) (nt + 1) (xs ++ [.int .i64 n]) ∧ ((vals 11).ownBlock = (Value.slice At nt ct).ownBlock ∨ ∀ k, (vals 11).ownBlock = some k → w1.heap.size ≤ k) := Fa.get (hw ⟨11, .data⟩ (by simp) rfl) (by decide)
      clear hw
      have bx := hC.box BX1.out hk HRG
      obtain ⟨hx8, hx9⟩ := f11
      obtain ⟨A2, l2, e21⟩ := own_slice' hx8
      have kc : W.cell? ⟨t, 7, none⟩ = some (.slice At nt ct) := bx.cell 7
      have fc := bx.frozen 7
      clear hL hC hk
      refine step_plain rfl ?_
      go_simp
      have hb9 := Box.set_ bx 7 (.slice A2 (nt + 1) l2)
      exact ⟨Fr.setCell (Fr.refl _ _) (p := ⟨t, 7, none⟩) (.inl (.inr ⟨rfl, rfl⟩)) _, undef, Fa.last (by decide) (by rw [e21]; exact hb9)⟩
  · simp only [TL, Act.put, List.setIfInBounds_toArray, List.set_cons_succ, List.set_cons_zero]
    have f11 : W.ownsRow 0 3 1 (vals 11) (nt + 1) (xs ++ [.int .i64 n]) ∧ ((vals 11).ownBlock = (Value.slice At nt ct).ownBlock ∨ ∀ k, (vals 11).ownBlock = some k → w1.heap.size ≤ k) := hall 11 (by decide) (by decide)
    obtain ⟨o11, p11⟩ := f11
    obtain ⟨A2, c2', e2⟩ := own_slice' o11
    rw [e2] at hbx o11 p11
    simp only [List.setIfInBounds_toArray, List.set_cons_succ, List.set_cons_zero] at hbx
    rw [e2]
    have HBX := Lib.hid hbx
    have HO11 := Lib.hid o11
    have HP11 := Lib.hid p11
    have HFR := Lib.hid hfr
    have HOS2 := Lib.hid (Disk.own_frS OS1.out hfr (fun k hk hS => by rcases hS with h1 | h1; (exact HRA k hk h1); (exact HRS (h1 ▸ hk))))
    have HU2 := Lib.hid (IR.of_own (Disk.own_frS HU3.out hfr (fun k hk hS => by
      have h5 := (HU3.out.lt k hk).1
      have := HB1.out.size
      rcases hS with h1 | h1
      · have := (HTO.out.lt k h1).2; omega
      · have := HX.out.lt; omega)))
    have CE := Lib.hid (end_any W HBX.out HBA.out (by have := HEL.out; omega))
    have q6 := HBX.out.cell 6
    have f6 := HBX.out.frozen 6
    obtain ⟨i0, hi0, hz0, hz1, hz2⟩ := info_parts NumBytes.u8_info
    clear hfr hbx hall o11 p11 e2
    go_wp2_with (first
      | (go_at_call 15
         (with_reducible refine CE.out.mono ?_)
         rintro er w6 ⟨rfl, rfl⟩)
      | (at_builtin
         refine wpList_app_at _ rfl _ _ _ rfl 0 5 i0 .u8 1 Try.underlying48 hi0 hz0 hz1 hz2 _ n ys rfl HOS2.out _ _ es E HE.out HEP.out rfl HU2.out (by simp only [maxLen]; have := HEL.out; omega) (by have := HEL.out; omega) (Nat.zero_le _) ?_
         intro v7 w7 ho7 hg7 ha7
         obtain ⟨A7, c7, e7⟩ := own_slice' ho7
         subst e7
         have bx7 := HBX.out.fr (S := fun x => (Value.slice A n c).ownBlock = some x) (Fr.grown (Fr.refl _ _) hg7 (fun q e => .inl e)) HRS
         have HO7 := Lib.hid ho7
         have HG7 := Lib.hid hg7
         have HA7 := Lib.hid ha7
         have HB7 := Lib.hid bx7
         have k7 := bx7.frozen 6
         have r7 := bx7.cell 6
         clear ho7 hg7 ha7 bx7))
    have b9 := HB7.out.set_ 6 (.slice A7 (n + E) c7)
    simp only [List.setIfInBounds_toArray, List.set_cons_succ, List.set_cons_zero] at b9
    have H9 := Lib.hid b9
    clear b9
    go_ret2
    have hfrw : Fr (fun x => x = t ∨ (Value.slice A n c).ownBlock = some x ∨ (Value.slice At nt ct).ownBlock = some x) w W := by
      refine (Fr.of_below HB3.out).trans' HFR.out (fun i hi hS => ?_)
      rcases hS with h1 | h1
      · exact .inr (.inr h1)
      · exact .inl h1
    have hfr7 : Fr (fun x => x = t ∨ (Value.slice A n c).ownBlock = some x ∨ (Value.slice At nt ct).ownBlock = some x) w w7 :=
      hfrw.trans' (Fr.grown (S := fun x => (Value.slice A n c).ownBlock = some x) (Fr.refl _ _) HG7.out (fun q e => .inl e)) (fun i hi hS => .inr (.inl hS))
    have hsz := HB3.out.size
    have hszW := hfrw.size
    have ht11 : (Value.slice A2 (nt + 1) c2').ownBlock ≠ some t := fun e => row_ne_box HO11.out HBX.out (by decide) e
    have o12 := HO11.out.kept HG7.out (by
      cases hq : (Value.slice A2 (nt + 1) c2').ownBlock with
      | none => exact .inl rfl
      | some k => exact .inr (fun e => own_apart HOS2.out HO11.out (by decide) k e.symm hq))
    refine ⟨rfl, _, _, H9.out, own_set_far' HO7.out (p := ⟨t, 6, none⟩) (fun e => ?_) _, own_set_far' o12 (p := ⟨t, 6, none⟩) (fun e => ht11 e) _, hfr7.setCell (.inl (.inl rfl)) _, ?_, ?_⟩
    · exact row_ne_box HO7.out HB7.out (by decide) e
    · rcases HA7.out with h1 | h1
      · exact .inl h1
      · refine .inr (fun k hk => ?_)
        rw [h1] at hk
        injection hk with hk
        omega
    · rcases HP11.out with h1 | h1
      · exact .inl h1
      · exact .inr (fun k hk => by have := h1 k hk; omega)
end
end Go.Proofs.Yteggcehjpfmikaa.Wal
namespace Go.Proofs.Yteggcehjpfmikaa.Wal
open Go.ChangeShapes Go.WideShapes Go.ChangeAt Go.RowKit Go.IntWalk Go.Proofs.Mem Go.Proofs.Each Law Go.Proofs.Yteggcehjpfmikaa.Disk Strip
set_option linter.unusedVariables false
set_option linter.unusedSimpArgs false
def flD (D : Dv) (a la u : Nat) (ys : List Int) : Dv := (wrs D (a + la / 127) (lay7 ((ys.take u).drop (la / 127 * 127)))).synA 0
theorem flD_lens {D : Dv} {a la u : Nat} {ys : List Int} (k : Nat) : ((flD D a la u ys).f k).length = (D.f k).length := by unfold flD; rw [synA_lens, wrs_lens]
theorem tab_fr {Tu Ts : TypeId} {A B : World} {base top : Nat} {v : Value} {l : List Rw} {S : Nat → Prop} (h : Tab Tu Ts A base top v l) (hf : Fr S A B) (hs : ∀ x, S x → x < base) : Tab Tu Ts B base top v l :=
  ⟨Disk.own_frS h.outer hf (fun k hk hS => by have := (h.outer.lt k hk).1; have := hs k hS; omega), fun p hp => ⟨⟨(h.rows p hp).1.form, Disk.own_frS (h.rows p hp).1.own hf (fun k hk hS => by have := ((h.rows p hp).1.own.lt k hk).1; have := hs k hS; omega)⟩, (h.rows p hp).2⟩, h.apart, h.vtop⟩
theorem ir_cut {w : World} {B : Nat} {k : IntKind} {b o n c : Nat} {xs : List Int} (h : IR w B k (.slice (some ⟨b, o, none⟩) n c) xs) (i u : Nat) (hi : i ≤ u) (ht : u ≤ n) : IR w B k (.slice (some ⟨b, o + i, none⟩) (u - i) (u - i)) ((xs.take u).drop i) := by
  obtain ⟨A', c', e, h2, h3, h4, h5⟩ := h
  injection e with e1 e2 e3
  subst e1 e2 e3
  have hl : ((xs.take u).drop i).length = u - i := by rw [List.length_drop, List.length_take]; omega
  refine ⟨_, u - i, by rw [hl], by rw [hl]; exact Nat.le_refl _, by omega, (fun hh => by cases hh), fun j hj => ?_⟩
  rw [hl] at hj
  obtain ⟨b', off, e, hb, hc⟩ := h5 (i + j) (by omega)
  injection e with e
  injection e with e1 e2
  subst e1 e2
  refine ⟨b, o + i, rfl, hb, ?_⟩
  rw [Nat.add_assoc, hc]
  simp only [List.getD]
  rw [List.getElem?_drop, List.getElem?_take, if_pos (by omega)]
theorem flush_first {w : World} {S : Nat → Prop} {g t : Nat} {fv : Nat → Value} {D : Dv} {H : Hh} {se la : Int} {sv tv : Value} (h : DX w S g fv D) (X : Box w t (lgC g H se sv tv la) 89) (hl : 2 ≤ (D.f 0).length) (a : Nat) (ha : H.ar = a) (ha2 : a ≤ 1) :
    Calls Try.prog 40 #[.pointer (some ⟨t, 0, none⟩)] w fun e w' => e = .returned (.int .i64 (fst D a)) ∧ Below w.heap.size w w' := by
  obtain ⟨col, uv, h'⟩ := h
  exact first_any w t H se sv tv la X h' hl a ha ha2
section
variable {w : World} {S : Nat → Prop} {g t : Nat} {fv : Nat → Value} {D : Dv} {H : Hh} {se : Int} {la : Nat} {A At : Option Addr} {n c nt ct : Nat} {ys : List Int}
theorem flush_none (X : Box w t (lgC g H se (.slice A n c) (.slice At nt ct) la) 89) (lsn : Int) (u : Nat) (CB : Calls Try.prog 73 #[.pointer (some ⟨t, 0, none⟩), .int .u64 lsn] w fun e w' => e = .returned (.int .i64 u) ∧ Below w.heap.size w w') (hto : u ≤ la) :
    Calls Try.prog 47 #[.pointer (some ⟨t, 0, none⟩), .int .u64 lsn] w fun e w' => e = .returned (.tuple #[]) ∧ Below w.heap.size w w' := by
  have HC := Lib.hid CB
  have HX := Lib.hid X
  have d1 : decide ((u : Int) ≤ (la : Int)) = true := by simp; omega
  have d1n : decide (u ≤ la) = true := by simp; omega
  clear CB X hto
  go_enter Try.func47, Try.ntmps47
  go_wp2_with fail
  (with_reducible refine (HC.out).mono ?_)
  rintro e w1 ⟨rfl, hb1⟩
  have k8 := (HX.out.later hb1).cell 8
  have HB1 := Lib.hid hb1
  clear hb1
  go_wp2
  refine bodyPost_ret (results_none rfl _ _ _) rfl ?_
  exact ⟨rfl, HB1.out⟩
set_option maxRecDepth 100000 in
set_option maxHeartbeats 8000000 in
theorem flush_do (X : Box w t (lgC g H se (.slice A n c) (.slice At nt ct) la) 89) (h : DX w S g fv D) (hn : ¬ S t) (m : Nat) (hw : D.Few m) (hm : m ≤ 80000) (hl : 18 ≤ (D.f 0).length) (a : Nat) (ha : H.ar = a) (ha2 : a ≤ 1)
    (hso : w.ownsRow 0 5 1 (.slice A n c) n (ys.map (.int .u8))) (hy : Bytes ys) (hnn : n ≤ sz D * 127) (hs7 : sz D ≤ 700)
    (lsn : Int) (u : Nat) (CB : Calls Try.prog 73 #[.pointer (some ⟨t, 0, none⟩), .int .u64 lsn] w fun e w' => e = .returned (.int .i64 u) ∧ Below w.heap.size w w') (hto : la < u) (hton : u ≤ n) :
    Calls Try.prog 47 #[.pointer (some ⟨t, 0, none⟩), .int .u64 lsn] w fun e w' => e = .returned (.tuple #[]) ∧ Box w' t (lgC g H se (.slice A n c) (.slice At nt ct) u) 89 ∧ ∃ S', DX w' S' g fv (flD D (fst D a) la u ys) ∧ Fr (fun x => S x ∨ x = t) w w' ∧ (∀ x, S' x → S x ∨ w.heap.size ≤ x) ∧ ¬ S' t := by
  have hlen := h.lens 0 (by decide)
  have hs : sz D ≤ 2047 := by unfold sz; omega
  have hyl : ys.length = n := by have := hso.1; simpa using this
  obtain ⟨A', c', e1, h1, h2⟩ := (IR.of_own hso).form
  injection e1 with e2 e3 e4
  subst e2 e4
  have hir := IR.of_own hso
  obtain ⟨b, o, rfl, _, _⟩ := hir.index 0 (by omega)
  unfold maxLen at h2
  obtain ⟨wh, hwh⟩ : ∃ wh, la / 127 = wh := ⟨_, rfl⟩
  have q1 : ((la : Int)).tdiv 127 = (wh : Int) := by rw [Int.tdiv_eq_ediv_of_nonneg (by omega)]; omega
  have q2 : IntKind.i64.wrap (wh : Int) = (wh : Int) := IntWalk.i64_in _ (by omega)
  obtain ⟨i0, hi0⟩ : ∃ i0, wh * 127 = i0 := ⟨_, rfl⟩
  have q3 : (wh : Int) * 127 = (i0 : Int) := by omega
  have q4 : IntKind.i64.wrap (i0 : Int) = (i0 : Int) := IntWalk.i64_in _ (by omega)
  have hilt : i0 < u := by omega
  have d1 : decide ((u : Int) ≤ (la : Int)) = false := by simp; omega
  have d1n : decide (u ≤ la) = false := by simp; omega
  have HC := Lib.hid CB
  have HX := Lib.hid X
  have HD := Lib.hid h
  have HIR := Lib.hid hir
  have bn1 : (0 : Int) ≤ (i0 : Int) := by omega
  have bn2 : (i0 : Int) ≤ (u : Int) := by omega
  have bn3 : (u : Int) ≤ (c : Int) := by omega
  have LAY := Lib.hid (fun W (hb : Below w.heap.size w W) => lay_any W w.heap.size _ _ (ir_cut (hir.below hb) i0 u (by omega) hton) hb.size (by rw [List.length_drop, List.length_take]; omega))
  have hlb : ∀ p ∈ lay7 ((ys.take u).drop i0), Bytes p := lay_bytes (fun x hx => hy x (List.mem_of_mem_take (List.mem_of_mem_drop hx)))
  have hll : ∀ p ∈ lay7 ((ys.take u).drop i0), p.length = 128 := fun p hp => by obtain ⟨k, _, rfl⟩ := List.mem_map.1 hp; exact sec_len _ _
  have hlc : (lay7 ((ys.take u).drop i0)).length = cnt (u - i0) := by rw [lay_len]; congr 1; rw [List.length_drop, List.length_take]; omega
  obtain ⟨L, hL⟩ : ∃ L, lay7 ((ys.take u).drop i0) = L := ⟨_, rfl⟩
  rw [hL] at LAY hlb hll hlc
  have HLB := Lib.hid hlb
  have HLL := Lib.hid hll
  have hLp : 0 < L.length := by rw [hlc]; unfold cnt; omega
  have hcb : wh + L.length ≤ sz D := by rw [hlc]; unfold cnt; omega
  have hfst : fst D a + wh + L.length ≤ (D.f 0).length := by unfold fst; unfold sz at *; rcases (show a = 0 ∨ a = 1 by omega) with rfl | rfl <;> omega
  have hE : flD D (fst D a) la u ys = (wrs D (fst D a + wh) L).synA 0 := by unfold flD; rw [hwh, hi0, hL]
  rw [hE]
  obtain ⟨F, hF⟩ : ∃ F, fst D a = F := ⟨_, rfl⟩
  rw [hF] at hfst ⊢
  have HF := Lib.hid hF
  have HFS := Lib.hid hfst
  have HN := Lib.hid hn
  have HW := Lib.hid hw
  have HLP := Lib.hid hLp
  have HLEN := Lib.hid (show (D.f 0).length ≤ 4096 ∧ 18 ≤ (D.f 0).length from ⟨hlen, hl⟩)
  have HHA := Lib.hid (show H.ar = a ∧ a ≤ 1 from ⟨ha, ha2⟩)
  clear CB X h hir hlb hll hlc hcb hfst hE hF hn hw hlen hl ha ha2 hL hwh hi0 hyl hy hso hs h1 hnn hs7 hLp
  go_enter Try.func47, Try.ntmps47
  go_wp2_with fail
  (with_reducible refine (HC.out).mono ?_)
  rintro e w1 ⟨rfl, hb1⟩
  have k8 := (HX.out.later hb1).cell 8
  have k6 := (HX.out.later hb1).cell 6
  have CL := Lib.hid (LAY.out w1 hb1)
  have HB1 := Lib.hid hb1
  clear hb1
  go_wp2_with fail
  (with_reducible refine (CL.out).mono ?_)
  rintro e w2 ⟨v, ls, rfl, ht, hm2, hb2⟩
  obtain ⟨g2, c2, rfl, hg2⟩ : ∃ g2 c2, v = .slice (some ⟨g2, 0, none⟩) L.length c2 ∧ w1.heap.size ≤ g2 := by
    rcases ht.value with ⟨_, e2⟩ | ⟨g2, c2, e2, e3, _⟩
    · exfalso
      rw [e2] at hm2
      have := HLP.out
      rw [← hm2] at this
      exact absurd this (by decide)
    · exact ⟨g2, c2, by rw [e2, ← hm2, List.length_map], e3⟩
  have HT := Lib.hid ht
  have HM := Lib.hid hm2
  have HB2 := Lib.hid (HB1.out.trans (hb2.mono HB1.out.size))
  have HS1 := Lib.hid (show ∀ x, S x → x < w1.heap.size from (HD.out.later HB1.out).old)
  have hLl : L.length ≤ 4096 := by have := HFS.out; have := HLEN.out; omega
  clear hg2 ht hm2 hb2
  have e0 := (HX.out.later HB2.out).cell 0
  clear k6 k8
  go_wp2
  go_loopw [33] (fun i wr => ∃ (k : Nat) (D1 : Dv) (S1 : Nat → Prop), i = .int .i64 k ∧ k ≤ L.length ∧ Hid (DX wr S1 g fv D1) ∧ Hid (Mv w2 S wr S1) ∧ Hid (D1.Few (m + k)) ∧ Hid (D1 = wrs D (F + wh) (L.take k))) (fun i _ => L.length - (intOf i).toNat)
  case atStart => exact ⟨0, D, S, rfl, by omega, Lib.hid (HD.out.later HB2.out), Lib.hid (Mv.refl _ _), HW, Lib.hid rfl⟩
  case round =>
    obtain ⟨k, D1, S1, rfl, hk, HD1, HM1, HW1, HE1⟩ := hrel
    obtain ⟨wa, rfl⟩ : ∃ wa, wa = wr := ⟨wr, rfl⟩
    have hT1 := tab_fr HT.out HM1.out.fr HS1.out
    have hx1 := mv_box (HX.out.later HB2.out) HM1.out HN.out
    have HX1 := Lib.hid hx1
    have e0 := hx1.1.cell 0
    by_cases hlt : k < L.length
    · have d1 : decide ((k : Int) < (L.length : Int)) = true := decide_eq_true (by omega)
      have d1' : decide (k < L.length) = true := decide_eq_true hlt
      have hkl : k < ls.length := by rw [← List.length_map (f := fun p => p.2.2), HM.out]; exact hlt
      obtain ⟨go, cp, ego, hcl, _, _, _⟩ := hT1.cell k hkl
      have ego2 : go = g2 := by injection ego with e1 _ _; injection e1 with e1; injection e1 with e1; exact e1.symm
      rw [ego2] at hcl
      clear ego ego2
      obtain ⟨hrk, htop⟩ := hT1.rows _ (List.getElem_mem hkl)
      have hxk : ls[k].2.2 = L[k] := by
        have : (ls.map (·.2.2))[k]? = L[k]? := by rw [HM.out]
        rw [List.getElem?_map, List.getElem?_eq_getElem hkl, List.getElem?_eq_getElem hlt] at this
        exact Option.some.inj this
      obtain ⟨pk, hpk⟩ : ∃ pk, ls[k] = pk := ⟨_, rfl⟩
      rw [hpk] at hcl hrk htop hxk
      obtain ⟨gk, uk, xk⟩ := pk
      dsimp only at hcl hrk htop hxk
      have hxl : xk.length = 128 := by rw [hxk]; exact HLL.out _ (List.getElem_mem hlt)
      have hxb : Bytes xk := by rw [hxk]; exact HLB.out _ (List.getElem_mem hlt)
      have htk : L.take (k + 1) = L.take k ++ [xk] := by rw [hxk, List.take_succ_eq_append_getElem hlt]
      obtain ⟨ck, ek⟩ := hrk.form
      subst ek
      have hown := hrk.own
      rw [hxl] at hcl hown
      have hlens : (D1.f 0).length = (D.f 0).length := by rw [HE1.out, wrs_lens]
      have hF1 : fst D1 a = F := by rw [← HF.out]; unfold fst sz; rw [hlens]
      have CF := Lib.hid (flush_first (S := S1) (g := g) (fv := fv) (D := D1) (w := wa.drew) (HD1.out.later (Below.refl _ _).drew) hx1.1.drew (by rw [hlens]; have := HLEN.out; omega) a HHA.out.1 HHA.out.2)
      rw [hF1] at CF
      have hhas : D1.has 0 ((F : Int) + (wh : Int) + (k : Int)) := ⟨by decide, by omega, by rw [hlens]; have := HFS.out; omega⟩
      have WR := Lib.hid (fun W (hb : Below wa.heap.size wa W) => ds_write (HD1.out.later hb) (HW1.out.more (by omega)) ((F : Int) + (wh : Int) + (k : Int)) (.slice (some ⟨gk, 0, none⟩) 128 ck) xk (fun w' hf => own_ir' (Disk.own_frS (own_below hown hb) hf (fun j hj hS => by
        injection hj with hj
        have h1 := HS1.out j
        rcases HM1.out.new j hS with h2 | h2
        · have := (hown.lt j (by rw [← hj]; rfl)).1; have := h1 h2; omega
        · have : gk = j := hj; omega)) hxl) hxb hxl hhas)
      have k0 : (0 : Int) ≤ (k : Int) := by omega
      have kL : (k : Int) < (L.length : Int) := by omega
      have bF : F + wh + L.length ≤ 4096 := by have := HFS.out; have := HLEN.out; omega
      have p1 : IntKind.i64.wrap ((F : Int) + (wh : Int)) = (F : Int) + (wh : Int) := IntWalk.i64_in _ (by omega)
      have p2 : IntKind.i64.wrap ((F : Int) + (wh : Int) + (k : Int)) = (F : Int) + (wh : Int) + (k : Int) := IntWalk.i64_in _ (by omega)
      have p3 : IntKind.i64.wrap ((k : Int) + 1) = (k : Int) + 1 := IntWalk.i64_in _ (by omega)
      have HE2 := Lib.hid (show D1.wrA 0 ((F : Int) + (wh : Int) + (k : Int)) xk = wrs D (F + wh) (L.take (k + 1)) by
        rw [htk, wrs_snoc, ← HE1.out]
        congr 1
        rw [List.length_take, Nat.min_eq_left hk]; omega)
      have HW2 := Lib.hid (wrA_few' HW1.out 0 ((F : Int) + (wh : Int) + (k : Int)) xk)
      have HCL := Lib.hid (show ∀ W, Below wa.heap.size wa W → W.cell? ⟨t, 0, none⟩ = some (.pointer (some ⟨g, 0, none⟩)) from fun W hb => (hx1.1.later hb).cell 0)
      have HDW := Lib.hid (show Below wa.heap.size wa wa.drew from (Below.refl _ _).drew)
      have HTN := Lib.hid hx1.2
      clear hT1 hx1 hkl hrk htop hxk hpk hxl hxb htk hown hlens hF1 hhas HE1
      go_wp2_with fail
      have K0 := Lib.hid (HCL.out _ HDW.out)
      go_region_held3 (fun W => W.cell? ⟨t, 0, none⟩ = some (.pointer (some ⟨g, 0, none⟩)))
        (first | exact K0.out | exact K1.out | exact K2.out)
        (first
        | (go_at_call 40
           (with_reducible refine CF.out.mono ?_)
           rintro er w3 ⟨rfl, hb⟩
           have HB3 := Lib.hid (HDW.out.trans hb)
           have K1 := Lib.hid (HCL.out _ HB3.out)
           clear hb)
        | (go_at_call 60
           (with_reducible refine (WR.out _ HB3.out).mono ?_)
           rintro er w4 ⟨rfl, S4, hd, hm⟩
           have HD4 := Lib.hid hd
           have HM4 := Lib.hid (((HM1.out.later HB3.out).trans hm))
           have K2 := Lib.hid ((mv_box (HX1.out.1.later HB3.out) hm HTN.out).1.cell 0)
           clear hd hm))
      go_wp2
      go_roundw
      case rel => exact ⟨k + 1, _, S4, by go_num, by omega, HD4, HM4, HW2, HE2⟩
      case measure => simp [intOf]; omega
    · have d1 : decide ((k : Int) < (L.length : Int)) = false := decide_eq_false (by omega)
      have d1' : decide (k < L.length) = false := decide_eq_false hlt
      have hkL : k = L.length := by omega
      have HE2 := Lib.hid (show D1 = wrs D (F + wh) L by rw [HE1.out, hkL, List.take_length])
      have SY := Lib.hid (ds_sync HD1.out (HW1.out.more (by omega)))
      clear hT1 hx1 HE1 hkL
      go_wp2_with fail
      (with_reducible refine SY.out.mono ?_)
      rintro e w5 ⟨rfl, S5, hd, hm⟩
      have hx5 := mv_box HX1.out.1 hm HX1.out.2
      have HM5 := Lib.hid (HM1.out.trans hm)
      have HD5 := Lib.hid hd
      have HX5 := Lib.hid hx5
      have k9 := hx5.1.cell 8
      have f9 := hx5.1.frozen 8
      have b9 := hx5.1.set_ 8 (.int .i64 u)
      have d9 := hd.far ((Fr.refl (fun x => x = t) w5).setCell (p := ⟨t, 8, none⟩) (.inl rfl) (.int .i64 u)) (fun x hx e => hx5.2 (e ▸ hx))
      simp only [List.setIfInBounds_toArray, List.set_cons_succ, List.set_cons_zero] at b9
      have H9 := Lib.hid b9
      have D9 := Lib.hid d9
      clear hd hm hx5 b9 d9
      go_wp2
      go_end0
      have hf := (((Mv.of_below HB2.out S).trans HM5.out).fr.mono (S' := fun x => S x ∨ x = t) (fun _ _ h => .inl h)).setCell (p := ⟨t, 8, none⟩) (.inl (.inr rfl)) (.int .i64 u)
      exact ⟨rfl, H9.out, S5, by rw [← HE2.out]; exact D9.out, hf, ((Mv.of_below HB2.out S).trans HM5.out).new, HX5.out.2⟩
end
end Go.Proofs.Yteggcehjpfmikaa.Wal
namespace Go.Proofs.Yteggcehjpfmikaa.Wal
open Go.ChangeShapes Go.WideShapes Go.ChangeAt Go.RowKit Go.IntWalk Go.Proofs.Mem Go.Proofs.Each Law Go.Proofs.Yteggcehjpfmikaa.Disk Strip
set_option linter.unusedVariables false
set_option linter.unusedSimpArgs false
theorem first_yes (f : Nat → Bool) (n : Nat) (hm : ∀ i j, i ≤ j → f i = true → f j = true) : ∃ r, FirstYes f n r := by
  induction n with
  | zero => exact ⟨0, Nat.le_refl _, fun k hk => by omega, fun k h1 h2 => by omega⟩
  | succ n ih =>
    obtain ⟨r, h1, h2, h3⟩ := ih
    by_cases hr : r = n ∧ f n = false
    · refine ⟨n + 1, Nat.le_refl _, fun k hk => ?_, fun k h4 h5 => by omega⟩
      rcases Nat.lt_or_ge k n with h | h
      · exact h2 k (by omega)
      · rw [show k = n by omega]; exact hr.2
    · refine ⟨r, by omega, h2, fun k h4 h5 => ?_⟩
      rcases Nat.lt_or_ge k n with h | h
      · exact h3 k h4 h
      · rw [show k = n by omega]
        by_cases e : r = n
        · cases hf : f n with
          | true => rfl
          | false => exact absurd ⟨e, hf⟩ hr
        · exact hm r n (by omega) (h3 r (Nat.le_refl _) (by omega))
theorem first_eq {f : Nat → Bool} {n r s : Nat} (h : FirstYes f n r) (k : FirstYes f n s) : r = s := by
  obtain ⟨a1, a2, a3⟩ := h
  obtain ⟨b1, b2, b3⟩ := k
  rcases Nat.lt_trichotomy r s with hh | hh | hh
  · have h1 := b2 r hh
    rw [a3 r (Nat.le_refl _) (by omega)] at h1
    cases h1
  · exact hh
  · have h1 := a2 s hh
    rw [b3 s (Nat.le_refl _) (by omega)] at h1
    cases h1
structure Lv where
  h : Hh
  se : Nat
  ys : List Int
  ss : List Int
  la : Nat
def LgAt (w : World) (T : Nat → Prop) (t g : Nat) (fv : Nat → Value) (D : Dv) (L : Lv) : Prop :=
  ∃ S A c At ct, Box w t (lgC g L.h L.se (.slice A L.ys.length c) (.slice At L.ss.length ct) L.la) 89 ∧ DX w S g fv D ∧
    w.ownsRow 0 5 1 (.slice A L.ys.length c) L.ys.length (L.ys.map (.int .u8)) ∧ w.ownsRow 0 3 1 (.slice At L.ss.length ct) L.ss.length (L.ss.map (.int .i64)) ∧
    ¬ S t ∧ (∀ k, (Value.slice A L.ys.length c).ownBlock = some k → ¬ S k ∧ T k) ∧ (∀ k, (Value.slice At L.ss.length ct).ownBlock = some k → ¬ S k ∧ T k) ∧ (∀ x, S x → T x) ∧ T t
structure LvOk (D : Dv) (L : Lv) : Prop where
  sz : 8 ≤ sz D ∧ sz D ≤ 700
  ok : L.h.Ok
  ar : L.h.ar ≤ 1
  se : L.se ≤ 1
  ba : 1 ≤ L.h.ba ∧ L.h.ba ≤ 9223372036854775808
  st : L.h.st ≤ 1000000
  by_ : Bytes L.ys
  len : L.ys.length ≤ Wal.sz D * 127
  ri : Rising L.ss L.ys.length
  ssl : L.ss.length ≤ 100000
  la : L.la ≤ L.ys.length
section
variable {w w' : World} {T : Nat → Prop} {t g : Nat} {fv : Nat → Value} {D : Dv} {L : Lv}
theorem LgAt.far {U : Nat → Prop} (h : LgAt w T t g fv D L) (hf : Fr U w w') (hu : ∀ x, T x → ¬ U x) : LgAt w' T t g fv D L := by
  obtain ⟨S, A, c, At, ct, h1, h2, h3, h4, h5, h6, h7, h8, h9⟩ := h
  exact ⟨S, A, c, At, ct, h1.fr hf (hu t h9), h2.far hf (fun x hx => hu x (h8 x hx)), Disk.own_frS h3 hf (fun k hk => hu k (h6 k hk).2), Disk.own_frS h4 hf (fun k hk => hu k (h7 k hk).2), h5, h6, h7, h8, h9⟩
theorem LgAt.later (h : LgAt w T t g fv D L) (hb : Below w.heap.size w w') : LgAt w' T t g fv D L := h.far (U := fun _ => False) (Fr.of_below hb) (fun _ _ h => h)
theorem LgAt.more {T' : Nat → Prop} (h : LgAt w T t g fv D L) (ht : ∀ x, T x → T' x) : LgAt w T' t g fv D L := by
  obtain ⟨S, A, c, At, ct, h1, h2, h3, h4, h5, h6, h7, h8, h9⟩ := h
  exact ⟨S, A, c, At, ct, h1, h2, h3, h4, h5, fun k hk => ⟨(h6 k hk).1, ht k (h6 k hk).2⟩, fun k hk => ⟨(h7 k hk).1, ht k (h7 k hk).2⟩, fun x hx => ht x (h8 x hx), ht t h9⟩
theorem LvOk.len18 (ok : LvOk D L) : 18 ≤ (D.f 0).length := by have := ok.sz; unfold Wal.sz at this; omega
theorem LvOk.nn (ok : LvOk D L) : L.ys.length ≤ 88900 := by have := ok.sz; have := ok.len; omega
def endK (L : Lv) (k : Nat) : Nat := (endS L.ss L.ys.length ((k : Int) - 1)).toNat
theorem endK_eq (ok : LvOk D L) (k : Nat) : endS L.ss L.ys.length ((k : Int) - 1) = (endK L k : Int) ∧ endK L k ≤ L.ys.length := by
  unfold endK
  have h : 0 ≤ endS L.ss L.ys.length ((k : Int) - 1) ∧ endS L.ss L.ys.length ((k : Int) - 1) ≤ L.ys.length := by
    unfold endS
    split
    · omega
    · split
      · rename_i h1 h2
        exact ok.ri.nn _ (by omega)
      · omega
  omega
theorem endK_all (k : Nat) (hk : k = L.ss.length) (h0 : L.ss.length = 0 → L.ys.length = 0) : endK L k = L.ys.length := by
  unfold endK endS
  subst hk
  by_cases h : L.ss.length = 0
  · rw [if_pos (by omega), h0 h]; rfl
  · rw [if_neg (by omega), if_neg (by omega)]; omega
def upK (L : Lv) (lsn : Int) (k : Nat) : Prop := FirstYes (behF L.h.ba lsn L.ss) L.ss.length k
theorem upK_all (ok : LvOk D L) {k : Nat} (h : upK L 18446744073709551615 k) : k = L.ss.length := by
  obtain ⟨h1, h2, h3⟩ := h
  rcases Nat.lt_or_ge k L.ss.length with hlt | hge
  · have := h3 k (Nat.le_refl _) hlt
    unfold behF at this
    rw [if_pos hlt] at this
    have h4 := of_decide_eq_true this
    have h5 := (ok.ri.nn k hlt).2
    have := ok.ba.2
    have := ok.nn
    omega
  · omega
def flA (D : Dv) (L : Lv) (u : Nat) : Dv := if u ≤ L.la then D else flD D (fst D L.h.ar.toNat) L.la u L.ys
theorem flA_lens (u : Nat) (k : Nat) : ((flA D L u).f k).length = (D.f k).length := by
  unfold flA
  split
  · rfl
  · exact flD_lens k
def flL (L : Lv) (u : Nat) : Lv := { L with la := max L.la u }
theorem sz_eq {D D' : Dv} (h : (D'.f 0).length = (D.f 0).length) : sz D' = sz D := by unfold sz; rw [h]
theorem LvOk.dev {D' : Dv} (ok : LvOk D L) (h : (D'.f 0).length = (D.f 0).length) : LvOk D' L := by
  obtain ⟨a, b, c, d, e, f, g, i, j, k, l⟩ := ok
  exact ⟨by rw [sz_eq h]; exact a, b, c, d, e, f, g, by rw [sz_eq h]; exact i, j, k, l⟩
theorem flA_few {m : Nat} (hm : D.Few m) (ok : LvOk D L) (u : Nat) (hu : u ≤ L.ys.length) : (flA D L u).Few (m + 701) := by
  unfold flA
  split
  · exact hm.more (by omega)
  · unfold flD
    refine synA_few' ((wrs_few _ D _ m hm).more ?_) 0
    have h1 : (lay7 ((L.ys.take u).drop (L.la / 127 * 127))).length ≤ 701 := by
      rw [lay_len, List.length_drop, List.length_take]
      unfold cnt
      have := ok.nn
      omega
    omega
theorem flush_any (h : LgAt w T t g fv D L) (ok : LvOk D L) (m : Nat) (hw : D.Few m) (hm : m ≤ 80000) (lsn : Int) :
    Calls Try.prog 47 #[.pointer (some ⟨t, 0, none⟩), .int .u64 lsn] w fun e w' => e = .returned (.tuple #[]) ∧ ∃ k, upK L lsn k ∧ LgAt w' (growS w w' T) t g fv (flA D L (endK L k)) (flL L (endK L k)) ∧ Fr T w w' := by
  obtain ⟨S, A, c, At, ct, h1, h2, h3, h4, h5, h6, h7, h8, h9⟩ := id h
  have hb : 0 ≤ L.h.ba ∧ L.h.ba + L.ys.length ≤ 18446744073709551615 := by have := ok.ba; have := ok.nn; omega
  have CB := behind_any w h1 L.ss (IR.of_own h4) ok.ssl lsn ok.ri (by have := ok.nn; omega) hb
  obtain ⟨k, hk⟩ : ∃ k, upK L lsn k := first_yes (behF L.h.ba lsn L.ss) L.ss.length (fun i j hij hi => behF_mono ok.ri i j hij hi)
  obtain ⟨e1, e2⟩ := endK_eq ok k
  have CB2 : Calls Try.prog 73 #[.pointer (some ⟨t, 0, none⟩), .int .u64 lsn] w fun e w' => e = .returned (.int .i64 (endK L k)) ∧ Below w.heap.size w w' := by
    refine CB.mono ?_
    rintro e w' ⟨r, rfl, hr, hbl⟩
    rw [first_eq hr hk, e1]
    exact ⟨rfl, hbl⟩
  obtain ⟨a, ha⟩ : ∃ a : Nat, L.h.ar = a := ⟨L.h.ar.toNat, by have := ok.ok.ar; omega⟩
  have ha1 : a ≤ 1 := by have := ok.ar; omega
  by_cases hu : endK L k ≤ L.la
  · refine (flush_none h1 lsn _ CB2 hu).mono ?_
    rintro e w' ⟨rfl, hbl⟩
    have f1 : flA D L (endK L k) = D := if_pos hu
    have f2 : flL L (endK L k) = L := by unfold flL; rw [Nat.max_eq_left hu]
    refine ⟨rfl, k, hk, ?_⟩
    rw [f1, f2]
    exact ⟨(h.later hbl).more (fun x hx => .inl hx), Fr.of_below hbl⟩
  · refine (flush_do h1 h2 h5 m hw hm ok.len18 a ha ha1 h3 ok.by_ ok.len ok.sz.2 lsn _ CB2 (by omega) e2).mono ?_
    rintro e w' ⟨rfl, b1, S', b2, b3, b4, b5⟩
    have f1 : flA D L (endK L k) = flD D (fst D a) L.la (endK L k) L.ys := by unfold flA; rw [if_neg hu, ha]; rfl
    have f2 : flL L (endK L k) = { L with la := endK L k } := by unfold flL; rw [Nat.max_eq_right (by omega)]
    have hfT : Fr T w w' := b3.mono (fun x _ hx => by
      rcases hx with hx | hx
      · exact h8 x hx
      · rw [hx]; exact h9)
    have hn' : ∀ {v : Value} {n : Nat} {tt : TypeId} {xs : List Value}, w.ownsRow 0 tt 1 v n xs → 89 ≠ tt → (∀ k, v.ownBlock = some k → ¬ S k ∧ T k) → w'.ownsRow 0 tt 1 v n xs ∧ ∀ k, v.ownBlock = some k → ¬ S' k ∧ growS w w' T k := fun {v n tt xs} ho hne hS =>
      ⟨Disk.own_frS ho b3 (fun k hk hx => by
        rcases hx with hx | hx
        · exact (hS k hk).1 hx
        · exact row_ne_box ho h1 (Ne.symm hne) (hx ▸ hk)), fun k hk => ⟨fun hx => by
        rcases b4 k hx with h10 | h10
        · exact (hS k hk).1 h10
        · have := (ho.lt k hk).2; omega, .inl (hS k hk).2⟩⟩
    obtain ⟨o1, o2⟩ := hn' h3 (by decide) h6
    obtain ⟨o3, o4⟩ := hn' h4 (by decide) h7
    refine ⟨rfl, k, hk, ?_⟩
    rw [f1, f2]
    refine ⟨⟨S', A, c, At, ct, b1, b2, o1, o3, b5, o2, o4, fun x hx => ?_, .inl h9⟩, hfT⟩
    rcases b4 x hx with h10 | h10
    · exact .inl (h8 x h10)
    · exact .inr ⟨h10, b2.old x hx⟩
end
end Go.Proofs.Yteggcehjpfmikaa.Wal
namespace Go.Proofs.Yteggcehjpfmikaa.Wal
open Go.ChangeShapes Go.WideShapes Go.ChangeAt Go.RowKit Go.IntWalk Go.Proofs.Mem Go.Proofs.Each Law Go.Proofs.Yteggcehjpfmikaa.Disk Strip
set_option linter.unusedVariables false
set_option linter.unusedSimpArgs false
theorem lg_step {w w' : World} {T S S' : Nat → Prop} {t g : Nat} {fv : Nat → Value} {D' : Dv} {L : Lv} {A At : Option Addr} {c ct : Nat} {C : Array Value}
    (h1 : Box w t C 89) (h3 : w.ownsRow 0 5 1 (.slice A L.ys.length c) L.ys.length (L.ys.map (.int .u8))) (h4 : w.ownsRow 0 3 1 (.slice At L.ss.length ct) L.ss.length (L.ss.map (.int .i64)))
    (h6 : ∀ k, (Value.slice A L.ys.length c).ownBlock = some k → ¬ S k ∧ T k) (h7 : ∀ k, (Value.slice At L.ss.length ct).ownBlock = some k → ¬ S k ∧ T k) (h8 : ∀ x, S x → T x) (h9 : T t)
    (h' : Hh) (se' la' : Nat) (b1 : Box w' t (lgC g h' se' (.slice A L.ys.length c) (.slice At L.ss.length ct) la') 89) (b2 : DX w' S' g fv D') (b3 : Fr (fun x => S x ∨ x = t) w w') (b4 : ∀ x, S' x → S x ∨ w.heap.size ≤ x) (b5 : ¬ S' t) :
    LgAt w' (growS w w' T) t g fv D' ⟨h', se', L.ys, L.ss, la'⟩ ∧ Fr T w w' := by
  have hfT : Fr T w w' := b3.mono (fun x _ hx => by
    rcases hx with hx | hx
    · exact h8 x hx
    · rw [hx]; exact h9)
  have hn' : ∀ {v : Value} {n : Nat} {tt : TypeId} {xs : List Value}, w.ownsRow 0 tt 1 v n xs → 89 ≠ tt → (∀ k, v.ownBlock = some k → ¬ S k ∧ T k) → w'.ownsRow 0 tt 1 v n xs ∧ ∀ k, v.ownBlock = some k → ¬ S' k ∧ growS w w' T k := fun {v n tt xs} ho hne hS =>
    ⟨Disk.own_frS ho b3 (fun k hk hx => by
      rcases hx with hx | hx
      · exact (hS k hk).1 hx
      · exact row_ne_box ho h1 (Ne.symm hne) (hx ▸ hk)), fun k hk => ⟨fun hx => by
      rcases b4 k hx with h10 | h10
      · exact (hS k hk).1 h10
      · have := (ho.lt k hk).2; omega, .inl (hS k hk).2⟩⟩
  obtain ⟨o1, o2⟩ := hn' h3 (by decide) h6
  obtain ⟨o3, o4⟩ := hn' h4 (by decide) h7
  refine ⟨⟨S', A, c, At, ct, b1, b2, o1, o3, b5, o2, o4, fun x hx => ?_, .inl h9⟩, hfT⟩
  rcases b4 x hx with h10 | h10
  · exact .inl (h8 x h10)
  · exact .inr ⟨h10, b2.old x hx⟩
theorem grow_grow {a b c : World} {T : Nat → Prop} (hab : a.heap.size ≤ b.heap.size) (hbc : b.heap.size ≤ c.heap.size) : ∀ x, growS b c (growS a b T) x → growS a c T x := fun x hx => by
  rcases hx with (hx | hx) | hx
  · exact .inl hx
  · exact .inr (by omega)
  · exact .inr (by omega)
theorem fr_grow {a b c : World} {T : Nat → Prop} (h : Fr T a b) (k : Fr (growS a b T) b c) : Fr T a c := h.trans' k (fun i hi hx => by
  rcases hx with hx | hx
  · exact hx
  · omega)
section
variable {w : World} {T : Nat → Prop} {t g : Nat} {fv : Nat → Value} {D : Dv} {L : Lv}
def mkL (L : Lv) (ch : Int) : Lv := ⟨⟨L.h.st + 1, L.h.ar, L.h.ba, ch⟩, 1 - L.se, L.ys, L.ss, L.ys.length⟩
def mkD (D : Dv) (L : Lv) (ch : Int) : Dv := hdD (flA D L L.ys.length) (1 - L.se) (mkL L ch).h.img
theorem fl_all (ok : LvOk D L) : flL L L.ys.length = { L with la := L.ys.length } := by unfold flL; rw [Nat.max_eq_right ok.la]
theorem flush_all (h : LgAt w T t g fv D L) (ok : LvOk D L) (h0 : L.ss.length = 0 → L.ys.length = 0) (m : Nat) (hw : D.Few m) (hm : m ≤ 80000) :
    Calls Try.prog 47 #[.pointer (some ⟨t, 0, none⟩), .int .u64 18446744073709551615] w fun e w' => e = .returned (.tuple #[]) ∧ LgAt w' (growS w w' T) t g fv (flA D L L.ys.length) { L with la := L.ys.length } ∧ Fr T w w' := by
  refine (flush_any h ok m hw hm 18446744073709551615).mono ?_
  rintro e w' ⟨rfl, k, hk, h1, h2⟩
  rw [endK_all k (upK_all ok hk) h0, fl_all ok] at h1
  exact ⟨rfl, h1, h2⟩
set_option maxRecDepth 100000 in
set_option maxHeartbeats 8000000 in
theorem mark_any (h : LgAt w T t g fv D L) (ok : LvOk D L) (h0 : L.ss.length = 0 → L.ys.length = 0) (m : Nat) (hw : D.Few m) (hm : m ≤ 80000) (lsn : Int) (hlsn : 0 ≤ lsn ∧ lsn ≤ 18446744073709551615) :
    Calls Try.prog 26 #[.pointer (some ⟨t, 0, none⟩), .int .u64 lsn] w fun e w' => e = .returned (.tuple #[]) ∧ LgAt w' (growS w w' T) t g fv (mkD D L lsn) (mkL L lsn) ∧ Fr T w w' := by
  have CF := Lib.hid (flush_all h ok h0 m hw hm)
  have hfw := flA_few hw ok L.ys.length (Nat.le_refl _)
  have hlen := flA_lens (D := D) (L := L) L.ys.length 0
  have h18 := ok.len18
  have OK := Lib.hid ok
  have HFW := Lib.hid (hfw.more (show m + 701 ≤ 90000 by omega))
  have HLEN := Lib.hid (show 2 ≤ ((flA D L L.ys.length).f 0).length by rw [hlen]; omega)
  have HLS := Lib.hid hlsn
  have hgoal : mkD D L lsn = hdD (flA D L L.ys.length) (1 - L.se) (Hh.img { (⟨L.h.st, L.h.ar, L.h.ba, lsn⟩ : Hh) with st := L.h.st + 1 }) := rfl
  rw [hgoal]
  obtain ⟨D1, hD1⟩ : ∃ D1, flA D L L.ys.length = D1 := ⟨_, rfl⟩
  rw [hD1] at CF HFW HLEN ⊢
  clear h ok hw hm hfw hlen h18 hD1 hgoal h0 hlsn
  go_enter Try.func26, Try.ntmps26
  go_wp2_with fail
  (with_reducible refine (CF.out).mono ?_)
  rintro e w1 ⟨rfl, h1, hf1⟩
  obtain ⟨S, A, c, At, ct, g1, g2, g3, g4, g5, g6, g7, g8, g9⟩ := h1
  dsimp only at g1 g3 g4 g6 g7
  have k4 := g1.cell 4
  have n4 := g1.frozen 4
  have X2 := g1.set_ 4 (.int .u64 lsn)
  simp only [List.setIfInBounds_toArray, List.set_cons_succ, List.set_cons_zero] at X2
  have hf2 := (Fr.refl (fun x => x = t) w1).setCell (p := ⟨t, 4, none⟩) (.inl rfl) (.int .u64 lsn)
  have hd2 := g2.far hf2 (fun x hx e => g5 (e ▸ hx))
  obtain ⟨w2, hw2⟩ : ∃ w2, w1.setCell ⟨t, 4, none⟩ (.int .u64 lsn) = w2 := ⟨_, rfl⟩
  rw [hw2] at X2 hf2 hd2
  have CH := Lib.hid (head_any hd2 HFW.out t ⟨L.h.st, L.h.ar, L.h.ba, lsn⟩ L.se L.ys.length _ _ X2 g5 ⟨OK.out.ok.st, OK.out.ok.ar, OK.out.ok.ba, HLS.out⟩ (by have := OK.out.st; dsimp only; omega) OK.out.se HLEN.out)
  have P := Lib.hid (⟨g1, g3, g4, g6, g7, g8, g9⟩ : _ ∧ _ ∧ _ ∧ _ ∧ _ ∧ _ ∧ _)
  have HF1 := Lib.hid hf1
  have HF2 := Lib.hid hf2
  clear g1 g2 g3 g4 g5 g6 g7 g8 g9 X2 hd2 hf1 hf2
  go_wp2_with fail
  (with_reducible refine (CH.out).mono ?_)
  rintro e w3 ⟨rfl, b1, S3, b2, b3, b4, b5⟩
  go_wp2
  go_end0
  obtain ⟨g1, g3, g4, g6, g7, g8, g9⟩ := P.out
  have hb3 : Fr (fun x => S x ∨ x = t) w1 w3 := (HF2.out.mono (fun _ _ hx => .inr hx)).trans b3
  have hs2 := HF2.out.size
  obtain ⟨r1, r2⟩ := lg_step (L := L) g1 g3 g4 g6 g7 g8 g9 ⟨L.h.st + 1, L.h.ar, L.h.ba, lsn⟩ (1 - L.se) L.ys.length b1 b2 hb3 (fun x hx => (b4 x hx).imp id (fun h => by omega)) b5
  exact ⟨rfl, r1.more (grow_grow HF1.out.size r2.size), fr_grow HF1.out r2⟩
end
end Go.Proofs.Yteggcehjpfmikaa.Wal
