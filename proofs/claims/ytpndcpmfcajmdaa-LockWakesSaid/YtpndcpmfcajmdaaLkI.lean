import Derived.Test.YtpndcpmfcajmdaaLkF
/- Locks: an empty table; what one waits for; what one holds. -/
namespace Go.Proofs.Ytpndcpmfcajmdaa.Lock
open Go.ChangeShapes Go.WideShapes Go.ChangeAt Go.RowKit Go.IntWalk Go.Proofs.Mem Law Go.Shelf Go.Proofs.Each
set_option linter.unusedVariables false
set_option linter.unusedSimpArgs false
def T0 : Tb := ⟨fun _ => En.none, fun _ => none⟩
theorem new_tab (w : World) : Calls Try.prog 10 #[] w fun r w' => ∃ t S, r = .returned (.pointer (some ⟨t, 0, none⟩)) ∧ TabAt w' S 0 0 t T0 ∧ (∀ x, S x → w.heap.size ≤ x) ∧ Below w.heap.size w w' := by
  refine (new_any w).mono ?_
  rintro r w' ⟨t, mk, mw, rfl, h1, h2, h3, h4, h5, h6, hb, f1, f2, hbl⟩
  refine ⟨t, fun x => x = t ∨ x = mk ∨ x = mw, rfl, ⟨fun _ => none, mk, mw, 0, 0, fun _ => none, hb, f1, f2, Nat.le_refl _, Nat.le_refl _, h4, .inl rfl, .inr (.inl rfl), .inr (.inr rfl), ?_, rfl, rfl, rfl, fun _ => rfl⟩, ?_, hbl⟩
  · rintro x (rfl | rfl | rfl)
    · exact hb.lt
    · exact f1.lt
    · exact f2.lt
  · rintro x (rfl | rfl | rfl)
    · exact h1
    · exact h2
    · exact h3
def zHd : Hd := ⟨0, 0, 0, 0⟩
set_option maxRecDepth 100000 in
set_option maxHeartbeats 8000000 in
theorem waits_any (w : World) (S : Nat → Prop) (N L t : Nat) (T : Tb) (txn : Int) (h : TabAt w S N L t T) (ht : U32 txn) :
    Calls Try.prog 20 #[.pointer (some ⟨t, 0, none⟩), .int .u32 txn] w fun e w' => e = .returned (.tuple #[((T.wt txn).getD zHd).v, .bool (T.wt txn).isSome]) ∧ Below w.heap.size w w' := by
  obtain ⟨col, mk, mw, nk, nw, K, h⟩ := h
  obtain ⟨hd, hhd⟩ : ∃ hd, (T.wt txn).getD zHd = hd := ⟨_, rfl⟩
  obtain ⟨q, hq⟩ : ∃ q, (T.wt txn).isSome = q := ⟨_, rfl⟩
  have b1 := new_ (Below.refl w.heap.size w) (.cells #[.int .u8 0, .int .u32 0, .int .u32 0, .int .u8 0] 45)
  have h1 := h.later b1
  have X4 := Box.new w #[.int .u8 0, .int .u32 0, .int .u32 0, .int .u8 0] 45
  obtain ⟨x4, hx4⟩ : ∃ x, w.heap.size = x := ⟨_, rfl⟩
  have s1 : (w.alloc (.cells #[.int .u8 0, .int .u32 0, .int .u32 0, .int .u8 0] 45)).heap.size = x4 + 1 := by rw [← hx4]; simp
  rw [hx4] at X4 b1 ⊢
  obtain ⟨w1, hw1⟩ : ∃ w1, w.alloc (.cells #[.int .u8 0, .int .u32 0, .int .u32 0, .int .u8 0] 45) = w1 := ⟨_, rfl⟩
  rw [hw1] at b1 h1 X4 s1
  have lkW : (Instr.lookup 57 (.map (some mw)) (.int .u32 txn) true).run Try.prog w1 = .ok (.tuple #[.agg #[.int .u8 hd.k, .int .u32 hd.a, .int .u32 hd.b, .int .u8 hd.m], .bool q]) w1 := by
    have := (h1.fw.look (t := 57) Try.underlying57 zHd (zeroH w1) txn (ku_ok.2 ht)).2
    rw [hq, hhd] at this
    exact this
  have k1 : w1.cell? ⟨t, 1, none⟩ = some (.map (some mw)) := by rw [h1.box.cell 1]; rfl
  rw [hhd, hq]
  have HB := Lib.hid b1
  have HX := Lib.hid X4
  have b2 := new_ (Below.refl w1.heap.size w1) (.cells #[.int .u8 hd.k, .int .u32 hd.a, .int .u32 hd.b, .int .u8 hd.m] 45)
  have X6 := Box.new w1 #[.int .u8 hd.k, .int .u32 hd.a, .int .u32 hd.b, .int .u8 hd.m] 45
  have X42 := X4.later b2
  rw [s1] at X6
  obtain ⟨w2, hw2⟩ : ∃ w2, w1.alloc (.cells #[.int .u8 hd.k, .int .u32 hd.a, .int .u32 hd.b, .int .u8 hd.m] 45) = w2 := ⟨_, rfl⟩
  rw [hw2] at b2 X6 X42
  have c6 := X6.cell
  have c4 := X42.cell
  have f4 := X42.frozen
  have B2 := Lib.hid (show Below x4 w w2 from b1.trans (b2.mono (by omega)))
  clear h h1 b1 X4 b2 X6 hhd hq
  go_enter Try.func20, Try.ntmps20
  go_wp2
  have Y := Box.set_ (Box.set_ (Box.set_ (Box.set_ X42 0 (.int .u8 hd.k)) 1 (.int .u32 hd.a)) 2 (.int .u32 hd.b)) 3 (.int .u8 hd.m)
  have BY := (((B2.out.setCell (p := ⟨x4, 0, none⟩) (Nat.le_refl _) (.int .u8 hd.k)).setCell (p := ⟨x4, 1, none⟩) (Nat.le_refl _) (.int .u32 hd.a)).setCell (p := ⟨x4, 2, none⟩) (Nat.le_refl _) (.int .u32 hd.b)).setCell (p := ⟨x4, 3, none⟩) (Nat.le_refl _) (.int .u8 hd.m)
  generalize ((((w2.setCell ⟨x4, 0, none⟩ (.int .u8 hd.k)).setCell ⟨x4, 1, none⟩ (.int .u32 hd.a)).setCell ⟨x4, 2, none⟩ (.int .u32 hd.b)).setCell ⟨x4, 3, none⟩ (.int .u8 hd.m)) = w3 at Y BY ⊢
  have y0 : w3.cell? ⟨x4, 0, none⟩ = some (.int .u8 hd.k) := by rw [Y.cell 0]; rfl
  have y1 : w3.cell? ⟨x4, 1, none⟩ = some (.int .u32 hd.a) := by rw [Y.cell 1]; rfl
  have y2 : w3.cell? ⟨x4, 2, none⟩ = some (.int .u32 hd.b) := by rw [Y.cell 2]; rfl
  have y3 : w3.cell? ⟨x4, 3, none⟩ = some (.int .u8 hd.m) := by rw [Y.cell 3]; rfl
  refine bodyPost_ret (v := .tuple #[.agg #[.int .u8 hd.k, .int .u32 hd.a, .int .u32 hd.b, .int .u8 hd.m], .bool q]) (by simp [results, Try.results20, go_sem, y0, y1, y2, y3]) rfl ⟨rfl, BY⟩
def cHd (x : Hd) : List Value := [.int .u8 x.k, .int .u32 x.a, .int .u32 x.b, .int .u8 x.m]
theorem cHd_len (x : Hd) : (cHd x).length = 4 := rfl
theorem cHd_one (y : Hd) : ∀ u ∈ cHd y, u.oneCell' = true := by
  intro u hu
  simp [cHd] at hu
  rcases hu with rfl | rfl | rfl | rfl <;> rfl
theorem hd_info : (Try.prog.info? 45).map (fun i => (i.zero, i.size, i.bytes)) = some (some (.agg #[.int .u8 0, .int .u32 0, .int .u32 0, .int .u8 0]), 4, 16) := by kernel_rfl
/-- what t holds, of these keys -/
def hlist (T : Tb) (t : Int) (ks : List Ky) : List Hd := ks.filterMap fun k => ((T.ent k).hv t).map (hdOf k)
theorem hlist_take {T : Tb} {t : Int} {ks : List Ky} {i : Nat} {k : Ky} (h : ks[i]? = some k) : hlist T t (ks.take (i + 1)) = hlist T t (ks.take i) ++ (((T.ent k).hv t).map (hdOf k)).toList := by
  unfold hlist
  rw [List.take_add_one, h, List.filterMap_append]
  cases hh : (T.ent k).hv t <;> simp [hh]
theorem hlist_len (T : Tb) (t : Int) (ks : List Ky) : (hlist T t ks).length ≤ ks.length := List.length_filterMap_le _ _
theorem SS.frx {α : Type} {F : α → List Value} {sz : Nat} {w w' : World} {B : Nat} {v : Value} {xs : List α} {R : Nat → Prop} (h : SS F sz w B v xs) (hf : Fr R w w') (hB : B ≤ w.heap.size) (hr : ∀ b, v.ownBlock = some b → ¬ R b) : SS F sz w' B v xs := by
  obtain ⟨A, c, h1, h2, h3, h5⟩ := h
  refine ⟨A, c, h1, h2, h3, fun i x hx => ?_⟩
  obtain ⟨b, off, e, hb, hc⟩ := h5 i x hx
  refine ⟨b, off, e, hb, fun j u hu => ?_⟩
  rw [hf.cell (p := ⟨b, off + i * sz + j, none⟩) (by show b < _; omega) (hr b (by rw [h1, e]; rfl))]
  exact hc j u hu
set_option maxRecDepth 100000 in
set_option maxHeartbeats 16000000 in
theorem tholds_any (w : World) (S : Nat → Prop) (N L t : Nat) (T : Tb) (txn : Int) (h : TabAt w S N L t T) (ht : U32 txn) (hN : N ≤ 50000) :
    Calls Try.prog 17 #[.pointer (some ⟨t, 0, none⟩), .int .u32 txn] w fun e w' => ∃ v ks, e = .returned v ∧ OfL T txn ks ∧ w'.ownsRow w.heap.size 45 4 v (hlist T txn ks).length ((hlist T txn ks).flatMap cHd) ∧ Below w.heap.size w w' := by
  obtain ⟨j0, hj0, hj1, hj2, hj3⟩ := info_parts hd_info
  have COF := Lib.hid (of_any w S N L t T txn h ht hN)
  obtain ⟨col, mk, mw, nk, nw, K, h⟩ := h
  have HT := Lib.hid h
  have HTX := Lib.hid ht
  have HN := Lib.hid hN
  clear h ht hN
  go_enter Try.func17, Try.ntmps17
  go_wp2_with (go_at_call 33; (with_reducible refine COF.out.mono ?_); rintro er w3 ⟨vk, ks, rfl, hss, hof, hkn, hvb, hb3⟩; obtain ⟨Ak, ck, hvk, hck1, hck2⟩ := hss.form; have HSS := Lib.hid hss; have HOF := Lib.hid hof; have HB3 := Lib.hid hb3; have HKN := Lib.hid hkn; have hk63 : (ks.length : Int) ≤ 9223372036854775807 := (by unfold maxLen at hck2; omega); clear hss hof hvb hb3 hkn hck1 hck2; subst hvk)
  have HT3 := Lib.hid (HT.out.later HB3.out)
  obtain ⟨NK, hNK⟩ : ∃ NK, ks.length = NK := ⟨_, rfl⟩
  rw [hNK] at HSS HKN hk63 ⊢
  have HNK := Lib.hid hNK
  clear hNK COF HT
  go_loopw [5, 7, 8, 9, 14] (fun s5 _ _ _ s14 wr => ∃ (i : Nat) (A : Option Addr) (n c : Nat) (hs : List Hd), s5 = .slice A n c ∧ s14 = .int .i64 i ∧ i ≤ NK ∧ Hid (n = hs.length) ∧ Hid (hs = hlist T txn (ks.take i)) ∧ Hid (wr.ownsRow w3.heap.size 45 4 (.slice A n c) hs.length (hs.flatMap cHd)) ∧ Hid (Below w3.heap.size w3 wr)) (fun _ _ _ _ s14 _ => NK - (intOf s14).toNat)
  case atStart => exact ⟨0, none, 0, 0, [], rfl, rfl, Nat.zero_le _, Lib.hid rfl, Lib.hid rfl, Lib.hid (World.ownsRow_nil _ _ _ _), Lib.hid (Below.refl _ _)⟩
  case round =>
    obtain ⟨i, A, n5, c5, hs, rfl, rfl, hi, HN5, HR, HO, HB⟩ := hrel
    obtain ⟨w4, rfl⟩ : ∃ w4, w4 = wr := ⟨wr, rfl⟩
    by_cases hil : i < NK
    · have d1 : decide ((i : Int) < (NK : Int)) = true := by simp; omega
      have d1' : decide (i < NK) = true := by simp; omega
      obtain ⟨k, hk⟩ : ∃ k, ks[i]? = some k := ⟨_, List.getElem?_eq_getElem (by have := HNK.out; omega)⟩
      obtain ⟨bk, ok, hAk, hbk, hcell⟩ := HSS.out.at_ hk
      have r0 : w4.cell? ⟨bk, ok + i * 3, none⟩ = some (.int .u8 k.k) := (HB.out.cell (p := ⟨bk, ok + i * 3, none⟩) hbk).trans (hcell 0 _ rfl)
      have r1 : w4.cell? ⟨bk, ok + i * 3 + 1, none⟩ = some (.int .u32 k.a) := (HB.out.cell (p := ⟨bk, ok + i * 3 + 1, none⟩) hbk).trans (hcell 1 _ rfl)
      have r2 : w4.cell? ⟨bk, ok + i * 3 + 2, none⟩ = some (.int .u32 k.b) := (HB.out.cell (p := ⟨bk, ok + i * 3 + 2, none⟩) hbk).trans (hcell 2 _ rfl)
      obtain ⟨b0, hb0⟩ := HT3.out.has_ ((HOF.out.mem k).1 (List.mem_of_getElem? hk))
      have hb5 := new_ (Below.refl w4.heap.size w4) (.cells #[.int .u8 k.k, .int .u32 k.a, .int .u32 k.b] 81)
      have HT5 := Lib.hid ((HT3.out.later HB.out).later hb5)
      obtain ⟨e, m, n, lv, rfl, hE⟩ := HT5.out.is hb0
      have HO5 := Lib.hid (own_below HO.out hb5)
      have HB5 := Lib.hid (HB.out.trans (hb5.mono HB.out.size))
      have HX7 := Lib.hid (Box.new w4 #[.int .u8 k.k, .int .u32 k.a, .int .u32 k.b] 81)
      have HTK := Lib.hid (hlist_take (T := T) (t := txn) hk)
      subst hAk
      go_upto_region 5 with fail
      obtain ⟨x7, hx7⟩ : ∃ x7, w4.heap.size = x7 := ⟨_, rfl⟩
      obtain ⟨w5, hw5⟩ : ∃ w5, w4.alloc (.cells #[.int .u8 k.k, .int .u32 k.a, .int .u32 k.b] 81) = w5 := ⟨_, rfl⟩
      rw [hw5] at HT5 HO5 HB5 HX7 hE
      rw [hx7] at HX7
      rw [hx7, hw5]
      obtain ⟨hm, hhm⟩ : ∃ hm, ((T.ent k).hv txn).getD 0 = hm := ⟨_, rfl⟩
      obtain ⟨q, hq⟩ : ∃ q, ((T.ent k).hv txn).isSome = q := ⟨_, rfl⟩
      have c50 : w5.cell? ⟨t, 0, none⟩ = some (.map (some mk)) := by rw [HT5.out.box.cell 0]; rfl
      have c60 : w5.cell? ⟨e, 0, none⟩ = some (.map (some m)) := by rw [hE.box.cell 0]; rfl
      have c70 : w5.cell? ⟨x7, 0, none⟩ = some (.int .u8 k.k) := by rw [HX7.out.cell 0]; rfl
      have c71 : w5.cell? ⟨x7, 1, none⟩ = some (.int .u32 k.a) := by rw [HX7.out.cell 1]; rfl
      have c72 : w5.cell? ⟨x7, 2, none⟩ = some (.int .u32 k.b) := by rw [HX7.out.cell 2]; rfl
      have lk : ∀ d, (Instr.lookup 56 (.map (some mk)) (.agg #[.int .u8 k.k, .int .u32 k.a, .int .u32 k.b]) false).run Try.prog (w5.drewN d) = .ok (.pointer (some ⟨e, 0, none⟩)) (w5.drewN d) := fun d => by
        have h1 := ((HT5.out.fk.drewN d).look Try.underlying56 none (zeroP _) k (FMok HT5.out.fk hb0)).1
        rw [hb0] at h1
        exact h1
      have lkH : ∀ d, (Instr.lookup 83 (.map (some m)) (.int .u32 txn) true).run Try.prog (w5.drewN d) = .ok (.tuple #[.int .u8 hm, .bool q]) (w5.drewN d) := fun d => by
        have h1 := ((hE.fm.drewN d).look (t := 83) Try.underlying83 0 (zeroM _) txn (ku_ok.2 HTX.out)).2
        rw [hhm, hq] at h1
        exact h1
      have HQ := Lib.hid (⟨hhm, hq⟩ : ((T.ent k).hv txn).getD 0 = hm ∧ ((T.ent k).hv txn).isSome = q)
      clear hk hcell hbk r0 r1 r2 hb0 hb5 hE hw5 hhm hq HT5 HO HB
      go_quiet (fail)
      have bq : Below w5.heap.size w5 (w5.drewN nq) := below_drewN (Below.refl _ _) nq
      have HO6 := Lib.hid (own_below HO5.out bq)
      have HB6 := Lib.hid (HB5.out.trans (bq.mono HB5.out.size))
      have HX76 := Lib.hid (HX7.out.later bq)
      clear bq HO5 HB5 HX7 c50 c60 c70 c71 c72 lk lkH hx7
      obtain ⟨w6, hw6⟩ : ∃ w6, w5.drewN nq = w6 := ⟨_, rfl⟩
      rw [hw6] at HO6 HB6 HX76 ⊢
      clear hw6
      have c70 : w6.cell? ⟨x7, 0, none⟩ = some (.int .u8 k.k) := by rw [HX76.out.cell 0]; rfl
      have c71 : w6.cell? ⟨x7, 1, none⟩ = some (.int .u32 k.a) := by rw [HX76.out.cell 1]; rfl
      have c72 : w6.cell? ⟨x7, 2, none⟩ = some (.int .u32 k.b) := by rw [HX76.out.cell 2]; rfl
      have HL := Lib.hid (show hs.length ≤ i by rw [HR.out]; exact Nat.le_trans (hlist_len _ _ _) (by rw [List.length_take]; omega))
      cases q with
      | true =>
        have HNX := Lib.hid (show hs ++ [⟨k.k, k.a, k.b, hm⟩] = hlist T txn (ks.take (i + 1)) by
          rw [HTK.out, HR.out]
          have h1 := HQ.out
          cases hh : (T.ent k).hv txn with
          | none => rw [hh] at h1; cases h1.2
          | some z => rw [hh] at h1; have : z = hm := h1.1; rw [this]; rfl)
        go_wp2_with (at_builtin; refine wpList_push_ss (F := cHd) (sz := 4) _ rfl _ _ _ rfl w3.heap.size 45 j0 _ 16 Try.underlying41 hj0 hj1 hj2 hj3 rfl (by decide) cHd_len cHd_one _ hs rfl (own_below HO6.out (new_ (Below.refl _ _) (.cells #[.int .u8 k.k, .int .u32 k.a, .int .u32 k.b, .int .u8 hm] 45))) w6.heap.size ⟨k.k, k.a, k.b, hm⟩ 45 rfl (Box.new w6 _ _) (by have := HL.out; have := HKN.out; have := HN.out; unfold maxLen; omega) (by have := HL.out; have := HKN.out; have := HN.out; omega) (by have := HB6.out.size; simp; omega) ?_; intro v9 w9 hown ht9)
        have tt := (RowTo.of_below (new_ (Below.refl w6.heap.size w6) (.cells #[.int .u8 k.k, .int .u32 k.a, .int .u32 k.b, .int .u8 hm] 45)) (.slice A n5 c5)).trans ht9
        obtain ⟨A9, n9, c9, rfl⟩ : ∃ A n c, v9 = .slice A n c := by
          rcases hown.2 with ⟨rfl, _⟩ | ⟨g', cap, cur, rfl, _⟩
          · exact ⟨_, _, _, rfl⟩
          · exact ⟨_, _, _, rfl⟩
        have hn9 : n9 = (hs ++ [(⟨k.k, k.a, k.b, hm⟩ : Hd)]).length := by
          rcases hown.2 with ⟨_, e2⟩ | ⟨g', cap, cur, e1, _⟩
          · simp at e2
          · injection e1 with _ e2 _
        have HB9 := Lib.hid (HB6.out.trans (tt.below (fun b hb => (HO6.out.lt b hb).1) HB6.out.size))
        have HO9 := Lib.hid hown
        have HN9 := Lib.hid hn9
        clear hown ht9 tt hn9
        go_wp2
        go_roundw
        case rel => exact ⟨i + 1, A9, n9, c9, _, rfl, by go_num, by omega, HN9, HNX, HO9, HB9⟩
        case measure => simp [intOf]; omega
      | false =>
        have HNX := Lib.hid (show hs = hlist T txn (ks.take (i + 1)) by
          rw [HTK.out, HR.out]
          have h1 := HQ.out
          cases hh : (T.ent k).hv txn with
          | none => simp
          | some z => rw [hh] at h1; cases h1.2)
        go_wp2
        go_roundw
        case rel => exact ⟨i + 1, A, n5, c5, hs, rfl, by go_num, by omega, HN5, HNX, HO6, HB6⟩
        case measure => simp [intOf]; omega
    · have hiN : i = NK := by omega
      have d1 : decide ((i : Int) < (NK : Int)) = false := by simp; omega
      have d1' : decide (i < NK) = false := by simp; omega
      have HRR := Lib.hid (show hs = hlist T txn ks by have := HR.out; rw [hiN, ← HNK.out, List.take_length] at this; exact this)
      clear hiN
      go_wp2
      go_ret
      refine ⟨_, ks, rfl, HOF.out, ?_, HB3.out.trans (HB.out.mono HB3.out.size)⟩
      have h1 := own_lower HO.out HB3.out.size
      rw [HRR.out] at h1
      exact h1
end Go.Proofs.Ytpndcpmfcajmdaa.Lock
