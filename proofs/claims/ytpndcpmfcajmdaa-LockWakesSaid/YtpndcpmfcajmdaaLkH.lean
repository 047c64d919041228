import Derived.Test.YtpndcpmfcajmdaaLkG
import Derived.Laws.EntriesVeiled
/- Locks: Release. -/
namespace Go.Proofs.Ytpndcpmfcajmdaa.Lock
open Go.ChangeShapes Go.WideShapes Go.ChangeAt Go.RowKit Go.IntWalk Go.Proofs.Mem Law Go.Shelf Go.Proofs.Each
set_option linter.unusedVariables false
set_option linter.unusedSimpArgs false
def sLen : Value → Nat
  | .slice _ n _ => n
  | _ => 0
theorem SS.fr {α : Type} {F : α → List Value} {sz : Nat} {w w' : World} {B : Nat} {v : Value} {xs : List α} {R : Nat → Prop} (h : SS F sz w B v xs) (hf : Fr R w w') (hB : B ≤ w.heap.size) (hr : ∀ b, v.ownBlock = some b → ¬ R b) : SS F sz w' B v xs := by
  obtain ⟨A, c, h1, h2, h3, h5⟩ := h
  refine ⟨A, c, h1, h2, h3, fun i x hx => ?_⟩
  obtain ⟨b, off, e, hb, hc⟩ := h5 i x hx
  refine ⟨b, off, e, hb, fun j u hu => ?_⟩
  rw [hf.cell (p := ⟨b, off + i * sz + j, none⟩) (by show b < _; omega) (hr b (by rw [h1, e]; rfl))]
  exact hc j u hu
/-- the line without its first one: as e.line[1:] gives it -/
theorem LnAt.tail {w : World} {b off n cap : Nat} {p : Pl} {l : List Pl} (h : LnAt w 0 (.slice (some ⟨b, off, none⟩) n cap) (p :: l)) : n = l.length + 1 ∧ 1 ≤ cap ∧ (cap = 1 → l = []) ∧ LnAt w 0 (if cap = 1 then .slice (some ⟨b, off, none⟩) 0 0 else .slice (some ⟨b, off + 2, none⟩) l.length (cap - 1)) l := by
  rcases h with ⟨h1, _⟩ | ⟨b', pre, post, cap', h1, h2, h3, h4, h5, h6⟩
  · cases h1
  · injection h1 with h1 hn hc
    injection h1 with h1
    injection h1 with h1a h1b
    subst h1a hc
    have hln : (p :: l).length = l.length + 1 := rfl
    rw [hln] at hn h4 h6
    refine ⟨hn, by omega, fun hc => List.eq_nil_of_length_eq_zero (by omega), ?_⟩
    by_cases hc : cap = 1
    · rw [if_pos hc]
      have hl0 : l = [] := List.eq_nil_of_length_eq_zero (by omega)
      subst hl0
      refine .inr ⟨b, pre, cPl p ++ post, 0, by rw [h1b]; rfl, Nat.zero_le _, ?_, Nat.le_refl _, Nat.zero_le _, Nat.zero_le _⟩
      simpa [Pls, List.append_assoc] using h3
    · rw [if_neg hc]
      refine .inr ⟨b, pre ++ cPl p, post, cap - 1, by rw [h1b]; simp [cPl], Nat.zero_le _, ?_, by omega, by omega, by omega⟩
      simpa [Pls, List.append_assoc] using h3
theorem rel_has {T : Tb} {t : Int} : ∀ {ks : List Ky} {k : Ky}, k ∉ ks → (relAll T t ks).1.ent k = T.ent k := by
  intro ks k hk
  unfold relAll
  suffices h : ∀ (ks : List Ky) (s : Tb × List Int), k ∉ ks → (ks.foldl (relOne t) s).1.ent k = s.1.ent k from h ks _ hk
  intro ks
  induction ks with
  | nil => intro s _; rfl
  | cons x ks ih =>
    intro s h
    rw [List.foldl_cons, ih _ (fun h' => h (List.mem_cons_of_mem _ h'))]
    exact set_other _ _ (fun e => h (by rw [e]; exact List.mem_cons_self ..))
/-- one is let have the key: as the table is meant -/
def Tb.with_ (T : Tb) (k : Ky) (e : En) (g : List Int) : Tb := ⟨(T.set k e).ent, stopAll T.wt g⟩
theorem with_set (T : Tb) (k : Ky) (e e' : En) (g : List Int) : (T.with_ k e g).set k e' = T.with_ k e' g := by
  unfold Tb.with_ Tb.set
  simp only [Tb.mk.injEq, and_true]
  funext y
  by_cases h : y = k <;> simp [h]
theorem with_stop (T : Tb) (k : Ky) (e : En) (g : List Int) (x : Int) : (⟨(T.with_ k e g).ent, fdel (T.with_ k e g).wt x⟩ : Tb) = T.with_ k e (g ++ [x]) := by
  unfold Tb.with_
  rw [stopAll_snoc]
theorem with_at (T : Tb) (k : Ky) (e : En) (g : List Int) : (T.with_ k e g).ent k = e := set_same _ _ _
theorem u32_info : (Try.prog.info? 29).map (fun i => (i.zero, i.size, i.bytes)) = some (some (.int .u32 0), 1, 4) := by kernel_rfl
theorem with_nil (T : Tb) (k : Ky) (e : En) : T.with_ k e [] = T.set k e := by unfold Tb.with_; rw [stopAll_nil]; rfl
/-- does the first one in line get it? -/
noncomputable def goes (h : Int → Option Int) : List Pl → Bool
  | [] => false
  | p :: _ => fit h p.t p.m
theorem goes_no {h : Int → Option Int} {l : List Pl} (hg : goes h l = false) : wake h l = (h, l, []) := by
  cases l with
  | nil => rw [wake_nil]
  | cons p l => exact wake_no hg
theorem u32_flat (l : List Int) : (l.flatMap fun x => [Value.int .u32 x]) = l.map (.int .u32) := by
  induction l with
  | nil => rfl
  | cons x l ih => simp [List.flatMap_cons, ih]
theorem fit_none (t m : Int) : fit (fun _ => none) t m = true := fit_true (fun x md h => by cases h)
theorem wake_empty {l : List Pl} (h : wake (fun _ => none) l = (fun _ => none, l, [])) : l = [] := by
  cases l with
  | nil => rfl
  | cons p l =>
    rw [wake_yes (fit_none _ _)] at h
    injection h with _ h
    injection h with _ h
    cases h
set_option maxRecDepth 100000 in
set_option maxHeartbeats 16000000 in
theorem release_any (w : World) (S : Nat → Prop) (N L t : Nat) (T : Tb) (txn : Int) (h : TabAt w S N L t T) (ht : U32 txn) (hN : N ≤ 50000) (hL : L ≤ 50000) :
    Calls Try.prog 21 #[.pointer (some ⟨t, 0, none⟩), .int .u32 txn] w fun e w' => ∃ v ks T' got, e = .returned v ∧ OfL T txn ks ∧ relAll (T.stop txn) txn ks = (T', got) ∧ w'.ownsRow w.heap.size 29 1 v got.length (got.map (.int .u32)) ∧ TabAt w' S (N + got.length) L t T' ∧ Fr S w w' := by
  obtain ⟨col, mk, mw, nk, nw, K, h⟩ := h
  obtain ⟨j0, hj0, hj1, hj2, hj3⟩ := info_parts u32_info
  have b1 := new_ (Below.refl w.heap.size w) (.cells #[.int .u32 txn] 29)
  have X3 := Box.new w #[.int .u32 txn] 29
  have h1 := h.later b1
  obtain ⟨x3, hx3⟩ : ∃ x3, w.heap.size = x3 := ⟨_, rfl⟩
  have hs1 : (w.alloc (.cells #[.int .u32 txn] 29)).heap.size = x3 + 1 := by rw [← hx3]; simp
  rw [hx3] at X3 b1 ⊢
  have hold : ∀ y, S y → y < x3 := fun y hy => by rw [← hx3]; exact h.old y hy
  obtain ⟨w1, hw1⟩ : ∃ w1, w.alloc (.cells #[.int .u32 txn] 29) = w1 := ⟨_, rfl⟩
  rw [hw1] at X3 b1 h1 hs1
  have HT1 := Lib.hid h1
  have HB1 := Lib.hid b1
  have HX1 := Lib.hid X3
  have HS1 := Lib.hid hs1
  have HOLD := Lib.hid hold
  have HWS := Lib.hid hx3
  have HTX := Lib.hid ht
  have HN := Lib.hid hN
  have HL := Lib.hid hL
  have mixed : Try.prog.follows .mixedOrders = true := by kernel_rfl
  obtain ⟨w2, hrun2, hfm2, hg2⟩ := (h1.fw.drew).drop Try.underlying57 txn (ku_ok.2 ht) 0
  replace hrun2 : (Builtin.delete_ #[57, 29] 0 #[.map (some mw), .int .u32 txn]).run Try.prog w1.drew = .ok (.tuple #[]) w2 := hrun2
  have hf2 : Fr (fun x => x = mw) w1 w2 := ((Fr.refl _ w1).drew).grown hg2 (fun g hg => by injection hg with hg; exact .inl hg.symm)
  have HT2 := Lib.hid (show TabW w2 S N L t (T.stop txn) col mk mw nk nw K from h1.wts hf2 h1.hw hfm2)
  have HX2 := Lib.hid (X3.fr hf2 (fun e => h1.fw.ne_box X3 e))
  have HF2 := Lib.hid (show Fr S w w2 from (Fr.of_below (show Below w.heap.size w w1 by rw [hx3]; exact b1)).trans' hf2 (fun i _ e => by rw [e]; exact h1.sw))
  have HS2 := Lib.hid (show x3 + 1 ≤ w2.heap.size by have := hf2.size; omega)
  have k1 : w1.cell? ⟨t, 1, none⟩ = some (.map (some mw)) := by rw [h1.box.cell 1]; rfl
  have k3 : w1.cell? ⟨x3, 0, none⟩ = some (.int .u32 txn) := by rw [X3.cell 0]; rfl
  have l3 : w2.cell? ⟨x3, 0, none⟩ = some (.int .u32 txn) := by rw [HX2.out.cell 0]; rfl
  have COF := Lib.hid (of_any w2 S N L t (T.stop txn) txn ⟨_, _, _, _, _, _, HT2.out⟩ ht hN)
  clear h h1 X3 b1 hs1 hold ht hN hL hfm2 hg2 hf2 HT1 HB1 HX1 HS1
  go_enter Try.func21, Try.ntmps21
  go_upto_region 1 with fail
  clear hx3 hw1
  go_region
  clear hrun2 k1 k3
  go_wp2_with (go_at_call 33; (with_reducible refine COF.out.mono ?_); rintro er w3 ⟨vk, ks, rfl, hss, hof, hkn, hvb, hb3⟩; obtain ⟨Ak, ck, hvk, hck1, hck2⟩ := hss.form; have HSS := Lib.hid hss; have HOF := Lib.hid hof; have HVB := Lib.hid hvb; have HB3 := Lib.hid hb3; have HKN := Lib.hid hkn; have hk63 : (ks.length : Int) ≤ 9223372036854775807 := (by unfold maxLen at hck2; omega); clear hss hof hvb hb3 hkn hck1 hck2; subst hvk)
  have HT3 := Lib.hid (HT2.out.later HB3.out)
  have HX3 := Lib.hid (HX2.out.later HB3.out)
  have HF3 := Lib.hid (HF2.out.below HB3.out)
  have HS3 := Lib.hid (show x3 + 1 ≤ w3.heap.size by have := HS2.out; have := HB3.out.size; omega)
  have HUS := Lib.hid (show ∀ k ∈ ks, ∃ b, K k = some b from fun k hk => HT2.out.has_ ((HOF.out.mem k).1 hk))
  have HND := Lib.hid (show ks.Nodup from HOF.out.srt.imp (fun {a b} h e => by rw [e] at h; exact klt_irrefl _ h))
  have HVS := Lib.hid (show ∀ b, (Value.slice Ak ks.length ck).ownBlock = some b → x3 + 1 ≤ b ∧ ¬ S b from fun b hb => by have h1 := HVB.out b hb; have h2 := HS2.out; exact ⟨by omega, fun hs => by have := HOLD.out b hs; omega⟩)
  have HOF0 := Lib.hid (show OfL T txn ks from ⟨HOF.out.mem, HOF.out.srt⟩)
  clear HT2 HX2 HF2 HS2 l3 COF HB3 HVB
  obtain ⟨NK, hNK⟩ : ∃ NK, ks.length = NK := ⟨_, rfl⟩
  rw [hNK] at HSS HVS HKN hk63 ⊢
  have HNK := Lib.hid hNK
  clear hNK
  go_loopw [5, 7, 8, 9, 19] (fun s5 _ _ _ s19 wr => ∃ (i : Nat) (A : Option Addr) (n c : Nat) (got : List Int) (T' : Tb) (K' : Ky → Option (Option Nat)), s5 = .slice A n c ∧ s19 = .int .i64 i ∧ i ≤ NK ∧ Hid (n = got.length) ∧ Hid (relAll (T.stop txn) txn (ks.take i) = (T', got)) ∧ Hid (TabW wr S (N + got.length) L t T' col mk mw nk nw K') ∧ Hid (wr.ownsRow w3.heap.size 29 1 (.slice A n c) got.length (got.map (.int .u32))) ∧ Hid (got.length ≤ i * L) ∧ Hid (∀ k ∈ ks.drop i, K' k = K k) ∧ Hid (Fr S w wr) ∧ Hid (Box wr x3 #[.int .u32 txn] 29) ∧ Hid (SS cKy 3 wr w3.heap.size (.slice Ak NK ck) ks) ∧ Hid (w3.heap.size ≤ wr.heap.size)) (fun _ _ _ _ s19 _ => NK - (intOf s19).toNat)
  case atStart => exact ⟨0, none, 0, 0, [], T.stop txn, K, rfl, rfl, Nat.zero_le _, Lib.hid rfl, Lib.hid rfl, HT3, Lib.hid (World.ownsRow_nil _ _ _ _), Lib.hid (Nat.zero_le _), Lib.hid (fun _ _ => rfl), HF3, HX3, HSS, Lib.hid (Nat.le_refl _)⟩
  case round =>
    obtain ⟨i, A, n5, c5, got, T', K', rfl, rfl, hi, HN5, HR, HT, HO, HG, HKK, HF, HX, HSK, HZ⟩ := hrel
    obtain ⟨w4, rfl⟩ : ∃ w4, w4 = wr := ⟨wr, rfl⟩
    clear HT3 HX3 HF3 HSS
    by_cases hil : i < NK
    · have d1 : decide ((i : Int) < (NK : Int)) = true := by simp; omega
      have d1' : decide (i < NK) = true := by simp; omega
      obtain ⟨k, hk⟩ : ∃ k, ks[i]? = some k := ⟨_, List.getElem?_eq_getElem (by have := HNK.out; omega)⟩
      obtain ⟨bk, ok, hAk, hbk, hcell⟩ := HSK.out.at_ hk
      have r0 : w4.cell? ⟨bk, ok + i * 3, none⟩ = some (.int .u8 k.k) := hcell 0 _ rfl
      have r1 : w4.cell? ⟨bk, ok + i * 3 + 1, none⟩ = some (.int .u32 k.a) := hcell 1 _ rfl
      have r2 : w4.cell? ⟨bk, ok + i * 3 + 2, none⟩ = some (.int .u32 k.b) := hcell 2 _ rfl
      have HK := Lib.hid hk
      have hdr : ks.drop i = k :: ks.drop (i + 1) := by
        have h1 : i < ks.length := (List.getElem?_eq_some_iff.1 hk).1
        have h2 : ks[i] = k := (List.getElem?_eq_some_iff.1 hk).2
        rw [List.drop_eq_getElem_cons h1, h2]
      have HDR := Lib.hid hdr
      have hKk : ∃ e, K' k = some (some e) := by
        have h1 := HKK.out k (by rw [hdr]; exact List.mem_cons_self ..)
        obtain ⟨b, hb⟩ := HUS.out k (List.mem_of_getElem? hk)
        rw [hb] at h1
        obtain ⟨e, _, _, _, rfl, _⟩ := HT.out.is h1
        exact ⟨e, h1⟩
      obtain ⟨e, hKk⟩ := hKk
      have HKE := Lib.hid hKk
      have hb5 := new_ (Below.refl w4.heap.size w4) (.cells #[.int .u8 k.k, .int .u32 k.a, .int .u32 k.b] 81)
      have HT5 := Lib.hid (HT.out.later hb5)
      have HO5 := Lib.hid (own_below HO.out hb5)
      have HF5 := Lib.hid (HF.out.below hb5)
      have HX5 := Lib.hid (HX.out.later hb5)
      have HSK5 := Lib.hid (SS.fr (R := fun _ => False) HSK.out (Fr.of_below hb5) HZ.out (fun _ _ => id))
      have HZ5 := Lib.hid (show w3.heap.size ≤ w4.heap.size ∧ w4.heap.size < (w4.alloc (.cells #[.int .u8 k.k, .int .u32 k.a, .int .u32 k.b] 81)).heap.size by have := HZ.out; simp; exact this)
      have HX7 := Lib.hid (Box.new w4 #[.int .u8 k.k, .int .u32 k.a, .int .u32 k.b] 81)
      have HBK := Lib.hid hbk
      subst hAk
      go_upto_region 6 with fail
      obtain ⟨x7, hx7⟩ : ∃ x7, w4.heap.size = x7 := ⟨_, rfl⟩
      obtain ⟨w5, hw5⟩ : ∃ w5, w4.alloc (.cells #[.int .u8 k.k, .int .u32 k.a, .int .u32 k.b] 81) = w5 := ⟨_, rfl⟩
      rw [hw5] at HT5 HO5 HF5 HX5 HSK5 HZ5 HX7
      rw [hx7] at HZ5 HX7
      rw [hx7, hw5]
      have c50 : w5.cell? ⟨t, 0, none⟩ = some (.map (some mk)) := by rw [HT5.out.box.cell 0]; rfl
      have c70 : w5.cell? ⟨x7, 0, none⟩ = some (.int .u8 k.k) := by rw [HX7.out.cell 0]; rfl
      have c71 : w5.cell? ⟨x7, 1, none⟩ = some (.int .u32 k.a) := by rw [HX7.out.cell 1]; rfl
      have c72 : w5.cell? ⟨x7, 2, none⟩ = some (.int .u32 k.b) := by rw [HX7.out.cell 2]; rfl
      have lk : ∀ d, (Instr.lookup 56 (.map (some mk)) (.agg #[.int .u8 k.k, .int .u32 k.a, .int .u32 k.b]) false).run Try.prog (w5.drewN d) = .ok (.pointer (some ⟨e, 0, none⟩)) (w5.drewN d) := fun d => by
        have h1 := ((HT5.out.fk.drewN d).look Try.underlying56 none (zeroP _) k (FMok HT5.out.fk hKk)).1
        rw [hKk] at h1
        exact h1
      have HRB := Lib.hid (show ∀ b, (Value.slice A n5 c5).ownBlock = some b → b < x7 from fun b hb => by rw [← hx7]; exact (HO.out.lt b hb).2)
      clear HT HO HF HX HSK HZ hk hdr hKk hb5 hx7 hw5 hcell hbk r0 r1 r2
      go_quiet (fail)
      have bq : Below w5.heap.size w5 (w5.drewN nq) := below_drewN (Below.refl _ _) nq
      have HT6 := Lib.hid (HT5.out.later bq)
      have HO6 := Lib.hid (own_below HO5.out bq)
      have HF6 := Lib.hid (HF5.out.below bq)
      have HX6 := Lib.hid (HX5.out.later bq)
      have HSK6 := Lib.hid (SS.fr (R := fun _ => False) HSK5.out (Fr.of_below bq) (Nat.le_trans HZ5.out.1 (Nat.le_of_lt HZ5.out.2)) (fun _ _ => id))
      have HZ6 := Lib.hid (show w3.heap.size ≤ x7 ∧ x7 < (w5.drewN nq).heap.size from HZ5.out)
      have HX76 := Lib.hid (HX7.out.later bq)
      clear bq HT5 HO5 HF5 HX5 HSK5 HZ5 HX7 c50 c70 c71 c72 lk
      obtain ⟨w6, hw6⟩ : ∃ w6, w5.drewN nq = w6 := ⟨_, rfl⟩
      rw [hw6] at HT6 HO6 HF6 HX6 HSK6 HZ6 HX76 ⊢
      clear hw6
      -- txn holds no more
      obtain ⟨m, n, lv, hE⟩ := HT6.out.key HKE.out
      obtain ⟨hv, hhv⟩ : ∃ hv, (T'.ent k).hv = hv := ⟨_, rfl⟩
      obtain ⟨ln, hln⟩ : ∃ ln, (T'.ent k).line = ln := ⟨_, rfl⟩
      have HHV := Lib.hid (⟨hhv, hln⟩ : (T'.ent k).hv = hv ∧ (T'.ent k).line = ln)
      have HE6 := Lib.hid hE
      have hfm6 := hE.fm
      rw [hhv] at hfm6
      obtain ⟨w7, hrun7, hfm7, hg7⟩ := (hfm6.drew).drop Try.underlying83 txn (ku_ok.2 HTX.out) 0
      replace hrun7 : (Builtin.delete_ #[83, 29] 0 #[.map (some m), .int .u32 txn]).run Try.prog w6.drew = .ok (.tuple #[]) w7 := hrun7
      have hf7 : Fr (fun x => x = m) w6 w7 := ((Fr.refl _ w6).drew).grown hg7 (fun g hg => by injection hg with hg; exact .inl hg.symm)
      have c60 : w6.cell? ⟨e, 0, none⟩ = some (.map (some m)) := by rw [hE.box.cell 0]; rfl
      have c63 : w6.cell? ⟨x3, 0, none⟩ = some (.int .u32 txn) := by rw [HX6.out.cell 0]; rfl
      have HX37 : Box w7 x3 #[.int .u32 txn] 29 := HX6.out.fr hf7 (fun h => by have := HOLD.out m hE.sm; omega)
      have c73 : w7.cell? ⟨x3, 0, none⟩ = some (.int .u32 txn) := by rw [HX37.cell 0]; rfl
      have hbE7 : Box w7 e #[.map (some m), lv] 86 := hE.box.fr hf7 (fun h => hE.fm.ne_box hE.box h)
      have c7e : w7.cell? ⟨e, 1, none⟩ = some lv := by rw [hbE7.cell 1]; rfl
      have hl7 : LnAt w7 0 lv ln := by
        have := hE.ln.fr hf7 (fun b hb h => by have h1 := hE.cb b hb; rw [h, hE.cm] at h1; cases h1)
        rw [hln] at this; exact this
      have CD := Lib.hid (delete_any w7 0 lv ln 37 #[.pointer (some ⟨x3, 0, none⟩)] (isT txn) (enters_of Try.func37 (by kernel_rfl) rfl) hl7 (fun W y hy hf => by
        have hlt := HX37.lt
        have hx : ¬ (lv.ownBlock = some x3) := fun h => by have := HOLD.out _ (hE.sb _ h); omega
        exact rel_1 W y x3 txn (Nat.lt_of_lt_of_le hlt hf.size) ((hf.cell (p := ⟨x3, 0, none⟩) hlt hx).trans c73)))
      obtain ⟨A7, c7, hlv7, _, _⟩ := hl7.form
      have HFM7 := Lib.hid hfm7
      have HF7 := Lib.hid hf7
      have HBE7 := Lib.hid hbE7
      clear hfm6 hfm7 hg7 hf7 hE hhv hln hbE7 hl7
      go_upto_region 7 with fail
      go_region
      clear hrun7 c60 c63
      subst hlv7
      go_wp2_with (go_at_call 36; (with_reducible refine CD.out.mono ?_); rintro er w8 ⟨lv8, rfl, hl8, hf8, ho8⟩; have HBE8 := Lib.hid (HBE7.out.fr hf8 (fun h => (by have h1 := HE6.out.cb e h; rw [HE6.out.ce] at h1; cases h1))); have c8e := HBE8.out.cell 1; have f8e := HBE8.out.frozen 1; obtain ⟨A8, c8, hlv8, _, _⟩ := hl8.form; have HL8 := Lib.hid hl8; have HF8 := Lib.hid hf8; have HO8 := Lib.hid ho8; clear hl8 hf8 ho8; subst hlv8)
      obtain ⟨l8, hl8⟩ : ∃ l8, (ln.filter fun x => !isT txn x) = l8 := ⟨_, rfl⟩
      rw [hl8] at HL8 HO8 ⊢
      have HCUT := Lib.hid (show (T'.ent k).cut txn = ⟨fdel hv txn, l8⟩ by unfold En.cut; rw [HHV.out.1, HHV.out.2, hl8])
      have hf89 : Fr (fun x => x = e) w8 (w8.setCell ⟨e, 1, none⟩ (.slice A8 l8.length c8)) := Fr.setCell (S := fun x => x = e) (Fr.refl _ w8) (p := ⟨e, 1, none⟩) (.inl rfl) _
      have hbE9 : Box (w8.setCell ⟨e, 1, none⟩ (.slice A8 l8.length c8)) e #[.map (some m), .slice A8 l8.length c8] 86 := Box.set_ HBE8.out 1 _
      have hown8 : ∀ b, (Value.slice A8 l8.length c8).ownBlock = some b → col b = some (k, 2) ∧ S b := fun b hb => by rw [HO8.out] at hb; exact ⟨HE6.out.cb b hb, HE6.out.sb b hb⟩
      have hme : m ≠ e := fun h => HE6.out.fm.ne_box HE6.out.box h.symm
      have hE9 : EntAt col (w8.setCell ⟨e, 1, none⟩ (.slice A8 l8.length c8)) S (N + got.length) L k e m n (.slice A8 l8.length c8) ⟨fdel hv txn, l8⟩ := by
        refine ⟨hbE9, (HFM7.out.fr HF8.out (fun h => by have h1 := HE6.out.cb m h; rw [HE6.out.cm] at h1; cases h1)).fr hf89 hme, HE6.out.hn, HL8.out.fr hf89 (fun b hb h => by have h1 := (hown8 b hb).1; rw [h, HE6.out.ce] at h1; cases h1), ?_, ?_, HE6.out.se, HE6.out.sm, fun b hb => (hown8 b hb).2, HE6.out.ce, HE6.out.cm, fun b hb => (hown8 b hb).1⟩
        · have h1 := HE6.out.hl
          rw [HHV.out.2] at h1
          rw [← hl8]
          exact Nat.le_trans (List.length_filter_le _ _) h1
        · intro y hy
          rw [← hl8] at hy
          exact HE6.out.ok y (by rw [HHV.out.2]; exact (List.mem_filter.1 hy).1)
      have hf69 : Fr (fun x => x = m ∨ x = e ∨ (Value.slice A7 ln.length c7).ownBlock = some x) w6 (w8.setCell ⟨e, 1, none⟩ (.slice A8 l8.length c8)) :=
        ((HF7.out.mono (fun _ _ h => .inl h)).trans (HF8.out.mono (fun _ _ h => .inr (.inr h)))).trans (hf89.mono (fun _ _ h => .inr (.inl h)))
      have hS69 : ∀ y, (y = m ∨ y = e ∨ (Value.slice A7 ln.length c7).ownBlock = some y) → S y := fun y hy => by
        rcases hy with h | h | h
        · rw [h]; exact HE6.out.sm
        · rw [h]; exact HE6.out.se
        · exact HE6.out.sb y h
      have HT9 := Lib.hid (show TabW (w8.setCell ⟨e, 1, none⟩ (.slice A8 l8.length c8)) S (N + got.length) L t (T'.with_ k ⟨fdel hv txn, l8⟩ []) col mk mw nk nw K' from by
        rw [with_nil]
        exact HT6.out.ent_ HKE.out HE6.out hf69 (fun _ => id) hE9 (Nat.le_refl _))
      have HO9 := Lib.hid (own_frS HO6.out hf69 (fun b hb hs => by have h1 := hS69 b hs; have h2 := HOLD.out b h1; have := (HO6.out.lt b hb).1; have := HS3.out; omega))
      have HF9 := Lib.hid (show Fr S w (w8.setCell ⟨e, 1, none⟩ (.slice A8 l8.length c8)) from HF6.out.trans' hf69 (fun y _ hy => hS69 y hy))
      have HX9 := Lib.hid (HX6.out.fr hf69 (fun h => by have h2 := HOLD.out _ (hS69 _ h); omega))
      have HX79 := Lib.hid (HX76.out.fr hf69 (fun h => by have h2 := HOLD.out _ (hS69 _ h); have := HZ6.out; have := HS3.out; omega))
      have HSK9 := Lib.hid (SS.fr HSK6.out hf69 (by have := HZ6.out; omega) (fun b hb hs => (HVS.out b hb).2 (hS69 b hs)))
      have HZ9 := Lib.hid (show w3.heap.size ≤ x7 ∧ x7 < (w8.setCell ⟨e, 1, none⟩ (.slice A8 l8.length c8)).heap.size from ⟨HZ6.out.1, Nat.lt_of_lt_of_le HZ6.out.2 hf69.size⟩)
      have HLL := Lib.hid (show ([] : List Int).length + l8.length ≤ L by have := hE9.hl; simpa using this)
      clear hf89 hbE9 hown8 hme hE9 hf69 hS69 HBE8 HL8 HO8 HE6 HT6 HO6 HF6 HX6 HSK6 HZ6 HX76 HFM7 HF7 HBE7 HF8 CD c73 c7e c8e f8e hl8
      generalize w8.setCell ⟨e, 1, none⟩ (.slice A8 l8.length c8) = w9 at HT9 HO9 HF9 HX9 HX79 HSK9 HZ9 ⊢
      obtain ⟨h0, hh0⟩ : ∃ h0, fdel hv txn = h0 := ⟨_, rfl⟩
      rw [hh0] at HCUT HT9
      clear hh0 HHV
      go_wp2
      go_loopw [5, 9] (fun s5 _ wr => ∃ (A : Option Addr) (n c : Nat) (g : List Int) (h : Int → Option Int) (l : List Pl), s5 = .slice A n c ∧ Hid (n = (got ++ g).length) ∧ Hid (wake h0 l8 = ((wake h l).1, (wake h l).2.1, g ++ (wake h l).2.2)) ∧ Hid (TabW wr S (N + (got ++ g).length) L t (T'.with_ k ⟨h, l⟩ g) col mk mw nk nw K') ∧ Hid (wr.ownsRow w3.heap.size 29 1 (.slice A n c) (got ++ g).length ((got ++ g).map (.int .u32))) ∧ Hid (g.length + l.length ≤ L) ∧ Hid (Fr S w wr) ∧ Hid (Box wr x3 #[.int .u32 txn] 29) ∧ Hid (Box wr x7 #[.int .u8 k.k, .int .u32 k.a, .int .u32 k.b] 81) ∧ Hid (SS cKy 3 wr w3.heap.size (.slice (some ⟨bk, ok, none⟩) NK ck) ks) ∧ Hid (w3.heap.size ≤ x7 ∧ x7 < wr.heap.size) ∧ Hid (∀ b, (Value.slice A n c).ownBlock = some b → b ≠ x7)) (fun s5 _ _ => got.length + L - sLen s5)
      case atStart => exact ⟨_, _, _, [], h0, l8, rfl, Lib.hid (by simpa using HN5.out), Lib.hid rfl, by simpa using HT9, by simpa using HO9, HLL, HF9, HX9, HX79, HSK9, HZ9, Lib.hid (fun b hb h => by have := HRB.out b hb; omega)⟩
      case round =>
        obtain ⟨A, n6, c6, g, hc, lc, rfl, HN6, HW, HT, HO, HLC, HF, HX, HX7, HSK, HZ, HRX⟩ := hrel
        obtain ⟨w9, rfl⟩ : ∃ w9, w9 = wr := ⟨wr, rfl⟩
        clear HT9 HO9 HF9 HX9 HX79 HSK9 HZ9 HLL
        obtain ⟨m, n, lv, hE⟩ := HT.out.key HKE.out
        rw [with_at] at hE
        have HE := Lib.hid hE
        obtain ⟨q, hq⟩ : ∃ q, goes hc lc = q := ⟨_, rfl⟩
        have HQ := Lib.hid hq
        have c90 : w9.cell? ⟨e, 0, none⟩ = some (.map (some m)) := by rw [hE.box.cell 0]; rfl
        have c91 : w9.cell? ⟨e, 1, none⟩ = some lv := by rw [hE.box.cell 1]; rfl
        clear hE hq
        go_upto_region 9 with fail
        go_cut [58] (fun v wx => v = .bool q ∧ Hid (Below w9.heap.size w9 wx))
        case first =>
          cases lc with
          | nil =>
            obtain ⟨A3, c3, hlv3, _, _⟩ := HE.out.ln.form
            have hq0 : q = false := HQ.out.symm
            subst hq0
            subst hlv3
            go_wp2
            go_meet
            exact ⟨rfl, Lib.hid (Below.refl _ _)⟩
          | cons p l' =>
            have hq0 : fit hc p.t p.m = q := HQ.out
            have CF := Lib.hid (fits_any w9 e m n lv hc p.t p.m HE.out.box HE.out.box.lt HE.out.fm (holders_u32 HE.out.fm))
            rw [hq0] at CF
            obtain ⟨A3, c3, hlv3, hn3, hc3⟩ := HE.out.ln.form
            obtain ⟨b3, o3, hA3, hb3, hcell3⟩ := (hlv3 ▸ HE.out.ln.ss : SS cPl 2 w9 w9.heap.size (.slice A3 (p :: l').length c3) (p :: l')).at_ (i := 0) rfl
            have r0 : w9.cell? ⟨b3, o3, none⟩ = some (.int .u32 p.t) := by have := hcell3 0 _ rfl; simpa using this
            have r1 : w9.cell? ⟨b3, o3 + 1, none⟩ = some (.int .u8 p.m) := by have := hcell3 1 _ rfl; simpa using this
            have hl1 : (p :: l').length = l'.length + 1 := rfl
            obtain ⟨NL, hNL⟩ : ∃ NL, (p :: l').length = NL := ⟨_, rfl⟩
            have hpos : 0 < NL := by omega
            have dd : decide ((0 : Int) < (NL : Int)) = true := by simp; omega
            have dd' : decide (0 < NL) = true := by simp; omega
            have hn3' : NL ≤ c3 := by rw [← hNL]; exact hn3
            have hn63 : (NL : Int) ≤ 9223372036854775807 := by unfold maxLen at hc3; omega
            rw [hNL] at hlv3
            subst hA3
            subst hlv3
            clear hcell3 hb3 hn3 hn3' hc3 hl1 hNL hq0
            go_wp2_with (go_at_call 34; (with_reducible refine CF.out.mono ?_); rintro er wx ⟨rfl, hbx⟩; have HBX := Lib.hid hbx; clear hbx)
            go_meet
            exact ⟨rfl, HBX⟩
        case rest =>
          obtain ⟨rfl, HBW⟩ := hcut
          rename_i hK
          refine hK _ _ ?_
          clear hK
          have HT1 := Lib.hid (HT.out.later HBW.out)
          have HE1 := Lib.hid (HE.out.later HBW.out)
          have HO1 := Lib.hid (own_below HO.out HBW.out)
          have HF1 := Lib.hid (HF.out.below HBW.out)
          have HX1 := Lib.hid (HX.out.later HBW.out)
          have HX71 := Lib.hid (HX7.out.later HBW.out)
          have HSK1 := Lib.hid (SS.fr (R := fun _ => False) HSK.out (Fr.of_below HBW.out) (by have := HZ.out; omega) (fun _ _ => id))
          have HZ1 := Lib.hid (show w3.heap.size ≤ x7 ∧ x7 < wc.heap.size from ⟨HZ.out.1, Nat.lt_of_lt_of_le HZ.out.2 HBW.out.size⟩)
          have HRX1 := Lib.hid (show ∀ b, (Value.slice A n6 c6).ownBlock = some b → b ≠ x7 ∧ b < wc.heap.size from fun b hb => ⟨HRX.out b hb, (HO1.out.lt b hb).2⟩)
          clear HT HE HO HF HX HX7 HSK HZ HRX HBW c90 c91
          have d0 : wc.cell? ⟨e, 0, none⟩ = some (.map (some m)) := by rw [HE1.out.box.cell 0]; rfl
          cases q with
          | false =>
            have hwk := goes_no HQ.out
            have HREL := Lib.hid (show relAll (T.stop txn) txn (ks.take (i + 1)) = (T'.with_ k ⟨hc, lc⟩ g, got ++ g) from by
              rw [relAll_take HK.out, HR.out]
              have h1 : (T'.ent k).rel txn = (⟨hc, lc⟩, g) := by
                have h2 := HW.out
                rw [hwk] at h2
                unfold En.rel
                rw [HCUT.out]
                simp only [h2, List.append_nil]
              unfold relOne
              simp only [h1]
              rfl)
            have HGL := Lib.hid (show (got ++ g).length ≤ (i + 1) * L by
              have h1 := HG.out
              have h2 := HLC.out
              rw [List.length_append, Nat.succ_mul]
              omega)
            have HKD := Lib.hid (show ∀ y ∈ ks.drop (i + 1), K' y = K y ∧ y ≠ k from fun y hy => ⟨HKK.out y (by rw [HDR.out]; exact List.mem_cons_of_mem _ hy), fun e => by
              have h1 := HND.out
              rw [← List.take_append_drop i ks, HDR.out, List.nodup_append] at h1
              have h2 := h1.2.1
              rw [List.nodup_cons] at h2
              rw [e] at hy
              exact h2.1 hy⟩)
            obtain ⟨cn, hcn, hlen, hnone⟩ := FM.len_ HE1.out.fm (t := 83) Try.underlying83
            have hw1 : IntKind.i64.wrap ((i : Int) + 1) = ((i + 1 : Nat) : Int) := by rw [IntKind.wrap_i64]; omega
            by_cases hc0 : cn = 0
            · subst hc0
              have hnn := hnone rfl
              have hEN : (T'.with_ k ⟨hc, lc⟩ g).ent k = En.none := by
                rw [with_at]
                have h1 : hc = fun _ => none := hnn
                rw [h1] at hwk ⊢
                rw [wake_empty hwk]
                rfl
              obtain ⟨w2, hrunk, hfmk, hgk⟩ := (HT1.out.fk.drew).drop Try.underlying56 k (FMok HT1.out.fk HKE.out) 0
              replace hrunk : (Builtin.delete_ #[56, 31] 0 #[.map (some mk), .agg #[.int .u8 k.k, .int .u32 k.a, .int .u32 k.b]]).run Try.prog wc.drew = .ok (.tuple #[]) w2 := hrunk
              have hfk : Fr (fun x => x = mk) wc w2 := ((Fr.refl _ wc).drew).grown hgk (fun g hg => by injection hg with hg; exact .inl hg.symm)
              have hsmk := HT1.out.sk
              have HT2 := Lib.hid (HT1.out.out hfk hfmk hEN)
              have HO2 := Lib.hid (own_frS HO1.out hfk (fun b hb h => by have h2 := HOLD.out _ hsmk; have := (HO1.out.lt b hb).1; have := HS3.out; omega))
              have HF2 := Lib.hid (show Fr S w w2 from HF1.out.trans' hfk (fun y _ hy => by rw [hy]; exact hsmk))
              have HX2 := Lib.hid (HX1.out.fr hfk (fun h => by have h2 := HOLD.out _ hsmk; omega))
              have HSK2 := Lib.hid (SS.fr HSK1.out hfk (by have := HZ1.out; omega) (fun b hb hs => (HVS.out b hb).2 (by rw [hs]; exact hsmk)))
              have HZ2 := Lib.hid (show w3.heap.size ≤ w2.heap.size by have := HZ1.out; have := hfk.size; omega)
              have q0 : wc.cell? ⟨t, 0, none⟩ = some (.map (some mk)) := by rw [HT1.out.box.cell 0]; rfl
              have q1 : wc.cell? ⟨x7, 0, none⟩ = some (.int .u8 k.k) := by rw [HX71.out.cell 0]; rfl
              have q2 : wc.cell? ⟨x7, 1, none⟩ = some (.int .u32 k.a) := by rw [HX71.out.cell 1]; rfl
              have q3 : wc.cell? ⟨x7, 2, none⟩ = some (.int .u32 k.b) := by rw [HX71.out.cell 2]; rfl
              clear hfmk hgk hfk hnn hEN hnone hcn hwk hsmk
              go_upto_region 16 with fail
              go_region
              clear hrunk q0 q1 q2 q3 d0 hlen
              go_wp2
              go_roundw
              case rel => exact ⟨i + 1, A, n6, c6, got ++ g, _, fdel K' k, rfl, by go_num, by omega, HN6, HREL, HT2, HO2, HGL, Lib.hid (fun y hy => by rw [fdel_other _ (HKD.out y hy).2]; exact (HKD.out y hy).1), HF2, HX2, HSK2, HZ2⟩
              case measure => simp [intOf]; omega
            · have dc : decide ((cn : Int) = 0) = false := by simp; omega
              have dc' : ((cn : Int) == 0) = false := by simp; omega
              have dc2 : (cn == 0) = false := by simp; omega
              have HZ2 := Lib.hid (show w3.heap.size ≤ wc.heap.size by have := HZ1.out; omega)
              clear hnone hcn hwk hc0
              go_wp2
              go_roundw
              case rel => exact ⟨i + 1, A, n6, c6, got ++ g, _, K', rfl, by go_num, by omega, HN6, HREL, HT1, HO1, HGL, Lib.hid (fun y hy => (HKD.out y hy).1), HF1, HX1, HSK1, HZ2⟩
              case measure => simp [intOf]; omega
          | true =>
            cases lc with
            | nil => exact absurd HQ.out (by intro h; cases h)
            | cons p l' =>
              have hfit : fit hc p.t p.m = true := HQ.out
              have HWK := Lib.hid (wake_yes (l := l') hfit)
              have hpt : U32 p.t := HE1.out.ok p (List.mem_cons_self ..)
              obtain ⟨A3, c3, hlv3, hn3, hc3⟩ := HE1.out.ln.form
              have hss3 : SS cPl 2 wc wc.heap.size (.slice A3 (p :: l').length c3) (p :: l') := by have := HE1.out.ln.ss; rw [hlv3] at this; exact this
              obtain ⟨b3, o3, hA3, hb3, hcell3⟩ := hss3.at_ (i := 0) rfl
              have r0 : wc.cell? ⟨b3, o3, none⟩ = some (.int .u32 p.t) := by have := hcell3 0 _ rfl; simpa using this
              have r1 : wc.cell? ⟨b3, o3 + 1, none⟩ = some (.int .u8 p.m) := by have := hcell3 1 _ rfl; simpa using this
              subst hA3
              have hll : (p :: l').length = l'.length + 1 := rfl
              rw [hll] at hlv3 hn3
              have htail := (hlv3 ▸ HE1.out.ln : LnAt wc 0 (.slice (some ⟨b3, o3, none⟩) (l'.length + 1) c3) (p :: l')).tail
              obtain ⟨nl, hnl⟩ : ∃ nl, l'.length = nl := ⟨_, rfl⟩
              rw [hnl] at hlv3 hn3 htail
              have hob : lv.ownBlock = some b3 := by rw [hlv3]; rfl
              have d1 : wc.cell? ⟨e, 1, none⟩ = some (.slice (some ⟨b3, o3, none⟩) (nl + 1) c3) := by rw [HE1.out.box.cell 1, ← hlv3]; rfl
              have hy2 := new_ (Below.refl wc.heap.size wc) (.cells #[.int .u32 p.t, .int .u8 p.m] 72)
              have HT2 := Lib.hid (HT1.out.later hy2)
              have HE2 := Lib.hid (HE1.out.later hy2)
              have HO2 := Lib.hid (own_below HO1.out hy2)
              have HF2 := Lib.hid (HF1.out.below hy2)
              have HX2 := Lib.hid (HX1.out.later hy2)
              have HX72 := Lib.hid (HX71.out.later hy2)
              have HSK2 := Lib.hid (SS.fr (R := fun _ => False) HSK1.out (Fr.of_below hy2) (by have := HZ1.out; omega) (fun _ _ => id))
              have HX92 := Lib.hid (Box.new wc #[.int .u32 p.t, .int .u8 p.m] 72)
              have HZ2 := Lib.hid (show wc.heap.size < (wc.alloc (.cells #[.int .u32 p.t, .int .u8 p.m] 72)).heap.size by simp)
              have HTL := Lib.hid htail
              have HLV3 := Lib.hid hlv3
              have HPT := Lib.hid hpt
              have HN3 := Lib.hid hn3
              have HNL := Lib.hid hnl
              have HOB := Lib.hid hob
              have n63 : (nl : Int) + 1 ≤ 9223372036854775807 := by unfold maxLen at hc3; omega
              have n631 : (1 : Int) ≤ (nl : Int) + 1 := by omega
              have npos : 0 < nl + 1 := Nat.succ_pos _
              have d0' := d0
              clear hy2 hcell3 hb3 hss3 hlv3 hll htail hn3 hc3 hpt hfit hnl hob
              go_upto_region 11 with fail
              obtain ⟨x9, hx9⟩ : ∃ x9, wc.heap.size = x9 := ⟨_, rfl⟩
              obtain ⟨y2, hy2⟩ : ∃ y2, wc.alloc (.cells #[.int .u32 p.t, .int .u8 p.m] 72) = y2 := ⟨_, rfl⟩
              rw [hy2] at HT2 HE2 HO2 HF2 HX2 HX72 HSK2 HX92 HZ2
              rw [hx9] at HX92 HZ2
              rw [hx9, hy2]
              have HB63 := Lib.hid (show (got ++ g).length + 1 ≤ maxLen ∧ ((got ++ g).length + 1) * 4 ≤ 140737488355328 by have h2 := HN.out; have h3 := HG.out; have h4 := HLC.out; have h5 := HL.out; have h6 : i * L ≤ 50000 * 50000 := Nat.mul_le_mul (by have := HKN.out; omega) h5; rw [List.length_append]; unfold maxLen; omega)
              have HZ9 := Lib.hid (show w3.heap.size ≤ x7 ∧ x7 < x9 ∧ ∀ b, (Value.slice A n6 c6).ownBlock = some b → b ≠ x7 ∧ b < x9 by have := HZ1.out; have h2 := HRX1.out; rw [← hx9]; exact ⟨this.1, this.2, h2⟩)
              clear HT1 HE1 HO1 HF1 HX1 HX71 HSK1 HZ1 HRX1 d0 d0' d1 r0 r1 hx9 hy2
              obtain ⟨y3, hrun3, hfm3, hg3⟩ := (HE2.out.fm.drew).put Try.underlying83 (by have h1 := HE2.out.hn; have h2 := HN.out; have h3 := HG.out; have h4 := HLC.out; have h5 := HL.out; have h6 : i * L ≤ 50000 * 50000 := Nat.mul_le_mul (by have := HKN.out; omega) h5; rw [List.length_append] at h1; unfold maxLen; omega) p.t (ku_ok.2 HPT.out) p.m
              replace hrun3 : (Instr.mapUpdate 83 (.map (some m)) (.int .u32 p.t) (.int .u8 p.m)).run Try.prog y2.drew = .ok () y3 := hrun3
              have hf3 : Fr (fun x => x = m) y2 y3 := ((Fr.refl _ y2).drew).grown hg3 (fun g hg => by injection hg with hg; exact .inl hg.symm)
              have hme : m ≠ e := fun h => HE2.out.fm.ne_box HE2.out.box h.symm
              have hmb : lv.ownBlock ≠ some m := fun h => by have h1 := HE2.out.cb m h; rw [HE2.out.cm] at h1; cases h1
              have heb : lv.ownBlock ≠ some e := fun h => by have h1 := HE2.out.cb e h; rw [HE2.out.ce] at h1; cases h1
              have s20 : y2.cell? ⟨e, 0, none⟩ = some (.map (some m)) := by rw [HE2.out.box.cell 0]; rfl
              have s90 : y2.cell? ⟨x9, 0, none⟩ = some (.int .u32 p.t) := by rw [HX92.out.cell 0]; rfl
              have s91 : y2.cell? ⟨x9, 1, none⟩ = some (.int .u8 p.m) := by rw [HX92.out.cell 1]; rfl
              have hsm := HE2.out.sm
              have hse := HE2.out.se
              have hsw := HT2.out.sw
              have HBE3 := Lib.hid (HE2.out.box.fr hf3 (fun h => hme h.symm))
              have HX93 := Lib.hid (HX92.out.fr hf3 (fun h => by have h1 := HOLD.out _ hsm; have := HZ9.out; have := HS3.out; omega))
              have HTL2 := Lib.hid ((HLV3.out ▸ HE2.out.ln : LnAt y2 0 (.slice (some ⟨b3, o3, none⟩) (nl + 1) c3) (p :: l')).tail)
              have t91 : y3.cell? ⟨e, 1, none⟩ = some (.slice (some ⟨b3, o3, none⟩) (nl + 1) c3) := by rw [HBE3.out.cell 1, ← HLV3.out]; rfl
              have t91f := HBE3.out.frozen 1
              have HFM3 := Lib.hid hfm3
              have HFR3 := Lib.hid hf3
              have HFACT := Lib.hid (⟨hme, hmb, heb, hsm, hse, hsw⟩ : m ≠ e ∧ lv.ownBlock ≠ some m ∧ lv.ownBlock ≠ some e ∧ S m ∧ S e ∧ S mw)
              clear HTL hfm3 hg3 hf3 hme hmb heb hsm hse hsw
              go_region
              clear hrun3 s20 s90 s91
              by_cases hc1 : c3 = 1
              case' pos =>
                have hl0 := HTL2.out.2.2.1 hc1
                have hnl0 : nl = 0 := by rw [← HNL.out, hl0]; rfl
                have htl : LnAt y2 0 (.slice (some ⟨b3, o3, none⟩) 0 0) l' := by have := HTL2.out.2.2.2; rw [if_pos hc1] at this; exact this
                subst hc1
                subst hnl0
                go_upto_region 13 with fail
                obtain ⟨tl, htl0⟩ : ∃ tl : Value, .slice (some ⟨b3, o3, none⟩) 0 0 = tl := ⟨_, rfl⟩
                have htb : tl.ownBlock = some b3 := by rw [← htl0]; rfl
                rw [htl0] at htl ⊢
                clear htl0
              case' neg =>
                have htl : LnAt y2 0 (.slice (some ⟨b3, o3 + 2, none⟩) nl (c3 - 1)) l' := by have := HTL2.out.2.2.2; rw [if_neg hc1, HNL.out] at this; exact this
                go_upto_region 13 with fail
                obtain ⟨tl, htl0⟩ : ∃ tl : Value, .slice (some ⟨b3, o3 + 2, none⟩) nl (c3 - 1) = tl := ⟨_, rfl⟩
                have htb : tl.ownBlock = some b3 := by rw [← htl0]; rfl
                rw [htl0] at htl ⊢
                clear htl0
              all_goals
                have hob : lv.ownBlock = some b3 := HOB.out
                have hbs : ∀ b, tl.ownBlock = some b → lv.ownBlock = some b := fun b hb => by rw [hob, ← htb]; exact hb
                have hf34 : Fr (fun x => x = e) y3 (y3.setCell ⟨e, 1, none⟩ tl) := Fr.setCell (S := fun x => x = e) (Fr.refl _ y3) (p := ⟨e, 1, none⟩) (.inl rfl) _
                have hbE4 : Box (y3.setCell ⟨e, 1, none⟩ tl) e #[.map (some m), tl] 86 := Box.set_ HBE3.out 1 _
                obtain ⟨y4, hy4⟩ : ∃ y4, y3.setCell ⟨e, 1, none⟩ tl = y4 := ⟨_, rfl⟩
                rw [hy4] at hf34 hbE4 ⊢
                clear hy4
                have hf24 : Fr (fun x => x = m ∨ x = e) y2 y4 := (HFR3.out.mono (fun _ _ h => .inl h)).trans (hf34.mono (fun _ _ h => .inr h))
                have hE4 : EntAt col y4 S (N + (got ++ g).length + 1) L k e m (n + 1) tl ⟨fput hc p.t p.m, l'⟩ := by
                  refine ⟨hbE4, HFM3.out.fr hf34 HFACT.out.1, Nat.succ_le_succ HE2.out.hn, htl.fr hf24 (fun b hb h => ?_), ?_, fun y hy => HE2.out.ok y (List.mem_cons_of_mem _ hy), HE2.out.se, HE2.out.sm, fun b hb => HE2.out.sb b (hbs b hb), HE2.out.ce, HE2.out.cm, fun b hb => HE2.out.cb b (hbs b hb)⟩
                  · rcases h with h | h
                    · exact HFACT.out.2.1 (by rw [← h]; exact hbs b hb)
                    · exact HFACT.out.2.2.1 (by rw [← h]; exact hbs b hb)
                  · have := HE2.out.hl
                    simp only [List.length_cons] at this ⊢
                    omega
                have HT4 := Lib.hid (show TabW y4 S (N + (got ++ g).length + 1) L t (T'.with_ k ⟨fput hc p.t p.m, l'⟩ g) col mk mw nk nw K' from by
                  have h1 := HT2.out.ent_ HKE.out HE2.out hf24 (fun x h => h.elim (fun h => .inl h) (fun h => .inr (.inl h))) hE4 (Nat.le_succ _)
                  rw [with_set] at h1
                  exact h1)
                have hS24 : ∀ y, (y = m ∨ y = e) → S y := fun y hy => by
                  rcases hy with h | h
                  · rw [h]; exact HFACT.out.2.2.2.1
                  · rw [h]; exact HFACT.out.2.2.2.2.1
                obtain ⟨y5, hrun5, hfm5, hg5⟩ := (HT4.out.fw.drew).drop Try.underlying57 p.t (ku_ok.2 HPT.out) 0
                replace hrun5 : (Builtin.delete_ #[57, 29] 0 #[.map (some mw), .int .u32 p.t]).run Try.prog y4.drew = .ok (.tuple #[]) y5 := hrun5
                have hf5 : Fr (fun x => x = mw) y4 y5 := ((Fr.refl _ y4).drew).grown hg5 (fun g hg => by injection hg with hg; exact .inl hg.symm)
                have hf25 : Fr (fun x => x = m ∨ x = e ∨ x = mw) y2 y5 := (hf24.mono (fun _ _ h => h.elim (fun h => .inl h) (fun h => .inr (.inl h)))).trans (hf5.mono (fun _ _ h => .inr (.inr h)))
                have hS25 : ∀ y, (y = m ∨ y = e ∨ y = mw) → S y := fun y hy => by
                  rcases hy with h | h | h
                  · exact hS24 y (.inl h)
                  · exact hS24 y (.inr h)
                  · rw [h]; exact HFACT.out.2.2.2.2.2
                have hx9S : ¬ (x9 = m ∨ x9 = e ∨ x9 = mw) := fun h => by have h1 := HOLD.out _ (hS25 _ h); have := HZ9.out; have := HS3.out; omega
                have HX95 := Lib.hid (HX92.out.fr hf25 hx9S)
                have HT5 := Lib.hid (show TabW y5 S (N + (got ++ g).length + 1) L t (T'.with_ k ⟨fput hc p.t p.m, l'⟩ (g ++ [p.t])) col mk mw nk nw K' from by
                  have h1 := HT4.out.wts hf5 HT4.out.hw hfm5
                  rw [with_stop] at h1
                  exact h1)
                have HO5 := Lib.hid (own_frS HO2.out hf25 (fun b hb h => by have h2 := HOLD.out _ (hS25 _ h); have := (HO2.out.lt b hb).1; have := HS3.out; omega))
                have HF5 := Lib.hid (show Fr S w y5 from HF2.out.trans' hf25 (fun y _ hy => hS25 y hy))
                have HX5 := Lib.hid (HX2.out.fr hf25 (fun h => by have h2 := HOLD.out _ (hS25 _ h); omega))
                have HX75 := Lib.hid (HX72.out.fr hf25 (fun h => by have h2 := HOLD.out _ (hS25 _ h); have := HZ9.out.1; have := HS3.out; omega))
                have HSK5 := Lib.hid (SS.fr HSK2.out hf25 (by have := HZ9.out.1; have := HZ9.out.2.1; have := HZ2.out; omega) (fun b hb hs => (HVS.out b hb).2 (hS25 b hs)))
                have HZ5 := Lib.hid (show x9 < y5.heap.size by have := HZ2.out; have := hf25.size; omega)
                have s41 : y4.cell? ⟨t, 1, none⟩ = some (.map (some mw)) := by rw [HT4.out.box.cell 1]; rfl
                have s490 : y4.cell? ⟨x9, 0, none⟩ = some (.int .u32 p.t) := by rw [(HX92.out.fr hf24 (fun h => hx9S (h.elim (fun h => .inl h) (fun h => .inr (.inl h))))).cell 0]; rfl
                have s590 : y5.cell? ⟨x9, 0, none⟩ = some (.int .u32 p.t) := by rw [HX95.out.cell 0]; rfl
                clear hob hbs hf34 hbE4 hf24 hE4 hS24 hfm5 hg5 hf5 hf25 hS25 hx9S HT4 htl htb HE2 HT2 HO2 HF2 HX2 HX72 HSK2 HX92 HZ2 HX95 HX93 HBE3 HFM3 HFR3 t91 t91f
                go_region
                clear hrun5 s41 s490
                go_wp2_with (at_builtin; refine wpList_push_ss (F := fun x : Int => [Value.int .u32 x]) (sz := 1) _ rfl _ _ _ rfl w3.heap.size 29 j0 _ 4 Try.underlying38 hj0 hj1 hj2 hj3 rfl (by decide) (fun _ => rfl) (by intro y u hu; simp at hu; subst hu; rfl) _ (got ++ g) rfl (by rw [u32_flat]; exact own_below HO5.out (new_ (Below.refl _ _) (.cells #[.int .u32 p.t] 29))) y5.heap.size p.t 29 rfl (Box.new y5 _ _) (HB63.out).1 (HB63.out).2 (by have := HZ5.out; have := HZ9.out; have := HS3.out; simp; omega) ?_; intro v6 y6 hown ht6)
                have tt := (RowTo.of_below (new_ (Below.refl y5.heap.size y5) (.cells #[.int .u32 p.t] 29)) (.slice A n6 c6)).trans ht6
                have hrow : ∀ b, (Value.slice A n6 c6).ownBlock = some b → w3.heap.size ≤ b ∧ b ≠ x7 ∧ b < x9 := fun b hb => ⟨(HO5.out.lt b hb).1, HZ9.out.2.2 b hb⟩
                rw [u32_flat, List.append_assoc] at hown
                obtain ⟨A6, n7, c7, rfl⟩ : ∃ A n c, v6 = .slice A n c := by
                  rcases hown.2 with ⟨rfl, _⟩ | ⟨g', cap, cur, rfl, _⟩
                  · exact ⟨_, _, _, rfl⟩
                  · exact ⟨_, _, _, rfl⟩
                have hn7 : n7 = (got ++ (g ++ [p.t])).length := by
                  rcases hown.2 with ⟨_, e2⟩ | ⟨g', cap, cur, e1, _⟩
                  · simp at e2
                  · injection e1 with _ e2 _
                have hnS : ∀ y, S y → ¬ (Value.slice A n6 c6).ownBlock = some y := fun y hy hb => by have h1 := HOLD.out y hy; have h2 := (hrow y hb).1; have := HS3.out; omega
                have hx7n : ¬ (Value.slice A n6 c6).ownBlock = some x7 := fun hb => (hrow _ hb).2.1 rfl
                have hlen : N + (got ++ g).length + 1 = N + (got ++ (g ++ [p.t])).length := by simp; omega
                have HT6 := HT5.out.far tt.fr hnS
                rw [hlen] at HT6
                refine ⟨⟨A6, n7, c7, g ++ [p.t], fput hc p.t p.m, l', rfl, Lib.hid hn7, Lib.hid (by rw [HW.out, HWK.out]; simp), Lib.hid HT6, Lib.hid hown, Lib.hid (by have := HLC.out; simp at this ⊢; omega), Lib.hid ((HF5.out.trans' tt.fr (fun y hy hb => by have := (hrow y hb).1; have := HWS.out; have := HS3.out; omega))),
                  Lib.hid (HX5.out.fr tt.fr (fun hb => by have := (hrow _ hb).1; have := HS3.out; omega)), Lib.hid (HX75.out.fr tt.fr hx7n), Lib.hid (SS.fr HSK5.out tt.fr (by have := HZ5.out; have := HZ9.out.1; have := HZ9.out.2.1; omega) (fun b hb hs => by have h1 := (hrow b hs).1; have h2 : bk = b := (by injection hb); have := HBK.out; omega)), Lib.hid ⟨HZ9.out.1, by have := HZ5.out; have := HZ9.out.2.1; have := tt.fr.size; omega⟩, Lib.hid (fun b hb e => by
                    rcases tt.own with h | ⟨q, h, hq⟩
                    · rw [h] at hb; exact (hrow b hb).2.1 e
                    · rw [h] at hb; injection hb with hb; have := HZ5.out; have := HZ9.out.2.1; omega)⟩, ?_⟩
                show got.length + L - sLen (.slice A6 n7 c7) < got.length + L - sLen (.slice A n6 c6)
                have h1 := HLC.out
                have h2 := HN6.out
                simp only [sLen]
                rw [hn7, h2]
                simp at h1 ⊢
                omega
    · have hiN : i = NK := by omega
      have d1 : decide ((i : Int) < (NK : Int)) = false := by simp; omega
      have d1' : decide (i < NK) = false := by simp; omega
      have HRR := Lib.hid (show relAll (T.stop txn) txn ks = (T', got) by have := HR.out; rw [hiN, ← HNK.out, List.take_length] at this; exact this)
      clear hiN
      go_wp2
      go_ret
      exact ⟨_, ks, T', got, rfl, HOF0.out, HRR.out, own_lower HO.out (by have := HS3.out; omega), ⟨_, _, _, _, _, _, HT.out⟩, HF.out⟩
end Go.Proofs.Ytpndcpmfcajmdaa.Lock
