import Derived.Test.YtpndcpmfcajmdaaLn2
import Derived.Test.YtpndcpmfcajmdaaLn4
import Derived.Test.YtpndcpmfcajmdaaLn5
import Derived.Deep.DeepCutAuto
import Derived.Laws.EntriesVeiled
namespace Go.Proofs.Ytpndcpmfcajmdaa.Lock
open Go.ChangeShapes Go.WideShapes Go.ChangeAt Go.RowKit Go.IntWalk Go.Proofs.Mem Law Go.Shelf Go.Proofs.Each
set_option linter.unusedVariables false
set_option linter.unusedSimpArgs false
def sLen : Value → Nat
  | .slice _ n _ => n
  | _ => 0
theorem SS.fr {α : Type} {F : α → List Value} {sz : Nat} {w w' : World} {B : Nat} {v : Value} {xs : List α} {R : Nat → Prop} (h : SS F sz w B v xs) (hf : Fr R w w') (hB : B ≤ w.heap.size) (hr : ∀ b, v.ownBlock = some b → ¬ R b) : SS F sz w' B v xs := by
  obtain ⟨A, c, h1, h2, h3, h5⟩ := h
  refine ⟨A, c, h1, h2, h3, fun i x hx => ?_⟩
  obtain ⟨b, off, e, hb, hc⟩ := h5 i x hx
  refine ⟨b, off, e, hb, fun j u hu => ?_⟩
  rw [hf.cell (p := ⟨b, off + i * sz + j, none⟩) (by show b < _; omega) (hr b (by rw [h1, e]; rfl))]
  exact hc j u hu
theorem LnAt.tail {w : World} {b off n cap : Nat} {p : Pl} {l : List Pl} (h : LnAt w 0 (.slice (some ⟨b, off, none⟩) n cap) (p :: l)) : n = l.length + 1 ∧ 1 ≤ cap ∧ (cap = 1 → l = []) ∧ LnAt w 0 (if cap = 1 then .slice (some ⟨b, off, none⟩) 0 0 else .slice (some ⟨b, off + 2, none⟩) l.length (cap - 1)) l := by
  rcases h with ⟨h1, _⟩ | ⟨b', pre, post, cap', h1, h2, h3, h4, h5, h6⟩
  · cases h1
  · injection h1 with h1 hn hc
    injection h1 with h1
    injection h1 with h1a h1b
    subst h1a hc
    have hln : (p :: l).length = l.length + 1 := rfl
    rw [hln] at hn h4 h6
    refine ⟨hn, by omega, fun hc => List.eq_nil_of_length_eq_zero (by omega), ?_⟩
    by_cases hc : cap = 1
    · rw [if_pos hc]
      have hl0 : l = [] := List.eq_nil_of_length_eq_zero (by omega)
      subst hl0
      refine .inr ⟨b, pre, cPl p ++ post, 0, by rw [h1b]; rfl, Nat.zero_le _, ?_, Nat.le_refl _, Nat.zero_le _, Nat.zero_le _⟩
      simpa [Pls, List.append_assoc] using h3
    · rw [if_neg hc]
      refine .inr ⟨b, pre ++ cPl p, post, cap - 1, by rw [h1b]; simp [cPl], Nat.zero_le _, ?_, by omega, by omega, by omega⟩
      simpa [Pls, List.append_assoc] using h3
def Tb.with_ (T : Tb) (k : Ky) (e : En) (g : List Int) : Tb := ⟨(T.set k e).ent, stopAll T.wt g⟩
theorem with_set (T : Tb) (k : Ky) (e e' : En) (g : List Int) : (T.with_ k e g).set k e' = T.with_ k e' g := by
  unfold Tb.with_ Tb.set
  simp only [Tb.mk.injEq, and_true]
  funext y
  by_cases h : y = k <;> simp [h]
theorem with_stop (T : Tb) (k : Ky) (e : En) (g : List Int) (x : Int) : (⟨(T.with_ k e g).ent, fdel (T.with_ k e g).wt x⟩ : Tb) = T.with_ k e (g ++ [x]) := by
  unfold Tb.with_
  rw [stopAll_snoc]
theorem with_at (T : Tb) (k : Ky) (e : En) (g : List Int) : (T.with_ k e g).ent k = e := set_same _ _ _
theorem u32_info : (Try.prog.info? 29).map (fun i => (i.zero, i.size, i.bytes)) = some (some (.int .u32 0), 1, 4) := by kernel_rfl
theorem with_nil (T : Tb) (k : Ky) (e : En) : T.with_ k e [] = T.set k e := by unfold Tb.with_; rw [stopAll_nil]; rfl
noncomputable def goes (h : Int → Option Int) : List Pl → Bool
  | [] => false
  | p :: _ => fit h p.t p.m
theorem goes_no {h : Int → Option Int} {l : List Pl} (hg : goes h l = false) : wake h l = (h, l, []) := by
  cases l with
  | nil => rw [wake_nil]
  | cons p l => exact wake_no hg
theorem u32_flat (l : List Int) : (l.flatMap fun x => [Value.int .u32 x]) = l.map (.int .u32) := by
  induction l with
  | nil => rfl
  | cons x l ih => simp [List.flatMap_cons, ih]
theorem fit_none (t m : Int) : fit (fun _ => none) t m = true := fit_true (fun x md h => by cases h)
theorem wake_empty {l : List Pl} (h : wake (fun _ => none) l = (fun _ => none, l, [])) : l = [] := by
  cases l with
  | nil => rfl
  | cons p l =>
    rw [wake_yes (fit_none _ _)] at h
    injection h with _ h
    injection h with _ h
    cases h
set_option maxRecDepth 100000 in
set_option maxHeartbeats 16000000 in
theorem release_any (w : World) (S : Nat → Prop) (N L t : Nat) (T : Tb) (txn : Int) (h : TabAt w S N L t T) (ht : U32 txn) (hN : N ≤ 50000) (hL : L ≤ 50000) :
    Calls Try.prog 21 #[.pointer (some ⟨t, 0, none⟩), .int .u32 txn] w fun e w' => ∃ v ks T' got, e = .returned v ∧ OfL T txn ks ∧ relAll (T.stop txn) txn ks = (T', got) ∧ w'.ownsRow w.heap.size 29 1 v got.length (got.map (.int .u32)) ∧ TabAt w' S (N + got.length) L t T' ∧ Fr S w w' := by
  obtain ⟨col, mk, mw, nk, nw, K, h⟩ := h
  obtain ⟨j0, hj0, hj1, hj2, hj3⟩ := info_parts u32_info
  have b1 := new_ (Below.refl w.heap.size w) (.cells #[.int .u32 txn] 29)
  have X3 := Box.new w #[.int .u32 txn] 29
  have h1 := h.later b1
  obtain ⟨x3, hx3⟩ : ∃ x3, w.heap.size = x3 := ⟨_, rfl⟩
  have hs1 : (w.alloc (.cells #[.int .u32 txn] 29)).heap.size = x3 + 1 := by rw [← hx3]; simp
  rw [hx3] at X3 b1 ⊢
  have hold : ∀ y, S y → y < x3 := fun y hy => by rw [← hx3]; exact h.old y hy
  obtain ⟨w1, hw1⟩ : ∃ w1, w.alloc (.cells #[.int .u32 txn] 29) = w1 := ⟨_, rfl⟩
  rw [hw1] at X3 b1 h1 hs1
  have HT1 := Lib.hid h1
  have HB1 := Lib.hid b1
  have HX1 := Lib.hid X3
  have HS1 := Lib.hid hs1
  have HOLD := Lib.hid hold
  have HWS := Lib.hid hx3
  have HTX := Lib.hid ht
  have HN := Lib.hid hN
  have HL := Lib.hid hL
  have mixed : Try.prog.follows .mixedOrders = true := by kernel_rfl
  obtain ⟨w2, hrun2, hfm2, hg2⟩ := (h1.fw.drew).drop Try.underlying57 txn (ku_ok.2 ht) 0
  replace hrun2 : (Builtin.delete_ #[57, 29] 0 #[.map (some mw), .int .u32 txn]).run Try.prog w1.drew = .ok (.tuple #[]) w2 := hrun2
  have hf2 : Fr (fun x => x = mw) w1 w2 := ((Fr.refl _ w1).drew).grown hg2 (fun g hg => by injection hg with hg; exact .inl hg.symm)
  have HT2 := Lib.hid (show TabW w2 S N L t (T.stop txn) col mk mw nk nw K from h1.wts hf2 h1.hw hfm2)
  have HX2 := Lib.hid (X3.fr hf2 (fun e => h1.fw.ne_box X3 e))
  have HF2 := Lib.hid (show Fr S w w2 from (Fr.of_below (show Below w.heap.size w w1 by rw [hx3]; exact b1)).trans' hf2 (fun i _ e => by rw [e]; exact h1.sw))
  have HS2 := Lib.hid (show x3 + 1 ≤ w2.heap.size by have := hf2.size; omega)
  have k1 : w1.cell? ⟨t, 1, none⟩ = some (.map (some mw)) := by rw [h1.box.cell 1]; rfl
  have k3 : w1.cell? ⟨x3, 0, none⟩ = some (.int .u32 txn) := by rw [X3.cell 0]; rfl
  have l3 : w2.cell? ⟨x3, 0, none⟩ = some (.int .u32 txn) := by rw [HX2.out.cell 0]; rfl
  have COF := Lib.hid (of_any w2 S N L t (T.stop txn) txn ⟨_, _, _, _, _, _, HT2.out⟩ ht hN)
  clear h h1 X3 b1 hs1 hold ht hN hL hfm2 hg2 hf2 HT1 HB1 HX1 HS1
  go_enter Try.func21, Try.ntmps21
  go_upto_region 1 with fail
  clear hx3 hw1
  go_region
  clear hrun2 k1 k3
  go_wp2_with (go_at_call 33; (with_reducible refine COF.out.mono ?_); rintro er w3 ⟨vk, ks, rfl, hss, hof, hkn, hvb, hb3⟩; obtain ⟨Ak, ck, hvk, hck1, hck2⟩ := hss.form; have HSS := Lib.hid hss; have HOF := Lib.hid hof; have HVB := Lib.hid hvb; have HB3 := Lib.hid hb3; have HKN := Lib.hid hkn; have hk63 : (ks.length : Int) ≤ 9223372036854775807 := (by unfold maxLen at hck2; omega); clear hss hof hvb hb3 hkn hck1 hck2; subst hvk)
  have HT3 := Lib.hid (HT2.out.later HB3.out)
  have HX3 := Lib.hid (HX2.out.later HB3.out)
  have HF3 := Lib.hid (HF2.out.below HB3.out)
  have HS3 := Lib.hid (show x3 + 1 ≤ w3.heap.size by have := HS2.out; have := HB3.out.size; omega)
  have HUS := Lib.hid (show ∀ k ∈ ks, ∃ b, K k = some b from fun k hk => HT2.out.has_ ((HOF.out.mem k).1 hk))
  have HND := Lib.hid (show ks.Nodup from HOF.out.srt.imp (fun {a b} h e => by rw [e] at h; exact klt_irrefl _ h))
  have HVS := Lib.hid (show ∀ b, (Value.slice Ak ks.length ck).ownBlock = some b → x3 + 1 ≤ b ∧ ¬ S b from fun b hb => by have h1 := HVB.out b hb; have h2 := HS2.out; exact ⟨by omega, fun hs => by have := HOLD.out b hs; omega⟩)
  have HOF0 := Lib.hid (show OfL T txn ks from ⟨HOF.out.mem, HOF.out.srt⟩)
  clear HT2 HX2 HF2 HS2 l3 COF HB3 HVB
  obtain ⟨NK, hNK⟩ : ∃ NK, ks.length = NK := ⟨_, rfl⟩
  rw [hNK] at HSS HVS HKN hk63 ⊢
  have HNK := Lib.hid hNK
  clear hNK
  go_loopw [5, 7, 8, 9, 19] (fun s5 _ _ _ s19 wr => ∃ (i : Nat) (A : Option Addr) (n c : Nat) (got : List Int) (T' : Tb) (K' : Ky → Option (Option Nat)), s5 = .slice A n c ∧ s19 = .int .i64 i ∧ i ≤ NK ∧ Hid (n = got.length) ∧ Hid (relAll (T.stop txn) txn (ks.take i) = (T', got)) ∧ Hid (TabW wr S (N + got.length) L t T' col mk mw nk nw K') ∧ Hid (wr.ownsRow w3.heap.size 29 1 (.slice A n c) got.length (got.map (.int .u32))) ∧ Hid (got.length ≤ i * L) ∧ Hid (∀ k ∈ ks.drop i, K' k = K k) ∧ Hid (Fr S w wr) ∧ Hid (Box wr x3 #[.int .u32 txn] 29) ∧ Hid (SS cKy 3 wr w3.heap.size (.slice Ak NK ck) ks) ∧ Hid (w3.heap.size ≤ wr.heap.size)) (fun _ _ _ _ s19 _ => NK - (intOf s19).toNat)
  case atStart => exact ⟨0, none, 0, 0, [], T.stop txn, K, rfl, rfl, Nat.zero_le _, Lib.hid rfl, Lib.hid rfl, HT3, Lib.hid (World.ownsRow_nil _ _ _ _), Lib.hid (Nat.zero_le _), Lib.hid (fun _ _ => rfl), HF3, HX3, HSS, Lib.hid (Nat.le_refl _)⟩
  case round =>
    obtain ⟨i, A, n5, c5, got, T', K', rfl, rfl, hi, HN5, HR, HT, HO, HG, HKK, HF, HX, HSK, HZ⟩ := hrel
    obtain ⟨w4, rfl⟩ : ∃ w4, w4 = wr := ⟨wr, rfl⟩
    clear HT3 HX3 HF3 HSS
    by_cases hil : i < NK
    · have d1 : decide ((i : Int) < (NK : Int)) = true := by simp; omega
      have d1' : decide (i < NK) = true := by simp; omega
      obtain ⟨k, hk⟩ : ∃ k, ks[i]? = some k := ⟨_, List.getElem?_eq_getElem (by have := HNK.out; omega)⟩
      obtain ⟨bk, ok, hAk, hbk, hcell⟩ := HSK.out.at_ hk
      have r0 : w4.cell? ⟨bk, ok + i * 3, none⟩ = some (.int .u8 k.k) := hcell 0 _ rfl
      have r1 : w4.cell? ⟨bk, ok + i * 3 + 1, none⟩ = some (.int .u32 k.a) := hcell 1 _ rfl
      have r2 : w4.cell? ⟨bk, ok + i * 3 + 2, none⟩ = some (.int .u32 k.b) := hcell 2 _ rfl
      have HK := Lib.hid hk
      have hdr : ks.drop i = k :: ks.drop (i + 1) := by
        have h1 : i < ks.length := (List.getElem?_eq_some_iff.1 hk).1
        have h2 : ks[i] = k := (List.getElem?_eq_some_iff.1 hk).2
        rw [List.drop_eq_getElem_cons h1, h2]
      have HDR := Lib.hid hdr
      have hKk : ∃ e, K' k = some (some e) := by
        have h1 := HKK.out k (by rw [hdr]; exact List.mem_cons_self ..)
        obtain ⟨b, hb⟩ := HUS.out k (List.mem_of_getElem? hk)
        rw [hb] at h1
        obtain ⟨e, _, _, _, rfl, _⟩ := HT.out.is h1
        exact ⟨e, h1⟩
      obtain ⟨e, hKk⟩ := hKk
      have HKE := Lib.hid hKk
      have hb5 := new_ (Below.refl w4.heap.size w4) (.cells #[.int .u8 k.k, .int .u32 k.a, .int .u32 k.b] 81)
      have HT5 := Lib.hid (HT.out.later hb5)
      have HO5 := Lib.hid (own_below HO.out hb5)
      have HF5 := Lib.hid (HF.out.below hb5)
      have HX5 := Lib.hid (HX.out.later hb5)
      have HSK5 := Lib.hid (SS.fr (R := fun _ => False) HSK.out (Fr.of_below hb5) HZ.out (fun _ _ => id))
      have HZ5 := Lib.hid (show w3.heap.size ≤ w4.heap.size ∧ w4.heap.size < (w4.alloc (.cells #[.int .u8 k.k, .int .u32 k.a, .int .u32 k.b] 81)).heap.size by have := HZ.out; simp; exact this)
      have HX7 := Lib.hid (Box.new w4 #[.int .u8 k.k, .int .u32 k.a, .int .u32 k.b] 81)
      have HBK := Lib.hid hbk
      subst hAk
      go_upto_region 6 with fail
      obtain ⟨x7, hx7⟩ : ∃ x7, w4.heap.size = x7 := ⟨_, rfl⟩
      obtain ⟨w5, hw5⟩ : ∃ w5, w4.alloc (.cells #[.int .u8 k.k, .int .u32 k.a, .int .u32 k.b] 81) = w5 := ⟨_, rfl⟩
      rw [hw5] at HT5 HO5 HF5 HX5 HSK5 HZ5 HX7
      rw [hx7] at HZ5 HX7
      rw [hx7, hw5]
      have c50 : w5.cell? ⟨t, 0, none⟩ = some (.map (some mk)) := by rw [HT5.out.box.cell 0]; rfl
      have c70 : w5.cell? ⟨x7, 0, none⟩ = some (.int .u8 k.k) := by rw [HX7.out.cell 0]; rfl
      have c71 : w5.cell? ⟨x7, 1, none⟩ = some (.int .u32 k.a) := by rw [HX7.out.cell 1]; rfl
      have c72 : w5.cell? ⟨x7, 2, none⟩ = some (.int .u32 k.b) := by rw [HX7.out.cell 2]; rfl
      have lk : ∀ d, (Instr.lookup 56 (.map (some mk)) (.agg #[.int .u8 k.k, .int .u32 k.a, .int .u32 k.b]) false).run Try.prog (w5.drewN d) = .ok (.pointer (some ⟨e, 0, none⟩)) (w5.drewN d) := fun d => by
        have h1 := ((HT5.out.fk.drewN d).look Try.underlying56 none (zeroP _) k (FMok HT5.out.fk hKk)).1
        rw [hKk] at h1
        exact h1
      have HRB := Lib.hid (show ∀ b, (Value.slice A n5 c5).ownBlock = some b → b < x7 from fun b hb => by rw [← hx7]; exact (HO.out.lt b hb).2)
      clear HT HO HF HX HSK HZ hk hdr hKk hb5 hx7 hw5 hcell hbk r0 r1 r2
      go_quiet (fail)
      have bq : Below w5.heap.size w5 (w5.drewN nq) := below_drewN (Below.refl _ _) nq
      have HT6 := Lib.hid (HT5.out.later bq)
      have HO6 := Lib.hid (own_below HO5.out bq)
      have HF6 := Lib.hid (HF5.out.below bq)
      have HX6 := Lib.hid (HX5.out.later bq)
      have HSK6 := Lib.hid (SS.fr (R := fun _ => False) HSK5.out (Fr.of_below bq) (Nat.le_trans HZ5.out.1 (Nat.le_of_lt HZ5.out.2)) (fun _ _ => id))
      have HZ6 := Lib.hid (show w3.heap.size ≤ x7 ∧ x7 < (w5.drewN nq).heap.size from HZ5.out)
      have HX76 := Lib.hid (HX7.out.later bq)
      clear bq HT5 HO5 HF5 HX5 HSK5 HZ5 HX7 c50 c70 c71 c72 lk
      obtain ⟨w6, hw6⟩ : ∃ w6, w5.drewN nq = w6 := ⟨_, rfl⟩
      rw [hw6] at HT6 HO6 HF6 HX6 HSK6 HZ6 HX76 ⊢
      clear hw6
      -- txn holds no more
      obtain ⟨m, n, lv, hE⟩ := HT6.out.key HKE.out
      obtain ⟨hv, hhv⟩ : ∃ hv, (T'.ent k).hv = hv := ⟨_, rfl⟩
      obtain ⟨ln, hln⟩ : ∃ ln, (T'.ent k).line = ln := ⟨_, rfl⟩
      have HHV := Lib.hid (⟨hhv, hln⟩ : (T'.ent k).hv = hv ∧ (T'.ent k).line = ln)
      have HE6 := Lib.hid hE
      have hfm6 := hE.fm
      rw [hhv] at hfm6
      obtain ⟨w7, hrun7, hfm7, hg7⟩ := (hfm6.drew).drop Try.underlying83 txn (ku_ok.2 HTX.out) 0
      replace hrun7 : (Builtin.delete_ #[83, 29] 0 #[.map (some m), .int .u32 txn]).run Try.prog w6.drew = .ok (.tuple #[]) w7 := hrun7
      have hf7 : Fr (fun x => x = m) w6 w7 := ((Fr.refl _ w6).drew).grown hg7 (fun g hg => by injection hg with hg; exact .inl hg.symm)
      have c60 : w6.cell? ⟨e, 0, none⟩ = some (.map (some m)) := by rw [hE.box.cell 0]; rfl
      have c63 : w6.cell? ⟨x3, 0, none⟩ = some (.int .u32 txn) := by rw [HX6.out.cell 0]; rfl
      have HX37 : Box w7 x3 #[.int .u32 txn] 29 := HX6.out.fr hf7 (fun h => by have := HOLD.out m hE.sm; omega)
      have c73 : w7.cell? ⟨x3, 0, none⟩ = some (.int .u32 txn) := by rw [HX37.cell 0]; rfl
      have hbE7 : Box w7 e #[.map (some m), lv] 86 := hE.box.fr hf7 (fun h => hE.fm.ne_box hE.box h)
      have c7e : w7.cell? ⟨e, 1, none⟩ = some lv := by rw [hbE7.cell 1]; rfl
      have hl7 : LnAt w7 0 lv ln := by
        have := hE.ln.fr hf7 (fun b hb h => by have h1 := hE.cb b hb; rw [h, hE.cm] at h1; cases h1)
        rw [hln] at this; exact this
      have CD := Lib.hid (delete_any w7 0 lv ln 37 #[.pointer (some ⟨x3, 0, none⟩)] (isT txn) (enters_of Try.func37 (by kernel_rfl) rfl) hl7 (fun W y hy hf => by
        have hlt := HX37.lt
        have hx : ¬ (lv.ownBlock = some x3) := fun h => by have := HOLD.out _ (hE.sb _ h); omega
        exact rel_1 W y x3 txn (Nat.lt_of_lt_of_le hlt hf.size) ((hf.cell (p := ⟨x3, 0, none⟩) hlt hx).trans c73)))
      obtain ⟨A7, c7, hlv7, _, _⟩ := hl7.form
      have HFM7 := Lib.hid hfm7
      have HF7 := Lib.hid hf7
      have HBE7 := Lib.hid hbE7
      clear hfm6 hfm7 hg7 hf7 hE hhv hln hbE7 hl7
      go_upto_region 7 with fail
      go_region
      clear hrun7 c60 c63
      subst hlv7
      go_wp2_with (go_at_call 36; (with_reducible refine CD.out.mono ?_); rintro er w8 ⟨lv8, rfl, hl8, hf8, ho8⟩; have HBE8 := Lib.hid (HBE7.out.fr hf8 (fun h => (by have h1 := HE6.out.cb e h; rw [HE6.out.ce] at h1; cases h1))); have c8e := HBE8.out.cell 1; have f8e := HBE8.out.frozen 1; obtain ⟨A8, c8, hlv8, _, _⟩ := hl8.form; have HL8 := Lib.hid hl8; have HF8 := Lib.hid hf8; have HO8 := Lib.hid ho8; clear hl8 hf8 ho8; subst hlv8)
      obtain ⟨l8, hl8⟩ : ∃ l8, (ln.filter fun x => !isT txn x) = l8 := ⟨_, rfl⟩
      rw [hl8] at HL8 HO8 ⊢
      have HCUT := Lib.hid (show (T'.ent k).cut txn = ⟨fdel hv txn, l8⟩ by unfold En.cut; rw [HHV.out.1, HHV.out.2, hl8])
      have hf89 : Fr (fun x => x = e) w8 (w8.setCell ⟨e, 1, none⟩ (.slice A8 l8.length c8)) := Fr.setCell (S := fun x => x = e) (Fr.refl _ w8) (p := ⟨e, 1, none⟩) (.inl rfl) _
      have hbE9 : Box (w8.setCell ⟨e, 1, none⟩ (.slice A8 l8.length c8)) e #[.map (some m), .slice A8 l8.length c8] 86 := Box.set_ HBE8.out 1 _
      have hown8 : ∀ b, (Value.slice A8 l8.length c8).ownBlock = some b → col b = some (k, 2) ∧ S b := fun b hb => by rw [HO8.out] at hb; exact ⟨HE6.out.cb b hb, HE6.out.sb b hb⟩
      have hme : m ≠ e := fun h => HE6.out.fm.ne_box HE6.out.box h.symm
      have hE9 : EntAt col (w8.setCell ⟨e, 1, none⟩ (.slice A8 l8.length c8)) S (N + got.length) L k e m n (.slice A8 l8.length c8) ⟨fdel hv txn, l8⟩ := by
        refine ⟨hbE9, (HFM7.out.fr HF8.out (fun h => by have h1 := HE6.out.cb m h; rw [HE6.out.cm] at h1; cases h1)).fr hf89 hme, HE6.out.hn, HL8.out.fr hf89 (fun b hb h => by have h1 := (hown8 b hb).1; rw [h, HE6.out.ce] at h1; cases h1), ?_, ?_, HE6.out.se, HE6.out.sm, fun b hb => (hown8 b hb).2, HE6.out.ce, HE6.out.cm, fun b hb => (hown8 b hb).1⟩
        · have h1 := HE6.out.hl
          rw [HHV.out.2] at h1
          rw [← hl8]
          exact Nat.le_trans (List.length_filter_le _ _) h1
        · intro y hy
          rw [← hl8] at hy
          exact HE6.out.ok y (by rw [HHV.out.2]; exact (List.mem_filter.1 hy).1)
      have hf69 : Fr (fun x => x = m ∨ x = e ∨ (Value.slice A7 ln.length c7).ownBlock = some x) w6 (w8.setCell ⟨e, 1, none⟩ (.slice A8 l8.length c8)) :=
        ((HF7.out.mono (fun _ _ h => .inl h)).trans (HF8.out.mono (fun _ _ h => .inr (.inr h)))).trans (hf89.mono (fun _ _ h => .inr (.inl h)))
      have hS69 : ∀ y, (y = m ∨ y = e ∨ (Value.slice A7 ln.length c7).ownBlock = some y) → S y := fun y hy => by
        rcases hy with h | h | h
        · rw [h]; exact HE6.out.sm
        · rw [h]; exact HE6.out.se
        · exact HE6.out.sb y h
      have HT9 := Lib.hid (show TabW (w8.setCell ⟨e, 1, none⟩ (.slice A8 l8.length c8)) S (N + got.length) L t (T'.with_ k ⟨fdel hv txn, l8⟩ []) col mk mw nk nw K' from by
        rw [with_nil]
        exact HT6.out.ent_ HKE.out HE6.out hf69 (fun _ => id) hE9 (Nat.le_refl _))
      have HO9 := Lib.hid (own_frS HO6.out hf69 (fun b hb hs => by have h1 := hS69 b hs; have h2 := HOLD.out b h1; have := (HO6.out.lt b hb).1; have := HS3.out; omega))
      have HF9 := Lib.hid (show Fr S w (w8.setCell ⟨e, 1, none⟩ (.slice A8 l8.length c8)) from HF6.out.trans' hf69 (fun y _ hy => hS69 y hy))
      have HX9 := Lib.hid (HX6.out.fr hf69 (fun h => by have h2 := HOLD.out _ (hS69 _ h); omega))
      have HX79 := Lib.hid (HX76.out.fr hf69 (fun h => by have h2 := HOLD.out _ (hS69 _ h); have := HZ6.out; have := HS3.out; omega))
      have HSK9 := Lib.hid (SS.fr HSK6.out hf69 (by have := HZ6.out; omega) (fun b hb hs => (HVS.out b hb).2 (hS69 b hs)))
      have HZ9 := Lib.hid (show w3.heap.size ≤ x7 ∧ x7 < (w8.setCell ⟨e, 1, none⟩ (.slice A8 l8.length c8)).heap.size from ⟨HZ6.out.1, Nat.lt_of_lt_of_le HZ6.out.2 hf69.size⟩)
      have HLL := Lib.hid (show ([] : List Int).length + l8.length ≤ L by have := hE9.hl; simpa using this)
      clear hf89 hbE9 hown8 hme hE9 hf69 hS69 HBE8 HL8 HO8 HE6 HT6 HO6 HF6 HX6 HSK6 HZ6 HX76 HFM7 HF7 HBE7 HF8 CD c73 c7e c8e f8e hl8
      generalize w8.setCell ⟨e, 1, none⟩ (.slice A8 l8.length c8) = w9 at HT9 HO9 HF9 HX9 HX79 HSK9 HZ9 ⊢
      obtain ⟨h0, hh0⟩ : ∃ h0, fdel hv txn = h0 := ⟨_, rfl⟩
      rw [hh0] at HCUT HT9
      clear hh0 HHV
      go_wp2
      go_loopw [5, 9] (fun s5 _ wr => ∃ (A : Option Addr) (n c : Nat) (g : List Int) (h : Int → Option Int) (l : List Pl), s5 = .slice A n c ∧ Hid (n = (got ++ g).length) ∧ Hid (wake h0 l8 = ((wake h l).1, (wake h l).2.1, g ++ (wake h l).2.2)) ∧ Hid (TabW wr S (N + (got ++ g).length) L t (T'.with_ k ⟨h, l⟩ g) col mk mw nk nw K') ∧ Hid (wr.ownsRow w3.heap.size 29 1 (.slice A n c) (got ++ g).length ((got ++ g).map (.int .u32))) ∧ Hid (g.length + l.length ≤ L) ∧ Hid (Fr S w wr) ∧ Hid (Box wr x3 #[.int .u32 txn] 29) ∧ Hid (Box wr x7 #[.int .u8 k.k, .int .u32 k.a, .int .u32 k.b] 81) ∧ Hid (SS cKy 3 wr w3.heap.size (.slice (some ⟨bk, ok, none⟩) NK ck) ks) ∧ Hid (w3.heap.size ≤ x7 ∧ x7 < wr.heap.size) ∧ Hid (∀ b, (Value.slice A n c).ownBlock = some b → b ≠ x7)) (fun s5 _ _ => got.length + L - sLen s5)
      case atStart => exact ⟨_, _, _, [], h0, l8, rfl, Lib.hid (by simpa using HN5.out), Lib.hid rfl, by simpa using HT9, by simpa using HO9, HLL, HF9, HX9, HX79, HSK9, HZ9, Lib.hid (fun b hb h => by have := HRB.out b hb; omega)⟩
      case round =>
        obtain ⟨A, n6, c6, g, hc, lc, rfl, HN6, HW, HT, HO, HLC, HF, HX, HX7, HSK, HZ, HRX⟩ := hrel
        obtain ⟨w9, rfl⟩ : ∃ w9, w9 = wr := ⟨wr, rfl⟩
        clear HT9 HO9 HF9 HX9 HX79 HSK9 HZ9 HLL
        obtain ⟨m, n, lv, hE⟩ := HT.out.key HKE.out
        rw [with_at] at hE
        have HE := Lib.hid hE
        obtain ⟨q, hq⟩ : ∃ q, goes hc lc = q := ⟨_, rfl⟩
        have HQ := Lib.hid hq
        have c90 : w9.cell? ⟨e, 0, none⟩ = some (.map (some m)) := by rw [hE.box.cell 0]; rfl
        have c91 : w9.cell? ⟨e, 1, none⟩ = some lv := by rw [hE.box.cell 1]; rfl
        clear hE hq
        go_upto_region 9 with fail
        go_cut [58] (fun v wx => v = .bool q ∧ Hid (Below w9.heap.size w9 wx))
        case first =>
          cases lc with
          | nil =>
            obtain ⟨A3, c3, hlv3, _, _⟩ := HE.out.ln.form
            have hq0 : q = false := HQ.out.symm
            subst hq0
            subst hlv3
            go_wp2
            go_meet
            exact ⟨rfl, Lib.hid (Below.refl _ _)⟩
          | cons p l' =>
            have hq0 : fit hc p.t p.m = q := HQ.out
            have CF := Lib.hid (fits_any w9 e m n lv hc p.t p.m HE.out.box HE.out.box.lt HE.out.fm (holders_u32 HE.out.fm))
            rw [hq0] at CF
            obtain ⟨A3, c3, hlv3, hn3, hc3⟩ := HE.out.ln.form
            obtain ⟨b3, o3, hA3, hb3, hcell3⟩ := (hlv3 ▸ HE.out.ln.ss : SS cPl 2 w9 w9.heap.size (.slice A3 (p :: l').length c3) (p :: l')).at_ (i := 0) rfl
            have r0 : w9.cell? ⟨b3, o3, none⟩ = some (.int .u32 p.t) := by have := hcell3 0 _ rfl; simpa using this
            have r1 : w9.cell? ⟨b3, o3 + 1, none⟩ = some (.int .u8 p.m) := by have := hcell3 1 _ rfl; simpa using this
            have hl1 : (p :: l').length = l'.length + 1 := rfl
            obtain ⟨NL, hNL⟩ : ∃ NL, (p :: l').length = NL := ⟨_, rfl⟩
            have hpos : 0 < NL := by omega
            have dd : decide ((0 : Int) < (NL : Int)) = true := by simp; omega
            have dd' : decide (0 < NL) = true := by simp; omega
            have hn3' : NL ≤ c3 := by rw [← hNL]; exact hn3
            have hn63 : (NL : Int) ≤ 9223372036854775807 := by unfold maxLen at hc3; omega
            rw [hNL] at hlv3
            subst hA3
            subst hlv3
            clear hcell3 hb3 hn3 hn3' hc3 hl1 hNL hq0
            go_wp2_with (go_at_call 34; (with_reducible refine CF.out.mono ?_); rintro er wx ⟨rfl, hbx⟩; have HBX := Lib.hid hbx; clear hbx)
            go_meet
            exact ⟨rfl, HBX⟩
        case rest =>
          obtain ⟨rfl, HBW⟩ := hcut
          rename_i hK
          refine hK _ _ ?_
          clear hK
          have HT1 := Lib.hid (HT.out.later HBW.out)
          have HE1 := Lib.hid (HE.out.later HBW.out)
          have HO1 := Lib.hid (own_below HO.out HBW.out)
          have HF1 := Lib.hid (HF.out.below HBW.out)
          have HX1 := Lib.hid (HX.out.later HBW.out)
          have HX71 := Lib.hid (HX7.out.later HBW.out)
          have HSK1 := Lib.hid (SS.fr (R := fun _ => False) HSK.out (Fr.of_below HBW.out) (by have := HZ.out; omega) (fun _ _ => id))
          have HZ1 := Lib.hid (show w3.heap.size ≤ x7 ∧ x7 < wc.heap.size from ⟨HZ.out.1, Nat.lt_of_lt_of_le HZ.out.2 HBW.out.size⟩)
          have HRX1 := Lib.hid (show ∀ b, (Value.slice A n6 c6).ownBlock = some b → b ≠ x7 ∧ b < wc.heap.size from fun b hb => ⟨HRX.out b hb, (HO1.out.lt b hb).2⟩)
          clear HT HE HO HF HX HX7 HSK HZ HRX HBW c90 c91
          have d0 : wc.cell? ⟨e, 0, none⟩ = some (.map (some m)) := by rw [HE1.out.box.cell 0]; rfl
          cases q with
          | false =>
            have hwk := goes_no HQ.out
            have HREL := Lib.hid (show relAll (T.stop txn) txn (ks.take (i + 1)) = (T'.with_ k ⟨hc, lc⟩ g, got ++ g) from by
              rw [relAll_take HK.out, HR.out]
              have h1 : (T'.ent k).rel txn = (⟨hc, lc⟩, g) := by
                have h2 := HW.out
                rw [hwk] at h2
                unfold En.rel
                rw [HCUT.out]
                simp only [h2, List.append_nil]
              unfold relOne
              simp only [h1]
              rfl)
            have HGL := Lib.hid (show (got ++ g).length ≤ (i + 1) * L by
              have h1 := HG.out
              have h2 := HLC.out
              rw [List.length_append, Nat.succ_mul]
              omega)
            have HKD := Lib.hid (show ∀ y ∈ ks.drop (i + 1), K' y = K y ∧ y ≠ k from fun y hy => ⟨HKK.out y (by rw [HDR.out]; exact List.mem_cons_of_mem _ hy), fun e => by
              have h1 := HND.out
              rw [← List.take_append_drop i ks, HDR.out, List.nodup_append] at h1
              have h2 := h1.2.1
              rw [List.nodup_cons] at h2
              rw [e] at hy
              exact h2.1 hy⟩)
            obtain ⟨cn, hcn, hlen, hnone⟩ := FM.len_ HE1.out.fm (t := 83) Try.underlying83
            have hw1 : IntKind.i64.wrap ((i : Int) + 1) = ((i + 1 : Nat) : Int) := by rw [IntKind.wrap_i64]; omega
            by_cases hc0 : cn = 0
            · subst hc0
              have hnn := hnone rfl
              have hEN : (T'.with_ k ⟨hc, lc⟩ g).ent k = En.none := by
                rw [with_at]
                have h1 : hc = fun _ => none := hnn
                rw [h1] at hwk ⊢
                rw [wake_empty hwk]
                rfl
              obtain ⟨w2, hrunk, hfmk, hgk⟩ := (HT1.out.fk.drew).drop Try.underlying56 k (FMok HT1.out.fk HKE.out) 0
              replace hrunk : (Builtin.delete_ #[56, 31] 0 #[.map (some mk), .agg #[.int .u8 k.k, .int .u32 k.a, .int .u32 k.b]]).run Try.prog wc.drew = .ok (.tuple #[]) w2 := hrunk
              have hfk : Fr (fun x => x = mk) wc w2 := ((Fr.refl _ wc).drew).grown hgk (fun g hg => by injection hg with hg; exact .inl hg.symm)
              have hsmk := HT1.out.sk
              have HT2 := Lib.hid (HT1.out.out hfk hfmk hEN)
              have HO2 := Lib.hid (own_frS HO1.out hfk (fun b hb h => by have h2 := HOLD.out _ hsmk; have := (HO1.out.lt b hb).1; have := HS3.out; omega))
              have HF2 := Lib.hid (show Fr S w w2 from HF1.out.trans' hfk (fun y _ hy => by rw [hy]; exact hsmk))
              have HX2 := Lib.hid (HX1.out.fr hfk (fun h => by have h2 := HOLD.out _ hsmk; omega))
              have HSK2 := Lib.hid (SS.fr HSK1.out hfk (by have := HZ1.out; omega) (fun b hb hs => (HVS.out b hb).2 (by rw [hs]; exact hsmk)))
              have HZ2 := Lib.hid (show w3.heap.size ≤ w2.heap.size by have := HZ1.out; have := hfk.size; omega)
              have q0 : wc.cell? ⟨t, 0, none⟩ = some (.map (some mk)) := by rw [HT1.out.box.cell 0]; rfl
              have q1 : wc.cell? ⟨x7, 0, none⟩ = some (.int .u8 k.k) := by rw [HX71.out.cell 0]; rfl
              have q2 : wc.cell? ⟨x7, 1, none⟩ = some (.int .u32 k.a) := by rw [HX71.out.cell 1]; rfl
              have q3 : wc.cell? ⟨x7, 2, none⟩ = some (.int .u32 k.b) := by rw [HX71.out.cell 2]; rfl
              clear hfmk hgk hfk hnn hEN hnone hcn hwk hsmk
              go_upto_region 16 with fail
              go_region
              clear hrunk q0 q1 q2 q3 d0 hlen
              go_wp2
              go_roundw
              case rel => exact ⟨i + 1, A, n6, c6, got ++ g, _, fdel K' k, rfl, by go_num, by omega, HN6, HREL, HT2, HO2, HGL, Lib.hid (fun y hy => by rw [fdel_other _ (HKD.out y hy).2]; exact (HKD.out y hy).1), HF2, HX2, HSK2, HZ2⟩
              case measure => simp [intOf]; omega
            · have dc : decide ((cn : Int) = 0) = false := by simp; omega
              have dc' : ((cn : Int) == 0) = false := by simp; omega
              have dc2 : (cn == 0) = false := by simp; omega
              have HZ2 := Lib.hid (show w3.heap.size ≤ wc.heap.size by have := HZ1.out; omega)
              clear hnone hcn hwk hc0
              go_wp2
              go_roundw
              case rel => exact ⟨i + 1, A, n6, c6, got ++ g, _, K', rfl, by go_num, by omega, HN6, HREL, HT1, HO1, HGL, Lib.hid (fun y hy => (HKD.out y hy).1), HF1, HX1, HSK1, HZ2⟩
              case measure => simp [intOf]; omega
          | true =>
            cases lc with
            | nil => exact absurd HQ.out (by intro h; cases h)
            | cons p l' =>
              have hfit : fit hc p.t p.m = true := HQ.out
              have HWK := Lib.hid (wake_yes (l := l') hfit)
              have hpt : U32 p.t := HE1.out.ok p (List.mem_cons_self ..)
              obtain ⟨A3, c3, hlv3, hn3, hc3⟩ := HE1.out.ln.form
              have hss3 : SS cPl 2 wc wc.heap.size (.slice A3 (p :: l').length c3) (p :: l') := by have := HE1.out.ln.ss; rw [hlv3] at this; exact this
              obtain ⟨b3, o3, hA3, hb3, hcell3⟩ := hss3.at_ (i := 0) rfl
              have r0 : wc.cell? ⟨b3, o3, none⟩ = some (.int .u32 p.t) := by have := hcell3 0 _ rfl; simpa using this
              have r1 : wc.cell? ⟨b3, o3 + 1, none⟩ = some (.int .u8 p.m) := by have := hcell3 1 _ rfl; simpa using this
              subst hA3
              have hll : (p :: l').length = l'.length + 1 := rfl
              rw [hll] at hlv3 hn3
              have htail := (hlv3 ▸ HE1.out.ln : LnAt wc 0 (.slice (some ⟨b3, o3, none⟩) (l'.length + 1) c3) (p :: l')).tail
              obtain ⟨nl, hnl⟩ : ∃ nl, l'.length = nl := ⟨_, rfl⟩
              rw [hnl] at hlv3 hn3 htail
              have hob : lv.ownBlock = some b3 := by rw [hlv3]; rfl
              have d1 : wc.cell? ⟨e, 1, none⟩ = some (.slice (some ⟨b3, o3, none⟩) (nl + 1) c3) := by rw [HE1.out.box.cell 1, ← hlv3]; rfl
              have hy2 := new_ (Below.refl wc.heap.size wc) (.cells #[.int .u32 p.t, .int .u8 p.m] 72)
              have HT2 := Lib.hid (HT1.out.later hy2)
              have HE2 := Lib.hid (HE1.out.later hy2)
              have HO2 := Lib.hid (own_below HO1.out hy2)
              have HF2 := Lib.hid (HF1.out.below hy2)
              have HX2 := Lib.hid (HX1.out.later hy2)
              have HX72 := Lib.hid (HX71.out.later hy2)
              have HSK2 := Lib.hid (SS.fr (R := fun _ => False) HSK1.out (Fr.of_below hy2) (by have := HZ1.out; omega) (fun _ _ => id))
              have HX92 := Lib.hid (Box.new wc #[.int .u32 p.t, .int .u8 p.m] 72)
              have HZ2 := Lib.hid (show wc.heap.size < (wc.alloc (.cells #[.int .u32 p.t, .int .u8 p.m] 72)).heap.size by simp)
              have HTL := Lib.hid htail
              have HLV3 := Lib.hid hlv3
              have HPT := Lib.hid hpt
              have HN3 := Lib.hid hn3
              have HNL := Lib.hid hnl
              have HOB := Lib.hid hob
              have n63 : (nl : Int) + 1 ≤ 9223372036854775807 := by unfold maxLen at hc3; omega
              have n631 : (1 : Int) ≤ (nl : Int) + 1 := by omega
              have npos : 0 < nl + 1 := Nat.succ_pos _
              have d0' := d0
              clear hy2 hcell3 hb3 hss3 hlv3 hll htail hn3 hc3 hpt hfit hnl hob
              go_upto_region 11 with fail
              obtain ⟨x9, hx9⟩ : ∃ x9, wc.heap.size = x9 := ⟨_, rfl⟩
              obtain ⟨y2, hy2⟩ : ∃ y2, wc.alloc (.cells #[.int .u32 p.t, .int .u8 p.m] 72) = y2 := ⟨_, rfl⟩
              rw [hy2] at HT2 HE2 HO2 HF2 HX2 HX72 HSK2 HX92 HZ2
              rw [hx9] at HX92 HZ2
              rw [hx9, hy2]
              have HB63 := Lib.hid (show (got ++ g).length + 1 ≤ maxLen ∧ ((got ++ g).length + 1) * 4 ≤ 140737488355328 by have h2 := HN.out; have h3 := HG.out; have h4 := HLC.out; have h5 := HL.out; have h6 : i * L ≤ 50000 * 50000 := Nat.mul_le_mul (by have := HKN.out; omega) h5; rw [List.length_append]; unfold maxLen; omega)
              have HZ9 := Lib.hid (show w3.heap.size ≤ x7 ∧ x7 < x9 ∧ ∀ b, (Value.slice A n6 c6).ownBlock = some b → b ≠ x7 ∧ b < x9 by have := HZ1.out; have h2 := HRX1.out; rw [← hx9]; exact ⟨this.1, this.2, h2⟩)
              clear HT1 HE1 HO1 HF1 HX1 HX71 HSK1 HZ1 HRX1 d0 d0' d1 r0 r1 hx9 hy2
              obtain ⟨y3, hrun3, hfm3, hg3⟩ := (HE2.out.fm.drew).put Try.underlying83 (by have h1 := HE2.out.hn; have h2 := HN.out; have h3 := HG.out; have h4 := HLC.out; have h5 := HL.out; have h6 : i * L ≤ 50000 * 50000 := Nat.mul_le_mul (by have := HKN.out; omega) h5; rw [List.length_append] at h1; unfold maxLen; omega) p.t (ku_ok.2 HPT.out) p.m
              replace hrun3 : (Instr.mapUpdate 83 (.map (some m)) (.int .u32 p.t) (.int .u8 p.m)).run Try.prog y2.drew = .ok () y3 := hrun3
              have hf3 : Fr (fun x => x = m) y2 y3 := ((Fr.refl _ y2).drew).grown hg3 (fun g hg => by injection hg with hg; exact .inl hg.symm)
              have hme : m ≠ e := fun h => HE2.out.fm.ne_box HE2.out.box h.symm
              have hmb : lv.ownBlock ≠ some m := fun h => by have h1 := HE2.out.cb m h; rw [HE2.out.cm] at h1; cases h1
              have heb : lv.ownBlock ≠ some e := fun h => by have h1 := HE2.out.cb e h; rw [HE2.out.ce] at h1; cases h1
              have s20 : y2.cell? ⟨e, 0, none⟩ = some (.map (some m)) := by rw [HE2.out.box.cell 0]; rfl
              have s90 : y2.cell? ⟨x9, 0, none⟩ = some (.int .u32 p.t) := by rw [HX92.out.cell 0]; rfl
              have s91 : y2.cell? ⟨x9, 1, none⟩ = some (.int .u8 p.m) := by rw [HX92.out.cell 1]; rfl
              have hsm := HE2.out.sm
              have hse := HE2.out.se
              have hsw := HT2.out.sw
              have HBE3 := Lib.hid (HE2.out.box.fr hf3 (fun h => hme h.symm))
              have HX93 := Lib.hid (HX92.out.fr hf3 (fun h => by have h1 := HOLD.out _ hsm; have := HZ9.out; have := HS3.out; omega))
              have HTL2 := Lib.hid ((HLV3.out ▸ HE2.out.ln : LnAt y2 0 (.slice (some ⟨b3, o3, none⟩) (nl + 1) c3) (p :: l')).tail)
              have t91 : y3.cell? ⟨e, 1, none⟩ = some (.slice (some ⟨b3, o3, none⟩) (nl + 1) c3) := by rw [HBE3.out.cell 1, ← HLV3.out]; rfl
              have t91f := HBE3.out.frozen 1
              have HFM3 := Lib.hid hfm3
              have HFR3 := Lib.hid hf3
              have HFACT := Lib.hid (⟨hme, hmb, heb, hsm, hse, hsw⟩ : m ≠ e ∧ lv.ownBlock ≠ some m ∧ lv.ownBlock ≠ some e ∧ S m ∧ S e ∧ S mw)
              clear HTL hfm3 hg3 hf3 hme hmb heb hsm hse hsw
              go_region
              clear hrun3 s20 s90 s91
              by_cases hc1 : c3 = 1
              case' pos =>
                have hl0 := HTL2.out.2.2.1 hc1
                have hnl0 : nl = 0 := by rw [← HNL.out, hl0]; rfl
                have htl : LnAt y2 0 (.slice (some ⟨b3, o3, none⟩) 0 0) l' := by have := HTL2.out.2.2.2; rw [if_pos hc1] at this; exact this
                subst hc1
                subst hnl0
                go_upto_region 13 with fail
                obtain ⟨tl, htl0⟩ : ∃ tl : Value, .slice (some ⟨b3, o3, none⟩) 0 0 = tl := ⟨_, rfl⟩
                have htb : tl.ownBlock = some b3 := by rw [← htl0]; rfl
                rw [htl0] at htl ⊢
                clear htl0
              case' neg =>
                have htl : LnAt y2 0 (.slice (some ⟨b3, o3 + 2, none⟩) nl (c3 - 1)) l' := by have := HTL2.out.2.2.2; rw [if_neg hc1, HNL.out] at this; exact this
                go_upto_region 13 with fail
                obtain ⟨tl, htl0⟩ : ∃ tl : Value, .slice (some ⟨b3, o3 + 2, none⟩) nl (c3 - 1) = tl := ⟨_, rfl⟩
                have htb : tl.ownBlock = some b3 := by rw [← htl0]; rfl
                rw [htl0] at htl ⊢
                clear htl0
              all_goals
                have hob : lv.ownBlock = some b3 := HOB.out
                have hbs : ∀ b, tl.ownBlock = some b → lv.ownBlock = some b := fun b hb => by rw [hob, ← htb]; exact hb
                have hf34 : Fr (fun x => x = e) y3 (y3.setCell ⟨e, 1, none⟩ tl) := Fr.setCell (S := fun x => x = e) (Fr.refl _ y3) (p := ⟨e, 1, none⟩) (.inl rfl) _
                have hbE4 : Box (y3.setCell ⟨e, 1, none⟩ tl) e #[.map (some m), tl] 86 := Box.set_ HBE3.out 1 _
                obtain ⟨y4, hy4⟩ : ∃ y4, y3.setCell ⟨e, 1, none⟩ tl = y4 := ⟨_, rfl⟩
                rw [hy4] at hf34 hbE4 ⊢
                clear hy4
                have hf24 : Fr (fun x => x = m ∨ x = e) y2 y4 := (HFR3.out.mono (fun _ _ h => .inl h)).trans (hf34.mono (fun _ _ h => .inr h))
                have hE4 : EntAt col y4 S (N + (got ++ g).length + 1) L k e m (n + 1) tl ⟨fput hc p.t p.m, l'⟩ := by
                  refine ⟨hbE4, HFM3.out.fr hf34 HFACT.out.1, Nat.succ_le_succ HE2.out.hn, htl.fr hf24 (fun b hb h => ?_), ?_, fun y hy => HE2.out.ok y (List.mem_cons_of_mem _ hy), HE2.out.se, HE2.out.sm, fun b hb => HE2.out.sb b (hbs b hb), HE2.out.ce, HE2.out.cm, fun b hb => HE2.out.cb b (hbs b hb)⟩
                  · rcases h with h | h
                    · exact HFACT.out.2.1 (by rw [← h]; exact hbs b hb)
                    · exact HFACT.out.2.2.1 (by rw [← h]; exact hbs b hb)
                  · have := HE2.out.hl
                    simp only [List.length_cons] at this ⊢
                    omega
                have HT4 := Lib.hid (show TabW y4 S (N + (got ++ g).length + 1) L t (T'.with_ k ⟨fput hc p.t p.m, l'⟩ g) col mk mw nk nw K' from by
                  have h1 := HT2.out.ent_ HKE.out HE2.out hf24 (fun x h => h.elim (fun h => .inl h) (fun h => .inr (.inl h))) hE4 (Nat.le_succ _)
                  rw [with_set] at h1
                  exact h1)
                have hS24 : ∀ y, (y = m ∨ y = e) → S y := fun y hy => by
                  rcases hy with h | h
                  · rw [h]; exact HFACT.out.2.2.2.1
                  · rw [h]; exact HFACT.out.2.2.2.2.1
                obtain ⟨y5, hrun5, hfm5, hg5⟩ := (HT4.out.fw.drew).drop Try.underlying57 p.t (ku_ok.2 HPT.out) 0
                replace hrun5 : (Builtin.delete_ #[57, 29] 0 #[.map (some mw), .int .u32 p.t]).run Try.prog y4.drew = .ok (.tuple #[]) y5 := hrun5
                have hf5 : Fr (fun x => x = mw) y4 y5 := ((Fr.refl _ y4).drew).grown hg5 (fun g hg => by injection hg with hg; exact .inl hg.symm)
                have hf25 : Fr (fun x => x = m ∨ x = e ∨ x = mw) y2 y5 := (hf24.mono (fun _ _ h => h.elim (fun h => .inl h) (fun h => .inr (.inl h)))).trans (hf5.mono (fun _ _ h => .inr (.inr h)))
                have hS25 : ∀ y, (y = m ∨ y = e ∨ y = mw) → S y := fun y hy => by
                  rcases hy with h | h | h
                  · exact hS24 y (.inl h)
                  · exact hS24 y (.inr h)
                  · rw [h]; exact HFACT.out.2.2.2.2.2
                have hx9S : ¬ (x9 = m ∨ x9 = e ∨ x9 = mw) := fun h => by have h1 := HOLD.out _ (hS25 _ h); have := HZ9.out; have := HS3.out; omega
                have HX95 := Lib.hid (HX92.out.fr hf25 hx9S)
                have HT5 := Lib.hid (show TabW y5 S (N + (got ++ g).length + 1) L t (T'.with_ k ⟨fput hc p.t p.m, l'⟩ (g ++ [p.t])) col mk mw nk nw K' from by
                  have h1 := HT4.out.wts hf5 HT4.out.hw hfm5
                  rw [with_stop] at h1
                  exact h1)
                have HO5 := Lib.hid (own_frS HO2.out hf25 (fun b hb h => by have h2 := HOLD.out _ (hS25 _ h); have := (HO2.out.lt b hb).1; have := HS3.out; omega))
                have HF5 := Lib.hid (show Fr S w y5 from HF2.out.trans' hf25 (fun y _ hy => hS25 y hy))
                have HX5 := Lib.hid (HX2.out.fr hf25 (fun h => by have h2 := HOLD.out _ (hS25 _ h); omega))
                have HX75 := Lib.hid (HX72.out.fr hf25 (fun h => by have h2 := HOLD.out _ (hS25 _ h); have := HZ9.out.1; have := HS3.out; omega))
                have HSK5 := Lib.hid (SS.fr HSK2.out hf25 (by have := HZ9.out.1; have := HZ9.out.2.1; have := HZ2.out; omega) (fun b hb hs => (HVS.out b hb).2 (hS25 b hs)))
                have HZ5 := Lib.hid (show x9 < y5.heap.size by have := HZ2.out; have := hf25.size; omega)
                have s41 : y4.cell? ⟨t, 1, none⟩ = some (.map (some mw)) := by rw [HT4.out.box.cell 1]; rfl
                have s490 : y4.cell? ⟨x9, 0, none⟩ = some (.int .u32 p.t) := by rw [(HX92.out.fr hf24 (fun h => hx9S (h.elim (fun h => .inl h) (fun h => .inr (.inl h))))).cell 0]; rfl
                have s590 : y5.cell? ⟨x9, 0, none⟩ = some (.int .u32 p.t) := by rw [HX95.out.cell 0]; rfl
                clear hob hbs hf34 hbE4 hf24 hE4 hS24 hfm5 hg5 hf5 hf25 hS25 hx9S HT4 htl htb HE2 HT2 HO2 HF2 HX2 HX72 HSK2 HX92 HZ2 HX95 HX93 HBE3 HFM3 HFR3 t91 t91f
                go_region
                clear hrun5 s41 s490
                go_wp2_with (at_builtin; refine wpList_push_ss (F := fun x : Int => [Value.int .u32 x]) (sz := 1) _ rfl _ _ _ rfl w3.heap.size 29 j0 _ 4 Try.underlying38 hj0 hj1 hj2 hj3 rfl (by decide) (fun _ => rfl) (by intro y u hu; simp at hu; subst hu; rfl) _ (got ++ g) rfl (by rw [u32_flat]; exact own_below HO5.out (new_ (Below.refl _ _) (.cells #[.int .u32 p.t] 29))) y5.heap.size p.t 29 rfl (Box.new y5 _ _) (HB63.out).1 (HB63.out).2 (by have := HZ5.out; have := HZ9.out; have := HS3.out; simp; omega) ?_; intro v6 y6 hown ht6)
                have tt := (RowTo.of_below (new_ (Below.refl y5.heap.size y5) (.cells #[.int .u32 p.t] 29)) (.slice A n6 c6)).trans ht6
                have hrow : ∀ b, (Value.slice A n6 c6).ownBlock = some b → w3.heap.size ≤ b ∧ b ≠ x7 ∧ b < x9 := fun b hb => ⟨(HO5.out.lt b hb).1, HZ9.out.2.2 b hb⟩
                rw [u32_flat, List.append_assoc] at hown
                obtain ⟨A6, n7, c7, rfl⟩ : ∃ A n c, v6 = .slice A n c := by
                  rcases hown.2 with ⟨rfl, _⟩ | ⟨g', cap, cur, rfl, _⟩
                  · exact ⟨_, _, _, rfl⟩
                  · exact ⟨_, _, _, rfl⟩
                have hn7 : n7 = (got ++ (g ++ [p.t])).length := by
                  rcases hown.2 with ⟨_, e2⟩ | ⟨g', cap, cur, e1, _⟩
                  · simp at e2
                  · injection e1 with _ e2 _
                have hnS : ∀ y, S y → ¬ (Value.slice A n6 c6).ownBlock = some y := fun y hy hb => by have h1 := HOLD.out y hy; have h2 := (hrow y hb).1; have := HS3.out; omega
                have hx7n : ¬ (Value.slice A n6 c6).ownBlock = some x7 := fun hb => (hrow _ hb).2.1 rfl
                have hlen : N + (got ++ g).length + 1 = N + (got ++ (g ++ [p.t])).length := by simp; omega
                have HT6 := HT5.out.far tt.fr hnS
                rw [hlen] at HT6
                refine ⟨⟨A6, n7, c7, g ++ [p.t], fput hc p.t p.m, l', rfl, Lib.hid hn7, Lib.hid (by rw [HW.out, HWK.out]; simp), Lib.hid HT6, Lib.hid hown, Lib.hid (by have := HLC.out; simp at this ⊢; omega), Lib.hid ((HF5.out.trans' tt.fr (fun y hy hb => by have := (hrow y hb).1; have := HWS.out; have := HS3.out; omega))),
                  Lib.hid (HX5.out.fr tt.fr (fun hb => by have := (hrow _ hb).1; have := HS3.out; omega)), Lib.hid (HX75.out.fr tt.fr hx7n), Lib.hid (SS.fr HSK5.out tt.fr (by have := HZ5.out; have := HZ9.out.1; have := HZ9.out.2.1; omega) (fun b hb hs => by have h1 := (hrow b hs).1; have h2 : bk = b := (by injection hb); have := HBK.out; omega)), Lib.hid ⟨HZ9.out.1, by have := HZ5.out; have := HZ9.out.2.1; have := tt.fr.size; omega⟩, Lib.hid (fun b hb e => by
                    rcases tt.own with h | ⟨q, h, hq⟩
                    · rw [h] at hb; exact (hrow b hb).2.1 e
                    · rw [h] at hb; injection hb with hb; have := HZ5.out; have := HZ9.out.2.1; omega)⟩, ?_⟩
                show got.length + L - sLen (.slice A6 n7 c7) < got.length + L - sLen (.slice A n6 c6)
                have h1 := HLC.out
                have h2 := HN6.out
                simp only [sLen]
                rw [hn7, h2]
                simp at h1 ⊢
                omega
    · have hiN : i = NK := by omega
      have d1 : decide ((i : Int) < (NK : Int)) = false := by simp; omega
      have d1' : decide (i < NK) = false := by simp; omega
      have HRR := Lib.hid (show relAll (T.stop txn) txn ks = (T', got) by have := HR.out; rw [hiN, ← HNK.out, List.take_length] at this; exact this)
      clear hiN
      go_wp2
      go_ret
      exact ⟨_, ks, T', got, rfl, HOF0.out, HRR.out, own_lower HO.out (by have := HS3.out; omega), ⟨_, _, _, _, _, _, HT.out⟩, HF.out⟩
end Go.Proofs.Ytpndcpmfcajmdaa.Lock
namespace Go.Proofs.Ytpndcpmfcajmdaa.Lock
open Go.ChangeShapes Go.WideShapes Go.ChangeAt Go.RowKit Go.IntWalk Go.Proofs.Mem Law
set_option linter.unusedVariables false
set_option linter.unusedSimpArgs false
def Tb.one (k : Ky) (h : Int → Option Int) (l : List Pl) (W : Int → Option Hd) : Tb := ⟨fun y => if y = k then ⟨h, l⟩ else En.none, W⟩
theorem one_at (k : Ky) (h : Int → Option Int) (l : List Pl) (W : Int → Option Hd) : (Tb.one k h l W).ent k = ⟨h, l⟩ := if_pos rfl
theorem one_set (k : Ky) (h h' : Int → Option Int) (l l' : List Pl) (W : Int → Option Hd) : (Tb.one k h l W).set k ⟨h', l'⟩ = Tb.one k h' l' W := by
  unfold Tb.one Tb.set
  simp only [Tb.mk.injEq, and_true]
  funext y
  by_cases e : y = k <;> simp [e]
theorem one_has (k y : Ky) (h : Int → Option Int) (l : List Pl) (W : Int → Option Hd) (t : Int) : (Tb.one k h l W).has y t = (decide (y = k) && (⟨h, l⟩ : En).has t) := by
  unfold Tb.has Tb.one
  by_cases e : y = k
  · simp [e]
  · simp [e, none_has]
theorem T0_one (k : Ky) : T0 = Tb.one k (fun _ => none) [] (fun _ => none) := by
  unfold T0 Tb.one
  simp only [Tb.mk.injEq, and_true]
  funext y
  by_cases e : y = k <;> simp [e, En.none]
theorem one_of {k : Ky} {h : Int → Option Int} {l : List Pl} {W : Int → Option Hd} {t : Int} {ks : List Ky} (hq : (⟨h, l⟩ : En).has t = true) (ho : OfL (Tb.one k h l W) t ks) : ks = [k] :=
  ho.uniq ⟨fun y => by rw [one_has, hq]; simp, List.pairwise_singleton _ _⟩
theorem one_rel {k : Ky} {h h' : Int → Option Int} {l l' : List Pl} {W : Int → Option Hd} {t : Int} {ks : List Ky} {g : List Int} {T' : Tb} {got : List Int} (hq : (⟨h, l⟩ : En).has t = true) (ho : OfL (Tb.one k h l W) t ks)
    (hw : wake (fdel h t) (l.filter fun x => !isT t x) = (h', l', g)) (hr : relAll ((Tb.one k h l W).stop t) t ks = (T', got)) : T' = Tb.one k h' l' (stopAll (fdel W t) g) ∧ got = g := by
  rw [one_of hq ho] at hr
  have e1 : (Tb.one k h l W).stop t = Tb.one k h l (fdel W t) := rfl
  rw [e1] at hr
  unfold relAll at hr
  simp only [List.foldl_cons, List.foldl_nil, relOne, one_at, En.rel, En.cut, hw, List.nil_append] at hr
  injection hr with hr1 hr2
  refine ⟨?_, hr2.symm⟩
  rw [← hr1, one_set]
  rfl
theorem ask_put {T : Tb} {t : Int} {k : Ky} {m md : Int} (hm : mdOf m = md) (h1 : hasE ((T.ent k).hv t) md = false) (h2 : T.wt t = none) (h3 : fit (T.ent k).hv t md = true) (h4 : ((T.ent k).hv t).isSome = true ∨ (T.ent k).line = []) :
    askB T t k m = true ∧ askT T t k m = T.set k ⟨fput (T.ent k).hv t md, (T.ent k).line⟩ := by
  have h5 : (((T.ent k).hv t).isSome || (T.ent k).line.isEmpty) = true := by
    rcases h4 with h | h
    · rw [h]; rfl
    · rw [h]; simp
  unfold askB askT Tb.at_
  rw [hm, h1, h2, h3, h5]
  exact ⟨rfl, rfl⟩
theorem ask_wait {T : Tb} {t : Int} {k : Ky} {m md : Int} (hm : mdOf m = md) (h1 : hasE ((T.ent k).hv t) md = false) (h2 : T.wt t = none) (h3 : (fit (T.ent k).hv t md && (((T.ent k).hv t).isSome || (T.ent k).line.isEmpty)) = false) :
    askB T t k m = false ∧ askT T t k m = (T.set k ⟨(T.ent k).hv, insP (T.ent k).hv ⟨t, md⟩ (T.ent k).line⟩).wait t (hdOf k md) := by
  unfold askB askT Tb.at_
  rw [hm, h1, h2, h3]
  exact ⟨rfl, rfl⟩
theorem one_wait (k : Ky) (h : Int → Option Int) (l : List Pl) (W : Int → Option Hd) (t : Int) (x : Hd) : (Tb.one k h l W).wait t x = Tb.one k h l (fput W t x) := rfl
/-! The example. -/
def k0 : Ky := ⟨1, 0, 0⟩
def hA : Int → Option Int := fput (fun _ => none) 1 1
def hB : Int → Option Int := fput hA 2 1
def TA : Tb := Tb.one k0 hA [] (fun _ => none)
def TB : Tb := Tb.one k0 hB [] (fun _ => none)
def TC : Tb := Tb.one k0 hB [⟨1, 2⟩] (fput (fun _ => none) 1 (hdOf k0 2))
def TD : Tb := Tb.one k0 hB [⟨1, 2⟩, ⟨3, 1⟩] (fput (fput (fun _ => none) 1 (hdOf k0 2)) 3 (hdOf k0 1))
theorem kn_a : askB T0 1 k0 1 = true ∧ askT T0 1 k0 1 = TA := by
  rw [T0_one k0]
  obtain ⟨h1, h2⟩ := ask_put (T := Tb.one k0 (fun _ => none) [] (fun _ => none)) (t := 1) (k := k0) (m := 1) (md := 1) rfl (by rw [one_at]; rfl) rfl (by rw [one_at]; exact fit_none _ _) (.inr (by rw [one_at]))
  refine ⟨h1, h2.trans ?_⟩
  rw [one_at, one_set]
  rfl
theorem hA_is (x md : Int) (h : hA x = some md) : x = 1 ∧ md = 1 := by
  unfold hA fput at h
  split at h
  · injection h with h; exact ⟨by assumption, h.symm⟩
  · cases h
theorem hB_is (x md : Int) (h : hB x = some md) : (x = 2 ∨ x = 1) ∧ md = 1 := by
  unfold hB fput at h
  split at h
  · injection h with h; exact ⟨.inl (by assumption), h.symm⟩
  · obtain ⟨h1, h2⟩ := hA_is x md h; exact ⟨.inr h1, h2⟩
theorem kn_b : askB TA 2 k0 1 = true ∧ askT TA 2 k0 1 = TB := by
  obtain ⟨h1, h2⟩ := ask_put (T := TA) (t := 2) (k := k0) (m := 1) (md := 1) rfl (by unfold TA; rw [one_at]; rfl) rfl (by unfold TA; rw [one_at]; exact fit_true fun x md h => .inr (by rw [(hA_is x md h).2]; rfl)) (.inr (by unfold TA; rw [one_at]))
  refine ⟨h1, h2.trans ?_⟩
  unfold TA
  rw [one_at, one_set]
  rfl
theorem kn_c : askB TB 1 k0 2 = false ∧ askT TB 1 k0 2 = TC := by
  have hf : fit hB 1 2 = false := fit_false (x := 2) (md := 1) rfl (by decide) rfl
  obtain ⟨h1, h2⟩ := ask_wait (T := TB) (t := 1) (k := k0) (m := 2) (md := 2) rfl (by unfold TB; rw [one_at]; rfl) rfl (by unfold TB; rw [one_at]; simp only [hf, Bool.false_and])
  refine ⟨h1, h2.trans ?_⟩
  unfold TB
  rw [one_at, one_set, one_wait]
  rfl
theorem kn_d : askB TC 3 k0 1 = false ∧ askT TC 3 k0 1 = TD := by
  obtain ⟨h1, h2⟩ := ask_wait (T := TC) (t := 3) (k := k0) (m := 1) (md := 1) rfl (by unfold TC; rw [one_at]; rfl) rfl (by unfold TC; rw [one_at]; show (_ && (false || false)) = false; simp)
  refine ⟨h1, h2.trans ?_⟩
  unfold TC
  rw [one_at, one_set, one_wait]
  rfl
def hE : Int → Option Int := fput (fdel hB 2) 1 2
def TE : Tb := Tb.one k0 hE [⟨3, 1⟩] (stopAll (fdel (fput (fput (fun _ => none) 1 (hdOf k0 2)) 3 (hdOf k0 1)) 2) [1])
theorem hE_is (x md : Int) (h : hE x = some md) : x = 1 ∧ md = 2 := by
  unfold hE fput at h
  split at h
  · injection h with h; exact ⟨by assumption, h.symm⟩
  · unfold fdel at h
    split at h
    · cases h
    · have := hB_is x md h; omega
theorem kn_e {ks : List Ky} {T' : Tb} {got : List Int} (ho : OfL TD 2 ks) (hr : relAll (TD.stop 2) 2 ks = (T', got)) : T' = TE ∧ got = [1] := by
  refine one_rel (by rfl) ho ?_ hr
  have e : ([⟨1, 2⟩, ⟨3, 1⟩] : List Pl).filter (fun x => !isT 2 x) = [⟨1, 2⟩, ⟨3, 1⟩] := by rfl
  have f1 : fit (fdel hB 2) 1 2 = true := fit_true fun x md h => by
    unfold fdel at h
    split at h
    · cases h
    · have := hB_is x md h; left; omega
  have f2 : fit (fput (fdel hB 2) 1 2) 3 1 = false := fit_false (x := 1) (md := 2) rfl (by decide) rfl
  have f3 := wake_no (h := fput (fdel hB 2) 1 2) (p := ⟨3, 1⟩) (l := []) f2
  rw [e, wake_yes (p := ⟨1, 2⟩) f1]
  simp only [f3]
  rfl
theorem kn_f {ks : List Ky} {T' : Tb} {got : List Int} (ho : OfL TE 1 ks) (hr : relAll (TE.stop 1) 1 ks = (T', got)) : got = [3] := by
  have f1 : fit (fdel hE 1) 3 1 = true := fit_true fun x md h => by
    unfold fdel at h
    split at h
    · cases h
    · have := hE_is x md h; omega
  have e : ([⟨3, 1⟩] : List Pl).filter (fun x => !isT 1 x) = [⟨3, 1⟩] := by rfl
  exact (one_rel (h' := fput (fdel hE 1) 3 1) (l' := []) (g := [3]) (by rfl) ho (by rw [e, wake_yes f1]; simp only [wake_nil]) hr).2
end Go.Proofs.Ytpndcpmfcajmdaa.Lock
namespace Go.Proofs.Ytpndcpmfcajmdaa.Lock
open Go.ChangeShapes Go.WideShapes Go.ChangeAt Go.RowKit Go.IntWalk Go.Proofs.Mem Law Go.Proofs.Each
set_option linter.unusedVariables false
set_option linter.unusedSimpArgs false
theorem k0_ok : k0.ok := by
  refine ⟨?_, ?_, ?_⟩ <;> decide +kernel
theorem AskOut.next {w w' : World} {S : Nat → Prop} {N L t B xk : Nat} {T : Tb} {C : Array Value} {ty : TypeId} (h : AskOut w w' S N L t T) (hS : ∀ x, S x → B ≤ x ∧ x ≠ xk) (hX : Box w xk C ty) (hB : B ≤ w.heap.size) : ∃ S', TabAt w' S' N L t T ∧ (∀ x, S' x → B ≤ x ∧ x ≠ xk) ∧ Box w' xk C ty ∧ Below B w w' := by
  obtain ⟨S', h1, h2, h3⟩ := h
  have hl := hX.lt
  exact ⟨S', h1, fun x hx => (h3 x hx).elim (hS x) (fun h => ⟨by omega, by omega⟩), hX.fr h2 (fun h => (hS xk h).2 rfl), h2.to_below (fun x hx => (hS x hx).1) hB⟩
theorem own_one {w : World} {B : Nat} {v : Value} {x : Int} (h : w.ownsRow B 29 1 v [x].length ([x].map (.int .u32))) : ∃ g c, v = .slice (some ⟨g, 0, none⟩) 1 c ∧ B ≤ g ∧ g < w.heap.size ∧ 1 ≤ c ∧ w.cell? ⟨g, 0, none⟩ = some (.int .u32 x) := by
  have h' := h
  rcases h.2 with ⟨_, h0⟩ | ⟨g, cap, cur, rfl, hg, hh, hnc, _, _⟩
  · simp at h0
  · refine ⟨g, cap, rfl, hg, (h'.lt g rfl).2, hnc, ?_⟩
    have := h'.cellAt 0 (by simp)
    simpa using this
set_option maxRecDepth 100000 in
set_option maxHeartbeats 8000000 in
theorem known_any (w : World) : Calls Try.prog 9 #[] w fun e w' => e = .returned (.bool true) ∧ Below w.heap.size w w' := by
  have CN := Lib.hid (fun W => new_tab W)
  have CA := Lib.hid (show ∀ (W : World) (S : Nat → Prop) (N L t : Nat) (T : Tb) (txn m : Int), TabAt W S N L t T → U32 txn → N ≤ 50000 → L ≤ 50000 → Calls Try.prog 19 #[.pointer (some ⟨t, 0, none⟩), .int .u32 txn, .agg #[.int .u8 1, .int .u32 0, .int .u32 0], .int .u8 m] W fun e w' => e = .returned (.bool (askB T txn k0 m)) ∧ AskOut W w' S (N + 1) (L + 1) t (askT T txn k0 m) from
    fun W S N L t T txn m h ht hN hL => ask_any W S N L t T txn k0 m h ht k0_ok hN hL)
  have CR := Lib.hid (fun (W : World) (S : Nat → Prop) (N L t : Nat) (T : Tb) (txn : Int) (h : TabAt W S N L t T) (ht : U32 txn) (hN : N ≤ 50000) (hL : L ≤ 50000) => release_any W S N L t T txn h ht hN hL)
  obtain ⟨B, hB⟩ : ∃ B, w.heap.size = B := ⟨_, rfl⟩
  rw [hB]
  have HB0 := Lib.hid hB
  clear hB
  go_enter Try.func9, Try.ntmps9
  go_wp2_with fail
  (with_reducible refine (CN.out _).mono ?_)
  rintro er w1 ⟨t, S2, rfl, ht1, hs1, hb1⟩
  have HT1 := Lib.hid ht1
  have HS1 := Lib.hid (show ∀ x, S2 x → B ≤ x from fun x hx => by rw [← HB0.out]; exact hs1 x hx)
  have HB1 := Lib.hid (show Below B w w1 by rw [← HB0.out]; exact hb1)
  have HZ1 := Lib.hid (show B ≤ w1.heap.size by rw [← HB0.out]; exact hb1.size)
  clear ht1 hs1 hb1
  go_upto_region 5 with fail
  have b2 := new_ (Below.refl w1.heap.size w1) (.cells #[.int .u8 1, .int .u32 0, .int .u32 0] 31)
  have X2 := Lib.hid (Box.new w1 #[.int .u8 1, .int .u32 0, .int .u32 0] 31)
  have HT2 := Lib.hid (HT1.out.later b2)
  have HB2 := Lib.hid (HB1.out.trans (b2.mono HZ1.out))
  obtain ⟨xk, hxk⟩ : ∃ x, w1.heap.size = x := ⟨_, rfl⟩
  have HS2 := Lib.hid (show ∀ x, S2 x → B ≤ x ∧ x ≠ xk from fun x hx => ⟨HS1.out x hx, fun e => by
    obtain ⟨_, _, _, _, _, _, h⟩ := HT1.out
    have := h.old x hx; omega⟩)
  have HZ2 := Lib.hid (show B ≤ (w1.alloc (.cells #[.int .u8 1, .int .u32 0, .int .u32 0] 31)).heap.size by have := HZ1.out; have := b2.size; omega)
  rw [hxk] at X2 ⊢
  clear b2 hxk HT1 HS1 HB1 HZ1
  generalize w1.alloc (.cells #[.int .u8 1, .int .u32 0, .int .u32 0] 31) = w2 at X2 HT2 HB2 HZ2 ⊢
  have c0 := X2.out.cell
  have CC := Lib.hid (CA.out w2 S2 0 0 t T0 1 1 HT2.out (by unfold U32; omega) (by omega) (by omega))
  go_wp2_with fail
  (with_reducible refine CC.out.mono ?_)
  rintro er w3 ⟨rfl, ho⟩
  rw [kn_a.1]
  rw [kn_a.2] at ho
  obtain ⟨S3, h1, h2, h3, h4⟩ := ho.next HS2.out X2.out HZ2.out
  have HT3 := Lib.hid h1
  have HS3 := Lib.hid h2
  have X3 := Lib.hid h3
  have HB3 := Lib.hid (HB2.out.trans h4)
  have HZ3 := Lib.hid (Nat.le_trans HZ2.out h4.size)
  clear ho h1 h2 h3 h4 c0 CC HT2 HS2 X2 HB2 HZ2
  have c0 := X3.out.cell
  have CC := Lib.hid (CA.out w3 S3 1 1 t TA 2 1 HT3.out (by unfold U32; omega) (by omega) (by omega))
  go_wp2_with fail
  (with_reducible refine CC.out.mono ?_)
  rintro er w4 ⟨rfl, ho⟩
  rw [kn_b.1]
  rw [kn_b.2] at ho
  obtain ⟨S4, h1, h2, h3, h4⟩ := ho.next HS3.out X3.out HZ3.out
  have HT4 := Lib.hid h1
  have HS4 := Lib.hid h2
  have X4 := Lib.hid h3
  have HB4 := Lib.hid (HB3.out.trans h4)
  have HZ4 := Lib.hid (Nat.le_trans HZ3.out h4.size)
  clear ho h1 h2 h3 h4 c0 CC HT3 HS3 X3 HB3 HZ3
  have c0 := X4.out.cell
  have CC := Lib.hid (CA.out w4 S4 2 2 t TB 1 2 HT4.out (by unfold U32; omega) (by omega) (by omega))
  go_wp2_with fail
  (with_reducible refine CC.out.mono ?_)
  rintro er w5 ⟨rfl, ho⟩
  rw [kn_c.1]
  rw [kn_c.2] at ho
  obtain ⟨S5, h1, h2, h3, h4⟩ := ho.next HS4.out X4.out HZ4.out
  have HT5 := Lib.hid h1
  have HS5 := Lib.hid h2
  have X5 := Lib.hid h3
  have HB5 := Lib.hid (HB4.out.trans h4)
  have HZ5 := Lib.hid (Nat.le_trans HZ4.out h4.size)
  clear ho h1 h2 h3 h4 c0 CC HT4 HS4 X4 HB4 HZ4
  have c0 := X5.out.cell
  have CC := Lib.hid (CA.out w5 S5 3 3 t TC 3 1 HT5.out (by unfold U32; omega) (by omega) (by omega))
  go_wp2_with fail
  (with_reducible refine CC.out.mono ?_)
  rintro er w6 ⟨rfl, ho⟩
  rw [kn_d.1]
  rw [kn_d.2] at ho
  obtain ⟨S6, h1, h2, h3, h4⟩ := ho.next HS5.out X5.out HZ5.out
  have HT6 := Lib.hid h1
  have HS6 := Lib.hid h2
  have X6 := Lib.hid h3
  have HB6 := Lib.hid (HB5.out.trans h4)
  have HZ6 := Lib.hid (Nat.le_trans HZ5.out h4.size)
  clear ho h1 h2 h3 h4 c0 CC HT5 HS5 X5 HB5 HZ5
  have c0 := X6.out.cell
  clear c0
  have CC := Lib.hid (CR.out w6 S6 4 4 t TD 2 HT6.out (by unfold U32; omega) (by omega) (by omega))
  go_wp2_with fail
  (with_reducible refine CC.out.mono ?_)
  rintro er w7 ⟨v7, ks7, T7, g7, rfl, ho7, hr7, hw7, ht7, hf7⟩
  obtain ⟨rfl, rfl⟩ := kn_e ho7 hr7
  have HT7 := Lib.hid (show TabAt w7 S6 5 4 t TE from ht7)
  have hb7 : Below B w6 w7 := hf7.to_below (fun x hx => (HS6.out x hx).1) HZ6.out
  obtain ⟨g7, c7, rfl, hg7, hl7, hc7, hd7⟩ := own_one hw7
  have HB7 := Lib.hid (HB6.out.trans hb7)
  have HZ7 := Lib.hid (Nat.le_trans HZ6.out hb7.size)
  have hlt6 : ∀ x, S6 x → x < w6.heap.size := fun x hx => by
    obtain ⟨_, _, _, _, _, _, h⟩ := HT6.out
    exact h.old x hx
  have HG7 := Lib.hid (show ¬ S6 g7 ∧ g7 < w7.heap.size from ⟨fun h => by have := hlt6 g7 h; omega, hl7⟩)
  have HD7 := Lib.hid hd7
  have HC7 := Lib.hid hc7
  clear ho7 hr7 hw7 ht7 hf7 hb7 hg7 hl7 hlt6 hd7 CC HT6 X6 HB6
  have CC := Lib.hid (CR.out w7 S6 5 4 t TE 1 HT7.out (by unfold U32; omega) (by omega) (by omega))
  go_wp2_with fail
  (with_reducible refine CC.out.mono ?_)
  rintro er w8 ⟨v8, ks8, T8, g8, rfl, ho8, hr8, hw8, ht8, hf8⟩
  obtain rfl := kn_f ho8 hr8
  have hb8 : Below B w7 w8 := hf8.to_below (fun x hx => (HS6.out x hx).1) HZ7.out
  obtain ⟨g8, c8, rfl, hg8, hl8, hc8, d8⟩ := own_one hw8
  have HB8 := Lib.hid (HB7.out.trans hb8)
  have d7 : w8.cell? ⟨g7, 0, none⟩ = some (.int .u32 1) := (hf8.cell (p := ⟨g7, 0, none⟩) HG7.out.2 HG7.out.1).trans HD7.out
  clear ho8 hr8 hw8 ht8 hf8 hb8 hg8 hl8 CC
  go_wp2
  go_ret
  exact ⟨rfl, HB8.out⟩
end Go.Proofs.Ytpndcpmfcajmdaa.Lock
namespace Go.Proofs.Ytpndcpmfcajmdaa.Lock
open Go.ChangeShapes Go.WideShapes Go.ChangeAt Go.RowKit Go.IntWalk Go.Proofs.Mem Law
set_option linter.unusedVariables false
set_option linter.unusedSimpArgs false
def hd1 : List Int → Int → Option Int
  | [] => fun _ => none
  | x :: _ => fput (fun _ => none) x 2
def stT (k : Ky) (d : List Int) : Tb := Tb.one k (hd1 d) (d.tail.map fun x => ⟨x, 2⟩) (fun x => if x ∈ d.tail then some (hdOf k 2) else none)
theorem TabAt.more {w : World} {S : Nat → Prop} {N L N' L' t : Nat} {T : Tb} (h : TabAt w S N L t T) (hN : N ≤ N') (hL : L ≤ L') : TabAt w S N' L' t T := by
  obtain ⟨_, _, _, _, _, _, h⟩ := h
  exact ⟨_, _, _, _, _, _, h.more (fun _ => id) (fun x hx => h.old x hx) hN hL⟩
theorem TabAt.old {w : World} {S : Nat → Prop} {N L t : Nat} {T : Tb} (h : TabAt w S N L t T) : ∀ x, S x → x < w.heap.size := by
  obtain ⟨_, _, _, _, _, _, h⟩ := h
  exact h.old
theorem own_is {w : World} {B n : Nat} {e : TypeId} {v : Value} {xs : List Value} (h : w.ownsRow B e 1 v n xs) : ∃ A c, v = .slice A n c ∧ n ≤ c ∧ c ≤ maxLen := by
  rcases h.2 with ⟨rfl, rfl⟩ | ⟨g, cap, cur, rfl, _, _, h1, h2, _⟩
  · exact ⟨_, _, rfl, Nat.le_refl _, Nat.zero_le _⟩
  · exact ⟨_, _, rfl, h1, h2⟩
def dst (l : List Int) : List Int := l.foldl (fun d x => if x ∈ d then d else d ++ [x]) []
theorem into_sorted {l : List Int} {n : Int} (h : l.Pairwise (· < ·)) : (into l n).Pairwise (· < ·) ∧ (into l n).length = if n ∈ l then l.length else l.length + 1 := by
  have key : ∀ l : List Int, l.Pairwise (· < ·) → ((l.dropWhile fun x => decide (x < n)).head? = some n ↔ n ∈ l) ∧ (∀ x ∈ l.takeWhile (fun x => decide (x < n)), x < n) ∧ (∀ x ∈ l.dropWhile (fun x => decide (x < n)), n ≤ x) := by
    intro l
    induction l with
    | nil => intro _; simp
    | cons y l ih =>
      intro h
      rw [List.pairwise_cons] at h
      obtain ⟨i1, i2, i3⟩ := ih h.2
      by_cases hy : y < n
      · have hne : n ≠ y := by omega
        simp only [List.dropWhile_cons, List.takeWhile_cons, decide_eq_true hy, if_true, List.mem_cons]
        refine ⟨by rw [i1]; simp [hne], fun x hx => ?_, i3⟩
        rcases hx with h1 | h1
        · omega
        · exact i2 x h1
      · simp only [List.dropWhile_cons, List.takeWhile_cons, decide_eq_false hy, Bool.false_eq_true, if_false, List.mem_cons, List.head?_cons, List.not_mem_nil]
        refine ⟨⟨fun e => .inl (by injection e with e; exact e.symm), fun e => ?_⟩, fun x hx => hx.elim, fun x hx => ?_⟩
        · rcases e with e | e
          · rw [e]
          · have := h.1 n e; omega
        · rcases hx with h1 | h1
          · omega
          · have := h.1 x h1; omega
  obtain ⟨k1, k2, k3⟩ := key l h
  have e := List.takeWhile_append_dropWhile (p := fun x => decide (x < n)) (l := l)
  unfold into
  by_cases hm : n ∈ l
  · rw [if_pos (k1.2 hm), if_pos hm]; exact ⟨h, rfl⟩
  · rw [if_neg (fun hh => hm (k1.1 hh)), if_neg hm]
    constructor
    · rw [← e, List.pairwise_append] at h
      rw [List.pairwise_append, List.pairwise_cons]
      refine ⟨h.1, ⟨fun x hx => ?_, h.2.1⟩, fun x hx y hy => ?_⟩
      · have h1 := k3 x hx
        have h2 : x ≠ n := fun e' => hm (by rw [← e', ← e]; exact List.mem_append_right _ hx)
        omega
      · rcases List.mem_cons.1 hy with h1 | h1
        · rw [h1]; exact k2 x hx
        · exact h.2.2 x hx y h1
    · rw [List.length_append, List.length_cons]
      have := congrArg List.length e
      rw [List.length_append] at this
      omega
end Go.Proofs.Ytpndcpmfcajmdaa.Lock
namespace Go.Proofs.Ytpndcpmfcajmdaa.Lock
open Go.ChangeShapes Go.WideShapes Go.ChangeAt Go.RowKit Go.IntWalk Go.Proofs.Mem Law Go.Shelf Go.Proofs.Each
set_option linter.unusedVariables false
set_option linter.unusedSimpArgs false
def StepR (T : Tb) (o : Lo) (T' : Tb) : Prop :=
  if o.kd % 6 = 4 then ∃ ks got, OfL T o.t ks ∧ relAll (T.stop o.t) o.t ks = (T', got) else T' = askT T o.t o.k o.m
inductive RunR : List Lo → Tb → Prop
  | nil : RunR [] T0
  | snoc {l : List Lo} {T T' : Tb} {o : Lo} : RunR l T → StepR T o T' → RunR (l ++ [o]) T'
def whoOf (l : List Lo) : List Int := l.foldl (fun d o => into d o.t) []
theorem whoOf_snoc (l : List Lo) (o : Lo) : whoOf (l ++ [o]) = into (whoOf l) o.t := by unfold whoOf; rw [List.foldl_append]; rfl
/-! What holds in every table that any calls leave. -/
structure Inv (T : Tb) : Prop where
  md : ∀ k x m, (T.ent k).hv x = some m → m = 1 ∨ m = 2
  ml : ∀ k p, p ∈ (T.ent k).line → p.m = 1 ∨ p.m = 2
  two : ∀ k x y m n, (T.ent k).hv x = some m → (T.ent k).hv y = some n → x ≠ y → m = 1 ∧ n = 1
  wt : ∀ x h, T.wt x = some h ↔ ∃ k m, h = hdOf k m ∧ (⟨x, m⟩ : Pl) ∈ (T.ent k).line
  nd : ∀ k, ((T.ent k).line.map (·.t)).Nodup
theorem hdOf_inj {k k' : Ky} {m m' : Int} (h : hdOf k m = hdOf k' m') : k = k' ∧ m = m' := by
  obtain ⟨a, b, c⟩ := k
  obtain ⟨a', b', c'⟩ := k'
  unfold hdOf at h
  injection h with h1 h2 h3 h4
  simp only at h1 h2 h3
  subst h1 h2 h3 h4
  exact ⟨rfl, rfl⟩
theorem inv_T0 : Inv T0 := by
  refine ⟨fun k x m h => (by cases h), fun k p h => (by cases h), fun k x y m n h => (by cases h), fun x h => ⟨fun h => (by cases h), ?_⟩, fun k => List.nodup_nil⟩
  rintro ⟨k, m, _, h⟩
  cases h
theorem mdOf_is (m : Int) : mdOf m = 1 ∨ mdOf m = 2 := by unfold mdOf; split <;> simp
theorem tog_is {a b : Int} (h : tog a b = true) : a = 1 ∧ b = 1 := by
  unfold tog at h
  simpa using h
open Classical in
theorem fit_is {h : Int → Option Int} {t m : Int} (hf : fit h t m = true) : ∀ x md, h x = some md → x = t ∨ (md = 1 ∧ m = 1) := by
  intro x md hx
  unfold fit at hf
  have := of_decide_eq_true hf
  exact (this x md hx).imp id tog_is
theorem insP_perm (h : Int → Option Int) (p : Pl) (l : List Pl) : (insP h p l).Perm (p :: l) := by
  unfold insP
  split
  · have e := List.takeWhile_append_dropWhile (p := fun x : Pl => (h x.t).isSome) (l := l)
    refine List.perm_middle.trans ?_
    rw [e]
  · exact List.perm_append_comm
def Two (h : Int → Option Int) : Prop := ∀ x y m n, h x = some m → h y = some n → x ≠ y → m = 1 ∧ n = 1
theorem two_put {h : Int → Option Int} {t m : Int} (hw : Two h) (hf : fit h t m = true) : Two (fput h t m) := by
  intro x y a b hx hy hne
  have hi := fit_is hf
  unfold fput at hx hy
  split at hx <;> split at hy
  · rename_i e1 e2; exact absurd (e1.trans e2.symm) hne
  · rename_i e1 e2
    injection hx with hx
    rcases hi y b hy with e | ⟨h1, h2⟩
    · exact absurd e e2
    · exact ⟨hx.symm.trans h2, h1⟩
  · rename_i e1 e2
    injection hy with hy
    rcases hi x a hx with e | ⟨h1, h2⟩
    · exact absurd e e1
    · exact ⟨h1, hy.symm.trans h2⟩
  · exact hw x y a b hx hy hne
structure Wk (h : Int → Option Int) (l : List Pl) (r : (Int → Option Int) × List Pl × List Int) (pre : List Pl) : Prop where
  sp : l = pre ++ r.2.1
  got : r.2.2 = pre.map (·.t)
  hv : ∀ x m, r.1 x = some m → h x = some m ∨ (⟨x, m⟩ : Pl) ∈ pre
  far : ∀ x, x ∉ pre.map (·.t) → r.1 x = h x
  has : (l.map (·.t)).Nodup → ∀ p ∈ pre, r.1 p.t = some p.m
  two : Two h → Two r.1
theorem wake_form : ∀ (l : List Pl) (h : Int → Option Int), ∃ pre, Wk h l (wake h l) pre
  | [], h => by
    rw [wake_nil]
    exact ⟨[], rfl, rfl, fun x m e => .inl e, fun x _ => rfl, fun _ p hp => (by cases hp), id⟩
  | p :: l, h => by
    cases hf : fit h p.t p.m with
    | false =>
      rw [wake_no hf]
      exact ⟨[], rfl, rfl, fun x m e => .inl e, fun x _ => rfl, fun _ p hp => (by cases hp), id⟩
    | true =>
      obtain ⟨pre, hw⟩ := wake_form l (fput h p.t p.m)
      rw [wake_yes hf]
      refine ⟨p :: pre, by rw [List.cons_append]; exact congrArg _ hw.sp, by simp only [List.map_cons]; exact congrArg _ hw.got, fun x m e => ?_, fun x hx => ?_, fun hn q hq => ?_, fun h2 => hw.two (two_put h2 hf)⟩
      · rcases hw.hv x m e with h1 | h1
        · unfold fput at h1
          split at h1
          · rename_i e1
            injection h1 with h1
            subst e1 h1
            exact .inr (List.mem_cons_self ..)
          · exact .inl h1
        · exact .inr (List.mem_cons_of_mem _ h1)
      · simp only [List.map_cons, List.mem_cons, not_or] at hx
        refine (hw.far x hx.2).trans ?_
        unfold fput
        rw [if_neg hx.1]
      · rw [List.map_cons, List.nodup_cons] at hn
        rcases List.mem_cons.1 hq with e | e
        · subst e
          refine (hw.far q.t (fun hm => hn.1 ?_)).trans (fput_same _ _ _)
          obtain ⟨z, hz, hzt⟩ := List.mem_map.1 hm
          exact List.mem_map.2 ⟨z, by rw [hw.sp]; exact List.mem_append_left _ hz, hzt⟩
        · exact hw.has hn.2 q e
theorem relAll_form (T : Tb) (t : Int) {ks : List Ky} (hn : ks.Nodup) : (relAll T t ks).1.ent = (fun y => if y ∈ ks then ((T.ent y).rel t).1 else T.ent y) ∧ (relAll T t ks).2 = ks.flatMap (fun k => ((T.ent k).rel t).2) ∧ (relAll T t ks).1.wt = stopAll T.wt (ks.flatMap fun k => ((T.ent k).rel t).2) := by
  suffices h : ∀ (ks : List Ky) (T : Tb) (g : List Int), ks.Nodup → (ks.foldl (relOne t) (T, g)).1.ent = (fun y => if y ∈ ks then ((T.ent y).rel t).1 else T.ent y) ∧ (ks.foldl (relOne t) (T, g)).2 = g ++ ks.flatMap (fun k => ((T.ent k).rel t).2) ∧ (ks.foldl (relOne t) (T, g)).1.wt = stopAll T.wt (ks.flatMap fun k => ((T.ent k).rel t).2) by
    obtain ⟨h1, h2, h3⟩ := h ks T [] hn
    exact ⟨h1, by rw [relAll, h2, List.nil_append], h3⟩
  intro ks
  induction ks with
  | nil => intro T g _; exact ⟨by simp, by simp, by rw [List.foldl_nil, List.flatMap_nil, stopAll_nil]⟩
  | cons k ks ih =>
    intro T g hn
    rw [List.nodup_cons] at hn
    have he : ∀ y, y ∈ ks → (relOne t (T, g) k).1.ent y = T.ent y := fun y hy => set_other T _ (fun e => hn.1 (e ▸ hy))
    obtain ⟨h1, h2, h3⟩ := ih (relOne t (T, g) k).1 (relOne t (T, g) k).2 hn.2
    have hfl : ks.flatMap (fun y => (((relOne t (T, g) k).1.ent y).rel t).2) = ks.flatMap (fun y => ((T.ent y).rel t).2) := by
      have : ∀ l : List Ky, (∀ y ∈ l, y ∈ ks) → l.flatMap (fun y => (((relOne t (T, g) k).1.ent y).rel t).2) = l.flatMap (fun y => ((T.ent y).rel t).2) := by
        intro l
        induction l with
        | nil => intro _; rfl
        | cons y l ih2 => intro hl; rw [List.flatMap_cons, List.flatMap_cons, ih2 (fun z hz => hl z (List.mem_cons_of_mem _ hz)), he y (hl y (List.mem_cons_self ..))]
      exact this ks (fun _ => id)
    rw [hfl] at h2 h3
    rw [List.foldl_cons]
    refine ⟨h1.trans ?_, ?_, ?_⟩
    · funext y
      by_cases e : y = k
      · subst e
        rw [if_neg hn.1, if_pos (List.mem_cons_self ..)]
        exact set_same T y _
      · by_cases hy : y ∈ ks
        · rw [if_pos hy, if_pos (List.mem_cons_of_mem _ hy), he y hy]
        · rw [if_neg hy, if_neg (fun h => (List.mem_cons.1 h).elim e hy)]
          exact set_other T _ e
    · refine h2.trans ?_
      show (g ++ _) ++ _ = _
      rw [List.flatMap_cons, List.append_assoc]
    · refine h3.trans ?_
      rw [List.flatMap_cons]
      funext y
      show stopAll (stopAll T.wt _) _ y = _
      unfold stopAll
      by_cases h1 : y ∈ ((T.ent k).rel t).2 <;> by_cases h2 : y ∈ (ks.flatMap fun k => ((T.ent k).rel t).2) <;> simp only [h1, h2, List.mem_append, if_true, if_false, or_true, true_or, or_false, false_or]
end Go.Proofs.Ytpndcpmfcajmdaa.Lock
namespace Go.Proofs.Ytpndcpmfcajmdaa.Lock
open Go.ChangeShapes Go.WideShapes Go.ChangeAt Go.RowKit Go.IntWalk Go.Proofs.Mem Law Go.Shelf Go.Proofs.Each
set_option linter.unusedVariables false
set_option linter.unusedSimpArgs false
theorem set_ent (T : Tb) (k : Ky) (e : En) (y : Ky) : (T.set k e).ent y = if y = k then e else T.ent y := rfl
theorem wait_ent (T : Tb) (t : Int) (h : Hd) (y : Ky) : (T.wait t h).ent y = T.ent y := rfl
theorem inv_ask {T : Tb} {t : Int} {k : Ky} {m : Int} (hi : Inv T) : Inv (askT T t k m) := by
  unfold askT
  have hm := mdOf_is m
  generalize mdOf m = md at hm ⊢
  split
  · exact hi
  · split
    · exact hi
    · rename_i hw
      have hw' : T.wt t = none := by simpa using hw
      split
      · rename_i hf
        rw [Bool.and_eq_true] at hf
        refine ⟨fun y x a h => ?_, fun y p h => ?_, fun y x z a b hx hz hne => ?_, fun x h => ?_, fun y => ?_⟩
        · rw [set_ent] at h
          split at h
          · change fput (T.at_ k).hv t md x = some a at h
            unfold fput at h
            split at h
            · injection h with h; subst h; exact hm
            · exact hi.md k x a h
          · exact hi.md y x a h
        · rw [set_ent] at h
          split at h
          · exact hi.ml k p h
          · exact hi.ml y p h
        · rw [set_ent] at hx hz
          split at hx
          · rename_i e
            rw [if_pos e] at hz
            exact two_put (h := (T.at_ k).hv) (fun x y m n h1 h2 h3 => hi.two k x y m n h1 h2 h3) hf.1 x z a b hx hz hne
          · rename_i e
            rw [if_neg e] at hz
            exact hi.two y x z a b hx hz hne
        · refine (hi.wt x h).trans ⟨?_, ?_⟩
          · rintro ⟨y, a, e, hl⟩
            refine ⟨y, a, e, ?_⟩
            rw [set_ent]
            split
            · rename_i e'; rw [e'] at hl; exact hl
            · exact hl
          · rintro ⟨y, a, e, hl⟩
            refine ⟨y, a, e, ?_⟩
            rw [set_ent] at hl
            split at hl
            · rename_i e'; rw [e']; exact hl
            · exact hl
        · rw [set_ent]
          split
          · exact hi.nd k
          · exact hi.nd y
      · have hnl : ∀ y a, (⟨t, a⟩ : Pl) ∉ (T.ent y).line := fun y a h => by
          have := (hi.wt t (hdOf y a)).2 ⟨y, a, rfl, h⟩
          rw [hw'] at this
          cases this
        have hp := insP_perm (T.at_ k).hv ⟨t, md⟩ (T.at_ k).line
        have hmem : ∀ p, p ∈ insP (T.at_ k).hv ⟨t, md⟩ (T.at_ k).line ↔ p = ⟨t, md⟩ ∨ p ∈ (T.ent k).line := fun p => by rw [hp.mem_iff, List.mem_cons]; rfl
        refine ⟨fun y x a h => ?_, fun y p h => ?_, fun y x z a b hx hz hne => ?_, fun x h => ?_, fun y => ?_⟩
        · rw [wait_ent, set_ent] at h
          split at h
          · exact hi.md k x a h
          · exact hi.md y x a h
        · rw [wait_ent, set_ent] at h
          split at h
          · rcases (hmem p).1 h with e | e
            · rw [e]; exact hm
            · exact hi.ml k p e
          · exact hi.ml y p h
        · rw [wait_ent, set_ent] at hx hz
          split at hx
          · rename_i e; rw [if_pos e] at hz; exact hi.two k x z a b hx hz hne
          · rename_i e; rw [if_neg e] at hz; exact hi.two y x z a b hx hz hne
        · show fput T.wt t (hdOf k md) x = some h ↔ _
          unfold fput
          by_cases hx : x = t
          · subst hx
            rw [if_pos rfl]
            constructor
            · intro e
              injection e with e
              refine ⟨k, md, e.symm, ?_⟩
              rw [wait_ent, set_ent, if_pos rfl]
              exact (hmem _).2 (.inl rfl)
            · rintro ⟨y, a, e, hl⟩
              rw [wait_ent, set_ent] at hl
              split at hl
              · rename_i ey
                rcases (hmem _).1 hl with e' | e'
                · injection e' with _ e'; rw [e, ey, e']
                · exact absurd e' (hnl k a)
              · exact absurd hl (hnl y a)
          · rw [if_neg hx, hi.wt]
            refine exists_congr fun y => exists_congr fun a => and_congr_right fun _ => ?_
            rw [wait_ent, set_ent]
            split
            · rename_i ey
              rw [ey]
              refine ⟨fun h => (hmem _).2 (.inr h), fun h => ?_⟩
              rcases (hmem _).1 h with e' | e'
              · injection e' with e' _; exact absurd e' hx
              · exact e'
            · exact Iff.rfl
        · rw [wait_ent, set_ent]
          split
          · refine ((hp.map (·.t)).nodup_iff).2 ?_
            rw [List.map_cons, List.nodup_cons]
            refine ⟨fun h => ?_, hi.nd k⟩
            obtain ⟨p, h1, h2⟩ := List.mem_map.1 h
            obtain ⟨pt, pm⟩ := p
            change pt = t at h2
            subst h2
            exact hnl k pm h1
          · exact hi.nd y
theorem klt_nodup {l : List Ky} (h : l.Pairwise klt) : l.Nodup := List.Pairwise.imp (S := fun a b : Ky => a ≠ b) (fun {a b} hab => fun e => by rw [e] at hab; exact klt_irrefl b hab) h
structure RelOut (T : Tb) (t : Int) (T' : Tb) (got : List Int) : Prop where
  nd : got.Nodup
  hold : ∀ k, (T'.ent k).hv t = none
  wt : ∀ x, T'.wt x = if x ∈ got then none else if x = t then none else T.wt x
  own : t ∉ got
  woke : ∀ x ∈ got, ∃ k m, (⟨x, m⟩ : Pl) ∈ (T.ent k).line ∧ (T'.ent k).hv x = some m
theorem rel_out {T T' : Tb} {t : Int} {ks : List Ky} {got : List Int} (hi : Inv T) (ho : OfL T t ks) (hr : relAll (T.stop t) t ks = (T', got)) : RelOut T t T' got ∧ Inv T' := by
  obtain ⟨h1, h2, h3⟩ := relAll_form (T.stop t) t (klt_nodup ho.srt)
  rw [hr] at h1 h2 h3
  simp only at h1 h2 h3
  have hent : ∀ y, (T.stop t).ent y = T.ent y := fun _ => rfl
  have hwk : ∀ y, ∃ pre, Wk ((T.ent y).cut t).hv ((T.ent y).cut t).line (wake ((T.ent y).cut t).hv ((T.ent y).cut t).line) pre := fun y => wake_form _ _
  have hin : ∀ y, y ∈ ks → T'.ent y = ((T.ent y).rel t).1 := fun y hy => by rw [h1]; exact if_pos hy
  have hout : ∀ y, y ∉ ks → T'.ent y = T.ent y := fun y hy => by rw [h1]; exact if_neg hy
  have hno : ∀ y, y ∉ ks → (T.ent y).hv t = none ∧ ∀ a, (⟨t, a⟩ : Pl) ∉ (T.ent y).line := fun y hy => by
    have := mt (ho.mem y).2 hy
    unfold Tb.has En.has at this
    simp only [Bool.or_eq_true, not_or] at this
    refine ⟨by simpa using this.1, fun a ha => this.2 (List.any_eq_true.2 ⟨_, ha, by simp [isT]⟩)⟩
  have hcl : ∀ y (p : Pl), p ∈ ((T.ent y).cut t).line ↔ p ∈ (T.ent y).line ∧ p.t ≠ t := fun y p => by
    unfold En.cut
    simp [List.mem_filter, isT]
  have hcn : ∀ y, (((T.ent y).cut t).line.map (·.t)).Nodup := fun y => (hi.nd y).sublist (List.filter_sublist.map _)
  have hgot : ∀ x, x ∈ got ↔ ∃ y ∈ ks, x ∈ ((T.ent y).rel t).2 := fun x => by rw [h2, List.mem_flatMap]; rfl
  have hgl : ∀ x, x ∈ got → ∃ y ∈ ks, ∃ m, (⟨x, m⟩ : Pl) ∈ (T.ent y).line ∧ x ≠ t ∧ (T'.ent y).hv x = some m ∧ (⟨x, m⟩ : Pl) ∉ (T'.ent y).line := fun x hx => by
    obtain ⟨y, hy, hxy⟩ := (hgot x).1 hx
    obtain ⟨pre, hw⟩ := hwk y
    have hg : x ∈ pre.map (·.t) := by rw [← hw.got]; exact hxy
    obtain ⟨p, hp, rfl⟩ := List.mem_map.1 hg
    have hpl : p ∈ ((T.ent y).cut t).line := by rw [hw.sp]; exact List.mem_append_left _ hp
    obtain ⟨q1, q2⟩ := (hcl y p).1 hpl
    refine ⟨y, hy, p.m, q1, q2, ?_, ?_⟩
    · rw [hin y hy]
      exact hw.has (hcn y) p hp
    · rw [hin y hy]
      intro hl
      have := hcn y
      rw [hw.sp, List.map_append, List.nodup_append] at this
      exact this.2.2 p.t hg p.t (List.mem_map_of_mem (f := fun p : Pl => p.t) hl) rfl
  have hwt : ∀ x, T'.wt x = if x ∈ got then none else if x = t then none else T.wt x := fun x => by
    rw [h3, ← h2]
    rfl
  have hhold : ∀ k, (T'.ent k).hv t = none := fun k => by
    by_cases hk : k ∈ ks
    · obtain ⟨pre, hw⟩ := hwk k
      rw [hin k hk]
      refine (hw.far t (fun h => ?_)).trans (fdel_same _ _)
      obtain ⟨p, hp, hpt⟩ := List.mem_map.1 h
      exact ((hcl k p).1 (by rw [hw.sp]; exact List.mem_append_left _ hp)).2 hpt
    · rw [hout k hk]; exact (hno k hk).1
  -- lines: what is left of them
  have hline : ∀ y (p : Pl), p ∈ (T'.ent y).line → p ∈ (T.ent y).line ∧ p.t ≠ t := fun y p hp => by
    by_cases hy : y ∈ ks
    · obtain ⟨pre, hw⟩ := hwk y
      rw [hin y hy] at hp
      exact (hcl y p).1 (by rw [hw.sp]; exact List.mem_append_right _ hp)
    · rw [hout y hy] at hp
      refine ⟨hp, fun e => ?_⟩
      obtain ⟨a, b⟩ := p
      change a = t at e
      subst e
      exact (hno y hy).2 b hp
  have hcut2 : ∀ y, Two ((T.ent y).cut t).hv := fun y a b m n ha hb hne => by
    change fdel (T.ent y).hv t a = some m at ha
    change fdel (T.ent y).hv t b = some n at hb
    unfold fdel at ha hb
    split at ha
    · cases ha
    · split at hb
      · cases hb
      · exact hi.two y a b m n ha hb hne
  have hheld : ∀ y x a, (T'.ent y).hv x = some a → (T.ent y).hv x = some a ∨ (⟨x, a⟩ : Pl) ∈ (T.ent y).line := fun y x a h => by
    by_cases hy : y ∈ ks
    · obtain ⟨pre, hw⟩ := hwk y
      rw [hin y hy] at h
      rcases hw.hv x a h with h4 | h4
      · change fdel (T.ent y).hv t x = some a at h4
        unfold fdel at h4
        split at h4
        · cases h4
        · exact .inl h4
      · exact .inr ((hcl y _).1 (by rw [hw.sp]; exact List.mem_append_left _ h4)).1
    · rw [hout y hy] at h; exact .inl h
  have hgone : ∀ y x, x ∈ ((T.ent y).rel t).2 → ∃ m, (⟨x, m⟩ : Pl) ∈ (T.ent y).line := fun y x hx => by
    obtain ⟨pre, hw⟩ := hwk y
    have hg : x ∈ pre.map (·.t) := by rw [← hw.got]; exact hx
    obtain ⟨p, hp, rfl⟩ := List.mem_map.1 hg
    exact ⟨p.m, ((hcl y p).1 (by rw [hw.sp]; exact List.mem_append_left _ hp)).1⟩
  have hnd : got.Nodup := by
    rw [h2]
    refine List.pairwise_flatMap.2 ⟨fun y _ => ?_, (klt_nodup ho.srt).imp ?_⟩
    · obtain ⟨pre, hw⟩ := hwk y
      have := hcn y
      rw [hw.sp, List.map_append] at this
      show (wake ((T.ent y).cut t).hv ((T.ent y).cut t).line).2.2.Pairwise _
      rw [hw.got]
      exact (List.nodup_append.1 this).1
    · intro a b hab x hx z hz e
      subst e
      obtain ⟨m, q1⟩ := hgone a x hx
      obtain ⟨m', q2⟩ := hgone b x hz
      have r1 := (hi.wt x _).2 ⟨a, m, rfl, q1⟩
      have r2 := (hi.wt x _).2 ⟨b, m', rfl, q2⟩
      rw [r1] at r2
      injection r2 with r2
      exact hab (hdOf_inj r2).1
  refine ⟨⟨hnd, hhold, hwt, fun h => ?_, fun x hx => ?_⟩, ⟨fun y x a h => ?_, fun y p h => hi.ml y p (hline y p h).1, fun y x z a b hx hz hne => ?_, fun x h => ?_, fun y => ?_⟩⟩
  · obtain ⟨_, _, _, _, h5, _⟩ := hgl t h; exact h5 rfl
  · obtain ⟨y, _, m, h4, _, h6, _⟩ := hgl x hx; exact ⟨y, m, h4, h6⟩
  · rcases hheld y x a h with h4 | h4
    · exact hi.md y x a h4
    · exact hi.ml y _ h4
  · by_cases hy : y ∈ ks
    · obtain ⟨pre, hw⟩ := hwk y
      rw [hin y hy] at hx hz
      exact hw.two (hcut2 y) x z a b hx hz hne
    · rw [hout y hy] at hx hz
      exact hi.two y x z a b hx hz hne
  · rw [hwt]
    by_cases hg : x ∈ got
    · rw [if_pos hg]
      obtain ⟨y, hy, m, h4, h5, _, h7⟩ := hgl x hg
      refine ⟨fun e => (by cases e), ?_⟩
      rintro ⟨y', m', e, hl⟩
      have q1 := (hi.wt x (hdOf y' m')).2 ⟨y', m', rfl, (hline y' _ hl).1⟩
      have q2 := (hi.wt x (hdOf y m)).2 ⟨y, m, rfl, h4⟩
      rw [q1] at q2
      injection q2 with q2
      obtain ⟨e1, e2⟩ := hdOf_inj q2
      subst e1 e2
      exact absurd hl h7
    · rw [if_neg hg]
      by_cases hx : x = t
      · rw [if_pos hx]
        refine ⟨fun e => (by cases e), ?_⟩
        rintro ⟨y, m, _, hl⟩
        exact absurd hx (hline y _ hl).2
      · rw [if_neg hx, hi.wt]
        refine exists_congr fun y => exists_congr fun a => and_congr_right fun _ => ⟨fun hl => ?_, fun hl => (hline y _ hl).1⟩
        by_cases hy : y ∈ ks
        · obtain ⟨pre, hw⟩ := hwk y
          have hl2 := (hcl y ⟨x, a⟩).2 ⟨hl, hx⟩
          rw [hw.sp] at hl2
          rcases List.mem_append.1 hl2 with h4 | h4
          · refine absurd ((hgot x).2 ⟨y, hy, ?_⟩) hg
            show x ∈ (wake _ _).2.2
            rw [hw.got]
            exact List.mem_map.2 ⟨_, h4, rfl⟩
          · rw [hin y hy]; exact h4
        · rw [hout y hy]; exact hl
  · by_cases hy : y ∈ ks
    · obtain ⟨pre, hw⟩ := hwk y
      have := hcn y
      rw [hw.sp, List.map_append] at this
      rw [hin y hy]
      exact (List.nodup_append.1 this).2.1
    · rw [hout y hy]; exact hi.nd y
theorem inv_run {l : List Lo} {T : Tb} (h : RunR l T) : Inv T := by
  induction h with
  | nil => exact inv_T0
  | snoc hr hs ih =>
    unfold StepR at hs
    split at hs
    · obtain ⟨ks, got, h1, h2⟩ := hs; exact (rel_out ih h1 h2).2
    · rw [hs]; exact inv_ask ih
theorem nodup_le : ∀ {l m : List Int}, l.Nodup → (∀ x ∈ l, x ∈ m) → l.length ≤ m.length
  | [], m, _, _ => Nat.zero_le _
  | a :: l, m, h, hs => by
    rw [List.nodup_cons] at h
    have h1 := nodup_le (l := l) (m := m.erase a) h.2 (fun x hx => by
      have hne : x ≠ a := fun e => h.1 (e ▸ hx)
      exact (List.mem_erase_of_ne hne).2 (hs x (List.mem_cons_of_mem _ hx)))
    have h2 := List.length_erase_of_mem (hs a (List.mem_cons_self ..))
    have h3 := List.length_pos_of_mem (hs a (List.mem_cons_self ..))
    rw [List.length_cons]; omega
theorem run_wts {l : List Lo} {T : Tb} (h : RunR l T) : ∀ x, (T.wt x).isSome → x ∈ l.map (·.t) := by
  induction h with
  | nil => intro x hx; cases hx
  | snoc hr hs ih =>
    rename_i l T T' o
    intro x hx
    rw [List.map_append, List.mem_append]
    unfold StepR at hs
    split at hs
    · obtain ⟨ks, got, h1, h2⟩ := hs
      have := (rel_out (inv_run hr) h1 h2).1.wt x
      rw [this] at hx
      split at hx
      · cases hx
      · split at hx
        · cases hx
        · exact .inl (ih x hx)
    · rw [hs] at hx
      unfold askT at hx
      split at hx
      · exact .inl (ih x hx)
      · split at hx
        · exact .inl (ih x hx)
        · split at hx
          · exact .inl (ih x hx)
          · change (fput T.wt o.t _ x).isSome = true at hx
            unfold fput at hx
            split at hx
            · rename_i e; exact .inr (by simp [e])
            · exact .inl (ih x hx)
theorem got_len {l : List Lo} {T T' : Tb} {t : Int} {got : List Int} (h : RunR l T) (ho : RelOut T t T' got) : got.length ≤ l.length := by
  rw [← List.length_map (f := fun o : Lo => o.t)]
  refine nodup_le ho.nd fun x hx => run_wts h x ?_
  obtain ⟨k, m, h1, _⟩ := ho.woke x hx
  rw [((inv_run h).wt x _).2 ⟨k, m, rfl, h1⟩]
  rfl
end Go.Proofs.Ytpndcpmfcajmdaa.Lock
namespace Go.Proofs.Ytpndcpmfcajmdaa.Lock
open Go.ChangeShapes Go.WideShapes Go.ChangeAt Go.RowKit Go.IntWalk Go.Proofs.Mem Law Go.Shelf Go.Proofs.Each
set_option linter.unusedVariables false
set_option linter.unusedSimpArgs false
structure Sh (T : Tb) : Prop where
  line : ∀ k, (T.ent k).line = []
  one : ∀ k x m, (T.ent k).hv x = some m → m = 1
  wt : T.wt = fun _ => none
end Go.Proofs.Ytpndcpmfcajmdaa.Lock
namespace Go.Proofs.Ytpndcpmfcajmdaa.Lock
open Go.ChangeShapes Go.WideShapes Go.ChangeAt Go.RowKit Go.IntWalk Go.Proofs.Mem Law Go.Shelf Go.Proofs.Each
set_option linter.unusedVariables false
set_option linter.unusedSimpArgs false
structure Pt (w : World) (B : Nat) (l : List Lo) (t : Nat) (T : Tb) (S : Nat → Prop) (n : Nat) (v : Value) : Prop where
  run : RunR l T
  tab : ∃ N, N ≤ n * 100 ∧ TabAt w S N n t T
  base : ∀ x, S x → B ≤ x
  who : w.ownsRow B 29 1 v (whoOf l).length ((whoOf l).map (.int .u32))
  far : ∀ b, v.ownBlock = some b → ¬ S b
theorem Pt.ask {w w1 : World} {B : Nat} {l : List Lo} {t : Nat} {T : Tb} {S : Nat → Prop} {n : Nat} {v : Value} {o : Lo} (h : Pt w B l t T S n v) (hB : B ≤ w.heap.size) (hk : o.kd % 6 ≠ 4) (S' : Nat → Prop) (N : Nat) (hN : N ≤ n * 100) (ht : TabAt w1 S' (N + 1) (n + 1) t (askT T o.t o.k o.m)) (hf : Fr S w w1) (hs : ∀ x, S' x → S x ∨ w.heap.size ≤ x) :
    RunR (l ++ [o]) (askT T o.t o.k o.m) ∧ (∃ N, N ≤ (n + 1) * 100 ∧ TabAt w1 S' N (n + 1) t (askT T o.t o.k o.m)) ∧ (∀ x, S' x → B ≤ x) ∧ w1.ownsRow B 29 1 v (whoOf l).length ((whoOf l).map (.int .u32)) ∧ (∀ b, v.ownBlock = some b → ¬ S' b) ∧ Below B w w1 := by
  refine ⟨.snoc h.run (by unfold StepR; rw [if_neg hk]), ⟨N + 1, by omega, ht⟩, fun x hx => (hs x hx).elim (h.base x) (Nat.le_trans hB), own_frS h.who hf h.far, fun b hb hx => ?_, hf.to_below h.base hB⟩
  rcases hs b hx with h1 | h1
  · exact h.far b hb h1
  · have := (h.who.lt b hb).2; omega
theorem Pt.release {w w1 : World} {B : Nat} {l : List Lo} {t : Nat} {T T' : Tb} {S : Nat → Prop} {n N : Nat} {v : Value} {o : Lo} {ks : List Ky} {got : List Int} (h : Pt w B l t T S n v) (hB : B ≤ w.heap.size) (hk : o.kd % 6 = 4) (hN : N ≤ n * 100) (hl : l.length ≤ 100) (ho : OfL T o.t ks) (hr : relAll (T.stop o.t) o.t ks = (T', got)) (ht : TabAt w1 S (N + got.length) n t T') (hf : Fr S w w1) :
    RunR (l ++ [o]) T' ∧ (∃ N, N ≤ (n + 1) * 100 ∧ TabAt w1 S N (n + 1) t T') ∧ (∀ x, S x → B ≤ x) ∧ w1.ownsRow B 29 1 v (whoOf l).length ((whoOf l).map (.int .u32)) ∧ (∀ b, v.ownBlock = some b → ¬ S b) ∧ Below B w w1 := by
  have hg := got_len h.run (rel_out (inv_run h.run) ho hr).1
  refine ⟨.snoc h.run (by unfold StepR; rw [if_pos hk]; exact ⟨ks, got, ho, hr⟩), ⟨N + got.length, by omega, ht.more (Nat.le_refl _) (Nat.le_succ _)⟩, h.base, own_frS h.who hf h.far, h.far, hf.to_below h.base hB⟩
theorem Pt.note {w w1 : World} {B : Nat} {l : List Lo} {t : Nat} {T : Tb} {S : Nat → Prop} {n : Nat} {v v' : Value} {o : Lo} (hrun : RunR (l ++ [o]) T) (htab : ∃ N, N ≤ n * 100 ∧ TabAt w S N n t T) (hb : ∀ x, S x → B ≤ x) (hf : ∀ b, v.ownBlock = some b → ¬ S b) (ho : w1.ownsRow B 29 1 v' (into (whoOf l) o.t).length ((into (whoOf l) o.t).map (.int .u32))) (hsm : v' = v ∨ ∀ b, v'.ownBlock = some b → w.heap.size ≤ b) (hbl : Below w.heap.size w w1) : Pt w1 B (l ++ [o]) t T S n v' := by
  obtain ⟨N, hN, ht⟩ := htab
  refine ⟨hrun, ⟨N, hN, ht.later hbl⟩, hb, by rw [whoOf_snoc]; exact ho, fun b hb' hs => ?_⟩
  rcases hsm with e | e
  · rw [e] at hb'; exact hf b hb' hs
  · have h1 := e b hb'
    have h2 := ht.old b hs
    omega
end Go.Proofs.Ytpndcpmfcajmdaa.Lock
