import Derived.Test.YtpndcpmfcajmdaaLkD
import Derived.Test.YtpndcpmfcajmdaaLkC
/- Locks: the keys that one holds or waits for. -/
namespace Go.Proofs.Ytpndcpmfcajmdaa.Lock
open Go.ChangeShapes Go.WideShapes Go.ChangeAt Go.RowKit Go.IntWalk Go.Proofs.Mem Law Go.Shelf Go.Proofs.Each
set_option linter.unusedVariables false
set_option linter.unusedSimpArgs false
/-- the keys of t, rising -/
structure OfL (T : Tb) (t : Int) (l : List Ky) : Prop where
  mem : ∀ k, k ∈ l ↔ T.has k t = true
  srt : l.Pairwise klt
theorem sorted_uniq {l m : List Ky} (h : l.Pairwise klt) (k : m.Pairwise klt) (e : ∀ x, x ∈ l ↔ x ∈ m) : l = m := by
  induction l generalizing m with
  | nil => cases m with
    | nil => rfl
    | cons y m => exact absurd ((e y).2 (List.mem_cons_self ..)) (by simp)
  | cons x l ih =>
    cases m with
    | nil => exact absurd ((e x).1 (List.mem_cons_self ..)) (by simp)
    | cons y m =>
      rw [List.pairwise_cons] at h k
      have hxy : x = y := by
        rcases List.mem_cons.1 ((e x).1 (List.mem_cons_self ..)) with h1 | h1
        · exact h1
        · rcases List.mem_cons.1 ((e y).2 (List.mem_cons_self ..)) with h2 | h2
          · exact h2.symm
          · exact absurd (klt_trans (h.1 y h2) (k.1 x h1)) (klt_irrefl x)
      subst hxy
      rw [ih h.2 k.2 (fun z => ?_)]
      constructor
      · intro hz
        rcases List.mem_cons.1 ((e z).1 (List.mem_cons_of_mem _ hz)) with h1 | h1
        · subst h1; exact absurd (h.1 z hz) (klt_irrefl z)
        · exact h1
      · intro hz
        rcases List.mem_cons.1 ((e z).2 (List.mem_cons_of_mem _ hz)) with h1 | h1
        · subst h1; exact absurd (k.1 z hz) (klt_irrefl z)
        · exact h1
theorem OfL.uniq {T : Tb} {t : Int} {l m : List Ky} (h : OfL T t l) (k : OfL T t m) : l = m := sorted_uniq h.srt k.srt (fun x => (h.mem x).trans (k.mem x).symm)
theorem klt_strict {l : List Ky} (h : l.Pairwise (fun x y => ¬ klt y x)) (hn : l.Nodup) : l.Pairwise klt := by
  refine (List.Pairwise.and h hn).imp (fun {x y} ⟨h1, h2⟩ => ?_)
  by_cases h3 : klt x y
  · exact h3
  · exact absurd (klt_total h3 h1) h2
/-- what has been gathered -/
structure Gat (T : Tb) (t : Int) (K : Ky → Option (Option Nat)) (left : Ky → Bool) (ks : List Ky) : Prop where
  mem : ∀ k, k ∈ ks ↔ (left k = false ∧ (K k).isSome = true ∧ T.has k t = true)
  nd : ks.Nodup
theorem Gat.skip {T : Tb} {t : Int} {K : Ky → Option (Option Nat)} {left : Ky → Bool} {ks : List Ky} (h : Gat T t K left ks) {x : Ky} (hx : T.has x t = false) : Gat T t K (but left x) ks := by
  refine ⟨fun k => ?_, h.nd⟩
  rw [h.mem k]
  by_cases e : k = x
  · subst e; rw [hx]; simp
  · unfold but; simp [e]
theorem Gat.take {T : Tb} {t : Int} {K : Ky → Option (Option Nat)} {left : Ky → Bool} {ks : List Ky} (h : Gat T t K left ks) {x : Ky} {b : Option Nat} (hx : T.has x t = true) (hk : K x = some b) (hl : left x = true) : Gat T t K (but left x) (ks ++ [x]) := by
  have hn : x ∉ ks := fun hm => by rw [((h.mem x).1 hm).1] at hl; cases hl
  refine ⟨fun k => ?_, ?_⟩
  · rw [List.mem_append, h.mem k, List.mem_singleton]
    by_cases e : k = x
    · subst e; unfold but; simp [hx, hk]
    · unfold but; simp [e]
  · rw [List.nodup_append]
    exact ⟨h.nd, by simp, fun a ha b hb => by rw [List.mem_singleton.1 hb]; exact fun e => hn (e ▸ ha)⟩
theorem nm_info : (Try.prog.info? 81).map (fun i => (i.zero, i.size, i.bytes)) = some (some (.agg #[.int .u8 0, .int .u32 0, .int .u32 0]), 3, 12) := by kernel_rfl
set_option maxRecDepth 100000 in
set_option maxHeartbeats 8000000 in
theorem of_any (w : World) (S : Nat → Prop) (N L t : Nat) (T : Tb) (txn : Int) (h : TabAt w S N L t T) (ht : U32 txn) (hN : N ≤ 50000) :
    Calls Try.prog 33 #[.pointer (some ⟨t, 0, none⟩), .int .u32 txn] w fun e w' => ∃ v ks, e = .returned v ∧ SS cKy 3 w' w'.heap.size v ks ∧ OfL T txn ks ∧ ks.length ≤ N ∧ (∀ b, v.ownBlock = some b → w.heap.size ≤ b) ∧ Below w.heap.size w w' := by
  obtain ⟨col, mk, mw, nk, nw, K, h⟩ := h
  obtain ⟨j0, hj0, hj1, hj2, hj3⟩ := info_parts nm_info
  have b1 := new_ (Below.refl w.heap.size w) (.cells #[.int .u32 txn] 29)
  have X3 := Box.new w #[.int .u32 txn] 29
  have h1 := h.later b1
  obtain ⟨x3, hx3⟩ : ∃ x3, w.heap.size = x3 := ⟨_, rfl⟩
  rw [hx3] at X3 b1
  have hs1 : (w.alloc (.cells #[.int .u32 txn] 29)).heap.size = x3 + 1 := by rw [← hx3]; simp
  have hts := h.old t h.st
  rw [hx3] at hts ⊢
  obtain ⟨w1, hw1⟩ : ∃ w1, w.alloc (.cells #[.int .u32 txn] 29) = w1 := ⟨_, rfl⟩
  rw [hw1] at X3 b1 h1 hs1
  have k0 : w1.cell? ⟨t, 0, none⟩ = some (.map (some mk)) := by rw [h1.box.cell 0]; rfl
  have HT := Lib.hid h1
  have HX := Lib.hid X3
  have HB := Lib.hid b1
  have HS := Lib.hid hs1
  have HTX := Lib.hid ht
  have HM := Lib.hid h1.fk
  have HNN := Lib.hid hN
  have HSX := Lib.hid (show ∀ y, S y → y < x3 from fun y hy => by rw [← hx3]; exact h.old y hy)
  clear h h1 X3 b1 hs1 ht hN
  go_enter Try.func33, Try.ntmps33
  go_upto_region 2 with fail
  go_wp2_with (first
    | (at_range; refine wpList_range_fm (E := KK) (V := ptrEE) rfl _ _ rfl _ Try.underlying56 rfl HM.out ?_; intro w2 cnt hfr hcnt hbw hsz))
  obtain ⟨r, hr⟩ : ∃ r, w1.heap.size = r := ⟨_, rfl⟩
  rw [hr] at hfr ⊢
  have hrx : r = x3 + 1 := by rw [← hr]; exact HS.out
  have HB2 := Lib.hid (show Below x3 w w2 from HB.out.trans (hbw.mono (by rw [hr]; omega)))
  have HT2 := Lib.hid (HT.out.later hbw)
  have HX2 := Lib.hid (HX.out.later hbw)
  have HFR := Lib.hid hfr
  have HCN := Lib.hid (show ([] : List Ky).length + cnt ≤ N from by have := HT.out.hk; simp; omega)
  have HG := Lib.hid (show Gat T txn K (fun x => (K x).isSome) [] from ⟨fun k => by cases hh : (K k).isSome <;> simp, List.nodup_nil⟩)
  have HRX := Lib.hid (show r = x3 + 1 ∧ x3 + 2 ≤ w2.heap.size by rw [hsz, hr]; omega)
  clear hbw hfr hsz hr hrx hcnt k0 HB HX HT HM HS
  go_frame
  go_loopw [5, 6, 7, 8] (fun s5 _ _ _ wr => ∃ (left : Ky → Bool) (cnt : Nat) (A : Option Addr) (n c : Nat) (ks : List Ky), s5 = .slice A n c ∧ Hid (n = ks.length) ∧ Hid (FR KK ptrEE wr mk r nk K left cnt) ∧ Hid (wr.ownsRow (x3 + 2) 81 3 (.slice A n c) ks.length (ks.flatMap cKy)) ∧ Hid (Gat T txn K left ks) ∧ Hid (ks.length + cnt ≤ N) ∧ Hid (TabW wr S N L t T col mk mw nk nw K) ∧ Hid (Below x3 w wr) ∧ Hid (Box wr x3 #[.int .u32 txn] 29) ∧ Hid (x3 + 2 ≤ wr.heap.size)) (fun _ _ _ _ wr => wr.rangeLeft mk r)
  case atStart => exact ⟨_, _, _, _, _, [], rfl, Lib.hid rfl, HFR, Lib.hid (World.ownsRow_nil _ _ _ _), HG, HCN, HT2, HB2, HX2, Lib.hid HRX.out.2⟩
  case round =>
    obtain ⟨left, cnt, A, n5, c5, ks, rfl, HN5, HFR2, HO, HG2, HCN2, HT, HB, HX, HZ⟩ := hrel
    obtain ⟨w2, rfl⟩ : ∃ w2, w2 = wr := ⟨wr, rfl⟩
    clear HFR HB2 HT2 HX2 HCN HG
    go_wp2_with (first
      | (at_next; refine wpList_next_fm (E := KK) (V := ptrEE) rfl _ rfl rfl HFR2.out ?_ ?_))
    · intro hl0
      have HOL := Lib.hid (show ∀ ks', ks'.Perm ks → ks'.Pairwise (fun x y => ¬ klt y x) → OfL T txn ks' from fun ks' hp hs => by
        refine ⟨fun k => ?_, klt_strict hs (hp.nodup_iff.2 HG2.out.nd)⟩
        rw [hp.mem_iff, HG2.out.mem k]
        constructor
        · exact fun h => h.2.2
        · intro h
          obtain ⟨b, hK⟩ := HT.out.has_ h
          exact ⟨hl0 k (FMok HFR2.out.fm hK), by rw [hK]; rfl, h⟩)
      have hown := HO.out
      have HSO := Lib.hid (sorted_any w2 (.slice A n5 c5) ks (x3 + 2) (by have := HCN2.out; have := HNN.out; omega) hown)
      have HBS := Lib.hid (show ∀ w', Fr (fun x => (Value.slice A n5 c5).ownBlock = some x) w2 w' → Below x3 w w' from fun w' hf => HB.out.trans (hf.to_below (fun k hk => by have := (HO.out.lt k hk).1; omega) (by have := HZ.out; omega)))
      have HRW := Lib.hid (show ∀ b, (Value.slice A n5 c5).ownBlock = some b → x3 ≤ b from fun b hb => by have := (HO.out.lt b hb).1; omega)
      have HKL := Lib.hid (show ks.length ≤ N by have := HCN2.out; omega)
      clear hl0 hown
      go_wp2_with (first
        | (go_at_call 50; (with_reducible refine HSO.out.mono ?_); rintro e w' ⟨rfl, hq⟩))
      go_ret
      obtain ⟨ks', h1, h2, h3, h4⟩ := hq
      exact ⟨_, ks', rfl, h1, HOL.out ks' h2 h3, by rw [h2.length_eq]; exact HKL.out, HRW.out, HBS.out _ h4⟩
    · intro x b w3 cnt' hx hlx hfx hfr3 hlt hF3 hsz3 hen
      have hSr : ∀ y, S y → ¬ y = r := fun y hy e => by have := HRX.out; have := HSX.out y hy; omega
      have hb4 := new_ (Below.refl w3.heap.size w3) (.cells #[.int .u8 x.k, .int .u32 x.a, .int .u32 x.b] 31)
      have HT4 := Lib.hid ((HT.out.far hF3 hSr).later hb4)
      obtain ⟨e, m, n, lv, rfl, hEA⟩ := HT4.out.is hfx
      obtain ⟨en, hTe⟩ : ∃ en, T.ent x = en := ⟨_, rfl⟩
      rw [hTe] at hEA
      have ek : KK.kv x = .agg #[.int .u8 x.k, .int .u32 x.a, .int .u32 x.b] := rfl
      have em : ptrEE.ev (some e) = .pointer (some ⟨e, 0, none⟩) := rfl
      rw [ek, em] at hen
      rw [ek, em]
      have hHas : T.has x txn = en.has txn := by unfold Tb.has; rw [hTe]
      have HFR4 := Lib.hid (hfr3.fr (S := fun _ => False) (Fr.of_below hb4) id id)
      have HLT := Lib.hid (⟨hlt, HFR2.out.left_eq, HFR4.out.left_eq⟩ : cnt' < cnt ∧ w2.rangeLeft mk r = cnt ∧ (w3.alloc (.cells #[.int .u8 x.k, .int .u32 x.a, .int .u32 x.b] 31)).rangeLeft mk r = cnt')
      have HO4 := Lib.hid (own_below (own_frS HO.out hF3 (fun b hb e => by have := (HO.out.lt b hb).1; have := HRX.out; omega)) hb4)
      have HX4 := Lib.hid ((HX.out.fr hF3 (by have := HRX.out; omega)).later hb4)
      have HB4 := Lib.hid (show Below x3 w (w3.alloc (.cells #[.int .u8 x.k, .int .u32 x.a, .int .u32 x.b] 31)) from (HB.out.trans (hF3.to_below (fun k hk => by have := HRX.out; omega) (by have := HZ.out; omega))).trans (hb4.mono (by have := HZ.out; omega)))
      have HK6 := Lib.hid (Box.new w3 #[.int .u8 x.k, .int .u32 x.a, .int .u32 x.b] 31)
      have HZ4 := Lib.hid (show x3 + 2 ≤ w3.heap.size by have := HZ.out; omega)
      have HZ5 := Lib.hid (show w3.heap.size < (w3.alloc (.cells #[.int .u8 x.k, .int .u32 x.a, .int .u32 x.b] 31)).heap.size by simp)
      clear hsz3
      have HFX := Lib.hid hfx
      have HLX := Lib.hid hlx
      have HHS := Lib.hid hHas
      go_upto_region 6 with fail
      obtain ⟨x6, hx6⟩ : ∃ x6, w3.heap.size = x6 := ⟨_, rfl⟩
      obtain ⟨w4, hw4⟩ : ∃ w4, w3.alloc (.cells #[.int .u8 x.k, .int .u32 x.a, .int .u32 x.b] 31) = w4 := ⟨_, rfl⟩
      rw [hx6, hw4] at HK6 HZ5
      rw [hw4] at HT4 hEA HFR4 HLT HO4 HX4 HB4
      rw [hx6] at HZ4
      rw [hx6, hw4]
      have CH := Lib.hid (holds_any w4 e m n lv en.hv txn hEA.box hEA.fm HTX.out)
      have kX : w4.cell? ⟨x3, 0, none⟩ = some (.int .u32 txn) := by rw [HX4.out.cell 0]; rfl
      have CC := Lib.hid (contains_any w4 lv en.line 47 #[.pointer (some ⟨x3, 0, none⟩)] (isT txn) (enters_of Try.func47 (by kernel_rfl) rfl) hEA.ln.ss (fun W y hy hb => by
        have hl := HX4.out.lt
        exact (of_1 W y x3 txn (by have := hb.size; omega) ((hb.cell (p := ⟨x3, 0, none⟩) hl).trans kX)).mono fun _ _ ⟨h1, h2⟩ => ⟨h1, hb.trans (h2.mono hb.size)⟩))
      obtain ⟨Al, cl, hlv, _, _⟩ := hEA.ln.form
      have c1 : w4.cell? ⟨e, 1, none⟩ = some lv := by rw [hEA.box.cell 1]; rfl
      have hq : en.has txn = ((en.hv txn).isSome || en.line.any (isT txn)) := rfl
      obtain ⟨q1, hq1⟩ : ∃ q, (en.hv txn).isSome = q := ⟨_, rfl⟩
      obtain ⟨q2, hq2⟩ : ∃ q, en.line.any (isT txn) = q := ⟨_, rfl⟩
      rw [hq1, hq2] at hq
      rw [hq1] at CH
      rw [hq2] at CC
      have HQ := Lib.hid (HHS.out.trans hq)
      have k60 : w4.cell? ⟨x6, 0, none⟩ = some (.int .u8 x.k) := by rw [HK6.out.cell 0]; rfl
      have k61 : w4.cell? ⟨x6, 1, none⟩ = some (.int .u32 x.a) := by rw [HK6.out.cell 1]; rfl
      have k62 : w4.cell? ⟨x6, 2, none⟩ = some (.int .u32 x.b) := by rw [HK6.out.cell 2]; rfl
      clear hx hlx hfx hfr3 hlt hF3 hen hSr hb4 hTe hEA hHas HT HB HX HO HFR2 HZ hx6 hw4 hq hq1 hq2 HHS
      subst hlv
      have SKIP : Hid (T.has x txn = false → Gat T txn K (but left x) ks) := Lib.hid (fun h => HG2.out.skip h)
      have TAKE : Hid (T.has x txn = true → Gat T txn K (but left x) (ks ++ [x])) := Lib.hid (fun h => HG2.out.take h HFX.out HLX.out)
      cases q1 with
      | true =>
        go_wp2_with (first
          | (go_at_call 48; (with_reducible refine CH.out.mono ?_); rintro er wr ⟨rfl, rfl⟩)
          | (at_builtin; refine wpList_push_ss (F := cKy) (sz := 3) _ rfl _ _ _ rfl (x3 + 2) 81 j0 _ 12 Try.underlying79 hj0 hj1 hj2 hj3 rfl (by decide) cKy_len cKy_one _ ks rfl (own_below HO4.out (new_ (Below.refl _ _) (.cells #[.int .u8 x.k, .int .u32 x.a, .int .u32 x.b] 81))) w4.heap.size x 81 rfl (Box.new w4 _ _) (by have := HCN2.out; have := HNN.out; unfold maxLen; omega) (by have := HCN2.out; have := HNN.out; omega) (by have := HZ4.out; have := HZ5.out; simp; omega) ?_; intro v9 w9 hown ht9))
        have tt := (RowTo.of_below (new_ (Below.refl w4.heap.size w4) (.cells #[.int .u8 x.k, .int .u32 x.a, .int .u32 x.b] 81)) (.slice A n5 c5)).trans ht9
        have hrow : ∀ b, (Value.slice A n5 c5).ownBlock = some b → x3 + 2 ≤ b := fun b hb => (HO4.out.lt b hb).1
        obtain ⟨A9, n9, c9, rfl⟩ : ∃ A n c, v9 = .slice A n c := by
          rcases hown.2 with ⟨rfl, _⟩ | ⟨g, cap, cur, rfl, _⟩
          · exact ⟨_, _, _, rfl⟩
          · exact ⟨_, _, _, rfl⟩
        have hn9 : n9 = (ks ++ [x]).length := by
          rcases hown.2 with ⟨e1, e2⟩ | ⟨g, cap, cur, e1, _⟩
          · simp at e2
          · injection e1 with _ e2 _
        have hFR9 : FR KK ptrEE w9 mk r nk K (but left x) cnt' := HFR4.out.fr tt.fr (fun hb => by have := hrow _ hb; have := HSX.out mk HT4.out.sk; omega) (fun hb => by have := hrow _ hb; have := HRX.out; omega)
        have hG : T.has x txn = true := by rw [HQ.out]; rfl
        refine ⟨⟨_, cnt', A9, n9, c9, ks ++ [x], rfl, Lib.hid hn9, Lib.hid hFR9, Lib.hid hown, Lib.hid (TAKE.out hG), Lib.hid (by have := HCN2.out; have := HLT.out.1; simp; omega),
          Lib.hid (HT4.out.far tt.fr (fun y hy hb => by have := hrow _ hb; have := HSX.out y hy; omega)), Lib.hid (HB4.out.trans (tt.below (fun k hk => by have := hrow k hk; omega) (by have := HZ4.out; have := HZ5.out; omega))),
          Lib.hid (HX4.out.fr tt.fr (fun hb => by have := hrow _ hb; omega)), Lib.hid (by have := tt.fr.size; have := HZ4.out; have := HZ5.out; omega)⟩, ?_⟩
        rw [hFR9.left_eq, HLT.out.2.1]
        exact HLT.out.1
      | false =>
        cases q2 with
        | true =>
          go_wp2_with (first
            | (go_at_call 48; (with_reducible refine CH.out.mono ?_); rintro er wr ⟨rfl, rfl⟩)
            | (go_at_call 49; (with_reducible refine CC.out.mono ?_); rintro er w5 ⟨rfl, hcb⟩; have HCB := Lib.hid hcb; have l60 : w5.cell? ⟨x6, 0, none⟩ = some (.int .u8 x.k) := by rw [(HK6.out.later hcb).cell 0]; rfl
               have l61 : w5.cell? ⟨x6, 1, none⟩ = some (.int .u32 x.a) := by rw [(HK6.out.later hcb).cell 1]; rfl
               have l62 : w5.cell? ⟨x6, 2, none⟩ = some (.int .u32 x.b) := by rw [(HK6.out.later hcb).cell 2]; rfl
               clear hcb k60 k61 k62)
            | (at_builtin; refine wpList_push_ss (F := cKy) (sz := 3) _ rfl _ _ _ rfl (x3 + 2) 81 j0 _ 12 Try.underlying79 hj0 hj1 hj2 hj3 rfl (by decide) cKy_len cKy_one _ ks rfl (own_below (own_below HO4.out HCB.out) (new_ (Below.refl _ _) (.cells #[.int .u8 x.k, .int .u32 x.a, .int .u32 x.b] 81))) w5.heap.size x 81 rfl (Box.new w5 _ _) (by have := HCN2.out; have := HNN.out; unfold maxLen; omega) (by have := HCN2.out; have := HNN.out; omega) (by have := HCB.out.size; have := HZ4.out; have := HZ5.out; simp; omega) ?_; intro v9 w9 hown ht9))
          have tt := ((RowTo.of_below HCB.out (.slice A n5 c5)).trans (RowTo.of_below (new_ (Below.refl w5.heap.size w5) (.cells #[.int .u8 x.k, .int .u32 x.a, .int .u32 x.b] 81)) (.slice A n5 c5))).trans ht9
          have hrow : ∀ b, (Value.slice A n5 c5).ownBlock = some b → x3 + 2 ≤ b := fun b hb => (HO4.out.lt b hb).1
          obtain ⟨A9, n9, c9, rfl⟩ : ∃ A n c, v9 = .slice A n c := by
            rcases hown.2 with ⟨rfl, _⟩ | ⟨g, cap, cur, rfl, _⟩
            · exact ⟨_, _, _, rfl⟩
            · exact ⟨_, _, _, rfl⟩
          have hn9 : n9 = (ks ++ [x]).length := by
            rcases hown.2 with ⟨e1, e2⟩ | ⟨g, cap, cur, e1, _⟩
            · simp at e2
            · injection e1 with _ e2 _
          have hFR9 : FR KK ptrEE w9 mk r nk K (but left x) cnt' := HFR4.out.fr tt.fr (fun hb => by have := hrow _ hb; have := HSX.out mk HT4.out.sk; omega) (fun hb => by have := hrow _ hb; have := HRX.out; omega)
          have hG : T.has x txn = true := by rw [HQ.out]; rfl
          refine ⟨⟨_, cnt', A9, n9, c9, ks ++ [x], rfl, Lib.hid hn9, Lib.hid hFR9, Lib.hid hown, Lib.hid (TAKE.out hG), Lib.hid (by have := HCN2.out; have := HLT.out.1; simp; omega),
            Lib.hid (HT4.out.far tt.fr (fun y hy hb => by have := hrow _ hb; have := HSX.out y hy; omega)), Lib.hid (HB4.out.trans (tt.below (fun k hk => by have := hrow k hk; omega) (by have := HZ4.out; have := HZ5.out; omega))),
            Lib.hid (HX4.out.fr tt.fr (fun hb => by have := hrow _ hb; omega)), Lib.hid (by have := tt.fr.size; have := HZ4.out; have := HZ5.out; omega)⟩, ?_⟩
          rw [hFR9.left_eq, HLT.out.2.1]
          exact HLT.out.1
        | false =>
          go_wp2_with (first
            | (go_at_call 48; (with_reducible refine CH.out.mono ?_); rintro er wr ⟨rfl, rfl⟩)
            | (go_at_call 49; (with_reducible refine CC.out.mono ?_); rintro er w5 ⟨rfl, hcb⟩; have HCB := Lib.hid hcb; have l60 : w5.cell? ⟨x6, 0, none⟩ = some (.int .u8 x.k) := by rw [(HK6.out.later hcb).cell 0]; rfl
               have l61 : w5.cell? ⟨x6, 1, none⟩ = some (.int .u32 x.a) := by rw [(HK6.out.later hcb).cell 1]; rfl
               have l62 : w5.cell? ⟨x6, 2, none⟩ = some (.int .u32 x.b) := by rw [(HK6.out.later hcb).cell 2]; rfl
               clear hcb k60 k61 k62))
          refine ⟨⟨_, cnt', A, n5, c5, ks, rfl, HN5, Lib.hid (HFR4.out.fr (S := fun _ => False) (Fr.of_below HCB.out) id id), Lib.hid (own_below HO4.out HCB.out), Lib.hid (SKIP.out (by rw [HQ.out]; rfl)), Lib.hid (by have := HCN2.out; have := HLT.out.1; omega), Lib.hid (HT4.out.later HCB.out), Lib.hid (HB4.out.trans (HCB.out.mono (by have := HZ4.out; have := HZ5.out; omega))), Lib.hid (HX4.out.later HCB.out), Lib.hid (by have := HCB.out.size; have := HZ4.out; have := HZ5.out; omega)⟩, ?_⟩
          rw [(HFR4.out.fr (S := fun _ => False) (Fr.of_below HCB.out) id id).left_eq, HLT.out.2.1]
          exact HLT.out.1
end Go.Proofs.Ytpndcpmfcajmdaa.Lock
