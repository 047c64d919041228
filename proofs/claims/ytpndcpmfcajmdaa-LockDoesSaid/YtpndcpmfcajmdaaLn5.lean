import Derived.Test.YtpndcpmfcajmdaaLn4
import Derived.Deep.DeepCutAuto
import Derived.Deep.QuietTactic
namespace Go.Proofs.Ytpndcpmfcajmdaa.Lock
open Go.ChangeShapes Go.WideShapes Go.ChangeAt Go.RowKit Go.IntWalk Go.Proofs.Mem Law Go.Shelf Go.Proofs.Each
set_option linter.unusedVariables false
set_option linter.unusedSimpArgs false
section
variable {col col' : Nat → Option (Ky × Nat)} {w w' : World} {S S' R : Nat → Prop} {N L N' L' t : Nat} {k : Ky} {T T' : Tb} {mk mw nk nw nk' nw' : Nat} {K K' : Ky → Option (Option Nat)}
theorem TabW.upd (h : TabW w S N L t T col mk mw nk nw K) (hf : Fr R w w') (hR : ∀ x, x < w.heap.size → R x → x = mk ∨ x = mw ∨ ∃ i, col x = some (k, i)) (hk' : FM KK ptrEE w' mk nk' K') (hw' : FM KU hdEE w' mw nw' T'.wt) (h1 : nk' ≤ N') (h2 : nw' ≤ N')
    (hc : ∀ x, x < w.heap.size → col' x = col x) (hS : ∀ x, S x → S' x) (hS' : ∀ x, S' x → x < w'.heap.size) (hN : N ≤ N') (hL : L ≤ L') (hK : ∀ y, y ≠ k → K' y = K y) (hT : ∀ y, y ≠ k → T'.ent y = T.ent y) (he : OneAt col' w' S' N' L' k (T'.ent k) (K' k)) :
    TabW w' S' N' L' t T' col' mk mw nk' nw' K' := by
  have hlt := h.old
  have nt : ¬ R t := fun hr => by
    rcases hR t (hlt t h.st) hr with e | e | ⟨i, e⟩
    · exact h.fk.ne_box h.box e
    · exact h.fw.ne_box h.box e
    · rw [h.ct] at e; cases e
  refine ⟨h.box.fr hf nt, hk', hw', h1, h2, h.ne, hS _ h.st, hS _ h.sk, hS _ h.sw, hS', (hc t (hlt t h.st)).trans h.ct, (hc mk (hlt mk h.sk)).trans h.ck, (hc mw (hlt mw h.sw)).trans h.cw, fun y => ?_⟩
  by_cases e : y = k
  · subst e; exact he
  · rw [hK y e, hT y e]
    have h1 := h.ents y
    have hf' : Fr (fun x => x < w.heap.size ∧ R x) w w' := hf.mono fun x hx hr => ⟨hx, hr⟩
    refine h1.fr hf' (fun x i hx hr => ?_) hc hS hN hL
    rcases hR x hr.1 hr.2 with e1 | e1 | ⟨j, e1⟩
    · rw [e1, h.ck] at hx; cases hx
    · rw [e1, h.cw] at hx; cases hx
    · rw [e1] at hx; injection hx with hx; injection hx with hx _; exact e hx.symm
end
section
variable {col col' : Nat → Option (Ky × Nat)} {w w' : World} {S S' R : Nat → Prop} {N L N' L' t : Nat} {k : Ky} {T T' : Tb} {mk mw nk nw nk' nw' : Nat} {K K' : Ky → Option (Option Nat)}
theorem TabW.more (h : TabW w S N L t T col mk mw nk nw K) (hS : ∀ x, S x → S' x) (hS' : ∀ x, S' x → x < w.heap.size) (hN : N ≤ N') (hL : L ≤ L') : TabW w S' N' L' t T col mk mw nk nw K :=
  ⟨h.box, h.fk, h.fw, Nat.le_trans h.hk hN, Nat.le_trans h.hw hN, h.ne, hS _ h.st, hS _ h.sk, hS _ h.sw, hS', h.ct, h.ck, h.cw, fun y => (h.ents y).fr (R := fun _ => False) (Fr.refl _ _) (fun _ _ _ => id) (fun _ _ => rfl) hS hN hL⟩
end
section
variable {col : Nat → Option (Ky × Nat)} {w w' : World} {S R : Nat → Prop} {N L t : Nat} {k : Ky} {T : Tb} {mk mw nk nw : Nat} {K : Ky → Option (Option Nat)} {e m n : Nat} {lv : Value} {en : En}
theorem TabW.hold (h : TabW w S (N + 1) L t T col mk mw nk nw K) (hK : K k = some (some e)) (hE : EntAt col w S N L k e m n lv en) (hf : Fr (fun x => x = m) w w') {hv' : Int → Option Int} (hfm : FM KU VM w' m (n + 1) hv') :
    TabW w' S (N + 1) L t (T.set k ⟨hv', en.line⟩) col mk mw nk nw K := by
  refine TabW.upd (k := k) h hf (fun x _ e => .inr (.inr ⟨1, by rw [e]; exact hE.cm⟩)) (h.fk.fr hf (fun e => by have := hE.cm; rw [← e, h.ck] at this; cases this)) (h.fw.fr hf (fun e => by have := hE.cm; rw [← e, h.cw] at this; cases this)) h.hk h.hw (fun _ _ => rfl) (fun _ => id) (fun x hx => Nat.lt_of_lt_of_le (h.old x hx) hf.size) (Nat.le_refl _) (Nat.le_refl _) (fun _ _ => rfl) (fun y hy => set_other _ _ hy) ?_
  rw [hK, set_same]
  exact ⟨m, n + 1, lv, hE.box.fr hf (fun x => hE.fm.ne_box hE.box x), hfm, Nat.succ_le_succ hE.hn, hE.ln.fr hf (fun b hb e => by have h1 := hE.cb b hb; rw [e, hE.cm] at h1; cases h1), hE.hl, hE.ok, hE.se, hE.sm, hE.sb, hE.ce, hE.cm, hE.cb⟩
theorem TabW.line (h : TabW w S N L t T col mk mw nk nw K) (hK : K k = some (some e)) (hE : EntAt col w S N L k e m n lv en) {lv' : Value} {l' : List Pl} (hf : Fr (fun x => lv.ownBlock = some x ∨ x = e) w w') (hb : Box w' e #[.map (some m), lv'] 86) (hl : LnAt w' 0 lv' l')
    (ho : lv'.ownBlock = lv.ownBlock ∨ ∀ b, lv'.ownBlock = some b → w.heap.size ≤ b) (hll : l'.length ≤ L + 1) (hok : ∀ x ∈ l', U32 x.t) :
    ∃ col', TabW w' (grS w w' S) N (L + 1) t (T.set k ⟨en.hv, l'⟩) col' mk mw nk nw K := by
  refine ⟨fun x => if lv'.ownBlock = some x then some (k, 2) else col x, ?_⟩
  have hcol : ∀ x, x < w.heap.size → (if lv'.ownBlock = some x then some (k, 2) else col x) = col x := fun x hx => by
    split
    · rename_i hx'
      rcases ho with h1 | h1
      · rw [h1] at hx'; exact (hE.cb x hx').symm
      · have := h1 x hx'; omega
    · rfl
  obtain ⟨l1, l2, l3⟩ := hE.lts
  refine TabW.upd (k := k) h hf (fun x _ hx => .inr (.inr ?_)) (h.fk.fr hf ?_) (h.fw.fr hf ?_) h.hk h.hw hcol (fun x hx => .inl hx) (fun x hx => ?_) (Nat.le_refl _) (Nat.le_succ _) (fun _ _ => rfl) (fun y hy => set_other _ _ hy) ?_
  · rcases hx with hx | hx
    · exact ⟨2, hE.cb x hx⟩
    · rw [hx]; exact ⟨0, hE.ce⟩
  · rintro (hx | hx)
    · have := hE.cb _ hx; rw [h.ck] at this; cases this
    · have := hE.ce; rw [← hx, h.ck] at this; cases this
  · rintro (hx | hx)
    · have := hE.cb _ hx; rw [h.cw] at this; cases this
    · have := hE.ce; rw [← hx, h.cw] at this; cases this
  · rcases hx with hx | hx
    · exact Nat.lt_of_lt_of_le (h.old x hx) hf.size
    · exact hx.2
  · rw [hK, set_same]
    refine ⟨m, n, lv', hb, hE.fm.fr hf ?_, hE.hn, hl, hll, hok, .inl hE.se, .inl hE.sm, fun b hb => ?_, (hcol e l1).trans hE.ce, (hcol m l2).trans hE.cm, fun b hb => if_pos hb⟩
    · rintro (hx | hx)
      · have := hE.cb _ hx; rw [hE.cm] at this; cases this
      · exact hE.fm.ne_box hE.box hx.symm
    · rcases ho with h1 | h1
      · rw [h1] at hb; exact .inl (hE.sb b hb)
      · exact .inr ⟨h1 b hb, (hl.lt b hb).2⟩
theorem TabW.wts (h : TabW w S N L t T col mk mw nk nw K) (hf : Fr (fun x => x = mw) w w') {W' : Int → Option Hd} {nw' : Nat} (hn : nw' ≤ N) (hfm : FM KU hdEE w' mw nw' W') : TabW w' S N L t ⟨T.ent, W'⟩ col mk mw nk nw' K :=
  ⟨h.box.fr hf (fun e => h.fw.ne_box h.box e), h.fk.fr hf (fun e => h.ne e), hfm, h.hk, hn, h.ne, h.st, h.sk, h.sw, fun x hx => Nat.lt_of_lt_of_le (h.old x hx) hf.size, h.ct, h.ck, h.cw,
    fun y => (h.ents y).fr hf (fun x i hx e => by rw [e, h.cw] at hx; cases hx) (fun _ _ => rfl) (fun _ => id) (Nat.le_refl _) (Nat.le_refl _)⟩
end
theorem set_set (T : Tb) (k : Ky) (a b : En) : (T.set k a).set k b = T.set k b := by
  unfold Tb.set
  simp only [Tb.mk.injEq, and_true]
  funext y
  by_cases h : y = k <;> simp [h]
theorem insP_len (h : Int → Option Int) (p : Pl) (l : List Pl) : (insP h p l).length = l.length + 1 := by
  unfold insP
  split
  · have e : (l.takeWhile fun x => (h x.t).isSome).length + (l.dropWhile fun x => (h x.t).isSome).length = l.length := by rw [← List.length_append, List.takeWhile_append_dropWhile]
    rw [List.length_append, List.length_cons]
    omega
  · simp
theorem insP_mem {h : Int → Option Int} {p : Pl} {l : List Pl} {x : Pl} : x ∈ insP h p l ↔ x = p ∨ x ∈ l := by
  unfold insP
  split
  · conv => rhs; rw [← List.takeWhile_append_dropWhile (p := fun x : Pl => (h x.t).isSome) (l := l)]
    simp only [List.mem_append, List.mem_cons]
    constructor
    · rintro (h1 | h1 | h1)
      · exact .inr (.inl h1)
      · exact .inl h1
      · exact .inr (.inr h1)
    · rintro (h1 | h1 | h1)
      · exact .inr (.inl h1)
      · exact .inl h1
      · exact .inr (.inr h1)
  · simp [or_comm]
def AskOut (w w' : World) (S : Nat → Prop) (N L t : Nat) (T' : Tb) : Prop := ∃ S', TabAt w' S' N L t T' ∧ Fr S w w' ∧ ∀ x, S' x → S x ∨ w.heap.size ≤ x
structure Ent1 (w1 wx : World) (S : Nat → Prop) (N L t : Nat) (T : Tb) (k : Ky) (mk mw nk nw : Nat) (K : Ky → Option (Option Nat)) (e m n : Nat) (lv : Value) (col' : Nat → Option (Ky × Nat)) : Prop where
  tab : TabW wx (grS w1 wx S) N L t T col' mk mw nk nw K
  ent : EntAt col' wx (grS w1 wx S) N L k e m n lv (T.at_ k)
  key : K k = none ∨ K k = some (some e)
  fr : Below w1.heap.size w1 wx
set_option maxRecDepth 100000 in
set_option maxHeartbeats 8000000 in
theorem ask_any (w : World) (S : Nat → Prop) (N L t : Nat) (T : Tb) (txn : Int) (k : Ky) (m : Int) (h : TabAt w S N L t T) (ht : U32 txn) (hk : k.ok) (hN : N ≤ 50000) (hL : L ≤ 50000) :
    Calls Try.prog 19 #[.pointer (some ⟨t, 0, none⟩), .int .u32 txn, .agg #[.int .u8 k.k, .int .u32 k.a, .int .u32 k.b], .int .u8 m] w fun e w' => e = .returned (.bool (askB T txn k m)) ∧ AskOut w w' S (N + 1) (L + 1) t (askT T txn k m) := by
  obtain ⟨col, mk, mw, nk, nw, K, h⟩ := h
  obtain ⟨md, hmd⟩ : ∃ md, mdOf m = md := ⟨_, rfl⟩
  have hAB : askB T txn k m = if hasE ((T.at_ k).hv txn) md then true else if (T.wt txn).isSome then false else fit (T.at_ k).hv txn md && (((T.at_ k).hv txn).isSome || (T.at_ k).line.isEmpty) := by unfold askB; rw [hmd]
  have hAT : askT T txn k m = if hasE ((T.at_ k).hv txn) md then T else if (T.wt txn).isSome then T else if fit (T.at_ k).hv txn md && (((T.at_ k).hv txn).isSome || (T.at_ k).line.isEmpty) then T.set k ⟨fput (T.at_ k).hv txn md, (T.at_ k).line⟩ else (T.set k ⟨(T.at_ k).hv, insP (T.at_ k).hv ⟨txn, md⟩ (T.at_ k).line⟩).wait txn (hdOf k md) := by unfold askT; rw [hmd]
  rw [hAB, hAT]
  clear hAB hAT
  have b1 := new_ (Below.refl w.heap.size w) (.cells #[.int .u8 k.k, .int .u32 k.a, .int .u32 k.b] 31)
  have X6 := Box.new w #[.int .u8 k.k, .int .u32 k.a, .int .u32 k.b] 31
  have h1 := h.later b1
  obtain ⟨x6, hx6⟩ : ∃ x6, w.heap.size = x6 := ⟨_, rfl⟩
  have hs1 : (w.alloc (.cells #[.int .u8 k.k, .int .u32 k.a, .int .u32 k.b] 31)).heap.size = x6 + 1 := by rw [← hx6]; simp
  rw [hx6] at X6 b1
  have hold : ∀ y, S y → y < x6 := fun y hy => by rw [← hx6]; exact h.old y hy
  obtain ⟨w1, hw1⟩ : ∃ w1, w.alloc (.cells #[.int .u8 k.k, .int .u32 k.a, .int .u32 k.b] 31) = w1 := ⟨_, rfl⟩
  rw [hw1] at X6 b1 h1 hs1
  have k0 : w1.cell? ⟨t, 0, none⟩ = some (.map (some mk)) := by rw [h1.box.cell 0]; rfl
  have k1 : w1.cell? ⟨t, 1, none⟩ = some (.map (some mw)) := by rw [h1.box.cell 1]; rfl
  have k60 : w1.cell? ⟨x6, 0, none⟩ = some (.int .u8 k.k) := by rw [X6.cell 0]; rfl
  have k61 : w1.cell? ⟨x6, 1, none⟩ = some (.int .u32 k.a) := by rw [X6.cell 1]; rfl
  have k62 : w1.cell? ⟨x6, 2, none⟩ = some (.int .u32 k.b) := by rw [X6.cell 2]; rfl
  have HT1 := Lib.hid h1
  have HB1 := Lib.hid b1
  have HX6 := Lib.hid X6
  have HS1 := Lib.hid hs1
  have HOLD := Lib.hid hold
  have HWS := Lib.hid hx6
  have HTX := Lib.hid ht
  have HK := Lib.hid hk
  have HN := Lib.hid hN
  have HL := Lib.hid hL
  have lk : ∀ d, (Instr.lookup 56 (.map (some mk)) (.agg #[.int .u8 k.k, .int .u32 k.a, .int .u32 k.b]) false).run Try.prog (w1.drewN d) = .ok (ptrEE.ev ((K k).getD none)) (w1.drewN d) := fun d => ((h1.fk.drewN d).look Try.underlying56 none (zeroP _) k hk).1
  clear h h1 X6 b1 hs1 hold ht hk hN hL
  obtain ⟨hv, hhv⟩ : ∃ hv, (T.at_ k).hv = hv := ⟨_, rfl⟩
  obtain ⟨ln, hln⟩ : ∃ ln, (T.at_ k).line = ln := ⟨_, rfl⟩
  obtain ⟨q, hq⟩ : ∃ q, (hv txn).isSome = q := ⟨_, rfl⟩
  obtain ⟨hx, hhx⟩ : ∃ hx, (hv txn).getD 0 = hx := ⟨_, rfl⟩
  obtain ⟨qw, hqw⟩ : ∃ q, (T.wt txn).isSome = q := ⟨_, rfl⟩
  obtain ⟨hd, hhd⟩ : ∃ hd, (T.wt txn).getD ⟨0, 0, 0, 0⟩ = hd := ⟨_, rfl⟩
  have hhE : hasE (hv txn) md = (q && (decide (hx = 2) || decide (hx = md))) := by
    rw [← hq, ← hhx]
    cases hv txn with
    | none => rfl
    | some x => rfl
  have a2 : (hx == 2) = decide (hx = 2) := u32eq _ _
  have a3 : (hx == md) = decide (hx = md) := u32eq _ _
  obtain ⟨qa, hqa⟩ : ∃ q, decide (hx = 2) = q := ⟨_, rfl⟩
  obtain ⟨qb, hqb⟩ : ∃ q, decide (hx = md) = q := ⟨_, rfl⟩
  obtain ⟨F, hF⟩ : ∃ F, fit hv txn md = F := ⟨_, rfl⟩
  obtain ⟨z, hz⟩ : ∃ z, ln.isEmpty = z := ⟨_, rfl⟩
  rw [hqa] at a2 hhE
  rw [hqb] at a3 hhE
  obtain ⟨cnd, hcnd⟩ : ∃ c, (F && (q || z)) = c := ⟨_, rfl⟩
  rw [hhv, hln, hqw, hq, hhE, hF, hz, hcnd]
  have HCND := Lib.hid hcnd
  have HHV := Lib.hid (⟨hhv, hln⟩ : (T.at_ k).hv = hv ∧ (T.at_ k).line = ln)
  have HQW := Lib.hid (⟨hqw, hhd⟩ : (T.wt txn).isSome = qw ∧ (T.wt txn).getD ⟨0, 0, 0, 0⟩ = hd)
  have HQ := Lib.hid (⟨hq, hhx⟩ : (hv txn).isSome = q ∧ (hv txn).getD 0 = hx)
  have HFZ := Lib.hid (⟨hF, hz⟩ : fit hv txn md = F ∧ ln.isEmpty = z)
  clear hhv hln hq hhx hqw hhd hhE hqa hqb hF hz hcnd
  go_enter Try.func19, Try.ntmps19
  go_upto_if 16 with fail
  clear hx6 hw1
  go_cut [3] (fun v wx => v = .int .u8 md ∧ wx = w1)
  case first =>
    by_cases hm : m = 1
    · have d1 : (m != 1) = false := by simp [hm]
      have d2 : (m == 1) = true := by simp [hm]
      have hmd1 : md = 1 := by rw [← hmd]; unfold mdOf; rw [if_pos hm]
      subst hm
      subst hmd1
      clear hmd
      go_wp2
      go_meet
      exact ⟨rfl, rfl⟩
    · have d1 : (m != 1) = true := by simp [hm]
      have d2 : (m == 1) = false := by simp [hm]
      have hmd1 : md = 2 := by rw [← hmd]; unfold mdOf; rw [if_neg hm]
      subst hmd1
      clear hmd hm
      go_wp2
      go_meet
      exact ⟨rfl, rfl⟩
  case rest =>
    obtain ⟨rfl, rfl⟩ := hcut
    clear hmd
    rename_i hK
    refine hK _ _ ?_
    clear hK
    go_upto_region 3 with fail
    go_quiet (fail)
    have bq : Below wc.heap.size wc (wc.drewN nq) := below_drewN (Below.refl _ _) nq
    have HT2 := Lib.hid (HT1.out.later bq)
    have HX2 := Lib.hid (HX6.out.later bq)
    have HB2 := Lib.hid (show Below x6 w (wc.drewN nq) from below_drewN HB1.out nq)
    have HS2 := Lib.hid (show (wc.drewN nq).heap.size = x6 + 1 from HS1.out)
    clear bq lk k0 k1 k60 k61 k62 HT1 HX6 HB1 HS1
    obtain ⟨w2, hw2⟩ : ∃ w2, wc.drewN nq = w2 := ⟨_, rfl⟩
    rw [hw2] at HT2 HX2 HB2 HS2 ⊢
    clear hw2
    have hKK : K k = none ∨ ∃ b, K k = some b := by cases K k with
      | none => exact .inl rfl
      | some b => exact .inr ⟨b, rfl⟩
    rcases hKK with hKk | ⟨b, hKk⟩
    case' inl =>
      rw [hKk]
      rw [show ptrEE.ev ((none : Option (Option Nat)).getD none) = .pointer none from rfl]
      have hE0 := HT2.out.none_ hKk
      have hmm := @run_makeMap Try.prog
      have f1 : FM KU VM (w2.alloc (.map #[] 0)) w2.heap.size 0 (fun _ => none) := FM.made _ _ _
      have bb1 := new_ (Below.refl w2.heap.size w2) (.map #[] 0)
      have ss1 : (w2.alloc (.map #[] 0)).heap.size = w2.heap.size + 1 := by simp
      have f2 := f1.later (new_ (Below.refl (w2.alloc (.map #[] 0)).heap.size (w2.alloc (.map #[] 0))) (.cells #[.map (some w2.heap.size), .slice none 0 0] 86))
      have x2 := Box.new (w2.alloc (.map #[] 0)) #[.map (some w2.heap.size), .slice none 0 0] 86
      have bb2 := new_ bb1 (.cells #[.map (some w2.heap.size), .slice none 0 0] 86)
      have ss2 : ((w2.alloc (.map #[] 0)).alloc (.cells #[.map (some w2.heap.size), .slice none 0 0] 86)).heap.size = w2.heap.size + 1 + 1 := by simp
      rw [ss1] at x2
      obtain ⟨m2, hm2⟩ : ∃ m2, w2.heap.size = m2 := ⟨_, rfl⟩
      obtain ⟨e2, he2⟩ : ∃ e2, m2 + 1 = e2 := ⟨_, rfl⟩
      rw [hm2, he2] at ss2 x2
      rw [hm2] at f2 bb2
      obtain ⟨w3, hw3⟩ : ∃ w3, (w2.alloc (.map #[] 0)).alloc (.cells #[.map (some m2), .slice none 0 0] 86) = w3 := ⟨_, rfl⟩
      rw [hw3] at f2 x2 bb2 ss2
      obtain ⟨col', hcol'⟩ : ∃ col' : Nat → Option (Ky × Nat), col' = fun x => if x = e2 then some (k, 0) else if x = m2 then some (k, 1) else col x := ⟨_, rfl⟩
      have hcc : ∀ x, x < w2.heap.size → col' x = col x := fun x hx => by
        rw [hcol']; simp only; rw [if_neg (by omega), if_neg (by omega)]
      have bb3 : Below w2.heap.size w2 w3 := by rw [hm2]; exact bb2
      have TB3 : TabW w3 (grS w2 w3 S) N L t T col' mk mw nk nw K := by
        refine TabW.upd (k := k) (R := fun _ => False) HT2.out (Fr.of_below bb3) (fun _ _ h => h.elim) (HT2.out.fk.later bb3) (HT2.out.fw.later bb3) HT2.out.hk HT2.out.hw hcc (fun x hx => .inl hx) (fun x hx => ?_) (Nat.le_refl _) (Nat.le_refl _) (fun _ _ => rfl) (fun _ _ => rfl) ?_
        · rcases hx with hx | hx
          · have := HT2.out.old x hx; have := bb3.size; omega
          · exact hx.2
        · rw [hKk, hE0]; exact rfl
      have EN3 : EntAt col' w3 (grS w2 w3 S) N L k e2 m2 0 (.slice none 0 0) (T.at_ k) := by
        have : T.at_ k = En.none := hE0
        rw [this]
        exact ⟨x2, f2, Nat.zero_le _, LnAt.nil _ _, Nat.zero_le _, (fun x hx => by cases hx), .inr (by omega), .inr (by omega), (fun b hb => by cases hb), by rw [hcol']; simp, by rw [hcol']; simp; omega, fun b hb => by cases hb⟩
      have HE3 := Lib.hid (show ∃ n lv col', Ent1 w2 w3 S N L t T k mk mw nk nw K e2 m2 n lv col' from ⟨_, _, col', TB3, EN3, .inl hKk, bb3⟩)
      clear hcol' hcc TB3 EN3 f1 bb1 ss1 f2 x2 bb2 bb3 hE0 hKk ss2
      go_upto_region 6 with fail
      clear hm2 he2 hw3 hmm
    case' inr =>
      obtain ⟨e2, m2, n2, lv2, rfl, hEA⟩ := HT2.out.is hKk
      rw [hKk]
      rw [show ptrEE.ev ((some (some e2) : Option (Option Nat)).getD none) = .pointer (some ⟨e2, 0, none⟩) from rfl]
      have bb3 : Below w2.heap.size w2 w2 := Below.refl _ _
      have TB3 : TabW w2 (grS w2 w2 S) N L t T col mk mw nk nw K := by
        refine TabW.upd (k := k) (R := fun _ => False) HT2.out (Fr.of_below bb3) (fun _ _ h => h.elim) HT2.out.fk HT2.out.fw HT2.out.hk HT2.out.hw (fun _ _ => rfl) (fun x hx => .inl hx) (fun x hx => ?_) (Nat.le_refl _) (Nat.le_refl _) (fun _ _ => rfl) (fun _ _ => rfl) ?_
        · rcases hx with hx | hx
          · exact HT2.out.old x hx
          · exact hx.2
        · rw [hKk]; exact ⟨_, _, _, hEA.fr (R := fun _ => False) (Fr.refl _ _) (fun _ _ _ => id) (fun _ _ => rfl) (fun x hx => .inl hx) (Nat.le_refl _) (Nat.le_refl _)⟩
      have EN3 : EntAt col w2 (grS w2 w2 S) N L k e2 m2 n2 lv2 (T.at_ k) := by
        exact hEA.fr (R := fun _ => False) (Fr.refl _ _) (fun _ _ _ => id) (fun _ _ => rfl) (fun x hx => .inl hx) (Nat.le_refl _) (Nat.le_refl _)
      obtain ⟨w3, hw3⟩ : ∃ w3, w2 = w3 := ⟨_, rfl⟩
      have HE3 := Lib.hid (show ∃ n lv col', Ent1 w2 w3 S N L t T k mk mw nk nw K e2 m2 n lv col' from by rw [← hw3]; exact ⟨_, _, col, TB3, EN3, .inr hKk, bb3⟩)
      rw [hw3]
      clear hEA TB3 EN3 bb3 hKk hw3
      go_upto_region 6 with fail
    all_goals
      obtain ⟨n3, lv3, col3, E1⟩ := HE3.out
      have HX3 := Lib.hid (HX2.out.later E1.fr)
      have HB3 := Lib.hid (show Below x6 w w3 from HB2.out.trans (E1.fr.mono (by have := HS2.out; omega)))
      have HS3 := Lib.hid (show x6 + 1 ≤ w3.heap.size by have := HS2.out; have := E1.fr.size; omega)
      obtain ⟨S3, hS3⟩ : ∃ S3, S3 = grS w2 w3 S := ⟨_, rfl⟩
      have HSS := Lib.hid (show ∀ x, S3 x → S x ∨ w.heap.size < x from fun x hx => by
        rw [hS3] at hx
        rcases hx with h | h
        · exact .inl h
        · right; have := HS2.out; have := HWS.out; omega)
      have HS30 := Lib.hid (show ∀ x, S x → S3 x from fun x hx => by rw [hS3]; exact .inl hx)
      have TB := E1.tab
      have EN := E1.ent
      have KEY := Lib.hid E1.key
      rw [← hS3] at TB EN
      have HTB := Lib.hid TB
      have HEN := Lib.hid EN
      have c0 : w3.cell? ⟨e2, 0, none⟩ = some (.map (some m2)) := by rw [EN.box.cell 0]; rfl
      have c1 : w3.cell? ⟨t, 1, none⟩ = some (.map (some mw)) := by rw [TB.box.cell 1]; rfl
      have hfm : FM KU VM w3 m2 n3 hv := by rw [← HHV.out.1]; exact EN.fm
      have lkH : (Instr.lookup 83 (.map (some m2)) (.int .u32 txn) true).run Try.prog w3 = .ok (.tuple #[.int .u8 hx, .bool q]) w3 := by
        have := (hfm.look (t := 83) Try.underlying83 0 (zeroM w3) txn (ku_ok.2 HTX.out)).2
        rw [HQ.out.1, HQ.out.2] at this
        exact this
      have lkW : (Instr.lookup 57 (.map (some mw)) (.int .u32 txn) true).run Try.prog w3 = .ok (.tuple #[.agg #[.int .u8 hd.k, .int .u32 hd.a, .int .u32 hd.b, .int .u8 hd.m], .bool qw]) w3 := by
        have := (TB.fw.look (t := 57) Try.underlying57 ⟨0, 0, 0, 0⟩ (zeroH w3) txn (ku_ok.2 HTX.out)).2
        rw [HQW.out.1, HQW.out.2] at this
        exact this
      have HFM := Lib.hid hfm
      have OUT0 : Hid (∀ w4, Below w3.heap.size w3 w4 → AskOut w w4 S (N + 1) (L + 1) t T) := Lib.hid (fun w4 hb4 => by
        have h4 := HTB.out.later hb4
        exact ⟨S3, ⟨_, _, _, _, _, _, h4.more (fun _ => id) (fun x hx => h4.old x hx) (Nat.le_succ _) (Nat.le_succ _)⟩, Fr.of_below ((show Below w.heap.size w w3 by rw [HWS.out]; exact HB3.out).trans (hb4.mono (by have := HB3.out.size; have := HS3.out; have := HWS.out; omega))), fun x hx => (HSS.out x hx).imp id Nat.le_of_lt⟩)
      clear HE3 E1 TB EN hfm HX2 HB2 HT2 hS3
    all_goals cases q
    case' inl.true => cases qa
    case' inl.true.false => cases qb
    case' inl.true.false.false => cases qw
    case' inl.false => cases qw
    case inl.true.true =>
      go_wp2
      go_ret
      exact ⟨rfl, OUT0.out _ (Below.refl _ _)⟩
    case inl.true.false.true =>
      go_wp2
      go_ret
      exact ⟨rfl, OUT0.out _ (Below.refl _ _)⟩
    case inl.true.false.false.true =>
      go_wp2
      go_ret
      exact ⟨rfl, OUT0.out _ (new_ (Below.refl _ _) _)⟩
    case inl.false.true =>
      go_wp2
      go_ret
      exact ⟨rfl, OUT0.out _ (new_ (Below.refl _ _) _)⟩
    case' inr.true => cases qa
    case' inr.true.false => cases qb
    case' inr.true.false.false => cases qw
    case' inr.false => cases qw
    case inr.true.true =>
      go_wp2
      go_ret
      exact ⟨rfl, OUT0.out _ (Below.refl _ _)⟩
    case inr.true.false.true =>
      go_wp2
      go_ret
      exact ⟨rfl, OUT0.out _ (Below.refl _ _)⟩
    case inr.true.false.false.true =>
      go_wp2
      go_ret
      exact ⟨rfl, OUT0.out _ (new_ (Below.refl _ _) _)⟩
    case inr.false.true =>
      go_wp2
      go_ret
      exact ⟨rfl, OUT0.out _ (new_ (Below.refl _ _) _)⟩
    all_goals
      have hb4 := new_ (Below.refl w3.heap.size w3) (.cells #[.int .u8 hd.k, .int .u32 hd.a, .int .u32 hd.b, .int .u8 hd.m] 45)
      have HT4 := Lib.hid (HTB.out.later hb4)
      have HNW0 := Lib.hid HTB.out.hw
      have HE4 := Lib.hid (HEN.out.later hb4)
      have HX4 := Lib.hid (HX3.out.later hb4)
      have HB4 := Lib.hid (HB3.out.trans (hb4.mono (by have := HS3.out; omega)))
      have HFM4 := Lib.hid (HFM.out.later hb4)
      have HZ4 := Lib.hid hb4.size
      go_upto_region 12 with fail
      obtain ⟨x12, hx12⟩ : ∃ x, w3.heap.size = x := ⟨_, rfl⟩
      obtain ⟨w4, hw4⟩ : ∃ w4, w3.alloc (.cells #[.int .u8 hd.k, .int .u32 hd.a, .int .u32 hd.b, .int .u8 hd.m] 45) = w4 := ⟨_, rfl⟩
      rw [hw4] at HT4 HE4 HX4 HB4 HFM4 HZ4
      rw [hx12, hw4]
      obtain ⟨w5, hrun5, hfm5, hg5⟩ := (HT4.out.fk.drew).put Try.underlying56 (by have := HT4.out.hk; have := HN.out; unfold maxLen; omega) k HK.out (some e2)
      have c40 : w4.cell? ⟨t, 0, none⟩ = some (.map (some mk)) := by rw [HT4.out.box.cell 0]; rfl
      have c60 : w4.cell? ⟨x6, 0, none⟩ = some (.int .u8 k.k) := by rw [HX4.out.cell 0]; rfl
      have c61 : w4.cell? ⟨x6, 1, none⟩ = some (.int .u32 k.a) := by rw [HX4.out.cell 1]; rfl
      have c62 : w4.cell? ⟨x6, 2, none⟩ = some (.int .u32 k.b) := by rw [HX4.out.cell 2]; rfl
      have mixed : Try.prog.follows .mixedOrders = true := by kernel_rfl
      replace hrun5 : (Instr.mapUpdate 56 (.map (some mk)) (.agg #[.int .u8 k.k, .int .u32 k.a, .int .u32 k.b]) (.pointer (some ⟨e2, 0, none⟩))).run Try.prog w4.drew = .ok () w5 := hrun5
      have HFK5 := Lib.hid hfm5
      have HG5 := Lib.hid (show Fr (fun x => x = mk) w4 w5 from ((Fr.refl _ w4).drew).grown hg5 (fun g hg => by injection hg with hg; exact .inl hg.symm))
      clear hfm5 hg5 hx12 hw4
      go_region
      have HT5 := Lib.hid (show TabW w5 S3 (N + 1) L t (T.set k (T.at_ k)) col3 mk mw (nk + 1) nw (fput K k (some e2)) from
        TabW.upd (k := k) HT4.out HG5.out (fun x _ h => .inl h) HFK5.out (HT4.out.fw.fr HG5.out (fun e => HT4.out.ne e.symm)) (Nat.succ_le_succ HT4.out.hk) (Nat.le_succ_of_le HT4.out.hw) (fun _ _ => rfl) (fun _ => id) (fun x hx => Nat.lt_of_lt_of_le (HT4.out.old x hx) HG5.out.size) (Nat.le_succ _) (Nat.le_refl _) (fun y hy => fput_other _ _ hy) (fun y hy => set_other _ _ hy)
          (by
            rw [fput_same, set_same]
            exact ⟨_, _, _, HE4.out.fr HG5.out (fun x i hc e => by rw [e, HT4.out.ck] at hc; cases hc) (fun _ _ => rfl) (fun _ => id) (Nat.le_succ _) (Nat.le_refl _)⟩))
      have HE5 := Lib.hid (show EntAt col3 w5 S3 N L k e2 m2 n3 lv3 (T.at_ k) from HE4.out.fr HG5.out (fun x i hc e => by rw [e, HT4.out.ck] at hc; cases hc) (fun _ _ => rfl) (fun _ => id) (Nat.le_refl _) (Nat.le_refl _))
      have HX5 := Lib.hid (show Box w5 x6 #[.int .u8 k.k, .int .u32 k.a, .int .u32 k.b] 31 from HX4.out.fr HG5.out (fun e => HT4.out.fk.ne_box HX4.out e))
      have HF5 := Lib.hid (show Fr S w w5 from (Fr.of_below (show Below w.heap.size w w4 by rw [HWS.out]; exact HB4.out)).trans' HG5.out (fun i hi e => by
        rw [e] at hi ⊢
        rcases HSS.out _ HT4.out.sk with h | h
        · exact h
        · omega))
      clear hrun5 c40 c60 c61 c62 HFK5 HG5 HT4 HE4 HX4 HB4 HFM4 HZ4 HTB HEN HX3 HFM OUT0 c0 c1 lkH lkW
      -- the place
      have hb6 := new_ (Below.refl w5.heap.size w5) (.cells #[.int .u32 txn, .int .u8 md] 72)
      have HT6 := Lib.hid (HT5.out.later hb6)
      have HE6 := Lib.hid (HE5.out.later hb6)
      have HX6' := Lib.hid (HX5.out.later hb6)
      have HF6 := Lib.hid (HF5.out.below hb6)
      have HP6 := Lib.hid (Box.new w5 #[.int .u32 txn, .int .u8 md] 72)
      obtain ⟨x14, hx14⟩ : ∃ x, w5.heap.size = x := ⟨_, rfl⟩
      obtain ⟨w6, hw6⟩ : ∃ w6, w5.alloc (.cells #[.int .u32 txn, .int .u8 md] 72) = w6 := ⟨_, rfl⟩
      rw [hw6] at HT6 HE6 HX6' HF6 HP6
      rw [hx14] at HP6
      have p0 : w6.cell? ⟨x14, 0, none⟩ = some (.int .u32 txn) := by rw [HP6.out.cell 0]; rfl
      have p1 : w6.cell? ⟨x14, 1, none⟩ = some (.int .u8 md) := by rw [HP6.out.cell 1]; rfl
      have CF := Lib.hid (fits_any w6 e2 m2 n3 lv3 hv txn md HE6.out.box HE6.out.box.lt (by have := HE6.out.fm; rw [HHV.out.1] at this; exact this) (holders_u32 (by have := HE6.out.fm; rw [HHV.out.1] at this; exact this)))
      rw [HFZ.out.1] at CF
      obtain ⟨A3, c3, hlv3, hc31, hc32⟩ := HE6.out.ln.form
      have HLV := Lib.hid hlv3
      have hzz : ((((T.at_ k).line.length : Nat) : Int) == 0) = z := by
        rw [HHV.out.2, ← HFZ.out.2]
        cases ln with
        | nil => rfl
        | cons a b => simp; omega
      have hc33 : ((T.at_ k).line.length : Int) ≤ 9223372036854775807 := by unfold maxLen at hc32; omega
      obtain ⟨LL, hLL⟩ : ∃ LL, (T.at_ k).line.length = LL := ⟨_, rfl⟩
      rw [hLL] at hlv3 hzz hc33
      have HLL := Lib.hid hLL
      have HLVV := Lib.hid hlv3
      clear hb6 HT5 HE5 HX5 HF5 hlv3 hc31 hc32 hLL HLV
      go_upto_region 14 with fail
      clear hw6 hx14
      go_cut [79] (fun v wx => v = .bool cnd ∧ Hid (Below w6.heap.size w6 wx))
      case first =>
        have hcnd := HCND.out
        have CL : ∀ w7, Below w6.heap.size w6 w7 → w7.cell? ⟨e2, 1, none⟩ = some lv3 := fun w7 hb7 => by rw [(HE6.out.later hb7).box.cell 1]; rfl
        have HCL := Lib.hid CL
        clear CL
        have HLV : lv3 = .slice A3 LL c3 := HLVV.out
        subst HLV
        cases F <;> cases z <;> (simp at hcnd; subst hcnd; go_wp2_with (go_at_call 34; (with_reducible refine CF.out.mono ?_); rintro er w7 ⟨rfl, hb7⟩; have HB7 := Lib.hid hb7; have l1 := HCL.out w7 hb7; clear hb7); go_meet; exact ⟨rfl, HB7⟩)
      case rest =>
        obtain ⟨rfl, HB7⟩ := hcut
        rename_i hK
        refine hK _ _ ?_
        clear hK CF
        have HT7 := Lib.hid (HT6.out.later HB7.out)
        have HE7 := Lib.hid (HE6.out.later HB7.out)
        have HF7 := Lib.hid (HF6.out.below HB7.out)
        have HX7 := Lib.hid (HX6'.out.later HB7.out)
        have HP7 := Lib.hid (HP6.out.later HB7.out)
        have HKE : Hid (fput K k (some e2) k = some (some e2)) := Lib.hid (fput_same _ _ _)
        have p70 : wc.cell? ⟨x14, 0, none⟩ = some (.int .u32 txn) := by rw [HP7.out.cell 0]; rfl
        have p71 : wc.cell? ⟨x14, 1, none⟩ = some (.int .u8 md) := by rw [HP7.out.cell 1]; rfl
        have e70 : wc.cell? ⟨e2, 0, none⟩ = some (.map (some m2)) := by rw [HE7.out.box.cell 0]; rfl
        clear HT6 HE6 HF6 HX6' HP6 p0 p1 HB7
        have FMV := HE7.out.fm
        rw [HHV.out.1] at FMV
        cases cnd with
        | true =>
          obtain ⟨w8, hrun8, hfm8, hg8⟩ := FMV.put Try.underlying83 (by have := HE7.out.hn; have := HN.out; unfold maxLen; omega) txn (ku_ok.2 HTX.out) md
          replace hrun8 : (Instr.mapUpdate 83 (.map (some m2)) (.int .u32 txn) (.int .u8 md)).run Try.prog wc = .ok () w8 := hrun8
          have hf8 : Fr (fun x => x = m2) wc w8 := (Fr.refl _ _).grown hg8 (fun g hg => by injection hg with hg; exact .inl hg.symm)
          have HO := Lib.hid (show AskOut w w8 S (N + 1) (L + 1) t (T.set k ⟨fput hv txn md, ln⟩) from by
            have h8 := HT7.out.hold HKE.out HE7.out hf8 hfm8
            rw [HHV.out.2] at h8
            rw [set_set] at h8
            refine ⟨S3, ⟨_, _, _, _, _, _, h8.more (fun _ => id) (fun x hx => h8.old x hx) (Nat.le_refl _) (Nat.le_succ _)⟩, HF7.out.trans' hf8 (fun i hi e => ?_), fun x hx => (HSS.out x hx).imp id Nat.le_of_lt⟩
            rw [e] at hi ⊢
            rcases HSS.out _ HE7.out.sm with h | h
            · exact h
            · omega)
          clear hfm8 hg8 hf8 FMV
          go_wp2
          go_ret
          exact ⟨rfl, HO.out⟩
        | false =>
          have hne3 : lv3.ownBlock ≠ some e2 := fun h => by have h1 := HE7.out.cb e2 h; rw [HE7.out.ce] at h1; cases h1
          have CW := Lib.hid (wait_any wc e2 m2 n3 0 lv3 hv ln txn md HE7.out.box FMV (by have := HE7.out.ln; rw [HHV.out.2] at this; exact this) (Nat.zero_le _) hne3 (by have := HE7.out.hl; rw [HHV.out.2] at this; have := HL.out; omega) HTX.out (by have := HE7.out.ok; rw [HHV.out.2] at this; exact this))
          clear FMV hne3
          go_wp2_with fail
          (with_reducible refine CW.out.mono ?_)
          rintro er w8 ⟨rfl, lv8, hb8, hl8, hf8, ho8⟩
          obtain ⟨col8, h8⟩ := HT7.out.line HKE.out (HE7.out.fr (R := fun _ => False) (Fr.refl _ _) (fun _ _ _ => id) (fun _ _ => rfl) (fun _ => id) (Nat.le_succ _) (Nat.le_refl _)) hf8 hb8 hl8 ho8 (by rw [insP_len]; have := HE7.out.hl; rw [HHV.out.2] at this; omega) (fun x hx => by
            rcases insP_mem.1 hx with h | h
            · rw [h]; exact HTX.out
            · exact HE7.out.ok x (by rw [HHV.out.2]; exact h))
          rw [set_set, HHV.out.1] at h8
          have HT8 := Lib.hid h8
          have HF8 := Lib.hid (show Fr S w w8 from HF7.out.trans' hf8 (fun i hi hx => by
            have h3 : S3 i := by
              rcases hx with h | h
              · exact HE7.out.sb i h
              · rw [h]; exact HE7.out.se
            rcases HSS.out i h3 with h | h
            · exact h
            · omega))
          have HX8 := Lib.hid (show Box w8 x6 #[.int .u8 k.k, .int .u32 k.a, .int .u32 k.b] 31 from HX7.out.fr hf8 (fun hx => by
            have h3 : S3 x6 := by
              rcases hx with h | h
              · exact HE7.out.sb _ h
              · rw [h]; exact HE7.out.se
            rcases HSS.out _ h3 with h | h
            · have := HOLD.out _ h; omega
            · have := HWS.out; omega))
          have HFZ7 := Lib.hid HF7.out.size
          have HNW := Lib.hid HNW0.out
          clear hb8 hl8 hf8 ho8 h8 HT7 HE7 HF7 HX7 HP7 p70 p71 e70
          have HSN := Lib.hid (show ∀ x, S3 x → S x ∨ w.heap.size ≤ x from fun x hx => (HSS.out x hx).imp id Nat.le_of_lt)
          have HWC := Lib.hid (show w.heap.size ≤ wc.heap.size from HFZ7.out)
          go_upto_region 18 with fail
          have hn9 : nw + 1 ≤ N + 1 := Nat.succ_le_succ HNW.out
          obtain ⟨w9, hrun9, hfm9, hg9⟩ := (HT8.out.fw.drew).put Try.underlying57 (by have := HNW.out; have := HN.out; unfold maxLen; omega) txn (ku_ok.2 HTX.out) (hdOf k md)
          replace hrun9 : (Instr.mapUpdate 57 (.map (some mw)) (.int .u32 txn) (.agg #[.int .u8 k.k, .int .u32 k.a, .int .u32 k.b, .int .u8 md])).run Try.prog w8.drew = .ok () w9 := hrun9
          have hf9 : Fr (fun x => x = mw) w8 w9 := ((Fr.refl _ w8).drew).grown hg9 (fun g hg => by injection hg with hg; exact .inl hg.symm)
          have HO := Lib.hid (show AskOut w w9 S (N + 1) (L + 1) t ((T.set k ⟨hv, insP hv ⟨txn, md⟩ ln⟩).wait txn (hdOf k md)) from
            ⟨_, ⟨_, _, _, _, _, _, HT8.out.wts hf9 hn9 hfm9⟩, HF8.out.trans' hf9 (fun i hi e => by
              rcases HT8.out.sw with h | h
              · rw [e]
                rcases HSN.out _ h with h | h
                · exact h
                · omega
              · have := HWC.out; omega), fun x hx => by
              rcases hx with h | h
              · exact HSN.out x h
              · right; have := HWC.out; omega⟩)
          have c40 : w8.cell? ⟨t, 1, none⟩ = some (.map (some mw)) := by rw [HT8.out.box.cell 1]; rfl
          have c60 : w8.cell? ⟨x6, 0, none⟩ = some (.int .u8 k.k) := by rw [HX8.out.cell 0]; rfl
          have c61 : w8.cell? ⟨x6, 1, none⟩ = some (.int .u32 k.a) := by rw [HX8.out.cell 1]; rfl
          have c62 : w8.cell? ⟨x6, 2, none⟩ = some (.int .u32 k.b) := by rw [HX8.out.cell 2]; rfl
          clear hfm9 hg9 hf9 hn9
          go_region
          go_wp2
          go_ret
          exact ⟨rfl, HO.out⟩
end Go.Proofs.Ytpndcpmfcajmdaa.Lock
namespace Go.Proofs.Ytpndcpmfcajmdaa.Lock
open Go.ChangeShapes Go.WideShapes Go.ChangeAt Go.RowKit Go.IntWalk Go.Proofs.Mem Law Go.Shelf Go.Proofs.Each
set_option linter.unusedVariables false
set_option linter.unusedSimpArgs false
def T0 : Tb := ⟨fun _ => En.none, fun _ => none⟩
theorem new_tab (w : World) : Calls Try.prog 10 #[] w fun r w' => ∃ t S, r = .returned (.pointer (some ⟨t, 0, none⟩)) ∧ TabAt w' S 0 0 t T0 ∧ (∀ x, S x → w.heap.size ≤ x) ∧ Below w.heap.size w w' := by
  refine (new_any w).mono ?_
  rintro r w' ⟨t, mk, mw, rfl, h1, h2, h3, h4, h5, h6, hb, f1, f2, hbl⟩
  refine ⟨t, fun x => x = t ∨ x = mk ∨ x = mw, rfl, ⟨fun _ => none, mk, mw, 0, 0, fun _ => none, hb, f1, f2, Nat.le_refl _, Nat.le_refl _, h4, .inl rfl, .inr (.inl rfl), .inr (.inr rfl), ?_, rfl, rfl, rfl, fun _ => rfl⟩, ?_, hbl⟩
  · rintro x (rfl | rfl | rfl)
    · exact hb.lt
    · exact f1.lt
    · exact f2.lt
  · rintro x (rfl | rfl | rfl)
    · exact h1
    · exact h2
    · exact h3
def zHd : Hd := ⟨0, 0, 0, 0⟩
set_option maxRecDepth 100000 in
set_option maxHeartbeats 8000000 in
theorem waits_any (w : World) (S : Nat → Prop) (N L t : Nat) (T : Tb) (txn : Int) (h : TabAt w S N L t T) (ht : U32 txn) :
    Calls Try.prog 20 #[.pointer (some ⟨t, 0, none⟩), .int .u32 txn] w fun e w' => e = .returned (.tuple #[((T.wt txn).getD zHd).v, .bool (T.wt txn).isSome]) ∧ Below w.heap.size w w' := by
  obtain ⟨col, mk, mw, nk, nw, K, h⟩ := h
  obtain ⟨hd, hhd⟩ : ∃ hd, (T.wt txn).getD zHd = hd := ⟨_, rfl⟩
  obtain ⟨q, hq⟩ : ∃ q, (T.wt txn).isSome = q := ⟨_, rfl⟩
  have b1 := new_ (Below.refl w.heap.size w) (.cells #[.int .u8 0, .int .u32 0, .int .u32 0, .int .u8 0] 45)
  have h1 := h.later b1
  have X4 := Box.new w #[.int .u8 0, .int .u32 0, .int .u32 0, .int .u8 0] 45
  obtain ⟨x4, hx4⟩ : ∃ x, w.heap.size = x := ⟨_, rfl⟩
  have s1 : (w.alloc (.cells #[.int .u8 0, .int .u32 0, .int .u32 0, .int .u8 0] 45)).heap.size = x4 + 1 := by rw [← hx4]; simp
  rw [hx4] at X4 b1 ⊢
  obtain ⟨w1, hw1⟩ : ∃ w1, w.alloc (.cells #[.int .u8 0, .int .u32 0, .int .u32 0, .int .u8 0] 45) = w1 := ⟨_, rfl⟩
  rw [hw1] at b1 h1 X4 s1
  have lkW : (Instr.lookup 57 (.map (some mw)) (.int .u32 txn) true).run Try.prog w1 = .ok (.tuple #[.agg #[.int .u8 hd.k, .int .u32 hd.a, .int .u32 hd.b, .int .u8 hd.m], .bool q]) w1 := by
    have := (h1.fw.look (t := 57) Try.underlying57 zHd (zeroH w1) txn (ku_ok.2 ht)).2
    rw [hq, hhd] at this
    exact this
  have k1 : w1.cell? ⟨t, 1, none⟩ = some (.map (some mw)) := by rw [h1.box.cell 1]; rfl
  rw [hhd, hq]
  have HB := Lib.hid b1
  have HX := Lib.hid X4
  have b2 := new_ (Below.refl w1.heap.size w1) (.cells #[.int .u8 hd.k, .int .u32 hd.a, .int .u32 hd.b, .int .u8 hd.m] 45)
  have X6 := Box.new w1 #[.int .u8 hd.k, .int .u32 hd.a, .int .u32 hd.b, .int .u8 hd.m] 45
  have X42 := X4.later b2
  rw [s1] at X6
  obtain ⟨w2, hw2⟩ : ∃ w2, w1.alloc (.cells #[.int .u8 hd.k, .int .u32 hd.a, .int .u32 hd.b, .int .u8 hd.m] 45) = w2 := ⟨_, rfl⟩
  rw [hw2] at b2 X6 X42
  have c6 := X6.cell
  have c4 := X42.cell
  have f4 := X42.frozen
  have B2 := Lib.hid (show Below x4 w w2 from b1.trans (b2.mono (by omega)))
  clear h h1 b1 X4 b2 X6 hhd hq
  go_enter Try.func20, Try.ntmps20
  go_wp2
  have Y := Box.set_ (Box.set_ (Box.set_ (Box.set_ X42 0 (.int .u8 hd.k)) 1 (.int .u32 hd.a)) 2 (.int .u32 hd.b)) 3 (.int .u8 hd.m)
  have BY := (((B2.out.setCell (p := ⟨x4, 0, none⟩) (Nat.le_refl _) (.int .u8 hd.k)).setCell (p := ⟨x4, 1, none⟩) (Nat.le_refl _) (.int .u32 hd.a)).setCell (p := ⟨x4, 2, none⟩) (Nat.le_refl _) (.int .u32 hd.b)).setCell (p := ⟨x4, 3, none⟩) (Nat.le_refl _) (.int .u8 hd.m)
  generalize ((((w2.setCell ⟨x4, 0, none⟩ (.int .u8 hd.k)).setCell ⟨x4, 1, none⟩ (.int .u32 hd.a)).setCell ⟨x4, 2, none⟩ (.int .u32 hd.b)).setCell ⟨x4, 3, none⟩ (.int .u8 hd.m)) = w3 at Y BY ⊢
  have y0 : w3.cell? ⟨x4, 0, none⟩ = some (.int .u8 hd.k) := by rw [Y.cell 0]; rfl
  have y1 : w3.cell? ⟨x4, 1, none⟩ = some (.int .u32 hd.a) := by rw [Y.cell 1]; rfl
  have y2 : w3.cell? ⟨x4, 2, none⟩ = some (.int .u32 hd.b) := by rw [Y.cell 2]; rfl
  have y3 : w3.cell? ⟨x4, 3, none⟩ = some (.int .u8 hd.m) := by rw [Y.cell 3]; rfl
  refine bodyPost_ret (v := .tuple #[.agg #[.int .u8 hd.k, .int .u32 hd.a, .int .u32 hd.b, .int .u8 hd.m], .bool q]) (by simp [results, Try.results20, go_sem, y0, y1, y2, y3]) rfl ⟨rfl, BY⟩
def cHd (x : Hd) : List Value := [.int .u8 x.k, .int .u32 x.a, .int .u32 x.b, .int .u8 x.m]
theorem cHd_len (x : Hd) : (cHd x).length = 4 := rfl
theorem cHd_one (y : Hd) : ∀ u ∈ cHd y, u.oneCell' = true := by
  intro u hu
  simp [cHd] at hu
  rcases hu with rfl | rfl | rfl | rfl <;> rfl
theorem hd_info : (Try.prog.info? 45).map (fun i => (i.zero, i.size, i.bytes)) = some (some (.agg #[.int .u8 0, .int .u32 0, .int .u32 0, .int .u8 0]), 4, 16) := by kernel_rfl
def hlist (T : Tb) (t : Int) (ks : List Ky) : List Hd := ks.filterMap fun k => ((T.ent k).hv t).map (hdOf k)
theorem hlist_take {T : Tb} {t : Int} {ks : List Ky} {i : Nat} {k : Ky} (h : ks[i]? = some k) : hlist T t (ks.take (i + 1)) = hlist T t (ks.take i) ++ (((T.ent k).hv t).map (hdOf k)).toList := by
  unfold hlist
  rw [List.take_add_one, h, List.filterMap_append]
  cases hh : (T.ent k).hv t <;> simp [hh]
theorem hlist_len (T : Tb) (t : Int) (ks : List Ky) : (hlist T t ks).length ≤ ks.length := List.length_filterMap_le _ _
set_option maxRecDepth 100000 in
set_option maxHeartbeats 16000000 in
theorem tholds_any (w : World) (S : Nat → Prop) (N L t : Nat) (T : Tb) (txn : Int) (h : TabAt w S N L t T) (ht : U32 txn) (hN : N ≤ 50000) :
    Calls Try.prog 17 #[.pointer (some ⟨t, 0, none⟩), .int .u32 txn] w fun e w' => ∃ v ks, e = .returned v ∧ OfL T txn ks ∧ w'.ownsRow w.heap.size 45 4 v (hlist T txn ks).length ((hlist T txn ks).flatMap cHd) ∧ Below w.heap.size w w' := by
  obtain ⟨j0, hj0, hj1, hj2, hj3⟩ := info_parts hd_info
  have COF := Lib.hid (of_any w S N L t T txn h ht hN)
  obtain ⟨col, mk, mw, nk, nw, K, h⟩ := h
  have HT := Lib.hid h
  have HTX := Lib.hid ht
  have HN := Lib.hid hN
  clear h ht hN
  go_enter Try.func17, Try.ntmps17
  go_wp2_with (go_at_call 33; (with_reducible refine COF.out.mono ?_); rintro er w3 ⟨vk, ks, rfl, hss, hof, hkn, hvb, hb3⟩; obtain ⟨Ak, ck, hvk, hck1, hck2⟩ := hss.form; have HSS := Lib.hid hss; have HOF := Lib.hid hof; have HB3 := Lib.hid hb3; have HKN := Lib.hid hkn; have hk63 : (ks.length : Int) ≤ 9223372036854775807 := (by unfold maxLen at hck2; omega); clear hss hof hvb hb3 hkn hck1 hck2; subst hvk)
  have HT3 := Lib.hid (HT.out.later HB3.out)
  obtain ⟨NK, hNK⟩ : ∃ NK, ks.length = NK := ⟨_, rfl⟩
  rw [hNK] at HSS HKN hk63 ⊢
  have HNK := Lib.hid hNK
  clear hNK COF HT
  go_loopw [5, 7, 8, 9, 14] (fun s5 _ _ _ s14 wr => ∃ (i : Nat) (A : Option Addr) (n c : Nat) (hs : List Hd), s5 = .slice A n c ∧ s14 = .int .i64 i ∧ i ≤ NK ∧ Hid (n = hs.length) ∧ Hid (hs = hlist T txn (ks.take i)) ∧ Hid (wr.ownsRow w3.heap.size 45 4 (.slice A n c) hs.length (hs.flatMap cHd)) ∧ Hid (Below w3.heap.size w3 wr)) (fun _ _ _ _ s14 _ => NK - (intOf s14).toNat)
  case atStart => exact ⟨0, none, 0, 0, [], rfl, rfl, Nat.zero_le _, Lib.hid rfl, Lib.hid rfl, Lib.hid (World.ownsRow_nil _ _ _ _), Lib.hid (Below.refl _ _)⟩
  case round =>
    obtain ⟨i, A, n5, c5, hs, rfl, rfl, hi, HN5, HR, HO, HB⟩ := hrel
    obtain ⟨w4, rfl⟩ : ∃ w4, w4 = wr := ⟨wr, rfl⟩
    by_cases hil : i < NK
    · have d1 : decide ((i : Int) < (NK : Int)) = true := by simp; omega
      have d1' : decide (i < NK) = true := by simp; omega
      obtain ⟨k, hk⟩ : ∃ k, ks[i]? = some k := ⟨_, List.getElem?_eq_getElem (by have := HNK.out; omega)⟩
      obtain ⟨bk, ok, hAk, hbk, hcell⟩ := HSS.out.at_ hk
      have r0 : w4.cell? ⟨bk, ok + i * 3, none⟩ = some (.int .u8 k.k) := (HB.out.cell (p := ⟨bk, ok + i * 3, none⟩) hbk).trans (hcell 0 _ rfl)
      have r1 : w4.cell? ⟨bk, ok + i * 3 + 1, none⟩ = some (.int .u32 k.a) := (HB.out.cell (p := ⟨bk, ok + i * 3 + 1, none⟩) hbk).trans (hcell 1 _ rfl)
      have r2 : w4.cell? ⟨bk, ok + i * 3 + 2, none⟩ = some (.int .u32 k.b) := (HB.out.cell (p := ⟨bk, ok + i * 3 + 2, none⟩) hbk).trans (hcell 2 _ rfl)
      obtain ⟨b0, hb0⟩ := HT3.out.has_ ((HOF.out.mem k).1 (List.mem_of_getElem? hk))
      have hb5 := new_ (Below.refl w4.heap.size w4) (.cells #[.int .u8 k.k, .int .u32 k.a, .int .u32 k.b] 81)
      have HT5 := Lib.hid ((HT3.out.later HB.out).later hb5)
      obtain ⟨e, m, n, lv, rfl, hE⟩ := HT5.out.is hb0
      have HO5 := Lib.hid (own_below HO.out hb5)
      have HB5 := Lib.hid (HB.out.trans (hb5.mono HB.out.size))
      have HX7 := Lib.hid (Box.new w4 #[.int .u8 k.k, .int .u32 k.a, .int .u32 k.b] 81)
      have HTK := Lib.hid (hlist_take (T := T) (t := txn) hk)
      subst hAk
      go_upto_region 5 with fail
      obtain ⟨x7, hx7⟩ : ∃ x7, w4.heap.size = x7 := ⟨_, rfl⟩
      obtain ⟨w5, hw5⟩ : ∃ w5, w4.alloc (.cells #[.int .u8 k.k, .int .u32 k.a, .int .u32 k.b] 81) = w5 := ⟨_, rfl⟩
      rw [hw5] at HT5 HO5 HB5 HX7 hE
      rw [hx7] at HX7
      rw [hx7, hw5]
      obtain ⟨hm, hhm⟩ : ∃ hm, ((T.ent k).hv txn).getD 0 = hm := ⟨_, rfl⟩
      obtain ⟨q, hq⟩ : ∃ q, ((T.ent k).hv txn).isSome = q := ⟨_, rfl⟩
      have c50 : w5.cell? ⟨t, 0, none⟩ = some (.map (some mk)) := by rw [HT5.out.box.cell 0]; rfl
      have c60 : w5.cell? ⟨e, 0, none⟩ = some (.map (some m)) := by rw [hE.box.cell 0]; rfl
      have c70 : w5.cell? ⟨x7, 0, none⟩ = some (.int .u8 k.k) := by rw [HX7.out.cell 0]; rfl
      have c71 : w5.cell? ⟨x7, 1, none⟩ = some (.int .u32 k.a) := by rw [HX7.out.cell 1]; rfl
      have c72 : w5.cell? ⟨x7, 2, none⟩ = some (.int .u32 k.b) := by rw [HX7.out.cell 2]; rfl
      have lk : ∀ d, (Instr.lookup 56 (.map (some mk)) (.agg #[.int .u8 k.k, .int .u32 k.a, .int .u32 k.b]) false).run Try.prog (w5.drewN d) = .ok (.pointer (some ⟨e, 0, none⟩)) (w5.drewN d) := fun d => by
        have h1 := ((HT5.out.fk.drewN d).look Try.underlying56 none (zeroP _) k (FMok HT5.out.fk hb0)).1
        rw [hb0] at h1
        exact h1
      have lkH : ∀ d, (Instr.lookup 83 (.map (some m)) (.int .u32 txn) true).run Try.prog (w5.drewN d) = .ok (.tuple #[.int .u8 hm, .bool q]) (w5.drewN d) := fun d => by
        have h1 := ((hE.fm.drewN d).look (t := 83) Try.underlying83 0 (zeroM _) txn (ku_ok.2 HTX.out)).2
        rw [hhm, hq] at h1
        exact h1
      have HQ := Lib.hid (⟨hhm, hq⟩ : ((T.ent k).hv txn).getD 0 = hm ∧ ((T.ent k).hv txn).isSome = q)
      clear hk hcell hbk r0 r1 r2 hb0 hb5 hE hw5 hhm hq HT5 HO HB
      go_quiet (fail)
      have bq : Below w5.heap.size w5 (w5.drewN nq) := below_drewN (Below.refl _ _) nq
      have HO6 := Lib.hid (own_below HO5.out bq)
      have HB6 := Lib.hid (HB5.out.trans (bq.mono HB5.out.size))
      have HX76 := Lib.hid (HX7.out.later bq)
      clear bq HO5 HB5 HX7 c50 c60 c70 c71 c72 lk lkH hx7
      obtain ⟨w6, hw6⟩ : ∃ w6, w5.drewN nq = w6 := ⟨_, rfl⟩
      rw [hw6] at HO6 HB6 HX76 ⊢
      clear hw6
      have c70 : w6.cell? ⟨x7, 0, none⟩ = some (.int .u8 k.k) := by rw [HX76.out.cell 0]; rfl
      have c71 : w6.cell? ⟨x7, 1, none⟩ = some (.int .u32 k.a) := by rw [HX76.out.cell 1]; rfl
      have c72 : w6.cell? ⟨x7, 2, none⟩ = some (.int .u32 k.b) := by rw [HX76.out.cell 2]; rfl
      have HL := Lib.hid (show hs.length ≤ i by rw [HR.out]; exact Nat.le_trans (hlist_len _ _ _) (by rw [List.length_take]; omega))
      cases q with
      | true =>
        have HNX := Lib.hid (show hs ++ [⟨k.k, k.a, k.b, hm⟩] = hlist T txn (ks.take (i + 1)) by
          rw [HTK.out, HR.out]
          have h1 := HQ.out
          cases hh : (T.ent k).hv txn with
          | none => rw [hh] at h1; cases h1.2
          | some z => rw [hh] at h1; have : z = hm := h1.1; rw [this]; rfl)
        go_wp2_with (at_builtin; refine wpList_push_ss (F := cHd) (sz := 4) _ rfl _ _ _ rfl w3.heap.size 45 j0 _ 16 Try.underlying41 hj0 hj1 hj2 hj3 rfl (by decide) cHd_len cHd_one _ hs rfl (own_below HO6.out (new_ (Below.refl _ _) (.cells #[.int .u8 k.k, .int .u32 k.a, .int .u32 k.b, .int .u8 hm] 45))) w6.heap.size ⟨k.k, k.a, k.b, hm⟩ 45 rfl (Box.new w6 _ _) (by have := HL.out; have := HKN.out; have := HN.out; unfold maxLen; omega) (by have := HL.out; have := HKN.out; have := HN.out; omega) (by have := HB6.out.size; simp; omega) ?_; intro v9 w9 hown ht9)
        have tt := (RowTo.of_below (new_ (Below.refl w6.heap.size w6) (.cells #[.int .u8 k.k, .int .u32 k.a, .int .u32 k.b, .int .u8 hm] 45)) (.slice A n5 c5)).trans ht9
        obtain ⟨A9, n9, c9, rfl⟩ : ∃ A n c, v9 = .slice A n c := by
          rcases hown.2 with ⟨rfl, _⟩ | ⟨g', cap, cur, rfl, _⟩
          · exact ⟨_, _, _, rfl⟩
          · exact ⟨_, _, _, rfl⟩
        have hn9 : n9 = (hs ++ [(⟨k.k, k.a, k.b, hm⟩ : Hd)]).length := by
          rcases hown.2 with ⟨_, e2⟩ | ⟨g', cap, cur, e1, _⟩
          · simp at e2
          · injection e1 with _ e2 _
        have HB9 := Lib.hid (HB6.out.trans (tt.below (fun b hb => (HO6.out.lt b hb).1) HB6.out.size))
        have HO9 := Lib.hid hown
        have HN9 := Lib.hid hn9
        clear hown ht9 tt hn9
        go_wp2
        go_roundw
        case rel => exact ⟨i + 1, A9, n9, c9, _, rfl, by go_num, by omega, HN9, HNX, HO9, HB9⟩
        case measure => simp [intOf]; omega
      | false =>
        have HNX := Lib.hid (show hs = hlist T txn (ks.take (i + 1)) by
          rw [HTK.out, HR.out]
          have h1 := HQ.out
          cases hh : (T.ent k).hv txn with
          | none => simp
          | some z => rw [hh] at h1; cases h1.2)
        go_wp2
        go_roundw
        case rel => exact ⟨i + 1, A, n5, c5, hs, rfl, by go_num, by omega, HN5, HNX, HO6, HB6⟩
        case measure => simp [intOf]; omega
    · have hiN : i = NK := by omega
      have d1 : decide ((i : Int) < (NK : Int)) = false := by simp; omega
      have d1' : decide (i < NK) = false := by simp; omega
      have HRR := Lib.hid (show hs = hlist T txn ks by have := HR.out; rw [hiN, ← HNK.out, List.take_length] at this; exact this)
      clear hiN
      go_wp2
      go_ret
      refine ⟨_, ks, rfl, HOF.out, ?_, HB3.out.trans (HB.out.mono HB3.out.size)⟩
      have h1 := own_lower HO.out HB3.out.size
      rw [HRR.out] at h1
      exact h1
end Go.Proofs.Ytpndcpmfcajmdaa.Lock
namespace Go.Proofs.Ytpndcpmfcajmdaa.Lock
open Go.ChangeShapes Go.WideShapes Go.ChangeAt Go.RowKit Go.IntWalk Go.Proofs.Mem Law Go.Shelf Go.Proofs.Each
set_option linter.unusedVariables false
set_option linter.unusedSimpArgs false
noncomputable def wake : (Int → Option Int) → List Pl → (Int → Option Int) × List Pl × List Int
  | h, [] => (h, [], [])
  | h, p :: l => if fit h p.t p.m = true then ((wake (fput h p.t p.m) l).1, (wake (fput h p.t p.m) l).2.1, p.t :: (wake (fput h p.t p.m) l).2.2) else (h, p :: l, [])
theorem wake_yes {h : Int → Option Int} {p : Pl} {l : List Pl} (hf : fit h p.t p.m = true) : wake h (p :: l) = ((wake (fput h p.t p.m) l).1, (wake (fput h p.t p.m) l).2.1, p.t :: (wake (fput h p.t p.m) l).2.2) := by
  rw [wake, if_pos hf]
theorem wake_no {h : Int → Option Int} {p : Pl} {l : List Pl} (hf : fit h p.t p.m = false) : wake h (p :: l) = (h, p :: l, []) := by
  rw [wake, if_neg (by rw [hf]; decide)]
theorem wake_nil (h : Int → Option Int) : wake h [] = (h, [], []) := by rw [wake]
def En.cut (e : En) (t : Int) : En := ⟨fdel e.hv t, e.line.filter fun x => !isT t x⟩
noncomputable def En.rel (e : En) (t : Int) : En × List Int := (⟨(wake (e.cut t).hv (e.cut t).line).1, (wake (e.cut t).hv (e.cut t).line).2.1⟩, (wake (e.cut t).hv (e.cut t).line).2.2)
def stopAll (f : Int → Option Hd) (g : List Int) : Int → Option Hd := fun x => if x ∈ g then none else f x
theorem stopAll_nil (f : Int → Option Hd) : stopAll f [] = f := by funext x; simp [stopAll]
theorem stopAll_snoc (f : Int → Option Hd) (g : List Int) (x : Int) : stopAll f (g ++ [x]) = fdel (stopAll f g) x := by
  funext y
  unfold stopAll fdel
  by_cases h : y = x <;> simp [h]
noncomputable def relOne (t : Int) (s : Tb × List Int) (k : Ky) : Tb × List Int := (⟨(s.1.set k ((s.1.ent k).rel t).1).ent, stopAll s.1.wt ((s.1.ent k).rel t).2⟩, s.2 ++ ((s.1.ent k).rel t).2)
noncomputable def relAll (T : Tb) (t : Int) (ks : List Ky) : Tb × List Int := ks.foldl (relOne t) (T, [])
theorem relAll_take {T : Tb} {t : Int} {ks : List Ky} {i : Nat} {k : Ky} (h : ks[i]? = some k) : relAll T t (ks.take (i + 1)) = relOne t (relAll T t (ks.take i)) k := by
  unfold relAll
  rw [List.take_add_one, h, List.foldl_append]
  rfl
theorem FM.len_ {P : Program} {K t e : TypeId} {α β : Type} {R : Value → Option (DataW Unit × List MemPlace)} {E : KE P K α} {V : EE R β} {w : World} {m n : Nat} {f : α → Option β} (h : FM E V w m n f) (ht : P.underlying t = some (.map K e)) :
    ∃ c : Nat, c ≤ n ∧ (∀ ty, (Builtin.len_ #[t] ty #[.map (some m)]).run P w = .ok (.int .i64 (c : Nat)) w) ∧ (c = 0 → f = fun _ => none) := by
  obtain ⟨D, h1, h2, h3⟩ := h
  refine ⟨Maps.size D, h1.size_le, fun ty => h1.len ht ty, fun hc => ?_⟩
  funext x
  by_cases hx : E.ok x
  · have h4 := (h2 x hx).2
    obtain ⟨es, rfl⟩ := h1.isMap
    have : es = [] := List.eq_nil_of_length_eq_zero hc
    subst this
    cases e : f x with
    | none => rfl
    | some y => rw [e] at h4; cases h4
  · exact h3 x hx
section
variable {col : Nat → Option (Ky × Nat)} {w w' : World} {S R : Nat → Prop} {N N' L t : Nat} {k : Ky} {T : Tb} {mk mw nk nw : Nat} {K : Ky → Option (Option Nat)} {e m n n' : Nat} {lv lv' : Value} {en en' : En}
theorem TabW.ent_ (h : TabW w S N L t T col mk mw nk nw K) (hK : K k = some (some e)) (hE : EntAt col w S N L k e m n lv en) (hf : Fr R w w') (hR : ∀ x, R x → x = m ∨ x = e ∨ lv.ownBlock = some x) (hE' : EntAt col w' S N' L k e m n' lv' en') (hN : N ≤ N') :
    TabW w' S N' L t (T.set k en') col mk mw nk nw K := by
  have hRc : ∀ x, R x → ∃ i, col x = some (k, i) := fun x hx => by
    rcases hR x hx with e1 | e1 | e1
    · rw [e1]; exact ⟨1, hE.cm⟩
    · rw [e1]; exact ⟨0, hE.ce⟩
    · exact ⟨2, hE.cb x e1⟩
  refine TabW.upd (k := k) h hf (fun x _ hx => .inr (.inr (hRc x hx))) (h.fk.fr hf (fun hx => ?_)) (h.fw.fr hf (fun hx => ?_)) (Nat.le_trans h.hk hN) (Nat.le_trans h.hw hN) (fun _ _ => rfl) (fun _ => id) (fun x hx => Nat.lt_of_lt_of_le (h.old x hx) hf.size) hN (Nat.le_refl _) (fun _ _ => rfl) (fun y hy => set_other _ _ hy) ?_
  · obtain ⟨i, hi⟩ := hRc _ hx; rw [h.ck] at hi; cases hi
  · obtain ⟨i, hi⟩ := hRc _ hx; rw [h.cw] at hi; cases hi
  · rw [hK, set_same]; exact ⟨m, n', lv', hE'⟩
theorem TabW.out (h : TabW w S N L t T col mk mw nk nw K) (hf : Fr (fun x => x = mk) w w') (hfm : FM KK ptrEE w' mk nk (fdel K k)) (he : T.ent k = En.none) : TabW w' S N L t T col mk mw nk nw (fdel K k) := by
  refine TabW.upd (k := k) h hf (fun x _ hx => .inl hx) hfm (h.fw.fr hf (fun e => h.ne e.symm)) h.hk h.hw (fun _ _ => rfl) (fun _ => id) (fun x hx => Nat.lt_of_lt_of_le (h.old x hx) hf.size) (Nat.le_refl _) (Nat.le_refl _) (fun y hy => fdel_other _ hy) (fun _ _ => rfl) ?_
  rw [fdel_same]; exact he
theorem TabW.key (h : TabW w S N L t T col mk mw nk nw K) (hK : K k = some (some e)) : ∃ m n lv, EntAt col w S N L k e m n lv (T.ent k) := by
  obtain ⟨e', m, n, lv, he, hE⟩ := h.is hK
  injection he with he
  subst he
  exact ⟨m, n, lv, hE⟩
end
end Go.Proofs.Ytpndcpmfcajmdaa.Lock
