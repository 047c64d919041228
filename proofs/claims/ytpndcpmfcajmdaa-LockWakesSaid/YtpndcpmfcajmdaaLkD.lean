import Derived.Test.YtpndcpmfcajmdaaLkC0
/- Tables of locks: as they are meant, and as they lie. -/
namespace Go.Proofs.Ytpndcpmfcajmdaa.Lock
open Go.ChangeShapes Go.WideShapes Go.ChangeAt Go.RowKit Go.IntWalk Go.Proofs.Mem Law
set_option linter.unusedVariables false
set_option linter.unusedSimpArgs false
instance : DecidableEq Ky := fun x y =>
  if h : x.k = y.k ∧ x.a = y.a ∧ x.b = y.b then .isTrue (by obtain ⟨a, b, c⟩ := x; obtain ⟨a', b', c'⟩ := y; simp only at h; obtain ⟨rfl, rfl, rfl⟩ := h; rfl)
  else .isFalse (fun e => h (by rw [e]; exact ⟨rfl, rfl, rfl⟩))
/-- who holds a key, who waits for it -/
structure En where
  hv : Int → Option Int
  line : List Pl
structure Tb where
  ent : Ky → En
  wt : Int → Option Hd
def En.none : En := ⟨fun _ => Option.none, []⟩
def hdOf (k : Ky) (m : Int) : Hd := ⟨k.k, k.a, k.b, m⟩
def mdOf (m : Int) : Int := if m = 1 then 1 else 2
def Tb.at_ (T : Tb) (k : Ky) : En := T.ent k
def Tb.set (T : Tb) (k : Ky) (e : En) : Tb := ⟨fun y => if y = k then e else T.ent y, T.wt⟩
theorem set_same (T : Tb) (k : Ky) (e : En) : (T.set k e).ent k = e := if_pos rfl
theorem set_other (T : Tb) {k y : Ky} (e : En) (h : y ≠ k) : (T.set k e).ent y = T.ent y := if_neg h
theorem set_self (T : Tb) (k : Ky) : T.set k (T.at_ k) = T := by
  cases T with
  | mk ent wt =>
    unfold Tb.set Tb.at_
    simp only [Tb.mk.injEq, and_true]
    funext y
    split
    · rename_i h; rw [h]
    · rfl
def Tb.stop (T : Tb) (t : Int) : Tb := ⟨T.ent, fdel T.wt t⟩
def Tb.wait (T : Tb) (t : Int) (h : Hd) : Tb := ⟨T.ent, fput T.wt t h⟩
/-- is that held enough? -/
def hasE (h : Option Int) (md : Int) : Bool := match h with
  | some x => decide (x = 2) || decide (x = md)
  | none => false
noncomputable def askB (T : Tb) (t : Int) (k : Ky) (m : Int) : Bool :=
  if hasE ((T.at_ k).hv t) (mdOf m) then true else if (T.wt t).isSome then false else fit (T.at_ k).hv t (mdOf m) && (((T.at_ k).hv t).isSome || (T.at_ k).line.isEmpty)
noncomputable def askT (T : Tb) (t : Int) (k : Ky) (m : Int) : Tb :=
  if hasE ((T.at_ k).hv t) (mdOf m) then T else if (T.wt t).isSome then T
  else if fit (T.at_ k).hv t (mdOf m) && (((T.at_ k).hv t).isSome || (T.at_ k).line.isEmpty) then T.set k ⟨fput (T.at_ k).hv t (mdOf m), (T.at_ k).line⟩
  else (T.set k ⟨(T.at_ k).hv, insP (T.at_ k).hv ⟨t, mdOf m⟩ (T.at_ k).line⟩).wait t (hdOf k (mdOf m))
/-- does it hold the key, or wait for it? -/
def En.has (e : En) (t : Int) : Bool := (e.hv t).isSome || e.line.any (isT t)
def Tb.has (T : Tb) (k : Ky) (t : Int) : Bool := (T.ent k).has t
theorem none_has (t : Int) : En.none.has t = false := rfl
/-- an entry as it lies: its blocks are those of colour k -/
structure EntAt (col : Nat → Option (Ky × Nat)) (w : World) (S : Nat → Prop) (N L : Nat) (k : Ky) (e m n : Nat) (lv : Value) (en : En) : Prop where
  box : Box w e #[.map (some m), lv] 86
  fm : FM KU VM w m n en.hv
  hn : n ≤ N
  ln : LnAt w 0 lv en.line
  hl : en.line.length ≤ L
  ok : ∀ x ∈ en.line, U32 x.t
  se : S e
  sm : S m
  sb : ∀ b, lv.ownBlock = some b → S b
  ce : col e = some (k, 0)
  cm : col m = some (k, 1)
  cb : ∀ b, lv.ownBlock = some b → col b = some (k, 2)
def OneAt (col : Nat → Option (Ky × Nat)) (w : World) (S : Nat → Prop) (N L : Nat) (k : Ky) (en : En) : Option (Option Nat) → Prop
  | none => en = En.none
  | some (some e) => ∃ m n lv, EntAt col w S N L k e m n lv en
  | _ => False
/-- a table as it lies -/
structure TabW (w : World) (S : Nat → Prop) (N L : Nat) (t : Nat) (T : Tb) (col : Nat → Option (Ky × Nat)) (mk mw nk nw : Nat) (K : Ky → Option (Option Nat)) : Prop where
  box : Box w t #[.map (some mk), .map (some mw)] 59
  fk : FM KK ptrEE w mk nk K
  fw : FM KU hdEE w mw nw T.wt
  hk : nk ≤ N
  hw : nw ≤ N
  ne : mk ≠ mw
  st : S t
  sk : S mk
  sw : S mw
  old : ∀ x, S x → x < w.heap.size
  ct : col t = none
  ck : col mk = none
  cw : col mw = none
  ents : ∀ k, OneAt col w S N L k (T.ent k) (K k)
def TabAt (w : World) (S : Nat → Prop) (N L t : Nat) (T : Tb) : Prop := ∃ col mk mw nk nw K, TabW w S N L t T col mk mw nk nw K
def grS (w0 w : World) (S : Nat → Prop) (x : Nat) : Prop := S x ∨ (w0.heap.size ≤ x ∧ x < w.heap.size)
section
variable {col col' : Nat → Option (Ky × Nat)} {w w' : World} {S S' R : Nat → Prop} {N L N' L' t : Nat} {k : Ky} {e m n : Nat} {lv : Value} {en : En} {T : Tb} {mk mw nk nw : Nat} {K : Ky → Option (Option Nat)}
theorem EntAt.lts (h : EntAt col w S N L k e m n lv en) : e < w.heap.size ∧ m < w.heap.size ∧ ∀ b, lv.ownBlock = some b → b < w.heap.size := ⟨h.box.lt, h.fm.lt, fun b hb => (h.ln.lt b hb).2⟩
/-- what is written lies elsewhere; colours of what is new -/
theorem EntAt.fr (h : EntAt col w S N L k e m n lv en) (hf : Fr R w w') (hr : ∀ x i, col x = some (k, i) → ¬ R x) (hc : ∀ x, x < w.heap.size → col' x = col x) (hS : ∀ x, S x → S' x) (hN : N ≤ N') (hL : L ≤ L') : EntAt col' w' S' N' L' k e m n lv en := by
  obtain ⟨l1, l2, l3⟩ := h.lts
  exact ⟨h.box.fr hf (hr e 0 h.ce), h.fm.fr hf (hr m 1 h.cm), Nat.le_trans h.hn hN, h.ln.fr hf (fun b hb => hr b 2 (h.cb b hb)), Nat.le_trans h.hl hL, h.ok, hS _ h.se, hS _ h.sm, fun b hb => hS _ (h.sb b hb),
    (hc e l1).trans h.ce, (hc m l2).trans h.cm, fun b hb => (hc b (l3 b hb)).trans (h.cb b hb)⟩
theorem OneAt.fr {ke : Option (Option Nat)} {oe : En} (h : OneAt col w S N L k oe ke) (hf : Fr R w w') (hr : ∀ x i, col x = some (k, i) → ¬ R x) (hc : ∀ x, x < w.heap.size → col' x = col x) (hS : ∀ x, S x → S' x) (hN : N ≤ N') (hL : L ≤ L') : OneAt col' w' S' N' L' k oe ke := by
  match ke, h with
  | none, h => exact h
  | some (some e), ⟨m, n, lv, h⟩ => exact ⟨m, n, lv, h.fr hf hr hc hS hN hL⟩
theorem TabW.later (h : TabW w S N L t T col mk mw nk nw K) (hb : Below w.heap.size w w') : TabW w' S N L t T col mk mw nk nw K :=
  ⟨h.box.later hb, h.fk.later hb, h.fw.later hb, h.hk, h.hw, h.ne, h.st, h.sk, h.sw, fun x hx => Nat.lt_of_lt_of_le (h.old x hx) hb.size, h.ct, h.ck, h.cw, fun k => (h.ents k).fr (R := fun _ => False) (Fr.of_below hb) (fun _ _ _ => id) (fun _ _ => rfl) (fun _ => id) (Nat.le_refl _) (Nat.le_refl _)⟩
theorem TabAt.later (h : TabAt w S N L t T) (hb : Below w.heap.size w w') : TabAt w' S N L t T := by
  obtain ⟨col, mk, mw, nk, nw, K, h⟩ := h
  exact ⟨col, mk, mw, nk, nw, K, h.later hb⟩
/-- what is written is none of the table's -/
theorem TabW.far (h : TabW w S N L t T col mk mw nk nw K) (hf : Fr R w w') (hr : ∀ x, S x → ¬ R x) : TabW w' S N L t T col mk mw nk nw K := by
  refine ⟨h.box.fr hf (hr _ h.st), h.fk.fr hf (hr _ h.sk), h.fw.fr hf (hr _ h.sw), h.hk, h.hw, h.ne, h.st, h.sk, h.sw, fun x hx => Nat.lt_of_lt_of_le (h.old x hx) hf.size, h.ct, h.ck, h.cw, fun k => ?_⟩
  have := h.ents k
  match hK : K k, this with
  | none, h => exact h
  | some (some e), ⟨m, n, lv, q⟩ =>
    exact ⟨m, n, lv, ⟨q.box.fr hf (hr _ q.se), q.fm.fr hf (hr _ q.sm), q.hn, q.ln.fr hf (fun b hb => hr _ (q.sb b hb)), q.hl, q.ok, q.se, q.sm, q.sb, q.ce, q.cm, q.cb⟩⟩
theorem TabAt.far (h : TabAt w S N L t T) (hf : Fr R w w') (hr : ∀ x, S x → ¬ R x) : TabAt w' S N L t T := by
  obtain ⟨col, mk, mw, nk, nw, K, h⟩ := h
  exact ⟨col, mk, mw, nk, nw, K, h.far hf hr⟩
theorem EntAt.later (h : EntAt col w S N L k e m n lv en) (hb : Below w.heap.size w w') : EntAt col w' S N L k e m n lv en :=
  h.fr (R := fun _ => False) (Fr.of_below hb) (fun _ _ _ => id) (fun _ _ => rfl) (fun _ => id) (Nat.le_refl _) (Nat.le_refl _)
theorem TabW.none_ (h : TabW w S N L t T col mk mw nk nw K) {k : Ky} (hk : K k = none) : T.ent k = En.none := by
  have := h.ents k
  rw [hk] at this
  exact this
theorem TabW.is (h : TabW w S N L t T col mk mw nk nw K) {k : Ky} {b : Option Nat} (hk : K k = some b) : ∃ e m n lv, b = some e ∧ EntAt col w S N L k e m n lv (T.ent k) := by
  have := h.ents k
  rw [hk] at this
  match b, this with
  | some e, ⟨m, n, lv, q⟩ => exact ⟨e, m, n, lv, rfl, q⟩
theorem TabW.has_ (h : TabW w S N L t T col mk mw nk nw K) {k : Ky} {x : Int} (hk : T.has k x = true) : ∃ b, K k = some b := by
  cases e : K k with
  | none => unfold Tb.has at hk; rw [h.none_ e, none_has] at hk; cases hk
  | some b => exact ⟨b, rfl⟩
end
theorem holders_u32 {w : World} {m n : Nat} {h : Int → Option Int} (hf : FM KU VM w m n h) : ∀ x md, h x = some md → U32 x := by
  intro x md hx
  obtain ⟨D, _, _, h2⟩ := hf
  by_cases hok : KU.ok x
  · exact ku_ok.1 hok
  · rw [h2 x hok] at hx; cases hx
theorem FMok {w : World} {m n : Nat} {K : Ky → Option (Option Nat)} (hf : FM KK ptrEE w m n K) {k : Ky} {b : Option Nat} (hk : K k = some b) : k.ok := by
  obtain ⟨D, _, _, h2⟩ := hf
  by_cases hok : KK.ok k
  · exact hok
  · rw [h2 k hok] at hk; cases hk
end Go.Proofs.Ytpndcpmfcajmdaa.Lock
