import Derived.Test.YtpndcpmfcajmdaaLkF
/- Locks: what a release comes to; how it changes the table as it lies. -/
namespace Go.Proofs.Ytpndcpmfcajmdaa.Lock
open Go.ChangeShapes Go.WideShapes Go.ChangeAt Go.RowKit Go.IntWalk Go.Proofs.Mem Law Go.Shelf Go.Proofs.Each
set_option linter.unusedVariables false
set_option linter.unusedSimpArgs false
/-- who gets the key, as long as the first one in line fits -/
noncomputable def wake : (Int → Option Int) → List Pl → (Int → Option Int) × List Pl × List Int
  | h, [] => (h, [], [])
  | h, p :: l => if fit h p.t p.m = true then ((wake (fput h p.t p.m) l).1, (wake (fput h p.t p.m) l).2.1, p.t :: (wake (fput h p.t p.m) l).2.2) else (h, p :: l, [])
theorem wake_yes {h : Int → Option Int} {p : Pl} {l : List Pl} (hf : fit h p.t p.m = true) : wake h (p :: l) = ((wake (fput h p.t p.m) l).1, (wake (fput h p.t p.m) l).2.1, p.t :: (wake (fput h p.t p.m) l).2.2) := by
  rw [wake, if_pos hf]
theorem wake_no {h : Int → Option Int} {p : Pl} {l : List Pl} (hf : fit h p.t p.m = false) : wake h (p :: l) = (h, p :: l, []) := by
  rw [wake, if_neg (by rw [hf]; decide)]
theorem wake_nil (h : Int → Option Int) : wake h [] = (h, [], []) := by rw [wake]
/-- t neither holds nor waits -/
def En.cut (e : En) (t : Int) : En := ⟨fdel e.hv t, e.line.filter fun x => !isT t x⟩
noncomputable def En.rel (e : En) (t : Int) : En × List Int := (⟨(wake (e.cut t).hv (e.cut t).line).1, (wake (e.cut t).hv (e.cut t).line).2.1⟩, (wake (e.cut t).hv (e.cut t).line).2.2)
def stopAll (f : Int → Option Hd) (g : List Int) : Int → Option Hd := fun x => if x ∈ g then none else f x
theorem stopAll_nil (f : Int → Option Hd) : stopAll f [] = f := by funext x; simp [stopAll]
theorem stopAll_snoc (f : Int → Option Hd) (g : List Int) (x : Int) : stopAll f (g ++ [x]) = fdel (stopAll f g) x := by
  funext y
  unfold stopAll fdel
  by_cases h : y = x <;> simp [h]
/-- from one key on, another one -/
noncomputable def relOne (t : Int) (s : Tb × List Int) (k : Ky) : Tb × List Int := (⟨(s.1.set k ((s.1.ent k).rel t).1).ent, stopAll s.1.wt ((s.1.ent k).rel t).2⟩, s.2 ++ ((s.1.ent k).rel t).2)
noncomputable def relAll (T : Tb) (t : Int) (ks : List Ky) : Tb × List Int := ks.foldl (relOne t) (T, [])
theorem relAll_take {T : Tb} {t : Int} {ks : List Ky} {i : Nat} {k : Ky} (h : ks[i]? = some k) : relAll T t (ks.take (i + 1)) = relOne t (relAll T t (ks.take i)) k := by
  unfold relAll
  rw [List.take_add_one, h, List.foldl_append]
  rfl
/-- a map's length: nought just if nothing is there (one way) -/
theorem FM.len_ {P : Program} {K t e : TypeId} {α β : Type} {R : Value → Option (DataW Unit × List MemPlace)} {E : KE P K α} {V : EE R β} {w : World} {m n : Nat} {f : α → Option β} (h : FM E V w m n f) (ht : P.underlying t = some (.map K e)) :
    ∃ c : Nat, c ≤ n ∧ (∀ ty, (Builtin.len_ #[t] ty #[.map (some m)]).run P w = .ok (.int .i64 (c : Nat)) w) ∧ (c = 0 → f = fun _ => none) := by
  obtain ⟨D, h1, h2, h3⟩ := h
  refine ⟨Maps.size D, h1.size_le, fun ty => h1.len ht ty, fun hc => ?_⟩
  funext x
  by_cases hx : E.ok x
  · have h4 := (h2 x hx).2
    obtain ⟨es, rfl⟩ := h1.isMap
    have : es = [] := List.eq_nil_of_length_eq_zero hc
    subst this
    cases e : f x with
    | none => rfl
    | some y => rw [e] at h4; cases h4
  · exact h3 x hx
section
variable {col : Nat → Option (Ky × Nat)} {w w' : World} {S R : Nat → Prop} {N N' L t : Nat} {k : Ky} {T : Tb} {mk mw nk nw : Nat} {K : Ky → Option (Option Nat)} {e m n n' : Nat} {lv lv' : Value} {en en' : En}
theorem EntAt.far_ (h : EntAt col w S N L k e m n lv en) (hf : Fr R w w') (hr : ∀ x, S x → ¬ R x) : EntAt col w' S N L k e m n lv en :=
  ⟨h.box.fr hf (hr _ h.se), h.fm.fr hf (hr _ h.sm), h.hn, h.ln.fr hf (fun b hb => hr _ (h.sb b hb)), h.hl, h.ok, h.se, h.sm, h.sb, h.ce, h.cm, h.cb⟩
/-- an entry has become another one, in the same blocks -/
theorem TabW.ent_ (h : TabW w S N L t T col mk mw nk nw K) (hK : K k = some (some e)) (hE : EntAt col w S N L k e m n lv en) (hf : Fr R w w') (hR : ∀ x, R x → x = m ∨ x = e ∨ lv.ownBlock = some x) (hE' : EntAt col w' S N' L k e m n' lv' en') (hN : N ≤ N') :
    TabW w' S N' L t (T.set k en') col mk mw nk nw K := by
  have hRc : ∀ x, R x → ∃ i, col x = some (k, i) := fun x hx => by
    rcases hR x hx with e1 | e1 | e1
    · rw [e1]; exact ⟨1, hE.cm⟩
    · rw [e1]; exact ⟨0, hE.ce⟩
    · exact ⟨2, hE.cb x e1⟩
  refine TabW.upd (k := k) h hf (fun x _ hx => .inr (.inr (hRc x hx))) (h.fk.fr hf (fun hx => ?_)) (h.fw.fr hf (fun hx => ?_)) (Nat.le_trans h.hk hN) (Nat.le_trans h.hw hN) (fun _ _ => rfl) (fun _ => id) (fun x hx => Nat.lt_of_lt_of_le (h.old x hx) hf.size) hN (Nat.le_refl _) (fun _ _ => rfl) (fun y hy => set_other _ _ hy) ?_
  · obtain ⟨i, hi⟩ := hRc _ hx; rw [h.ck] at hi; cases hi
  · obtain ⟨i, hi⟩ := hRc _ hx; rw [h.cw] at hi; cases hi
  · rw [hK, set_same]; exact ⟨m, n', lv', hE'⟩
/-- a key goes out of the table -/
theorem TabW.out (h : TabW w S N L t T col mk mw nk nw K) (hf : Fr (fun x => x = mk) w w') (hfm : FM KK ptrEE w' mk nk (fdel K k)) (he : T.ent k = En.none) : TabW w' S N L t T col mk mw nk nw (fdel K k) := by
  refine TabW.upd (k := k) h hf (fun x _ hx => .inl hx) hfm (h.fw.fr hf (fun e => h.ne e.symm)) h.hk h.hw (fun _ _ => rfl) (fun _ => id) (fun x hx => Nat.lt_of_lt_of_le (h.old x hx) hf.size) (Nat.le_refl _) (Nat.le_refl _) (fun y hy => fdel_other _ hy) (fun _ _ => rfl) ?_
  rw [fdel_same]; exact he
theorem TabW.key (h : TabW w S N L t T col mk mw nk nw K) (hK : K k = some (some e)) : ∃ m n lv, EntAt col w S N L k e m n lv (T.ent k) := by
  obtain ⟨e', m, n, lv, he, hE⟩ := h.is hK
  injection he with he
  subst he
  exact ⟨m, n, lv, hE⟩
end
theorem wake_spec : ∀ (l : List Pl) (h : Int → Option Int), (wake h l).2.2.length + (wake h l).2.1.length = l.length ∧ (wake h l).2.1 <:+ l
  | [], h => by rw [wake_nil]; exact ⟨rfl, List.suffix_refl _⟩
  | p :: l, h => by
    cases hf : fit h p.t p.m with
    | true =>
      obtain ⟨h1, h2⟩ := wake_spec l (fput h p.t p.m)
      rw [wake_yes hf]
      refine ⟨?_, h2.trans (List.suffix_cons _ _)⟩
      simp only [List.length_cons]
      omega
    | false => rw [wake_no hf]; exact ⟨by simp, List.suffix_refl _⟩
end Go.Proofs.Ytpndcpmfcajmdaa.Lock
