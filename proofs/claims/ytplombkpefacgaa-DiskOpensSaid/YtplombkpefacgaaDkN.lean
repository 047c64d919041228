import Derived.Test.YtplombkpefacgaaDkM
/- Two devices beside one another, of whatever types; what is done to one leaves the other. -/
namespace Go.Proofs.Ytplombkpefacgaa.Disk
open Go.ChangeShapes Go.WideShapes Go.ChangeAt Go.RowKit Go.IntWalk Go.Proofs.Mem Go.Proofs.Each Law
set_option linter.unusedVariables false
structure PairT (tS tD tS' tD' : TypeId) (K : Nat → Prop) (B0 : Nat) (w : World) (a b : Nat) (D E : Dv) : Prop where
  old : ∀ x, K x → x < w.heap.size
  base : B0 ≤ w.heap.size
  two : ∃ (SA SB : Nat → Prop) (ca : Nat → Nat) (fa : Nat → Value) (ua : Nat → List Pl) (cb : Nat → Nat) (fb : Nat → Value) (ub : Nat → List Pl), DvAt tS tD w SA a D ca fa ua ∧ DvAt tS' tD' w SB b E cb fb ub ∧ (∀ x, SA x → ¬ SB x) ∧ (∀ x, SA x → B0 ≤ x ∧ ¬ K x) ∧ ∀ x, SB x → B0 ≤ x ∧ ¬ K x
section
variable {tS tD tS' tD' : TypeId} {K K' : Nat → Prop} {B0 a b : Nat} {w w' : World} {D E : Dv}
theorem PairT.swap (h : PairT tS tD tS' tD' K B0 w a b D E) : PairT tS' tD' tS tD K B0 w b a E D := by
  obtain ⟨hk, hB, SA, SB, ca, fa, ua, cb, fb, ub, ha, hb, hd, h1, h2⟩ := h
  exact ⟨hk, hB, SB, SA, cb, fb, ub, ca, fa, ua, hb, ha, fun x hx hy => hd x hy hx, h2, h1⟩
theorem PairT.later (h : PairT tS tD tS' tD' K B0 w a b D E) (hb : Below w.heap.size w w') : PairT tS tD tS' tD' K B0 w' a b D E := by
  obtain ⟨hk, hB, SA, SB, ca, fa, ua, cb, fb, ub, ha, hb', hd, h1, h2⟩ := h
  exact ⟨fun x hx => Nat.lt_of_lt_of_le (hk x hx) hb.size, Nat.le_trans hB hb.size, SA, SB, ca, fa, ua, cb, fb, ub, ha.later hb, hb'.later hb, hd, h1, h2⟩
theorem PairT.less (h : PairT tS tD tS' tD' K B0 w a b D E) (hk : ∀ x, K' x → K x) : PairT tS tD tS' tD' K' B0 w a b D E := by
  obtain ⟨hk0, hB, SA, SB, ca, fa, ua, cb, fb, ub, ha, hb', hd, h1, h2⟩ := h
  exact ⟨fun x hx => hk0 x (hk x hx), hB, SA, SB, ca, fa, ua, cb, fb, ub, ha, hb', hd, fun x hx => ⟨(h1 x hx).1, fun h => (h1 x hx).2 (hk x h)⟩, fun x hx => ⟨(h2 x hx).1, fun h => (h2 x hx).2 (hk x h)⟩⟩
/-- what was made since is neither's -/
theorem PairT.new (h : PairT tS tD tS' tD' K B0 w a b D E) (hb : Below w.heap.size w w') (P : Nat → Prop) (hP : ∀ x, P x → w.heap.size ≤ x ∧ x < w'.heap.size) : PairT tS tD tS' tD' (fun x => K x ∨ P x) B0 w' a b D E := by
  obtain ⟨hk, hB, SA, SB, ca, fa, ua, cb, fb, ub, ha, hb', hd, h1, h2⟩ := h
  refine ⟨fun x hx => ?_, Nat.le_trans hB hb.size, SA, SB, ca, fa, ua, cb, fb, ub, ha.later hb, hb'.later hb, hd, fun x hx => ⟨(h1 x hx).1, fun e => ?_⟩, fun x hx => ⟨(h2 x hx).1, fun e => ?_⟩⟩
  · rcases hx with hx | hx
    · exact Nat.lt_of_lt_of_le (hk x hx) hb.size
    · exact (hP x hx).2
  · rcases e with e | e
    · exact (h1 x hx).2 e
    · have := ha.old x hx; have := (hP x e).1; omega
  · rcases e with e | e
    · exact (h2 x hx).2 e
    · have := hb'.old x hx; have := (hP x e).1; omega
theorem PairT.fresh (h : PairT tS tD tS' tD' K B0 w a b D E) (o : Obj) : PairT tS tD tS' tD' (fun x => K x ∨ x = w.heap.size) B0 (w.alloc o) a b D E :=
  h.new (new_ (Below.refl _ _) _) _ (fun x hx => by subst hx; rw [World.size_alloc]; omega)
/-- a call to the first device, of which it is known what it leaves -/
theorem PairT.step (h : PairT tS tD tS' tD' K B0 w a b D E) : ∃ S c f u, DvAt tS tD w S a D c f u ∧ (∀ x, S x → B0 ≤ x ∧ ¬ K x) ∧ ∀ w' D', (∃ c' f' u', DvAt tS tD w' (growS w w' S) a D' c' f' u') → Fr S w w' → PairT tS tD tS' tD' K B0 w' a b D' E ∧ Below B0 w w' ∧ Fr (fun x => ¬ K x) w w' := by
  obtain ⟨hk, hB, SA, SB, ca, fa, ua, cb, fb, ub, ha, hb, hd, h1, h2⟩ := h
  refine ⟨SA, ca, fa, ua, ha, h1, fun w' D' hd' hf => ⟨⟨fun x hx => Nat.lt_of_lt_of_le (hk x hx) hf.size, Nat.le_trans hB hf.size, growS w w' SA, SB, ?_⟩, hf.to_below (fun x hx => (h1 x hx).1) hB, hf.mono (fun k _ hS => (h1 k hS).2)⟩⟩
  obtain ⟨c', f', u', ha'⟩ := hd'
  refine ⟨c', f', u', cb, fb, ub, ha', hb.far hf (fun g hg hh => hd g hh hg), fun x hx hs => ?_, fun x hx => ?_, h2⟩
  · rcases hx with hx | hx
    · exact hd x hx hs
    · have := hb.old x hs
      omega
  · rcases hx with hx | hx
    · exact h1 x hx
    · exact ⟨Nat.le_trans hB hx.1, fun hh => by have := hk x hh; omega⟩
theorem PairT.one (h : PairT tS tD tS' tD' K B0 w a b D E) : ∃ S c f u, DvAt tS tD w S a D c f u := by
  obtain ⟨S, c, f, u, h, _⟩ := h.step
  exact ⟨S, c, f, u, h⟩
end
abbrev Pp (K : Nat → Prop) (B0 : Nat) (w : World) (a b : Nat) (D E : Dv) : Prop := PairT 68 65 68 65 K B0 w a b D E
def none_ : Nat → Prop := fun _ => False
theorem Pp.start {B0 : Nat} {w w1 w2 : World} {M : Nat → Nat} (h1 : Out w w1 M 2) (h2 : Out w1 w2 M 2) (hB : B0 ≤ w.heap.size) : Pp none_ B0 w2 w.heap.size w1.heap.size (newTo M 2) (newTo M 2) := by
  obtain ⟨SA, SB, ca, fa, ua, cb, fb, ub, ha, hb, hd, k1, k2⟩ := Pair.new h1 h2 hB
  exact ⟨fun x hx => hx.elim, Nat.le_trans (k1 _ ha.here) (Nat.le_of_lt (ha.old _ ha.here)), SA, SB, ca, fa, ua, cb, fb, ub, ha, hb, hd, fun x hx => ⟨k1 x hx, fun h => h⟩, fun x hx => ⟨k2 x hx, fun h => h⟩⟩
theorem cur_keep (s : Se) : s.cur = s.keep s.wait.length := by
  unfold Se.cur Se.keep
  split
  · rename_i h
    rw [List.length_eq_zero_iff.1 h]; rfl
  · rw [List.getLast?_eq_getElem?, List.getD_eq_getElem?_getD]
section
variable {tS tD : TypeId} {w : World} {S : Nat → Prop} {b : Nat} {D : Dv} {col : Nat → Nat} {fv : Nat → Value} {uv : Nat → List Pl}
theorem cur_bytes (h : DvAt tS tD w S b D col fv uv) {i n : Nat} {s : Se} (hi : i < 2) (hs : (D.f i)[n]? = some s) : Bytes s.cur := by
  obtain ⟨g, cap, C, p, s', sp⟩ := (h.file i hi).spot n (List.getElem?_eq_some_iff.1 hs).1
  have e : s' = s := by have := sp.hs; rw [hs] at this; injection this with this; exact this.symm
  subst e
  rw [cur_keep]
  exact (sp.sec.keep s'.wait.length (by have := sp.sec.n; omega)).2.2
theorem last_bytes (h : DvAt tS tD w S b D col fv uv) {i n : Nat} {s : Se} (hi : i < 2) (hs : (D.f i)[n]? = some s) : Bytes s.last ∧ s.last.length = 128 := by
  obtain ⟨g, cap, C, p, s', sp⟩ := (h.file i hi).spot n (List.getElem?_eq_some_iff.1 hs).1
  have e : s' = s := by have := sp.hs; rw [hs] at this; injection this with this; exact this.symm
  subst e
  exact ⟨sp.sec.byt, sp.sec.len⟩
theorem img_bytes (h : DvAt tS tD w S b D col fv uv) {i : Nat} (hi : i < 2) {l : List Rw} (hl : l.map (·.2.2) = (D.f i).map (·.last)) : ∀ p ∈ l, Bytes p.2.2 := fun p hp => by
  have hm : p.2.2 ∈ (D.f i).map (·.last) := by rw [← hl]; exact List.mem_map.2 ⟨p, hp, rfl⟩
  obtain ⟨s, hs, e⟩ := List.mem_map.1 hm
  rw [← e]
  obtain ⟨n, hn, rfl⟩ := List.mem_iff_getElem.1 hs
  exact (last_bytes h hi (List.getElem?_eq_getElem hn)).1
end
section
variable {K : Nat → Prop} {B0 a b : Nat} {w : World} {D E : Dv}
theorem pp_image (h : Pp K B0 w a b D E) (I : Int) (i : Nat) (hI : I = i) (hi : i < 2) :
    Calls Try.prog 19 #[.pointer (some ⟨a, 0, none⟩), .int .u8 I] w fun e w' => ∃ (v : Value) (l : List (Value × List Int)), e = .returned v ∧ SR w' w'.heap.size v l ∧ l.map (·.2) = (D.f i).map (·.last) ∧ Pp K B0 w' a b D E ∧ Below w.heap.size w w' := by
  obtain ⟨S, c, f, u, ha⟩ := h.one
  refine (image_at I ha i hI hi).mono ?_
  rintro e w' ⟨v, l, rfl, t, m, hb⟩
  exact ⟨v, l.map (·.2), rfl, t.sr (img_bytes ha hi m), by rw [List.map_map]; exact m, h.later hb, hb⟩
theorem pp_read (h : Pp K B0 w a b D E) (I N : Int) (i : Nat) (hI : I = i) (hi : i < 2) (n : Nat) (hN : N = n) (s : Se) (hs : (D.f i)[n]? = some s) (hw : s.wait.length ≤ 100000) :
    Calls Try.prog 31 #[.pointer (some ⟨a, 0, none⟩), .int .u8 I, .int .i64 N] w fun e w' => ∃ u, e = .returned (.tuple #[u, .int .u16 0]) ∧ w'.ownsRow w.heap.size 5 1 u 128 (s.cur.map (.int .u8)) ∧ Bytes s.cur ∧ Pp K B0 w' a b D E ∧ Below w.heap.size w w' := by
  obtain ⟨S, c, f, u, ha⟩ := h.one
  refine (read_at I N ha i hI hi n s hs hw hN).mono ?_
  rintro e w' ⟨v, rfl, o, hb⟩
  exact ⟨v, rfl, o, cur_bytes ha hi hs, h.later hb, hb⟩
theorem pp_halted (h : Pp K B0 w a b D E) :
    Calls Try.prog 30 #[.pointer (some ⟨a, 0, none⟩)] w fun e w' => e = .returned (.bool D.dead) ∧ w = w' := by
  obtain ⟨S, c, f, u, ha⟩ := h.one
  exact halted_any w a f D.lim D.left D.dead ha.box
theorem pp_halt (h : Pp K B0 w a b D E) (n : Int) (hn : n ≤ 9223372036854775807) :
    Calls Try.prog 28 #[.pointer (some ⟨a, 0, none⟩), .int .i64 n] w fun e w' => e = .returned (.tuple #[]) ∧ Pp K B0 w' a b { D with lim := true, left := max n 0 } E ∧ Below B0 w w' ∧ Fr (fun x => ¬ K x) w w' := by
  obtain ⟨S, c, f, u, ha, hS, st⟩ := h.step
  refine (halt_any w a f D.lim D.left D.dead ha.box n).mono ?_
  rintro e w' ⟨rfl, hb, hf⟩
  exact ⟨rfl, st _ _ ⟨c, f, u, (ha.head hf true (max n 0) D.dead (by omega) hb).grow⟩ (hf.mono (fun k _ hk => by subst hk; exact ha.here))⟩
theorem pp_crash (h : Pp K B0 w a b D E) (v : Value) (l : List Ft) (hv : SS cFt 4 w w.heap.size v l) (ho : ∀ x ∈ l, x.Ok) (hl : l.length ≤ 100000) (hw : D.Few 100000) :
    Calls Try.prog 20 #[.pointer (some ⟨a, 0, none⟩), v] w fun e w' => e = .returned (.tuple #[]) ∧ Pp K B0 w' a b (D.crash l) E ∧ Below B0 w w' ∧ Fr (fun x => ¬ K x) w w' := by
  obtain ⟨S, c, f, u, ha, hS, st⟩ := h.step
  refine (crash_yes ha v l hv ho hl hw).mono ?_
  rintro e w' ⟨rfl, ⟨c', u', hd⟩, hf⟩
  exact ⟨rfl, st _ _ ⟨c', f, u', hd⟩ hf⟩
theorem pp_sync (h : Pp K B0 w a b D E) (I : Int) (i : Nat) (hI : I = i) (hi : i ≤ 255) (hw : D.Few 100000) :
    Calls Try.prog 21 #[.pointer (some ⟨a, 0, none⟩), .int .u8 I] w fun e w' => e = .returned (.tuple #[]) ∧ Pp K B0 w' a b (D.synA i) E ∧ Below B0 w w' ∧ Fr (fun x => ¬ K x) w w' := by
  obtain ⟨S, c, f, u, ha, hS, st⟩ := h.step
  refine (sync_any ha I i hI hi hw).mono ?_
  rintro e w' ⟨rfl, ⟨c', u', hd⟩, hf⟩
  exact ⟨rfl, st _ _ ⟨c', f, u', hd⟩ hf⟩
/-- the data stay where neither device is -/
theorem pp_plays (h : Pp K B0 w a b D E) (hw : D.Few 100000) (o : Opn) (ho : o.Ok) (xa lb : Value) (hdf : ∀ w', Below B0 w w' → Fr (fun x => ¬ K x) w w' → IR w' w'.heap.size .u8 xa o.xs) (hlb : ∃ A L c, lb = .slice A L c) :
    Calls Try.prog 29 #[.pointer (some ⟨a, 0, none⟩), .agg (opC o xa lb)] w fun e w' => e = .returned (.bool (plB D o)) ∧ Pp K B0 w' a b (plD D o) E ∧ Below B0 w w' ∧ Fr (fun x => ¬ K x) w w' := by
  have hbase := h.base
  obtain ⟨S, c, f, u, ha, hS, st⟩ := h.step
  refine (plays_any ha hw o ho xa lb (fun w' hf => hdf w' (hf.to_below (fun x hx => (hS x hx).1) hbase) (hf.mono (fun k _ hk => (hS k hk).2))) hlb).mono ?_
  rintro e w' ⟨rfl, ⟨c', u', hd⟩, hf⟩
  exact ⟨rfl, st _ _ ⟨c', f, u', hd⟩ hf⟩
end
end Go.Proofs.Ytplombkpefacgaa.Disk
