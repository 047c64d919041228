import Derived.Test.YteggcehjpfmikaaWtC
import Derived.Test.YteggcehjpfmikaaWtH
import Derived.Deep.CutBlock
import Derived.Deep.DeepCutAuto
namespace Go.Proofs.Yteggcehjpfmikaa.Wal
open Go.RowKit Go.WideShapes Go.Proofs.Mem Go.Proofs.Yteggcehjpfmikaa.Disk Strip Rec
set_option linter.unusedVariables false
structure Ent where
  lsn : Int
  r : Rc
  a : Option Addr × Nat
  b : Option Addr × Nat
  t : Option Addr × Nat
  d : Option Addr × Nat
@[reducible] def Ent.va (e : Ent) : Value := .slice e.a.1 e.r.c.xs.length e.a.2
@[reducible] def Ent.vb (e : Ent) : Value := .slice e.b.1 e.r.c.ys.length e.b.2
@[reducible] def Ent.vt (e : Ent) : Value := .slice e.t.1 e.r.ts.length e.t.2
@[reducible] def Ent.vd (e : Ent) : Value := .slice e.d.1 e.r.ds.length e.d.2
def cEnt (e : Ent) : List Value := [.int .u64 e.lsn, .int .u8 e.r.k, .int .u32 e.r.t, .int .u64 e.r.p, .int .u64 e.r.n, .int .u32 e.r.c.pg, .int .u16 e.r.c.sl, .bool e.r.c.had, .bool e.r.c.has, e.va, e.vb, e.vt, e.vd]
theorem cEnt_len (e : Ent) : (cEnt e).length = 13 := rfl
theorem cEnt_one (e : Ent) : ∀ u ∈ cEnt e, u.oneCell' = true := fun u hu => by
  unfold cEnt at hu
  simp only [List.mem_cons, List.mem_nil_iff, or_false] at hu
  rcases hu with rfl | rfl | rfl | rfl | rfl | rfl | rfl | rfl | rfl | rfl | rfl | rfl | rfl <;> rfl
def EsOk (ba : Int) (rs : List Rc) (es : List Ent) : Prop := es.map (·.r) = rs ∧ es.map (·.lsn) = (begs rs).map (ba + ·)
theorem EsOk.nil (ba : Int) : EsOk ba [] [] := ⟨rfl, rfl⟩
theorem EsOk.snoc {ba : Int} {rs : List Rc} {es : List Ent} (h : EsOk ba rs es) (e : Ent) (he : e.lsn = ba + (strm rs).length) : EsOk ba (rs ++ [e.r]) (es ++ [e]) := by
  obtain ⟨h1, h2⟩ := h
  refine ⟨by rw [List.map_append, h1]; rfl, ?_⟩
  rw [List.map_append, h2, begs_snoc, List.map_append]
  simp [he]
def StepR (D : Dv) (L : Lv) (es : List Ent) (o : Oq) (D' : Dv) (L' : Lv) (es' : List Ent) : Prop :=
  (o.k % 11 = 4 ∧ ∃ j, upK L o.at_ j ∧ D' = flA D L (endK L j) ∧ L' = flL L (endK L j) ∧ es' = es) ∨
  (o.k % 11 = 6 ∧ D' = mkD D L o.at_ ∧ L' = mkL L o.at_ ∧ es' = es) ∨
  (o.k % 11 = 7 ∧ D' = rnD D L ∧ L' = rnL L ∧ es' = []) ∨
  (o.k % 11 ≤ 3 ∧ D' = D ∧ apE D L o.r (o.sp % 100).toNat = 0 ∧ L' = apL L o.r ∧ ∃ e : Ent, e.r = o.r ∧ e.lsn = L.h.ba + L.ys.length ∧ es' = es ++ [e]) ∨
  (o.k % 11 ≤ 3 ∧ D' = D ∧ apE D L o.r (o.sp % 100).toNat ≠ 0 ∧ L' = L ∧ es' = es) ∨
  (o.k % 11 ≠ 4 ∧ o.k % 11 ≠ 6 ∧ o.k % 11 ≠ 7 ∧ ¬ o.k % 11 ≤ 3 ∧ D' = D ∧ L' = L ∧ es' = es)
structure RunOk (D : Dv) (L : Lv) (rs : List Rc) (es : List Ent) (j : Nat) : Prop where
  ys : L.ys = strm rs
  ss : L.ss = begs rs
  good : RsOk rs
  sz : 8 ≤ Wal.sz D ∧ Wal.sz D ≤ 700
  ok : L.h.Ok
  ar : L.h.ar ≤ 1
  se : L.se ≤ 1
  ba : 1 ≤ L.h.ba ∧ L.h.ba ≤ 1 + 88900 * j
  st : 1 ≤ L.h.st ∧ L.h.st ≤ 1 + j
  len : L.ys.length ≤ Wal.sz D * 127
  la : ∃ k, k ≤ rs.length ∧ L.la = (strm (rs.take k)).length
  few : D.Few (1500 * (j + 1))
  ent : EsOk L.h.ba rs es
section
variable {D D' : Dv} {L L' : Lv} {rs : List Rc} {es es' : List Ent} {j : Nat}
theorem RunOk.lv (h : RunOk D L rs es j) (hj : j ≤ 60) : LvOk D L := by
  have hl := h.len
  have hs := h.sz
  have hm := strm_many h.good
  obtain ⟨k, hk, hla⟩ := h.la
  have h1 := strm_take_all rs k
  rw [h.ys] at hl
  refine ⟨h.sz, h.ok, h.ar, h.se, ⟨h.ba.1, by have := h.ba.2; omega⟩, by have := h.st.2; omega, by rw [h.ys]; exact strm_bytes h.good, h.len, by rw [h.ss, h.ys]; exact begs_rising rs, ?_, ?_⟩
  · rw [h.ss, begs_len]; omega
  · rw [hla, h.ys]; exact h1
theorem RunOk.h0 (h : RunOk D L rs es j) : L.ss.length = 0 → L.ys.length = 0 := fun e => by
  rw [h.ss, begs_len] at e
  rw [h.ys, List.eq_nil_of_length_eq_zero e]; rfl
theorem endK_rs (h : RunOk D L rs es j) (k : Nat) (hk : k ≤ rs.length) : endK L k = (strm (rs.take k)).length := by
  unfold endK endS
  rw [h.ss, h.ys, begs_len]
  by_cases h0 : k = 0
  · subst h0; rw [if_pos (by omega)]; rfl
  · rw [if_neg (by omega)]
    by_cases h1 : (k : Int) - 1 + 1 < rs.length
    · rw [if_pos h1, show ((k : Int) - 1 + 1).toNat = k by omega, begs_getD rs k (by omega)]; omega
    · rw [if_neg h1, show k = rs.length by omega, List.take_length]; omega
theorem upK_le {lsn : Int} {k : Nat} (h : RunOk D L rs es j) (hk : upK L lsn k) : k ≤ rs.length := by
  have := hk.1
  rw [h.ss, begs_len] at this
  exact this
theorem max_bound (h : RunOk D L rs es j) (k : Nat) (hk : k ≤ rs.length) : ∃ i, i ≤ rs.length ∧ max L.la (endK L k) = (strm (rs.take i)).length := by
  obtain ⟨a, ha, e⟩ := h.la
  rw [endK_rs h k hk]
  rcases Nat.le_total L.la (strm (rs.take k)).length with hh | hh
  · exact ⟨k, hk, Nat.max_eq_right hh⟩
  · exact ⟨a, ha, (Nat.max_eq_left hh).trans e⟩
theorem endK_le (h : RunOk D L rs es j) (k : Nat) (hk : k ≤ rs.length) : endK L k ≤ L.ys.length := by
  rw [endK_rs h k hk, h.ys]; exact strm_take_all rs k
theorem mkD_lens (ch : Int) (k : Nat) : ((mkD D L ch).f k).length = (D.f k).length := by unfold mkD; rw [hdD_lens, flA_lens]
theorem rnD_lens (k : Nat) : ((rnD D L).f k).length = (D.f k).length := by unfold rnD rnC; rw [hdD_lens, clnD_lens, flA_lens]
theorem RunOk.step (h : RunOk D L rs es j) (hj : j < 60) {o : Oq} (ho : o.r.Ok) (ha : 0 ≤ o.at_ ∧ o.at_ ≤ 18446744073709551615) (hs : StepR D L es o D' L' es') : ∃ rs', RunOk D' L' rs' es' (j + 1) := by
  have lv := h.lv (by omega)
  have hb := h.ba
  have hst := h.st
  have hsz := h.sz
  have hlen := h.len
  have hok := h.ok
  have har := h.ar
  have hse := h.se
  have hnn := lv.nn
  have hfew : D.Few (1500 * (j + 1 + 1)) := h.few.more (by omega)
  rcases hs with ⟨_, k, hk, rfl, rfl, rfl⟩ | ⟨_, rfl, rfl, rfl⟩ | ⟨_, rfl, rfl, rfl⟩ | ⟨_, rfl, hE, rfl, e, he1, he2, rfl⟩ | ⟨_, rfl, _, rfl, rfl⟩ | ⟨_, _, _, _, rfl, rfl, rfl⟩
  · have hkl := upK_le h hk
    have hsq : Wal.sz (flA D L (endK L k)) = Wal.sz D := sz_eq (flA_lens _ 0)
    exact ⟨rs, h.ys, h.ss, h.good, by rw [hsq]; exact hsz, hok, har, hse, ⟨hb.1, by show L.h.ba ≤ _; omega⟩, ⟨hst.1, by show L.h.st ≤ _; omega⟩, by rw [hsq]; exact hlen, max_bound h k hkl, (flA_few h.few lv _ (endK_le h k hkl)).more (by omega), h.ent⟩
  · have hsq : Wal.sz (mkD D L o.at_) = Wal.sz D := sz_eq (mkD_lens _ 0)
    refine ⟨rs, h.ys, h.ss, h.good, by rw [hsq]; exact hsz, ⟨by show 0 ≤ L.h.st + 1 ∧ L.h.st + 1 ≤ _; omega, hok.ar, hok.ba, ha⟩, har, by show 1 - L.se ≤ 1; omega, ⟨hb.1, by show L.h.ba ≤ _; omega⟩, ⟨by show 1 ≤ L.h.st + 1; omega, by show L.h.st + 1 ≤ _; omega⟩, by rw [hsq]; exact hlen, ⟨rs.length, Nat.le_refl _, by rw [List.take_length, ← h.ys]; rfl⟩, (hdD_few _ _ (flA_few h.few lv _ (Nat.le_refl _))).more (by omega), h.ent⟩
  · have hsq : Wal.sz (rnD D L) = Wal.sz D := sz_eq (rnD_lens 0)
    refine ⟨[], rfl, rfl, (fun r hr => by cases hr), by rw [hsq]; exact hsz, ⟨by show 0 ≤ L.h.st + 1 ∧ L.h.st + 1 ≤ _; omega, by show 0 ≤ 1 - L.h.ar ∧ 1 - L.h.ar ≤ 255; have := hok.ar; omega, by show 0 ≤ L.h.ba + (L.ys.length : Int) ∧ L.h.ba + (L.ys.length : Int) ≤ _; omega, by show (0 : Int) ≤ 0 ∧ (0 : Int) ≤ _; omega⟩, by show 1 - L.h.ar ≤ 1; have := hok.ar; omega, by show 1 - L.se ≤ 1; omega, ⟨by show 1 ≤ L.h.ba + (L.ys.length : Int); omega, by show L.h.ba + (L.ys.length : Int) ≤ _; omega⟩, ⟨by show 1 ≤ L.h.st + 1; omega, by show L.h.st + 1 ≤ _; omega⟩, by simp [rnL], ⟨0, Nat.le_refl _, rfl⟩, ?_, EsOk.nil _⟩
    refine (hdD_few _ _ (clnD_few _ _ (flA_few h.few lv _ (Nat.le_refl _)))).more ?_
    rw [List.length_replicate]; omega
  · unfold apE at hE
    cases hm : mayS o.r with
    | false => rw [if_pos hm] at hE; omega
    | true =>
      rw [if_neg (by rw [hm]; decide)] at hE
      have hf : L.ys.length + (encS o.r).length + (o.sp % 100).toNat ≤ Wal.sz D' * 127 := Decidable.byContradiction fun hc => by rw [if_neg hc] at hE; omega
      refine ⟨rs ++ [o.r], by rw [strm_snoc, ← h.ys]; rfl, by rw [begs_snoc, ← h.ss, ← h.ys]; rfl, fun r hr => ?_, hsz, hok, har, hse, ⟨hb.1, by show L.h.ba ≤ _; omega⟩, ⟨hst.1, by show L.h.st ≤ _; omega⟩, by show (L.ys ++ encS o.r).length ≤ _; rw [List.length_append]; omega, ?_, hfew, ?_⟩
      · rcases List.mem_append.1 hr with hr | hr
        · exact h.good r hr
        · rw [List.mem_singleton.1 hr]; exact ⟨ho, hm⟩
      · obtain ⟨k, hk, e⟩ := h.la
        exact ⟨k, by rw [List.length_append]; omega, by rw [List.take_append_of_le_length hk]; exact e⟩
      · rw [← he1]; exact h.ent.snoc e (by rw [he2, h.ys])
  · exact ⟨rs, h.ys, h.ss, h.good, hsz, hok, har, hse, ⟨hb.1, by omega⟩, ⟨hst.1, by omega⟩, hlen, h.la, hfew, h.ent⟩
  · exact ⟨rs, h.ys, h.ss, h.good, hsz, hok, har, hse, ⟨hb.1, by omega⟩, ⟨hst.1, by omega⟩, hlen, h.la, hfew, h.ent⟩
end
end Go.Proofs.Yteggcehjpfmikaa.Wal
namespace Go.Proofs.Yteggcehjpfmikaa.Wal
open Go.ChangeShapes Go.WideShapes Go.ChangeAt Go.RowKit Go.IntWalk Go.Proofs.Mem Go.Proofs.Each Law Go.Proofs.Yteggcehjpfmikaa.Disk Strip Rec
set_option linter.unusedVariables false
set_option linter.unusedSimpArgs false
set_option maxRecDepth 100000
structure EntAt (w : World) (B : Nat) (T : Nat → Prop) (pb : Nat) (A : Option Addr) (c : Nat) (es : List Ent) : Prop where
  own : w.ownsRow 0 58 13 (.slice A es.length c) es.length (es.flatMap cEnt)
  far : ∀ k, (Value.slice A es.length c).ownBlock = some k → ¬ T k ∧ k ≠ pb ∧ B ≤ k
  inn : ∀ e ∈ es, RcIn w B e.r e.va e.vb e.vt e.vd
theorem EntAt.move {w w' : World} {B : Nat} {T T' : Nat → Prop} {pb : Nat} {A : Option Addr} {c : Nat} {es : List Ent} (h : EntAt w B T pb A c es) (hf : Fr (fun x => T x ∨ x = pb) w w') (hb : Below B w w') (hn : ∀ x, T' x → T x ∨ w.heap.size ≤ x) : EntAt w' B T' pb A c es :=
  ⟨Disk.own_frS h.own hf (fun k hk hx => by
    rcases hx with hx | hx
    · exact (h.far k hk).1 hx
    · exact (h.far k hk).2.1 hx), fun k hk => ⟨fun hx => by
    rcases hn k hx with h1 | h1
    · exact (h.far k hk).1 h1
    · have := (h.own.lt k hk).2; omega, (h.far k hk).2⟩, fun e he => (h.inn e he).below hb⟩
@[reducible] def plC (g t : Nat) (b0 l0 : Int) (v0 : Value) (b1 l1 : Int) (v1 : Value) : Array Value := #[.pointer (some ⟨g, 0, none⟩), .pointer (some ⟨t, 0, none⟩), .int .u64 b0, .int .u64 l0, v0, .int .u64 b1, .int .u64 l1, v1]
structure PlAt (w : World) (B : Nat) (T : Nat → Prop) (pb t g : Nat) (fv : Nat → Value) (D : Dv) (L : Lv) (b0 l0 : Int) (A0 : Option Addr) (c0 : Nat) (e0 : List Ent) (b1 l1 : Int) (A1 : Option Addr) (c1 : Nat) (e1 : List Ent) : Prop where
  lg : LgAt w T t g fv D L
  bx : Box w pb (plC g t b0 l0 (.slice A0 e0.length c0) b1 l1 (.slice A1 e1.length c1)) 35
  tB : ∀ x, T x → B ≤ x ∧ x < w.heap.size
  pT : ¬ T pb
  pB : B ≤ pb
  a0 : EntAt w B T pb A0 c0 e0
  a1 : EntAt w B T pb A1 c1 e1
theorem EntAt.nil (w : World) (B : Nat) (T : Nat → Prop) (pb : Nat) : EntAt w B T pb none 0 [] := ⟨World.ownsRow_nil _ _ _ _, (fun k hk => by cases hk), (fun e he => by cases he)⟩
theorem ent_info : (Try.prog.info? 58).map (fun i => (i.zero.map (fun z => z.cells.size), i.size, decide (i.bytes ≤ 1000))) = some (some 13, 13, true) := by kernel_rfl
theorem ent_parts : ∃ (i : TypeInfo) (z : Value), Try.prog.info? 58 = some i ∧ i.zero = some z ∧ i.size = 13 ∧ z.cells.size = 13 ∧ i.bytes ≤ 1000 := by
  have h := ent_info
  cases hi : Try.prog.info? 58 with
  | none => rw [hi] at h; cases h
  | some i =>
    rw [hi] at h
    simp only [Option.map_some, Option.some.injEq, Prod.mk.injEq] at h
    cases hz : i.zero with
    | none => rw [hz] at h; cases h.1
    | some z =>
      rw [hz] at h
      simp only [Option.map_some, Option.some.injEq] at h
      exact ⟨i, z, rfl, hz, h.2.1, h.1, of_decide_eq_true h.2.2⟩
theorem plat_of {w w2 w3 : World} {B : Nat} {T : Nat → Prop} {pb t g : Nat} {fv : Nat → Value} {D' : Dv} {L' : Lv} {b1 l1 : Int} {A1 : Option Addr} {c1 : Nat} {e1 : List Ent} (hT : ∀ x, T x → B ≤ x ∧ x < w.heap.size) (hp : ¬ T pb) (hpB : B ≤ pb) (hsz : w.heap.size ≤ w2.heap.size ∧ B ≤ w.heap.size) (hb2 : Below B w w2)
    (P2 : Box w2 pb (plC g t b1 l1 (.slice A1 e1.length c1) b1 l1 (.slice A1 e1.length c1)) 35) (a2 : EntAt w2 B T pb A1 c1 e1) (lg : LgAt w3 (growS w2 w3 T) t g fv D' L') (fr : Fr T w2 w3) :
    PlAt w3 B (growS w2 w3 T) pb t g fv D' L' b1 l1 A1 c1 e1 b1 l1 A1 c1 e1 ∧ Below B w w3 := by
  have hb3 : Below B w2 w3 := fr.to_below (fun k hk => (hT k hk).1) (by omega)
  have hsz3 := fr.size
  have ha := a2.move (T' := growS w2 w3 T) (fr.mono (fun _ _ h => .inl h)) hb3 (fun x hx => by
    rcases hx with h | h
    · exact .inl h
    · exact .inr h.1)
  refine ⟨⟨lg, P2.fr fr hp, fun x hx => ?_, fun hx => ?_, hpB, ha, ha⟩, hb2.trans hb3⟩
  · rcases hx with h | h
    · have := hT x h; omega
    · omega
  · rcases hx with h | h
    · exact hp h
    · have := P2.lt; omega
theorem plat_all {w3 : World} {B : Nat} {T : Nat → Prop} {pb t g : Nat} {fv : Nat → Value} {D' : Dv} {L' : Lv} {b0 l0 b1 l1 : Int} {A0 A1 A2 : Option Addr} {c0 c1 c2 : Nat} {e0 e1 e2 : List Ent} (h : PlAt w3 B T pb t g fv D' L' b0 l0 A0 c0 e0 b1 l1 A1 c1 e1) (a2 : EntAt w3 B T pb A2 c2 e2) :
    PlAt (w3.setCell ⟨pb, 7, none⟩ (.slice A2 e2.length c2)) B T pb t g fv D' L' b0 l0 A0 c0 e0 b1 l1 A2 c2 e2 ∧ Below B w3 (w3.setCell ⟨pb, 7, none⟩ (.slice A2 e2.length c2)) := by
  have hf : Fr (fun x => x = pb) w3 (w3.setCell ⟨pb, 7, none⟩ (.slice A2 e2.length c2)) := (Fr.refl (fun x => x = pb) w3).setCell (p := ⟨pb, 7, none⟩) (.inl rfl) _
  have hb : Below B w3 (w3.setCell ⟨pb, 7, none⟩ (.slice A2 e2.length c2)) := (Below.refl _ _).setCell (p := ⟨pb, 7, none⟩) h.pB _
  have hf2 := hf.mono (S' := fun x => T x ∨ x = pb) (fun _ _ h => .inr h)
  have b := h.bx.set_ 7 (.slice A2 e2.length c2)
  simp only [List.setIfInBounds_toArray, List.set_cons_succ, List.set_cons_zero] at b
  exact ⟨⟨h.lg.far hf (fun x hx e => h.pT (e ▸ hx)), b, fun x hx => by have := h.tB x hx; simpa [World.setCell] using this, h.pT, h.pB, h.a0.move hf2 hb (fun x hx => .inl hx), a2.move hf2 hb (fun x hx => .inl hx)⟩, hb⟩
theorem PlAt.later {w w' : World} {B : Nat} {T : Nat → Prop} {pb t g : Nat} {fv : Nat → Value} {D : Dv} {L : Lv} {b0 l0 b1 l1 : Int} {A0 A1 : Option Addr} {c0 c1 : Nat} {e0 e1 : List Ent} (h : PlAt w B T pb t g fv D L b0 l0 A0 c0 e0 b1 l1 A1 c1 e1) (hb : Below w.heap.size w w') : PlAt w' B T pb t g fv D L b0 l0 A0 c0 e0 b1 l1 A1 c1 e1 := by
  have hB : B ≤ w.heap.size := Nat.le_trans h.pB (Nat.le_of_lt h.bx.lt)
  have hf : Fr (fun x => T x ∨ x = pb) w w' := Fr.of_below hb
  exact ⟨h.lg.later hb, h.bx.later hb, fun x hx => by have := h.tB x hx; have := hb.size; omega, h.pT, h.pB, h.a0.move hf (hb.mono hB) (fun x hx => .inl hx), h.a1.move hf (hb.mono hB) (fun x hx => .inl hx)⟩
def MidP (w : World) (B : Nat) (pb t g : Nat) (fv : Nat → Value) (D : Dv) (L : Lv) (b1 l1 : Int) (A1 : Option Addr) (c1 : Nat) (e1 : List Ent) (o : Oq) (wx : World) : Prop :=
  ∃ T' D' L' A2 c2 e2, StepR D L e1 o D' L' e2 ∧ PlAt wx B T' pb t g fv D' L' b1 l1 A1 c1 e1 b1 l1 A2 c2 e2 ∧ Below B w wx
set_option maxHeartbeats 16000000 in
theorem step_any {w : World} {B : Nat} {T : Nat → Prop} {pb t g : Nat} {fv : Nat → Value} {D : Dv} {L : Lv} {b0 l0 : Int} {A0 : Option Addr} {c0 : Nat} {e0 : List Ent} {b1 l1 : Int} {A1 : Option Addr} {c1 : Nat} {e1 : List Ent}
    (h : PlAt w B T pb t g fv D L b0 l0 A0 c0 e0 b1 l1 A1 c1 e1) (rs : List Rc) (j : Nat) (ok : RunOk D L rs e1 j) (hj : j < 50) (o : Oq) (ho : OqAt w B o) :
    Calls Try.prog 29 #[.pointer (some ⟨pb, 0, none⟩), .agg (cOq o).toArray] w fun e w' => e = .returned (.tuple #[]) ∧ ∃ T' D' L' A2 c2 e2, StepR D L e1 o D' L' e2 ∧ PlAt w' B T' pb t g fv D' L' b1 l1 A1 c1 e1 L'.h.ba (L'.h.ba + L'.la) A2 c2 e2 ∧ Below B w w' := by
  have lv := ok.lv (by omega)
  have hB : B ≤ w.heap.size := Nat.le_trans h.pB (Nat.le_of_lt h.bx.lt)
  obtain ⟨⟨V1, d1, f1⟩, ⟨V2, d2, f2⟩, ⟨V3, d3, f3⟩, ⟨V4, d4, f4⟩, ⟨V5, d5, f5⟩⟩ := ho.forms
  have hoq : (cOq o).toArray = #[.int .u8 o.k, .int .u8 o.r.k, .int .u32 o.r.t, .int .u64 o.r.p, .int .u64 o.r.n, .int .u32 o.r.c.pg, .int .u16 o.r.c.sl, .bool o.r.c.had, .bool o.r.c.has, .slice V1 o.r.c.xs.length d1, .slice V2 o.r.c.ys.length d2, .slice V3 o.r.ts.length d3, .slice V4 o.r.ds.length d4, .int .u64 o.sp, .int .u64 o.at_, .slice V5 o.fs.length d5] := by unfold cOq; rw [f1, f2, f3, f4, f5]
  rw [hoq]
  obtain ⟨OC, hOC⟩ : ∃ OC : Array Value, OC = #[.int .u8 o.k, .int .u8 o.r.k, .int .u32 o.r.t, .int .u64 o.r.p, .int .u64 o.r.n, .int .u32 o.r.c.pg, .int .u16 o.r.c.sl, .bool o.r.c.had, .bool o.r.c.has, .slice V1 o.r.c.xs.length d1, .slice V2 o.r.c.ys.length d2, .slice V3 o.r.ts.length d3, .slice V4 o.r.ds.length d4, .int .u64 o.sp, .int .u64 o.at_, .slice V5 o.fs.length d5] := ⟨_, rfl⟩
  have X1 := Box.new w OC 61
  have bb1 := new_ (Below.refl w.heap.size w) (.cells OC 61)
  obtain ⟨z, hz⟩ : ∃ z, w.heap.size = z := ⟨_, rfl⟩
  obtain ⟨w1, hw1⟩ : ∃ w1, w.alloc (.cells OC 61) = w1 := ⟨_, rfl⟩
  rw [hw1] at X1 bb1
  rw [hz] at X1
  have hpz : pb < z := by rw [← hz]; exact h.bx.lt
  have P1 := h.bx.later bb1
  have p5 := P1.cell 5
  have p6 := P1.cell 6
  have p7 := P1.cell 7
  have p2 := P1.cell 2
  have p3 := P1.cell 3
  have p4 := P1.cell 4
  have q2 := P1.frozen 2
  have q3 := P1.frozen 3
  have q4 := P1.frozen 4
  have P2 := ((P1.set_ 2 (.int .u64 b1)).set_ 3 (.int .u64 l1)).set_ 4 (.slice A1 e1.length c1)
  simp only [List.setIfInBounds_toArray, List.set_cons_succ, List.set_cons_zero] at P2
  have F2 := (((Fr.of_below (S := fun x => x = pb) bb1).setCell (p := ⟨pb, 2, none⟩) (.inl rfl) (.int .u64 b1)).setCell (p := ⟨pb, 3, none⟩) (.inl rfl) (.int .u64 l1)).setCell (p := ⟨pb, 4, none⟩) (.inl rfl) (.slice A1 e1.length c1)
  have X2 := ((X1.far (p := ⟨pb, 2, none⟩) (show z ≠ pb by omega) (.int .u64 b1)).far (p := ⟨pb, 3, none⟩) (show z ≠ pb by omega) (.int .u64 l1)).far (p := ⟨pb, 4, none⟩) (show z ≠ pb by omega) (.slice A1 e1.length c1)
  obtain ⟨w2, hw2⟩ : ∃ w2, ((w1.setCell ⟨pb, 2, none⟩ (.int .u64 b1)).setCell ⟨pb, 3, none⟩ (.int .u64 l1)).setCell ⟨pb, 4, none⟩ (.slice A1 e1.length c1) = w2 := ⟨_, rfl⟩
  rw [hw2] at P2 F2 X2
  have hb2 : Below B w w2 := F2.to_below (fun k hk => by rw [hk]; exact h.pB) hB
  have lg2 := h.lg.far F2 (fun x hx e => h.pT (e ▸ hx))
  have a2 := h.a1.move (T' := T) (F2.mono (fun _ _ hx => .inr hx)) hb2 (fun x hx => .inl hx)
  have oq2 := ho.below hb2
  have m0 : w2.cell? ⟨z, 0, none⟩ = some (.int .u8 o.k) := by rw [X2.cell, hOC]; rfl
  obtain ⟨kd, hkd⟩ : ∃ kd, o.k % 11 = kd := ⟨_, rfl⟩
  have hkt : o.k.tmod 11 = kd := by rw [Int.tmod_eq_emod_of_nonneg ho.k.1]; exact hkd
  have hkb : 0 ≤ kd ∧ kd ≤ 10 := by have := Int.emod_nonneg o.k (show (11 : Int) ≠ 0 by decide); have := Int.emod_lt_of_pos o.k (show (0 : Int) < 11 by decide); omega
  have wkd : IntKind.u8.wrap kd = kd := by rw [IntKind.wrap_u8]; omega
  have HLG := Lib.hid lg2
  have HX2 := Lib.hid X2
  have HP2 := Lib.hid P2
  have HA2 := Lib.hid a2
  have HOQ := Lib.hid oq2
  have HB2 := Lib.hid hb2
  have HOC := Lib.hid hOC
  have OK := Lib.hid ok
  have LV := Lib.hid lv
  have HH := Lib.hid h
  have HJ := Lib.hid hj
  have HKD := Lib.hid hkd
  have HKB := Lib.hid hkb
  have HZ := Lib.hid (show w.heap.size = z from hz)
  have HZB := Lib.hid (show w.heap.size ≤ w2.heap.size ∧ B ≤ w.heap.size from ⟨F2.size, hB⟩)
  have HRI2 := Lib.hid (show ∀ W, Below B w2 W → RcIn W B o.r (.slice V1 o.r.c.xs.length d1) (.slice V2 o.r.c.ys.length d2) (.slice V3 o.r.ts.length d3) (.slice V4 o.r.ds.length d4) from fun W hb => by
    have := oq2.i.below hb
    rw [f1, f2, f3, f4] at this
    exact this)
  have HRI := Lib.hid (show ∀ W, B ≤ W.heap.size → Below B w2 W → RcIn W W.heap.size o.r (.slice V1 o.r.c.xs.length d1) (.slice V2 o.r.c.ys.length d2) (.slice V3 o.r.ts.length d3) (.slice V4 o.r.ds.length d4) from fun W hW hb => by
    have := oq2.i.below hb
    rw [f1, f2, f3, f4] at this
    exact ⟨this.a.more hW, this.b.more hW, this.t.more hW, this.d.more hW⟩)
  rw [← hoq, hoq, ← hOC]
  clear hOC lg2 X2 P2 a2 oq2 hb2 ok lv h hj hkd hkb F2 P1 X1 bb1 hpz hB ho hoq f1 f2 f3 f4 f5
  go_enter Try.func29, Try.ntmps29
  go_upto_block 0 with fail
  clear hz
  go_cut [] (fun wx => MidP w B pb t g fv D L b1 l1 A1 c1 e1 o wx)
  case first =>
    have cz : ∀ i, w2.cell? ⟨z, i, none⟩ = OC[i]? := fun i => HX2.out.cell i
    have m14 : w2.cell? ⟨z, 14, none⟩ = some (.int .u64 o.at_) := by rw [cz, HOC.out]; rfl
    have r1 : w2.cell? ⟨pb, 1, none⟩ = some (.pointer (some ⟨t, 0, none⟩)) := HP2.out.cell 1
    have KEEP := Lib.hid (show ∀ W, Fr T w2 W → (W.cell? ⟨pb, 1, none⟩ = some (.pointer (some ⟨t, 0, none⟩)) ∧ W.cell? ⟨z, 14, none⟩ = some (.int .u64 o.at_)) from fun W hf => ⟨(HP2.out.fr hf HH.out.pT).cell 1, (hf.cell (p := ⟨z, 14, none⟩) HX2.out.lt (fun hx => by have := (HH.out.tB z hx).2; have := HZ.out; omega)).trans m14⟩)
    have HW2 := Lib.hid (show Below w2.heap.size w2 w2.drew from (Below.refl _ _).drew)
    have LG2 := HLG.out.later HW2.out
    clear cz
    have A2d := Lib.hid (HA2.out.move (w' := w2.drew) (T' := T) (Fr.of_below HW2.out) (HW2.out.mono (by have := HZB.out; omega)) (fun x hx => .inl hx))
    have PD := Lib.hid (fun W3 D' L' (hlg : LgAt W3 (growS w2.drew W3 T) t g fv D' L') (hfr : Fr T w2.drew W3) => plat_of (w2 := w2.drew) HH.out.tB HH.out.pT HH.out.pB ⟨HZB.out.1, HZB.out.2⟩ (show Below B w w2.drew from HB2.out.drew) (HP2.out.later HW2.out) A2d.out hlg hfr)
    have PE := Lib.hid (fun W3 D' L' (hlg : LgAt W3 (growS w2 W3 T) t g fv D' L') (hfr : Fr T w2 W3) => plat_of HH.out.tB HH.out.pT HH.out.pB ⟨HZB.out.1, HZB.out.2⟩ HB2.out HP2.out HA2.out hlg hfr)
    by_cases k4 : kd = 4
    · have t4 : (kd == 4) = true := by rw [k4]; rfl
      have CF := Lib.hid (flush_any LG2 LV.out _ OK.out.few (by have := HJ.out; omega) o.at_)
      have KD4 := Lib.hid (show o.k % 11 = 4 from HKD.out.trans k4)
      have K0 := Lib.hid (KEEP.out _ (Fr.of_below HW2.out))
      clear k4 LG2 m14 r1
      go_upto_region 4 with fail
      go_region_held3 (fun W => W.cell? ⟨pb, 1, none⟩ = some (.pointer (some ⟨t, 0, none⟩)) ∧ W.cell? ⟨z, 14, none⟩ = some (.int .u64 o.at_))
        (first | exact K0.out | exact K1.out | (go_split_ands; first | exact K0.out | exact K1.out))
        (first
        | (go_at_call 47
           (with_reducible refine CF.out.mono ?_)
           rintro er w3 ⟨rfl, k, hk, hlg, hfr⟩
           have HM := Lib.hid (PD.out _ _ _ hlg hfr)
           have HK := Lib.hid hk
           have K1 := Lib.hid (KEEP.out _ ((Fr.of_below HW2.out).trans hfr))
           clear hk hlg hfr))
      go_wp2
      go_meet
      exact ⟨_, _, _, A1, c1, e1, .inl ⟨KD4.out, k, HK.out, rfl, rfl, rfl⟩, HM.out.1, HM.out.2⟩
    by_cases k6 : kd = 6
    · have t4 : (kd == 4) = false := by simp; omega
      have t6 : (kd == 6) = true := by rw [k6]; rfl
      have CF := Lib.hid (mark_any LG2 LV.out OK.out.h0 _ OK.out.few (by have := HJ.out; omega) o.at_ HOQ.out.at_)
      have KD4 := Lib.hid (show o.k % 11 = 6 from HKD.out.trans k6)
      have K0 := Lib.hid (KEEP.out _ (Fr.of_below HW2.out))
      clear k4 k6 LG2 m14 r1
      go_upto_region 6 with fail
      go_region_held3 (fun W => W.cell? ⟨pb, 1, none⟩ = some (.pointer (some ⟨t, 0, none⟩)) ∧ W.cell? ⟨z, 14, none⟩ = some (.int .u64 o.at_))
        (first | exact K0.out | exact K1.out | (go_split_ands; first | exact K0.out | exact K1.out))
        (first
        | (go_at_call 26
           (with_reducible refine CF.out.mono ?_)
           rintro er w3 ⟨rfl, hlg, hfr⟩
           have HM := Lib.hid (PD.out _ _ _ hlg hfr)
           have K1 := Lib.hid (KEEP.out _ ((Fr.of_below HW2.out).trans hfr))
           clear hlg hfr))
      go_wp2
      go_meet
      exact ⟨_, _, _, A1, c1, e1, .inr (.inl ⟨KD4.out, rfl, rfl, rfl⟩), HM.out.1, HM.out.2⟩
    by_cases k7 : kd = 7
    · have t4 : (kd == 4) = false := by simp; omega
      have t6 : (kd == 6) = false := by simp; omega
      have t7 : (kd == 7) = true := by rw [k7]; rfl
      have CF := Lib.hid (renew_any HLG.out LV.out OK.out.h0 _ OK.out.few (by have := HJ.out; omega))
      have KD4 := Lib.hid (show o.k % 11 = 7 from HKD.out.trans k7)
      clear k4 k6 k7 LG2 m14
      go_wp2_with fail
      (with_reducible refine CF.out.mono ?_)
      rintro er w3 ⟨rfl, hlg, hfr⟩
      have hm := PE.out _ _ _ hlg hfr
      have HM := Lib.hid hm
      have n7 := hm.1.bx.cell 7
      have g7 := hm.1.bx.frozen 7
      have HS := Lib.hid (plat_all hm.1 (EntAt.nil _ _ _ _))
      clear hm hlg hfr
      go_wp2
      go_meet
      exact ⟨_, _, _, none, 0, [], .inr (.inr (.inl ⟨KD4.out, rfl, rfl, rfl⟩)), HS.out.1, HM.out.2.trans HS.out.2⟩
    have t4 : (kd == 4) = false := by simp; omega
    have t6 : (kd == 6) = false := by simp; omega
    have t7 : (kd == 7) = false := by simp; omega
    by_cases k3 : kd ≤ 3
    · have HK3 := Lib.hid (show o.k % 11 ≤ 3 by rw [HKD.out]; exact k3)
      have h0123 : kd = 0 ∨ kd = 1 ∨ kd = 2 ∨ kd = 3 := by have := HKB.out; omega
      clear k4 k6 k7 k3
      obtain ⟨sp, hsp⟩ : ∃ sp : Nat, (o.sp % 100).toNat = sp := ⟨_, rfl⟩
      have hsp2 : o.sp.tmod 100 = (sp : Int) := by rw [Int.tmod_eq_emod_of_nonneg HOQ.out.sp.1]; have := Int.emod_nonneg o.sp (show (100 : Int) ≠ 0 by decide); omega
      have hsp3 : sp < 100 := by have := Int.emod_lt_of_pos o.sp (show (0 : Int) < 100 by decide); omega
      have wsp : IntKind.u64.wrap (sp : Int) = (sp : Int) := by rw [IntKind.wrap_u64]; omega
      have HSP := Lib.hid hsp
      have FO := Lib.hid (HOQ.out.forms)
      obtain ⟨E, hE⟩ : ∃ E, apE D L o.r sp = E := ⟨_, rfl⟩
      have HE := Lib.hid hE
      have cz : ∀ i, w2.cell? ⟨z, i, none⟩ = OC[i]? := fun i => HX2.out.cell i
      have KO := Lib.hid (show ∀ W, Fr T w2 W → (W.cell? ⟨pb, 1, none⟩ = some (.pointer (some ⟨t, 0, none⟩)) ∧ W.cell? ⟨z, 13, none⟩ = some (.int .u64 o.sp) ∧ W.cell? ⟨z, 1, none⟩ = some (.int .u8 o.r.k) ∧ W.cell? ⟨z, 2, none⟩ = some (.int .u32 o.r.t) ∧ W.cell? ⟨z, 3, none⟩ = some (.int .u64 o.r.p) ∧ W.cell? ⟨z, 4, none⟩ = some (.int .u64 o.r.n) ∧ W.cell? ⟨z, 5, none⟩ = some (.int .u32 o.r.c.pg) ∧ W.cell? ⟨z, 6, none⟩ = some (.int .u16 o.r.c.sl) ∧ W.cell? ⟨z, 7, none⟩ = some (.bool o.r.c.had) ∧ W.cell? ⟨z, 8, none⟩ = some (.bool o.r.c.has) ∧ W.cell? ⟨z, 9, none⟩ = some (.slice V1 o.r.c.xs.length d1) ∧ W.cell? ⟨z, 10, none⟩ = some (.slice V2 o.r.c.ys.length d2) ∧ W.cell? ⟨z, 11, none⟩ = some (.slice V3 o.r.ts.length d3) ∧ W.cell? ⟨z, 12, none⟩ = some (.slice V4 o.r.ds.length d4)) from fun W hf => by
        have q : ∀ i, W.cell? ⟨z, i, none⟩ = OC[i]? := fun i => (hf.cell (p := ⟨z, i, none⟩) HX2.out.lt (fun hx => by have := (HH.out.tB z hx).2; have := HZ.out; omega)).trans (cz i)
        rw [HOC.out] at q
        exact ⟨(HP2.out.fr hf HH.out.pT).cell 1, q 13, q 1, q 2, q 3, q 4, q 5, q 6, q 7, q 8, q 9, q 10, q 11, q 12⟩)
      have CA := append_any LG2 LV.out o.r HOQ.out.r (.slice V1 o.r.c.xs.length d1) (.slice V2 o.r.c.ys.length d2) (.slice V3 o.r.ts.length d3) (.slice V4 o.r.ds.length d4) (HRI.out w2.drew (by have := HZB.out; show B ≤ w2.heap.size; omega) (show Below B w2 w2.drew from HW2.out.mono (by have := HZB.out; omega))) sp (by omega)
      rw [hE] at CA
      have K0 := Lib.hid (KO.out _ (Fr.of_below HW2.out))
      clear hsp hsp3 hE cz LG2 m14 r1
      by_cases h0 : E = 0
      · rw [h0, if_pos rfl, if_pos rfl, show ((0 : Nat) : Int) = 0 from rfl] at CA
        have CB := Lib.hid CA
        obtain ⟨PL, hPL⟩ : ∃ PL, L.h.ba + (L.ys.length : Int) = PL := ⟨_, rfl⟩
        rw [hPL] at CB
        have HPL := Lib.hid hPL
        have HE0 := Lib.hid (show apE D L o.r (o.sp % 100).toNat = 0 by rw [HSP.out, HE.out, h0])
        obtain ⟨ji, jz, hj1, hj2, hj3, hj4, hj5⟩ := ent_parts
        have hn1 : e1.length ≤ 4000 := by
          have h1 := congrArg List.length OK.out.ent.1
          rw [List.length_map] at h1
          have h2 := strm_many OK.out.good
          have h3 := LV.out.nn
          rw [OK.out.ys] at h3
          omega
        have HN1 := Lib.hid hn1
        obtain ⟨y, hy⟩ : ∃ y : Ent, y = ⟨PL, o.r, (V1, d1), (V2, d2), (V3, d3), (V4, d4)⟩ := ⟨_, rfl⟩
        have HY := Lib.hid hy
        clear hn1 hy
        clear CA h0 hPL
        rcases h0123 with rfl | rfl | rfl | rfl
        all_goals
          go_upto_region 14 with fail
          go_region_held3 (fun W => W.cell? ⟨pb, 1, none⟩ = some (.pointer (some ⟨t, 0, none⟩)) ∧ W.cell? ⟨z, 13, none⟩ = some (.int .u64 o.sp) ∧ W.cell? ⟨z, 1, none⟩ = some (.int .u8 o.r.k) ∧ W.cell? ⟨z, 2, none⟩ = some (.int .u32 o.r.t) ∧ W.cell? ⟨z, 3, none⟩ = some (.int .u64 o.r.p) ∧ W.cell? ⟨z, 4, none⟩ = some (.int .u64 o.r.n) ∧ W.cell? ⟨z, 5, none⟩ = some (.int .u32 o.r.c.pg) ∧ W.cell? ⟨z, 6, none⟩ = some (.int .u16 o.r.c.sl) ∧ W.cell? ⟨z, 7, none⟩ = some (.bool o.r.c.had) ∧ W.cell? ⟨z, 8, none⟩ = some (.bool o.r.c.has) ∧ W.cell? ⟨z, 9, none⟩ = some (.slice V1 o.r.c.xs.length d1) ∧ W.cell? ⟨z, 10, none⟩ = some (.slice V2 o.r.c.ys.length d2) ∧ W.cell? ⟨z, 11, none⟩ = some (.slice V3 o.r.ts.length d3) ∧ W.cell? ⟨z, 12, none⟩ = some (.slice V4 o.r.ds.length d4))
            (first | exact K0.out | exact K1.out | (go_split_ands; first | exact K0.out | exact K1.out))
            (first
            | (go_at_call 23
               (with_reducible refine CB.out.mono ?_)
               rintro er w3 ⟨rfl, hlg, hfr⟩
               have HM := Lib.hid (PD.out _ _ _ hlg hfr)
               have HFT := Lib.hid hfr
               have K1 := Lib.hid (KO.out _ ((Fr.of_below HW2.out).trans hfr))
               clear hlg hfr))
          have pl3 := HM.out.1
          have ss3 := SS.of_own cEnt_len pl3.a1.own
          have c7 := pl3.bx.cell 7
          have SS3 := Lib.hid ss3
          have hB3 : B ≤ w3.heap.size := by have := pl3.bx.lt; have := pl3.pB; omega
          have HB3 := Lib.hid hB3
          clear pl3 ss3 hB3
          go_wp2_with (first
            | (at_builtin
               refine wpList_append_ss _ rfl _ _ _ rfl w3.heap.size 58 ji jz ji.bytes Try.underlying31 hj1 hj2 hj3 rfl hj4 (by decide) cEnt_len cEnt_one _ [] rfl (World.ownsRow_nil _ _ _ _) _ _ e1 rfl SS3.out (by have := HN1.out; simp only [maxLen, List.length_nil]; omega) (by rw [List.length_nil, Nat.zero_add]; exact Nat.le_trans (Nat.mul_le_mul HN1.out hj5) (by decide)) (Nat.le_refl _) ?_
               intro v4 w4 ho4 hr4
               rw [List.nil_append] at ho4
               have HO4 := Lib.hid ho4
               have HR4 := Lib.hid hr4.all
               have K4 := KO.out w4 (((Fr.of_below HW2.out).trans HFT.out).below HR4.out)
               obtain ⟨A4, c4', e4⟩ := own_slice' ho4
               subst e4
               clear ho4 hr4)
            | (at_builtin
               refine wpList_push_ss _ rfl _ _ _ rfl w3.heap.size 58 ji jz ji.bytes Try.underlying31 hj1 hj2 hj3 rfl hj4 (by decide) cEnt_len cEnt_one _ e1 rfl (World.ownsRow.alloc HO4.out _) w4.heap.size y 58 rfl (by rw [HY.out]; exact Box.new w4 _ _) (by have := HN1.out; simp only [maxLen]; omega) (Nat.le_trans (Nat.mul_le_mul (show e1.length + 1 ≤ 4001 by have := HN1.out; omega) hj5) (by decide)) (by have := HR4.out.size; simp; omega) ?_
               intro v5 w5 ho5 hr5
               have HO5 := Lib.hid ho5
               obtain ⟨A5, c5, e5⟩ := own_slice' ho5
               subst e5
               have HB5 := Lib.hid ((HR4.out.alloc HR4.out.size _).trans (hr5.below (B := w3.heap.size) (fun k hk => (HO4.out.lt k hk).1) (by have := HR4.out.size; simp; omega)))
               have pl5 := HM.out.1.later HB5.out
               have c7' := pl5.bx.cell 7
               have f7' := pl5.bx.frozen 7
               have HP5 := Lib.hid pl5
               clear ho5 hr5 pl5))
          go_meet
          have hT' : ∀ x, growS w2.drew w3 T x → x < w3.heap.size := fun x hx => (HM.out.1.tB x hx).2
          have hpb3 := HM.out.1.bx.lt
          have e6 : (e1 ++ [y]).length = e1.length + 1 := by rw [List.length_append]; rfl
          have hb35 : Below B w3 w5 := HB5.out.mono HB3.out
          have ha5 : EntAt w5 B (growS w2.drew w3 T) pb A5 c5 (e1 ++ [y]) := ⟨own_lower HO5.out (Nat.zero_le _), fun k hk => by
            have h1 := (HO5.out.lt k hk).1
            have := HB3.out
            exact ⟨fun hx => by have := hT' k hx; omega, by omega, by omega⟩, fun e he => by
            rcases List.mem_append.1 he with he | he
            · exact (HM.out.1.a1.inn e he).below hb35
            · rw [List.mem_singleton.1 he, HY.out]
              have := HRI2.out w5 ((show Below B w2 w2.drew from HW2.out.mono (by have := HZB.out; omega)).trans ((HFT.out.to_below (fun k hk => (HH.out.tB k hk).1) (by have := HZB.out; show B ≤ w2.heap.size; omega)).trans hb35))
              exact this⟩
          have hpl := plat_all HP5.out ha5
          rw [e6] at hpl
          exact ⟨_, _, _, A5, c5, e1 ++ [y], .inr (.inr (.inr (.inl ⟨HK3.out, rfl, HE0.out, rfl, y, by rw [HY.out], by rw [HY.out, HPL.out], rfl⟩))), hpl.1, HM.out.2.trans (hb35.trans hpl.2)⟩
      · rw [if_neg h0, if_neg h0] at CA
        have CB := Lib.hid CA
        have te : (((E : Nat) : Int) == 0) = false := by simp; omega
        have HS := Lib.hid (show StepR D L e1 o D L e1 from .inr (.inr (.inr (.inr (.inl ⟨HK3.out, rfl, by rw [HSP.out, HE.out]; exact h0, rfl, rfl⟩)))))
        clear CA h0
        rcases h0123 with rfl | rfl | rfl | rfl
        all_goals
          go_upto_region 14 with fail
          go_region_held3 (fun W => W.cell? ⟨pb, 1, none⟩ = some (.pointer (some ⟨t, 0, none⟩)) ∧ W.cell? ⟨z, 13, none⟩ = some (.int .u64 o.sp) ∧ W.cell? ⟨z, 1, none⟩ = some (.int .u8 o.r.k) ∧ W.cell? ⟨z, 2, none⟩ = some (.int .u32 o.r.t) ∧ W.cell? ⟨z, 3, none⟩ = some (.int .u64 o.r.p) ∧ W.cell? ⟨z, 4, none⟩ = some (.int .u64 o.r.n) ∧ W.cell? ⟨z, 5, none⟩ = some (.int .u32 o.r.c.pg) ∧ W.cell? ⟨z, 6, none⟩ = some (.int .u16 o.r.c.sl) ∧ W.cell? ⟨z, 7, none⟩ = some (.bool o.r.c.had) ∧ W.cell? ⟨z, 8, none⟩ = some (.bool o.r.c.has) ∧ W.cell? ⟨z, 9, none⟩ = some (.slice V1 o.r.c.xs.length d1) ∧ W.cell? ⟨z, 10, none⟩ = some (.slice V2 o.r.c.ys.length d2) ∧ W.cell? ⟨z, 11, none⟩ = some (.slice V3 o.r.ts.length d3) ∧ W.cell? ⟨z, 12, none⟩ = some (.slice V4 o.r.ds.length d4))
            (first | exact K0.out | exact K1.out | (go_split_ands; first | exact K0.out | exact K1.out))
            (first
            | (go_at_call 23
               (with_reducible refine CB.out.mono ?_)
               rintro er w3 ⟨rfl, hlg, hfr⟩
               have HM := Lib.hid (PD.out _ _ _ hlg hfr)
               have HFT := Lib.hid hfr
               have K1 := Lib.hid (KO.out _ ((Fr.of_below HW2.out).trans hfr))
               clear hlg hfr))
          go_wp2
          go_meet
          exact ⟨_, D, L, A1, c1, e1, HS.out, HM.out.1, HM.out.2⟩
    · have t0 : (kd == 0) = false := by have := HKB.out; simp; omega
      have t1 : (kd == 1) = false := by have := HKB.out; simp; omega
      have t2 : (kd == 2) = false := by have := HKB.out; simp; omega
      have t3 : (kd == 3) = false := by have := HKB.out; simp; omega
      have HS := Lib.hid (show StepR D L e1 o D L e1 from .inr (.inr (.inr (.inr (.inr ⟨by rw [HKD.out]; exact k4, by rw [HKD.out]; exact k6, by rw [HKD.out]; exact k7, by rw [HKD.out]; exact k3, rfl, rfl, rfl⟩)))))
      have HPL := Lib.hid (show PlAt w2 B T pb t g fv D L b1 l1 A1 c1 e1 b1 l1 A1 c1 e1 from ⟨HLG.out, HP2.out, fun x hx => by have := HH.out.tB x hx; have := HZB.out; omega, HH.out.pT, HH.out.pB, HA2.out, HA2.out⟩)
      clear k4 k6 k7 k3 LG2 m14 r1
      go_wp2
      go_meet
      exact ⟨T, D, L, A1, c1, e1, HS.out, HPL.out, HB2.out⟩
  case rest =>
    obtain ⟨T', D', L', A2, c2, e2, hst, hpl, hbw⟩ := hcut
    rename_i hK
    refine hK _ _ ?_
    obtain ⟨rs', ok'⟩ := OK.out.step (by have := HJ.out; omega) HOQ.out.r HOQ.out.at_ hst
    have lv' := ok'.lv (by have := HJ.out; omega)
    have CB := Lib.hid (base_lg hpl.lg)
    have s1 : wc.cell? ⟨pb, 1, none⟩ = some (.pointer (some ⟨t, 0, none⟩)) := hpl.bx.cell 1
    have s5 := hpl.bx.cell 5
    have g5 := hpl.bx.frozen 5
    have x5 := hpl.bx.set_ 5 (.int .u64 L'.h.ba)
    have fx := (Fr.refl (fun x => x = pb) wc).setCell (p := ⟨pb, 5, none⟩) (.inl rfl) (.int .u64 L'.h.ba)
    have l5 := hpl.lg.far fx (fun x hx e => hpl.pT (e ▸ hx))
    simp only [List.setIfInBounds_toArray, List.set_cons_succ, List.set_cons_zero] at x5
    obtain ⟨w5, hw5⟩ : ∃ w5, wc.setCell ⟨pb, 5, none⟩ (.int .u64 L'.h.ba) = w5 := ⟨_, rfl⟩
    rw [hw5] at x5 l5 fx
    have CL := Lib.hid (lasts_lg l5 lv')
    have s1' : w5.cell? ⟨pb, 1, none⟩ = some (.pointer (some ⟨t, 0, none⟩)) := x5.cell 1
    have s6 := x5.cell 6
    have g6 := x5.frozen 6
    have x6 := x5.set_ 6 (.int .u64 (L'.h.ba + L'.la))
    have fx6 := (fx.setCell (p := ⟨pb, 6, none⟩) (.inl rfl) (.int .u64 (L'.h.ba + L'.la)))
    simp only [List.setIfInBounds_toArray, List.set_cons_succ, List.set_cons_zero] at x6
    have HX6 := Lib.hid x6
    have HF6 := Lib.hid fx6
    have HPL := Lib.hid hpl
    have HST := Lib.hid hst
    have HBW := Lib.hid hbw
    clear hK hst hpl hbw lv' ok' x5 fx l5 x6 fx6
    go_wp2_with (first
      | (go_at_call 19; (with_reducible refine CB.out.mono ?_); rintro er w7 ⟨rfl, rfl⟩)
      | (go_at_call 14; (with_reducible refine CL.out.mono ?_); rintro er w7 ⟨rfl, rfl⟩))
    go_end0
    have h := HPL.out
    have hsz := HF6.out.size
    have hb6 : Below B wc (w5.setCell ⟨pb, 6, none⟩ (.int .u64 (L'.h.ba + L'.la))) := HF6.out.to_below (fun k hk => by rw [hk]; exact h.pB) (by have := h.bx.lt; have := h.pB; omega)
    have hf2 := HF6.out.mono (S' := fun x => T' x ∨ x = pb) (fun _ _ h => .inr h)
    exact ⟨rfl, T', D', L', A2, c2, e2, HST.out, ⟨h.lg.far HF6.out (fun x hx e => h.pT (e ▸ hx)), HX6.out, fun x hx => by have := h.tB x hx; omega, h.pT, h.pB, h.a0.move hf2 hb6 (fun x hx => .inl hx), h.a1.move hf2 hb6 (fun x hx => .inl hx)⟩, HBW.out.trans hb6⟩
end Go.Proofs.Yteggcehjpfmikaa.Wal
