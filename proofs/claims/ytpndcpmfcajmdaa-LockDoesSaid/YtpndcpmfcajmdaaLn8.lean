import Derived.Test.YtpndcpmfcajmdaaLn7
import Derived.StillTailTactics
namespace Go.Proofs.Ytpndcpmfcajmdaa.Lock
open Go.ChangeShapes Go.WideShapes Go.ChangeAt Go.RowKit Go.IntWalk Go.Proofs.Mem Law Go.Shelf Go.Proofs.Each
set_option linter.unusedVariables false
set_option linter.unusedSimpArgs false
def insN (h l : List Pl) (t : Int) : Nat := if 0 < lkM h t then (l.takeWhile fun q => decide (0 < lkM h q.t)).length else l.length
def rAsk (h l : List Pl) (t md : Int) (wq : Bool) : Bool × List Pl × List Pl :=
  if lkM h t = 2 ∨ lkM h t = md then (true, h, l)
  else if wq = true then (false, h, l)
  else if fitR h ⟨t, md⟩ = true ∧ (0 < lkM h t ∨ l = []) then (true, wo h t ++ [⟨t, md⟩], l)
  else (false, h, l.take (insN h l t) ++ [⟨t, md⟩] ++ l.drop (insN h l t))
theorem atT_get (L : List Rk) (k : Ky) : ∃ e, (atT L k)[atI L k]? = some e ∧ e.k = k := by
  have hle : atI L k ≤ L.length := tw_le
  have hn : (L.take (atI L k) ++ [Rk.new k] ++ L.drop (atI L k))[atI L k]? = some (Rk.new k) := by
    rw [List.append_assoc, List.getElem?_append_right (by rw [List.length_take]; omega), List.length_take, Nat.min_eq_left hle, Nat.sub_self]
    rfl
  unfold atT
  split
  · rename_i e he
    split
    · rename_i hk; exact ⟨e, he, hk⟩
    · exact ⟨_, hn, rfl⟩
  · exact ⟨_, hn, rfl⟩
theorem atT_len (L : List Rk) (k : Ky) : (atT L k).length ≤ L.length + 1 := by
  have hle : atI L k ≤ L.length := tw_le
  have hn : (L.take (atI L k) ++ [Rk.new k] ++ L.drop (atI L k)).length ≤ L.length + 1 := by
    simp only [List.length_append, List.length_take, List.length_drop, List.length_cons, List.length_nil]; omega
  unfold atT
  split
  · split
    · omega
    · exact hn
  · exact hn
theorem atT_mem {L : List Rk} {k : Ky} {e : Rk} (h : e ∈ atT L k) : e ∈ L ∨ e = Rk.new k := by
  have hn : e ∈ L.take (atI L k) ++ [Rk.new k] ++ L.drop (atI L k) → e ∈ L ∨ e = Rk.new k := fun h => by
    rcases List.mem_append.1 h with h1 | h1
    · rcases List.mem_append.1 h1 with h2 | h2
      · exact .inl (List.mem_of_mem_take h2)
      · exact .inr (List.mem_singleton.1 h2)
    · exact .inl (List.mem_of_mem_drop h1)
  unfold atT at h
  split at h
  · split at h
    · exact .inl h
    · exact hn h
  · exact hn h
theorem fin_same {w w2 W : World} {R R1 : Nat → Prop} {tb i : Nat} {L1 : List Rk} {e0 : Rk} (hf : Fr R w w2) (hr1 : ∀ x, R1 x → R x ∨ w.heap.size ≤ x) (hT : RTab w2 R1 tb L1) (hB : Below w2.heap.size w2 W) (hi : L1[i]? = some e0) : RStep w R tb (L1.set i e0) W := by
  have e : L1.set i e0 = L1 := by
    obtain ⟨h1, h2⟩ := List.getElem?_eq_some_iff.1 hi
    rw [← h2]; exact List.set_getElem_self h1
  rw [e]
  exact ⟨R1, hT.later hB, hf.trans (Fr.of_below hB), hr1⟩
theorem fin_put {w w2 W : World} {R R1 : Nat → Prop} {tb g c i : Nat} {L1 : List Rk} {e0 y : Rk} (hf : Fr R w w2) (hr1 : ∀ x, R1 x → R x ∨ w.heap.size ≤ x) (hT : RTab w2 R1 tb L1) (hrow : RRow w2 R1 tb L1 (some ⟨g, 0, none⟩) c) (hB : Below w2.heap.size w2 W) (hi : L1[i]? = some e0)
    (hyh : W.ownsRow 0 77 2 y.hv y.h.length (y.h.flatMap cPl)) (hyl : W.ownsRow 0 77 2 y.lv y.l.length (y.l.flatMap cPl)) (hbh : ∀ b, y.hv.ownBlock = some b → R1 b ∨ w2.heap.size ≤ b) (hbl : ∀ b, y.lv.ownBlock = some b → R1 b ∨ w2.heap.size ≤ b) :
    RStep w R tb (L1.set i y) (put5 W g (i * 5) y) := by
  have hT2 := hT.later hB
  have hrow2 : RRow W R1 tb L1 (some ⟨g, 0, none⟩) c := ⟨hrow.box.later hB, own_below hrow.own hB, hrow.rr⟩
  have hs := hf.size
  have hnew : ∀ b, (R1 b ∨ w2.heap.size ≤ b) → b < W.heap.size → R1 b ∨ (w2.heap.size ≤ b ∧ b < W.heap.size) := fun b h1 h2 => h1.imp id (fun h => ⟨h, h2⟩)
  obtain ⟨h1, h2⟩ := hT2.put (R' := fun x => R1 x ∨ (w2.heap.size ≤ x ∧ x < W.heap.size)) hrow2 hi y (fun x hx => .inl hx) (fun x hx => hx.elim (hT2.old x) (fun h => h.2)) ⟨hyh, hyl, fun b hb => hnew b (hbh b hb) (hyh.lt b hb).2, fun b hb => hnew b (hbl b hb) (hyl.lt b hb).2⟩
  exact ⟨_, h1, fr_chain (hf.trans (Fr.of_below hB)) hr1 h2, fun x hx => hx.elim (hr1 x) (fun h => .inr (by omega))⟩
theorem row_cells {w : World} {g c i : Nat} {L : List Rk} {e : Rk} (h : w.ownsRow 0 75 5 (.slice (some ⟨g, 0, none⟩) L.length c) L.length (L.flatMap cRk)) (hi : L[i]? = some e) : (∀ j u, (cRk e)[j]? = some u → w.cell? ⟨g, i * 5 + j, none⟩ = some u) ∧ ∀ o, w.frozen? ⟨g, o, none⟩ = false := by
  refine ⟨fun j u hu => ?_, fun o => ?_⟩
  · obtain ⟨b', o', hA, _, hcl⟩ := (SS.of_own cRk_len h).at_ hi
    injection hA with hA
    injection hA with h1 h2
    subst h1 h2
    have := hcl j u hu
    rwa [Nat.zero_add] at this
  · rcases h.2 with ⟨e1, _⟩ | ⟨g', cap, cur, e1, _, hg, _⟩
    · cases e1
    · injection e1 with e1
      injection e1 with e1
      injection e1 with e1 _
      subst e1
      exact Box.frozen (C := cur) hg o
theorem own_n {w : World} {b n m c sz : Nat} {A : Option Addr} {e : TypeId} {xs : List Value} (h : w.ownsRow b e sz (.slice A n c) m xs) : n = m := by
  rcases h.2 with ⟨e1, e2⟩ | ⟨g, cap, cur, e1, _⟩
  · injection e1 with _ e3 _; omega
  · injection e1
theorem lkM_nn {h : List Pl} (hp : ∀ p ∈ h, 0 < p.m) (t : Int) : 0 ≤ lkM h t := by
  induction h with
  | nil => exact Int.le_refl _
  | cons p h ih =>
    unfold lkM
    split
    · exact Int.le_of_lt (hp p (List.mem_cons_self ..))
    · exact ih (fun q hq => hp q (List.mem_cons_of_mem _ hq))
def RAskOut (w : World) (R : Nat → Prop) (tb : Nat) (L : List Rk) (k : Ky) (t md : Int) (e : Ending) (w' : World) : Prop :=
  ∃ e0 y, (atT L k)[atI L k]? = some e0 ∧ y.k = k ∧ e = .returned (.bool (rAsk e0.h e0.l t md (rWt (atT L k) t).isSome).1) ∧ (y.h, y.l) = (rAsk e0.h e0.l t md (rWt (atT L k) t).isSome).2 ∧ RStep w R tb ((atT L k).set (atI L k) y) w'
set_option maxRecDepth 100000 in
set_option maxHeartbeats 16000000 in
theorem rask_any (w : World) (R : Nat → Prop) (tb : Nat) (L : List Rk) (k : Ky) (t m md : Int) (h : RTab w R tb L) (hl : L.length ≤ 1000) (hll : ∀ e ∈ L, e.h.length ≤ 1000 ∧ e.l.length ≤ 1000) (hmp : ∀ e ∈ L, ∀ p ∈ e.h, 0 < p.m) (hmd : md = mdOf m) :
    Calls Try.prog 28 #[.pointer (some ⟨tb, 0, none⟩), .int .u32 t, .agg #[.int .u8 k.k, .int .u32 k.a, .int .u32 k.b], .int .u8 m] w (RAskOut w R tb L k t md) := by
  obtain ⟨j0, hj0, hj1, hj2, hj3⟩ := info_parts want_info
  have b1 := new_ (Below.refl w.heap.size w) (.cells #[.int .u8 k.k, .int .u32 k.a, .int .u32 k.b] 31)
  have X6 := Box.new w #[.int .u8 k.k, .int .u32 k.a, .int .u32 k.b] 31
  have h1 := h.later b1
  obtain ⟨z, hz⟩ : ∃ z, w.heap.size = z := ⟨_, rfl⟩
  obtain ⟨w1, hw1⟩ : ∃ w1, w.alloc (.cells #[.int .u8 k.k, .int .u32 k.a, .int .u32 k.b] 31) = w1 := ⟨_, rfl⟩
  have hs1 : w1.heap.size = z + 1 := by rw [← hw1, ← hz]; simp
  rw [hw1] at b1 X6 h1
  rw [hz] at b1 X6
  have HX := Lib.hid X6
  have HB1 := Lib.hid b1
  have HS1 := Lib.hid hs1
  have HZ := Lib.hid hz
  have HOLD := Lib.hid (show ∀ x, R x → x < z from fun x hx => by rw [← hz]; exact h.old x hx)
  have CA := Lib.hid (at_any w1 R tb L k h1 (by omega))
  have HL := Lib.hid hl
  have HLL := Lib.hid hll
  have HMD := Lib.hid hmd
  have HMP := Lib.hid hmp
  have x0 : w1.cell? ⟨z, 0, none⟩ = some (.int .u8 k.k) := X6.cell 0
  have x1 : w1.cell? ⟨z, 1, none⟩ = some (.int .u32 k.a) := X6.cell 1
  have x2 : w1.cell? ⟨z, 2, none⟩ = some (.int .u32 k.b) := X6.cell 2
  obtain ⟨q0, hq0⟩ : ∃ q, (m != 1) = q := ⟨_, rfl⟩
  have HQ0 := Lib.hid (show (if q0 = true then (2 : Int) else m) = md by
    rw [hmd, ← hq0]; unfold mdOf
    by_cases e : m = 1 <;> simp [e])
  obtain ⟨e0, he0, hk0⟩ := atT_get L k
  have HL1 := Lib.hid (show (atT L k).length ≤ 1001 by have := atT_len L k; have := HL.out; omega)
  have HLL1 := Lib.hid (show ∀ e ∈ atT L k, e.h.length ≤ 1000 ∧ e.l.length ≤ 1000 from fun e he => (atT_mem he).elim (HLL.out e) (fun h => by rw [h]; exact ⟨Nat.zero_le _, Nat.zero_le _⟩))
  have HMP1 := Lib.hid (show ∀ p ∈ e0.h, 0 < p.m from (atT_mem (List.mem_of_getElem? he0)).elim (fun h => HMP.out e0 h) (fun h => by rw [h]; intro p hp; cases hp))
  obtain ⟨L1, hL1⟩ : ∃ L1, atT L k = L1 := ⟨_, rfl⟩
  obtain ⟨i, hi⟩ : ∃ i, atI L k = i := ⟨_, rfl⟩
  unfold RAskOut
  unfold AtOut at CA
  rw [hL1, hi] at he0 CA ⊢
  rw [hL1] at HL1 HLL1
  have HE := Lib.hid he0
  have HK := Lib.hid hk0
  clear h h1 b1 X6 hs1 hl hll hmd hmp he0 hk0 hL1 hi HL HLL HMP
  go_enter Try.func28, Try.ntmps28
  go_upto_if 20 with fail
  go_cut [3] (fun v wx => v = .int .u8 md ∧ wx = w1)
  case first =>
    have hmm := HQ0.out
    cases q0 with
    | true =>
      go_wp2
      go_meet
      exact ⟨by rw [← hmm]; rfl, rfl⟩
    | false =>
      go_wp2
      go_meet
      exact ⟨by rw [← hmm]; rfl, rfl⟩
  case rest =>
  obtain ⟨rfl, rfl⟩ := hcut
  rename_i hKK
  refine hKK _ _ ?_
  clear hKK hq0
  obtain ⟨w1, rfl⟩ : ∃ w1, w1 = wc := ⟨wc, rfl⟩
  go_wp2_with fail
  (with_reducible refine (CA.out).mono ?_)
  rintro e w2 ⟨rfl, R1, hT2, hf2, hr2⟩
  have HFR := Lib.hid (show Fr R w w2 from Fr.trans (b := w1) ⟨HB1.out.os, HB1.out.tape, HB1.out.output, HB1.out.size, fun k hk hn => HB1.out.block k (by have := HZ.out; omega)⟩ hf2)
  have HR1 := Lib.hid (show ∀ x, R1 x → R x ∨ w.heap.size ≤ x from fun x hx => (hr2 x hx).imp id (fun h => by have := HS1.out; have := HZ.out; omega))
  have HT := Lib.hid hT2
  clear hT2 hf2 hr2 CA x0 x1 x2
  obtain ⟨A, c, hrw⟩ := HT.out.row
  obtain ⟨g, hA⟩ : ∃ g, A = some ⟨g, 0, none⟩ := by
    rcases hrw.own.2 with ⟨_, h0⟩ | ⟨g, cap, cur, e1, _⟩
    · have := (List.getElem?_eq_some_iff.1 HE.out).1; omega
    · injection e1 with e1; exact ⟨g, e1⟩
  subst hA
  have HRW := Lib.hid hrw
  obtain ⟨b', o', hA, hb, hcl⟩ := (SS.of_own cRk_len hrw.own).at_ HE.out
  injection hA with hA
  injection hA with hA1 hA2
  subst hA1 hA2
  have HRK := Lib.hid (HT.out.it e0 (List.mem_of_getElem? HE.out))
  have HEL := Lib.hid (show e0.h.length ≤ 1000 ∧ e0.l.length ≤ 1000 from HLL1.out e0 (List.mem_of_getElem? HE.out))
  have bi : i < L1.length := (List.getElem?_eq_some_iff.1 HE.out).1
  obtain ⟨n1, hn1⟩ : ∃ n1, L1.length = n1 := ⟨_, rfl⟩
  have HN1 := Lib.hid hn1
  have k0 : w2.cell? ⟨tb, 0, none⟩ = some (.slice (some ⟨g, 0, none⟩) n1 c) := by rw [← hn1]; exact hrw.box.cell 0
  rw [hn1] at bi
  have bn : (n1 : Int) ≤ 1001 := by have := HL1.out; omega
  obtain ⟨⟨a1, a2, a3⟩, eh, el, eha, ehc, ela, elc⟩ := e0
  have l0 : w2.cell? ⟨g, i * 5, none⟩ = some (.int .u8 a1) := by have := hcl 0 _ rfl; rwa [Nat.zero_add, Nat.add_zero] at this
  have l1 : w2.cell? ⟨g, i * 5 + 1, none⟩ = some (.int .u32 a2) := by have := hcl 1 _ rfl; rwa [Nat.zero_add] at this
  have l2 : w2.cell? ⟨g, i * 5 + 2, none⟩ = some (.int .u32 a3) := by have := hcl 2 _ rfl; rwa [Nat.zero_add] at this
  have l3 : w2.cell? ⟨g, i * 5 + 3, none⟩ = some (.slice eha eh.length ehc) := by have := hcl 3 _ rfl; rwa [Nat.zero_add] at this
  have l4 : w2.cell? ⟨g, i * 5 + 4, none⟩ = some (.slice ela el.length elc) := by have := hcl 4 _ rfl; rwa [Nat.zero_add] at this
  obtain ⟨x10, hx10⟩ : ∃ x, w2.heap.size = x := ⟨_, rfl⟩
  have hb3 := new_ (Below.refl w2.heap.size w2) (.cells #[.int .u8 a1, .int .u32 a2, .int .u32 a3, .slice eha eh.length ehc, .slice ela el.length elc] 75)
  have hb4 := new_ hb3 (.cells #[.int .u32 t, .int .u8 md] 77)
  have X10 := (Box.new w2 #[.int .u8 a1, .int .u32 a2, .int .u32 a3, .slice eha eh.length ehc, .slice ela el.length elc] 75).alloc (.cells #[.int .u32 t, .int .u8 md] 77)
  have X11 := Box.new (w2.alloc (.cells #[.int .u8 a1, .int .u32 a2, .int .u32 a3, .slice eha eh.length ehc, .slice ela el.length elc] 75)) #[.int .u32 t, .int .u8 md] 77
  have hsz : (w2.alloc (.cells #[.int .u8 a1, .int .u32 a2, .int .u32 a3, .slice eha eh.length ehc, .slice ela el.length elc] 75)).heap.size = x10 + 1 := by rw [← hx10]; simp
  rw [hsz] at X11
  rw [hx10] at hb3 hb4 X10
  clear hb hcl hn1 hrw
  go_upto_region 6 with fail
  obtain ⟨w4, hw4⟩ : ∃ w4, (w2.alloc (.cells #[.int .u8 a1, .int .u32 a2, .int .u32 a3, .slice eha eh.length ehc, .slice ela el.length elc] 75)).alloc (.cells #[.int .u32 t, .int .u8 md] 77) = w4 := ⟨_, rfl⟩
  try rw [hx10]
  rw [hw4] at hb4 X10 X11 ⊢
  have hs4 : w4.heap.size = x10 + 2 := by rw [← hw4]; simp [hx10]
  have HB4 := Lib.hid (show Below w2.heap.size w2 w4 by rw [hx10]; exact hb4)
  have HX10 := Lib.hid X10
  have HX11 := Lib.hid X11
  have HS4 := Lib.hid (show w2.heap.size = x10 ∧ w4.heap.size = x10 + 2 from ⟨hx10, hs4⟩)
  have HT4 := Lib.hid (HT.out.later HB4.out)
  have HRK4 := Lib.hid (show w4.ownsRow 0 77 2 (.slice eha eh.length ehc) eh.length (eh.flatMap cPl) ∧ w4.ownsRow 0 77 2 (.slice ela el.length elc) el.length (el.flatMap cPl) from ⟨own_below HRK.out.h HB4.out, own_below HRK.out.l HB4.out⟩)
  have CM := Lib.hid (rmode_any w4 w4.heap.size (.slice eha eh.length ehc) eh t (SS.of_own cPl_len HRK4.out.1) (by have := HEL.out.1; omega))
  obtain ⟨hs, hhs⟩ : ∃ hs, lkM eh t = hs := ⟨_, rfl⟩
  rw [hhs] at CM
  have hnn : 0 ≤ hs := by rw [← hhs]; exact lkM_nn HMP1.out t
  have HHS := Lib.hid hhs
  have c3 : w4.cell? ⟨x10, 3, none⟩ = some (.slice eha eh.length ehc) := X10.cell 3
  clear k0 l0 l1 l2 l3 l4 X10 X11 hb3 hb4 hsz hw4 hx10 hs4 hhs
  go_wp2_with fail
  (with_reducible refine CM.out.mono ?_)
  rintro er w5 ⟨rfl, rfl⟩
  by_cases hq : hs = 2 ∨ hs = md
  · have HRES : Hid (rAsk eh el t md (rWt L1 t).isSome = (true, eh, el)) := Lib.hid (by unfold rAsk; rw [HHS.out, if_pos hq])
    have HFIN := Lib.hid (fin_same HFR.out HR1.out HT.out HB4.out HE.out)
    have q1 : (hs == 2 || hs == md) = true := by rcases hq with h | h <;> simp [h]
    by_cases h2 : hs = 2
    · have q2 : (hs == 2) = true := by simp [h2]
      clear hq h2 q1 hnn c3 bi
      go_wp2
      go_ret
      exact ⟨_, _, HE.out, HK.out, by rw [HRES.out]; rfl, by rw [HRES.out], HFIN.out⟩
    · have q2 : (hs == 2) = false := by simp [h2]
      have q3 : (hs == md) = true := by simp [hq.resolve_left h2]
      clear hq h2 q1 hnn c3 bi
      go_wp2
      go_ret
      exact ⟨_, _, HE.out, HK.out, by rw [HRES.out]; rfl, by rw [HRES.out], HFIN.out⟩
  · have q2 : (hs == 2) = false := by simp only [not_or] at hq; simp [hq.1]
    have q3 : (hs == md) = false := by simp only [not_or] at hq; simp [hq.2]
    have HNQ := Lib.hid hq
    have CW := Lib.hid (rwaits_any w4 R1 tb L1 t HT4.out (by have := HL1.out; omega) (fun e he => by have := (HLL1.out e he).2; omega))
    obtain ⟨hd, hhd⟩ : ∃ hd, rHd (rWt L1 t) = hd := ⟨_, rfl⟩
    obtain ⟨wq, hwq⟩ : ∃ q, (rWt L1 t).isSome = q := ⟨_, rfl⟩
    rw [hhd, hwq] at CW
    have HWQ := Lib.hid hwq
    obtain ⟨d1, d2, d3, d4⟩ := hd
    clear hq hhd hwq
    go_wp2_with fail
    (with_reducible refine CW.out.mono ?_)
    rintro er w5 ⟨rfl, hb5⟩
    unfold Hd.v
    have hb6 := new_ (Below.refl w5.heap.size w5) (.cells #[.int .u8 d1, .int .u32 d2, .int .u32 d3, .int .u8 d4] 45)
    have hw6 : Below w4.heap.size w4 (w5.alloc (.cells #[.int .u8 d1, .int .u32 d2, .int .u32 d3, .int .u8 d4] 45)) := hb5.trans (hb6.mono hb5.size)
    have HW6 := Lib.hid hw6
    clear hb5 hb6 hw6 CW c3
    go_upto_region 10 with fail
    generalize w5.alloc (.cells #[.int .u8 d1, .int .u32 d2, .int .u32 d3, .int .u8 d4] 45) = w6 at HW6 ⊢
    have HB6 := Lib.hid (show Below w2.heap.size w2 w6 from HB4.out.trans (HW6.out.mono HB4.out.size))
    cases wq with
    | true =>
      have HRES : Hid (rAsk eh el t md (rWt L1 t).isSome = (false, eh, el)) := Lib.hid (by unfold rAsk; rw [HHS.out, if_neg HNQ.out, if_pos HWQ.out])
      have HFIN := Lib.hid (fin_same HFR.out HR1.out HT.out HB6.out HE.out)
      clear hnn bi q2 q3
      go_wp2
      go_ret
      exact ⟨_, _, HE.out, HK.out, by rw [HRES.out]; rfl, by rw [HRES.out], HFIN.out⟩
    | false =>
      have HX6 := Lib.hid (HX10.out.later HW6.out)
      have HX7 := Lib.hid (HX11.out.later HW6.out)
      have HRK6 := Lib.hid (show w6.ownsRow 0 77 2 (.slice eha eh.length ehc) eh.length (eh.flatMap cPl) ∧ w6.ownsRow 0 77 2 (.slice ela el.length elc) el.length (el.flatMap cPl) from ⟨own_below HRK4.out.1 HW6.out, own_below HRK4.out.2 HW6.out⟩)
      have CF := Lib.hid (rfits_any w6 w6.heap.size (.slice eha eh.length ehc) eh ⟨t, md⟩ (SS.of_own cPl_len HRK6.out.1) (Nat.le_refl _) (by have := HEL.out.1; omega))
      obtain ⟨qf, hqf⟩ : ∃ q, fitR eh ⟨t, md⟩ = q := ⟨_, rfl⟩
      rw [hqf] at CF
      have c3 : w6.cell? ⟨x10, 3, none⟩ = some (.slice eha eh.length ehc) := HX6.out.cell 3
      have c11 : w6.cell? ⟨x10 + 1, 0, none⟩ = some (.int .u32 t) := HX7.out.cell 0
      have c12 : w6.cell? ⟨x10 + 1, 1, none⟩ = some (.int .u8 md) := HX7.out.cell 1
      have HQF := Lib.hid hqf
      clear hqf HRK4 HX10 HX11 HW6 HB4
      go_wp2_with fail
      (with_reducible refine CF.out.mono ?_)
      rintro er w7 ⟨rfl, hb7⟩
      have HB7 := Lib.hid (show Below w2.heap.size w2 w7 from HB6.out.trans (hb7.mono HB6.out.size))
      have HX8 := Lib.hid (HX6.out.later hb7)
      have HX9 := Lib.hid (HX7.out.later hb7)
      have HRK7 := Lib.hid (show w7.ownsRow 0 77 2 (.slice eha eh.length ehc) eh.length (eh.flatMap cPl) ∧ w7.ownsRow 0 77 2 (.slice ela el.length elc) el.length (el.flatMap cPl) from ⟨own_below HRK6.out.1 hb7, own_below HRK6.out.2 hb7⟩)
      have c4 : w7.cell? ⟨x10, 4, none⟩ = some (.slice ela el.length elc) := HX8.out.cell 4
      obtain ⟨qc, hqc⟩ : ∃ q, decide (fitR eh ⟨t, md⟩ = true ∧ (0 < lkM eh t ∨ el = [])) = q := ⟨_, rfl⟩
      have HQC := Lib.hid hqc
      obtain ⟨nl, hnl⟩ : ∃ nl, el.length = nl := ⟨_, rfl⟩
      have HNL := Lib.hid hnl
      rw [hnl] at c4
      have bnl : (nl : Int) ≤ 1000 := by have := HEL.out.2; omega
      clear hb7 c3 c11 c12 CF CM HX6 HX7 HB6 HRK6 hqc
      go_upto_region 13 with fail
      go_cut [73] (fun v wx => v = .bool qc ∧ wx = w7)
      case first =>
        have hqc := HQC.out
        rw [HQF.out, HHS.out] at hqc
        by_cases hp : 0 < hs
        · have e1 : decide (0 < hs) = true := by simpa using hp
          have hqc2 : qf = qc := by rw [← hqc]; cases qf <;> simp [hp]
          clear hqc hp
          subst hqc2
          cases qf with
          | true =>
            go_wp2
            go_meet
            exact ⟨rfl, rfl⟩
          | false =>
            have e2 : (hs == 0) = false := by simp; simp at e1; omega
            go_wp2
            go_meet
            exact ⟨rfl, rfl⟩
        · have e1 : decide (0 < hs) = false := by simp; omega
          have e2 : (hs == 0) = true := by simp; omega
          have e3 : (hs = 0) = True := by simp; omega
          obtain ⟨r, hr⟩ : ∃ r, ((nl : Int) == 0) = r := ⟨_, rfl⟩
          have hqc2 : (qf && r) = qc := by
            rw [← hqc, ← hr, ← hnl]
            cases qf <;> cases el <;> simp [hp]
            omega
          clear hqc hp hnl
          have hr2 : decide (nl = 0) = r := by rw [← hr, Bool.eq_iff_iff]; simp [Int.natCast_eq_zero]
          have hr3 : (nl == 0) = r := by rw [← hr2, Bool.eq_iff_iff]; simp
          subst hqc2
          cases qf <;> cases r <;>
          · go_wp2
            go_meet
            exact ⟨rfl, rfl⟩
      case rest =>
      obtain ⟨rfl, rfl⟩ := hcut
      rename_i hKK
      refine hKK _ _ ?_
      clear hKK
      obtain ⟨w7, rfl⟩ : ∃ w7, w7 = wc := ⟨wc, rfl⟩
      cases qc with
      | true =>
        have hres : rAsk eh el t md (rWt L1 t).isSome = (true, wo eh t ++ [⟨t, md⟩], el) := by
          unfold rAsk
          rw [HHS.out, if_neg HNQ.out, if_neg (by rw [HWQ.out]; decide)]
          have := of_decide_eq_true HQC.out
          rw [HHS.out] at this
          exact if_pos this
        have HRES := Lib.hid hres
        have CO := Lib.hid (without_any w7 w7.heap.size (.slice eha eh.length ehc) eh t (SS.of_own cPl_len HRK7.out.1) (Nat.le_refl _) (by have := HEL.out.1; omega))
        have c3 : w7.cell? ⟨x10, 3, none⟩ = some (.slice eha eh.length ehc) := HX8.out.cell 3
        have HWL := Lib.hid (show (wo eh t).length ≤ 1000 from Nat.le_trans (List.length_filter_le _ _) (by have := HEL.out.1; omega))
        clear hres c4 q2 q3 hnn
        go_wp2_with fail
        (with_reducible refine CO.out.mono ?_)
        rintro er w8 ⟨v8, rfl, ho8, hb8⟩
        have HO8 := Lib.hid ho8
        have HX12 := Lib.hid (HX8.out.later hb8)
        have HX13 := Lib.hid (HX9.out.later hb8)
        have HB8 := Lib.hid (show Below w2.heap.size w2 w8 from HB7.out.trans (hb8.mono HB7.out.size))
        have HL8 := Lib.hid (own_below HRK7.out.2 hb8)
        have HZ8 := Lib.hid (show w2.heap.size ≤ w7.heap.size ∧ w7.heap.size ≤ w8.heap.size ∧ x10 + 2 ≤ w7.heap.size from ⟨HB7.out.size, hb8.size, by have := HX9.out.lt; omega⟩)
        have c11 : w8.cell? ⟨x10 + 1, 0, none⟩ = some (.int .u32 t) := HX13.out.cell 0
        have c12 : w8.cell? ⟨x10 + 1, 1, none⟩ = some (.int .u8 md) := HX13.out.cell 1
        clear ho8 hb8 CO c3
        go_wp2_with (at_builtin; refine wpList_push_ss (F := cPl) (sz := 2) _ rfl _ _ _ rfl w7.heap.size 77 j0 _ 8 Try.underlying73 hj0 hj1 hj2 hj3 rfl (by decide) cPl_len cPl_one v8 _ rfl (own_below HO8.out (new_ (Below.refl _ _) (.cells #[.int .u32 t, .int .u8 md] 77))) w8.heap.size ⟨t, md⟩ 77 rfl (Box.new w8 _ _) (by have := HWL.out; unfold maxLen; omega) (by have := HWL.out; omega) (by have := HZ8.out; simp; omega) ?_
                     intro v9 w9 ho9 ht9
                     have tt := (RowTo.of_below (new_ (Below.refl w8.heap.size w8) (.cells #[.int .u32 t, .int .u8 md] 77)) v8).trans ht9
                     have hb9 : Below w7.heap.size w8 w9 := tt.below (fun b hb => (HO8.out.lt b hb).1) HZ8.out.2.1
                     obtain ⟨A9, n9, c9, rfl⟩ := own_slice ho9
                     have HO9 := Lib.hid ho9
                     have HB9 := Lib.hid (show Below w2.heap.size w2 w9 from HB8.out.trans (hb9.mono HZ8.out.1))
                     have HX14 := Lib.hid (HX12.out.fr (fr_base hb9) (by have := HZ8.out; omega))
                     have HL9 := Lib.hid (own_frS HL8.out tt.fr (fun b hb e => by have h1 := (HO8.out.lt b e).1; have h2 := (HRK7.out.2.lt b hb).2; omega))
                     have f3 : w9.frozen? ⟨x10, 3, none⟩ = false := HX14.out.frozen 3
                     have f4 : w9.cell? ⟨x10, 3, none⟩ = some (.slice eha eh.length ehc) := HX14.out.cell 3
                     clear ho9 ht9 tt hb9 c11 c12)
        go_upto_region 17 with fail
        have HX15 : Hid (Box (w9.setCell ⟨x10, 3, none⟩ (.slice A9 n9 c9)) x10 #[.int .u8 a1, .int .u32 a2, .int .u32 a3, .slice A9 n9 c9, .slice ela el.length elc] 75) := Lib.hid (HX14.out.set_ 3 _)
        have HB10 := Lib.hid (show Below w2.heap.size w2 (w9.setCell ⟨x10, 3, none⟩ (.slice A9 n9 c9)) from HB9.out.setCell (p := ⟨x10, 3, none⟩) (by have := HS4.out.1; show w2.heap.size ≤ x10; omega) _)
        have hfx : Fr (fun k => k = x10) w9 (w9.setCell ⟨x10, 3, none⟩ (.slice A9 n9 c9)) := (Fr.refl (fun k => k = x10) w9).setCell (p := ⟨x10, 3, none⟩) (.inl rfl) _
        have HO10 := Lib.hid (own_frS HO9.out hfx (fun b hb e => by have := (HO9.out.lt b hb).1; have := HZ8.out; omega))
        have HL10 := Lib.hid (own_frS HL9.out hfx (fun b hb e => row_ne_box HL9.out HX14.out (by decide) (by rw [hb, e])))
        clear hfx f3 f4
        obtain ⟨wa, hwa⟩ : ∃ wa, w9.setCell ⟨x10, 3, none⟩ (.slice A9 n9 c9) = wa := ⟨_, rfl⟩
        rw [hwa] at HX15 HB10 HO10 HL10 ⊢
        clear hwa
        have HRB := Lib.hid (own_below HRW.out.own HB10.out)
        have k0 : wa.cell? ⟨tb, 0, none⟩ = some (.slice (some ⟨g, 0, none⟩) n1 c) := by rw [← HN1.out]; exact (HRW.out.box.later HB10.out).cell 0
        have y0 : wa.cell? ⟨x10, 0, none⟩ = some (.int .u8 a1) := HX15.out.cell 0
        have y1 : wa.cell? ⟨x10, 1, none⟩ = some (.int .u32 a2) := HX15.out.cell 1
        have y2 : wa.cell? ⟨x10, 2, none⟩ = some (.int .u32 a3) := HX15.out.cell 2
        have y3 : wa.cell? ⟨x10, 3, none⟩ = some (.slice A9 n9 c9) := HX15.out.cell 3
        have y4 : wa.cell? ⟨x10, 4, none⟩ = some (.slice ela el.length elc) := HX15.out.cell 4
        go_still_tail 7, (by kernel_rfl)
        change wpList _ _ _ _ _ wa.drew
        obtain ⟨wb, hwb⟩ : ∃ wb, wa.drew = wb := ⟨_, rfl⟩
        have hbb : Below wa.heap.size wa wb := by rw [← hwb]; exact below_drewN (Below.refl _ _) 1
        rw [hwb]
        clear hwb k0 y0 y1 y2 y3 y4
        have hrc := row_cells (own_below HRB.out hbb) HE.out
        have HFIN := Lib.hid (fin_put (y := ⟨⟨a1, a2, a3⟩, wo eh t ++ [⟨t, md⟩], el, A9, c9, ela, elc⟩) HFR.out HR1.out HT.out HRW.out (HB10.out.trans (hbb.mono HB10.out.size)) HE.out (by
            have h1 := own_lower (own_below HO10.out hbb) (Nat.zero_le _)
            have h2 : n9 = (wo eh t ++ [(⟨t, md⟩ : Pl)]).length := own_n h1
            rw [h2] at h1; exact h1) (own_below HL10.out hbb) (fun b hb => .inr (by
            have hb2 : (Value.slice A9 n9 c9).ownBlock = some b := by
              cases A9 with
              | none => cases hb
              | some a => exact hb
            have h1 := (HO10.out.lt b hb2).1; have := HZ8.out.1; omega)) (fun b hb => .inl (HRK.out.rl b hb)))
        have HN9 := Lib.hid (show n9 = (wo eh t ++ [(⟨t, md⟩ : Pl)]).length from own_n HO10.out)
        unfold put5 at HFIN
        have g0 : wb.cell? ⟨g, i * 5, none⟩ = some (.int .u8 a1) := hrc.1 0 _ rfl
        have g1 : wb.cell? ⟨g, i * 5 + 1, none⟩ = some (.int .u32 a2) := hrc.1 1 _ rfl
        have g2 : wb.cell? ⟨g, i * 5 + 2, none⟩ = some (.int .u32 a3) := hrc.1 2 _ rfl
        have g3 : wb.cell? ⟨g, i * 5 + 3, none⟩ = some (.slice eha eh.length ehc) := hrc.1 3 _ rfl
        have g4 : wb.cell? ⟨g, i * 5 + 4, none⟩ = some (.slice ela el.length elc) := hrc.1 4 _ rfl
        have r0 := hrc.2 (i * 5)
        have r1 := hrc.2 (i * 5 + 1)
        have r2 := hrc.2 (i * 5 + 2)
        have r3 := hrc.2 (i * 5 + 3)
        have r4 := hrc.2 (i * 5 + 4)
        clear hbb hrc
        go_wp2
        go_ret
        have hf := HFIN.out
        simp only [Rk.hv, Rk.lv] at hf
        rw [← HN9.out, HNL.out] at hf
        exact ⟨_, HE.out, _, HK.out, by rw [HRES.out]; rfl, by rw [HRES.out], hf⟩
      | false =>
        have hres : rAsk eh el t md (rWt L1 t).isSome = (false, eh, el.take (insN eh el t) ++ [⟨t, md⟩] ++ el.drop (insN eh el t)) := by
          unfold rAsk
          rw [HHS.out, if_neg HNQ.out, if_neg (by rw [HWQ.out]; decide)]
          have := of_decide_eq_false HQC.out
          rw [HHS.out] at this
          exact if_neg this
        have HRES := Lib.hid hres
        obtain ⟨p0, hp0⟩ : ∃ p0, insN eh el t = p0 := ⟨_, rfl⟩
        have HP0 := Lib.hid (show insN eh el t = p0 ∧ p0 ≤ nl from ⟨hp0, by rw [← hp0]; unfold insN; split; exact Nat.le_trans tw_le (Nat.le_of_eq HNL.out); exact Nat.le_of_eq HNL.out⟩)
        obtain ⟨qh, hqh⟩ : ∃ q, decide (0 < hs) = q := ⟨_, rfl⟩
        have HQH := Lib.hid hqh
        clear hres hp0 q2 q3 hnn
        go_upto_if 95 with fail
        clear c4
        go_cut [17] (fun v wx => v = .int .i64 p0 ∧ Hid (Below w7.heap.size w7 wx))
        case first =>
          cases qh with
          | false =>
            have HPN := Lib.hid (show nl = p0 by rw [← HP0.out.1]; unfold insN; rw [HHS.out, if_neg (of_decide_eq_false HQH.out)]; exact HNL.out.symm)
            go_wp2
            go_meet
            exact ⟨by rw [HPN.out], Lib.hid (Below.refl _ _)⟩
          | true =>
            have HSL := Lib.hid (SS.of_own cPl_len HRK7.out.2)
            rw [HNL.out] at HSL
            have CQ := Lib.hid (fun (d : Nat) (x : Int) => rmode_any (w7.drewN d) w7.heap.size (.slice eha eh.length ehc) eh x ((SS.of_own cPl_len HRK7.out.1).below (below_drewN (Below.refl _ _) d)) (by have := HEL.out.1; omega))
            clear hqh
            go_wp2
            go_loopw [17] (fun s17 wr => ∃ j d : Nat, s17 = .int .i64 j ∧ j ≤ nl ∧ Hid (∀ q ∈ el.take j, decide (0 < lkM eh q.t) = true) ∧ Hid (wr = w7.drewN d)) (fun s17 _ => nl - (intOf s17).toNat)
            case atStart => exact ⟨0, 0, rfl, Nat.zero_le _, Lib.hid (by simp), Lib.hid rfl⟩
            case round =>
              obtain ⟨j, d, rfl, hj, HJ, HD⟩ := hrel
              obtain ⟨w8, rfl⟩ : ∃ w8, w8 = wr := ⟨wr, rfl⟩
              have c3 : ∀ d', (w8.drewN d').cell? ⟨x10, 3, none⟩ = some (.slice eha eh.length ehc) := fun d' => by rw [HD.out]; exact HX8.out.cell 3
              by_cases hjl : j < nl
              · have d1 : decide ((j : Int) < (nl : Int)) = true := by simp; omega
                have d1' : decide (j < nl) = true := by simp; omega
                obtain ⟨q, hq⟩ : ∃ q, el[j]? = some q := ⟨_, List.getElem?_eq_getElem (by rw [HNL.out]; exact hjl)⟩
                obtain ⟨bq, oq, hAq, _, hcq⟩ := HSL.out.at_ hq
                have HQ := Lib.hid hq
                obtain ⟨qt, qm⟩ := q
                have c4 : ∀ d', (w8.drewN d').cell? ⟨x10, 4, none⟩ = some (.slice (some ⟨bq, oq, none⟩) nl elc) := fun d' => by rw [HD.out, ← hAq, ← HNL.out]; exact HX8.out.cell 4
                have e0 : ∀ d', (w8.drewN d').cell? ⟨bq, oq + j * 2, none⟩ = some (.int .u32 qt) := fun d' => by rw [HD.out]; exact hcq 0 _ rfl
                obtain ⟨mm, hmm⟩ : ∃ mm, lkM eh qt = mm := ⟨_, rfl⟩
                have C1 : Hid (∀ d', Calls Try.prog 38 #[.slice eha eh.length ehc, .int .u32 qt] (w8.drewN d') fun e w' => e = .returned (.int .u8 mm) ∧ w8.drewN d' = w') := Lib.hid (fun d' => by
                  have h1 := CQ.out (d + d') qt
                  rw [hmm] at h1
                  have h2 : w7.drewN (d + d') = w8.drewN d' := by rw [HD.out]; simp [World.drewN, Nat.add_assoc]
                  rw [h2] at h1
                  exact h1)
                have HMM := Lib.hid hmm
                clear hq hcq hmm hAq
                by_cases hmp : 0 < mm
                · have q4 : decide (0 < mm) = true := decide_eq_true hmp
                  have HJ2 := Lib.hid (show ∀ q ∈ el.take (j + 1), decide (0 < lkM eh q.t) = true by
                    rw [List.take_add_one, HQ.out]
                    intro q hq
                    rcases List.mem_append.1 hq with h1 | h1
                    · exact HJ.out q h1
                    · simp at h1; rw [h1]; simp only; rw [HMM.out]; exact q4)
                  clear hmp
                  go_upto_region 22 with fail
                  go_quiet (first | (go_at_call 38; with_reducible exact quiet_l (C1.out _)))
                  clear c3 c4 e0
                  go_wp2
                  go_roundw
                  case rel => exact ⟨j + 1, d + nq, by go_num, by omega, HJ2, Lib.hid (by rw [HD.out]; simp [World.drewN, Nat.add_assoc])⟩
                  case measure => simp [intOf]; omega
                · have q4 : decide (0 < mm) = false := decide_eq_false hmp
                  have HPN := Lib.hid (show j = p0 by rw [← HP0.out.1]; unfold insN; rw [HHS.out, if_pos (of_decide_eq_true HQH.out)]; exact (tw_len HJ.out (.inr ⟨_, HQ.out, by simp only; rw [HMM.out]; exact q4⟩)).symm)
                  clear hmp
                  go_upto_region 22 with fail
                  go_quiet (first | (go_at_call 38; with_reducible exact quiet_l (C1.out _)))
                  clear c3 c4 e0
                  go_wp2
                  go_meet
                  exact ⟨by rw [HPN.out], Lib.hid (by rw [HD.out]; exact below_drewN (below_drewN (Below.refl _ _) d) nq)⟩
              · have d1 : decide ((j : Int) < (nl : Int)) = false := by simp; omega
                have d1' : decide (j < nl) = false := by simp; omega
                have c4 : ∀ d', (w8.drewN d').cell? ⟨x10, 4, none⟩ = some (.slice ela nl elc) := fun d' => by rw [HD.out, ← HNL.out]; exact HX8.out.cell 4
                have HPN := Lib.hid (show j = p0 by rw [← HP0.out.1]; unfold insN; rw [HHS.out, if_pos (of_decide_eq_true HQH.out)]; exact (tw_len HJ.out (.inl (by rw [HNL.out]; omega))).symm)
                go_upto_region 22 with fail
                go_quiet (fail)
                clear c3 c4
                go_wp2
                go_meet
                exact ⟨by rw [HPN.out], Lib.hid (by rw [HD.out]; exact below_drewN (below_drewN (Below.refl _ _) d) nq)⟩
        case rest =>
        obtain ⟨rfl, HBC⟩ := hcut
        rename_i hKK
        refine hKK _ _ ?_
        obtain ⟨w8, rfl⟩ : ∃ w8, w8 = wc := ⟨wc, rfl⟩
        clear hKK hqh
        have HB8 := Lib.hid (show Below w2.heap.size w2 w8 from HB7.out.trans (HBC.out.mono HB7.out.size))
        have HXA := Lib.hid (HX8.out.later HBC.out)
        have HXB := Lib.hid (HX9.out.later HBC.out)
        have HRK8 := Lib.hid (show w8.ownsRow 0 77 2 (.slice eha eh.length ehc) eh.length (eh.flatMap cPl) ∧ w8.ownsRow 0 77 2 (.slice ela el.length elc) el.length (el.flatMap cPl) from ⟨own_below HRK7.out.1 HBC.out, own_below HRK7.out.2 HBC.out⟩)
        have HSS := Lib.hid (SS.of_own cPl_len HRK8.out.2)
        have HFM := Lib.hid (show (ela = none ∧ elc = 0) ∨ ∃ g, ela = some ⟨g, 0, none⟩ by
          rcases HRK8.out.2.2 with ⟨h1, _⟩ | ⟨g, cap, cur, h1, _⟩
          · injection h1 with h1 _ h3; exact .inl ⟨h1, h3⟩
          · injection h1 with h1 _ _; exact .inr ⟨g, h1⟩)
        have HCC := Lib.hid (show nl ≤ elc ∧ elc ≤ 9223372036854775807 by
          obtain ⟨_, c', h1, h2, h3⟩ := HSS.out.form
          injection h1 with _ _ h1
          subst h1; rw [HNL.out] at h2; unfold maxLen at h3; exact ⟨h2, h3⟩)
        rw [HNL.out] at HSS
        have hpl : p0 ≤ nl := HP0.out.2
        have hic : p0 ≤ elc := by have := HCC.out; omega
        have HLL2 := Lib.hid (show (el.take p0).length = p0 ∧ (el.drop p0).length = nl - p0 ∧ nl ≤ 1000 from ⟨by rw [List.length_take, HNL.out]; omega, by rw [List.length_drop, HNL.out], by omega⟩)
        have HA1 := Lib.hid (show ([] : List Pl).length + (el.take p0).length ≤ 20000 by have := HLL2.out; simp only [List.length_nil]; omega)
        have HA2 := Lib.hid (show (el.take p0).length + 1 ≤ 20000 by have := HLL2.out; omega)
        have HA3 := Lib.hid (show (el.take p0 ++ [(⟨t, md⟩ : Pl)]).length + (el.drop p0).length ≤ 20000 by have := HLL2.out; rw [List.length_append]; simp only [List.length_cons, List.length_nil]; omega)
        have HI1 := Lib.hid (HSS.out.take p0 (by rw [HNL.out]; exact hpl))
        have HZ8 := Lib.hid (show w2.heap.size ≤ w8.heap.size ∧ x10 + 2 ≤ w8.heap.size from ⟨HB8.out.size, by have := HXB.out.lt; omega⟩)
        have HC4 := Lib.hid (show ∀ W, Below w8.heap.size w8 W → W.cell? ⟨x10, 4, none⟩ = some (.slice ela nl elc) ∧ W.cell? ⟨x10 + 1, 0, none⟩ = some (.int .u32 t) ∧ W.cell? ⟨x10 + 1, 1, none⟩ = some (.int .u8 md) ∧ W.frozen? ⟨x10, 4, none⟩ = false from fun W hW => ⟨by rw [← HNL.out]; exact (HXA.out.later hW).cell 4, (HXB.out.later hW).cell 0, (HXB.out.later hW).cell 1, (HXA.out.later hW).frozen 4⟩)
        have HFIN := Lib.hid (show ∀ (w9 : World) (A9 : Option Addr) (n9 c9 : Nat), Below w8.heap.size w8 w9 → w9.ownsRow w8.heap.size 77 2 (.slice A9 n9 c9) (el.take p0 ++ [(⟨t, md⟩ : Pl)] ++ el.drop p0).length ((el.take p0 ++ [(⟨t, md⟩ : Pl)] ++ el.drop p0).flatMap cPl) →
            ∃ wa, w9.setCell ⟨x10, 4, none⟩ (.slice A9 n9 c9) = wa ∧ n9 = (el.take p0 ++ [(⟨t, md⟩ : Pl)] ++ el.drop p0).length ∧ Box wa x10 #[.int .u8 a1, .int .u32 a2, .int .u32 a3, .slice eha eh.length ehc, .slice A9 n9 c9] 75 ∧ Below w2.heap.size w2 wa ∧ wa.ownsRow 0 75 5 (.slice (some ⟨g, 0, none⟩) L1.length c) L1.length (L1.flatMap cRk) ∧
              ∀ wb, Below wa.heap.size wa wb → RStep w R tb (L1.set i ⟨⟨a1, a2, a3⟩, eh, el.take p0 ++ [(⟨t, md⟩ : Pl)] ++ el.drop p0, eha, ehc, A9, c9⟩) (put5 wb g (i * 5) ⟨⟨a1, a2, a3⟩, eh, el.take p0 ++ [(⟨t, md⟩ : Pl)] ++ el.drop p0, eha, ehc, A9, c9⟩) from fun w9 A9 n9 c9 hb9 ho9 => by
          have hx9 := HXA.out.later hb9
          have hbw : Below w2.heap.size w2 (w9.setCell ⟨x10, 4, none⟩ (.slice A9 n9 c9)) := (HB8.out.trans (hb9.mono HZ8.out.1)).setCell (p := ⟨x10, 4, none⟩) (by have := HS4.out.1; show w2.heap.size ≤ x10; omega) _
          have hfx : Fr (fun k => k = x10) w9 (w9.setCell ⟨x10, 4, none⟩ (.slice A9 n9 c9)) := (Fr.refl (fun k => k = x10) w9).setCell (p := ⟨x10, 4, none⟩) (.inl rfl) _
          have ho10 := own_frS ho9 hfx (fun b hb e => by have := (ho9.lt b hb).1; have := HZ8.out; omega)
          have hh9 := own_below HRK8.out.1 hb9
          have hl10 := own_frS hh9 hfx (fun b hb e => row_ne_box hh9 hx9 (by decide) (by rw [hb, e]))
          have hn := own_n ho9
          refine ⟨_, rfl, hn, hx9.set_ 4 _, hbw, own_below HRW.out.own hbw, fun wb hbb => ?_⟩
          refine fin_put (y := ⟨⟨a1, a2, a3⟩, eh, el.take p0 ++ [(⟨t, md⟩ : Pl)] ++ el.drop p0, eha, ehc, A9, c9⟩) HFR.out HR1.out HT.out HRW.out (hbw.trans (hbb.mono hbw.size)) HE.out (own_below hl10 hbb) ?_ (fun b hb => .inl (HRK.out.rh b hb)) (fun b hb => .inr ?_)
          · have h1 := own_lower (own_below ho10 hbb) (Nat.zero_le _)
            rw [hn] at h1; exact h1
          · have hb2 : (Value.slice A9 n9 c9).ownBlock = some b := by
              cases A9 with
              | none => cases hb
              | some a => exact hb
            have h1 := (ho10.lt b hb2).1; have := HZ8.out.1; omega)
        have c4 := (HC4.out w8 (Below.refl _ _)).1
        rcases HFM.out with ⟨hA, hc0⟩ | ⟨ga, hA⟩
        case' inl =>
          have hN0 : nl = 0 := by have := HCC.out; omega
          have hi0 : p0 = 0 := by omega
          have HI2 := Lib.hid (show SS cPl 2 w8 w8.heap.size (.slice none 0 0) (el.drop p0) by
            have h1 : el.drop p0 = [] := List.drop_eq_nil_of_le (by rw [HNL.out]; omega)
            rw [h1]; exact ss_none (Nat.zero_le _))
          subst hA
          subst hc0
          subst hN0
          subst hi0
        case' inr =>
          subst hA
          by_cases hci : elc = p0
          case' pos =>
            have hni : nl = p0 := by have := HCC.out; omega
            have HI2 := Lib.hid (show SS cPl 2 w8 w8.heap.size (.slice (some ⟨ga, 0, none⟩) 0 0) (el.drop p0) by
              have h1 : el.drop p0 = [] := List.drop_eq_nil_of_le (by rw [HNL.out]; omega)
              rw [h1]; exact ss_none (Nat.zero_le _))
            subst hci
            subst hni
          case' neg =>
            have HI2 := Lib.hid (show SS cPl 2 w8 w8.heap.size (.slice (some ⟨ga, p0 * 2, none⟩) (nl - p0) (elc - p0)) (el.drop p0) by
              have h1 := ss_drop HSS.out p0 hpl
              rw [Nat.zero_add] at h1; exact h1)
        all_goals
          go_wp2_with (first
            | (at_builtin; refine wpList_append_ss (F := cPl) (sz := 2) _ rfl _ _ _ rfl w8.heap.size 77 j0 _ 8 Try.underlying73 hj0 hj1 hj2 hj3 rfl (by decide) cPl_len cPl_one (.slice none 0 0) [] rfl (World.ownsRow_nil _ _ _ _) w8.heap.size _ _ rfl HI1.out (by have := HA1.out; unfold maxLen; omega) (by have := HA1.out; omega) (Nat.le_refl _) ?_
               intro v1 wc1 hown1 ht1
               rw [List.nil_append] at hown1
               have HBa := Lib.hid ht1.all
               have HO1 := Lib.hid hown1
               have y0 := (HC4.out wc1 ht1.all).2.1
               have y1 := (HC4.out wc1 ht1.all).2.2.1
               clear hown1 ht1 c4)
            | (at_builtin; refine wpList_push_ss (F := cPl) (sz := 2) _ rfl _ _ _ rfl w8.heap.size 77 j0 _ 8 Try.underlying73 hj0 hj1 hj2 hj3 rfl (by decide) cPl_len cPl_one v1 _ rfl (own_below HO1.out (new_ (Below.refl _ _) (.cells #[.int .u32 t, .int .u8 md] 77))) wc1.heap.size ⟨t, md⟩ 77 rfl (Box.new wc1 _ _) (by have := HA2.out; unfold maxLen; omega) (by have := HA2.out; omega) (by have := HBa.out.size; simp; omega) ?_
               intro v2 wc2 hown2 ht2
               have tt2 := (RowTo.of_below (new_ (Below.refl wc1.heap.size wc1) (.cells #[.int .u32 t, .int .u8 md] 77)) v1).trans ht2
               have HBb := Lib.hid (HBa.out.trans (tt2.below (fun b hb => (HO1.out.lt b hb).1) HBa.out.size))
               have HO2 := Lib.hid hown2
               have z0 := (HC4.out wc2 HBb.out).1
               clear hown2 ht2 tt2 y0 y1)
            | (at_builtin; refine wpList_append_ss (F := cPl) (sz := 2) _ rfl _ _ _ rfl w8.heap.size 77 j0 _ 8 Try.underlying73 hj0 hj1 hj2 hj3 rfl (by decide) cPl_len cPl_one v2 _ rfl HO2.out w8.heap.size _ _ rfl (HI2.out.below HBb.out) (by have := HA3.out; unfold maxLen; omega) (by have := HA3.out; omega) HBb.out.size ?_
               intro v3 wc3 hown3 ht3
               obtain ⟨A7, n7, c7, rfl⟩ := own_slice hown3
               have HBc := Lib.hid (HBb.out.trans (ht3.below (fun b hb => (HO2.out.lt b hb).1) HBb.out.size))
               have HO3 := Lib.hid hown3
               have f0 := (HC4.out wc3 HBc.out).2.2.2
               have f1 := (HC4.out wc3 HBc.out).1
               clear hown3 ht3 z0))
          go_upto_region 29 with fail
          obtain ⟨wa, hwa, hn7, hbx, hb10, hro, hfin⟩ := HFIN.out wc3 A7 n7 c7 HBc.out HO3.out
          rw [hwa]
          have HN7 := Lib.hid hn7
          have HFN := Lib.hid hfin
          have HRO := Lib.hid hro
          have k0 : wa.cell? ⟨tb, 0, none⟩ = some (.slice (some ⟨g, 0, none⟩) n1 c) := by rw [← HN1.out]; exact (HRW.out.box.later hb10).cell 0
          have y0 : wa.cell? ⟨x10, 0, none⟩ = some (.int .u8 a1) := hbx.cell 0
          have y1 : wa.cell? ⟨x10, 1, none⟩ = some (.int .u32 a2) := hbx.cell 1
          have y2 : wa.cell? ⟨x10, 2, none⟩ = some (.int .u32 a3) := hbx.cell 2
          have y3 : wa.cell? ⟨x10, 3, none⟩ = some (.slice eha eh.length ehc) := hbx.cell 3
          have y4 : wa.cell? ⟨x10, 4, none⟩ = some (.slice A7 n7 c7) := hbx.cell 4
          clear hwa hn7 hbx hb10 hro hfin f0 f1
          go_still_tail 7, (by kernel_rfl)
          change wpList _ _ _ _ _ wa.drew
          obtain ⟨wb, hwb⟩ : ∃ wb, wa.drew = wb := ⟨_, rfl⟩
          have hbb : Below wa.heap.size wa wb := by rw [← hwb]; exact below_drewN (Below.refl _ _) 1
          rw [hwb]
          clear hwb k0 y0 y1 y2 y3 y4
          have hrc := row_cells (own_below HRO.out hbb) HE.out
          have HFZ := Lib.hid (HFN.out wb hbb)
          unfold put5 at HFZ
          have g0 : wb.cell? ⟨g, i * 5, none⟩ = some (.int .u8 a1) := hrc.1 0 _ rfl
          have g1 : wb.cell? ⟨g, i * 5 + 1, none⟩ = some (.int .u32 a2) := hrc.1 1 _ rfl
          have g2 : wb.cell? ⟨g, i * 5 + 2, none⟩ = some (.int .u32 a3) := hrc.1 2 _ rfl
          have g3 : wb.cell? ⟨g, i * 5 + 3, none⟩ = some _ := hrc.1 3 _ rfl
          have g4 : wb.cell? ⟨g, i * 5 + 4, none⟩ = some _ := hrc.1 4 _ rfl
          have r0 := hrc.2 (i * 5)
          have r1 := hrc.2 (i * 5 + 1)
          have r2 := hrc.2 (i * 5 + 2)
          have r3 := hrc.2 (i * 5 + 3)
          have r4 := hrc.2 (i * 5 + 4)
          clear hbb hrc
          go_wp2
          go_ret
          have hf := HFZ.out
          simp only [Rk.hv, Rk.lv] at hf
          rw [← HN7.out] at hf
          exact ⟨_, HE.out, _, HK.out, by rw [HRES.out]; rfl, by rw [HRES.out, HP0.out.1], hf⟩
end Go.Proofs.Ytpndcpmfcajmdaa.Lock
namespace Go.Proofs.Ytpndcpmfcajmdaa.Lock
open Go.ChangeShapes Go.WideShapes Go.ChangeAt Go.RowKit Go.IntWalk Go.Proofs.Mem Law Go.Shelf Go.Proofs.Each
set_option linter.unusedVariables false
set_option linter.unusedSimpArgs false
def wkR : Nat → List Pl → List Pl → List Pl × List Pl × List Int
  | 0, h, l => (h, l, [])
  | _ + 1, h, [] => (h, [], [])
  | f + 1, h, p :: l => if fitR h p = true then ((wkR f (wo h p.t ++ [p]) (wo (p :: l) p.t)).1, (wkR f (wo h p.t ++ [p]) (wo (p :: l) p.t)).2.1, p.t :: (wkR f (wo h p.t ++ [p]) (wo (p :: l) p.t)).2.2) else (h, p :: l, [])
theorem wkR_yes {f : Nat} {h l : List Pl} {p : Pl} (hf : fitR h p = true) : wkR (f + 1) h (p :: l) = ((wkR f (wo h p.t ++ [p]) (wo (p :: l) p.t)).1, (wkR f (wo h p.t ++ [p]) (wo (p :: l) p.t)).2.1, p.t :: (wkR f (wo h p.t ++ [p]) (wo (p :: l) p.t)).2.2) := by rw [wkR, if_pos hf]
theorem wkR_no {f : Nat} {h l : List Pl} {p : Pl} (hf : fitR h p = false) : wkR f h (p :: l) = (h, p :: l, []) := by
  cases f with
  | zero => rfl
  | succ f => rw [wkR, if_neg (by rw [hf]; decide)]
theorem wkR_nil {f : Nat} {h : List Pl} : wkR f h [] = (h, [], []) := by cases f <;> rfl
def relR (h l : List Pl) (t : Int) : List Pl × List Pl × List Int :=
  if lkM h t = 0 ∧ lkM l t = 0 then (h, l, []) else wkR (wo l t).length (wo h t) (wo l t)
def relC (t : Int) (e : Rc) : Rc := ⟨e.k, (relR e.h e.l t).1, (relR e.h e.l t).2.1⟩
def relG (t : Int) (C : List Rc) : List Int := C.flatMap fun e => (relR e.h e.l t).2.2
theorem wo_self_len {l : List Pl} {p : Pl} : (wo (p :: l) p.t).length ≤ l.length := by
  unfold wo
  rw [List.filter_cons, if_neg (by simp [isT])]
  exact List.length_filter_le _ _
theorem wo_len (l : List Pl) (t : Int) : (wo l t).length ≤ l.length := List.length_filter_le _ _
theorem rput {w : World} {R : Nat → Prop} {tb g c i : Nat} {L : List Rk} {e0 : Rk} (h : RTab w R tb L) (hr : RRow w R tb L (some ⟨g, 0, none⟩) c) (hi : L[i]? = some e0) (y : Rk) (hyh : w.ownsRow 0 77 2 y.hv y.h.length (y.h.flatMap cPl)) (hyl : w.ownsRow 0 77 2 y.lv y.l.length (y.l.flatMap cPl)) :
    RTab (put5 w g (i * 5) y) (fun x => R x ∨ y.hv.ownBlock = some x ∨ y.lv.ownBlock = some x) tb (L.set i y) ∧ Fr R w (put5 w g (i * 5) y) :=
  h.put hr hi y (fun x hx => .inl hx) (fun x hx => by
    rcases hx with h1 | h1 | h1
    · exact h.old x h1
    · exact (hyh.lt x h1).2
    · exact (hyl.lt x h1).2) ⟨hyh, hyl, fun b hb => .inr (.inl hb), fun b hb => .inr (.inr hb)⟩
theorem ne_types {w : World} {b b' s s' n n' : Nat} {e e' : TypeId} {u v : Value} {xs ys : List Value} (h : w.ownsRow b e s u n xs) (h' : w.ownsRow b' e' s' v n' ys) (he : e ≠ e') (k : Nat) (hu : u.ownBlock = some k) : v.ownBlock ≠ some k := fun hv => by
  rcases h.2 with ⟨rfl, _⟩ | ⟨g, cap, cur, rfl, _, hg, _⟩
  · cases hu
  · rcases h'.2 with ⟨rfl, _⟩ | ⟨g', cap', cur', rfl, _, hg', _⟩
    · cases hv
    · injection hu with hu
      injection hv with hv
      subst hu
      change g' = g at hv
      subst hv
      rw [hg] at hg'
      injection hg' with hg'
      injection hg' with _ hg' _
      exact he hg'
structure WkAt (w wr : World) (R R1 : Nat → Prop) (tb x7 z : Nat) (L' : List Rk) (a1 a2 a3 : Int) (h l : List Pl) (hA : Option Addr) (hc : Nat) (lA : Option Addr) (lc : Nat) (o : Value) (g : List Int) : Prop where
  box : Box wr x7 #[.int .u8 a1, .int .u32 a2, .int .u32 a3, .slice hA h.length hc, .slice lA l.length lc] 75
  hr : wr.ownsRow 0 77 2 (.slice hA h.length hc) h.length (h.flatMap cPl)
  lr : wr.ownsRow 0 77 2 (.slice lA l.length lc) l.length (l.flatMap cPl)
  hz : ∀ b, (Value.slice hA h.length hc).ownBlock = some b → R1 b ∨ z ≤ b
  lz : ∀ b, (Value.slice lA l.length lc).ownBlock = some b → R1 b ∨ z ≤ b
  tab : RTab wr R1 tb L'
  out : wr.ownsRow z 29 1 o g.length (g.map (.int .u32))
  far : ∀ b, o.ownBlock = some b → ¬ R1 b
  fr : Fr R w wr
theorem WkAt.later {w wr w' : World} {R R1 : Nat → Prop} {tb x7 z : Nat} {L' : List Rk} {a1 a2 a3 : Int} {h l : List Pl} {hA : Option Addr} {hc : Nat} {lA : Option Addr} {lc : Nat} {o : Value} {g : List Int} (H : WkAt w wr R R1 tb x7 z L' a1 a2 a3 h l hA hc lA lc o g) (hb : Below wr.heap.size wr w') : WkAt w w' R R1 tb x7 z L' a1 a2 a3 h l hA hc lA lc o g :=
  ⟨H.box.later hb, own_below H.hr hb, own_below H.lr hb, H.hz, H.lz, H.tab.later hb, own_below H.out hb, H.far, H.fr.trans (Fr.of_below hb)⟩
theorem WkAt.setH {w wr : World} {R R1 : Nat → Prop} {tb x7 z : Nat} {L' : List Rk} {a1 a2 a3 : Int} {h h' l : List Pl} {hA hA' : Option Addr} {hc hc' : Nat} {lA : Option Addr} {lc n' : Nat} {o : Value} {g : List Int} (H : WkAt w wr R R1 tb x7 z L' a1 a2 a3 h l hA hc lA lc o g) (hz : z = w.heap.size) (hx : z ≤ x7) (hxr : ¬ R1 x7) (ho : wr.ownsRow z 77 2 (.slice hA' n' hc') h'.length (h'.flatMap cPl)) :
    WkAt w (wr.setCell ⟨x7, 3, none⟩ (.slice hA' n' hc')) R R1 tb x7 z L' a1 a2 a3 h' l hA' hc' lA lc o g := by
  have hn := own_n ho
  subst hn
  have hf : Fr (fun k => k = x7) wr (wr.setCell ⟨x7, 3, none⟩ (.slice hA' h'.length hc')) := (Fr.refl (fun k => k = x7) wr).setCell (p := ⟨x7, 3, none⟩) (.inl rfl) _
  have hne : ∀ {b s n : Nat} {T : TypeId} {v : Value} {xs : List Value}, wr.ownsRow b T s v n xs → T ≠ 75 → ∀ k, v.ownBlock = some k → ¬ k = x7 := fun {b s n T v xs} h1 h2 k hk e => row_ne_box h1 H.box h2 (by rw [hk, e])
  exact ⟨H.box.set_ 3 _, own_frS (own_lower ho (Nat.zero_le _)) hf (hne ho (by decide)), own_frS H.lr hf (hne H.lr (by decide)), fun b hb => .inr (ho.lt b hb).1, H.lz, H.tab.far hf (fun x hR e => hxr (e ▸ hR)), own_frS H.out hf (hne H.out (by decide)), H.far, H.fr.trans' hf (fun k hk e => by rw [e] at hk; omega)⟩
theorem WkAt.setL {w wr : World} {R R1 : Nat → Prop} {tb x7 z : Nat} {L' : List Rk} {a1 a2 a3 : Int} {h l l' : List Pl} {hA lA' : Option Addr} {hc lc' : Nat} {lA : Option Addr} {lc n' : Nat} {o : Value} {g : List Int} (H : WkAt w wr R R1 tb x7 z L' a1 a2 a3 h l hA hc lA lc o g) (hz : z = w.heap.size) (hx : z ≤ x7) (hxr : ¬ R1 x7) (ho : wr.ownsRow z 77 2 (.slice lA' n' lc') l'.length (l'.flatMap cPl)) :
    WkAt w (wr.setCell ⟨x7, 4, none⟩ (.slice lA' n' lc')) R R1 tb x7 z L' a1 a2 a3 h l' hA hc lA' lc' o g := by
  have hn := own_n ho
  subst hn
  have hf : Fr (fun k => k = x7) wr (wr.setCell ⟨x7, 4, none⟩ (.slice lA' l'.length lc')) := (Fr.refl (fun k => k = x7) wr).setCell (p := ⟨x7, 4, none⟩) (.inl rfl) _
  have hne : ∀ {b s n : Nat} {T : TypeId} {v : Value} {xs : List Value}, wr.ownsRow b T s v n xs → T ≠ 75 → ∀ k, v.ownBlock = some k → ¬ k = x7 := fun {b s n T v xs} h1 h2 k hk e => row_ne_box h1 H.box h2 (by rw [hk, e])
  exact ⟨H.box.set_ 4 _, own_frS H.hr hf (hne H.hr (by decide)), own_frS (own_lower ho (Nat.zero_le _)) hf (hne ho (by decide)), H.hz, fun b hb => .inr (ho.lt b hb).1, H.tab.far hf (fun x hR e => hxr (e ▸ hR)), own_frS H.out hf (hne H.out (by decide)), H.far, H.fr.trans' hf (fun k hk e => by rw [e] at hk; omega)⟩
theorem WkAt.beside {w wr w' : World} {R R1 : Nat → Prop} {tb x7 z : Nat} {L' : List Rk} {a1 a2 a3 : Int} {h l : List Pl} {hA : Option Addr} {hc : Nat} {lA : Option Addr} {lc : Nat} {o u u' : Value} {g : List Int} (H : WkAt w wr R R1 tb x7 z L' a1 a2 a3 h l hA hc lA lc o g) (ht : RowTo wr w' u u')
    (hu : ∀ b, u.ownBlock = some b → b ≠ x7 ∧ ¬ R1 b ∧ (Value.slice hA h.length hc).ownBlock ≠ some b ∧ (Value.slice lA l.length lc).ownBlock ≠ some b ∧ o.ownBlock ≠ some b ∧ w.heap.size ≤ b) : WkAt w w' R R1 tb x7 z L' a1 a2 a3 h l hA hc lA lc o g :=
  ⟨H.box.fr ht.fr (fun e => (hu _ e).1 rfl), own_frS H.hr ht.fr (fun b hb e => (hu b e).2.2.1 hb), own_frS H.lr ht.fr (fun b hb e => (hu b e).2.2.2.1 hb), H.hz, H.lz, H.tab.far ht.fr (fun x hR e => (hu x e).2.1 hR), own_frS H.out ht.fr (fun b hb e => (hu b e).2.2.2.2.1 hb), H.far, H.fr.trans' ht.fr (fun k hk e => by have := (hu k e).2.2.2.2.2; omega)⟩
theorem wpList_push_u32 {P : Program} (w : World) {ops : Array Oper} {rest : List Oper} {o : Oper} {a : Act} {Q : Exit → Act → World → Prop} (hgd : o.guard = none) (s x : Operand) (t : TypeId)
    (ho : o.op = .call { callee := .builtin .append, args := #[s, x], argTypes := #[t, t] })
    (base : Nat) (e : TypeId) (i : TypeInfo) (bytes : Nat) (ht : P.underlying t = some (.slice e)) (hi : P.info? e = some i) (hz : i.zero = some (.int .u32 0))
    (hsize : i.size = 1) (hby : i.bytes = bytes) (v : Value) (xs : List Int) (hs : a.eval s = v) (hown : w.ownsRow base e 1 v xs.length (xs.map (.int .u32)))
    (g : Nat) (y : Int) (T : TypeId) (hx : a.eval x = .slice (some ⟨g, 0, none⟩) 1 1) (hc : Box w g #[.int .u32 y] T) (h63 : xs.length + 1 ≤ maxLen) (hbytes : (xs.length + 1) * bytes ≤ 140737488355328) (hbase : base ≤ w.heap.size)
    (h : ∀ v' w', w'.ownsRow base e 1 v' (xs ++ [y]).length ((xs ++ [y]).map (.int .u32)) → RowTo w w' v v' → wpList P ops Q rest (a.put o.dst v') w') : wpList P ops Q (o :: rest) a w := by
  have e1 : ∀ l : List Int, l.map (Value.int .u32) = l.flatMap (fun y => [Value.int .u32 y]) := fun l => by induction l <;> simp_all
  refine wpList_push_ss (F := fun y : Int => [.int .u32 y]) (sz := 1) w hgd s x t ho base e i (.int .u32 0) bytes ht hi hz hsize hby rfl (by decide) (fun _ => rfl) (fun y u hu => by simp at hu; subst hu; rfl) v xs hs (by rw [← e1]; exact hown) g y T hx hc h63 hbytes hbase (fun v' w' h1 h2 => h v' w' (by rw [e1]; exact h1) h2)
theorem WkAt.tell {w wr w' : World} {R R1 : Nat → Prop} {tb x7 z : Nat} {L' : List Rk} {a1 a2 a3 : Int} {h l : List Pl} {hA : Option Addr} {hc : Nat} {lA : Option Addr} {lc : Nat} {o o' : Value} {g g' : List Int} (H : WkAt w wr R R1 tb x7 z L' a1 a2 a3 h l hA hc lA lc o g) (hz : z = w.heap.size) (ht : RowTo wr w' o o') (ho : w'.ownsRow z 29 1 o' g'.length (g'.map (.int .u32))) :
    WkAt w w' R R1 tb x7 z L' a1 a2 a3 h l hA hc lA lc o' g' := by
  have hold := H.tab.old
  refine ⟨H.box.fr ht.fr (fun e => row_ne_box H.out H.box (by decide) e), own_frS H.hr ht.fr (fun b hb e => ne_types H.hr H.out (by decide) b hb e), own_frS H.lr ht.fr (fun b hb e => ne_types H.lr H.out (by decide) b hb e), H.hz, H.lz, H.tab.far ht.fr (fun x hR e => H.far x e hR), ho, fun b hb hR => ?_, H.fr.trans' ht.fr (fun k hk e => by have := (H.out.lt k e).1; omega)⟩
  exact ht.far (hold b hR) (fun e => H.far b e hR) hb
def slLen : Value → Nat
  | .slice _ n _ => n
  | _ => 0
def RRelOut (w : World) (R : Nat → Prop) (tb : Nat) (L : List Rk) (t : Int) (e : Ending) (w' : World) : Prop :=
  ∃ v L', e = .returned v ∧ L'.map Rk.co = (L.map Rk.co).map (relC t) ∧ w'.ownsRow w.heap.size 29 1 v (relG t (L.map Rk.co)).length ((relG t (L.map Rk.co)).map (.int .u32)) ∧ RStep w R tb L' w'
structure RRI (w wr : World) (R : Nat → Prop) (tb z : Nat) (L L' : List Rk) (t : Int) (i : Nat) (o : Value) (R1 : Nat → Prop) : Prop where
  co : L'.map Rk.co = ((L.take i).map Rk.co).map (relC t) ++ (L.drop i).map Rk.co
  tab : RTab wr R1 tb L'
  r1 : ∀ x, R1 x → R x ∨ z ≤ x
  out : wr.ownsRow z 29 1 o (relG t ((L.take i).map Rk.co)).length ((relG t ((L.take i).map Rk.co)).map (.int .u32))
  far : ∀ b, o.ownBlock = some b → ¬ R1 b
  fr : Fr R w wr
theorem rri_next {L L' : List Rk} {t : Int} {i : Nat} {e0 y : Rk} (hco : L'.map Rk.co = ((L.take i).map Rk.co).map (relC t) ++ (L.drop i).map Rk.co) (hi : L[i]? = some e0) (hy : y.co = relC t e0.co) : (L'.set i y).map Rk.co = ((L.take (i + 1)).map Rk.co).map (relC t) ++ (L.drop (i + 1)).map Rk.co := by
  have hil : i < L.length := (List.getElem?_eq_some_iff.1 hi).1
  rw [List.map_set, hco, List.take_add_one, hi, hy]
  have hlen : (((L.take i).map Rk.co).map (relC t)).length = i := by simp; omega
  rw [List.set_append_right _ _ (by omega), hlen, Nat.sub_self, drop_at hi]
  simp
theorem rri_get {L L' : List Rk} {t : Int} {i : Nat} {e0 : Rk} (hco : L'.map Rk.co = ((L.take i).map Rk.co).map (relC t) ++ (L.drop i).map Rk.co) (hi : L[i]? = some e0) : ∃ e1, L'[i]? = some e1 ∧ e1.co = e0.co := by
  have hil : i < L.length := (List.getElem?_eq_some_iff.1 hi).1
  have hlen : (((L.take i).map Rk.co).map (relC t)).length = i := by simp; omega
  have h1 : (L'.map Rk.co)[i]? = some e0.co := by
    rw [hco, List.getElem?_append_right (by omega), hlen, Nat.sub_self, drop_at hi]
    rfl
  rw [List.getElem?_map] at h1
  cases h : L'[i]? with
  | none => rw [h] at h1; cases h1
  | some e1 => rw [h] at h1; injection h1 with h1; exact ⟨e1, rfl, h1⟩
theorem relG_snoc {L : List Rk} {t : Int} {i : Nat} {e0 : Rk} (hi : L[i]? = some e0) : relG t ((L.take (i + 1)).map Rk.co) = relG t ((L.take i).map Rk.co) ++ (relR e0.h e0.l t).2.2 := by
  unfold relG
  rw [List.take_add_one, hi, List.map_append, List.flatMap_append]
  simp [Rk.co]
set_option maxRecDepth 100000 in
set_option maxHeartbeats 16000000 in
theorem rrelease_any (w : World) (R : Nat → Prop) (tb : Nat) (L : List Rk) (t : Int) (h : RTab w R tb L) (hl : L.length ≤ 1000) (hll : ∀ e ∈ L, e.h.length ≤ 1000 ∧ e.l.length ≤ 1000) :
    Calls Try.prog 24 #[.pointer (some ⟨tb, 0, none⟩), .int .u32 t] w (RRelOut w R tb L t) := by
  obtain ⟨j0, hj0, hj1, hj2, hj3⟩ := info_parts want_info
  obtain ⟨i0, hi0, hi1, hi2, hi3⟩ := info_parts u32_iz
  obtain ⟨z, hz⟩ : ∃ z, w.heap.size = z := ⟨_, rfl⟩
  obtain ⟨n, hn⟩ : ∃ n, L.length = n := ⟨_, rfl⟩
  have HN := Lib.hid hn
  have HZ := Lib.hid hz
  have HLL := Lib.hid hll
  have bn : (n : Int) ≤ 1000 := by omega
  have HI0 : Hid (RRI w w R tb z L L t 0 (.slice none 0 0) R) := Lib.hid ⟨by simp, h, fun x hx => .inl hx, by simpa [relG] using World.ownsRow_nil _ _ _ _, fun b hb => (by cases hb), Fr.refl _ _⟩
  have HG0 : Hid ((relG t ((L.take 0).map Rk.co)).length ≤ 0) := Lib.hid (by simp [relG])
  unfold RRelOut
  rw [hz]
  have CM := Lib.hid (fun (W : World) (v : Value) (l : List Pl) (h : W.ownsRow 0 77 2 v l.length (l.flatMap cPl)) (hl : l.length ≤ 3000) => rmode_any W W.heap.size v l t (SS.of_own cPl_len h) (by omega))
  have CO := Lib.hid (fun (W : World) (v : Value) (l : List Pl) (x : Int) (h : W.ownsRow 0 77 2 v l.length (l.flatMap cPl)) (hl : l.length ≤ 3000) => without_any W W.heap.size v l x (SS.of_own cPl_len h) (Nat.le_refl _) (by omega))
  have CF := Lib.hid (fun (W : World) (v : Value) (l : List Pl) (p : Pl) (h : W.ownsRow 0 77 2 v l.length (l.flatMap cPl)) (hl : l.length ≤ 3000) => rfits_any W W.heap.size v l p (SS.of_own cPl_len h) (Nat.le_refl _) (by omega))
  clear h hl hll hn hz
  go_enter Try.func24, Try.ntmps24
  go_wp2
  go_loopw [5, 6, 7, 8, 9, 10] (fun s5 s6 _ _ _ _ wr => ∃ (i : Nat) (oA : Option Addr) (on oc : Nat) (L' : List Rk) (R1 : Nat → Prop), s5 = .slice oA on oc ∧ s6 = .int .i64 i ∧ i ≤ n ∧ Hid (RRI w wr R tb z L L' t i (.slice oA on oc) R1) ∧ Hid ((relG t ((L.take i).map Rk.co)).length ≤ i * 3000)) (fun _ s6 _ _ _ _ _ => n - (intOf s6).toNat)
  case atStart => exact ⟨0, none, 0, 0, L, R, rfl, rfl, Nat.zero_le _, HI0, Lib.hid (by have := HG0.out; omega)⟩
  case round =>
    obtain ⟨i, oA, on, oc, L', R1, rfl, rfl, hi, HI, HGL⟩ := hrel
    obtain ⟨w2, rfl⟩ : ∃ w2, w2 = wr := ⟨wr, rfl⟩
    clear HI0 HG0
    obtain ⟨A, c, hrw⟩ := HI.out.tab.row
    have hlen : L'.length = n := by
      have := congrArg List.length HI.out.co
      simp at this
      have := HN.out; omega
    have HLN := Lib.hid hlen
    have HRW := Lib.hid hrw
    by_cases hil : i < n
    · have d1 : decide ((i : Int) < (n : Int)) = true := by simp; omega
      have d1' : decide (i < n) = true := by simp; omega
      obtain ⟨g, hA⟩ : ∃ g, A = some ⟨g, 0, none⟩ := by
        rcases hrw.own.2 with ⟨_, h0⟩ | ⟨g, cap, cur, e1, _⟩
        · omega
        · injection e1 with e1; exact ⟨g, e1⟩
      subst hA
      obtain ⟨e0, he0⟩ : ∃ e, L[i]? = some e := ⟨_, List.getElem?_eq_getElem (by rw [HN.out]; exact hil)⟩
      obtain ⟨e1, he1, hco1⟩ := rri_get HI.out.co he0
      have HE0 := Lib.hid he0
      have HE1 := Lib.hid he1
      have HRK := Lib.hid (HI.out.tab.it e1 (List.mem_of_getElem? he1))
      have HEL := Lib.hid (show e1.h.length ≤ 1000 ∧ e1.l.length ≤ 1000 by
        have h1 := HLL.out e0 (List.mem_of_getElem? he0)
        have h2 : e1.h = e0.h := congrArg Rc.h hco1
        have h3 : e1.l = e0.l := congrArg Rc.l hco1
        rw [h2, h3]; exact h1)
      have HCO := Lib.hid hco1
      have hrc := row_cells hrw.own he1
      have k0 : w2.cell? ⟨tb, 0, none⟩ = some (.slice (some ⟨g, 0, none⟩) n c) := by rw [← hlen]; exact hrw.box.cell 0
      obtain ⟨⟨a1, a2, a3⟩, eh, el, eha, ehc, ela, elc⟩ := e1
      have l0 : w2.cell? ⟨g, i * 5, none⟩ = some (.int .u8 a1) := hrc.1 0 _ rfl
      have l1 : w2.cell? ⟨g, i * 5 + 1, none⟩ = some (.int .u32 a2) := hrc.1 1 _ rfl
      have l2 : w2.cell? ⟨g, i * 5 + 2, none⟩ = some (.int .u32 a3) := hrc.1 2 _ rfl
      have l3 : w2.cell? ⟨g, i * 5 + 3, none⟩ = some (.slice eha eh.length ehc) := hrc.1 3 _ rfl
      have l4 : w2.cell? ⟨g, i * 5 + 4, none⟩ = some (.slice ela el.length elc) := hrc.1 4 _ rfl
      have hb3 := new_ (Below.refl w2.heap.size w2) (.cells #[.int .u8 a1, .int .u32 a2, .int .u32 a3, .slice eha eh.length ehc, .slice ela el.length elc] 75)
      have X7 := Box.new w2 #[.int .u8 a1, .int .u32 a2, .int .u32 a3, .slice eha eh.length ehc, .slice ela el.length elc] 75
      obtain ⟨x7, hx7⟩ : ∃ x, w2.heap.size = x := ⟨_, rfl⟩
      have HX7R := Lib.hid (show ¬ R1 x7 ∧ z ≤ x7 from ⟨fun h => by have := HI.out.tab.old x7 h; omega, by have := HI.out.fr.size; have := HZ.out; omega⟩)
      clear hrc he0 he1 hco1 hrw hlen
      go_upto_region 6 with fail
      rw [hx7] at X7
      obtain ⟨w3, hw3⟩ : ∃ w3, w2.alloc (.cells #[.int .u8 a1, .int .u32 a2, .int .u32 a3, .slice eha eh.length ehc, .slice ela el.length elc] 75) = w3 := ⟨_, rfl⟩
      rw [hw3] at hb3 X7
      try rw [hw3]
      try rw [hx7]
      have HB3 := Lib.hid hb3
      have HW0 : Hid (WkAt w w3 R R1 tb x7 z L' a1 a2 a3 eh el eha ehc ela elc (.slice oA on oc) (relG t ((L.take i).map Rk.co))) := Lib.hid
        ⟨X7, own_below HRK.out.h hb3, own_below HRK.out.l hb3, fun b hb => .inl (HRK.out.rh b hb), fun b hb => .inl (HRK.out.rl b hb), HI.out.tab.later hb3, own_below HI.out.out hb3, HI.out.far, HI.out.fr.trans (Fr.of_below hb3)⟩
      have C1 := Lib.hid (CM.out w3 _ eh HW0.out.hr (Nat.le_trans HEL.out.1 (by decide)))
      have C2 := Lib.hid (CM.out w3 _ el HW0.out.lr (Nat.le_trans HEL.out.2 (by decide)))
      obtain ⟨mh, hmh⟩ : ∃ m, lkM eh t = m := ⟨_, rfl⟩
      obtain ⟨ml, hml⟩ : ∃ m, lkM el t = m := ⟨_, rfl⟩
      rw [hmh] at C1
      rw [hml] at C2
      have c3 : w3.cell? ⟨x7, 3, none⟩ = some (.slice eha eh.length ehc) := X7.cell 3
      have c4 : w3.cell? ⟨x7, 4, none⟩ = some (.slice ela el.length elc) := X7.cell 4
      obtain ⟨qs, hqs⟩ : ∃ q, decide (mh = 0 ∧ ml = 0) = q := ⟨_, rfl⟩
      have HQS := Lib.hid (⟨hmh, hml, hqs⟩ : lkM eh t = mh ∧ lkM el t = ml ∧ decide (mh = 0 ∧ ml = 0) = qs)
      clear k0 l0 l1 l2 l3 l4 hb3 X7 hw3 hx7 hmh hml
      go_cut [38] (fun v wx => v = .bool qs ∧ wx = w3)
      case first =>
        by_cases h1 : mh = 0
        · have q1 : (mh == 0) = true := by simp [h1]
          have q2 : (ml == 0) = qs := by rw [← hqs, Bool.eq_iff_iff]; simp [h1]
          clear h1 hqs
          go_wp2_with fail
          (with_reducible refine C1.out.mono ?_)
          rintro er w4 ⟨rfl, rfl⟩
          go_wp2_with fail
          (with_reducible refine C2.out.mono ?_)
          rintro er w4 ⟨rfl, rfl⟩
          go_wp2
          go_meet
          exact ⟨rfl, rfl⟩
        · have q1 : (mh == 0) = false := by simp [h1]
          have q2 : qs = false := by rw [← hqs]; simp [h1]
          subst q2
          clear h1 hqs
          go_wp2_with fail
          (with_reducible refine C1.out.mono ?_)
          rintro er w4 ⟨rfl, rfl⟩
          go_wp2
          go_meet
          exact ⟨rfl, rfl⟩
      case rest =>
      obtain ⟨rfl, rfl⟩ := hcut
      rename_i hKK
      refine hKK _ _ ?_
      obtain ⟨w3, rfl⟩ : ∃ w3, w3 = wc := ⟨wc, rfl⟩
      clear hKK hqs C1 C2
      cases qs with
      | true =>
        have hres : relR eh el t = (eh, el, []) := by
          unfold relR
          rw [HQS.out.1, HQS.out.2.1, if_pos (of_decide_eq_true HQS.out.2.2)]
        have hco : (⟨⟨a1, a2, a3⟩, eh, el, eha, ehc, ela, elc⟩ : Rk).co = relC t e0.co := by
          rw [← HCO.out]; unfold relC; simp only [Rk.co]; rw [hres]
        have hg : relG t ((L.take (i + 1)).map Rk.co) = relG t ((L.take i).map Rk.co) := by
          rw [relG_snoc HE0.out, show e0.h = eh from (congrArg Rc.h HCO.out).symm, show e0.l = el from (congrArg Rc.l HCO.out).symm, hres, List.append_nil]
        have HN2 : Hid (RRI w w3 R tb z L L' t (i + 1) (.slice oA on oc) R1) := Lib.hid
          ⟨by
            have h1 := rri_next HI.out.co HE0.out hco
            have h2 : L'.set i ⟨⟨a1, a2, a3⟩, eh, el, eha, ehc, ela, elc⟩ = L' := by
              obtain ⟨p1, p2⟩ := List.getElem?_eq_some_iff.1 HE1.out
              rw [← p2]; exact List.set_getElem_self p1
            rw [h2] at h1; exact h1, HW0.out.tab, HI.out.r1, by rw [hg]; exact HW0.out.out, HI.out.far, HW0.out.fr⟩
        have HG2 := Lib.hid (show (relG t ((L.take (i + 1)).map Rk.co)).length ≤ (i + 1) * 3000 by rw [hg]; have := HGL.out; omega)
        have hw2 : IntKind.i64.wrap ((i : Int) + 1) = ((i + 1 : Nat) : Int) := by rw [IntKind.wrap_i64]; omega
        clear hres hco hg c3 c4
        go_wp2
        go_roundw
        case rel => exact ⟨i + 1, oA, on, oc, L', R1, rfl, by go_num, by omega, HN2, HG2⟩
        case measure => simp [intOf]; omega
      | false =>
        obtain ⟨h0, hh0⟩ : ∃ h0, wo eh t = h0 := ⟨_, rfl⟩
        obtain ⟨q0, hq0⟩ : ∃ q0, wo el t = q0 := ⟨_, rfl⟩
        have hres : relR eh el t = wkR q0.length h0 q0 := by
          unfold relR
          rw [HQS.out.1, HQS.out.2.1, if_neg (of_decide_eq_false HQS.out.2.2), hh0, hq0]
        have HRES := Lib.hid hres
        have HB0 := Lib.hid (show h0.length ≤ 1000 ∧ q0.length ≤ 1000 from ⟨by rw [← hh0]; exact Nat.le_trans (wo_len _ _) HEL.out.1, by rw [← hq0]; exact Nat.le_trans (wo_len _ _) HEL.out.2⟩)
        have HZZ := Lib.hid (show ∀ W, Fr R w W → z ≤ W.heap.size from fun W hW => by have := hW.size; have := HZ.out; omega)
        obtain ⟨G0, hG0⟩ : ∃ G0, relG t ((L.take i).map Rk.co) = G0 := ⟨_, rfl⟩
        have HG0 := Lib.hid hG0
        rw [hG0] at HW0 HGL
        have CH := Lib.hid (CO.out w3 _ eh t HW0.out.hr (Nat.le_trans HEL.out.1 (by decide)))
        rw [hh0] at CH
        have CQ := Lib.hid (fun (W : World) (h : W.ownsRow 0 77 2 (.slice ela el.length elc) el.length (el.flatMap cPl)) => CO.out W _ el t h (Nat.le_trans HEL.out.2 (by decide)))
        rw [hq0] at CQ
        clear hres hh0 hq0 hG0 c4
        go_wp2_with fail
        (with_reducible refine CH.out.mono ?_)
        rintro er w4 ⟨v4, rfl, ho4, hb4⟩
        obtain ⟨A4, n4, c4, rfl⟩ := own_slice ho4
        have HW1a := (HW0.out.later hb4)
        have HW1 := Lib.hid (HW1a.setH HZ.out.symm HX7R.out.2 HX7R.out.1 (own_lower ho4 (HZZ.out _ HW0.out.fr)))
        have f3 := HW1a.box.frozen 3
        have f3c := HW1a.box.cell 3
        clear ho4 hb4 HW1a CH c3
        go_upto_region 8 with fail
        generalize w4.setCell ⟨x7, 3, none⟩ (.slice A4 n4 c4) = w5 at HW1 ⊢
        clear f3 f3c
        have c4' : w5.cell? ⟨x7, 4, none⟩ = some (.slice ela el.length elc) := HW1.out.box.cell 4
        go_wp2_with fail
        (with_reducible refine (CQ.out _ HW1.out.lr).mono ?_)
        rintro er w6 ⟨v6, rfl, ho6, hb6⟩
        obtain ⟨A6, n6, c6, rfl⟩ := own_slice ho6
        have HW2a := (HW1.out.later hb6)
        have HW2 := Lib.hid (HW2a.setL HZ.out.symm HX7R.out.2 HX7R.out.1 (own_lower ho6 (HZZ.out _ HW1.out.fr)))
        have f4 := HW2a.box.frozen 4
        have f4c := HW2a.box.cell 4
        clear ho6 hb6 HW2a CQ c4' HW1 HW0
        go_upto_block 2 with fail
        generalize w6.setCell ⟨x7, 4, none⟩ (.slice A6 n6 c6) = w7 at HW2 ⊢
        clear f4 f4c
        have HGB := Lib.hid (show G0.length ≤ i * 3000 ∧ i ≤ 1000 from ⟨HGL.out, by have := HN.out; omega⟩)
        go_cut [5] (fun s5 wx => ∃ (oA : Option Addr) (on oc : Nat) (h l : List Pl) (hA : Option Addr) (hc : Nat) (lA : Option Addr) (lc : Nat) (gg : List Int), s5 = .slice oA on oc ∧ Hid (WkAt w wx R R1 tb x7 z L' a1 a2 a3 h l hA hc lA lc (.slice oA on oc) (G0 ++ gg)) ∧ Hid (wkR q0.length h0 q0 = (h, l, gg)) ∧ Hid (gg.length ≤ 1000))
        case first =>
          go_wp2
          go_loopw [5, 8, 9, 10] (fun s5 _ _ _ wr => ∃ (oA : Option Addr) (on oc : Nat) (h l : List Pl) (hA : Option Addr) (hc : Nat) (lA : Option Addr) (lc : Nat) (gg : List Int) (f : Nat), s5 = .slice oA on oc ∧ Hid (on = G0.length + gg.length) ∧ Hid (WkAt w wr R R1 tb x7 z L' a1 a2 a3 h l hA hc lA lc (.slice oA on oc) (G0 ++ gg)) ∧ Hid (wkR q0.length h0 q0 = ((wkR f h l).1, (wkR f h l).2.1, gg ++ (wkR f h l).2.2)) ∧ Hid (l.length ≤ f ∧ gg.length + l.length ≤ q0.length ∧ h.length + l.length ≤ 2000)) (fun s5 _ _ _ _ => G0.length + q0.length - slLen s5)
          case atStart => exact ⟨oA, on, oc, h0, q0, A4, c4, A6, c6, [], q0.length, rfl, Lib.hid (by have := own_n HW2.out.out; simp; exact this), Lib.hid (by rw [List.append_nil]; exact HW2.out), Lib.hid rfl, Lib.hid ⟨Nat.le_refl _, by simp, by have := HB0.out; omega⟩⟩
          case round =>
            obtain ⟨oA, on, oc, h, l, hA, hc, lA, lc, gg, f, rfl, HON, HW, HK, HF⟩ := hrel
            obtain ⟨w8, rfl⟩ : ∃ w8, w8 = wr := ⟨wr, rfl⟩
            clear HW2
            obtain ⟨nl, hnl⟩ : ∃ nl, l.length = nl := ⟨_, rfl⟩
            have HNL := Lib.hid hnl
            have c4' : w8.cell? ⟨x7, 4, none⟩ = some (.slice lA nl lc) := by rw [← hnl]; exact HW.out.box.cell 4
            have bnl : (nl : Int) ≤ 2000 := by have := HF.out.2.2; omega
            clear hnl
            by_cases hp0 : nl = 0
            · have hl0 : l = [] := List.eq_nil_of_length_eq_zero (by rw [HNL.out]; exact hp0)
              have HP := Lib.hid (show Hid (WkAt w w8 R R1 tb x7 z L' a1 a2 a3 h l hA hc lA lc (.slice oA on oc) (G0 ++ gg)) ∧ wkR q0.length h0 q0 = (h, l, gg) ∧ gg.length ≤ 1000 from ⟨HW, by rw [HK.out, hl0, wkR_nil, List.append_nil], by have := HF.out.2.1; have := HB0.out.2; omega⟩)
              subst hp0
              clear hl0
              go_wp2
              go_meet
              exact ⟨_, _, _, _, _, _, _, _, _, _, rfl, HP.out.1, Lib.hid HP.out.2.1, Lib.hid HP.out.2.2⟩
            · have e1 : decide (0 < (nl : Int)) = true := by simp; omega
              have e1' : decide (0 < nl) = true := by simp; omega
              have hin : 0 < nl := by omega
              obtain ⟨p, l', hl'⟩ : ∃ p l', l = p :: l' := by
                cases l with
                | nil => exact absurd HNL.out.symm hp0
                | cons p l' => exact ⟨p, l', rfl⟩
              obtain ⟨bq, oq, hAq, _, hcq⟩ := (SS.of_own cPl_len HW.out.lr).at_ (i := 0) (x := p) (by rw [hl']; rfl)
              subst hAq
              have HL' := Lib.hid hl'
              obtain ⟨pt, pm⟩ := p
              have m0 : w8.cell? ⟨bq, oq, none⟩ = some (.int .u32 pt) := by have := hcq 0 _ rfl; simpa using this
              have m1 : w8.cell? ⟨bq, oq + 1, none⟩ = some (.int .u8 pm) := by have := hcq 1 _ rfl; simpa using this
              have hb9 := new_ (Below.refl w8.heap.size w8) (.cells #[.int .u32 pt, .int .u8 pm] 77)
              have X8 := Box.new w8 #[.int .u32 pt, .int .u8 pm] 77
              obtain ⟨x8, hx8⟩ : ∃ x, w8.heap.size = x := ⟨_, rfl⟩
              clear hcq hl' hp0
              go_upto_region 11 with fail
              obtain ⟨w9, hw9⟩ : ∃ w9, w8.alloc (.cells #[.int .u32 pt, .int .u8 pm] 77) = w9 := ⟨_, rfl⟩
              rw [hx8] at X8
              rw [hw9] at hb9 X8
              try rw [hw9]
              try rw [hx8]
              have HW9 := Lib.hid (HW.out.later hb9)
              have HX8 := Lib.hid (show Box w9 x8 #[.int .u32 pt, .int .u8 pm] 77 ∧ x8 ≠ x7 ∧ z ≤ x8 from ⟨X8, fun e => by have := HW.out.box.lt; omega, by have := HZZ.out _ HW.out.fr; omega⟩)
              clear hb9 X8 hw9 hx8 m0 m1 c4'
              have CFF := Lib.hid (CF.out w9 _ h ⟨pt, pm⟩ HW9.out.hr (by have := HF.out.2.2; omega))
              obtain ⟨qf, hqf⟩ : ∃ q, fitR h ⟨pt, pm⟩ = q := ⟨_, rfl⟩
              rw [hqf] at CFF
              have HQF := Lib.hid hqf
              have c3 : w9.cell? ⟨x7, 3, none⟩ = some (.slice hA h.length hc) := HW9.out.box.cell 3
              have c80 : w9.cell? ⟨x8, 0, none⟩ = some (.int .u32 pt) := HX8.out.1.cell 0
              have c81 : w9.cell? ⟨x8, 1, none⟩ = some (.int .u8 pm) := HX8.out.1.cell 1
              clear hqf
              go_wp2_with fail
              (with_reducible refine CFF.out.mono ?_)
              rintro er wa ⟨rfl, hba⟩
              have HWa := Lib.hid (HW9.out.later hba)
              have HX9 := Lib.hid (HX8.out.1.later hba)
              clear hba c3 c80 c81 CFF
              cases qf with
              | false =>
                have HP := Lib.hid (show wkR q0.length h0 q0 = (h, l, gg) ∧ gg.length ≤ 1000 from ⟨by rw [HK.out, HL'.out, wkR_no HQF.out, List.append_nil], by have := HF.out.2.1; have := HB0.out.2; omega⟩)
                go_wp2
                go_meet
                exact ⟨_, _, _, _, _, _, _, _, _, _, rfl, HWa, Lib.hid HP.out.1, Lib.hid HP.out.2⟩
              | true =>
                have c3 : wa.cell? ⟨x7, 3, none⟩ = some (.slice hA h.length hc) := HWa.out.box.cell 3
                have c80 : wa.cell? ⟨x8, 0, none⟩ = some (.int .u32 pt) := HX9.out.cell 0
                have CWW := Lib.hid (CO.out wa _ h pt HWa.out.hr (by have := HF.out.2.2; omega))
                go_wp2_with fail
                (with_reducible refine CWW.out.mono ?_)
                rintro er wb ⟨vb, rfl, hob, hbb⟩
                have HWb := Lib.hid (HWa.out.later hbb)
                have HOb := Lib.hid (own_lower hob (HZZ.out _ HWa.out.fr))
                have HXb := Lib.hid (HX9.out.later hbb)
                have HHb := Lib.hid (show (wo h pt).length ≤ 2000 from Nat.le_trans (wo_len _ _) (by have := HF.out.2.2; omega))
                have c80 : wb.cell? ⟨x8, 0, none⟩ = some (.int .u32 pt) := HXb.out.cell 0
                have c81 : wb.cell? ⟨x8, 1, none⟩ = some (.int .u8 pm) := HXb.out.cell 1
                have HVb := Lib.hid (show (∀ b, vb.ownBlock = some b → wa.heap.size ≤ b) ∧ x8 < wa.heap.size ∧ x7 < wa.heap.size from ⟨fun b hb => (hob.lt b hb).1, HX9.out.lt, HWa.out.box.lt⟩)
                have HZb := Lib.hid (HZZ.out _ HWb.out.fr)
                clear hob hbb CWW c3
                go_wp2_with (at_builtin; refine wpList_push_ss (F := cPl) (sz := 2) _ rfl _ _ _ rfl z 77 j0 _ 8 Try.underlying73 hj0 hj1 hj2 hj3 rfl (by decide) cPl_len cPl_one vb _ rfl (own_below HOb.out (new_ (Below.refl _ _) (.cells #[.int .u32 pt, .int .u8 pm] 77))) wb.heap.size ⟨pt, pm⟩ 77 rfl (Box.new wb _ _) (by have := HHb.out; unfold maxLen; omega) (by have := HHb.out; omega) (by have := HZb.out; simp; omega) ?_
                             intro vd wd hod htd
                             have tt := (RowTo.of_below (new_ (Below.refl wb.heap.size wb) (.cells #[.int .u32 pt, .int .u8 pm] 77)) vb).trans htd
                             obtain ⟨Ad, nd, cd, rfl⟩ := own_slice hod
                             have HOd := Lib.hid hod
                             have HWd := Lib.hid (HWb.out.beside tt (fun b hb => by have h1 := HVb.out.1 b hb; exact ⟨by have h2 := HVb.out.2.2; omega, fun hR => by have h3 := HWa.out.tab.old b hR; omega, fun e => by have h3 := (HWa.out.hr.lt b e).2; omega, fun e => by have h3 := (HWa.out.lr.lt b e).2; omega, fun e => by have h3 := (HWa.out.out.lt b e).2; omega, by have h3 := HZ.out; have h4 := HZZ.out _ HWa.out.fr; omega⟩))
                             have HXd := Lib.hid (HXb.out.fr tt.fr (fun e => by have h1 := HVb.out.1 _ e; have h2 := HVb.out.2.1; omega))
                             have f3 := HWd.out.box.frozen 3
                             have f3c := HWd.out.box.cell 3
                             have f4d : wd.cell? ⟨x7, 4, none⟩ = some (.slice (some ⟨bq, oq, none⟩) l.length lc) := HWd.out.box.cell 4
                             have f80 : wd.cell? ⟨x8, 0, none⟩ = some (.int .u32 pt) := HXd.out.cell 0
                             have hxx : ¬ x8 = x7 := HX8.out.2.1
                             have hxx' : ¬ x7 = x8 := fun e => HX8.out.2.1 e.symm
                             clear hod htd tt c80 c81)
                have HWe := Lib.hid (HWd.out.setH HZ.out.symm HX7R.out.2 HX7R.out.1 HOd.out)
                have HXe := Lib.hid (HXd.out.fr ((Fr.refl (fun k => k = x7) wd).setCell (p := ⟨x7, 3, none⟩) (.inl rfl) (.slice Ad nd cd)) (fun e => HX8.out.2.1 e))
                clear HWd
                clear f3 f3c f4d f80 hxx hxx'
                generalize wd.setCell ⟨x7, 3, none⟩ (.slice Ad nd cd) = we at HWe HXe ⊢
                have CWW := Lib.hid (CO.out we _ l pt HWe.out.lr (by have := HF.out.2.2; omega))
                (with_reducible refine CWW.out.mono ?_)
                rintro er wf ⟨vf, rfl, hof, hbf⟩
                obtain ⟨Af, nf, cf, rfl⟩ := own_slice hof
                have HWfa := HWe.out.later hbf
                have HWf := Lib.hid (HWfa.setL HZ.out.symm HX7R.out.2 HX7R.out.1 (own_lower hof (HZZ.out _ HWe.out.fr)))
                have HXf := Lib.hid ((HXe.out.later hbf).fr ((Fr.refl (fun k => k = x7) wf).setCell (p := ⟨x7, 4, none⟩) (.inl rfl) (.slice Af nf cf)) (fun e => HX8.out.2.1 e))
                have f4 := HWfa.box.frozen 4
                have f4c := HWfa.box.cell 4
                clear hof hbf CWW HWfa
                go_upto_region 17 with fail
                clear f4 f4c
                generalize wf.setCell ⟨x7, 4, none⟩ (.slice Af nf cf) = wg at HWf HXf ⊢
                have c80 : wg.cell? ⟨x8, 0, none⟩ = some (.int .u32 pt) := HXf.out.cell 0
                have HGL2 := Lib.hid (show (G0 ++ gg).length ≤ 3001000 by rw [List.length_append]; have := HGB.out; have := HF.out.2.1; have := HB0.out.2; omega)
                have HZg := Lib.hid (HZZ.out _ HWf.out.fr)
                go_wp2_with (at_builtin; refine wpList_push_u32 _ rfl _ _ _ rfl z 29 i0 4 Try.underlying38 hi0 hi1 hi2 hi3 (.slice oA on oc) (G0 ++ gg) rfl (own_below HWf.out.out (new_ (Below.refl _ _) (.cells #[.int .u32 pt] 29))) wg.heap.size pt 29 rfl (Box.new wg _ _) (by have := HGL2.out; unfold maxLen; omega) (by have := HGL2.out; omega) (by have := HZg.out; simp; omega) ?_
                             intro vh wh hoh hth
                             have tt := (RowTo.of_below (new_ (Below.refl wg.heap.size wg) (.cells #[.int .u32 pt] 29)) (.slice oA on oc)).trans hth
                             obtain ⟨Ah, nh, ch, rfl⟩ := own_slice hoh
                             have HON2 := Lib.hid (show nh = G0.length + (gg ++ [pt]).length by have h1 := own_n hoh; rw [h1]; simp only [List.length_append, List.length_cons, List.length_nil]; omega)
                             have HWh := Lib.hid (HWf.out.tell (g' := G0 ++ (gg ++ [pt])) HZ.out.symm tt (by rw [← List.append_assoc]; exact hoh))
                             clear hoh hth tt c80)
                have HK2 := Lib.hid (show 0 < f ∧ wkR q0.length h0 q0 = ((wkR (f - 1) (wo h pt ++ [⟨pt, pm⟩]) (wo l pt)).1, (wkR (f - 1) (wo h pt ++ [⟨pt, pm⟩]) (wo l pt)).2.1, (gg ++ [pt]) ++ (wkR (f - 1) (wo h pt ++ [⟨pt, pm⟩]) (wo l pt)).2.2) by
                  have hf0 : 0 < f := by have := HF.out.1; have := HNL.out; omega
                  refine ⟨hf0, ?_⟩
                  obtain ⟨f', rfl⟩ : ∃ f', f = f' + 1 := ⟨f - 1, by omega⟩
                  rw [HK.out, HL'.out, wkR_yes HQF.out, Nat.add_sub_cancel, List.append_assoc]
                  rfl)
                have HF2 := Lib.hid (show (wo l pt).length ≤ f - 1 ∧ (gg ++ [pt]).length + (wo l pt).length ≤ q0.length ∧ (wo h pt ++ [(⟨pt, pm⟩ : Pl)]).length + (wo l pt).length ≤ 2000 by
                  have h1 : (wo l pt).length + 1 ≤ l.length := by rw [HL'.out]; have : (wo ((⟨pt, pm⟩ : Pl) :: l') pt).length ≤ l'.length := wo_self_len (p := ⟨pt, pm⟩); rw [List.length_cons]; omega
                  have h2 := wo_len h pt
                  have h3 := HF.out
                  rw [List.length_append, List.length_append]
                  simp only [List.length_cons, List.length_nil]
                  omega)
                have HME := Lib.hid (show G0.length + q0.length - nh < G0.length + q0.length - on by
                  have h1 := HON.out; have h2 := HON2.out; have h3 := HF2.out.2.1
                  rw [List.length_append] at h2 h3
                  simp only [List.length_cons, List.length_nil] at h2 h3
                  omega)
                clear HWf HWe HWb HWa HW9
                go_wp2
                go_roundw
                case rel => exact ⟨Ah, nh, ch, _, _, _, _, _, _, gg ++ [pt], f - 1, rfl, HON2, HWh, Lib.hid HK2.out.2, HF2⟩
                case measure => simp only [slLen]; exact HME.out
        case rest =>
        obtain ⟨oA2, on2, oc2, h, l, hA, hc, lA, lc, gg, rfl, HW, HK, HGG⟩ := hcut
        rename_i hKK
        refine hKK _ _ ?_
        obtain ⟨wa, rfl⟩ : ∃ wa, wa = wc := ⟨wc, rfl⟩
        clear hKK HW2
        obtain ⟨A9, c9, hrw9⟩ := HW.out.tab.row
        obtain ⟨g9, hA9⟩ : ∃ g, A9 = some ⟨g, 0, none⟩ := by
          rcases hrw9.own.2 with ⟨_, h0⟩ | ⟨g, cap, cur, e1, _⟩
          · have := HLN.out; omega
          · injection e1 with e1; exact ⟨g, e1⟩
        subst hA9
        have HR9 := Lib.hid hrw9
        have k0 : wa.cell? ⟨tb, 0, none⟩ = some (.slice (some ⟨g9, 0, none⟩) n c9) := by rw [← HLN.out]; exact hrw9.box.cell 0
        obtain ⟨nh, hnh⟩ : ∃ nh, h.length = nh := ⟨_, rfl⟩
        obtain ⟨nl, hnl⟩ : ∃ nl, l.length = nl := ⟨_, rfl⟩
        have HNH := Lib.hid (⟨hnh, hnl⟩ : h.length = nh ∧ l.length = nl)
        have y0 : wa.cell? ⟨x7, 0, none⟩ = some (.int .u8 a1) := HW.out.box.cell 0
        have y1 : wa.cell? ⟨x7, 1, none⟩ = some (.int .u32 a2) := HW.out.box.cell 1
        have y2 : wa.cell? ⟨x7, 2, none⟩ = some (.int .u32 a3) := HW.out.box.cell 2
        have y3 : wa.cell? ⟨x7, 3, none⟩ = some (.slice hA nh hc) := by rw [← hnh]; exact HW.out.box.cell 3
        have y4 : wa.cell? ⟨x7, 4, none⟩ = some (.slice lA nl lc) := by rw [← hnl]; exact HW.out.box.cell 4
        clear hrw9 hnh hnl
        go_still_tail 7, (by kernel_rfl)
        change wpList _ _ _ _ _ wa.drew
        obtain ⟨wb, hwb⟩ : ∃ wb, wa.drew = wb := ⟨_, rfl⟩
        have hbb : Below wa.heap.size wa wb := by rw [← hwb]; exact below_drewN (Below.refl _ _) 1
        rw [hwb]
        clear hwb k0 y0 y1 y2 y3 y4
        have hWb := HW.out.later hbb
        have hrb : RRow wb R1 tb L' (some ⟨g9, 0, none⟩) c9 := ⟨HR9.out.box.later hbb, own_below HR9.out.own hbb, HR9.out.rr⟩
        have hrc := row_cells hrb.own HE1.out
        have hres : relR eh el t = (h, l, gg) := by rw [HRES.out]; exact HK.out
        have hco : (⟨⟨a1, a2, a3⟩, h, l, hA, hc, lA, lc⟩ : Rk).co = relC t e0.co := by
          rw [← HCO.out]; unfold relC; simp only [Rk.co]; rw [hres]
        have hg : relG t ((L.take (i + 1)).map Rk.co) = G0 ++ gg := by
          rw [relG_snoc HE0.out, show e0.h = eh from (congrArg Rc.h HCO.out).symm, show e0.l = el from (congrArg Rc.l HCO.out).symm, hres, HG0.out]
        have hput := rput hWb.tab hrb HE1.out ⟨⟨a1, a2, a3⟩, h, l, hA, hc, lA, lc⟩ hWb.hr hWb.lr
        have hne9 : ∀ b, (Value.slice oA2 on2 oc2).ownBlock = some b → ¬ b = g9 := fun b hb e => ne_types hWb.out hrb.own (by decide) b hb (by rw [e]; rfl)
        have HN2 : Hid (RRI w (put5 wb g9 (i * 5) ⟨⟨a1, a2, a3⟩, h, l, hA, hc, lA, lc⟩) R tb z L (L'.set i ⟨⟨a1, a2, a3⟩, h, l, hA, hc, lA, lc⟩) t (i + 1) (.slice oA2 on2 oc2) _) := Lib.hid
          ⟨rri_next HI.out.co HE0.out hco, hput.1, fun x hx => by
            rcases hx with h1 | h1 | h1
            · exact HI.out.r1 x h1
            · exact (hWb.hz x h1).elim (HI.out.r1 x) .inr
            · exact (hWb.lz x h1).elim (HI.out.r1 x) .inr, by rw [hg]; exact own_frS hWb.out (put5_fr wb g9 (i * 5) _) hne9, fun b hb hR => by
            rcases hR with h1 | h1 | h1
            · exact hWb.far b hb h1
            · exact ne_types hWb.out hWb.hr (by decide) b hb h1
            · exact ne_types hWb.out hWb.lr (by decide) b hb h1, fr_chain hWb.fr (fun x hx => (HI.out.r1 x hx).imp id (fun h => by have := HZ.out; omega)) hput.2⟩
        have HG2 := Lib.hid (show (relG t ((L.take (i + 1)).map Rk.co)).length ≤ (i + 1) * 3000 by rw [hg, List.length_append]; have := HGB.out.1; have := HGG.out; omega)
        have HN3 : Hid (RRI w (((((wb.setCell ⟨g9, i * 5, none⟩ (.int .u8 a1)).setCell ⟨g9, i * 5 + 1, none⟩ (.int .u32 a2)).setCell ⟨g9, i * 5 + 2, none⟩ (.int .u32 a3)).setCell ⟨g9, i * 5 + 3, none⟩ (.slice hA nh hc)).setCell ⟨g9, i * 5 + 4, none⟩ (.slice lA nl lc)) R tb z L (L'.set i ⟨⟨a1, a2, a3⟩, h, l, hA, hc, lA, lc⟩) t (i + 1) (.slice oA2 on2 oc2) _) := Lib.hid (by
          have := HN2.out
          unfold put5 at this
          simp only [Rk.hv, Rk.lv] at this
          rw [HNH.out.1, HNH.out.2] at this
          exact this)
        have g0 : wb.cell? ⟨g9, i * 5, none⟩ = some (.int .u8 a1) := hrc.1 0 _ rfl
        have g1 : wb.cell? ⟨g9, i * 5 + 1, none⟩ = some (.int .u32 a2) := hrc.1 1 _ rfl
        have g2 : wb.cell? ⟨g9, i * 5 + 2, none⟩ = some (.int .u32 a3) := hrc.1 2 _ rfl
        have g3 : wb.cell? ⟨g9, i * 5 + 3, none⟩ = some _ := hrc.1 3 _ rfl
        have g4 : wb.cell? ⟨g9, i * 5 + 4, none⟩ = some _ := hrc.1 4 _ rfl
        have r0 := hrc.2 (i * 5)
        have r1 := hrc.2 (i * 5 + 1)
        have r2 := hrc.2 (i * 5 + 2)
        have r3 := hrc.2 (i * 5 + 3)
        have r4 := hrc.2 (i * 5 + 4)
        have hw2 : IntKind.i64.wrap ((i : Int) + 1) = ((i + 1 : Nat) : Int) := by rw [IntKind.wrap_i64]; omega
        clear hbb hrc hWb hrb hres hco hg hput hne9 HN2
        go_wp2
        go_roundw
        case rel => exact ⟨i + 1, oA2, on2, oc2, _, _, rfl, by go_num, by omega, HN3, HG2⟩
        case measure => simp [intOf]; omega
    · have d1 : decide ((i : Int) < (n : Int)) = false := by simp; omega
      have d1' : decide (i < n) = false := by simp; omega
      have k0 : w2.cell? ⟨tb, 0, none⟩ = some (.slice A n c) := by rw [← hlen]; exact hrw.box.cell 0
      have htk : L.take i = L := by rw [show i = n by omega, ← HN.out, List.take_length]
      have hdr : L.drop i = [] := List.drop_eq_nil_of_le (by rw [HN.out]; omega)
      have HFIN := Lib.hid (show L'.map Rk.co = (L.map Rk.co).map (relC t) ∧ w2.ownsRow z 29 1 (.slice oA on oc) (relG t (L.map Rk.co)).length ((relG t (L.map Rk.co)).map (.int .u32)) ∧ RStep w R tb L' w2 from by
        have h1 := HI.out.co
        have h2 := HI.out.out
        rw [htk] at h1 h2
        rw [hdr] at h1
        exact ⟨by simpa using h1, h2, R1, HI.out.tab, HI.out.fr, fun x hx => by rw [HZ.out]; exact HI.out.r1 x hx⟩)
      clear htk hdr hrw hlen
      go_wp2
      go_ret
      exact ⟨_, L', rfl, HFIN.out.1, HFIN.out.2.1, HFIN.out.2.2⟩
end Go.Proofs.Ytpndcpmfcajmdaa.Lock
