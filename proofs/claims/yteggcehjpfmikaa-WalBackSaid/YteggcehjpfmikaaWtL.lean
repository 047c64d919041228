import Derived.Test.YteggcehjpfmikaaWtK
/- The log: a record is read back. -/
namespace Go.Proofs.Yteggcehjpfmikaa.Wal
open Go.ChangeShapes Go.WideShapes Go.ChangeAt Go.RowKit Go.IntWalk Go.Proofs.Mem Go.Proofs.Each Law Go.Proofs.Yteggcehjpfmikaa.Disk Strip Rec
set_option linter.unusedVariables false
set_option linter.unusedSimpArgs false
theorem strm_lt {rs : List Rc} (good : RsOk rs) {i j : Nat} (hij : i < j) (hj : j ≤ rs.length) : (strm (rs.take i)).length < (strm (rs.take j)).length := by
  have h1 := (seg_rec (rs := rs) (k := i) (by omega)).1
  have h2 := enc_min (rs[i]'(by omega)) (good _ (List.getElem_mem _)).2
  have h3 := strm_take_le rs (i + 1) j hij
  omega
theorem from_at {ba : Int} {rs : List Rc} {r k : Nat} (good : RsOk rs) (hk : k < rs.length) (h : FirstYes (fromF ba (ba + ((strm (rs.take k)).length : Nat)) (begs rs)) rs.length r) : r = k := by
  have hf : ∀ i, i < rs.length → fromF ba (ba + ((strm (rs.take k)).length : Nat)) (begs rs) i = decide (ba + ((strm (rs.take k)).length : Nat) ≤ ba + ((strm (rs.take i)).length : Nat)) := fun i hi => by
    unfold fromF
    rw [begs_len, if_pos hi, begs_getD rs i hi]
  rcases Nat.lt_trichotomy r k with h1 | h1 | h1
  · have h2 := h.2.2 r (Nat.le_refl _) (by omega)
    rw [hf r (by omega)] at h2
    have h3 := of_decide_eq_true h2
    have := strm_lt good h1 (by omega)
    omega
  · exact h1
  · have h2 := h.2.1 k h1
    rw [hf k hk] at h2
    have h3 := of_decide_eq_false h2
    omega
def ReadR (w : World) (r : Rc) (next : Int) (e : Ending) (w' : World) : Prop := ∃ a b ta da, e = .returned (.tuple #[.agg (rcV r a b ta da), .int .u64 next, .int .u16 0]) ∧ RcOwn w' w.heap.size r a b ta da ∧ Below w.heap.size w w'
section
variable {w w' : World} {T : Nat → Prop} {t g : Nat} {fv : Nat → Value} {D : Dv} {L : Lv}
set_option maxRecDepth 100000 in
set_option maxHeartbeats 16000000 in
theorem read_back (h : LgAt w T t g fv D L) (ok : LvOk D L) (rs : List Rc) (hys : L.ys = strm rs) (hss : L.ss = begs rs) (good : RsOk rs) (k : Nat) (hk : k < rs.length) :
    Calls Try.prog 20 #[.pointer (some ⟨t, 0, none⟩), .int .u64 (L.h.ba + ((strm (rs.take k)).length : Nat))] w (ReadR w (rs[k]'hk) (L.h.ba + ((strm (rs.take (k + 1))).length : Nat))) := by
  have XZ := Box.new w (bareC 0 0 0 0) 54
  have hb1 := new_ (Below.refl w.heap.size w) (.cells (bareC 0 0 0 0) 54)
  obtain ⟨z, hz⟩ : ∃ z, w.heap.size = z := ⟨_, rfl⟩
  obtain ⟨w1, hw1⟩ : ∃ w1, w.alloc (.cells (bareC 0 0 0 0) 54) = w1 := ⟨_, rfl⟩
  rw [hw1] at XZ hb1
  obtain ⟨S, A, c, At, ct, h1, h2, h3, h4, h5, h6, h7, h8, h9⟩ := id h
  have it := IR.of_own h4
  have hba := ok.ba
  have hnn := ok.nn
  have hsl : L.ss.length = rs.length := by rw [hss, begs_len]
  have hmany : rs.length ≤ 4000 := by have := strm_many good; rw [← hys] at this; omega
  obtain ⟨n, hn⟩ : ∃ n, rs.length = n := ⟨_, rfl⟩
  rw [hn] at hsl hmany
  obtain ⟨ba, hbe⟩ : ∃ ba, L.h.ba = ba := ⟨_, rfl⟩
  have SK := Lib.hid (fun W (hb : Below w.heap.size w W) => (by
    have := (h1.later hb).cell 7
    rw [hsl] at this
    exact this : W.cell? ⟨t, 7, none⟩ = some (.slice At n ct)))
  have SI := Lib.hid (fun (W : World) (hb : Below w.heap.size w W) (k : Nat) (hk : k < n) => (by
    obtain ⟨b2, o2, e2, hb2, hc2⟩ := it.index k (by omega)
    refine ⟨b2, o2, e2, ?_⟩
    rw [hss, begs_getD rs k (by omega)] at hc2
    exact (hb.cell (p := ⟨b2, o2 + k, none⟩) hb2).trans hc2 : ∃ b2 o2, At = some ⟨b2, o2, none⟩ ∧ W.cell? ⟨b2, o2 + k, none⟩ = some (.int .i64 ((strm (rs.take k)).length : Nat))))
  have hpl : ∀ k, ba + ((strm (rs.take k)).length : Nat) ≤ 18446744073709551615 := fun k => by
    have := strm_take_all rs k; rw [← hys] at this; omega
  have CP := Lib.hid (fun (W : World) (hb : Below w.heap.size w W) (k : Nat) => (by
    have := place_any W (h1.later hb) (strm (rs.take k)).length ⟨by omega, by rw [hbe]; exact hpl k⟩
    rw [hbe] at this
    exact this))
  have CR := Lib.hid (fun (W : World) (hb : Below w.heap.size w W) (k : Nat) (hk : k < rs.length) => (by
    obtain ⟨e1, e2⟩ := seg_rec hk
    refine record_any (h.later hb) ok k (by rw [hss, begs_len]; exact hk) (rs[k]'hk) (strm (rs.take k)).length (strm (rs.take (k + 1))).length (by rw [hss, begs_getD rs k hk]) (by rw [hss, hys, endS_rec hk]) (by have := enc_min (rs[k]'hk) (good _ (List.getElem_mem hk)).2; omega) (by rw [hys]; exact strm_take_all rs (k + 1)) ?_
    rw [hys, e1, Nat.add_sub_cancel_left, e2]
    have := (resD_enc (rs[k]'hk) (good _ (List.getElem_mem hk)).1 (good _ (List.getElem_mem hk)).2 []).1
    rw [List.append_nil] at this
    exact this : Calls Try.prog 43 #[.pointer (some ⟨t, 0, none⟩), .int .i64 k] W (RecR W (rs[k]'hk))))
  have CF := Lib.hid (by have := from_any w1 (h1.later hb1) L.ss ((it.below hb1).more hb1.size) ok.ssl (ba + ((strm (rs.take k)).length : Nat)) ok.ri (by omega); rw [hbe] at this; exact this)
  have CE := Lib.hid (fun (W : World) (hb : Below w.heap.size w W) => (by
    have := endof_any W (h1.later hb) w.heap.size L.ss (it.below hb) ok.ssl (by omega) k (by omega) (by omega)
    rw [hss, hys, endS_rec hk] at this
    exact this))
  have HFR := Lib.hid (fun (r : Nat) (hr : FirstYes (fromF ba (ba + ((strm (rs.take k)).length : Nat)) L.ss) L.ss.length r) => (by rw [hss, begs_len] at hr; exact from_at good hk hr : r = k))
  obtain ⟨b2, o2, hAt, _⟩ := SI.out w (Below.refl _ _) k (by omega)
  subst hAt
  have SJ := Lib.hid (show ∀ W, Below w.heap.size w W → W.cell? ⟨b2, o2 + k, none⟩ = some (.int .i64 ((strm (rs.take k)).length : Nat)) from fun W hb => by
    obtain ⟨b', o', e, hc⟩ := SI.out W hb k (by omega)
    injection e with e
    injection e with g1 g2
    subst g1 g2
    exact hc)
  have CPk := Lib.hid (fun W hb => CP.out W hb k)
  have CPn := Lib.hid (fun W hb => CP.out W hb (k + 1))
  have CRk := Lib.hid (fun W hb => CR.out W hb k hk)
  obtain ⟨s, hs⟩ : ∃ s, (strm (rs.take k)).length = s := ⟨_, rfl⟩
  obtain ⟨m, hm⟩ : ∃ m, (strm (rs.take (k + 1))).length = m := ⟨_, rfl⟩
  obtain ⟨rr, hrr⟩ : ∃ rr, rs[k]'hk = rr := ⟨_, rfl⟩
  rw [hs] at CF HFR SJ CPk
  rw [hm] at CE CPn
  rw [hrr] at CRk
  rw [hbe, hs, hm, hrr]
  have a0 : (0 : Int) ≤ (k : Int) := by omega
  have a1 : (k : Int) < (n : Int) := by omega
  have d1 : ((k : Int) == (n : Int)) = false := by simp; omega
  have d2 : (k == n) = false := by simp; omega
  have HB1 := Lib.hid hb1
  have HXZ := Lib.hid XZ
  have HZ := Lib.hid hz
  clear h h1 h2 h3 h4 h5 h6 h7 h8 h9 it hba hnn hsl hys hss good hpl hmany hn ok hbe hb1 XZ hs hm hrr CP CR SI hz
  go_enter Try.func20, Try.ntmps20
  go_wp2_with fail
  (with_reducible refine CF.out.mono ?_)
  rintro e w2 ⟨r, rfl, hr, hb2⟩
  have hr0 := HFR.out r hr
  subst hr0
  have HB2 := Lib.hid (HB1.out.trans (hb2.mono HB1.out.size))
  have HX2 := Lib.hid (HXZ.out.later hb2)
  have hsz1 := HXZ.out.lt
  have HLT := Lib.hid (Nat.lt_of_lt_of_le hsz1 hb2.size)
  clear hsz1
  have j7 := SK.out w2 HB2.out
  have j2 := SJ.out w2 HB2.out
  clear hb2 hr
  go_wp2_with fail
  (with_reducible refine (CPk.out _ HB2.out).mono ?_)
  rintro er w3 ⟨rfl, rfl⟩
  go_wp2_with fail
  (with_reducible refine (CRk.out _ HB2.out).mono ?_)
  rintro er w4 ⟨va, vb, vt, vd, rfl, ho4, hb4⟩
  obtain ⟨B1, k1, e1, _, _⟩ := ho4.in_.a.form
  obtain ⟨B2, k2, e2, _, _⟩ := ho4.in_.b.form
  obtain ⟨B3, k3, e3, _, _⟩ := ho4.in_.t.form
  obtain ⟨B4, k4, e4, _, _⟩ := ho4.in_.d.form
  subst e1 e2 e3 e4
  have HB4 := Lib.hid (HB2.out.trans (hb4.mono HB2.out.size))
  have HX4 := Lib.hid (HX2.out.later hb4)
  have HO4 := Lib.hid ho4
  have xz := HX4.out.cell
  have yz := HX4.out.frozen
  clear ho4 hb4 j7 j2
  go_wp2_with fail
  (with_reducible refine (CE.out _ HB4.out).mono ?_)
  rintro er w5 ⟨rfl, rfl⟩
  go_wp2_with fail
  (with_reducible refine (CPn.out _ HB4.out).mono ?_)
  rintro er w6 ⟨rfl, rfl⟩
  go_wp2
  have b9 := st12_box HX4.out (.int .u8 rr.k) (.int .u32 rr.t) (.int .u64 rr.p) (.int .u64 rr.n) (.int .u32 rr.c.pg) (.int .u16 rr.c.sl) (.bool rr.c.had) (.bool rr.c.has) (.slice B1 rr.c.xs.length k1) (.slice B2 rr.c.ys.length k2) (.slice B3 rr.ts.length k3) (.slice B4 rr.ds.length k4)
  have o9 := st12_own HO4.out HLT.out (.int .u8 rr.k) (.int .u32 rr.t) (.int .u64 rr.p) (.int .u64 rr.n) (.int .u32 rr.c.pg) (.int .u16 rr.c.sl) (.bool rr.c.had) (.bool rr.c.has) (.slice B1 rr.c.xs.length k1) (.slice B2 rr.c.ys.length k2) (.slice B3 rr.ts.length k3) (.slice B4 rr.ds.length k4)
  have l9 := st12_below HB4.out (p := w.heap.size) (Nat.le_refl _) (.int .u8 rr.k) (.int .u32 rr.t) (.int .u64 rr.p) (.int .u64 rr.n) (.int .u32 rr.c.pg) (.int .u16 rr.c.sl) (.bool rr.c.had) (.bool rr.c.has) (.slice B1 rr.c.xs.length k1) (.slice B2 rr.c.ys.length k2) (.slice B3 rr.ts.length k3) (.slice B4 rr.ds.length k4)
  obtain ⟨w9, hw9⟩ : ∃ w9, st12 w4 w.heap.size (.int .u8 rr.k) (.int .u32 rr.t) (.int .u64 rr.p) (.int .u64 rr.n) (.int .u32 rr.c.pg) (.int .u16 rr.c.sl) (.bool rr.c.had) (.bool rr.c.has) (.slice B1 rr.c.xs.length k1) (.slice B2 rr.c.ys.length k2) (.slice B3 rr.ts.length k3) (.slice B4 rr.ds.length k4) = w9 := ⟨_, rfl⟩
  rw [hw9] at b9 o9 l9
  simp only [st12] at hw9
  rw [hw9]
  have HO9 := Lib.hid o9
  have HL9 := Lib.hid l9
  clear o9 l9 hw9 xz yz
  have r9_0 : w9.cell? ⟨w.heap.size, 0, none⟩ = some (.int .u8 rr.k) := b9.cell 0
  have r9_1 : w9.cell? ⟨w.heap.size, 1, none⟩ = some (.int .u32 rr.t) := b9.cell 1
  have r9_2 : w9.cell? ⟨w.heap.size, 2, none⟩ = some (.int .u64 rr.p) := b9.cell 2
  have r9_3 : w9.cell? ⟨w.heap.size, 3, none⟩ = some (.int .u64 rr.n) := b9.cell 3
  have r9_4 : w9.cell? ⟨w.heap.size, 4, none⟩ = some (.int .u32 rr.c.pg) := b9.cell 4
  have r9_5 : w9.cell? ⟨w.heap.size, 5, none⟩ = some (.int .u16 rr.c.sl) := b9.cell 5
  have r9_6 : w9.cell? ⟨w.heap.size, 6, none⟩ = some (.bool rr.c.had) := b9.cell 6
  have r9_7 : w9.cell? ⟨w.heap.size, 7, none⟩ = some (.bool rr.c.has) := b9.cell 7
  have r9_8 : w9.cell? ⟨w.heap.size, 8, none⟩ = some (.slice B1 rr.c.xs.length k1) := b9.cell 8
  have r9_9 : w9.cell? ⟨w.heap.size, 9, none⟩ = some (.slice B2 rr.c.ys.length k2) := b9.cell 9
  have r9_10 : w9.cell? ⟨w.heap.size, 10, none⟩ = some (.slice B3 rr.ts.length k3) := b9.cell 10
  have r9_11 : w9.cell? ⟨w.heap.size, 11, none⟩ = some (.slice B4 rr.ds.length k4) := b9.cell 11
  clear b9
  refine bodyPost_ret (v := .tuple #[.agg #[.int .u8 rr.k, .int .u32 rr.t, .int .u64 rr.p, .int .u64 rr.n, .int .u32 rr.c.pg, .int .u16 rr.c.sl, .bool rr.c.had, .bool rr.c.has, .slice B1 rr.c.xs.length k1, .slice B2 rr.c.ys.length k2, .slice B3 rr.ts.length k3, .slice B4 rr.ds.length k4], .int .u64 (ba + (m : Int)), .int .u16 0]) (by simp [results, Try.results20, go_sem, r9_0, r9_1, r9_2, r9_3, r9_4, r9_5, r9_6, r9_7, r9_8, r9_9, r9_10, r9_11]; try rfl) rfl ?_
  exact ⟨_, _, _, _, rfl, HO9.out.lower HB2.out.size, HL9.out⟩
end
end Go.Proofs.Yteggcehjpfmikaa.Wal
