import Derived.Test.YtpndcpmfcajmdaaLn7
import Derived.Test.YtpndcpmfcajmdaaLn8
import Derived.Deep.AppendLies
namespace Go.Proofs.Ytpndcpmfcajmdaa.Lock
open Go.ChangeShapes Go.WideShapes Go.ChangeAt Go.RowKit Go.IntWalk Go.Proofs.Mem Law Go.Shelf Go.Proofs.Each
set_option linter.unusedVariables false
set_option linter.unusedSimpArgs false
def rHo (e : Rk) (x : Int) : Option Hd := if 0 < lkM e.h x then some (hdOf e.k (lkM e.h x)) else none
def rHl (L : List Rk) (x : Int) : List Hd := L.filterMap fun e => rHo e x
theorem rHl_snoc {L : List Rk} {x : Int} {i : Nat} {e : Rk} (hi : L[i]? = some e) : rHl (L.take (i + 1)) x = rHl (L.take i) x ++ (rHo e x).toList := by
  unfold rHl
  rw [List.take_add_one, hi, List.filterMap_append]
  cases h : rHo e x <;> simp [h]
set_option maxRecDepth 100000 in
set_option maxHeartbeats 8000000 in
theorem rholds_any (w : World) (R : Nat → Prop) (tb : Nat) (L : List Rk) (x : Int) (h : RTab w R tb L) (hl : L.length ≤ 1000) (hll : ∀ e ∈ L, e.h.length ≤ 1000) :
    Calls Try.prog 27 #[.pointer (some ⟨tb, 0, none⟩), .int .u32 x] w fun e w' => ∃ v, e = .returned v ∧ w'.ownsRow w.heap.size 45 4 v (rHl L x).length ((rHl L x).flatMap cHd) ∧ Below w.heap.size w w' := by
  obtain ⟨j0, hj0, hj1, hj2, hj3⟩ := info_parts hd_info
  have HT := Lib.hid h
  obtain ⟨A, c, hr⟩ := h.row
  have HSS := Lib.hid (SS.of_own cRk_len hr.own)
  have HRB := Lib.hid hr.box
  obtain ⟨n, hn⟩ : ∃ n, L.length = n := ⟨_, rfl⟩
  have HN := Lib.hid hn
  rw [hn] at hl HSS HRB
  have bn : (n : Int) ≤ 1000 := by omega
  have HLL := Lib.hid hll
  obtain ⟨z, hz⟩ : ∃ z, w.heap.size = z := ⟨_, rfl⟩
  have HZ := Lib.hid hz
  rw [hz] at HSS ⊢
  clear h hr hn hll hz
  go_enter Try.func27, Try.ntmps27
  go_wp2
  go_loopw [5, 6, 7] (fun s5 s6 _ wr => ∃ (i : Nat) (oA : Option Addr) (on oc : Nat), s5 = .slice oA on oc ∧ s6 = .int .i64 i ∧ i ≤ n ∧ Hid (wr.ownsRow z 45 4 (.slice oA on oc) (rHl (L.take i) x).length ((rHl (L.take i) x).flatMap cHd)) ∧ Hid (Below z w wr) ∧ Hid ((rHl (L.take i) x).length ≤ i)) (fun _ s6 _ _ => n - (intOf s6).toNat)
  case atStart => exact ⟨0, none, 0, 0, rfl, rfl, Nat.zero_le _, Lib.hid (World.ownsRow_nil _ _ _ _), Lib.hid (Below.refl _ _), Lib.hid (by simp [rHl])⟩
  case round =>
    obtain ⟨i, oA, on, oc, rfl, rfl, hi, HO, HB, HL⟩ := hrel
    obtain ⟨w2, rfl⟩ : ∃ w2, w2 = wr := ⟨wr, rfl⟩
    have HBF := Lib.hid (show Below w.heap.size w w2 by rw [HZ.out]; exact HB.out)
    have c0 : w2.cell? ⟨tb, 0, none⟩ = some (.slice A n c) := (HRB.out.later HBF.out).cell 0
    by_cases hil : i < n
    · have d1 : decide ((i : Int) < (n : Int)) = true := by simp; omega
      have d1' : decide (i < n) = true := by simp; omega
      obtain ⟨e, he⟩ : ∃ e, L[i]? = some e := ⟨_, List.getElem?_eq_getElem (by rw [HN.out]; exact hil)⟩
      obtain ⟨b, o, hA, hb, hc⟩ := HSS.out.at_ he
      subst hA
      have HE := Lib.hid he
      have CC := Lib.hid (rmode_any w2 w2.heap.size e.hv e.h x (SS.of_own cPl_len (own_below (HT.out.it e (List.mem_of_getElem? he)).h HBF.out)) (by have := HLL.out e (List.mem_of_getElem? he); omega))
      obtain ⟨⟨a1, a2, a3⟩, eh, el, eha, ehc, ela, elc⟩ := e
      have l0 : w2.cell? ⟨b, o + i * 5, none⟩ = some (.int .u8 a1) := (HB.out.cell (p := ⟨b, o + i * 5, none⟩) hb).trans (hc 0 _ rfl)
      have l1 : w2.cell? ⟨b, o + i * 5 + 1, none⟩ = some (.int .u32 a2) := (HB.out.cell (p := ⟨b, o + i * 5 + 1, none⟩) hb).trans (hc 1 _ rfl)
      have l2 : w2.cell? ⟨b, o + i * 5 + 2, none⟩ = some (.int .u32 a3) := (HB.out.cell (p := ⟨b, o + i * 5 + 2, none⟩) hb).trans (hc 2 _ rfl)
      have l3 : w2.cell? ⟨b, o + i * 5 + 3, none⟩ = some (.slice eha eh.length ehc) := (HB.out.cell (p := ⟨b, o + i * 5 + 3, none⟩) hb).trans (hc 3 _ rfl)
      obtain ⟨m, hm⟩ : ∃ m, lkM eh x = m := ⟨_, rfl⟩
      have CC2 : Hid (Calls Try.prog 38 #[.slice eha eh.length ehc, .int .u32 x] w2 fun e w' => e = .returned (.int .u8 m) ∧ w2 = w') := Lib.hid (by rw [← hm]; exact CC.out)
      have HM := Lib.hid hm
      have HSZ := Lib.hid (show z ≤ w2.heap.size by rw [← HZ.out]; exact HBF.out.size)
      clear he hc CC hm
      by_cases hpos : 0 < m
      · have q1 : decide (0 < m) = true := decide_eq_true hpos
        have HS2 := Lib.hid (show rHl (L.take (i + 1)) x = rHl (L.take i) x ++ [⟨a1, a2, a3, m⟩] by
          rw [rHl_snoc HE.out]
          unfold rHo
          simp only [HM.out]
          rw [if_pos hpos]; rfl)
        clear hpos
        obtain ⟨ys, hys⟩ : ∃ ys, rHl (L.take i) x = ys := ⟨_, rfl⟩
        rw [hys] at HO HL HS2
        clear hys
        go_wp2_with (first
          | (go_at_call 38; (with_reducible refine CC2.out.mono ?_); rintro er w3 ⟨rfl, rfl⟩)
          | (at_builtin; refine wpList_push_ss (F := cHd) (sz := 4) _ rfl _ _ _ rfl z 45 j0 _ 16 Try.underlying41 hj0 hj1 hj2 hj3 rfl (by decide) cHd_len cHd_one _ ys rfl (own_below HO.out (new_ (Below.refl _ _) (.cells #[.int .u8 a1, .int .u32 a2, .int .u32 a3, .int .u8 m] 45))) w2.heap.size ⟨a1, a2, a3, m⟩ 45 rfl (Box.new w2 _ _) (by have := HL.out; unfold maxLen; omega) (by have := HL.out; omega) (by have := HSZ.out; simp; omega) ?_
             intro v9 w9 ho9 ht9
             have tt := (RowTo.of_below (new_ (Below.refl w2.heap.size w2) (.cells #[.int .u8 a1, .int .u32 a2, .int .u32 a3, .int .u8 m] 45)) (.slice oA on oc)).trans ht9
             obtain ⟨A9, n9, c9, rfl⟩ := own_slice ho9
             have R1 := Lib.hid (show w9.ownsRow z 45 4 (.slice A9 n9 c9) (rHl (L.take (i + 1)) x).length ((rHl (L.take (i + 1)) x).flatMap cHd) by rw [HS2.out]; exact ho9)
             have R2 := Lib.hid (HB.out.trans (tt.below (fun b hb => (HO.out.lt b hb).1) HSZ.out))
             have R3 := Lib.hid (show (rHl (L.take (i + 1)) x).length ≤ i + 1 by rw [HS2.out, List.length_append]; have := HL.out; simp only [List.length_cons, List.length_nil]; omega)
             clear ho9 ht9 tt c0 l0 l1 l2 l3))
        go_roundw
        case rel => exact ⟨i + 1, A9, n9, c9, rfl, by go_num, by omega, R1, R2, R3⟩
        case measure => simp [intOf]; omega
      · have q1 : decide (0 < m) = false := decide_eq_false hpos
        have HS2 := Lib.hid (show rHl (L.take (i + 1)) x = rHl (L.take i) x by
          rw [rHl_snoc HE.out]
          unfold rHo
          simp only [HM.out]
          rw [if_neg hpos]; simp)
        have R1 := Lib.hid (show w2.ownsRow z 45 4 (.slice oA on oc) (rHl (L.take (i + 1)) x).length ((rHl (L.take (i + 1)) x).flatMap cHd) by rw [HS2.out]; exact HO.out)
        have R3 := Lib.hid (show (rHl (L.take (i + 1)) x).length ≤ i + 1 by rw [HS2.out]; have := HL.out; omega)
        clear hpos l0 l1 l2
        go_wp2_with fail
        (with_reducible refine CC2.out.mono ?_)
        rintro er w3 ⟨rfl, rfl⟩
        go_wp2
        go_roundw
        case rel => exact ⟨i + 1, oA, on, oc, rfl, by go_num, by omega, R1, HB, R3⟩
        case measure => simp [intOf]; omega
    · have d1 : decide ((i : Int) < (n : Int)) = false := by simp; omega
      have d1' : decide (i < n) = false := by simp; omega
      have htk : L.take i = L := by rw [show i = n by omega, ← HN.out, List.take_length]
      rw [htk] at HO
      go_wp2
      go_ret
      exact ⟨_, rfl, HO.out, HB.out⟩
def BlIs (h l : List Pl) (k : Nat) (p : Pl) (x : Int) : Prop := (∃ q ∈ h, q.t = x ∧ q.t ≠ p.t ∧ (q.m = 2 ∨ p.m = 2)) ∨ ∃ q ∈ l.take k, q.t = x
theorem into_len (l : List Int) (n : Int) (hs : l.Pairwise (· < ·)) : (into l n).length ≤ l.length + 1 := by
  have := (into_sorted (n := n) hs).2
  split at this <;> omega
set_option maxRecDepth 100000 in
set_option maxHeartbeats 16000000 in
theorem blocks_any (w : World) (e : Rk) (k : Nat) (p : Pl) (hk : e.l[k]? = some p) (hh : w.ownsRow 0 77 2 e.hv e.h.length (e.h.flatMap cPl)) (hl : w.ownsRow 0 77 2 e.lv e.l.length (e.l.flatMap cPl)) (hb : e.h.length ≤ 1000 ∧ e.l.length ≤ 1000) :
    Calls Try.prog 32 #[.agg #[.int .u8 e.k.k, .int .u32 e.k.a, .int .u32 e.k.b, .slice e.ha e.h.length e.hc, .slice e.la e.l.length e.lc], .int .i64 k] w fun r w' => ∃ (v : Value) (s : List Int), r = .returned v ∧ s.Pairwise (· < ·) ∧ (∀ x, x ∈ s ↔ BlIs e.h e.l k p x) ∧ s.length ≤ 2000 ∧ w'.ownsRow w.heap.size 29 1 v s.length (s.map (.int .u32)) ∧ Below w.heap.size w w' := by
  obtain ⟨⟨a1, a2, a3⟩, eh, el, eha, ehc, ela, elc⟩ := e
  have hkl : k < el.length := (List.getElem?_eq_some_iff.1 hk).1
  have hsl := SS.of_own cPl_len hl
  have hsh := SS.of_own cPl_len hh
  obtain ⟨z, hz⟩ : ∃ z, w.heap.size = z := ⟨_, rfl⟩
  obtain ⟨w1, hw1⟩ : ∃ w1, w.alloc (.cells #[.int .u8 a1, .int .u32 a2, .int .u32 a3, .slice eha eh.length ehc, .slice ela el.length elc] 75) = w1 := ⟨_, rfl⟩
  have b1 := new_ (Below.refl w.heap.size w) (.cells #[.int .u8 a1, .int .u32 a2, .int .u32 a3, .slice eha eh.length ehc, .slice ela el.length elc] 75)
  have X2 := Box.new w #[.int .u8 a1, .int .u32 a2, .int .u32 a3, .slice eha eh.length ehc, .slice ela el.length elc] 75
  have hs1 : w1.heap.size = z + 1 := by rw [← hw1, ← hz]; simp
  rw [hw1] at b1 X2
  obtain ⟨pt, pm⟩ := p
  obtain ⟨w2, hw2⟩ : ∃ w2, w1.alloc (.cells #[.int .u32 pt, .int .u8 pm] 77) = w2 := ⟨_, rfl⟩
  have b2 := new_ (Below.refl w1.heap.size w1) (.cells #[.int .u32 pt, .int .u8 pm] 77)
  have X6 := Box.new w1 #[.int .u32 pt, .int .u8 pm] 77
  have hs2 : w2.heap.size = z + 2 := by rw [← hw2]; simp; omega
  rw [hw2] at b2 X6
  obtain ⟨nh, hnh⟩ : ∃ nh, eh.length = nh := ⟨_, rfl⟩
  obtain ⟨nl, hnl⟩ : ∃ nl, el.length = nl := ⟨_, rfl⟩
  have HNH := Lib.hid (⟨hnh, hnl, hb⟩ : eh.length = nh ∧ el.length = nl ∧ eh.length ≤ 1000 ∧ el.length ≤ 1000)
  obtain ⟨bq, oq, hAq, hbq, hcq⟩ := hsl.at_ hk
  simp only [Rk.hv, Rk.lv] at hsl hsh
  rw [hnl] at hsl hkl
  rw [hnh] at hsh
  rw [hnh, hnl] at X2
  simp only [hnh, hnl]
  rw [hz] at hsl hsh b1 X2 ⊢
  have HX2 := Lib.hid (X2.later b2)
  rw [hs1] at X6
  have HX6 := Lib.hid X6
  have HSL := Lib.hid hsl
  have HSH := Lib.hid hsh
  have HB2 := Lib.hid (show Below z w w2 from b1.trans (b2.mono (by omega)))
  have HS2 := Lib.hid hs2
  have HK := Lib.hid hk
  have x24 : w1.cell? ⟨z, 4, none⟩ = some (.slice ela nl elc) := X2.cell 4
  have HAQ := Lib.hid hAq
  have m0 : w1.cell? ⟨bq, oq + k * 2, none⟩ = some (.int .u32 pt) := (b1.cell (p := ⟨bq, oq + k * 2, none⟩) (by rw [← hz]; exact hbq)).trans (hcq 0 _ rfl)
  have m1 : w1.cell? ⟨bq, oq + k * 2 + 1, none⟩ = some (.int .u8 pm) := (b1.cell (p := ⟨bq, oq + k * 2 + 1, none⟩) (by rw [← hz]; exact hbq)).trans (hcq 1 _ rfl)
  have bnh : (nh : Int) ≤ 1000 := by have := HNH.out; omega
  have bnl : (nl : Int) ≤ 1000 := by have := HNH.out; omega
  subst hAq
  have hx0 : w.alloc (.cells #[.int .u8 a1, .int .u32 a2, .int .u32 a3, .slice eha nh ehc, .slice (some ⟨bq, oq, none⟩) nl elc] 75) = w1 := by rw [← hw1, hnh, hnl]
  clear hk hh hl hb hsl hsh b1 b2 X2 X6 hs2 hnh hnl hbq hcq hw1
  go_enter Try.func32, Try.ntmps32
  go_upto_region 3 with fail
  go_wp2
  go_loopw [5, 7, 8] (fun s5 s7 _ wr => ∃ (j : Nat) (oA : Option Addr) (on oc : Nat) (s : List Int), s5 = .slice oA on oc ∧ s7 = .int .i64 j ∧ j ≤ nh ∧ Hid (s.Pairwise (· < ·) ∧ (∀ x, x ∈ s ↔ ∃ q ∈ eh.take j, q.t = x ∧ q.t ≠ pt ∧ (q.m = 2 ∨ pm = 2)) ∧ s.length ≤ j) ∧ Hid (wr.ownsRow (z + 2) 29 1 (.slice oA on oc) s.length (s.map (.int .u32))) ∧ Hid (Below (z + 2) w2 wr)) (fun _ s7 _ _ => nh - (intOf s7).toNat)
  case atStart => exact ⟨0, none, 0, 0, [], rfl, rfl, Nat.zero_le _, Lib.hid ⟨List.Pairwise.nil, by simp, Nat.le_refl _⟩, Lib.hid (World.ownsRow_nil _ _ _ _), Lib.hid (Below.refl _ _)⟩
  case round =>
    obtain ⟨j, oA, on, oc, s, rfl, rfl, hj, HS, HO, HB⟩ := hrel
    obtain ⟨w3, rfl⟩ : ∃ w3, w3 = wr := ⟨wr, rfl⟩
    have HBF := Lib.hid (show Below w2.heap.size w2 w3 by rw [HS2.out]; exact HB.out)
    have hbx2 := HX2.out.later HBF.out
    have hbx6 := HX6.out.later HBF.out
    have c3 : w3.cell? ⟨z, 3, none⟩ = some (.slice eha nh ehc) := hbx2.cell 3
    have HZ3 := Lib.hid (show z + 2 ≤ w3.heap.size by have := HBF.out.size; have := HS2.out; omega)
    by_cases hjl : j < nh
    · have d1 : decide ((j : Int) < (nh : Int)) = true := by simp; omega
      have d1' : decide (j < nh) = true := by simp; omega
      obtain ⟨q, hq⟩ : ∃ q, eh[j]? = some q := ⟨_, List.getElem?_eq_getElem (by have := HNH.out; omega)⟩
      obtain ⟨br, orr, hAr, hbr, hcr⟩ := HSH.out.at_ hq
      subst hAr
      have HTK := Lib.hid (show eh.take (j + 1) = eh.take j ++ [q] by rw [List.take_add_one, hq]; rfl)
      obtain ⟨qt, qm⟩ := q
      have n0 : w3.cell? ⟨br, orr + j * 2, none⟩ = some (.int .u32 qt) := (HB.out.cell (p := ⟨br, orr + j * 2, none⟩) (by show br < z + 2; omega)).trans ((HB2.out.cell (p := ⟨br, orr + j * 2, none⟩) hbr).trans (hcr 0 _ rfl))
      have n1 : w3.cell? ⟨br, orr + j * 2 + 1, none⟩ = some (.int .u8 qm) := (HB.out.cell (p := ⟨br, orr + j * 2 + 1, none⟩) (by show br < z + 2; omega)).trans ((HB2.out.cell (p := ⟨br, orr + j * 2 + 1, none⟩) hbr).trans (hcr 1 _ rfl))
      have hb4 := new_ (Below.refl w3.heap.size w3) (.cells #[.int .u32 qt, .int .u8 qm] 77)
      have X8 := Box.new w3 #[.int .u32 qt, .int .u8 qm] 77
      obtain ⟨x8, hx8⟩ : ∃ x, w3.heap.size = x := ⟨_, rfl⟩
      clear hq hcr hbx2 hbx6
      go_upto_region 7 with fail
      obtain ⟨w4, hw4⟩ : ∃ w4, w3.alloc (.cells #[.int .u32 qt, .int .u8 qm] 77) = w4 := ⟨_, rfl⟩
      rw [hx8] at X8
      rw [hw4] at hb4 X8
      try rw [hw4]
      try rw [hx8]
      have HB4 := Lib.hid (show Below (z + 2) w2 w4 from HB.out.trans (hb4.mono HZ3.out))
      have HO4 := Lib.hid (own_below HO.out hb4)
      have hbx6 := (HX6.out.later HBF.out).later hb4
      have y0 : w4.cell? ⟨x8, 0, none⟩ = some (.int .u32 qt) := X8.cell 0
      have y1 : w4.cell? ⟨x8, 1, none⟩ = some (.int .u8 qm) := X8.cell 1
      have p0 : w4.cell? ⟨z + 1, 0, none⟩ = some (.int .u32 pt) := hbx6.cell 0
      have p1 : w4.cell? ⟨z + 1, 1, none⟩ = some (.int .u8 pm) := hbx6.cell 1
      have HZ4 := Lib.hid (show z + 2 ≤ w4.heap.size by have := hb4.size; have := HZ3.out; omega)
      have CI := Lib.hid (into_any w4 (z + 2) (.slice oA on oc) s qt HZ4.out (by have := HS.out.2.2; omega) HO4.out)
      have hin : (qt ≠ pt ∧ (qm = 2 ∨ pm = 2)) → (into s qt).Pairwise (· < ·) ∧ (∀ x, x ∈ into s qt ↔ ∃ q ∈ eh.take (j + 1), q.t = x ∧ q.t ≠ pt ∧ (q.m = 2 ∨ pm = 2)) ∧ (into s qt).length ≤ j + 1 := fun hc => by
        refine ⟨(into_sorted (n := qt) HS.out.1).1, fun x => ?_, by have := into_len s qt HS.out.1; have := HS.out.2.2; omega⟩
        rw [into_mem, HS.out.2.1 x, HTK.out]
        simp only [List.mem_append, List.mem_singleton]
        constructor
        · rintro (h | ⟨q, h1, h2⟩)
          · exact ⟨⟨qt, qm⟩, .inr rfl, h.symm, hc⟩
          · exact ⟨q, .inl h1, h2⟩
        · rintro ⟨q, h1 | h1, h2⟩
          · exact .inr ⟨q, h1, h2⟩
          · rw [h1] at h2; exact .inl h2.1.symm
      have hout : ¬ (qt ≠ pt ∧ (qm = 2 ∨ pm = 2)) → s.Pairwise (· < ·) ∧ (∀ x, x ∈ s ↔ ∃ q ∈ eh.take (j + 1), q.t = x ∧ q.t ≠ pt ∧ (q.m = 2 ∨ pm = 2)) ∧ s.length ≤ j + 1 := fun hc => by
        refine ⟨HS.out.1, fun x => ?_, by have := HS.out.2.2; omega⟩
        rw [HS.out.2.1 x, HTK.out]
        simp only [List.mem_append, List.mem_singleton]
        constructor
        · rintro ⟨q, h1, h2⟩; exact ⟨q, .inl h1, h2⟩
        · rintro ⟨q, h1 | h1, h2⟩
          · exact ⟨q, h1, h2⟩
          · rw [h1] at h2; exact absurd h2.2 hc
      clear hw4 hx8 hb4 X8 hbx6 c3 n0 n1
      by_cases hx : qt = pt
      · have q1 : (qt != pt) = false := by simp [hx]
        have R1 := Lib.hid (hout (fun h => h.1 hx))
        clear hx hin hout
        go_wp2
        go_roundw
        case rel => exact ⟨j + 1, oA, on, oc, s, rfl, by go_num, by omega, R1, HO4, HB4⟩
        case measure => simp [intOf]; omega
      · have q1 : (qt != pt) = true := by simp [hx]
        obtain ⟨r2, hr2⟩ : ∃ r, (qm == 2) = r := ⟨_, rfl⟩
        obtain ⟨r3, hr3⟩ : ∃ r, (pm == 2) = r := ⟨_, rfl⟩
        have HR2 := Lib.hid (show r2 = true ↔ qm = 2 by rw [← hr2]; simp)
        have HR3 := Lib.hid (show r3 = true ↔ pm = 2 by rw [← hr3]; simp)
        have HIN := Lib.hid (show (r2 = true ∨ r3 = true) → _ from fun h => hin ⟨hx, h.imp HR2.out.1 HR3.out.1⟩)
        have HOUT := Lib.hid (show ¬ (r2 = true ∨ r3 = true) → _ from fun h => hout (fun hh => h (hh.2.imp HR2.out.2 HR3.out.2)))
        clear hx hin hout
        cases r2 with
        | true =>
          have R1 := Lib.hid (HIN.out (.inl rfl))
          go_wp2_with fail
          (with_reducible refine CI.out.mono ?_)
          rintro er w5 ⟨v5, rfl, ho5, _, hb5⟩
          obtain ⟨A5, n5, c5, rfl⟩ := own_slice ho5
          have HO5 := Lib.hid ho5
          have HB5 := Lib.hid (show Below (z + 2) w2 w5 from HB4.out.trans (hb5.mono HZ4.out))
          clear ho5 hb5 y0 y1 p0 p1
          go_wp2
          go_roundw
          case rel => exact ⟨j + 1, A5, n5, c5, _, rfl, by go_num, by omega, R1, HO5, HB5⟩
          case measure => simp [intOf]; omega
        | false =>
          cases r3 with
          | true =>
            have R1 := Lib.hid (HIN.out (.inr rfl))
            go_wp2_with fail
            (with_reducible refine CI.out.mono ?_)
            rintro er w5 ⟨v5, rfl, ho5, _, hb5⟩
            obtain ⟨A5, n5, c5, rfl⟩ := own_slice ho5
            have HO5 := Lib.hid ho5
            have HB5 := Lib.hid (show Below (z + 2) w2 w5 from HB4.out.trans (hb5.mono HZ4.out))
            clear ho5 hb5 y0 y1 p0 p1
            go_wp2
            go_roundw
            case rel => exact ⟨j + 1, A5, n5, c5, _, rfl, by go_num, by omega, R1, HO5, HB5⟩
            case measure => simp [intOf]; omega
          | false =>
            have R1 := Lib.hid (HOUT.out (by simp))
            go_wp2
            go_roundw
            case rel => exact ⟨j + 1, oA, on, oc, s, rfl, by go_num, by omega, R1, HO4, HB4⟩
            case measure => simp [intOf]; omega
    · have d1 : decide ((j : Int) < (nh : Int)) = false := by simp; omega
      have d1' : decide (j < nh) = false := by simp; omega
      have htk : eh.take j = eh := List.take_of_length_le (by have := HNH.out; omega)
      have HS0 := Lib.hid (show s.Pairwise (· < ·) ∧ (∀ x, x ∈ s ↔ BlIs eh (el.take 0) 0 ⟨pt, pm⟩ x) ∧ s.length ≤ 1000 by
        have h1 := HS.out
        rw [htk] at h1
        exact ⟨h1.1, fun x => by rw [h1.2.1 x]; unfold BlIs; simp, by have := HNH.out; omega⟩)
      clear htk hbx2 hbx6 HS
      go_wp2
      go_loopw [5, 9] (fun s5 s9 wr => ∃ (m : Nat) (oA : Option Addr) (on oc : Nat) (s : List Int), s5 = .slice oA on oc ∧ s9 = .int .i64 m ∧ m ≤ k ∧ Hid (s.Pairwise (· < ·) ∧ (∀ x, x ∈ s ↔ BlIs eh el m ⟨pt, pm⟩ x) ∧ s.length ≤ 1000 + m) ∧ Hid (wr.ownsRow (z + 2) 29 1 (.slice oA on oc) s.length (s.map (.int .u32))) ∧ Hid (Below (z + 2) w2 wr)) (fun _ s9 _ => k - (intOf s9).toNat)
      case atStart => exact ⟨0, oA, on, oc, s, rfl, rfl, Nat.zero_le _, Lib.hid ⟨HS0.out.1, fun x => by rw [HS0.out.2.1 x]; unfold BlIs; simp, HS0.out.2.2⟩, HO, HB⟩
      case round =>
        obtain ⟨m, oA, on, oc, s, rfl, rfl, hm, HS, HO, HB⟩ := hrel
        obtain ⟨w3, rfl⟩ : ∃ w3, w3 = wr := ⟨wr, rfl⟩
        have HBF := Lib.hid (show Below w2.heap.size w2 w3 by rw [HS2.out]; exact HB.out)
        have c4 : w3.cell? ⟨z, 4, none⟩ = some (.slice (some ⟨bq, oq, none⟩) nl elc) := (HX2.out.later HBF.out).cell 4
        have HZ3 := Lib.hid (show z + 2 ≤ w3.heap.size by have := HBF.out.size; have := HS2.out; omega)
        have bk : (k : Int) ≤ 1000 := by omega
        by_cases hmk : m < k
        · have d2 : decide ((m : Int) < (k : Int)) = true := by simp; omega
          have d2' : decide (m < k) = true := by simp; omega
          have hmn : m < nl := by omega
          obtain ⟨q, hq⟩ : ∃ q, el[m]? = some q := ⟨_, List.getElem?_eq_getElem (by have := HNH.out; omega)⟩
          obtain ⟨br, orr, hAr, hbr, hcr⟩ := HSL.out.at_ hq
          injection hAr with hAr
          injection hAr with hA1 hA2
          subst hA1 hA2
          have HTK := Lib.hid (show el.take (m + 1) = el.take m ++ [q] by rw [List.take_add_one, hq]; rfl)
          obtain ⟨qt, qm⟩ := q
          have n0 : w3.cell? ⟨bq, oq + m * 2, none⟩ = some (.int .u32 qt) := (HB.out.cell (p := ⟨bq, oq + m * 2, none⟩) (by show bq < z + 2; omega)).trans ((HB2.out.cell (p := ⟨bq, oq + m * 2, none⟩) hbr).trans (hcr 0 _ rfl))
          have CI := Lib.hid (into_any w3 (z + 2) (.slice oA on oc) s qt HZ3.out (by have := HS.out.2.2; omega) HO.out)
          have R1 := Lib.hid (show (into s qt).Pairwise (· < ·) ∧ (∀ x, x ∈ into s qt ↔ BlIs eh el (m + 1) ⟨pt, pm⟩ x) ∧ (into s qt).length ≤ 1000 + (m + 1) by
            refine ⟨(into_sorted (n := qt) HS.out.1).1, fun x => ?_, by have := into_len s qt HS.out.1; have := HS.out.2.2; omega⟩
            rw [into_mem, HS.out.2.1 x]
            unfold BlIs
            rw [HTK.out]
            simp only [List.mem_append, List.mem_singleton]
            constructor
            · rintro (h | h | ⟨q, h1, h2⟩)
              · exact .inr ⟨⟨qt, qm⟩, .inr rfl, h.symm⟩
              · exact .inl h
              · exact .inr ⟨q, .inl h1, h2⟩
            · rintro (h | ⟨q, h1 | h1, h2⟩)
              · exact .inr (.inl h)
              · exact .inr (.inr ⟨q, h1, h2⟩)
              · rw [h1] at h2; exact .inl h2.symm)
          clear hq hcr hbr
          go_wp2_with fail
          (with_reducible refine CI.out.mono ?_)
          rintro er w5 ⟨v5, rfl, ho5, _, hb5⟩
          obtain ⟨A5, n5, c5, rfl⟩ := own_slice ho5
          have HO5 := Lib.hid ho5
          have HB5 := Lib.hid (show Below (z + 2) w2 w5 from HB.out.trans (hb5.mono HZ3.out))
          clear ho5 hb5 n0 c4 c3
          go_wp2
          go_roundw
          case rel => exact ⟨m + 1, A5, n5, c5, _, rfl, by go_num, by omega, R1, HO5, HB5⟩
          case measure => simp [intOf]; omega
        · have d2 : decide ((m : Int) < (k : Int)) = false := by simp; omega
          have d2' : decide (m < k) = false := by simp; omega
          have hmk2 : m = k := by omega
          have HFIN := Lib.hid (show s.Pairwise (· < ·) ∧ (∀ x, x ∈ s ↔ BlIs eh el k ⟨pt, pm⟩ x) ∧ s.length ≤ 2000 by
            have h1 := HS.out
            rw [hmk2] at h1
            exact ⟨h1.1, h1.2.1, by have := HNH.out; omega⟩)
          have HE := Lib.hid (show Below z w w3 from HB2.out.trans (HB.out.mono (by omega)))
          clear hmk2 HS c4 c3
          go_wp2
          go_ret
          exact ⟨_, s, rfl, HFIN.out.1, HFIN.out.2.1, HFIN.out.2.2, own_lower HO.out (by omega), HE.out⟩
end Go.Proofs.Ytpndcpmfcajmdaa.Lock
namespace Go.Proofs.Ytpndcpmfcajmdaa.Lock
open Go.ChangeShapes Go.WideShapes Go.ChangeAt Go.RowKit Go.IntWalk Go.Proofs.Mem Law Go.Shelf Go.Proofs.Each
set_option linter.unusedVariables false
set_option linter.unusedSimpArgs false
def cEd (p : Int × Int) : List Value := [.int .u32 p.1, .int .u32 p.2]
theorem cEd_len (x : Int × Int) : (cEd x).length = 2 := rfl
theorem cEd_one (y : Int × Int) : ∀ u ∈ cEd y, u.oneCell' = true := by
  intro u hu
  simp [cEd] at hu
  rcases hu with rfl | rfl <;> rfl
theorem ed_info : (Try.prog.info? 51).map (fun i => (i.zero, i.size, i.bytes)) = some (some (.agg #[.int .u32 0, .int .u32 0]), 2, 8) := by kernel_rfl
theorem rise_uniq : ∀ {l m : List Int}, l.Pairwise (· < ·) → m.Pairwise (· < ·) → (∀ x, x ∈ l ↔ x ∈ m) → l = m
  | [], [], _, _, _ => rfl
  | [], y :: m, _, _, e => absurd ((e y).2 (List.mem_cons_self ..)) (by simp)
  | x :: l, [], _, _, e => absurd ((e x).1 (List.mem_cons_self ..)) (by simp)
  | x :: l, y :: m, h, k, e => by
    rw [List.pairwise_cons] at h k
    have hxy : x = y := by
      rcases List.mem_cons.1 ((e x).1 (List.mem_cons_self ..)) with h1 | h1
      · exact h1
      · rcases List.mem_cons.1 ((e y).2 (List.mem_cons_self ..)) with h2 | h2
        · exact h2.symm
        · have a := h.1 y h2; have b := k.1 x h1; omega
    subst hxy
    rw [rise_uniq h.2 k.2 (fun z => ?_)]
    constructor
    · intro hz
      rcases List.mem_cons.1 ((e z).1 (List.mem_cons_of_mem _ hz)) with h1 | h1
      · subst h1; have := h.1 z hz; omega
      · exact h1
    · intro hz
      rcases List.mem_cons.1 ((e z).2 (List.mem_cons_of_mem _ hz)) with h1 | h1
      · subst h1; have := k.1 z hz; omega
      · exact h1
theorem AhR.uniq {e : En} {t m : Int} {l l' : List Int} (h : AhR e t m l) (h' : AhR e t m l') : l = l' := rise_uniq h.srt h'.srt (fun x => (h.mem x).trans (h'.mem x).symm)
open Classical in
noncomputable def ahL (T : Tb) (x : Int) : List Int := if h : ∃ l k m, T.wt x = some (hdOf k m) ∧ AhR (T.ent k) x m l then Classical.choose h else []
theorem ahL_is {T : Tb} {x m : Int} {k : Ky} {l : List Int} (hw : T.wt x = some (hdOf k m)) (hl : AhR (T.ent k) x m l) : ahL T x = l := by
  have h : ∃ l k m, T.wt x = some (hdOf k m) ∧ AhR (T.ent k) x m l := ⟨l, k, m, hw, hl⟩
  unfold ahL
  rw [dif_pos h]
  obtain ⟨k', m', h1, h2⟩ := Classical.choose_spec h
  rw [hw] at h1
  injection h1 with h1
  obtain ⟨e1, e2⟩ := hdOf_inj h1
  subst e1 e2
  exact h2.uniq hl
noncomputable def eds (T : Tb) (fr : List Int) : List (Int × Int) := edL fr (ahL T)
theorem eds_snoc (T : Tb) (fr : List Int) (x : Int) : eds T (fr ++ [x]) = eds T fr ++ (ahL T x).map fun y => (x, y) := by
  unfold eds edL
  rw [List.flatMap_append]
  simp
def EdOut (w : World) (T : Tb) (e : Ending) (w' : World) : Prop := ∃ (v : Value) (fr : List Int), e = .returned v ∧ EdR T fr (ahL T) ∧ (eds T fr).length ≤ 50000000000 ∧ w'.ownsRow w.heap.size 51 2 v (eds T fr).length ((eds T fr).flatMap cEd) ∧ Below w.heap.size w w'
theorem wait_line {T : Tb} (hi : Inv T) {x : Int} {hd : Hd} (h : T.wt x = some hd) : ∃ k m, hd = hdOf k m ∧ T.has k x = true := by
  obtain ⟨k, m, e, hl⟩ := (hi.wt x hd).1 h
  exact ⟨k, m, e, has_iff.2 (.inr ⟨m, hl⟩)⟩
theorem wait_some {T : Tb} (hi : Inv T) (hf : Fst T) {x m : Int} {k : Ky} (h : T.wt x = some (hdOf k m)) : ∃ y, AhIs (T.ent k) x m y := by
  obtain ⟨k', m', e, hl⟩ := (hi.wt x _).1 h
  obtain ⟨e1, e2⟩ := hdOf_inj e
  subst e1 e2
  match he : (T.ent k).line, hl with
  | p :: l, hl =>
    by_cases hp : p.t = x
    · have hpm : p = ⟨x, m⟩ := by
        rcases List.mem_cons.1 hl with e | e
        · exact e.symm
        · have hn := hi.nd k
          rw [he, List.map_cons, List.nodup_cons] at hn
          exact absurd (List.mem_map.2 ⟨_, e, hp.symm⟩) hn.1
      have := hf k p l he
      rw [hpm] at this
      obtain ⟨y, md, a, b, c⟩ := fit_no this
      exact ⟨y, .inl ⟨md, a, b, c⟩⟩
    · refine ⟨p.t, .inr ⟨p, ?_, rfl⟩⟩
      rw [he, List.takeWhile_cons, if_pos]
      · exact List.mem_cons_self ..
      · rw [Bool.not_eq_true', ← Bool.not_eq_true, isT_is]; exact hp
def AhCut (W : World) (en : En) (x m : Int) (v37 v38 v39 : Value) (wx : World) : Prop := ∃ (A : Option Addr) (n c : Nat) (l : List Int), v37 = .slice A n c ∧ v38 = .int .i64 n ∧ v39 = .int .i64 0 ∧ l.length = n ∧ AhR en x m l ∧ n ≤ 1000000 ∧ wx.ownsRow W.heap.size 29 1 (.slice A n c) n (l.map (.int .u32)) ∧ Below W.heap.size W wx
theorem AhOut.cut {W : World} {en : En} {x m : Int} {e : Ending} {w' : World} (h : AhOut W en x m e w') : ∃ (A : Option Addr) (n c : Nat), e = .returned (.slice A n c) ∧ AhCut W en x m (.slice A n c) (.int .i64 n) (.int .i64 0) w' := by
  obtain ⟨v, l, rfl, h1, h2, h3, h4⟩ := h
  obtain ⟨A, c, rfl, _, _⟩ := own_is h3
  exact ⟨A, l.length, c, rfl, A, l.length, c, l, rfl, rfl, rfl, rfl, h1, h2, h3, h4⟩
set_option maxRecDepth 100000 in
set_option maxHeartbeats 8000000 in
theorem edges_any (w : World) (S : Nat → Prop) (N L t : Nat) (T : Tb) (h : TabAt w S N L t T) (hi : Inv T) (hf : Fst T) (hN : N ≤ 50000) (hL : L ≤ 50000) :
    Calls Try.prog 14 #[.pointer (some ⟨t, 0, none⟩)] w (EdOut w T) := by
  obtain ⟨j0, hj0, hj1, hj2, hj3⟩ := info_parts ed_info
  obtain ⟨col, mk, mw, nk, nw, K, h⟩ := h
  have HT0 := Lib.hid h
  have HI := Lib.hid hi
  have HF := Lib.hid hf
  have hts := h.old t h.st
  have CK := Lib.hid (keys_in Fence.wide 3 trivial rfl (some mw) w)
  have c0 : w.cell? ⟨t, 1, none⟩ = some (.map (some mw)) := by rw [h.box.cell 1]; rfl
  have b1 := new_ (Below.refl w.heap.size w) (.cells #[.map (some mw)] 57)
  have hs1 : (w.alloc (.cells #[.map (some mw)] 57)).heap.size = w.heap.size + 1 := by simp
  have X3 := Box.new w #[.map (some mw)] 57
  have hh1 := h.later b1
  obtain ⟨w1, hw1⟩ : ∃ w1, w.alloc (.cells #[.map (some mw)] 57) = w1 := ⟨_, rfl⟩
  obtain ⟨x3, hx3⟩ : ∃ x3, w.heap.size = x3 := ⟨_, rfl⟩
  rw [hw1] at b1 hs1 X3 hh1 CK
  rw [hx3] at hs1 X3 hts CK b1
  have CS := Lib.hid (sortedKeys_any w1 x3 mw nw T.wt (by omega) (X3.cell 0) hh1.fw (by have := h.hw; omega))
  have HB1 := Lib.hid b1
  have HT1 := Lib.hid hh1
  have HS1 := Lib.hid hs1
  have HNW := Lib.hid (show nw ≤ 50000 by have := h.hw; omega)
  have HX3 := Lib.hid hx3
  unfold EdOut
  rw [hx3]
  have HLT := Lib.hid hts
  clear h hi hf b1 hs1 X3 hh1 hw1 hx3 hts
  go_enter Try.func14, Try.ntmps14
  go_wp2_with (first
    | (go_at_call 30; (with_reducible refine ((callsIn_wide (n := 3)).1 CK.out).mono ?_); rintro e w2 ⟨rfl, rfl⟩)
    | (go_at_call 29; (with_reducible refine CS.out.mono ?_); rintro e w2 ⟨v, fr, rfl, hfr, hfn, hown, hb2⟩
       obtain ⟨Af, cf, rfl, _, _⟩ := own_is hown
       have HFR := Lib.hid hfr
       have HFO := Lib.hid hown
       have HB2 := Lib.hid hb2
       have hfl : fr.length ≤ 50000 := by have := HNW.out; omega
       clear hfr hown hb2 hfn))
  have HFI := Lib.hid (IR.of_own HFO.out)
  have HT2 := Lib.hid (HT1.out.later HB2.out)
  obtain ⟨fl, hfl2⟩ : ∃ fl, fr.length = fl := ⟨_, rfl⟩
  have HFL := Lib.hid hfl2
  rw [hfl2] at hfl HFI ⊢
  have bfl : (fl : Int) ≤ 50000 := by omega
  clear hfl2 c0
  go_loopw [3, 5, 6, 8, 16] (fun s3 _ _ _ s16 wr => ∃ (i : Nat) (A : Option Addr) (n c : Nat), s3 = .slice A n c ∧ s16 = .int .i64 i ∧ i ≤ fl ∧ Hid (n = (eds T (fr.take i)).length) ∧ Hid (wr.ownsRow w2.heap.size 51 2 (.slice A n c) (eds T (fr.take i)).length ((eds T (fr.take i)).flatMap cEd)) ∧ Hid (∀ x ∈ fr.take i, ∀ k m, T.wt x = some (hdOf k m) → AhR (T.ent k) x m (ahL T x)) ∧ Hid ((eds T (fr.take i)).length ≤ i * 1000000) ∧ Hid (Below w2.heap.size w2 wr)) (fun _ _ _ _ s16 _ => fl - (intOf s16).toNat)
  case atStart => exact ⟨0, none, 0, 0, rfl, rfl, Nat.zero_le _, Lib.hid rfl, Lib.hid (World.ownsRow_nil _ _ _ _), Lib.hid (fun x hx => by simp at hx), Lib.hid (Nat.zero_le _), Lib.hid (Below.refl _ _)⟩
  case round =>
    obtain ⟨i, A, n, c, rfl, rfl, hi, HN1, HO, HA, HLN, HB⟩ := hrel
    obtain ⟨w3, rfl⟩ : ∃ w3, w3 = wr := ⟨wr, rfl⟩
    by_cases hil : i < fl
    · have d1 : decide ((i : Int) < (fl : Int)) = true := by simp; omega
      have d1' : decide (i < fl) = true := by simp; omega
      obtain ⟨x, hx⟩ : ∃ x, fr[i]? = some x := ⟨_, List.getElem?_eq_getElem (by rw [HFL.out]; exact hil)⟩
      have hxe : fr.getD i 0 = x := by rw [List.getD, hx]; rfl
      obtain ⟨bl, ol, hA, hbl, hcell⟩ := HFI.out.index i hil
      rw [hxe] at hcell
      subst hA
      have HTK := Lib.hid (show fr.take (i + 1) = fr.take i ++ [x] by rw [List.take_add_one, hx]; rfl)
      obtain ⟨hd, hhd⟩ := Option.isSome_iff_exists.1 ((HFR.out.2 x).1 (List.mem_of_getElem? hx))
      obtain ⟨k, m, hdk, hkh⟩ := wait_line HI.out hhd
      subst hdk
      have HT3 := HT2.out.later HB.out
      obtain ⟨b0, hK⟩ := HT3.has_ hkh
      obtain ⟨e, mh, nh, lv, rfl, hEA⟩ := HT3.is hK
      have hxu : U32 x := by
        have hfm := HT3.fw
        obtain ⟨D, _, _, h2⟩ := hfm
        by_cases hok : KU.ok x
        · exact ku_ok.1 hok
        · rw [h2 x hok] at hhd; cases hhd
      have k0 : w3.cell? ⟨bl, ol + i, none⟩ = some (.int .u32 x) := by rw [HB.out.cell (p := ⟨bl, ol + i, none⟩) hbl]; exact hcell
      have k1 : w3.cell? ⟨t, 1, none⟩ = some (.map (some mw)) := by rw [HT3.box.cell 1]; rfl
      have lkW : (Instr.lookup 57 (.map (some mw)) (.int .u32 x) false).run Try.prog w3 = .ok (.agg #[.int .u8 k.k, .int .u32 k.a, .int .u32 k.b, .int .u8 m]) w3 := by
        have := (HT3.fw.look (t := 57) Try.underlying57 zHd (zeroH w3) x (ku_ok.2 hxu)).1
        rw [hhd] at this
        exact this
      have hb4 := new_ (Below.refl w3.heap.size w3) (.cells #[.int .u8 k.k, .int .u32 k.a, .int .u32 k.b, .int .u8 m] 45)
      have X6 := Box.new w3 #[.int .u8 k.k, .int .u32 k.a, .int .u32 k.b, .int .u8 m] 45
      have HT4 := HT3.later hb4
      have hE4 := hEA.later hb4
      have HHD := Lib.hid hhd
      have HXX := Lib.hid hx
      clear hx hxe hcell hhd hxu hkh HT3 hEA
      go_upto_region 6 with fail
      obtain ⟨x6, hx6⟩ : ∃ x6, w3.heap.size = x6 := ⟨_, rfl⟩
      obtain ⟨w4, hw4⟩ : ∃ w4, w3.alloc (.cells #[.int .u8 k.k, .int .u32 k.a, .int .u32 k.b, .int .u8 m] 45) = w4 := ⟨_, rfl⟩
      rw [hw4] at hb4 X6 HT4 hE4 ⊢
      rw [hx6] at X6 ⊢
      have c40 : w4.cell? ⟨t, 0, none⟩ = some (.map (some mk)) := by rw [HT4.box.cell 0]; rfl
      have c60 : w4.cell? ⟨x6, 0, none⟩ = some (.int .u8 k.k) := by rw [X6.cell 0]; rfl
      have c61 : w4.cell? ⟨x6, 1, none⟩ = some (.int .u32 k.a) := by rw [X6.cell 1]; rfl
      have c62 : w4.cell? ⟨x6, 2, none⟩ = some (.int .u32 k.b) := by rw [X6.cell 2]; rfl
      have c63 : w4.cell? ⟨x6, 3, none⟩ = some (.int .u8 m) := by rw [X6.cell 3]; rfl
      have lk : (Instr.lookup 56 (.map (some mk)) (.agg #[.int .u8 k.k, .int .u32 k.a, .int .u32 k.b]) false).run Try.prog w4.drew = .ok (.pointer (some ⟨e, 0, none⟩)) w4.drew := by
        have h1 := (HT4.fk.drew.look Try.underlying56 none (zeroP _) k (FMok HT4.fk hK)).1
        rw [hK] at h1
        exact h1
      have CA := Lib.hid (ahead_any w4.drew e mh nh lv (T.ent k) x m (hE4.box.later (below_drewN (Below.refl _ _) 1)) (hE4.fm.drew) (by have := hE4.hn; omega) (hE4.ln.later (below_drewN (Below.refl _ _) 1)).ss (by have := hE4.hl; omega) (wait_some HI.out HF.out HHD.out))
      have HB4 := Lib.hid (show Below w2.heap.size w2 w4 from HB.out.trans (hb4.mono HB.out.size))
      have HO4 := Lib.hid (own_below HO.out hb4)
      have mixed : Try.prog.follows .mixedOrders = true := by kernel_rfl
      clear hb4 X6 HT4 hE4 hx6 hw4 HB HO lkW k0 k1
      go_cut [37, 38, 39] (fun v37 v38 v39 wx => Hid (AhCut w4.drew (T.ent k) x m v37 v38 v39 wx))
      case first =>
        go_region_with (go_at_call 31; (with_reducible refine CA.out.mono ?_); rintro er w5 ha; obtain ⟨A5, n5, c5, rfl, hac⟩ := ha.cut; have HAC := Lib.hid hac; clear hac ha)
        all_goals (go_wp2; go_meet; exact HAC)
      case rest =>
      obtain ⟨A5, n5, c5, l, rfl, rfl, rfl, hl5, har, hn5, how, hbw⟩ := hcut.out
      rename_i hKK
      refine hKK _ _ ?_
      have HAH := Lib.hid (ahL_is HHD.out har)
      have HAR := Lib.hid har
      have HL5 := Lib.hid hl5
      have hbw4 : Below w4.heap.size w4 wc := (below_drewN (Below.refl _ _) 1).trans hbw
      have HB5 := Lib.hid (show Below w2.heap.size w2 wc from HB4.out.trans (hbw4.mono HB4.out.size))
      have HO5 := Lib.hid (show wc.ownsRow w2.heap.size 51 2 (.slice A n c) (eds T (fr.take i) ++ (l.take 0).map fun y => (x, y)).length ((eds T (fr.take i) ++ (l.take 0).map fun y => (x, y)).flatMap cEd) by simpa using own_below HO4.out hbw4)
      have HLO := Lib.hid how
      have HAP := Lib.hid (show ∀ g, (Value.slice A5 n5 c5).ownBlock = some g → (Value.slice A n c).ownBlock ≠ some g from fun g hg e => by
        have h1 := (how.lt g hg).1
        have h2 := (HO4.out.lt g e).2
        have h3 : w4.drew.heap.size = w4.heap.size := rfl
        omega)
      have HN5 := Lib.hid (show n = (eds T (fr.take i) ++ (l.take 0).map fun y => (x, y)).length by simpa using HN1.out)
      have bn5 : (n5 : Int) ≤ 1000000 := by omega
      obtain ⟨w5, rfl⟩ : ∃ w5, w5 = wc := ⟨wc, rfl⟩
      clear hKK hcut har how hbw hl5 hbw4 CA c40 c60 c61 c62 c63 lk HB4 HO4 HN1
      go_wp2
      go_loopw [3, 8, 39] (fun s3 _ s39 wr => ∃ (j : Nat) (A : Option Addr) (n c : Nat), s3 = .slice A n c ∧ s39 = .int .i64 j ∧ j ≤ n5 ∧ Hid (n = (eds T (fr.take i) ++ (l.take j).map fun y => (x, y)).length) ∧ Hid (wr.ownsRow w2.heap.size 51 2 (.slice A n c) (eds T (fr.take i) ++ (l.take j).map fun y => (x, y)).length ((eds T (fr.take i) ++ (l.take j).map fun y => (x, y)).flatMap cEd)) ∧ Hid (wr.ownsRow w4.heap.size 29 1 (.slice A5 n5 c5) n5 (l.map (.int .u32))) ∧ Hid (∀ g, (Value.slice A5 n5 c5).ownBlock = some g → (Value.slice A n c).ownBlock ≠ some g) ∧ Hid (Below w2.heap.size w2 wr)) (fun _ _ s39 _ => n5 - (intOf s39).toNat)
      case atStart => exact ⟨0, A, n, c, rfl, rfl, Nat.zero_le _, HN5, HO5, HLO, HAP, HB5⟩
      case round =>
        obtain ⟨j, A6, n6, c6, rfl, rfl, hj, HN6, HO6, HLO6, HAP6, HB6⟩ := hrel
        obtain ⟨w6, rfl⟩ : ∃ w6, w6 = wr := ⟨wr, rfl⟩
        clear HN5 HO5 HLO HAP HB5
        by_cases hjn : j < n5
        · have d2 : decide ((j : Int) < (n5 : Int)) = true := by simp; omega
          have d2' : decide (j < n5) = true := by simp; omega
          obtain ⟨y, hy⟩ : ∃ y, l[j]? = some y := ⟨_, List.getElem?_eq_getElem (by rw [HL5.out]; exact hjn)⟩
          have hye : l.getD j 0 = y := by rw [List.getD, hy]; rfl
          obtain ⟨bl5, ol5, hA5, hbl5, hcell5⟩ := (IR.of_own HLO6.out).index j hjn
          rw [hye] at hcell5
          have HTJ := Lib.hid (show (eds T (fr.take i) ++ (l.take (j + 1)).map fun y => (x, y)) = (eds T (fr.take i) ++ (l.take j).map fun y => (x, y)) ++ [(x, y)] by rw [List.take_add_one, hy, List.map_append, List.append_assoc]; rfl)
          have HTL := Lib.hid (show (eds T (fr.take i) ++ (l.take j).map fun y => (x, y)).length ≤ 60000000000 by
            rw [List.length_append, List.length_map, List.length_take]; have := HLN.out; omega)
          subst hA5
          obtain ⟨es, hes⟩ : ∃ es, (eds T (fr.take i) ++ (l.take j).map fun y => (x, y)) = es := ⟨_, rfl⟩
          rw [hes] at HN6 HO6 HTJ HTL
          have HZ6 := Lib.hid HB6.out.size
          clear hy hye hes
          go_wp2_with (at_builtin; refine wpList_push_ss (F := cEd) (sz := 2) _ rfl _ _ _ rfl w2.heap.size 51 j0 _ 8 Try.underlying35 hj0 hj1 hj2 hj3 rfl (by decide) cEd_len cEd_one _ es rfl (own_below HO6.out (new_ (Below.refl _ _) (.cells #[.int .u32 x, .int .u32 y] 51))) w6.heap.size (x, y) 51 rfl (Box.new w6 _ _) (by have := HTL.out; unfold maxLen; omega) (by have := HTL.out; omega) (by have := HZ6.out; simp; omega) ?_; intro v9 w9 hown ht9)
          have tt := (RowTo.of_below (new_ (Below.refl w6.heap.size w6) (.cells #[.int .u32 x, .int .u32 y] 51)) (.slice A6 n6 c6)).trans ht9
          obtain ⟨A9, n9, c9, rfl⟩ : ∃ A n c, v9 = .slice A n c := by
            rcases hown.2 with ⟨rfl, _⟩ | ⟨g', cap, cur, rfl, _⟩
            · exact ⟨_, _, _, rfl⟩
            · exact ⟨_, _, _, rfl⟩
          have hn9 : n9 = (es ++ [(x, y)]).length := by
            rcases hown.2 with ⟨_, e2⟩ | ⟨g', cap, cur, e1, _⟩
            · simp at e2
            · injection e1 with _ e2 _
          have R1 := Lib.hid (show n9 = (eds T (fr.take i) ++ (l.take (j + 1)).map fun y => (x, y)).length by rw [HTJ.out]; exact hn9)
          have R2 := Lib.hid (show w9.ownsRow w2.heap.size 51 2 (.slice A9 n9 c9) (eds T (fr.take i) ++ (l.take (j + 1)).map fun y => (x, y)).length ((eds T (fr.take i) ++ (l.take (j + 1)).map fun y => (x, y)).flatMap cEd) by rw [HTJ.out]; exact hown)
          have R3 := Lib.hid (show w9.ownsRow w4.heap.size 29 1 (.slice (some ⟨bl5, ol5, none⟩) n5 c5) n5 (l.map (.int .u32)) from own_frS HLO6.out tt.fr (fun b hb e => HAP6.out b hb e))
          have R4 := Lib.hid (show ∀ g, (Value.slice (some ⟨bl5, ol5, none⟩) n5 c5).ownBlock = some g → (Value.slice A9 n9 c9).ownBlock ≠ some g from fun g hg => tt.far ((HLO6.out.lt g hg).2) (HAP6.out g hg))
          have R5 := Lib.hid (HB6.out.trans (tt.below (fun b hb => (HO6.out.lt b hb).1) HB6.out.size))
          clear hown ht9 tt hn9 hcell5 hbl5
          go_wp2
          go_roundw
          case rel => exact ⟨j + 1, A9, n9, c9, rfl, by go_num, by omega, R1, R2, R3, R4, R5⟩
          case measure => simp [intOf]; omega
        · have d2 : decide ((j : Int) < (n5 : Int)) = false := by simp; omega
          have d2' : decide (j < n5) = false := by simp; omega
          have htl : l.take j = l := by rw [show j = n5 by omega, ← HL5.out, List.take_length]
          rw [htl] at HN6 HO6
          have hsn : (eds T (fr.take i) ++ l.map fun y => (x, y)) = eds T (fr.take (i + 1)) := by rw [HTK.out, eds_snoc, HAH.out]
          rw [hsn] at HN6 HO6
          have HA7 := Lib.hid (show ∀ x ∈ fr.take (i + 1), ∀ k m, T.wt x = some (hdOf k m) → AhR (T.ent k) x m (ahL T x) by
            rw [HTK.out]
            intro z hz k' m' hw
            rcases List.mem_append.1 hz with h1 | h1
            · exact HA.out z h1 k' m' hw
            · rw [List.mem_singleton.1 h1] at hw ⊢
              have h2 := HHD.out
              rw [hw] at h2
              injection h2 with h2
              obtain ⟨e1, e2⟩ := hdOf_inj h2
              subst e1 e2
              rw [HAH.out]; exact HAR.out)
          have HLN7 := Lib.hid (show (eds T (fr.take (i + 1))).length ≤ (i + 1) * 1000000 by
            rw [← hsn, List.length_append, List.length_map]; have := HLN.out; have := HL5.out; omega)
          have hw2 : IntKind.i64.wrap ((i : Int) + 1) = ((i + 1 : Nat) : Int) := by rw [IntKind.wrap_i64]; omega
          clear htl hsn
          go_wp2
          go_roundw
          case rel => exact ⟨i + 1, A6, n6, c6, rfl, by go_num, by omega, HN6, HO6, HA7, HLN7, HB6⟩
          case measure => simp [intOf]; omega
    · have d1 : decide ((i : Int) < (fl : Int)) = false := by simp; omega
      have d1' : decide (i < fl) = false := by simp; omega
      have htk : fr.take i = fr := by rw [show i = fl by omega, ← HFL.out, List.take_length]
      rw [htk] at HO HA HLN
      have HED : Hid (EdR T fr (ahL T)) := Lib.hid ⟨HFR.out.1, HFR.out.2, fun x k m hw => HA.out x ((HFR.out.2 x).2 (by rw [hw]; rfl)) k m hw⟩
      have HZ := Lib.hid (show x3 ≤ w2.heap.size by have := HB2.out.size; have := HS1.out; omega)
      have HE := Lib.hid (show Below x3 w w3 from (HB1.out.trans (HB2.out.mono (by have := HS1.out; omega))).trans (HB.out.mono HZ.out))
      go_wp2
      go_ret
      exact ⟨_, fr, rfl, HED.out, by have := HLN.out; omega, own_lower HO.out HZ.out, HE.out⟩
end Go.Proofs.Ytpndcpmfcajmdaa.Lock
namespace Go.Proofs.Ytpndcpmfcajmdaa.Lock
open Go.ChangeShapes Go.WideShapes Go.ChangeAt Go.RowKit Go.IntWalk Go.Proofs.Mem Law Go.Shelf Go.Proofs.Each
set_option linter.unusedVariables false
set_option linter.unusedSimpArgs false
def ris (xs : List Int) : List Int := xs.foldl (fun d x => into d x) []
theorem ris_snoc (xs : List Int) (x : Int) : ris (xs ++ [x]) = into (ris xs) x := by unfold ris; rw [List.foldl_append]; rfl
theorem ris_sorted (xs : List Int) : (ris xs).Pairwise (· < ·) := by
  suffices h : ∀ (l : List Int) (d : List Int), d.Pairwise (· < ·) → (l.foldl (fun d x => into d x) d).Pairwise (· < ·) from h xs [] List.Pairwise.nil
  intro l
  induction l with
  | nil => exact fun _ h => h
  | cons o l ih => exact fun d h => ih _ (into_sorted h).1
theorem ris_mem {xs : List Int} {x : Int} : x ∈ ris xs ↔ x ∈ xs := by
  suffices h : ∀ (l : List Int) (d : List Int), x ∈ l.foldl (fun d x => into d x) d ↔ x ∈ d ∨ x ∈ l by
    have := h xs []
    simpa [ris] using this
  intro l
  induction l with
  | nil => intro d; simp
  | cons o l ih =>
    intro d
    rw [List.foldl_cons, ih, into_mem, List.mem_cons]
    constructor
    · rintro ((h | h) | h)
      · exact .inr (.inl h)
      · exact .inl h
      · exact .inr (.inr h)
    · rintro (h | h | h)
      · exact .inl (.inr h)
      · exact .inl (.inl h)
      · exact .inr h
theorem ris_len (xs : List Int) : (ris xs).length ≤ xs.length := by
  suffices h : ∀ (l : List Int) (d : List Int), d.Pairwise (· < ·) → (l.foldl (fun d x => into d x) d).length ≤ d.length + l.length by
    have := h xs [] List.Pairwise.nil
    simpa [ris] using this
  intro l
  induction l with
  | nil => intro d _; simp
  | cons o l ih =>
    intro d hd
    have h1 := into_len d o hd
    have h2 := ih _ (into_sorted (n := o) hd).1
    rw [List.foldl_cons, List.length_cons]; omega
def blL (e : Rc) (k : Nat) : List Int := ris ((e.h.filter fun q => decide (q.t ≠ (e.l.getD k ⟨0, 0⟩).t) && (decide (q.m = 2) || decide ((e.l.getD k ⟨0, 0⟩).m = 2))).map (·.t) ++ (e.l.take k).map (·.t))
theorem blL_mem {e : Rc} {k : Nat} {p : Pl} (hk : e.l[k]? = some p) {x : Int} : x ∈ blL e k ↔ BlIs e.h e.l k p x := by
  have hp : e.l.getD k ⟨0, 0⟩ = p := by rw [List.getD, hk]; rfl
  unfold blL BlIs
  rw [ris_mem, hp, List.mem_append, List.mem_map, List.mem_map]
  refine or_congr ⟨?_, ?_⟩ Iff.rfl
  · rintro ⟨q, h1, h2⟩
    rw [List.mem_filter] at h1
    refine ⟨q, h1.1, h2, ?_⟩
    simpa using h1.2
  · rintro ⟨q, h1, h2, h3, h4⟩
    exact ⟨q, List.mem_filter.2 ⟨h1, by simpa using ⟨h3, h4⟩⟩, h2⟩
theorem blL_is {e : Rc} {k : Nat} {p : Pl} (hk : e.l[k]? = some p) {s : List Int} (hs : s.Pairwise (· < ·)) (hm : ∀ x, x ∈ s ↔ BlIs e.h e.l k p x) : s = blL e k :=
  rise_uniq hs (ris_sorted _) (fun x => (hm x).trans (blL_mem hk).symm)
def edAt (e : Rc) (x : Int) (k : Nat) : List (Int × Int) := if (e.l.getD k ⟨0, 0⟩).t = x then (blL e k).map fun y => (x, y) else []
def edK (e : Rc) (x : Int) (k : Nat) : List (Int × Int) := (List.range k).flatMap (edAt e x)
def edE (x : Int) (e : Rc) : List (Int × Int) := edK e x e.l.length
def edX (C : List Rc) (x : Int) : List (Int × Int) := C.flatMap (edE x)
def rEds (C : List Rc) (who : List Int) : List (Int × Int) := who.flatMap (edX C)
def whoL (C : List Rc) : List Int := ris (C.flatMap fun e => e.l.map (·.t))
theorem edK_succ (e : Rc) (x : Int) (k : Nat) : edK e x (k + 1) = edK e x k ++ edAt e x k := by
  unfold edK
  rw [List.range_succ, List.flatMap_append]
  simp
theorem take_flat {α β : Type} {f : α → List β} {l : List α} {i : Nat} {a : α} (h : l[i]? = some a) : (l.take (i + 1)).flatMap f = (l.take i).flatMap f ++ f a := by
  rw [List.take_add_one, h, List.flatMap_append]
  simp
def sumL (L : List Rk) : Nat := (L.map fun e => e.l.length).sum
theorem sumL_take {L : List Rk} {i : Nat} {e : Rk} (h : L[i]? = some e) : sumL (L.take (i + 1)) = sumL (L.take i) + e.l.length := by
  unfold sumL
  rw [List.take_add_one, h, List.map_append, List.sum_append]
  simp
theorem sumL_le (L : List Rk) (i : Nat) : sumL (L.take i) ≤ sumL L := by
  have : sumL (L.take i) + sumL (L.drop i) = sumL L := by
    unfold sumL
    rw [← List.sum_append, ← List.map_append, List.take_append_drop]
  omega
theorem co_take {L : List Rk} {i : Nat} {e : Rk} (h : L[i]? = some e) (f : Rc → List Int) : ((L.take (i + 1)).map Rk.co).flatMap f = ((L.take i).map Rk.co).flatMap f ++ f e.co := by
  rw [List.take_add_one, h, List.map_append, List.flatMap_append]
  simp
theorem co_take2 {L : List Rk} {i : Nat} {e : Rk} (h : L[i]? = some e) (x : Int) : edX ((L.take (i + 1)).map Rk.co) x = edX ((L.take i).map Rk.co) x ++ edE x e.co := by
  unfold edX
  rw [List.take_add_one, h, List.map_append, List.flatMap_append]
  simp
set_option maxRecDepth 100000 in
set_option maxHeartbeats 16000000 in
theorem redges_any (w : World) (R : Nat → Prop) (tb : Nat) (L : List Rk) (h : RTab w R tb L) (hl : L.length ≤ 1000) (hll : ∀ e ∈ L, e.h.length ≤ 1000 ∧ e.l.length ≤ 1000) (hsum : sumL L ≤ 5000) :
    Calls Try.prog 15 #[.pointer (some ⟨tb, 0, none⟩)] w fun e w' => ∃ v, e = .returned v ∧ w'.ownsRow w.heap.size 51 2 v (rEds (L.map Rk.co) (whoL (L.map Rk.co))).length ((rEds (L.map Rk.co) (whoL (L.map Rk.co))).flatMap cEd) ∧ Below w.heap.size w w' := by
  obtain ⟨j0, hj0, hj1, hj2, hj3⟩ := info_parts ed_info
  have HT := Lib.hid h
  obtain ⟨A, c, hr⟩ := h.row
  have HSS := Lib.hid (SS.of_own cRk_len hr.own)
  have HRB := Lib.hid hr.box
  obtain ⟨n, hn⟩ : ∃ n, L.length = n := ⟨_, rfl⟩
  have HN := Lib.hid hn
  rw [hn] at hl HSS HRB
  have bn : (n : Int) ≤ 1000 := by omega
  have HLL := Lib.hid hll
  have HSU := Lib.hid hsum
  obtain ⟨z, hz⟩ : ∃ z, w.heap.size = z := ⟨_, rfl⟩
  have HZ := Lib.hid hz
  have HTW := Lib.hid (show ∀ W, Below z w W → Below w.heap.size w W from fun W hW => by rw [hz]; exact hW)
  obtain ⟨C, hC⟩ : ∃ C, L.map Rk.co = C := ⟨_, rfl⟩
  have HC := Lib.hid hC
  rw [hz] at HSS ⊢
  rw [hC]
  have HCT := Lib.hid (show ∀ W, Below z w W → W.cell? ⟨tb, 0, none⟩ = some (.slice A n c) from fun W hW => (HRB.out.later (HTW.out W hW)).cell 0)
  have HLC := Lib.hid (show ∀ W, Below z w W → ∀ (i : Nat) (e : Rk), L[i]? = some e → ∃ b o, A = some ⟨b, o, none⟩ ∧ W.cell? ⟨b, o + i * 5 + 4, none⟩ = some (.slice e.la e.l.length e.lc) ∧ W.cell? ⟨b, o + i * 5, none⟩ = some (.int .u8 e.k.k) ∧ W.cell? ⟨b, o + i * 5 + 1, none⟩ = some (.int .u32 e.k.a) ∧ W.cell? ⟨b, o + i * 5 + 2, none⟩ = some (.int .u32 e.k.b) ∧ W.cell? ⟨b, o + i * 5 + 3, none⟩ = some (.slice e.ha e.h.length e.hc) from fun W hW i e he => by
    obtain ⟨b, o, hA, hb, hc⟩ := HSS.out.at_ he
    exact ⟨b, o, hA, (hW.cell (p := ⟨b, o + i * 5 + 4, none⟩) hb).trans (hc 4 _ rfl), (hW.cell (p := ⟨b, o + i * 5, none⟩) hb).trans (hc 0 _ rfl), (hW.cell (p := ⟨b, o + i * 5 + 1, none⟩) hb).trans (hc 1 _ rfl), (hW.cell (p := ⟨b, o + i * 5 + 2, none⟩) hb).trans (hc 2 _ rfl), (hW.cell (p := ⟨b, o + i * 5 + 3, none⟩) hb).trans (hc 3 _ rfl)⟩)
  have HLL2 := Lib.hid (show ∀ W, Below z w W → ∀ (i : Nat) (e : Rk), L[i]? = some e → ∀ (k : Nat) (q : Pl), e.l[k]? = some q → ∃ b o, e.la = some ⟨b, o, none⟩ ∧ W.cell? ⟨b, o + k * 2, none⟩ = some (.int .u32 q.t) from fun W hW i e he k q hq => by
    obtain ⟨b, o, hA, hb, hc⟩ := (HT.out.it e (List.mem_of_getElem? he)).ss_l.at_ hq
    exact ⟨b, o, hA, ((HTW.out W hW).cell (p := ⟨b, o + k * 2, none⟩) hb).trans (hc 0 _ rfl)⟩)
  have HCE := Lib.hid (show ∀ (i : Nat) (e : Rk), L[i]? = some e → e.h.length ≤ 1000 ∧ e.l.length ≤ 1000 ∧ sumL (L.take i) + e.l.length ≤ 5000 from fun i e he => by
    have h1 := HLL.out e (List.mem_of_getElem? he)
    have h2 := sumL_le L (i + 1)
    rw [sumL_take he] at h2
    have := HSU.out
    exact ⟨h1.1, h1.2, by omega⟩)
  clear h hr hn hll hsum hz hC
  go_enter Try.func15, Try.ntmps15
  go_wp2
  go_loopw [3, 4, 5] (fun s3 s4 _ wr => ∃ (i : Nat) (oA : Option Addr) (on oc : Nat), s3 = .slice oA on oc ∧ s4 = .int .i64 i ∧ i ≤ n ∧ Hid (wr.ownsRow z 29 1 (.slice oA on oc) (whoL ((L.take i).map Rk.co)).length ((whoL ((L.take i).map Rk.co)).map (.int .u32))) ∧ Hid (Below z w wr)) (fun _ s4 _ _ => n - (intOf s4).toNat)
  case atStart => exact ⟨0, none, 0, 0, rfl, rfl, Nat.zero_le _, Lib.hid (by simpa [whoL, ris] using World.ownsRow_nil _ _ _ _), Lib.hid (Below.refl _ _)⟩
  case round =>
    obtain ⟨i, oA, on, oc, rfl, rfl, hi, HO, HB⟩ := hrel
    obtain ⟨w2, rfl⟩ : ∃ w2, w2 = wr := ⟨wr, rfl⟩
    have c0 := HCT.out w2 HB.out
    by_cases hil : i < n
    · have d1 : decide ((i : Int) < (n : Int)) = true := by simp; omega
      have d1' : decide (i < n) = true := by simp; omega
      obtain ⟨e, he⟩ : ∃ e, L[i]? = some e := ⟨_, List.getElem?_eq_getElem (by rw [HN.out]; exact hil)⟩
      obtain ⟨b, o, hA, _⟩ := HLC.out w2 HB.out i e he
      subst hA
      have HE := Lib.hid he
      obtain ⟨nl, hnl⟩ : ∃ nl, e.l.length = nl := ⟨_, rfl⟩
      have HNL := Lib.hid (show e.l.length = nl ∧ nl ≤ 1000 from ⟨hnl, by rw [← hnl]; exact (HCE.out i e he).2.1⟩)
      have bnl : (nl : Int) ≤ 1000 := by have := HNL.out.2; omega
      have HO0 := Lib.hid (show w2.ownsRow z 29 1 (.slice oA on oc) (ris ((((L.take i).map Rk.co).flatMap fun e => e.l.map (·.t)) ++ (e.l.take 0).map (·.t))).length ((ris ((((L.take i).map Rk.co).flatMap fun e => e.l.map (·.t)) ++ (e.l.take 0).map (·.t))).map (.int .u32)) by
        have h1 := HO.out
        unfold whoL at h1
        simpa using h1)
      clear he hnl
      go_wp2
      go_loopw [3, 5] (fun s3 s5 wr => ∃ (k : Nat) (oA : Option Addr) (on oc : Nat), s3 = .slice oA on oc ∧ s5 = .int .i64 k ∧ k ≤ nl ∧ Hid (wr.ownsRow z 29 1 (.slice oA on oc) (ris ((((L.take i).map Rk.co).flatMap fun e => e.l.map (·.t)) ++ (e.l.take k).map (·.t))).length ((ris ((((L.take i).map Rk.co).flatMap fun e => e.l.map (·.t)) ++ (e.l.take k).map (·.t))).map (.int .u32))) ∧ Hid (Below z w wr)) (fun _ s5 _ => nl - (intOf s5).toNat)
      case atStart => exact ⟨0, oA, on, oc, rfl, rfl, Nat.zero_le _, HO0, HB⟩
      case round =>
        obtain ⟨k, oA, on, oc, rfl, rfl, hk, HO, HB⟩ := hrel
        obtain ⟨w3, rfl⟩ : ∃ w3, w3 = wr := ⟨wr, rfl⟩
        clear HO0 c0
        have c0 := HCT.out w3 HB.out
        obtain ⟨b', o', hA', m4, _⟩ := HLC.out w3 HB.out i e HE.out
        injection hA' with hA'
        injection hA' with hA1 hA2
        subst hA1 hA2
        rw [HNL.out.1] at m4
        by_cases hkl : k < nl
        · have d2 : decide ((k : Int) < (nl : Int)) = true := by simp; omega
          have d2' : decide (k < nl) = true := by simp; omega
          obtain ⟨q, hq⟩ : ∃ q, e.l[k]? = some q := ⟨_, List.getElem?_eq_getElem (by have := HNL.out; omega)⟩
          obtain ⟨bq, oq, hla, m0⟩ := HLL2.out w3 HB.out i e HE.out k q hq
          rw [hla] at m4
          have HTK := Lib.hid (show e.l.take (k + 1) = e.l.take k ++ [q] by rw [List.take_add_one, hq]; rfl)
          obtain ⟨qt, qm⟩ := q
          have HLN := Lib.hid (show (ris ((((L.take i).map Rk.co).flatMap fun e => e.l.map (·.t)) ++ (e.l.take k).map (·.t))).length ≤ 5000 by
            refine Nat.le_trans (ris_len _) ?_
            rw [List.length_append, List.length_map, List.length_take]
            have h1 : (((L.take i).map Rk.co).flatMap fun e => e.l.map (·.t)).length = sumL (L.take i) := by
              unfold sumL
              rw [List.length_flatMap, List.map_map]
              congr 1
              apply List.map_congr_left
              intro e _
              simp [Rk.co]
            have h2 := (HCE.out i e HE.out).2.2
            omega)
          have HSZ := Lib.hid (show z ≤ w3.heap.size by have := HB.out.size; have := HZ.out; omega)
          have CI := Lib.hid (into_any w3 z (.slice oA on oc) _ qt HSZ.out (by have := HLN.out; omega) HO.out)
          clear hq hla
          go_wp2_with fail
          (with_reducible refine CI.out.mono ?_)
          rintro er w5 ⟨v5, rfl, ho5, _, hb5⟩
          obtain ⟨A5, n5, c5, rfl⟩ := own_slice ho5
          rw [← ris_snoc] at ho5
          have HO5 := Lib.hid (show w5.ownsRow z 29 1 (.slice A5 n5 c5) (ris ((((L.take i).map Rk.co).flatMap fun e => e.l.map (·.t)) ++ (e.l.take (k + 1)).map (·.t))).length ((ris ((((L.take i).map Rk.co).flatMap fun e => e.l.map (·.t)) ++ (e.l.take (k + 1)).map (·.t))).map (.int .u32)) by
            rw [HTK.out, List.map_append, ← List.append_assoc]; exact ho5)
          have HB5 := Lib.hid (show Below z w w5 from HB.out.trans (hb5.mono HSZ.out))
          clear ho5 hb5 CI m0 m4 c0
          go_wp2
          go_roundw
          case rel => exact ⟨k + 1, A5, n5, c5, rfl, by go_num, by omega, HO5, HB5⟩
          case measure => simp [intOf]; omega
        · have d2 : decide ((k : Int) < (nl : Int)) = false := by simp; omega
          have d2' : decide (k < nl) = false := by simp; omega
          have htk : e.l.take k = e.l := List.take_of_length_le (by have := HNL.out.1; omega)
          have HO5 := Lib.hid (show w3.ownsRow z 29 1 (.slice oA on oc) (whoL ((L.take (i + 1)).map Rk.co)).length ((whoL ((L.take (i + 1)).map Rk.co)).map (.int .u32)) by
            have h1 := HO.out
            rw [htk] at h1
            unfold whoL
            rw [co_take HE.out]
            exact h1)
          have hw2 : IntKind.i64.wrap ((i : Int) + 1) = ((i + 1 : Nat) : Int) := by rw [IntKind.wrap_i64]; omega
          clear htk
          go_wp2
          go_roundw
          case rel => exact ⟨i + 1, oA, on, oc, rfl, by go_num, by omega, HO5, HB⟩
          case measure => simp [intOf]; omega
    · have d1 : decide ((i : Int) < (n : Int)) = false := by simp; omega
      have d1' : decide (i < n) = false := by simp; omega
      have htk : L.take i = L := by rw [show i = n by omega, ← HN.out, List.take_length]
      rw [htk, HC.out] at HO
      clear htk
      obtain ⟨who, hwho⟩ : ∃ who, whoL C = who := ⟨_, rfl⟩
      rw [hwho] at HO
      have HWH := Lib.hid hwho
      obtain ⟨nw, hnw⟩ : ∃ nw, who.length = nw := ⟨_, rfl⟩
      have HNW := Lib.hid (show who.length = nw ∧ nw ≤ 5000 from ⟨hnw, by
        rw [← hnw, ← hwho]
        refine Nat.le_trans (ris_len _) ?_
        have h1 : (C.flatMap fun e => e.l.map (·.t)).length = sumL L := by
          rw [← HC.out]
          unfold sumL
          rw [List.length_flatMap, List.map_map]
          congr 1
          apply List.map_congr_left
          intro e _
          simp [Rk.co]
        rw [h1]; exact HSU.out⟩)
      rw [hnw] at HO
      have hon := own_n HO.out
      subst hon
      have bnw : (on : Int) ≤ 5000 := by have := HNW.out.2; omega
      clear hwho hnw
      go_wp2
      go_loopw [6, 7, 8, 9, 10, 11] (fun s6 s7 _ _ _ _ wr => ∃ (a : Nat) (A6 : Option Addr) (n6 c6 : Nat), s6 = .slice A6 n6 c6 ∧ s7 = .int .i64 a ∧ a ≤ on ∧ Hid (wr.ownsRow z 51 2 (.slice A6 n6 c6) (rEds C (who.take a)).length ((rEds C (who.take a)).flatMap cEd)) ∧ Hid (wr.ownsRow z 29 1 (.slice oA on oc) on (who.map (.int .u32))) ∧ Hid (Below z w wr) ∧ Hid ((rEds C (who.take a)).length ≤ a * 10000000)) (fun _ s7 _ _ _ _ _ => on - (intOf s7).toNat)
      case atStart => exact ⟨0, none, 0, 0, rfl, rfl, Nat.zero_le _, Lib.hid (by simpa [rEds] using World.ownsRow_nil _ _ _ _), HO, HB, Lib.hid (by simp [rEds])⟩
      case round =>
        obtain ⟨a, A6, n6, c6, rfl, rfl, ha, HE6, HW6, HB6, HL6⟩ := hrel
        obtain ⟨w3, rfl⟩ : ∃ w3, w3 = wr := ⟨wr, rfl⟩
        clear HO HB c0
        by_cases hal : a < on
        · have d2 : decide ((a : Int) < (on : Int)) = true := by simp; omega
          have d2' : decide (a < on) = true := by simp; omega
          obtain ⟨x, hx⟩ : ∃ x, who[a]? = some x := ⟨_, List.getElem?_eq_getElem (by rw [HNW.out.1]; exact hal)⟩
          obtain ⟨bw, ow, hAw, _, hcw⟩ := (IR.of_own HW6.out).index a hal
          subst hAw
          have HX := Lib.hid hx
          have HWC := Lib.hid (show ∀ W : World, W.ownsRow z 29 1 (.slice (some ⟨bw, ow, none⟩) on oc) on (who.map (.int .u32)) → W.cell? ⟨bw, ow + a, none⟩ = some (.int .u32 x) from fun W hW => by
            obtain ⟨b', o', h1, _, h3⟩ := (IR.of_own hW).index a hal
            injection h1 with h1
            injection h1 with e1 e2
            subst e1 e2
            rw [h3]; congr 2; rw [List.getD, hx]; rfl)
          have HE60 := Lib.hid (show w3.ownsRow z 51 2 (.slice A6 n6 c6) (rEds C (who.take a) ++ edX ((L.take 0).map Rk.co) x).length ((rEds C (who.take a) ++ edX ((L.take 0).map Rk.co) x).flatMap cEd) by simpa [edX] using HE6.out)
          have HL60 := Lib.hid (show (rEds C (who.take a) ++ edX ((L.take 0).map Rk.co) x).length ≤ a * 10000000 + sumL (L.take 0) * 2000 by rw [show edX ((L.take 0).map Rk.co) x = [] from rfl, List.append_nil]; exact Nat.le_trans HL6.out (Nat.le_add_right _ _))
          clear hx hcw
          go_wp2
          go_loopw [6, 8, 9, 10, 11] (fun s6 s8 _ _ _ wr => ∃ (i : Nat) (A6 : Option Addr) (n6 c6 : Nat), s6 = .slice A6 n6 c6 ∧ s8 = .int .i64 i ∧ i ≤ n ∧ Hid (wr.ownsRow z 51 2 (.slice A6 n6 c6) (rEds C (who.take a) ++ edX ((L.take i).map Rk.co) x).length ((rEds C (who.take a) ++ edX ((L.take i).map Rk.co) x).flatMap cEd)) ∧ Hid (wr.ownsRow z 29 1 (.slice (some ⟨bw, ow, none⟩) on oc) on (who.map (.int .u32))) ∧ Hid (Below z w wr) ∧ Hid ((rEds C (who.take a) ++ edX ((L.take i).map Rk.co) x).length ≤ a * 10000000 + sumL (L.take i) * 2000)) (fun _ s8 _ _ _ _ => n - (intOf s8).toNat)
          case atStart => exact ⟨0, A6, n6, c6, rfl, rfl, Nat.zero_le _, HE60, HW6, HB6, HL60⟩
          case round =>
            obtain ⟨i, A6, n6, c6, rfl, rfl, hi, HE7, HW7, HB7, HL7⟩ := hrel
            obtain ⟨w4, rfl⟩ : ∃ w4, w4 = wr := ⟨wr, rfl⟩
            clear HE60 HL60 HE6 HW6 HB6
            have c0 := HCT.out w4 HB7.out
            by_cases hil : i < n
            · have d3 : decide ((i : Int) < (n : Int)) = true := by simp; omega
              have d3' : decide (i < n) = true := by simp; omega
              obtain ⟨e, he⟩ : ∃ e, L[i]? = some e := ⟨_, List.getElem?_eq_getElem (by rw [HN.out]; exact hil)⟩
              obtain ⟨b, o, hA, _⟩ := HLC.out w4 HB7.out i e he
              subst hA
              have HE := Lib.hid he
              obtain ⟨nl, hnl⟩ : ∃ nl, e.l.length = nl := ⟨_, rfl⟩
              have HNL := Lib.hid (show e.l.length = nl ∧ nl ≤ 1000 from ⟨hnl, by rw [← hnl]; exact (HCE.out i e he).2.1⟩)
              have bnl : (nl : Int) ≤ 1000 := by have := HNL.out.2; omega
              obtain ⟨E4, hE4⟩ : ∃ E4, rEds C (who.take a) ++ edX ((L.take i).map Rk.co) x = E4 := ⟨_, rfl⟩
              have HE4 := Lib.hid hE4
              rw [hE4] at HE7 HL7
              have HE70 := Lib.hid (show w4.ownsRow z 51 2 (.slice A6 n6 c6) (E4 ++ edK e.co x 0).length ((E4 ++ edK e.co x 0).flatMap cEd) by simpa [edK] using HE7.out)
              have HL70 := Lib.hid (show (E4 ++ edK e.co x 0).length ≤ E4.length + 0 * 2000 by simp [edK])
              have HE4L := Lib.hid (show E4.length ≤ 60000000000 by have h1 := HL7.out; have h2 := HNW.out.2; have h3 := (HCE.out i e he).2.2; omega)
              clear he hnl hE4
              go_wp2
              go_loopw [6, 9, 10, 11] (fun s6 s9 _ _ wr => ∃ (k : Nat) (A6 : Option Addr) (n6 c6 : Nat), s6 = .slice A6 n6 c6 ∧ s9 = .int .i64 k ∧ k ≤ nl ∧ Hid (wr.ownsRow z 51 2 (.slice A6 n6 c6) (E4 ++ edK e.co x k).length ((E4 ++ edK e.co x k).flatMap cEd)) ∧ Hid (wr.ownsRow z 29 1 (.slice (some ⟨bw, ow, none⟩) on oc) on (who.map (.int .u32))) ∧ Hid (Below z w wr) ∧ Hid ((E4 ++ edK e.co x k).length ≤ E4.length + k * 2000)) (fun _ s9 _ _ _ => nl - (intOf s9).toNat)
              case atStart => exact ⟨0, A6, n6, c6, rfl, rfl, Nat.zero_le _, HE70, HW7, HB7, HL70⟩
              case round =>
                obtain ⟨k, A6, n6, c6, rfl, rfl, hk, HE8, HW8, HB8, HL8⟩ := hrel
                obtain ⟨w5, rfl⟩ : ∃ w5, w5 = wr := ⟨wr, rfl⟩
                clear HE70 HL70 HW7 HB7 HE7 c0
                have c0 := HCT.out w5 HB8.out
                obtain ⟨b', o', hA', m4, l0, l1, l2, l3⟩ := HLC.out w5 HB8.out i e HE.out
                injection hA' with hA'
                injection hA' with hA1 hA2
                subst hA1 hA2
                rw [HNL.out.1] at m4
                have HSZ := Lib.hid (show z ≤ w5.heap.size by have := HB8.out.size; have := HZ.out; omega)
                by_cases hkl : k < nl
                · have d4 : decide ((k : Int) < (nl : Int)) = true := by simp; omega
                  have d4' : decide (k < nl) = true := by simp; omega
                  obtain ⟨q, hq⟩ : ∃ q, e.l[k]? = some q := ⟨_, List.getElem?_eq_getElem (by have := HNL.out; omega)⟩
                  obtain ⟨bq, oq, hla, m0⟩ := HLL2.out w5 HB8.out i e HE.out k q hq
                  rw [hla] at m4
                  have hgd : e.co.l.getD k ⟨0, 0⟩ = q := by rw [List.getD, show e.co.l[k]? = some q from hq]; rfl
                  have u0 := HWC.out w5 HW8.out
                  have u0' : ∀ d, (w5.drewN d).cell? ⟨bw, ow + a, none⟩ = some (.int .u32 x) := fun _ => u0
                  have c0' : ∀ d, (w5.drewN d).cell? ⟨tb, 0, none⟩ = some (.slice (some ⟨b, o, none⟩) n c) := fun _ => c0
                  have m4' : ∀ d, (w5.drewN d).cell? ⟨b, o + i * 5 + 4, none⟩ = some (.slice (some ⟨bq, oq, none⟩) nl e.lc) := fun _ => m4
                  have m0' : ∀ d, (w5.drewN d).cell? ⟨bq, oq + k * 2, none⟩ = some (.int .u32 q.t) := fun _ => m0
                  have HQ := Lib.hid hq
                  obtain ⟨qt, qm⟩ := q
                  simp only at m0 m0'
                  by_cases hqx : qt = x
                  · have q1 : (qt != x) = false := by simp [hqx]
                    have HAT := Lib.hid (show edAt e.co x k = (blL e.co k).map fun y => (x, y) by unfold edAt; rw [hgd]; exact if_pos hqx)
                    have CB := Lib.hid (fun d => blocks_any (w5.drewN d) e k ⟨qt, qm⟩ HQ.out (own_below (HT.out.it e (List.mem_of_getElem? HE.out)).h ((HTW.out _ HB8.out).trans ((below_drewN (Below.refl _ _) d).mono (HTW.out _ HB8.out).size))) (own_below (HT.out.it e (List.mem_of_getElem? HE.out)).l ((HTW.out _ HB8.out).trans ((below_drewN (Below.refl _ _) d).mono (HTW.out _ HB8.out).size))) ⟨(HCE.out i e HE.out).1, (HCE.out i e HE.out).2.1⟩)
                    have HLA := Lib.hid hla
                    clear hqx hq hgd m0 u0
                    go_upto_region 19 with fail
                    go_quiet (fail)
                    clear u0' c0' m4' m0'
                    have c0 := HCT.out (w5.drewN nq) (below_drewN HB8.out nq)
                    obtain ⟨b', o', hA', m4, l0, l1, l2, l3⟩ := HLC.out (w5.drewN nq) (below_drewN HB8.out nq) i e HE.out
                    injection hA' with hA'
                    injection hA' with hA1 hA2
                    subst hA1 hA2
                    have CBB := Lib.hid (CB.out nq)
                    rw [hla] at CBB
                    have HEa := Lib.hid (own_drewN HE8.out nq)
                    have HWa := Lib.hid (own_drewN HW8.out nq)
                    have HBa := Lib.hid (below_drewN HB8.out nq)
                    have HSa := Lib.hid (show z ≤ (w5.drewN nq).heap.size from HSZ.out)
                    clear CB HE8 HW8 HB8 HSZ
                    generalize w5.drewN nq = w6 at c0 m4 l0 l1 l2 l3 CBB HEa HWa HBa HSa ⊢
                    go_wp2_with fail
                    (with_reducible refine CBB.out.mono ?_)
                    rintro er w7 ⟨v7, s, rfl, hs1, hs2, hs3, ho7, hb7⟩
                    obtain ⟨A7, n7, c7, rfl⟩ := own_slice ho7
                    obtain rfl := own_n ho7
                    have HSB := Lib.hid (blL_is (e := e.co) HQ.out hs1 hs2)
                    obtain ⟨m7, hm7⟩ : ∃ m7, s.length = m7 := ⟨_, rfl⟩
                    have HM7 := Lib.hid hm7
                    rw [hm7] at ho7 hs3 ⊢
                    have bm7 : (m7 : Int) ≤ 2000 := by omega
                    have HE8 := Lib.hid (show w7.ownsRow z 51 2 (.slice A6 n6 c6) ((E4 ++ edK e.co x k) ++ (s.take 0).map fun y => (x, y)).length (((E4 ++ edK e.co x k) ++ (s.take 0).map fun y => (x, y)).flatMap cEd) by simpa using own_below HEa.out hb7)
                    have HW8 := Lib.hid (own_below HWa.out hb7)
                    have HB8 := Lib.hid (show Below z w w7 from HBa.out.trans (hb7.mono HSa.out))
                    have HO8 := Lib.hid (own_lower ho7 HSa.out)
                    clear ho7 hb7 hs1 hs2 hs3 hm7 CBB HEa HWa HBa c0 m4 l0 l1 l2 l3
                    go_wp2
                    go_loopw [6, 11] (fun s6 s11 wr => ∃ (j : Nat) (A6 : Option Addr) (n6 c6 : Nat), s6 = .slice A6 n6 c6 ∧ s11 = .int .i64 j ∧ j ≤ m7 ∧ Hid (wr.ownsRow z 51 2 (.slice A6 n6 c6) ((E4 ++ edK e.co x k) ++ (s.take j).map fun y => (x, y)).length (((E4 ++ edK e.co x k) ++ (s.take j).map fun y => (x, y)).flatMap cEd)) ∧ Hid (wr.ownsRow z 29 1 (.slice (some ⟨bw, ow, none⟩) on oc) on (who.map (.int .u32))) ∧ Hid (wr.ownsRow z 29 1 (.slice A7 m7 c7) m7 (s.map (.int .u32))) ∧ Hid (Below z w wr)) (fun _ s11 _ => m7 - (intOf s11).toNat)
                    case atStart => exact ⟨0, A6, n6, c6, rfl, rfl, Nat.zero_le _, HE8, HW8, HO8, HB8⟩
                    case round =>
                      obtain ⟨j, A6, n6, c6, rfl, rfl, hj, HE9, HW9, HO9, HB9⟩ := hrel
                      obtain ⟨w8, rfl⟩ : ∃ w8, w8 = wr := ⟨wr, rfl⟩
                      clear HE8 HW8 HO8 HB8
                      have HS9 := Lib.hid (show z ≤ w8.heap.size by have := HB9.out.size; have := HZ.out; omega)
                      by_cases hjl : j < m7
                      · have d5 : decide ((j : Int) < (m7 : Int)) = true := by simp; omega
                        have d5' : decide (j < m7) = true := by simp; omega
                        obtain ⟨y, hy⟩ : ∃ y, s[j]? = some y := ⟨_, List.getElem?_eq_getElem (by rw [HM7.out]; exact hjl)⟩
                        have hye : s.getD j 0 = y := by rw [List.getD, hy]; rfl
                        obtain ⟨b7, o7, hA7, _, hc7⟩ := (IR.of_own HO9.out).index j hjl
                        rw [hye] at hc7
                        subst hA7
                        have u0 := HWC.out w8 HW9.out
                        have HTJ := Lib.hid (show ((E4 ++ edK e.co x k) ++ (s.take (j + 1)).map fun y => (x, y)) = ((E4 ++ edK e.co x k) ++ (s.take j).map fun y => (x, y)) ++ [(x, y)] by rw [List.take_add_one, hy, List.map_append]; simp)
                        have HTL := Lib.hid (show ((E4 ++ edK e.co x k) ++ (s.take j).map fun y => (x, y)).length ≤ 70000000000 by
                          rw [List.length_append, List.length_map, List.length_take]; have := HL8.out; have := HE4L.out; omega)
                        obtain ⟨es, hes⟩ : ∃ es, ((E4 ++ edK e.co x k) ++ (s.take j).map fun y => (x, y)) = es := ⟨_, rfl⟩
                        rw [hes] at HE9 HTJ HTL
                        clear hy hye hes
                        go_upto_region 24 with fail
                        have hfa := World.alloc_heap_new w8 (.cells #[.int .u32 x, .int .u32 y] 51)
                        go_region_law ((refine step_append_lies _ (by rfl) _ _ _ (by rfl) z 51 j0 _ 2 8 Try.underlying35 hj0 hj1 hj2 hj3 rfl (by omega) (.slice A6 n6 c6) es.length _ (by rfl) ((HE9.out.alloc _).drew) ⟨w8.heap.size, 0, none⟩ 1 1 [.int .u32 x, .int .u32 y] (by rfl) (by rfl) (World.news_of_block (cs := #[.int .u32 x, .int .u32 y]) (t := 51) (fr := (0, 0)) hfa) (by simp [Value.oneCell']) (by omega) (by have := HTL.out; unfold maxLen; omega) (by have := HTL.out; omega) (by have := HS9.out; simp; omega) (w8.heap.size + 1) (by simp) ?_; intro gg cap w9 hown9 hgrow9 hat9 hlt9; have HO9' := Lib.hid hown9; have HG9 := Lib.hid hgrow9; clear hown9 hgrow9 hat9 hlt9))
                        all_goals
                          have HOA : Hid (w9.ownsRow z 51 2 (.slice (some ⟨gg, 0, none⟩) (es.length + 1) cap) (es ++ [(x, y)]).length ((es ++ [(x, y)]).flatMap cEd)) := Lib.hid (by
                            have h1 := HO9'.out
                            rw [List.length_append, List.flatMap_append]; exact h1)
                          have HFA : Hid (Fr (fun b => (Value.slice A6 n6 c6).ownBlock = some b) w8 w9) := Lib.hid ((((Fr.refl _ w8).alloc _).drew).grown HG9.out (fun g e => .inl e))
                          have R1 := Lib.hid (show w9.ownsRow z 51 2 (.slice (some ⟨gg, 0, none⟩) (es.length + 1) cap) ((E4 ++ edK e.co x k) ++ (s.take (j + 1)).map fun y => (x, y)).length (((E4 ++ edK e.co x k) ++ (s.take (j + 1)).map fun y => (x, y)).flatMap cEd) by rw [HTJ.out]; exact HOA.out)
                          have R2 := Lib.hid (own_frS HW9.out HFA.out (fun b hb e => ne_types HW9.out HE9.out (by decide) b hb e))
                          have R3 := Lib.hid (own_frS HO9.out HFA.out (fun b hb e => ne_types HO9.out HE9.out (by decide) b hb e))
                          have R4 := Lib.hid (HB9.out.trans (HFA.out.to_below (fun b hb => (HE9.out.lt b hb).1) HS9.out))
                          clear hfa u0 hc7
                          go_wp2
                          go_roundw
                          case rel => exact ⟨j + 1, _, _, _, rfl, by go_num, by omega, R1, R2, R3, R4⟩
                          case measure => simp [intOf]; omega
                      · have d5 : decide ((j : Int) < (m7 : Int)) = false := by simp; omega
                        have d5' : decide (j < m7) = false := by simp; omega
                        have htk : s.take j = s := List.take_of_length_le (by rw [HM7.out]; omega)
                        rw [htk] at HE9
                        have R1 := Lib.hid (show w8.ownsRow z 51 2 (.slice A6 n6 c6) (E4 ++ edK e.co x (k + 1)).length ((E4 ++ edK e.co x (k + 1)).flatMap cEd) by rw [edK_succ, HAT.out, ← List.append_assoc, ← HSB.out]; exact HE9.out)
                        have R2 := Lib.hid (show (E4 ++ edK e.co x (k + 1)).length ≤ E4.length + (k + 1) * 2000 by
                          rw [edK_succ, HAT.out, ← List.append_assoc, List.length_append, List.length_map, ← HSB.out, HM7.out]; have := HL8.out; omega)
                        have hw2 : IntKind.i64.wrap ((k : Int) + 1) = ((k + 1 : Nat) : Int) := by rw [IntKind.wrap_i64]; omega
                        clear htk
                        go_wp2
                        go_roundw
                        case rel => exact ⟨k + 1, A6, n6, c6, rfl, by go_num, by omega, R1, HW9, HB9, R2⟩
                        case measure => simp [intOf]; omega
                  · have q1 : (qt != x) = true := by simp [hqx]
                    have hAT : edAt e.co x k = [] := by unfold edAt; rw [hgd]; exact if_neg hqx
                    have R1 := Lib.hid (show w5.ownsRow z 51 2 (.slice A6 n6 c6) (E4 ++ edK e.co x (k + 1)).length ((E4 ++ edK e.co x (k + 1)).flatMap cEd) by rw [edK_succ, hAT, List.append_nil]; exact HE8.out)
                    have R2 := Lib.hid (show (E4 ++ edK e.co x (k + 1)).length ≤ E4.length + (k + 1) * 2000 by rw [edK_succ, hAT, List.append_nil]; have := HL8.out; omega)
                    clear hqx hq hgd m0 u0 hAT
                    go_upto_region 19 with fail
                    go_quiet (fail)
                    clear u0' c0' m4' m0' c0 m4 l0 l1 l2 l3
                    have R3 := Lib.hid (own_drewN R1.out nq)
                    have R4 := Lib.hid (own_drewN HW8.out nq)
                    have R5 := Lib.hid (below_drewN HB8.out nq)
                    go_wp2
                    go_roundw
                    case rel => exact ⟨k + 1, A6, n6, c6, rfl, by go_num, by omega, R3, R4, R5, R2⟩
                    case measure => simp [intOf]; omega
                · have d4 : decide ((k : Int) < (nl : Int)) = false := by simp; omega
                  have d4' : decide (k < nl) = false := by simp; omega
                  have hke : k = e.co.l.length := by have := HNL.out.1; show k = e.l.length; omega
                  have R1 := Lib.hid (show w5.ownsRow z 51 2 (.slice A6 n6 c6) (rEds C (who.take a) ++ edX ((L.take (i + 1)).map Rk.co) x).length ((rEds C (who.take a) ++ edX ((L.take (i + 1)).map Rk.co) x).flatMap cEd) by
                    rw [co_take2 HE.out, ← List.append_assoc, HE4.out]
                    unfold edE
                    rw [← hke]; exact HE8.out)
                  have R2 := Lib.hid (show (rEds C (who.take a) ++ edX ((L.take (i + 1)).map Rk.co) x).length ≤ a * 10000000 + sumL (L.take (i + 1)) * 2000 by
                    rw [co_take2 HE.out, ← List.append_assoc, HE4.out, sumL_take HE.out]
                    unfold edE
                    rw [← hke]
                    have h1 := HL8.out; have h2 := HL7.out; have h3 := HNL.out.1
                    rw [h3, Nat.add_mul]; omega)
                  have hw2 : IntKind.i64.wrap ((i : Int) + 1) = ((i + 1 : Nat) : Int) := by rw [IntKind.wrap_i64]; omega
                  clear hke l0 l1 l2 l3
                  go_wp2
                  go_roundw
                  case rel => exact ⟨i + 1, A6, n6, c6, rfl, by go_num, by omega, R1, HW8, HB8, R2⟩
                  case measure => simp [intOf]; omega
            · have d3 : decide ((i : Int) < (n : Int)) = false := by simp; omega
              have d3' : decide (i < n) = false := by simp; omega
              have htk : L.take i = L := by rw [show i = n by omega, ← HN.out, List.take_length]
              have hs : rEds C (who.take (a + 1)) = rEds C (who.take a) ++ edX C x := take_flat HX.out
              have R1 := Lib.hid (show w4.ownsRow z 51 2 (.slice A6 n6 c6) (rEds C (who.take (a + 1))).length ((rEds C (who.take (a + 1))).flatMap cEd) by
                rw [hs]; have h1 := HE7.out; rw [htk, HC.out] at h1; exact h1)
              have R2 := Lib.hid (show (rEds C (who.take (a + 1))).length ≤ (a + 1) * 10000000 by
                rw [hs]; have h1 := HL7.out; rw [htk, HC.out] at h1; have := HSU.out; omega)
              have hw2 : IntKind.i64.wrap ((a : Int) + 1) = ((a + 1 : Nat) : Int) := by rw [IntKind.wrap_i64]; omega
              clear htk hs
              go_wp2
              go_roundw
              case rel => exact ⟨a + 1, A6, n6, c6, rfl, by go_num, by omega, R1, HW7, HB7, R2⟩
              case measure => simp [intOf]; omega
        · have d2 : decide ((a : Int) < (on : Int)) = false := by simp; omega
          have d2' : decide (a < on) = false := by simp; omega
          have htk : who.take a = who := by rw [show a = on by omega, ← HNW.out.1, List.take_length]
          rw [htk] at HE6
          have HFIN := Lib.hid (show w3.ownsRow z 51 2 (.slice A6 n6 c6) (rEds C (whoL C)).length ((rEds C (whoL C)).flatMap cEd) by rw [HWH.out]; exact HE6.out)
          clear htk
          go_wp2
          go_ret
          exact ⟨_, rfl, HFIN.out, HB6.out⟩
end Go.Proofs.Ytpndcpmfcajmdaa.Lock
namespace Go.Proofs.Ytpndcpmfcajmdaa.Lock
open Go.ChangeShapes Go.WideShapes Go.ChangeAt Go.RowKit Go.IntWalk Go.Proofs.Mem Law Go.Shelf Go.Proofs.Each
set_option linter.unusedVariables false
set_option linter.unusedSimpArgs false
structure Sim (C : List Rc) (T : Tb) : Prop where
  srt : (C.map (·.k)).Pairwise klt
  line : ∀ e ∈ C, (T.ent e.k).line = e.l
  hv : ∀ e ∈ C, ∀ x, (T.ent e.k).hv x = if lkM e.h x = 0 then none else some (lkM e.h x)
  els : ∀ k, (∀ e ∈ C, e.k ≠ k) → (T.ent k).line = [] ∧ ∀ x, (T.ent k).hv x = none
  nd : ∀ e ∈ C, (e.h.map (·.t)).Nodup
  md : ∀ e ∈ C, ∀ p ∈ e.h, p.m = 1 ∨ p.m = 2
theorem sim_T0 : Sim [] T0 := ⟨List.Pairwise.nil, fun e h => (by cases h), fun e h => (by cases h), fun k _ => ⟨rfl, fun _ => rfl⟩, fun e h => (by cases h), fun e h => (by cases h)⟩
theorem lk_mem {h : List Pl} (hm : ∀ p ∈ h, p.m = 1 ∨ p.m = 2) (hn : (h.map (·.t)).Nodup) {x m : Int} : (⟨x, m⟩ : Pl) ∈ h ↔ lkM h x = m ∧ m ≠ 0 := by
  induction h with
  | nil => simp [lkM]; omega
  | cons p h ih =>
    rw [List.map_cons, List.nodup_cons] at hn
    have ih' := ih (fun q hq => hm q (List.mem_cons_of_mem _ hq)) hn.2
    rw [List.mem_cons, lkM]
    by_cases e : p.t = x
    · rw [if_pos e]
      constructor
      · rintro (h1 | h1)
        · rw [← h1]; exact ⟨rfl, by have := hm p (List.mem_cons_self ..); rw [← h1] at this; simp only at this; omega⟩
        · exact absurd (List.mem_map.2 ⟨_, h1, e.symm⟩) hn.1
      · rintro ⟨h1, _⟩
        left
        obtain ⟨a, b⟩ := p
        simp only at e h1
        rw [e, h1]
    · rw [if_neg e, ← ih']
      constructor
      · rintro (h1 | h1)
        · rw [← h1] at e; exact absurd rfl e
        · exact h1
      · exact .inr
theorem lk_zero {h : List Pl} (hm : ∀ p ∈ h, p.m = 1 ∨ p.m = 2) {x : Int} : lkM h x = 0 ↔ ∀ p ∈ h, p.t ≠ x := by
  induction h with
  | nil => simp [lkM]
  | cons p h ih =>
    have ih' := ih (fun q hq => hm q (List.mem_cons_of_mem _ hq))
    have hp := hm p (List.mem_cons_self ..)
    rw [lkM]
    by_cases e : p.t = x
    · rw [if_pos e]
      constructor
      · intro h0; omega
      · intro h0; exact absurd e (h0 p (List.mem_cons_self ..))
    · rw [if_neg e, ih']
      constructor
      · intro h1 q hq
        rcases List.mem_cons.1 hq with h2 | h2
        · rw [h2]; exact e
        · exact h1 q h2
      · exact fun h1 q hq => h1 q (List.mem_cons_of_mem _ hq)
theorem lk_range {h : List Pl} (hm : ∀ p ∈ h, p.m = 1 ∨ p.m = 2) (x : Int) : lkM h x = 0 ∨ lkM h x = 1 ∨ lkM h x = 2 := by
  induction h with
  | nil => exact .inl rfl
  | cons p h ih =>
    rw [lkM]
    split
    · rcases hm p (List.mem_cons_self ..) with e | e
      · exact .inr (.inl e)
      · exact .inr (.inr e)
    · exact ih (fun q hq => hm q (List.mem_cons_of_mem _ hq))
theorem lk_wo {h : List Pl} {x y : Int} : lkM (wo h x) y = if y = x then 0 else lkM h y := by
  induction h with
  | nil => simp [wo, lkM]
  | cons p h ih =>
    by_cases e : p.t = x
    · have h1 : wo (p :: h) x = wo h x := by unfold wo; rw [List.filter_cons, if_neg (by simp [isT, e])]
      rw [h1, ih, lkM]
      by_cases h2 : y = x
      · rw [if_pos h2, if_pos h2]
      · rw [if_neg h2, if_neg h2, if_neg (fun h3 => h2 (h3.symm.trans e))]
    · have h1 : wo (p :: h) x = p :: wo h x := by unfold wo; rw [List.filter_cons, if_pos (by simp [isT, e])]
      rw [h1, lkM, lkM, ih]
      by_cases h2 : y = x
      · rw [if_pos h2, if_pos h2, if_neg (fun h3 => e (h3.trans h2))]
      · rw [if_neg h2, if_neg h2]
theorem lk_app {h : List Pl} {p : Pl} {y : Int} (hm : ∀ q ∈ h, q.m = 1 ∨ q.m = 2) : lkM (h ++ [p]) y = if lkM h y = 0 then (if p.t = y then p.m else 0) else lkM h y := by
  induction h with
  | nil => simp [lkM]
  | cons q h ih =>
    rw [List.cons_append, lkM, lkM, ih (fun r hr => hm r (List.mem_cons_of_mem _ hr))]
    have hq := hm q (List.mem_cons_self ..)
    by_cases e : q.t = y
    · rw [if_pos e, if_pos e, if_neg (by omega)]
    · rw [if_neg e, if_neg e]
theorem wo_md {h : List Pl} (hm : ∀ p ∈ h, p.m = 1 ∨ p.m = 2) (x : Int) : ∀ p ∈ wo h x, p.m = 1 ∨ p.m = 2 := fun p hp => hm p (List.mem_filter.1 hp).1
theorem wo_nd {h : List Pl} (hn : (h.map (·.t)).Nodup) (x : Int) : ((wo h x).map (·.t)).Nodup := hn.sublist (List.filter_sublist.map _)
theorem put_nd {h : List Pl} (hn : (h.map (·.t)).Nodup) (p : Pl) : ((wo h p.t ++ [p]).map (·.t)).Nodup := by
  rw [List.map_append, List.nodup_append]
  refine ⟨wo_nd hn _, by simp, fun a ha b hb e => ?_⟩
  simp at hb
  obtain ⟨q, hq, hqt⟩ := List.mem_map.1 ha
  have := (List.mem_filter.1 hq).2
  simp [isT] at this
  exact this (by rw [hqt, e, hb])
theorem lk_put {h : List Pl} (hm : ∀ q ∈ h, q.m = 1 ∨ q.m = 2) (p : Pl) (y : Int) : lkM (wo h p.t ++ [p]) y = if y = p.t then p.m else lkM h y := by
  rw [lk_app (wo_md hm _), lk_wo]
  by_cases e : y = p.t
  · rw [if_pos e, if_pos rfl, if_pos e, if_pos e.symm]
  · rw [if_neg e, if_neg e]
    split
    · rename_i h0; rw [if_neg (fun h => e h.symm), h0]
    · rfl
def HvR (f : Int → Option Int) (h : List Pl) : Prop := ∀ x, f x = if lkM h x = 0 then none else some (lkM h x)
theorem fit_same {f : Int → Option Int} {h : List Pl} (hr : HvR f h) (hm : ∀ p ∈ h, p.m = 1 ∨ p.m = 2) (hn : (h.map (·.t)).Nodup) {p : Pl} (hp : p.m = 1 ∨ p.m = 2) : fit f p.t p.m = fitR h p := by
  have htog : ∀ a : Int, (a = 1 ∨ a = 2) → (tog a p.m = true ↔ ¬ (a = 2 ∨ p.m = 2)) := fun a ha => by unfold tog; simp; omega
  cases hf : fitR h p with
  | true =>
    refine fit_true fun x md hx => ?_
    rw [hr x] at hx
    split at hx
    · cases hx
    · rename_i h0
      injection hx with hx
      have hmem := (lk_mem hm hn (x := x) (m := md)).2 ⟨hx, by rw [← hx]; exact h0⟩
      have := List.all_eq_true.1 hf _ hmem
      simp only [Bool.or_eq_true, decide_eq_true_eq, Bool.not_eq_true', Bool.or_eq_false_iff, decide_eq_false_iff_not] at this
      rcases this with h1 | h1
      · exact .inl h1
      · right
        rw [htog md (hm _ hmem)]
        rintro (h2 | h2)
        · exact h1.1 h2
        · exact h1.2 h2
  | false =>
    rw [← Bool.not_eq_true] at hf
    unfold fitR at hf
    rw [List.all_eq_true] at hf
    simp only [Classical.not_forall] at hf
    obtain ⟨q, hq, hnq⟩ := hf
    obtain ⟨qt, qm⟩ := q
    simp only [Bool.or_eq_true, decide_eq_true_eq, Bool.not_eq_true', Bool.or_eq_false_iff, decide_eq_false_iff_not, not_or, not_and, Decidable.not_not] at hnq
    obtain ⟨h1, h2⟩ := (lk_mem hm hn).1 hq
    refine fit_false (x := qt) (md := qm) (by rw [hr qt, if_neg (by rw [h1]; exact h2), h1]) hnq.1 ?_
    rw [← Bool.not_eq_true, htog qm (hm _ hq)]
    by_cases h3 : qm = 2
    · exact fun h => h (.inl h3)
    · exact fun h => h (.inr (hnq.2 h3))
theorem hv_put {f : Int → Option Int} {h : List Pl} (hr : HvR f h) (hm : ∀ q ∈ h, q.m = 1 ∨ q.m = 2) {p : Pl} (hp : p.m = 1 ∨ p.m = 2) : HvR (fput f p.t p.m) (wo h p.t ++ [p]) := fun x => by
  rw [lk_put hm]
  unfold fput
  by_cases e : x = p.t
  · rw [if_pos e, if_pos e, if_neg (by omega)]
  · rw [if_neg e, if_neg e]; exact hr x
theorem hv_del {f : Int → Option Int} {h : List Pl} (hr : HvR f h) (t : Int) : HvR (fdel f t) (wo h t) := fun x => by
  rw [lk_wo]
  unfold fdel
  by_cases e : x = t
  · rw [if_pos e, if_pos e]; rfl
  · rw [if_neg e, if_neg e]; exact hr x
theorem wake_same : ∀ (f : Nat) (l : List Pl) (g : Int → Option Int) (h : List Pl), l.length ≤ f → HvR g h → (∀ p ∈ h, p.m = 1 ∨ p.m = 2) → (h.map (·.t)).Nodup → (∀ p ∈ l, p.m = 1 ∨ p.m = 2) → (l.map (·.t)).Nodup →
    HvR (wake g l).1 (wkR f h l).1 ∧ (wake g l).2.1 = (wkR f h l).2.1 ∧ (wake g l).2.2 = (wkR f h l).2.2 ∧ (∀ p ∈ (wkR f h l).1, p.m = 1 ∨ p.m = 2) ∧ ((wkR f h l).1.map (·.t)).Nodup
  | f, [], g, h, _, hr, hm, hn, _, _ => by
    rw [wake_nil, wkR_nil]; exact ⟨hr, rfl, rfl, hm, hn⟩
  | 0, p :: l, g, h, hl, _, _, _, _, _ => by simp at hl
  | f + 1, p :: l, g, h, hl, hr, hm, hn, hlm, hln => by
    have hp := hlm p (List.mem_cons_self ..)
    have hfs := fit_same hr hm hn hp
    rw [List.map_cons, List.nodup_cons] at hln
    have hwo : wo (p :: l) p.t = l := by
      unfold wo
      rw [List.filter_cons, if_neg (by simp [isT])]
      exact List.filter_eq_self.2 fun q hq => by
        simp [isT]
        exact fun e => hln.1 (List.mem_map.2 ⟨q, hq, e⟩)
    cases hf : fit g p.t p.m with
    | true =>
      rw [wake_yes hf, wkR_yes (by rw [← hfs]; exact hf), hwo]
      obtain ⟨a, b, c, d, e⟩ := wake_same f l (fput g p.t p.m) (wo h p.t ++ [p]) (by simp at hl; omega) (hv_put hr hm hp) (fun q hq => by
        rcases List.mem_append.1 hq with h1 | h1
        · exact wo_md hm _ q h1
        · rw [List.mem_singleton.1 h1]; exact hp) (put_nd hn p) (fun q hq => hlm q (List.mem_cons_of_mem _ hq)) hln.2
      exact ⟨a, b, by simp only [c], d, e⟩
    | false =>
      rw [wake_no hf, wkR_no (by rw [← hfs]; exact hf)]
      exact ⟨hr, rfl, rfl, hm, hn⟩
end Go.Proofs.Ytpndcpmfcajmdaa.Lock
