/- The law manciplelaw08.WalBack returns true whatever it is called with, and what it was called with reads as it did. No condition. -/
import Derived.Test.YteggcehjpfmikaaLaw
import Derived.Test.YteggcehjpfmikaaWtL
import Derived.Deep.DeepCutAuto
namespace Go.Proofs.Yteggcehjpfmikaa.LWalBack
open Go.ChangeShapes Go.WideShapes Go.ChangeAt Go.RowKit Go.IntWalk Go.Proofs.Mem Law
set_option linter.unusedVariables false
open Go.Proofs.Yteggcehjpfmikaa.Disk Go.Proofs.Yteggcehjpfmikaa.Wal Go.Proofs.Yteggcehjpfmikaa.Rec Go.Proofs.Each Strip
set_option linter.unusedSimpArgs false
theorem hvy_small {size : Int} {l : List Oq} (h : hvy size l = false) : size ≤ 120 ∧ l.length ≤ 40 := by
  unfold hvy at h
  simp only [Bool.or_eq_false_iff, decide_eq_false_iff_not] at h
  omega
set_option maxRecDepth 100000 in
set_option maxHeartbeats 16000000 in
theorem walk (w : World) (size : Int) (hsize : -9223372036854775808 ≤ size ∧ size ≤ 9223372036854775807) (l : Value) (xl : List Wal.Oq) (hl : SS Wal.cOq 16 w w.heap.size l xl) (bl : ∀ o ∈ xl, Wal.OqAt w w.heap.size o) :
    Calls Try.prog 4 #[.int .i64 size, l] w fun e w' => e = .returned (.bool true) ∧ Below w.heap.size w w' := by
  obtain ⟨A, c, rfl, hlc, hcm⟩ := hl.form
  have hforms : ∀ o ∈ xl, OqF o := fun o ho => (bl o ho).forms
  have CH := Lib.hid (fun W (hb : Below w.heap.size w W) => heavy_any W w.heap.size hb.size size A c xl hlc hcm (hl.below hb) hforms)
  have CK := Lib.hid (fun W => known_any W)
  obtain ⟨q1, hq1⟩ : ∃ q, hvy size xl = q := ⟨_, rfl⟩
  rw [hq1] at CH
  have HQ1 := Lib.hid hq1
  have HL := Lib.hid hl
  have HBL := Lib.hid bl
  have HLC := Lib.hid (And.intro hlc hcm)
  have HW := Lib.hid (Below.refl w.heap.size w)
  clear hl bl hforms hq1 hlc hcm hsize
  cases q1 with
  | true =>
    go_enter Try.func4, Try.ntmps4
    go_wp2_with fail
    (with_reducible refine (CH.out _ HW.out).mono ?_)
    rintro e w2 ⟨rfl, hb2⟩
    have HB2 := Lib.hid (HW.out.trans (hb2.mono HW.out.size))
    clear hb2
    go_wp2_with fail
    (with_reducible refine (CK.out _).mono ?_)
    rintro e w3 ⟨rfl, hb3⟩
    have HB3 := Lib.hid (HB2.out.trans (hb3.mono HB2.out.size))
    clear hb3
    go_wp2
    go_ret
    exact ⟨rfl, HB3.out⟩
  | false =>
    have hsm := hvy_small HQ1.out
    have HSM := Lib.hid hsm
    clear hsm
    go_enter Try.func4, Try.ntmps4
    go_wp2_with fail
    (with_reducible refine (CH.out _ HW.out).mono ?_)
    rintro e w2 ⟨rfl, hb2⟩
    have HB2 := Lib.hid (HW.out.trans (hb2.mono HW.out.size))
    clear hb2
    go_wp2_with fail
    (with_reducible refine (CK.out _).mono ?_)
    rintro e w4 ⟨rfl, hb4⟩
    have HB4 := Lib.hid (HB2.out.trans (hb4.mono HB2.out.size))
    have CR := Lib.hid (run_any w4 size HSM.out.1 A c xl HLC.out.1 HLC.out.2 (((HL.out.below HB4.out).more HB4.out.size)) (fun o ho => ((HBL.out o ho).below HB4.out).more HB4.out.size) HSM.out.2 (-1) (by decide))
    clear hb4
    go_wp2_with fail
    (with_reducible refine CR.out.mono ?_)
    rintro e w5 ⟨T, pb, t, g, fv, D, L, b0, l0, A0, c0, e0, A5, c5, es, rfl, hpl, hb5, hrun⟩
    have HB5 := Lib.hid (HB4.out.trans (hb5.mono HB4.out.size))
    obtain ⟨hn1, hn2⟩ := sizeN_in size HSM.out.1
    obtain ⟨hgd, rs, hok⟩ := run_free hn1 hn2 (fun o ho => (HBL.out o ho).p) HSM.out.2 hrun
    have lv := hok.lv (by have := HSM.out; omega)
    have hlen : es.length = rs.length := by have h1 := congrArg List.length hok.ent.1; rw [List.length_map] at h1; exact h1
    have hmany : rs.length ≤ 4000 := by
      have h2 := strm_many hok.good
      have h3 := lv.nn
      rw [hok.ys] at h3
      omega
    obtain ⟨n, hn⟩ : ∃ n, rs.length = n := ⟨_, rfl⟩
    obtain ⟨ba, hba⟩ : ∃ ba, L.h.ba = ba := ⟨_, rfl⟩
    obtain ⟨en, hen⟩ : ∃ en, ba + ((strm rs).length : Int) = en := ⟨_, rfl⟩
    have HLN := Lib.hid (show es.length = n from hlen.trans hn)
    have HRN := Lib.hid hn
    have HMN := Lib.hid (show n ≤ 4000 by omega)
    have HEN := Lib.hid hen
    have HB45 := Lib.hid (show w4.heap.size ≤ w5.heap.size from by have := hpl.bx.lt; have := hpl.pB; omega)
    have SK := Lib.hid (show ∀ W, Below w5.heap.size w5 W → (W.cell? ⟨pb, 1, none⟩ = some (.pointer (some ⟨t, 0, none⟩)) ∧ W.cell? ⟨pb, 7, none⟩ = some (.slice A5 n c5)) from fun W hb => ⟨(hpl.bx.later hb).cell 1, by have := (hpl.bx.later hb).cell 7; rw [← hn, ← hlen]; exact this⟩)
    have BS5 := Lib.hid (show Calls Try.prog 19 #[.pointer (some ⟨t, 0, none⟩)] w5 (fun e w' => e = .returned (.int .u64 ba) ∧ w5 = w') from by rw [← hba]; exact base_lg hpl.lg)
    have EN5 := Lib.hid (fun W (hb : Below w5.heap.size w5 W) => by have := end_lg (hpl.lg.later hb) lv; rw [hba, hok.ys, hen] at this; exact this)
    have CE5 := Lib.hid (fun W (hb : Below w5.heap.size w5 W) => by have := entries_all (hpl.lg.later hb) lv rs hok.ys hok.ss hok.good; rw [hba] at this; exact this)
    have RD := Lib.hid (fun W (hb : Below w5.heap.size w5 W) (k : Nat) (hk : k < rs.length) => by have := read_back (hpl.lg.later hb) lv rs hok.ys hok.ss hok.good k hk; rw [hba] at this; exact this)
    have HEO := Lib.hid (show EsOk ba rs es by rw [← hba]; exact hok.ent)
    have HGR := Lib.hid hok.good
    have HA5 := Lib.hid hpl.a1
    have CS9 := Lib.hid (fun W (hb : Below w5.heap.size w5 W) (A : Option Addr) (c : Nat) (el : List Ent) (heo : EsOk ba rs el) (w0 : Nat) (hrow : W.ownsRow w0 58 13 (.slice A el.length c) el.length (el.flatMap cEnt)) (hin : ∀ x ∈ el, EntO W w0 (.slice A el.length c) x) => (by
      have h := same_entries W A A5 c c5 el es (SS.of_own cEnt_len hrow) (SS.of_own cEnt_len (own_below HA5.out.own hb)) (fun x hx => (hin x hx).o.in_) (fun x hx => by have h := (HA5.out.inn x hx).below (hb.mono HB45.out); have hl := Nat.le_trans HB45.out hb.size; exact ⟨h.a.more hl, h.b.more hl, h.t.more hl, h.d.more hl⟩) (fun x hx => by
        have : x.r ∈ rs := by rw [← heo.1]; exact List.mem_map_of_mem hx
        exact (HGR.out _ this).1) (by rw [heo.1, HEO.out.1]) (by rw [heo.2, HEO.out.2]) (by
        have h1 := congrArg List.length heo.1
        rw [List.length_map] at h1
        have := HMN.out
        have := HRN.out
        omega)
      rw [HLN.out] at h
      exact h))
    obtain ⟨k1, k7⟩ := SK.out w5 (Below.refl _ _)
    clear hpl hb5 hrun hgd hok lv hn1 hn2 hlen hmany hn hba hen
    go_wp2_with fail
    (with_reducible refine BS5.out.mono ?_)
    rintro e w6 ⟨rfl, rfl⟩
    go_wp2
    go_loopw [6, 8] (fun s6 s8 wr => ∃ k : Nat, s6 = .int .u64 (ba + ((strm (rs.take k)).length : Nat)) ∧ s8 = .int .i64 k ∧ k ≤ n ∧ Hid (Below w5.heap.size w5 wr)) (fun _ s8 _ => n - (intOf s8).toNat)
    case atStart => exact ⟨0, by simp [strm], rfl, Nat.zero_le _, Lib.hid (Below.refl _ _)⟩
    case round =>
      obtain ⟨k, rfl, rfl, hk, HB⟩ := hrel
      obtain ⟨wa, rfl⟩ : ∃ wa, wa = wr := ⟨wr, rfl⟩
      obtain ⟨q1, q7⟩ := SK.out wa HB.out
      by_cases hlt : k < n
      · have d1 : decide ((k : Int) < (n : Int)) = true := decide_eq_true (by omega)
        have d1' : decide (k < n) = true := decide_eq_true hlt
        have a0 : (0 : Int) ≤ (k : Int) := by omega
        have a1 : (k : Int) < (n : Int) := by omega
        have p3 : IntKind.i64.wrap ((k : Int) + 1) = (k : Int) + 1 := IntWalk.i64_in _ (by have := HMN.out; omega)
        have hkr : k < rs.length := by rw [HRN.out]; exact hlt
        have RDk := RD.out wa HB.out k hkr
        have hmn : (strm (rs.take k)).length < (strm (rs.take (k + 1))).length := strm_lt HGR.out (Nat.lt_succ_self k) hkr
        obtain ⟨y, hy⟩ : ∃ y, es[k]? = some y := ⟨_, List.getElem?_eq_getElem (by rw [HLN.out]; exact hlt)⟩
        have hyr : y.r = rs[k]'hkr := by
          have h := congrArg (·[k]?) HEO.out.1
          simp only [List.getElem?_map, hy, Option.map_some, List.getElem?_eq_getElem hkr] at h
          exact Option.some.inj h
        have hyl : y.lsn = ba + ((strm (rs.take k)).length : Nat) := by
          have h := congrArg (·[k]?) HEO.out.2
          simp only [List.getElem?_map, hy, Option.map_some] at h
          have hb2 : k < (begs rs).length := by rw [begs_len]; exact hkr
          rw [List.getElem?_eq_getElem hb2, Option.map_some] at h
          have h3 := begs_getD rs k hkr
          rw [List.getD_eq_getElem?_getD, List.getElem?_eq_getElem hb2, Option.getD_some] at h3
          rw [Option.some.inj h, h3]
        obtain ⟨s, hs⟩ : ∃ s, (strm (rs.take k)).length = s := ⟨_, rfl⟩
        obtain ⟨m, hm⟩ : ∃ m, (strm (rs.take (k + 1))).length = m := ⟨_, rfl⟩
        obtain ⟨rr, hrr⟩ : ∃ rr, rs[k]'hkr = rr := ⟨_, rfl⟩
        have hok : rr.Ok := by rw [← hrr]; exact (HGR.out _ (List.getElem_mem hkr)).1
        rw [hs, hm, hrr] at RDk
        rw [hs] at hmn hyl
        rw [hm] at hmn
        rw [hrr] at hyr
        rw [hs]
        have d5 : decide (ba + (m : Int) ≤ ba + (s : Int)) = false := decide_eq_false (by omega)
        have d6 : decide ((m : Int) ≤ (s : Int)) = false := decide_eq_false (by omega)
        have d7 : decide (m ≤ s) = false := decide_eq_false (by omega)
        have HM := Lib.hid hm
        have HRD := Lib.hid RDk
        have HY := Lib.hid (And.intro hy (And.intro hyr hyl))
        have HOKR := Lib.hid hok
        have HLT := Lib.hid hlt
        have ssA : ∀ W, Below w5.heap.size w5 W → SS cEnt 13 W W.heap.size (.slice A5 es.length c5) es := fun W hb => SS.of_own cEnt_len (own_below HA5.out.own hb)
        obtain ⟨b2, o2, hA5, hb2, _⟩ := ent_cells (ssA w5 (Below.refl _ _)) hy
        have HC := Lib.hid (show ∀ W, Below w5.heap.size w5 W → ∀ j u, (cEnt y)[j]? = some u → W.cell? ⟨b2, o2 + k * 13 + j, none⟩ = some u from fun W hb j u hu => by
          obtain ⟨b', o', e, _, hc⟩ := ent_cells (ssA W hb) hy
          rw [hA5] at e
          injection e with e
          injection e with g1 g2
          subst g1 g2
          exact hc j u hu)
        clear RDk hmn hy hyr hyl hm hok hk hlt ssA k1 k7
        subst hA5
        go_wp2_with fail
        (with_reducible refine HRD.out.mono ?_)
        rintro er w3 ⟨va, vb, vt, vd, rfl, ho3, hb3⟩
        obtain ⟨B1, k1, e1, _, _⟩ := ho3.in_.a.form
        obtain ⟨B2, k2, e2, _, _⟩ := ho3.in_.b.form
        obtain ⟨B3, k3, e3, _, _⟩ := ho3.in_.t.form
        obtain ⟨B4, k4, e4, _, _⟩ := ho3.in_.d.form
        subst e1 e2 e3 e4
        have HB3 := Lib.hid (HB.out.trans (hb3.mono HB.out.size))
        have HO3 := Lib.hid ho3
        clear ho3 hb3 q1 q7
        go_upto_region 12 with fail
        have XB := Box.new w3 #[.int .u8 rr.k, .int .u32 rr.t, .int .u64 rr.p, .int .u64 rr.n, .int .u32 rr.c.pg, .int .u16 rr.c.sl, .bool rr.c.had, .bool rr.c.has, .slice B1 rr.c.xs.length k1, .slice B2 rr.c.ys.length k2, .slice B3 rr.ts.length k3, .slice B4 rr.ds.length k4] 54
        have bb := new_ (Below.refl w3.heap.size w3) (.cells #[.int .u8 rr.k, .int .u32 rr.t, .int .u64 rr.p, .int .u64 rr.n, .int .u32 rr.c.pg, .int .u16 rr.c.sl, .bool rr.c.had, .bool rr.c.has, .slice B1 rr.c.xs.length k1, .slice B2 rr.c.ys.length k2, .slice B3 rr.ts.length k3, .slice B4 rr.ds.length k4] 54)
        obtain ⟨z, hz⟩ : ∃ z, w3.heap.size = z := ⟨_, rfl⟩
        obtain ⟨w7, hw7⟩ : ∃ W, w3.alloc (.cells #[.int .u8 rr.k, .int .u32 rr.t, .int .u64 rr.p, .int .u64 rr.n, .int .u32 rr.c.pg, .int .u16 rr.c.sl, .bool rr.c.had, .bool rr.c.has, .slice B1 rr.c.xs.length k1, .slice B2 rr.c.ys.length k2, .slice B3 rr.ts.length k3, .slice B4 rr.ds.length k4] 54) = W := ⟨_, rfl⟩
        rw [hw7] at XB bb ⊢
        rw [hz] at XB ⊢
        have HO7 := Lib.hid ((HO3.out.later bb.drew).in_)
        have HB7 := Lib.hid (show Below w5.heap.size w5 w7.drew from (HB3.out.trans (bb.mono HB3.out.size)).drew)
        have HX7 := Lib.hid (show Box w7.drew z #[.int .u8 rr.k, .int .u32 rr.t, .int .u64 rr.p, .int .u64 rr.n, .int .u32 rr.c.pg, .int .u16 rr.c.sl, .bool rr.c.had, .bool rr.c.has, .slice B1 rr.c.xs.length k1, .slice B2 rr.c.ys.length k2, .slice B3 rr.ts.length k3, .slice B4 rr.ds.length k4] 54 from XB.drew)
        clear hw7 hz bb XB
        have SKC := Lib.hid (show ∀ W, Below w7.drew.heap.size w7.drew W → (W.cell? ⟨b2, o2 + k * 13, none⟩ = some (.int .u64 (ba + (s : Int))) ∧ W.cell? ⟨z, 0, none⟩ = some (.int .u8 rr.k) ∧ W.cell? ⟨z, 1, none⟩ = some (.int .u32 rr.t) ∧ W.cell? ⟨z, 2, none⟩ = some (.int .u64 rr.p) ∧ W.cell? ⟨z, 3, none⟩ = some (.int .u64 rr.n) ∧ W.cell? ⟨z, 4, none⟩ = some (.int .u32 rr.c.pg) ∧ W.cell? ⟨z, 5, none⟩ = some (.int .u16 rr.c.sl) ∧ W.cell? ⟨z, 6, none⟩ = some (.bool rr.c.had) ∧ W.cell? ⟨z, 7, none⟩ = some (.bool rr.c.has) ∧ W.cell? ⟨z, 8, none⟩ = some (.slice B1 rr.c.xs.length k1) ∧ W.cell? ⟨z, 9, none⟩ = some (.slice B2 rr.c.ys.length k2) ∧ W.cell? ⟨z, 10, none⟩ = some (.slice B3 rr.ts.length k3) ∧ W.cell? ⟨z, 11, none⟩ = some (.slice B4 rr.ds.length k4) ∧ W.cell? ⟨b2, o2 + k * 13 + 1, none⟩ = some (.int .u8 y.r.k) ∧ W.cell? ⟨b2, o2 + k * 13 + 1 + 1, none⟩ = some (.int .u32 y.r.t) ∧ W.cell? ⟨b2, o2 + k * 13 + 1 + 2, none⟩ = some (.int .u64 y.r.p) ∧ W.cell? ⟨b2, o2 + k * 13 + 1 + 3, none⟩ = some (.int .u64 y.r.n) ∧ W.cell? ⟨b2, o2 + k * 13 + 1 + 4, none⟩ = some (.int .u32 y.r.c.pg) ∧ W.cell? ⟨b2, o2 + k * 13 + 1 + 5, none⟩ = some (.int .u16 y.r.c.sl) ∧ W.cell? ⟨b2, o2 + k * 13 + 1 + 6, none⟩ = some (.bool y.r.c.had) ∧ W.cell? ⟨b2, o2 + k * 13 + 1 + 7, none⟩ = some (.bool y.r.c.has) ∧ W.cell? ⟨b2, o2 + k * 13 + 1 + 8, none⟩ = some (y.va) ∧ W.cell? ⟨b2, o2 + k * 13 + 1 + 9, none⟩ = some (y.vb) ∧ W.cell? ⟨b2, o2 + k * 13 + 1 + 10, none⟩ = some (y.vt) ∧ W.cell? ⟨b2, o2 + k * 13 + 1 + 11, none⟩ = some (y.vd)) from fun W hb => by
          have h5 := HB7.out.trans (hb.mono HB7.out.size)
          have x := (HX7.out.later hb).cell
          exact ⟨(HC.out W h5 0 _ rfl).trans (by rw [HY.out.2.2]), x 0, x 1, x 2, x 3, x 4, x 5, x 6, x 7, x 8, x 9, x 10, x 11, HC.out W h5 1 _ rfl, HC.out W h5 2 _ rfl, HC.out W h5 3 _ rfl, HC.out W h5 4 _ rfl, HC.out W h5 5 _ rfl, HC.out W h5 6 _ rfl, HC.out W h5 7 _ rfl, HC.out W h5 8 _ rfl, HC.out W h5 9 _ rfl, HC.out W h5 10 _ rfl, HC.out W h5 11 _ rfl, HC.out W h5 12 _ rfl⟩)
        have K0 := Lib.hid (SKC.out _ (Below.refl _ _))
        have CSM := Lib.hid (show Calls Try.prog 21 #[.agg (rcV rr (.slice B1 rr.c.xs.length k1) (.slice B2 rr.c.ys.length k2) (.slice B3 rr.ts.length k3) (.slice B4 rr.ds.length k4)), .agg (rcV y.r y.va y.vb y.vt y.vd)] w7.drew (fun er w' => er = .returned (.bool true) ∧ Below w7.drew.heap.size w7.drew w') from by
          have h := (HA5.out.inn y (List.mem_of_getElem? HY.out.1)).below (HB7.out.mono HB45.out)
          have hl := Nat.le_trans HB45.out HB7.out.size
          have hi : RcIn w7.drew w7.drew.heap.size y.r y.va y.vb y.vt y.vd := ⟨h.a.more hl, h.b.more hl, h.t.more hl, h.d.more hl⟩
          exact (same_any_rc rr y.r HOKR.out (by rw [HY.out.2.1]; exact HOKR.out) _ _ _ _ _ _ _ _ w7.drew w7.drew.heap.size (Nat.le_refl _) HO7.out hi).mono (fun er w' ⟨q, h1, h2, h3⟩ => ⟨by rw [h1, h2.2 HY.out.2.1.symm], h3⟩))
        go_region_held3 (fun W => W.cell? ⟨b2, o2 + k * 13, none⟩ = some (.int .u64 (ba + (s : Int))) ∧ W.cell? ⟨z, 0, none⟩ = some (.int .u8 rr.k) ∧ W.cell? ⟨z, 1, none⟩ = some (.int .u32 rr.t) ∧ W.cell? ⟨z, 2, none⟩ = some (.int .u64 rr.p) ∧ W.cell? ⟨z, 3, none⟩ = some (.int .u64 rr.n) ∧ W.cell? ⟨z, 4, none⟩ = some (.int .u32 rr.c.pg) ∧ W.cell? ⟨z, 5, none⟩ = some (.int .u16 rr.c.sl) ∧ W.cell? ⟨z, 6, none⟩ = some (.bool rr.c.had) ∧ W.cell? ⟨z, 7, none⟩ = some (.bool rr.c.has) ∧ W.cell? ⟨z, 8, none⟩ = some (.slice B1 rr.c.xs.length k1) ∧ W.cell? ⟨z, 9, none⟩ = some (.slice B2 rr.c.ys.length k2) ∧ W.cell? ⟨z, 10, none⟩ = some (.slice B3 rr.ts.length k3) ∧ W.cell? ⟨z, 11, none⟩ = some (.slice B4 rr.ds.length k4) ∧ W.cell? ⟨b2, o2 + k * 13 + 1, none⟩ = some (.int .u8 y.r.k) ∧ W.cell? ⟨b2, o2 + k * 13 + 1 + 1, none⟩ = some (.int .u32 y.r.t) ∧ W.cell? ⟨b2, o2 + k * 13 + 1 + 2, none⟩ = some (.int .u64 y.r.p) ∧ W.cell? ⟨b2, o2 + k * 13 + 1 + 3, none⟩ = some (.int .u64 y.r.n) ∧ W.cell? ⟨b2, o2 + k * 13 + 1 + 4, none⟩ = some (.int .u32 y.r.c.pg) ∧ W.cell? ⟨b2, o2 + k * 13 + 1 + 5, none⟩ = some (.int .u16 y.r.c.sl) ∧ W.cell? ⟨b2, o2 + k * 13 + 1 + 6, none⟩ = some (.bool y.r.c.had) ∧ W.cell? ⟨b2, o2 + k * 13 + 1 + 7, none⟩ = some (.bool y.r.c.has) ∧ W.cell? ⟨b2, o2 + k * 13 + 1 + 8, none⟩ = some (y.va) ∧ W.cell? ⟨b2, o2 + k * 13 + 1 + 9, none⟩ = some (y.vb) ∧ W.cell? ⟨b2, o2 + k * 13 + 1 + 10, none⟩ = some (y.vt) ∧ W.cell? ⟨b2, o2 + k * 13 + 1 + 11, none⟩ = some (y.vd))
          (first | with_reducible exact K0.out | with_reducible exact K1.out | (go_split_ands; first | with_reducible exact K0.out | with_reducible exact K1.out))
          (first
          | (go_at_call 21; (with_reducible refine CSM.out.mono ?_); rintro er w8 ⟨rfl, hb8⟩; have HB8 := Lib.hid (HB7.out.trans (hb8.mono HB7.out.size)); have K1 := Lib.hid (SKC.out _ hb8); clear hb8))
        all_goals go_wp2
        all_goals exact ⟨⟨k + 1, by rw [HM.out], by rfl, by have := HLT.out; omega, HB8⟩, by have := HLT.out; simp [intOf]; omega⟩
      · have d1 : decide ((k : Int) < (n : Int)) = false := decide_eq_false (by omega)
        have d1' : decide (k < n) = false := decide_eq_false hlt
        have hkn : k = n := by omega
        have hend : ba + ((strm (rs.take k)).length : Nat) = en := by rw [hkn, ← HRN.out, List.take_length]; exact HEN.out
        rw [hend]
        clear hk hlt hkn hend k1 k7
        go_wp2_with fail
        (with_reducible refine (EN5.out _ HB.out).mono ?_)
        rintro er wx ⟨rfl, rfl⟩
        go_wp2_with fail
        (with_reducible refine (CE5.out _ HB.out).mono ?_)
        rintro er w10 ⟨A10, c10, el, rfl, heo, hrow, hin, hb10⟩
        have HB10 := Lib.hid (HB.out.trans (hb10.mono HB.out.size))
        have CSE := Lib.hid (CS9.out _ HB10.out A10 c10 el heo _ hrow hin)
        clear heo hrow hin hb10 q1 q7
        go_wp2_with fail
        (with_reducible refine CSE.out.mono ?_)
        rintro er w11 ⟨rfl, hb11⟩
        have HB11 := Lib.hid (HB10.out.trans (hb11.mono HB10.out.size))
        clear hb11
        go_wp2
        go_ret
        exact ⟨rfl, HB5.out.trans (HB11.out.mono HB5.out.size)⟩


set_option maxRecDepth 100000 in
theorem lifted (os : Os) (started : os.Started) (H : Type) (enc : TypeId × Value → H) :
    ReturnsInHanded {} Try.checked os 4 .any (Rows.walBackSpec.pre6 enc Try.prog Try.f4 Rows.walBackRow.domain false) (Rows.walBackSpec.post enc Try.prog Try.f4 false true false false) := by
  refine returnsInHanded_of_change (C := Try.checked) own started (by kernel_rfl) Try.func4
    (ChangeSpec.witness6 (enc := enc) (C := Try.checked) false ⟨#[], #[.int .i64 0, .slice none 0 0], []⟩ 8 (by kernel_rfl) (by kernel_rfl) (by kernel_rfl) (by kernel_rfl)) ?_
  intro W base args ds gs before hval0 hW hcnd _
  have hval : ∀ (j : Nat) t v, Try.f4.params[j]? = some t → args[j]? = some v → Value.okWide Try.prog W .any base t v := hval0
  have hW' := hW
  obtain ⟨p, q, hA0, hV, rfl, hfz, hnd⟩ := hW
  have hA1 : DataW.TrodAll enc Try.prog W 0 (fun _ => true) true Try.f4.params.toList args.toList ds p := hA0
  have hA := hA1
  rw [Try.params4] at hA hval
  obtain ⟨v0, vs0, d0, ds0, p0, q0, hargs, rfl, rfl, h0, r0⟩ := trodAll_cons hA
  obtain ⟨v1, vs1, d1, ds1, p1, q1, rfl, rfl, rfl, h1, r1⟩ := trodAll_cons r0
  obtain ⟨rfl, rfl, rfl⟩ := trodAll_nil r1
  obtain rfl : args = #[v0, v1] := by cases args; simp_all
  obtain ⟨rfl, rfl⟩ := trodVars_none hV
  obtain ⟨size, rfl, rfl, rfl, wf0⟩ := open_int Try.underlying3 (hval 0 3 v0 rfl rfl) h0
  obtain ⟨xl, i1, wf1⟩ := Wal.open_oqs (hval 1 22 v1 rfl rfl) h1
  clear hA0 hval0
  refine (walk W size (bounds_i64 wf0) v1 xl i1 wf1).mono fun e W' ⟨he, bel⟩ => ?_
  subst he
  exact ⟨_, rfl, _, _, _, [], _, [], hW', trodAll_mk1 (shut_bool Try.underlying4 _), args_again laidOut bel (by kernel_rfl) hA1, rfl, bel.frame _, fun h => by cases h⟩

theorem over : Rows.walBackRow.holds Try.pinned (OpenSpec.ofChange Rows.walBackSpec) :=
  OpenClaim.holds_of_wide 4 Try.f4 rfl rfl rfl rfl rfl rfl rfl ⟨rfl, rfl, rfl, rfl, rfl⟩ rfl rfl rfl rfl rfl (by kernel_rfl) Try.func4 (by kernel_rfl)
    (of_decide_eq_true (by kernel_rfl)) (by unfold Func.isWrapper; first | (rw [if_pos (by decide +kernel)]; kernel_rfl) | (rw [if_neg (by decide +kernel)]; exact ⟨rfl, rfl⟩))
    (fun os started H enc _ => lifted os started H enc)

theorem proved : Rows.WalBackSaid := over
end Go.Proofs.Yteggcehjpfmikaa.LWalBack
