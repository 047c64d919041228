/- The law manciplelaw05.DiskOpens returns true whatever it is called with, and what it was called with reads as it did. No condition. -/
import Derived.Test.YtplombkpefacgaaLaw
import Derived.Test.YtplombkpefacgaaDlF
import Derived.Deep.RegionWith
import Derived.Outline
namespace Go.Proofs.Ytplombkpefacgaa.LDiskOpens
open Go.ChangeShapes Go.WideShapes Go.ChangeAt Go.RowKit Go.IntWalk Go.Proofs.Mem Law
set_option linter.unusedVariables false
open Go.Proofs.Ytplombkpefacgaa.Disk Go.Proofs.Each
set_option linter.unusedSimpArgs false
/-- an owned list of owned rows of 128 bytes each: what is written to them leaves it so -/
structure OX (w : World) (base top : Nat) (v : Value) (us : List Value) : Prop where
  outer : w.ownsRow base 30 1 v us.length us
  row : ∀ u ∈ us, (∃ xs : List Int, xs.length = 128 ∧ w.ownsRow base 5 1 u xs.length (xs.map (.int .u8))) ∧ ∀ g, u.ownBlock = some g → g < top
theorem OX.later {w w' : World} {base top : Nat} {v : Value} {us : List Value} (h : OX w base top v us) (hb : Below w.heap.size w w') : OX w' base top v us :=
  ⟨own_below h.outer hb, fun u hu => by obtain ⟨⟨xs, h1, h2⟩, h3⟩ := h.row u hu; exact ⟨⟨xs, h1, own_below h2 hb⟩, h3⟩⟩
/-- block g is one of the rows' -/
def isRow (us : List Value) (g : Nat) : Prop := ∃ u ∈ us, u.ownBlock = some g
theorem OX.put {w : World} {base top : Nat} {v : Value} {us : List Value} (h : OX w base top v us) {g : Nat} (hg : isRow us g) (y : Int) : OX (w.setCell ⟨g, 0, none⟩ (.int .u8 y)) base top v us := by
  obtain ⟨u0, hu0, e0⟩ := hg
  obtain ⟨⟨xs0, hl0, ho0⟩, _⟩ := h.row u0 hu0
  refine ⟨own_set_far' h.outer (p := ⟨g, 0, none⟩) (fun e => own_apart ho0 h.outer (by decide) g e0 e) _, fun u hu => ?_⟩
  obtain ⟨⟨xs, hl, ho⟩, ht⟩ := h.row u hu
  refine ⟨?_, ht⟩
  by_cases hb : u.ownBlock = some g
  · obtain ⟨g', row, _, _⟩ := RowAt.of_own ho (by omega)
    obtain ⟨cap, e⟩ := row.form
    rw [e] at hb
    injection hb with hb
    simp only at hb
    subst hb
    exact ⟨xs.set 0 y, by rw [List.length_set]; exact hl, (row.put 0 y).own⟩
  · exact ⟨xs, hl, own_set_far' ho (p := ⟨g, 0, none⟩) hb _⟩
theorem OX.frozen_ {w : World} {base top : Nat} {v : Value} {us : List Value} (h : OX w base top v us) {g : Nat} (hg : isRow us g) : w.frozen? ⟨g, 0, none⟩ = false := by
  obtain ⟨u, hu, e0⟩ := hg
  obtain ⟨⟨xs, hl, ho⟩, ht⟩ := h.row u hu
  obtain ⟨g', row, _, _⟩ := RowAt.of_own ho (by omega)
  obtain ⟨cap, e⟩ := row.form
  rw [e] at e0
  injection e0 with e0
  simp only at e0
  subst e0
  exact row_frozen row 0
theorem OX.at_ {w : World} {base top : Nat} {v : Value} {us : List Value} (h : OX w base top v us) (i : Nat) (hi : i < us.length) :
    ∃ go cap g c z, v = .slice (some ⟨go, 0, none⟩) us.length cap ∧ w.cell? ⟨go, i, none⟩ = some (.slice (some ⟨g, 0, none⟩) 128 c) ∧ w.cell? ⟨g, 0, none⟩ = some (.int .u8 z) ∧ go < w.heap.size ∧ (base ≤ g ∧ g < w.heap.size ∧ g < top) ∧ us.length ≤ cap ∧ isRow us g := by
  obtain ⟨⟨xs, hl, ho⟩, ht⟩ := h.row us[i] (List.getElem_mem hi)
  obtain ⟨g, row, hg1, hg2⟩ := RowAt.of_own ho (by omega)
  obtain ⟨c, e⟩ := row.form
  have hgo : us[i].ownBlock = some g := by rw [e]; rfl
  rcases h.outer.2 with ⟨_, hn⟩ | ⟨go, cap, cur, rfl, hb, hgg, h1, h2, h3, h4⟩
  · omega
  · have hbx : Box w go cur 30 := hgg
    refine ⟨go, cap, g, c, xs.getD 0 0, rfl, ?_, row_cell row 0 (by omega), hbx.lt, ⟨hg1, hg2, ht g hgo⟩, h1, us[i], List.getElem_mem hi, hgo⟩
    rw [hbx.cell]
    have := congrArg (fun z => z[i]?) h4
    simp only [Nat.mul_one, List.getElem?_take, hi, if_true] at this
    rw [← Array.getElem?_toList, this, List.getElem?_eq_getElem hi, e, hl]
theorem OX.of_or {w : World} {base top : Nat} {v : Value} {us : List Value} {xss : List (List Int)} (h : OR w base top v us xss) (hx : ∀ xs ∈ xss, xs.length = 128) : OX w base top v us :=
  ⟨h.outer, fun u hu => by
    obtain ⟨i, hi, rfl⟩ := List.mem_iff_getElem.1 hu
    have hix : i < xss.length := by rw [← h.n]; exact hi
    obtain ⟨h1, h2⟩ := h.row i _ _ (List.getElem?_eq_getElem hi) (List.getElem?_eq_getElem hix)
    exact ⟨⟨_, hx _ (List.getElem_mem hix), h1⟩, h2⟩⟩
theorem OX.of_tab {w : World} {base top : Nat} {v : Value} {l : List Rw} (h : Tab 5 30 w base top v l) (hx : ∀ p ∈ l, p.2.2.length = 128) : OX w base top v (l.map (·.2.1)) :=
  ⟨by rw [List.length_map]; exact h.outer, fun u hu => by
    obtain ⟨p, hp, rfl⟩ := List.mem_map.1 hu
    obtain ⟨hr, ht⟩ := h.rows p hp
    obtain ⟨cap, e⟩ := hr.form
    exact ⟨⟨_, hx p hp, hr.own⟩, fun g hg => by rw [e] at hg; injection hg with hg; simp only at hg; rw [← hg]; exact ht⟩⟩
theorem zip_snd (us : List Value) (xss : List (List Int)) (h : us.length = xss.length) : (us.zip xss).map (·.2) = xss := by
  have := List.map_snd_zip (l₁ := us) (l₂ := xss) (by omega)
  exact this
theorem pq_opens {w5 w6 w7 : World} {b B0 top base : Nat} {D : Dv} (h1 : OutA w5 w6 D) (h2 : OutB w6 w7 b D) (hB : B0 ≤ w5.heap.size) (ht : top ≤ w5.heap.size) (hbl : Below w6.heap.size w6 w7) : Pq (fun x => base ≤ x ∧ x < top) B0 w7 w5.heap.size b D D := by
  obtain ⟨ca, fa, ua, ha, hb1⟩ := h1
  obtain ⟨hbb, cb, fb, ub, hb⟩ := h2
  have s1 := hb1.size
  have s2 := hbl.size
  refine ⟨fun x hx => by omega, by omega, newS w5 w6, newS w6 w7, ca, fa, ua, cb, fb, ub, ha.later hbl, hb, fun x hx hy => ?_, fun x hx => ⟨by have := hx.1; omega, fun h => by have := hx.1; omega⟩, fun x hx => ⟨by have := hx.1; omega, fun h => by have := hx.1; omega⟩⟩
  have := hx.2; have := hy.1; omega
theorem opT_few (X : Nat → List (List Int)) : (opT X 2 0).Few 0 := fun k hk s hs => by
  have e : (opT X 2 0).f k = (X k).map bare := by unfold opT; simp only; rw [if_pos hk]
  rw [e] at hs
  obtain ⟨xs, _, rfl⟩ := List.mem_map.1 hs
  exact Nat.le_refl _
theorem opT_last (X : Nat → List (List Int)) (k : Nat) (hk : k < 2) : ((opT X 2 0).f k).map (·.last) = X k := by
  have e : (opT X 2 0).f k = (X k).map bare := by unfold opT; simp only; rw [if_pos hk]
  rw [e, List.map_map]
  exact List.map_id _
theorem ok_dec (X : Nat → List (List Int)) : ∃ q : Bool, q = true ↔ okX X := by
  by_cases h : okX X
  · exact ⟨true, ⟨fun _ => h, fun _ => rfl⟩⟩
  · exact ⟨false, ⟨(fun x => by cases x), fun x => absurd x h⟩⟩
set_option maxRecDepth 100000 in
set_option maxHeartbeats 16000000 in
theorem walk (w : World) (pa : Value) (xpa : List (Value × List Int)) (hpa : SR w w.heap.size pa xpa) (pb : Value) (xpb : List (Value × List Int)) (hpb : SR w w.heap.size pb xpb) :
    Calls Try.prog 4 #[pa, pb] w fun e w' => e = .returned (.bool true) ∧ Below w.heap.size w w' := by
  obtain ⟨q1, hq1⟩ := Blk.fit_dec 40 xpa
  obtain ⟨q2, hq2⟩ := Blk.fit_dec 40 xpb
  have S1 := Lib.hid (Blk.sectors_any pa xpa w w.heap.size hpa 40 (by decide) q1 hq1)
  have S2 := Lib.hid (Blk.sectors_any pb xpb w w.heap.size hpb 40 (by decide) q2 hq2)
  have HPA := Lib.hid hpa
  have HPB := Lib.hid hpb
  have HQ1 := Lib.hid hq1
  have HQ2 := Lib.hid hq2
  clear hpa hpb hq1 hq2
  go_enter Try.func4, Try.ntmps4
  cases q1
  case false =>
    go_wp2_with (first
      | (go_at_call 15; (with_reducible refine S1.out.mono ?_); rintro e w1 ⟨rfl, rfl⟩)
      | (go_at_call 15; (with_reducible refine S2.out.mono ?_); rintro e w1 ⟨rfl, rfl⟩)
      | (go_at_call 10; (with_reducible refine (known_any _).mono ?_); rintro e w3 ⟨rfl, hb3⟩; have HB3 := Lib.hid hb3; clear hb3)
      | fail)
    go_ret
    exact ⟨rfl, HB3.out⟩
  cases q2
  case false =>
    go_wp2_with (first
      | (go_at_call 15; (with_reducible refine S1.out.mono ?_); rintro e w1 ⟨rfl, rfl⟩)
      | (go_at_call 15; (with_reducible refine S2.out.mono ?_); rintro e w1 ⟨rfl, rfl⟩)
      | (go_at_call 10; (with_reducible refine (known_any _).mono ?_); rintro e w3 ⟨rfl, hb3⟩; have HB3 := Lib.hid hb3; clear hb3)
      | fail)
    go_ret
    exact ⟨rfl, HB3.out⟩
  have FA := Lib.hid (show ((xpa.length : Int) ≤ 40) ∧ ∀ (k : Nat) (p : Value × List Int), xpa[k]? = some p → p.2.length ≤ 200 from HQ1.out.1 rfl)
  have FB := Lib.hid (show ((xpb.length : Int) ≤ 40) ∧ ∀ (k : Nat) (p : Value × List Int), xpb[k]? = some p → p.2.length ≤ 200 from HQ2.out.1 rfl)
  go_wp2_with (first
      | (go_at_call 15; (with_reducible refine S1.out.mono ?_); rintro e w1 ⟨rfl, rfl⟩)
      | (go_at_call 15; (with_reducible refine S2.out.mono ?_); rintro e w1 ⟨rfl, rfl⟩)
      | (go_at_call 10; (with_reducible refine (known_any _).mono ?_); rintro e w3 ⟨rfl, hb3⟩; have HB3 := Lib.hid hb3; clear hb3)
      | fail)
  have lenA : xpa.length ≤ 40 := by have := FA.out.1; omega
  have lenB : xpb.length ≤ 40 := by have := FB.out.1; omega
  have HW3 := Lib.hid HB3.out.size
  obtain ⟨X, hX⟩ : ∃ X : Nat → List (List Int), X = fun k => if k = 0 then xpa.map (·.2) else xpb.map (·.2) := ⟨_, rfl⟩
  have HX0 := Lib.hid (show X 0 = xpa.map (·.2) by rw [hX]; rfl)
  have HX1 := Lib.hid (show X 1 = xpb.map (·.2) by rw [hX]; rfl)
  clear hX
  obtain ⟨q, hq⟩ := ok_dec X
  have HQ := Lib.hid hq
  clear hq
  have BYA := Lib.hid (show ∀ xs ∈ xpa.map (·.2), Bytes xs from fun xs hx => by
    obtain ⟨p, hp, rfl⟩ := List.mem_map.1 hx
    obtain ⟨i, hi, rfl⟩ := List.mem_iff_getElem.1 hp
    obtain ⟨A, c, e, _⟩ := HPA.out.form
    rw [e] at HPA
    obtain ⟨_, _, _, _, _, _, g1, _, _, y1⟩ := HPA.out.index i hi
    rw [List.getElem?_eq_getElem hi] at g1
    injection g1 with g1
    rw [g1]; exact y1)
  have BYB := Lib.hid (show ∀ xs ∈ xpb.map (·.2), Bytes xs from fun xs hx => by
    obtain ⟨p, hp, rfl⟩ := List.mem_map.1 hx
    obtain ⟨i, hi, rfl⟩ := List.mem_iff_getElem.1 hp
    obtain ⟨A, c, e, _⟩ := HPB.out.form
    rw [e] at HPB
    obtain ⟨_, _, _, _, _, _, g1, _, _, y1⟩ := HPB.out.index i hi
    rw [List.getElem?_eq_getElem hi] at g1
    injection g1 with g1
    rw [g1]; exact y1)
  have LBA := Lib.hid (lent_blocks pa xpa w3 w.heap.size HW3.out (sr_later HPA.out HB3.out) (by omega) (fun p hp => by
    obtain ⟨i, hi, rfl⟩ := List.mem_iff_getElem.1 hp
    have := FA.out.2 i _ (List.getElem?_eq_getElem hi)
    omega))
  (with_reducible refine LBA.out.mono ?_)
  rintro e w4 ⟨ua, rfl, ⟨usA, ora⟩, hb4⟩
  have ORA := Lib.hid ora
  have HB34 := Lib.hid hb4
  have HB4 := Lib.hid (step_ HB3.out hb4)
  clear ora hb4
  have LBB := Lib.hid (lent_blocks pb xpb w4 w.heap.size HB4.out.size (sr_later HPB.out HB4.out) (by omega) (fun p hp => by
    obtain ⟨i, hi, rfl⟩ := List.mem_iff_getElem.1 hp
    have := FB.out.2 i _ (List.getElem?_eq_getElem hi)
    omega))
  go_wp2_with fail
  (with_reducible refine (LBB.out).mono ?_)
  rintro e w5 ⟨ub, rfl, ⟨usB, orb⟩, hb5⟩
  have ORA5 := Lib.hid (ORA.out.later hb5)
  have ORB5 := Lib.hid orb
  have HB45 := Lib.hid hb5
  have HB5 := Lib.hid (step_ HB4.out hb5)
  clear orb hb5
  cases q
  case false =>
    go_wp2_with fail
    (with_reducible refine (open_any w5 w5.heap.size (Nat.le_refl _) ua ub (usA.zip (xpa.map (·.2))) (usB.zip (xpb.map (·.2))) (ORA5.out.sr BYA.out) (ORB5.out.sr BYB.out) (by rw [List.length_zip, List.length_map]; omega) (by rw [List.length_zip, List.length_map]; omega) X (by rw [zip_snd _ _ ORA5.out.n]; exact HX0.out) (by rw [zip_snd _ _ ORB5.out.n]; exact HX1.out) false (by first | exact HQ.out | simpa using HQ.out)).mono ?_)
    rintro e w6 ⟨rfl, od, hb6⟩
    have OD := Lib.hid od
    have HB6 := Lib.hid (step_ HB5.out hb6)
    have HB56 := Lib.hid hb6
    clear od hb6
    go_wp2_with fail
    (with_reducible refine (ropen_any w6 w.heap.size HB6.out.size pa pb xpa xpb (sr_later HPA.out HB6.out) (sr_later HPB.out HB6.out) (by omega) (by omega) X HX0.out HX1.out false (by first | exact HQ.out | simpa using HQ.out)).mono ?_)
    rintro e w7 ⟨b, rfl, orr, hb7⟩
    have ORR := Lib.hid orr
    have HB67 := Lib.hid hb7
    have HB7 := Lib.hid (step_ HB6.out hb7)
    clear orr hb7
    go_wp2
    go_ret
    exact ⟨rfl, HB7.out⟩
  go_wp2_with fail
  (with_reducible refine (open_any w5 w5.heap.size (Nat.le_refl _) ua ub (usA.zip (xpa.map (·.2))) (usB.zip (xpb.map (·.2))) (ORA5.out.sr BYA.out) (ORB5.out.sr BYB.out) (by rw [List.length_zip, List.length_map]; omega) (by rw [List.length_zip, List.length_map]; omega) X (by rw [zip_snd _ _ ORA5.out.n]; exact HX0.out) (by rw [zip_snd _ _ ORB5.out.n]; exact HX1.out) true (by first | exact HQ.out | simpa using HQ.out)).mono ?_)
  rintro e w6 ⟨rfl, od, hb6⟩
  have OD := Lib.hid od
  have HB6 := Lib.hid (step_ HB5.out hb6)
  have HB56 := Lib.hid hb6
  clear od hb6
  go_wp2_with fail
  (with_reducible refine (ropen_any w6 w.heap.size HB6.out.size pa pb xpa xpb (sr_later HPA.out HB6.out) (sr_later HPB.out HB6.out) (by omega) (by omega) X HX0.out HX1.out true (by first | exact HQ.out | simpa using HQ.out)).mono ?_)
  rintro e w7 ⟨b, rfl, orr, hb7⟩
  have ORR := Lib.hid orr
  have HB67 := Lib.hid hb7
  have HB7 := Lib.hid (step_ HB6.out hb7)
  clear orr hb7
  have HOK := Lib.hid (show okX X by first | exact HQ.out.1 rfl | simpa using HQ.out)
  obtain ⟨D, hD⟩ : ∃ D, D = opT X 2 0 := ⟨_, rfl⟩
  have PQ := Lib.hid (show Pq (fun x => w3.heap.size ≤ x ∧ x < w4.heap.size) w.heap.size w7 w5.heap.size b D D by
    rw [hD]
    exact pq_opens (by first | exact OD.out rfl | exact OD.out trivial | exact OD.out) (by first | exact ORR.out rfl | exact ORR.out trivial | exact ORR.out) HB5.out.size HB45.out.size HB67.out)
  have FEW := Lib.hid (show D.Few 100000 by rw [hD]; exact (opT_few X).more (Nat.zero_le _))
  have LST := Lib.hid (show (D.f 1).map (·.last) = X 1 by rw [hD]; exact opT_last X 1 (by decide))
  have OXA := Lib.hid (OX.of_or (ORA5.out.later (step_ HB56.out HB67.out)) (fun xs hx => HOK.out 0 (by decide) xs (by rw [HX0.out]; exact hx)))
  obtain ⟨a, ea⟩ : ∃ a, w5.heap.size = a := ⟨_, rfl⟩
  rw [ea] at PQ ⊢
  clear ea hD
  obtain ⟨Au, cV, eu⟩ := own_slice' OXA.out.outer
  subst eu
  obtain ⟨base, hbase⟩ : ∃ k, w3.heap.size = k := ⟨_, rfl⟩
  obtain ⟨top, htop⟩ : ∃ k, w4.heap.size = k := ⟨_, rfl⟩
  rw [hbase, htop] at OXA PQ
  obtain ⟨us, hus⟩ : ∃ us, usA = us := ⟨_, rfl⟩
  rw [hus] at OXA ⊢
  obtain ⟨n, hn⟩ : ∃ n, n = us.length := ⟨_, rfl⟩
  rw [← hn] at OXA ⊢
  have HUN := Lib.hid hn
  have hn4 : n ≤ 4096 := by
    rw [hn, ← hus, ORA5.out.n, List.length_map]; omega
  obtain ⟨V9, hV9⟩ : ∃ V9, V9 = Value.slice Au n cV := ⟨_, rfl⟩
  have HV9 := Lib.hid hV9
  rw [← hV9] at OXA
  have HBA := Lib.hid hbase
  have HTO := Lib.hid htop
  have OXS := OXA
  clear hV9 hn hus hbase htop OXA
  go_wp2
  go_loopw [9] (fun x wr => ∃ j : Nat, j ≤ n ∧ x = .int .i64 j ∧ Hid (Fr (fun x => base ≤ x ∧ x < top) w7 wr ∧ OX wr base top V9 us)) (fun x _ => n - (intOf x).toNat)
  case atStart => exact ⟨0, Nat.zero_le _, rfl, Lib.hid ⟨Fr.refl _ _, OXS.out⟩⟩
  case round =>
    obtain ⟨j, hj, rfl, HO⟩ := hrel
    by_cases hlt : j < n
    · obtain ⟨w1, rfl⟩ : ∃ w1, w1 = wr := ⟨wr, rfl⟩
      obtain ⟨go, cap, g, c9, z, eV, kc, kz, hgo, hgg, hcap, hgu⟩ := HO.out.2.at_ j (by rw [← HUN.out]; exact hlt)
      rw [← HUN.out, HV9.out] at eV
      injection eV with eV1 eV2 eV3
      subst eV1 eV3
      have KC := Lib.hid kc
      have KZ := Lib.hid kz
      have HGO := Lib.hid hgo
      have HGG := Lib.hid hgg
      have HGU := Lib.hid hgu
      have HOX := Lib.hid HO.out.2
      have HFR := Lib.hid HO.out.1
      have dj : decide ((j : Int) < (n : Int)) = true := by simp; omega
      have djn : decide (j < n) = true := by simp; omega
      have hji : (j : Int) < n := by omega
      have hcn : n ≤ cV := by rw [HUN.out]; exact hcap
      have HLT := Lib.hid hlt
      clear kz hgo hgg hgu HO hlt hcap
      go_wp2_with fail
      refine wp_region_end (by kernel_rfl) (by kernel_rfl) 12 (fun _ _ => True) (fun W => Fr (fun x => x = g) w1 W ∧ OX W base top V9 us) [(fun v _ => v = .slice (some ⟨go, 0, none⟩) n cV), (fun v _ => v = .int .i64 j), (fun v _ => v = .pointer (some ⟨go, j, none⟩)), (fun v _ => v = .slice (some ⟨g, 0, none⟩) 128 c9), (fun v _ => v = .slice (some ⟨go, 0, none⟩) n cV), (fun v _ => v = .int .i64 j), (fun v _ => v = .pointer (some ⟨go, j, none⟩)), (fun v _ => v = .slice (some ⟨g, 0, none⟩) 128 c9), (fun v _ => v = .pointer (some ⟨g, 0, none⟩)), (fun v _ => v = .int .u8 z), (fun v W => ∃ y, v = .int .u8 y), (fun v _ => v = .pointer (some ⟨g, 0, none⟩)), (fun v _ => v = undef)] (fun W W' hb h => ⟨h.1.below hb, h.2.later hb⟩) ?_ (fun vals => ?_) (fun vals W hfin hall => ?_) (by decide)
      · intro j v W W' hj hr h
        match j, hj, h with
        | 0, _, h => exact h
        | 1, _, h => exact h
        | 2, _, h => exact h
        | 3, _, h => exact h
        | 4, _, h => exact h
        | 5, _, h => exact h
        | 6, _, h => exact h
        | 7, _, h => exact h
        | 8, _, h => exact h
        | 9, _, h => exact h
        | 10, _, h => exact h
        | 11, _, h => exact h
        | 12, hj, _ => exact absurd rfl hj
        | _ + 13, _, _ => trivial
      · simp only [ObL, Act.put, List.setIfInBounds_toArray, List.set_cons_succ, List.set_cons_zero]
        refine ⟨?_, ?_, ?_, ?_, ?_, ?_, ?_, ?_, ?_, ?_, ?_, ?_, ?_, trivial⟩
        · intro L W hL hk hC hw
          clear hw
          clear hL hC hk
          refine step_plain rfl ?_
          go_simp
          first | exact ⟨Re.same (by decide), Fe.val (by decide) rfl rfl⟩ | exact ⟨_, rfl, Re.same (by decide), Fe.val (by decide) rfl rfl⟩
        · intro L W hL hk hC hw
          clear hw
          clear hL hC hk
          refine step_plain rfl ?_
          go_simp
          first | exact ⟨Re.same (by decide), Fe.val (by decide) rfl rfl⟩ | exact ⟨_, rfl, Re.same (by decide), Fe.val (by decide) rfl rfl⟩
        · intro L W hL hk hC hw
          have f0 : vals 0 = .slice (some ⟨go, 0, none⟩) n cV := Fe.get (hw ⟨0, .data⟩ (by simp) rfl) (by decide)
          have f1 : vals 1 = .int .i64 j := Fe.get (hw ⟨1, .data⟩ (by simp) rfl) (by decide)
          clear hw
          clear hL hC hk
          refine step_plain rfl ?_
          go_simp
          first | exact ⟨Re.same (by decide), Fe.val (by decide) rfl rfl⟩ | exact ⟨_, rfl, Re.same (by decide), Fe.val (by decide) rfl rfl⟩
        · intro L W hL hk hC hw
          have f2 : vals 2 = .pointer (some ⟨go, j, none⟩) := Fe.get (hw ⟨2, .data⟩ (by simp) rfl) (by decide)
          clear hw
          have hb := hC (hL.not_yet hk 12 8 (by decide +kernel))
          have kc : W.cell? ⟨go, j, none⟩ = some (.slice (some ⟨g, 0, none⟩) 128 c9) := (hb.cell (p := ⟨go, j, none⟩) HGO.out).trans KC.out
          clear hL hC hk hb
          refine step_plain rfl ?_
          go_simp
          first | exact ⟨Re.same (by decide), Fe.val (by decide) rfl rfl⟩ | exact ⟨_, rfl, Re.same (by decide), Fe.val (by decide) rfl rfl⟩
        · intro L W hL hk hC hw
          clear hw
          clear hL hC hk
          refine step_plain rfl ?_
          go_simp
          first | exact ⟨Re.same (by decide), Fe.val (by decide) rfl rfl⟩ | exact ⟨_, rfl, Re.same (by decide), Fe.val (by decide) rfl rfl⟩
        · intro L W hL hk hC hw
          clear hw
          clear hL hC hk
          refine step_plain rfl ?_
          go_simp
          first | exact ⟨Re.same (by decide), Fe.val (by decide) rfl rfl⟩ | exact ⟨_, rfl, Re.same (by decide), Fe.val (by decide) rfl rfl⟩
        · intro L W hL hk hC hw
          have f4 : vals 4 = .slice (some ⟨go, 0, none⟩) n cV := Fe.get (hw ⟨4, .data⟩ (by simp) rfl) (by decide)
          have f5 : vals 5 = .int .i64 j := Fe.get (hw ⟨5, .data⟩ (by simp) rfl) (by decide)
          clear hw
          clear hL hC hk
          refine step_plain rfl ?_
          go_simp
          first | exact ⟨Re.same (by decide), Fe.val (by decide) rfl rfl⟩ | exact ⟨_, rfl, Re.same (by decide), Fe.val (by decide) rfl rfl⟩
        · intro L W hL hk hC hw
          have f6 : vals 6 = .pointer (some ⟨go, j, none⟩) := Fe.get (hw ⟨6, .data⟩ (by simp) rfl) (by decide)
          clear hw
          have hb := hC (hL.not_yet hk 12 8 (by decide +kernel))
          have kc : W.cell? ⟨go, j, none⟩ = some (.slice (some ⟨g, 0, none⟩) 128 c9) := (hb.cell (p := ⟨go, j, none⟩) HGO.out).trans KC.out
          clear hL hC hk hb
          refine step_plain rfl ?_
          go_simp
          first | exact ⟨Re.same (by decide), Fe.val (by decide) rfl rfl⟩ | exact ⟨_, rfl, Re.same (by decide), Fe.val (by decide) rfl rfl⟩
        · intro L W hL hk hC hw
          have f7 : vals 7 = .slice (some ⟨g, 0, none⟩) 128 c9 := Fe.get (hw ⟨7, .data⟩ (by simp) rfl) (by decide)
          clear hw
          clear hL hC hk
          refine step_plain rfl ?_
          go_simp
          first | exact ⟨Re.same (by decide), Fe.val (by decide) rfl rfl⟩ | exact ⟨_, rfl, Re.same (by decide), Fe.val (by decide) rfl rfl⟩
        · intro L W hL hk hC hw
          have f8 : vals 8 = .pointer (some ⟨g, 0, none⟩) := Fe.get (hw ⟨8, .data⟩ (by simp) rfl) (by decide)
          clear hw
          have hb := hC (hL.not_yet hk 12 8 (by decide +kernel))
          have kc : W.cell? ⟨g, 0, none⟩ = some (.int .u8 z) := (hb.cell (p := ⟨g, 0, none⟩) HGG.out.2.1).trans KZ.out
          clear hL hC hk hb
          refine step_plain rfl ?_
          go_simp
          first | exact ⟨Re.same (by decide), Fe.val (by decide) rfl rfl⟩ | exact ⟨_, rfl, Re.same (by decide), Fe.val (by decide) rfl rfl⟩
        · intro L W hL hk hC hw
          have f9 : vals 9 = .int .u8 z := Fe.get (hw ⟨9, .data⟩ (by simp) rfl) (by decide)
          clear hw
          have hb := hC (hL.not_yet hk 12 8 (by decide +kernel))
          clear hL hC hk hb
          refine step_plain rfl ?_
          go_simp
          first | exact ⟨Re.same (by decide), Fe.val (by decide) rfl ⟨_, rfl⟩⟩ | exact ⟨_, rfl, Re.same (by decide), Fe.val (by decide) rfl ⟨_, rfl⟩⟩
        · intro L W hL hk hC hw
          have f3 : vals 3 = .slice (some ⟨g, 0, none⟩) 128 c9 := Fe.get (hw ⟨3, .data⟩ (by simp) rfl) (by decide)
          clear hw
          clear hL hC hk
          refine step_plain rfl ?_
          go_simp
          first | exact ⟨Re.same (by decide), Fe.val (by decide) rfl rfl⟩ | exact ⟨_, rfl, Re.same (by decide), Fe.val (by decide) rfl rfl⟩
        · intro L W hL hk hC hw
          have f11 : vals 11 = .pointer (some ⟨g, 0, none⟩) := Fe.get (hw ⟨11, .data⟩ (by simp) rfl) (by decide)
          have f10 : ∃ y, (vals 10) = .int .u8 y := Fe.get (hw ⟨10, .data⟩ (by simp) rfl) (by decide)
          clear hw
          have hb := hC hk
          obtain ⟨y, e10⟩ := f10
          have kc : W.cell? ⟨g, 0, none⟩ = some (.int .u8 z) := (hb.cell (p := ⟨g, 0, none⟩) HGG.out.2.1).trans KZ.out
          have fc := (HOX.out.later hb).frozen_ HGU.out
          have HFN := Lib.hid (And.intro (Fr.setCell (Fr.of_below (S := fun x => x = g) hb) (p := ⟨g, 0, none⟩) (.inl rfl) (.int .u8 y)) ((HOX.out.later hb).put HGU.out y))
          clear hL hC hk hb
          refine step_plain rfl ?_
          go_simp
          exact ⟨Re.last trivial, undef, Fe.last HFN.out⟩
      · simp only [TL, Act.put, List.setIfInBounds_toArray, List.set_cons_succ, List.set_cons_zero]
        obtain ⟨hf9, hox9⟩ := hfin
        have HNX := Lib.hid (And.intro (HFR.out.trans (hf9.mono (S' := fun x => base ≤ x ∧ x < top) (fun k _ hk => by rw [hk]; exact ⟨HGG.out.1, HGG.out.2.2⟩))) hox9)
        clear hf9 hox9 hall
        go_wp2
        go_roundw
        case rel => exact ⟨j + 1, HLT.out, by go_num, Lib.hid HNX.out⟩
        case measure => have := HLT.out; simp [intOf]; omega
    · have ejn : j = n := by omega
      have dj : decide ((j : Int) < (n : Int)) = false := by simp; omega
      have hji : ¬ (j : Int) < n := by omega
      clear ejn hj hlt
      have PQ1 := Lib.hid (PQ.out.away HO.out.1 (fun x hx => hx))
      have HB8 := Lib.hid (HB7.out.trans (HO.out.1.to_below (B := w.heap.size) (fun k hk => by have := HBA.out; have := HW3.out; have := hk.1; omega) HB7.out.size))
      obtain ⟨S, c0, f0, u0, ha⟩ := PQ1.out.one
      have IM := Lib.hid (image_at 1 ha 1 rfl (by decide))
      clear ha HO OXS
      go_wp2_with fail
      (with_reducible refine (IM.out).mono ?_)
      rintro e w9 ⟨v9, l9, rfl, t9, m9, hb9⟩
      have PQ2 := Lib.hid (PQ1.out.new hb9 (fun x => wr.heap.size ≤ x ∧ x < w9.heap.size) (fun x hx => hx))
      have OX9 := Lib.hid (OX.of_tab t9 (fun p hp => by
        have hm : p.2.2 ∈ l9.map (·.2.2) := List.mem_map.2 ⟨p, hp, rfl⟩
        rw [m9, LST.out] at hm
        exact HOK.out 1 (by decide) _ hm))
      have HB9 := Lib.hid (step_ HB8.out hb9)
      have L9 := Lib.hid (show l9.length ≤ 40 by
        have h1 := congrArg List.length m9
        rw [LST.out, HX1.out, List.length_map, List.length_map] at h1
        omega)
      have HWR := Lib.hid (show w.heap.size ≤ wr.heap.size from HB8.out.size)
      clear t9 m9 hb9 HUN HV9 HBA HTO hn4
      obtain ⟨Al, cl, el⟩ := own_slice' OX9.out.outer
      subst el
      obtain ⟨base, hbase⟩ : ∃ k, wr.heap.size = k := ⟨_, rfl⟩
      obtain ⟨top, htop⟩ : ∃ k, w9.heap.size = k := ⟨_, rfl⟩
      rw [hbase, htop] at OX9 PQ2
      have HWB := Lib.hid (show w.heap.size ≤ base by rw [← hbase]; exact HWR.out)
      obtain ⟨us, hus⟩ : ∃ us, l9.map (·.2.1) = us := ⟨_, rfl⟩
      rw [hus] at OX9 ⊢
      obtain ⟨n, hn⟩ : ∃ n, n = us.length := ⟨_, rfl⟩
      rw [← hn] at OX9 ⊢
      have HUN := Lib.hid hn
      have hn4 : n ≤ 4096 := by
        rw [hn, ← hus, List.length_map]; have := L9.out; omega
      obtain ⟨V9, hV9⟩ : ∃ V9, V9 = Value.slice Al n cl := ⟨_, rfl⟩
      have HV9 := Lib.hid hV9
      rw [← hV9] at OX9
      obtain ⟨cV, hcV⟩ : ∃ k, cl = k := ⟨_, rfl⟩
      subst hcV
      clear hV9 hn hus hbase htop
      go_wp2
      go_loopw [11] (fun x wr => ∃ j : Nat, j ≤ n ∧ x = .int .i64 j ∧ Hid (Fr (fun x => base ≤ x ∧ x < top) w9 wr ∧ OX wr base top V9 us)) (fun x _ => n - (intOf x).toNat)
      case atStart => exact ⟨0, Nat.zero_le _, rfl, Lib.hid ⟨Fr.refl _ _, OX9.out⟩⟩
      case round =>
        obtain ⟨j, hj, rfl, HO⟩ := hrel
        by_cases hlt : j < n
        · obtain ⟨w1, rfl⟩ : ∃ w1, w1 = wr := ⟨wr, rfl⟩
          obtain ⟨go, cap, g, c9, z, eV, kc, kz, hgo, hgg, hcap, hgu⟩ := HO.out.2.at_ j (by rw [← HUN.out]; exact hlt)
          rw [← HUN.out, HV9.out] at eV
          injection eV with eV1 eV2 eV3
          subst eV1 eV3
          have KC := Lib.hid kc
          have KZ := Lib.hid kz
          have HGO := Lib.hid hgo
          have HGG := Lib.hid hgg
          have HGU := Lib.hid hgu
          have HOX := Lib.hid HO.out.2
          have HFR := Lib.hid HO.out.1
          have dj : decide ((j : Int) < (n : Int)) = true := by simp; omega
          have djn : decide (j < n) = true := by simp; omega
          have hji : (j : Int) < n := by omega
          have hcn : n ≤ cl := by rw [HUN.out]; exact hcap
          have HLT := Lib.hid hlt
          clear kz hgo hgg hgu HO hlt hcap
          go_wp2_with fail
          refine wp_region_end (by kernel_rfl) (by kernel_rfl) 12 (fun _ _ => True) (fun W => Fr (fun x => x = g) w1 W ∧ OX W base top V9 us) [(fun v _ => v = .slice (some ⟨go, 0, none⟩) n cl), (fun v _ => v = .int .i64 j), (fun v _ => v = .pointer (some ⟨go, j, none⟩)), (fun v _ => v = .slice (some ⟨g, 0, none⟩) 128 c9), (fun v _ => v = .slice (some ⟨go, 0, none⟩) n cl), (fun v _ => v = .int .i64 j), (fun v _ => v = .pointer (some ⟨go, j, none⟩)), (fun v _ => v = .slice (some ⟨g, 0, none⟩) 128 c9), (fun v _ => v = .pointer (some ⟨g, 0, none⟩)), (fun v _ => v = .int .u8 z), (fun v W => ∃ y, v = .int .u8 y), (fun v _ => v = .pointer (some ⟨g, 0, none⟩)), (fun v _ => v = undef)] (fun W W' hb h => ⟨h.1.below hb, h.2.later hb⟩) ?_ (fun vals => ?_) (fun vals W hfin hall => ?_) (by decide)
          · intro j v W W' hj hr h
            match j, hj, h with
            | 0, _, h => exact h
            | 1, _, h => exact h
            | 2, _, h => exact h
            | 3, _, h => exact h
            | 4, _, h => exact h
            | 5, _, h => exact h
            | 6, _, h => exact h
            | 7, _, h => exact h
            | 8, _, h => exact h
            | 9, _, h => exact h
            | 10, _, h => exact h
            | 11, _, h => exact h
            | 12, hj, _ => exact absurd rfl hj
            | _ + 13, _, _ => trivial
          · simp only [ObL, Act.put, List.setIfInBounds_toArray, List.set_cons_succ, List.set_cons_zero]
            refine ⟨?_, ?_, ?_, ?_, ?_, ?_, ?_, ?_, ?_, ?_, ?_, ?_, ?_, trivial⟩
            · intro L W hL hk hC hw
              clear hw
              clear hL hC hk
              refine step_plain rfl ?_
              go_simp
              first | exact ⟨Re.same (by decide), Fe.val (by decide) rfl rfl⟩ | exact ⟨_, rfl, Re.same (by decide), Fe.val (by decide) rfl rfl⟩
            · intro L W hL hk hC hw
              clear hw
              clear hL hC hk
              refine step_plain rfl ?_
              go_simp
              first | exact ⟨Re.same (by decide), Fe.val (by decide) rfl rfl⟩ | exact ⟨_, rfl, Re.same (by decide), Fe.val (by decide) rfl rfl⟩
            · intro L W hL hk hC hw
              have f0 : vals 0 = .slice (some ⟨go, 0, none⟩) n cl := Fe.get (hw ⟨0, .data⟩ (by simp) rfl) (by decide)
              have f1 : vals 1 = .int .i64 j := Fe.get (hw ⟨1, .data⟩ (by simp) rfl) (by decide)
              clear hw
              clear hL hC hk
              refine step_plain rfl ?_
              go_simp
              first | exact ⟨Re.same (by decide), Fe.val (by decide) rfl rfl⟩ | exact ⟨_, rfl, Re.same (by decide), Fe.val (by decide) rfl rfl⟩
            · intro L W hL hk hC hw
              have f2 : vals 2 = .pointer (some ⟨go, j, none⟩) := Fe.get (hw ⟨2, .data⟩ (by simp) rfl) (by decide)
              clear hw
              have hb := hC (hL.not_yet hk 12 8 (by decide +kernel))
              have kc : W.cell? ⟨go, j, none⟩ = some (.slice (some ⟨g, 0, none⟩) 128 c9) := (hb.cell (p := ⟨go, j, none⟩) HGO.out).trans KC.out
              clear hL hC hk hb
              refine step_plain rfl ?_
              go_simp
              first | exact ⟨Re.same (by decide), Fe.val (by decide) rfl rfl⟩ | exact ⟨_, rfl, Re.same (by decide), Fe.val (by decide) rfl rfl⟩
            · intro L W hL hk hC hw
              clear hw
              clear hL hC hk
              refine step_plain rfl ?_
              go_simp
              first | exact ⟨Re.same (by decide), Fe.val (by decide) rfl rfl⟩ | exact ⟨_, rfl, Re.same (by decide), Fe.val (by decide) rfl rfl⟩
            · intro L W hL hk hC hw
              clear hw
              clear hL hC hk
              refine step_plain rfl ?_
              go_simp
              first | exact ⟨Re.same (by decide), Fe.val (by decide) rfl rfl⟩ | exact ⟨_, rfl, Re.same (by decide), Fe.val (by decide) rfl rfl⟩
            · intro L W hL hk hC hw
              have f4 : vals 4 = .slice (some ⟨go, 0, none⟩) n cl := Fe.get (hw ⟨4, .data⟩ (by simp) rfl) (by decide)
              have f5 : vals 5 = .int .i64 j := Fe.get (hw ⟨5, .data⟩ (by simp) rfl) (by decide)
              clear hw
              clear hL hC hk
              refine step_plain rfl ?_
              go_simp
              first | exact ⟨Re.same (by decide), Fe.val (by decide) rfl rfl⟩ | exact ⟨_, rfl, Re.same (by decide), Fe.val (by decide) rfl rfl⟩
            · intro L W hL hk hC hw
              have f6 : vals 6 = .pointer (some ⟨go, j, none⟩) := Fe.get (hw ⟨6, .data⟩ (by simp) rfl) (by decide)
              clear hw
              have hb := hC (hL.not_yet hk 12 8 (by decide +kernel))
              have kc : W.cell? ⟨go, j, none⟩ = some (.slice (some ⟨g, 0, none⟩) 128 c9) := (hb.cell (p := ⟨go, j, none⟩) HGO.out).trans KC.out
              clear hL hC hk hb
              refine step_plain rfl ?_
              go_simp
              first | exact ⟨Re.same (by decide), Fe.val (by decide) rfl rfl⟩ | exact ⟨_, rfl, Re.same (by decide), Fe.val (by decide) rfl rfl⟩
            · intro L W hL hk hC hw
              have f7 : vals 7 = .slice (some ⟨g, 0, none⟩) 128 c9 := Fe.get (hw ⟨7, .data⟩ (by simp) rfl) (by decide)
              clear hw
              clear hL hC hk
              refine step_plain rfl ?_
              go_simp
              first | exact ⟨Re.same (by decide), Fe.val (by decide) rfl rfl⟩ | exact ⟨_, rfl, Re.same (by decide), Fe.val (by decide) rfl rfl⟩
            · intro L W hL hk hC hw
              have f8 : vals 8 = .pointer (some ⟨g, 0, none⟩) := Fe.get (hw ⟨8, .data⟩ (by simp) rfl) (by decide)
              clear hw
              have hb := hC (hL.not_yet hk 12 8 (by decide +kernel))
              have kc : W.cell? ⟨g, 0, none⟩ = some (.int .u8 z) := (hb.cell (p := ⟨g, 0, none⟩) HGG.out.2.1).trans KZ.out
              clear hL hC hk hb
              refine step_plain rfl ?_
              go_simp
              first | exact ⟨Re.same (by decide), Fe.val (by decide) rfl rfl⟩ | exact ⟨_, rfl, Re.same (by decide), Fe.val (by decide) rfl rfl⟩
            · intro L W hL hk hC hw
              have f9 : vals 9 = .int .u8 z := Fe.get (hw ⟨9, .data⟩ (by simp) rfl) (by decide)
              clear hw
              have hb := hC (hL.not_yet hk 12 8 (by decide +kernel))
              clear hL hC hk hb
              refine step_plain rfl ?_
              go_simp
              first | exact ⟨Re.same (by decide), Fe.val (by decide) rfl ⟨_, rfl⟩⟩ | exact ⟨_, rfl, Re.same (by decide), Fe.val (by decide) rfl ⟨_, rfl⟩⟩
            · intro L W hL hk hC hw
              have f3 : vals 3 = .slice (some ⟨g, 0, none⟩) 128 c9 := Fe.get (hw ⟨3, .data⟩ (by simp) rfl) (by decide)
              clear hw
              clear hL hC hk
              refine step_plain rfl ?_
              go_simp
              first | exact ⟨Re.same (by decide), Fe.val (by decide) rfl rfl⟩ | exact ⟨_, rfl, Re.same (by decide), Fe.val (by decide) rfl rfl⟩
            · intro L W hL hk hC hw
              have f11 : vals 11 = .pointer (some ⟨g, 0, none⟩) := Fe.get (hw ⟨11, .data⟩ (by simp) rfl) (by decide)
              have f10 : ∃ y, (vals 10) = .int .u8 y := Fe.get (hw ⟨10, .data⟩ (by simp) rfl) (by decide)
              clear hw
              have hb := hC hk
              obtain ⟨y, e10⟩ := f10
              have kc : W.cell? ⟨g, 0, none⟩ = some (.int .u8 z) := (hb.cell (p := ⟨g, 0, none⟩) HGG.out.2.1).trans KZ.out
              have fc := (HOX.out.later hb).frozen_ HGU.out
              have HFN := Lib.hid (And.intro (Fr.setCell (Fr.of_below (S := fun x => x = g) hb) (p := ⟨g, 0, none⟩) (.inl rfl) (.int .u8 y)) ((HOX.out.later hb).put HGU.out y))
              clear hL hC hk hb
              refine step_plain rfl ?_
              go_simp
              exact ⟨Re.last trivial, undef, Fe.last HFN.out⟩
          · simp only [TL, Act.put, List.setIfInBounds_toArray, List.set_cons_succ, List.set_cons_zero]
            obtain ⟨hf9, hox9⟩ := hfin
            have HNX := Lib.hid (And.intro (HFR.out.trans (hf9.mono (S' := fun x => base ≤ x ∧ x < top) (fun k _ hk => by rw [hk]; exact ⟨HGG.out.1, HGG.out.2.2⟩))) hox9)
            clear hf9 hox9 hall
            go_wp2
            go_roundw
            case rel => exact ⟨j + 1, HLT.out, by go_num, Lib.hid HNX.out⟩
            case measure => have := HLT.out; simp [intOf]; omega
        · have ejn : j = n := by omega
          have dj : decide ((j : Int) < (n : Int)) = false := by simp; omega
          have hji : ¬ (j : Int) < n := by omega
          clear ejn hj hlt

          have PQ3 := Lib.hid (PQ2.out.away HO.out.1 (fun x hx => .inr hx))
          have HBE := Lib.hid (HB9.out.trans (HO.out.1.to_below (B := w.heap.size) (fun k hk => by have := HWB.out; have := hk.1; omega) HB9.out.size))
          have AL := Lib.hid (alike_any PQ3.out (Eqd.refl D) FEW.out FEW.out)
          clear HO
          go_wp2_with fail
          (with_reducible refine (AL.out).mono ?_)
          rintro e wz ⟨rfl, pz, bz⟩
          have HBZ := Lib.hid (step_ HBE.out bz)
          clear pz bz
          go_wp2
          go_ret
          exact ⟨rfl, HBZ.out⟩


set_option maxRecDepth 100000 in
theorem lifted (os : Os) (started : os.Started) (H : Type) (enc : TypeId × Value → H) :
    ReturnsInHanded {} Try.checked os 4 .any (Rows.diskOpensSpec.pre6 enc Try.prog Try.f4 Rows.diskOpensRow.domain false) (Rows.diskOpensSpec.post enc Try.prog Try.f4 false true false false) := by
  refine returnsInHanded_of_change (C := Try.checked) own started (by kernel_rfl) Try.func4
    (ChangeSpec.witness6 (enc := enc) (C := Try.checked) false ⟨#[], #[.slice none 0 0, .slice none 0 0], []⟩ 8 (by kernel_rfl) (by kernel_rfl) (by kernel_rfl) (by kernel_rfl)) ?_
  intro W base args ds gs before hval0 hW hcnd _
  have hval : ∀ (j : Nat) t v, Try.f4.params[j]? = some t → args[j]? = some v → Value.okWide Try.prog W .any base t v := hval0
  have hW' := hW
  obtain ⟨p, q, hA0, hV, rfl, hfz, hnd⟩ := hW
  have hA1 : DataW.TrodAll enc Try.prog W 0 (fun _ => true) true Try.f4.params.toList args.toList ds p := hA0
  have hA := hA1
  rw [Try.params4] at hA hval
  obtain ⟨v0, vs0, d0, ds0, p0, q0, hargs, rfl, rfl, h0, r0⟩ := trodAll_cons hA
  obtain ⟨v1, vs1, d1, ds1, p1, q1, rfl, rfl, rfl, h1, r1⟩ := trodAll_cons r0
  obtain ⟨rfl, rfl, rfl⟩ := trodAll_nil r1
  obtain rfl : args = #[v0, v1] := by cases args; simp_all
  obtain ⟨rfl, rfl⟩ := trodVars_none hV
  obtain ⟨xpa, i0⟩ := SrOpen.open_sr (hval 0 35 v0 rfl rfl) h0
  obtain ⟨xpb, i1⟩ := SrOpen.open_sr (hval 1 35 v1 rfl rfl) h1
  clear hA0 hval0
  refine (walk W v0 xpa i0 v1 xpb i1).mono fun e W' ⟨he, bel⟩ => ?_
  subst he
  exact ⟨_, rfl, _, _, _, [], _, [], hW', trodAll_mk1 (shut_bool Try.underlying4 _), args_again laidOut bel (by kernel_rfl) hA1, rfl, bel.frame _, fun h => by cases h⟩

theorem over : Rows.diskOpensRow.holds Try.pinned (OpenSpec.ofChange Rows.diskOpensSpec) :=
  OpenClaim.holds_of_wide 4 Try.f4 rfl rfl rfl rfl rfl rfl rfl ⟨rfl, rfl, rfl, rfl, rfl⟩ rfl rfl rfl rfl rfl (by kernel_rfl) Try.func4 (by kernel_rfl)
    (of_decide_eq_true (by kernel_rfl)) (by unfold Func.isWrapper; first | (rw [if_pos (by decide +kernel)]; kernel_rfl) | (rw [if_neg (by decide +kernel)]; exact ⟨rfl, rfl⟩))
    (fun os started H enc _ => lifted os started H enc)

theorem proved : Rows.DiskOpensSaid := over
end Go.Proofs.Ytplombkpefacgaa.LDiskOpens
