/- The law manciplelaw05.DiskApart returns true whatever it is called with, and what it was called with reads as it did. No condition. -/
import Derived.Test.YtplombkpefacgaaLaw
import Derived.Test.YtplombkpefacgaaDkM
import Derived.Deep.RegionWith
import Derived.Outline
namespace Go.Proofs.Ytplombkpefacgaa.LDiskApart
open Go.ChangeShapes Go.WideShapes Go.ChangeAt Go.RowKit Go.IntWalk Go.Proofs.Mem Law
set_option linter.unusedVariables false
open Go.Proofs.Ytplombkpefacgaa.Disk Go.Proofs.Each
set_option linter.unusedSimpArgs false
def M8 : Nat → Nat := fun k => if k = 0 then 8 else 8
theorem cur_keep (s : Se) : s.cur = s.keep s.wait.length := by
  unfold Se.cur Se.keep
  split
  · rename_i h
    rw [List.length_eq_zero_iff.1 h]; rfl
  · rw [List.getLast?_eq_getElem?, List.getD_eq_getElem?_getD]
theorem cur_bytes {w : World} {S : Nat → Prop} {b : Nat} {D : Dv} {col : Nat → Nat} {fv : Nat → Value} {uv : Nat → List Pl} (h : DA w S b D col fv uv) {i n : Nat} {s : Se} (hi : i < 2) (hs : (D.f i)[n]? = some s) : Bytes s.cur := by
  obtain ⟨g, cap, C, p, s', sp⟩ := (h.file i hi).spot n (List.getElem?_eq_some_iff.1 hs).1
  have e : s' = s := by have := sp.hs; rw [hs] at this; injection this with this; exact this.symm
  subst e
  rw [cur_keep]
  exact (sp.sec.keep s'.wait.length (by have := sp.sec.n; omega)).2.2
theorem waits_at (I N : Int) {w : World} {S : Nat → Prop} {b : Nat} {D : Dv} {col : Nat → Nat} {fv : Nat → Value} {uv : Nat → List Pl} (h : DA w S b D col fv uv) (i : Nat) (hI : I = i) (hi : i < 2) (n : Nat) (s : Se) (hs : (D.f i)[n]? = some s) (hN : N = n) :
    Calls Try.prog 23 #[.pointer (some ⟨b, 0, none⟩), .int .u8 I, .int .i64 N] w fun e w' => e = .returned (.int .i64 s.wait.length) ∧ w = w' := by
  subst hI; exact waits_yes h i hi n s hs N hN
theorem img_bytes {w : World} {S : Nat → Prop} {b : Nat} {D : Dv} {col : Nat → Nat} {fv : Nat → Value} {uv : Nat → List Pl} (h : DA w S b D col fv uv) {i : Nat} (hi : i < 2) {l : List Rw} (hl : l.map (·.2.2) = (D.f i).map (·.last)) : ∀ p ∈ l, Bytes p.2.2 := fun p hp => by
  have hm : p.2.2 ∈ (D.f i).map (·.last) := by rw [← hl]; exact List.mem_map.2 ⟨p, hp, rfl⟩
  obtain ⟨s, hs, e⟩ := List.mem_map.1 hm
  rw [← e]
  obtain ⟨n, hn, rfl⟩ := List.mem_iff_getElem.1 hs
  obtain ⟨g, cap, C, p', s', sp⟩ := (h.file i hi).spot n hn
  have e2 : s' = (D.f i)[n] := by have := sp.hs; rw [List.getElem?_eq_getElem hn] at this; injection this with this; exact this.symm
  rw [← e2]; exact sp.sec.byt
/-- what holds between two calls of the first loop -/
def Rel (B0 : Nat) (w : World) (a b : Nat) (j : Nat) : Prop := ∃ D E : Dv, Pair B0 w a b D E ∧ D.lim = false ∧ E.lim = false ∧ D.f 1 = E.f 1 ∧ D.Few j ∧ E.Few j ∧ (D.f 1).length = 8
theorem Rel.start {B0 : Nat} {w w1 w2 : World} (h1 : Out w w1 M8 2) (h2 : Out w1 w2 M8 2) (hB : B0 ≤ w.heap.size) : Rel B0 w2 w.heap.size w1.heap.size 0 := by
  refine ⟨newTo M8 2, newTo M8 2, Pair.new h1 h2 hB, rfl, rfl, rfl, ?_, ?_, rfl⟩
  all_goals
    intro k hk s hs
    have e : (newTo M8 2).f k = List.replicate 8 zSe := by unfold newTo M8; simp only; rw [if_pos hk]; split <;> rfl
    rw [e] at hs
    rw [List.eq_of_mem_replicate hs]
    decide
theorem Rel.both {B0 a b j : Nat} {w : World} {D E : Dv} {o : Opn} (h1 : o.f = 1) (h : D.lim = false ∧ E.lim = false ∧ D.f 1 = E.f 1 ∧ D.Few j ∧ E.Few j ∧ (D.f 1).length = 8) (p : Pair B0 w a b (plD D o) (plD E o)) : Rel B0 w a b (j + 1) := by
  obtain ⟨l1, l2, hf, fD, fE, h8⟩ := h
  have e1 : o.f.toNat = 1 := by omega
  refine ⟨_, _, p, plD_lim l1 o, plD_lim l2 o, ?_, plD_few l1 fD o, plD_few l2 fE o, by rw [plD_len l1]; exact h8⟩
  have := plD_same l1 l2 o (by rw [e1]; exact hf)
  rwa [e1] at this
theorem Rel.one {B0 a b j : Nat} {w : World} {D E : Dv} {o : Opn} (h0 : 0 ≤ o.f) (h1 : ¬ o.f = 1) (h : D.lim = false ∧ E.lim = false ∧ D.f 1 = E.f 1 ∧ D.Few j ∧ E.Few j ∧ (D.f 1).length = 8) (p : Pair B0 w a b (plD D o) E) : Rel B0 w a b (j + 1) := by
  obtain ⟨l1, l2, hf, fD, fE, h8⟩ := h
  exact ⟨_, _, p, plD_lim l1 o, l2, by rw [plD_else l1 o 1 (by omega)]; exact hf, plD_few l1 fD o, fE.more (Nat.le_succ _), by rw [plD_len l1]; exact h8⟩
set_option maxRecDepth 100000 in
set_option maxHeartbeats 8000000 in
theorem walk (w : World) (l : Value) (xl : List Disk.Oi) (hl : SS Disk.cOi 5 w w.heap.size l xl) (bl : ∀ o ∈ xl, Disk.OiAt w w.heap.size o) :
    Calls Try.prog 8 #[l] w fun e w' => e = .returned (.bool true) ∧ Below w.heap.size w w' := by
  obtain ⟨A, c, rfl, hlc, hcm⟩ := hl.form
  unfold maxLen at hcm
  have HV := Lib.hid (fun W (hW : Below w.heap.size w W) => heavy_any W 8 8 A c xl hcm hlc ((hl.below hW).more hW.size) (fun x hx => (bl x hx).ok))
  have HL := Lib.hid hl
  have BL := Lib.hid bl
  have KN := Lib.hid (fun W => known_any W)
  have hl60 : hvy 8 8 xl = false → xl.length ≤ 60 := fun hh => by
    rcases Nat.lt_or_ge 60 xl.length with h | h
    · unfold hvy at hh; rw [decide_eq_true h] at hh; simp at hh
    · exact h
  have NW := Lib.hid (fun W => new_at 8 8 W 8 8 rfl rfl (by decide) (by decide))
  have H60 := Lib.hid hl60
  clear hl bl hl60
  obtain ⟨q, hq⟩ : ∃ q, q = hvy 8 8 xl := ⟨_, rfl⟩
  have HQ := Lib.hid hq
  have HV0 := Lib.hid (HV.out w (Below.refl _ _))
  rw [← hq] at HV0
  clear hq
  go_enter Try.func8, Try.ntmps8
  go_wp2_with (first
    | (go_at_call 9; (with_reducible refine HV0.out.mono ?_); rintro e w1 ⟨rfl, rfl⟩)
    | (go_at_call 10; (with_reducible refine (known_any _).mono ?_); rintro e w3 ⟨rfl, hb3⟩; have HB3 := Lib.hid hb3; clear hb3)
    | fail)
  · go_ret
    exact ⟨rfl, HB3.out⟩
  · have hqf : ¬ q = true := by assumption
    have h60 : xl.length ≤ 60 := H60.out (by rw [← HQ.out]; simpa using hqf)
    clear hqf
    (with_reducible refine (NW.out _).mono ?_)
    rintro e w4 ⟨rfl, o1⟩
    have O1 : Hid (Out w3 w4 M8 2) := Lib.hid o1
    have HB4 := Lib.hid (show Below w1.heap.size w1 w4 from by obtain ⟨_, _, _, _, _, h⟩ := o1; exact step_ HB3.out h)
    clear o1
    go_wp2_with fail
    (with_reducible refine (NW.out _).mono ?_)
    rintro e w5 ⟨rfl, o2⟩
    have RS := Lib.hid (Rel.start O1.out (show Out w4 w5 M8 2 from o2) HB3.out.size)
    have HB5 := Lib.hid (show Below w1.heap.size w1 w5 from by obtain ⟨_, _, _, _, _, h⟩ := o2; exact step_ HB4.out h)
    clear o2
    obtain ⟨a, ea⟩ : ∃ a, a = w3.heap.size := ⟨_, rfl⟩
    obtain ⟨b, eb⟩ : ∃ b, b = w4.heap.size := ⟨_, rfl⟩
    rw [← ea, ← eb] at RS
    rw [← ea, ← eb]
    clear ea eb
    go_wp2
    go_loopw [5] (fun i wr => ∃ j : Nat, i = .int .i64 j ∧ j ≤ xl.length ∧ Hid (Rel w1.heap.size wr a b j) ∧ Hid (Below w1.heap.size w1 wr)) (fun i _ => xl.length - (intOf i).toNat)
    case atStart => exact ⟨0, rfl, by omega, RS, HB5⟩
    case round =>
      obtain ⟨j, rfl, hj, HR, HBL⟩ := hrel
      by_cases hlt : j < xl.length
      · have HX := Lib.hid (BL.out xl[j] (List.getElem_mem hlt))
        obtain ⟨bo, off, rfl, hb, hcell⟩ := (HL.out.below HBL.out).at_ (List.getElem?_eq_getElem hlt)
        generalize xl[j] = x at *
        obtain ⟨o, xa, xb⟩ := x
        obtain ⟨A1, c1, e1, _⟩ := HX.out.2.1.form
        obtain ⟨A2, c2, e2, _⟩ := HX.out.2.2.form
        simp only at e1 e2
        subst e1 e2
        obtain ⟨L1, hL1⟩ : ∃ L, L = o.xs.length := ⟨_, rfl⟩
        obtain ⟨L2, hL2⟩ : ∃ L, L = o.fs.length := ⟨_, rfl⟩
        rw [← hL1, ← hL2] at HX hcell
        clear hL1 hL2
        have y0 : wr.cell? ⟨bo, off + j * 5, none⟩ = some (.int .u8 o.k) := hcell 0 _ rfl
        have y1 : wr.cell? ⟨bo, off + j * 5 + 1, none⟩ = some (.int .u8 o.f) := hcell 1 _ rfl
        have y2 : wr.cell? ⟨bo, off + j * 5 + 2, none⟩ = some (.int .i64 o.s) := hcell 2 _ rfl
        have y3 : wr.cell? ⟨bo, off + j * 5 + 3, none⟩ = some (.slice A1 L1 c1) := hcell 3 _ rfl
        have y4 : wr.cell? ⟨bo, off + j * 5 + 4, none⟩ = some (.slice A2 L2 c2) := hcell 4 _ rfl
        obtain ⟨D, E, hp, l1, l2, hf, fD, fE, h8⟩ := HR.out
        obtain ⟨w5', hw5⟩ : ∃ w', w' = wr.alloc (.cells (opC o (.slice A1 L1 c1) (.slice A2 L2 c2)) 33) := ⟨_, rfl⟩
        have PK := Lib.hid (hp.fresh (.cells (opC o (.slice A1 L1 c1) (.slice A2 L2 c2)) 33))
        have BX := Lib.hid (Box.new wr (opC o (.slice A1 L1 c1) (.slice A2 L2 c2)) 33)
        have FW := Lib.hid (And.intro l1 (And.intro l2 (And.intro hf (And.intro fD (And.intro fE h8)))))
        have HBW := Lib.hid (new_ HBL.out (.cells (opC o (.slice A1 L1 c1) (.slice A2 L2 c2)) 33))
        rw [← hw5] at PK BX HBW
        have kb := BX.out.cell
        have FD := Lib.hid (FW.out.2.2.2.1.more (show j ≤ 100000 by omega))
        have FE := Lib.hid (FW.out.2.2.2.2.1.more (show j ≤ 100000 by omega))
        have OF := Lib.hid HX.out.1.2.1.1
        have PA := Lib.hid (plays_pair PK.out HBW.out.size FD.out _ HBW.out HX.out)
        clear hcell hp l1 l2 hf fD fE h8
        by_cases h1 : o.f = 1
        · have d1 : (o.f == 1) = true := by rw [h1]; rfl
          have H1 := Lib.hid h1
          clear h1
          go_wp2_with fail
          rw [← hw5]
          (with_reducible refine PA.out.mono ?_)
          rintro e w6 ⟨rfl, p6, b6, f6⟩
          clear hw5 kb
          have BX6 := Lib.hid (BX.out.fr f6 (fun h => h rfl))
          have kb6 := BX6.out.cell
          have HB6 := Lib.hid (HBW.out.trans b6)
          have PB := Lib.hid (plays_pair p6.swap HB6.out.size FE.out _ HB6.out HX.out)
          clear p6 b6 f6
          go_wp2_with fail
          (with_reducible refine PB.out.mono ?_)
          rintro e w7 ⟨rfl, p7, b7, _⟩
          have R7 := Lib.hid (Rel.both H1.out FW.out p7.drop.swap)
          have HB7 := Lib.hid (HB6.out.trans b7)
          clear p7 b7 kb6
          go_wp2
          go_roundw
          case rel => exact ⟨j + 1, by go_num, by omega, R7, HB7⟩
          case measure => simp [intOf]; omega
        · have d1 : (o.f == 1) = false := by rw [beq_eq_false_iff_ne]; exact h1
          have H1 := Lib.hid h1
          go_wp2_with fail
          rw [← hw5]
          (with_reducible refine PA.out.mono ?_)
          rintro e w6 ⟨rfl, p6, b6, f6⟩
          clear hw5 kb
          have BX6 := Lib.hid (BX.out.fr f6 (fun h => h rfl))
          have kb6 := BX6.out.cell
          have HB6 := Lib.hid (HBW.out.trans b6)
          have R6 := Lib.hid (Rel.one OF.out H1.out FW.out p6.drop)
          clear p6 b6 f6
          go_wp2
          go_roundw
          case rel => exact ⟨j + 1, by go_num, by omega, R6, HB6⟩
          case measure => simp [intOf]; omega
      · have hjj : j ≤ 60 := by omega
        go_wp2
        go_loopw [7] (fun i wz => ∃ k : Nat, i = .int .i64 k ∧ k ≤ 8 ∧ Hid (Rel w1.heap.size wz a b j) ∧ Hid (Below w1.heap.size w1 wz)) (fun i _ => 8 - (intOf i).toNat)
        case atStart => exact ⟨0, rfl, by omega, HR, HBL⟩
        case round =>
          obtain ⟨k, rfl, hk, HR2, HB2⟩ := hrel
          by_cases hk8 : k < 8
          · obtain ⟨D, E, hp, l1, l2, hf, fD, fE, h8⟩ := HR2.out
            obtain ⟨s, hs⟩ : ∃ s, (D.f 1)[k]? = some s := ⟨_, List.getElem?_eq_getElem (by omega)⟩
            have hs' : (E.f 1)[k]? = some s := by rw [← hf]; exact hs
            have hsw : s.wait.length ≤ 100000 := Nat.le_trans (fD 1 (by decide) s (List.mem_of_getElem? hs)) (by omega)
            have HP := Lib.hid hp
            have FW := Lib.hid (And.intro l1 (And.intro l2 (And.intro hf (And.intro fD (And.intro fE h8)))))
            have HS := Lib.hid (And.intro hs (And.intro hs' hsw))
            clear hp l1 l2 hf fD fE h8 hs hs' hsw
            go_wp2_with fail
            have HR3 := Lib.hid (show ∃ u : Unit, True from ⟨(), trivial⟩)
            obtain ⟨SA, ca, fa, ua, ha⟩ := HP.out.one
            (with_reducible refine (read_at 1 k ha 1 rfl (by decide) k s HS.out.1 HS.out.2.2 rfl).mono ?_)
            rintro e w6 ⟨u6, rfl, o6, hb6⟩
            have HP6 := Lib.hid (HP.out.later hb6)
            have O6 := Lib.hid o6
            have HB6 := Lib.hid hb6
            clear ha o6 hb6 HR3
            go_wp2_with fail
            obtain ⟨SB, cb, fb, ub, hb⟩ := HP6.out.swap.one
            (with_reducible refine (read_at 1 k hb 1 rfl (by decide) k s HS.out.2.1 HS.out.2.2 rfl).mono ?_)
            rintro e w7 ⟨u7, rfl, o7, hb7⟩
            have HP7 := Lib.hid (HP6.out.later hb7)
            have O7 := Lib.hid o7
            have I6 := Lib.hid (IR.of_own (own_below O6.out hb7))
            have I7 := Lib.hid (IR.of_own o7)
            have HB7 := Lib.hid (step_ (step_ HB2.out HB6.out) hb7)
            clear hb o7 hb7
            go_wp2_with fail
            obtain ⟨SA, ca, fa, ua, ha⟩ := HP7.out.one
            have HBY := Lib.hid (cur_bytes ha (by decide) HS.out.1)
            have WA := Lib.hid (waits_at 1 k ha 1 rfl (by decide) k s HS.out.1 rfl)
            obtain ⟨SB, cb, fb, ub, hb⟩ := HP7.out.swap.one
            have WB := Lib.hid (waits_at 1 k hb 1 rfl (by decide) k s HS.out.2.1 rfl)
            clear ha hb
            (with_reducible refine (Blk.same_any _ _ s.cur s.cur _ _ _ I6.out I7.out HBY.out HBY.out).mono ?_)
            rintro e w8 ⟨rfl, rfl⟩
            rw [decide_eq_true rfl]
            go_wp2_with (first
              | ((with_reducible refine WA.out.mono ?_); rintro e w9 ⟨rfl, rfl⟩)
              | ((with_reducible refine WB.out.mono ?_); rintro e w9 ⟨rfl, rfl⟩)
              | fail)
            go_roundw
            case rel => exact ⟨k + 1, by go_num, by omega, Lib.hid ⟨D, E, HP7.out, FW.out⟩, HB7⟩
            case measure => simp [intOf]; omega
          · have hk8' : k = 8 := by omega
            subst hk8'
            go_wp2_with fail
            obtain ⟨D, E, hp, FWR⟩ := HR2.out
            have hf := FWR.2.2.1
            have HP := Lib.hid hp
            obtain ⟨SA, ca, fa, ua, ha⟩ := HP.out.one
            (with_reducible refine (image_at 1 ha 1 rfl (by decide)).mono ?_)
            rintro e w6 ⟨v6, l6, rfl, t6, m6, hb6⟩
            have Y6 := Lib.hid (img_bytes ha (by decide) m6)
            have T6 := Lib.hid t6
            have M6 := Lib.hid m6
            have HP6 := Lib.hid (HP.out.later hb6)
            have HB6 := Lib.hid (step_ HB2.out hb6)
            have HF := Lib.hid hf
            clear ha t6 m6 hb6 FWR hf hp
            go_wp2_with fail
            obtain ⟨SB, cb, fb, ub, hb⟩ := HP6.out.swap.one
            (with_reducible refine (image_at 1 hb 1 rfl (by decide)).mono ?_)
            rintro e w7 ⟨v7, l7, rfl, t7, m7, hb7⟩
            have S6 := Lib.hid ((T6.out.later hb7).sr Y6.out)
            have S7 := Lib.hid (t7.sr (img_bytes hb (by decide) m7))
            have HB7 := Lib.hid (step_ HB6.out hb7)
            have EQ := Lib.hid (show (l6.map (·.2)).map (·.2) = (l7.map (·.2)).map (·.2) from by
              have e6 : (l6.map (·.2)).map (·.2) = l6.map (·.2.2) := by rw [List.map_map]; rfl
              have e7 : (l7.map (·.2)).map (·.2) = l7.map (·.2.2) := by rw [List.map_map]; rfl
              rw [e6, e7, M6.out, m7, HF.out])
            clear hb t7 m7 hb7
            go_wp2_with fail
            (with_reducible refine (Blk.same_blocks _ _ _ _ _ _ _ S6.out S7.out).mono ?_)
            rintro e w8 ⟨rfl, d, rfl⟩
            rw [decide_eq_true EQ.out]
            go_wp2
            go_ret
            exact ⟨rfl, below_drewN HB7.out d⟩


set_option maxRecDepth 100000 in
theorem lifted (os : Os) (started : os.Started) (H : Type) (enc : TypeId × Value → H) :
    ReturnsInHanded {} Try.checked os 8 .any (Rows.diskApartSpec.pre6 enc Try.prog Try.f8 Rows.diskApartRow.domain false) (Rows.diskApartSpec.post enc Try.prog Try.f8 false true false false) := by
  refine returnsInHanded_of_change (C := Try.checked) own started (by kernel_rfl) Try.func8
    (ChangeSpec.witness6 (enc := enc) (C := Try.checked) false ⟨#[], #[.slice none 0 0], []⟩ 8 (by kernel_rfl) (by kernel_rfl) (by kernel_rfl) (by kernel_rfl)) ?_
  intro W base args ds gs before hval0 hW hcnd _
  have hval : ∀ (j : Nat) t v, Try.f8.params[j]? = some t → args[j]? = some v → Value.okWide Try.prog W .any base t v := hval0
  have hW' := hW
  obtain ⟨p, q, hA0, hV, rfl, hfz, hnd⟩ := hW
  have hA1 : DataW.TrodAll enc Try.prog W 0 (fun _ => true) true Try.f8.params.toList args.toList ds p := hA0
  have hA := hA1
  rw [Try.params8] at hA hval
  obtain ⟨v0, vs0, d0, ds0, p0, q0, hargs, rfl, rfl, h0, r0⟩ := trodAll_cons hA
  obtain ⟨rfl, rfl, rfl⟩ := trodAll_nil r0
  obtain rfl : args = #[v0] := by cases args; simp_all
  obtain ⟨rfl, rfl⟩ := trodVars_none hV
  obtain ⟨xl, i0, wf0⟩ := Disk.open_opns (hval 0 22 v0 rfl rfl) h0
  clear hA0 hval0
  refine (walk W v0 xl i0 wf0).mono fun e W' ⟨he, bel⟩ => ?_
  subst he
  exact ⟨_, rfl, _, _, _, [], _, [], hW', trodAll_mk1 (shut_bool Try.underlying4 _), args_again laidOut bel (by kernel_rfl) hA1, rfl, bel.frame _, fun h => by cases h⟩

theorem over : Rows.diskApartRow.holds Try.pinned (OpenSpec.ofChange Rows.diskApartSpec) :=
  OpenClaim.holds_of_wide 8 Try.f8 rfl rfl rfl rfl rfl rfl rfl ⟨rfl, rfl, rfl, rfl, rfl⟩ rfl rfl rfl rfl rfl (by kernel_rfl) Try.func8 (by kernel_rfl)
    (of_decide_eq_true (by kernel_rfl)) (by unfold Func.isWrapper; first | (rw [if_pos (by decide +kernel)]; kernel_rfl) | (rw [if_neg (by decide +kernel)]; exact ⟨rfl, rfl⟩))
    (fun os started H enc _ => lifted os started H enc)

theorem proved : Rows.DiskApartSaid := over
end Go.Proofs.Ytplombkpefacgaa.LDiskApart
