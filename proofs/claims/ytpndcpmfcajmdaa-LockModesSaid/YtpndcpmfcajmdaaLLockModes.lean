/- The law manciplelaw13.LockModes returns true whatever it is called with, and what it was called with reads as it did. No condition. -/
import Derived.Test.YtpndcpmfcajmdaaLaw
import Derived.Test.YtpndcpmfcajmdaaLkU
import Derived.Deep.DeepCutAuto
import Derived.Deep.QuietTactic
namespace Go.Proofs.Ytpndcpmfcajmdaa.LLockModes
open Go.ChangeShapes Go.WideShapes Go.ChangeAt Go.RowKit Go.IntWalk Go.Proofs.Mem Law
set_option linter.unusedVariables false
open Go.Proofs.Ytpndcpmfcajmdaa.Lock Go.Proofs.Each
set_option maxRecDepth 100000 in
set_option maxHeartbeats 16000000 in
theorem walk (w : World) (l : Value) (xl : List Lock.Lo) (hl : SS Lock.cLo 6 w w.heap.size l xl) (bl : ∀ o ∈ xl, Lock.Lo.Ok o) (o : Lock.Lo) (ho : o.Ok) :
    Calls Try.prog 4 #[l, .agg #[.int .u8 o.kd, .int .u32 o.t, .int .u8 o.k.k, .int .u32 o.k.a, .int .u32 o.k.b, .int .u8 o.m]] w fun e w' => e = .returned (.bool true) ∧ Below w.heap.size w w' := by
  obtain ⟨A, c, rfl, hlc, hcm⟩ := hl.form
  have HL := Lib.hid hl
  have BL := Lib.hid bl
  have KN := Lib.hid (fun W => known_any W)
  obtain ⟨okd, ot, ⟨oky, oka, okb⟩, om⟩ := o
  have HO0 := Lib.hid ho
  have hb0 := new_ (Below.refl w.heap.size w) (.cells #[.int .u8 okd, .int .u32 ot, .int .u8 oky, .int .u32 oka, .int .u32 okb, .int .u8 om] 33)
  have X2 := Lib.hid (Box.new w #[.int .u8 okd, .int .u32 ot, .int .u8 oky, .int .u32 oka, .int .u32 okb, .int .u8 om] 33)
  obtain ⟨x2, hx2⟩ : ∃ x, w.heap.size = x := ⟨_, rfl⟩
  have hs1 : (w.alloc (.cells #[.int .u8 okd, .int .u32 ot, .int .u8 oky, .int .u32 oka, .int .u32 okb, .int .u8 om] 33)).heap.size = x2 + 1 := by rw [← hx2]; simp
  rw [hx2] at hb0 X2
  obtain ⟨w1, hw1⟩ : ∃ w1, w.alloc (.cells #[.int .u8 okd, .int .u32 ot, .int .u8 oky, .int .u32 oka, .int .u32 okb, .int .u8 om] 33) = w1 := ⟨_, rfl⟩
  rw [hw1] at hb0 X2 hs1
  have HX2 := Lib.hid hx2
  have HB1 := Lib.hid hb0
  have HS1 := Lib.hid hs1
  clear hl bl hb0 hs1 ho
  by_cases hlen : 40 < xl.length
  · have d1 : decide (40 < (xl.length : Int)) = true := decide_eq_true (by omega)
    have d1' : decide (40 < xl.length) = true := decide_eq_true hlen
    go_enter Try.func4, Try.ntmps4
    go_wp2_with fail
    (with_reducible refine (KN.out _).mono ?_)
    rintro e w2 ⟨rfl, hb2⟩
    go_wp2
    go_ret
    exact ⟨rfl, by rw [HX2.out]; exact HB1.out.trans (hb2.mono (by have := HS1.out; omega))⟩
  · have d1 : decide (40 < (xl.length : Int)) = false := decide_eq_false (by omega)
    have d1' : decide (40 < xl.length) = false := decide_eq_false hlen
    have hl40 : xl.length ≤ 60 := by omega
    have HN := Lib.hid hl40
    have HSS : Hid (∀ W, Below (x2 + 1) w1 W → SS Lock.cLo 6 W W.heap.size (.slice A xl.length c) xl) := Lib.hid (fun W hW =>
      ((HL.out.below (by rw [HX2.out]; exact HB1.out.trans (hW.mono (Nat.le_succ _)))).more (by have := HX2.out; have := HB1.out.size; have := hW.size; have := HS1.out; omega)))
    have CRN := Lib.hid (fun (W : World) (h : SS Lock.cLo 6 W W.heap.size (.slice A xl.length c) xl) => run_any W _ xl h BL.out HN.out)
    clear hlc hcm hlen hl40
    go_enter Try.func4, Try.ntmps4
    go_wp2_with fail
    (with_reducible refine (KN.out _).mono ?_)
    rintro e w2 ⟨rfl, hb2⟩
    have HB2 := Lib.hid (show Below (x2 + 1) w1 w2 from hb2.mono (by have := HS1.out; omega))
    have HZ2 := Lib.hid (show x2 + 1 ≤ w2.heap.size by have := HS1.out; have := hb2.size; omega)
    have HSW := Lib.hid (HSS.out w2 HB2.out)
    clear hb2
    go_wp2_with fail
    (with_reducible refine (CRN.out _ HSW.out).mono ?_)
    rintro e w3 ⟨t, V, T, S, rfl, hp3, hb3, hz3⟩
    obtain ⟨Nb, hNb, htb⟩ := hp3.tab
    have HI := Lib.hid (inv_run hp3.run)
    have HT := Lib.hid htb
    have HWI := Lib.hid (IR.of_own hp3.who)
    obtain ⟨A3, c3, rfl, _, _⟩ := own_is hp3.who
    have HB3 := Lib.hid (show Below (x2 + 1) w1 w3 from HB2.out.trans (hb3.mono HZ2.out))
    have HBS := Lib.hid (show ∀ x, S x → x2 + 1 ≤ x from fun x hx => Nat.le_trans HZ2.out (hp3.base x hx))
    have HZ3 := Lib.hid (show x2 + 1 ≤ w3.heap.size from Nat.le_trans HZ2.out hz3)
    have HNB := Lib.hid (show Nb ≤ 6000 ∧ (whoOf xl).length ≤ 60 from ⟨by have := HN.out; omega, by have := who_len xl; have := HN.out; omega⟩)
    obtain ⟨n, hn⟩ : ∃ n, (whoOf xl).length = n := ⟨_, rfl⟩
    have HNW := Lib.hid hn
    rw [hn] at HWI ⊢
    have bn : (n : Int) ≤ 60 := by have := HNB.out.2; omega
    have HWO := Lib.hid (who_ok BL.out)
    have CH := Lib.hid (fun (W : World) (x : Int) (hW : Below w3.heap.size w3 W) (hx : U32 x) => tholds_any W S Nb xl.length t T x (HT.out.later hW) hx (by have := HNB.out.1; omega))
    have CM := Lib.hid (fun (W : World) (x : Int) (k : Ky) (hW : Below w3.heap.size w3 W) (hx : U32 x) => mode_any W S Nb xl.length t T x k (HT.out.later hW) hx (by have := HNB.out.1; omega))
    clear hp3 hb3 hz3 hNb htb hn CRN HSW HSS KN d1 d1'
    go_wp2
    go_loopw [7, 8, 9, 10, 11] (fun s7 _ _ _ _ wr => ∃ i : Nat, s7 = .int .i64 i ∧ i ≤ n ∧ Hid (Below w3.heap.size w3 wr)) (fun s7 _ _ _ _ _ => n - (intOf s7).toNat)
    case atStart => exact ⟨0, rfl, Nat.zero_le _, Lib.hid (Below.refl _ _)⟩
    case round =>
      obtain ⟨i, rfl, hi, HB⟩ := hrel
      obtain ⟨w4, rfl⟩ : ∃ w4, w4 = wr := ⟨wr, rfl⟩
      by_cases hil : i < n
      · have d1 : decide ((i : Int) < (n : Int)) = true := by simp; omega
        have d1' : decide (i < n) = true := by simp; omega
        obtain ⟨x, hx⟩ : ∃ x, (whoOf xl)[i]? = some x := ⟨_, List.getElem?_eq_getElem (by have := HNW.out; omega)⟩
        have hxe : (whoOf xl).getD i 0 = x := by rw [List.getD, hx]; rfl
        obtain ⟨bl, ol, hA, hbl, hcell⟩ := HWI.out.index i hil
        rw [hxe] at hcell
        subst hA
        have HXI := Lib.hid hx
        have HXU := Lib.hid (HWO.out x (List.mem_of_getElem? hx))
        have k1 : w4.cell? ⟨bl, ol + i, none⟩ = some (.int .u32 x) := by rw [HB.out.cell (p := ⟨bl, ol + i, none⟩) hbl]; exact hcell
        have hw2 : IntKind.i64.wrap ((i : Int) + 1) = ((i + 1 : Nat) : Int) := by rw [IntKind.wrap_i64]; omega
        clear hx hxe hcell
        go_wp2_with fail
        (with_reducible refine (CH.out _ _ HB.out HXU.out).mono ?_)
        rintro e w5 ⟨v5, ks, rfl, ho5, hr5, hb5⟩
        have hss := hold_ss hr5
        obtain ⟨A5, c5, rfl, _, _⟩ := hss.form
        have HM := Lib.hid (hlist_mem ho5)
        have hlen := ss_len hss
        obtain ⟨hl, hhl⟩ : ∃ hl, hlist T x ks = hl := ⟨_, rfl⟩
        rw [hhl] at HM hss hlen ⊢
        obtain ⟨nh, hnh⟩ : ∃ nh, hl.length = nh := ⟨_, rfl⟩
        have HNH := Lib.hid hnh
        rw [hnh] at hss hlen ⊢
        have H5 := Lib.hid hss
        have HB5 := Lib.hid (show Below w3.heap.size w3 w5 from HB.out.trans (hb5.mono HB.out.size))
        clear ho5 hr5 hb5 hss hhl hnh k1
        go_wp2
        go_loopw [9, 10, 11] (fun s9 _ _ wr => ∃ k : Nat, s9 = .int .i64 k ∧ k ≤ nh ∧ Hid (Below w5.heap.size w5 wr)) (fun s9 _ _ _ => nh - (intOf s9).toNat)
        case atStart => exact ⟨0, rfl, Nat.zero_le _, Lib.hid (Below.refl _ _)⟩
        case round =>
          obtain ⟨k, rfl, hk, HB6⟩ := hrel
          obtain ⟨w6, rfl⟩ : ∃ w6, w6 = wr := ⟨wr, rfl⟩
          by_cases hkl : k < nh
          · have d2 : decide ((k : Int) < (nh : Int)) = true := by simp; omega
            have d2' : decide (k < nh) = true := by simp; omega
            obtain ⟨h, hh⟩ : ∃ h, hl[k]? = some h := ⟨_, List.getElem?_eq_getElem (by have := HNH.out; omega)⟩
            obtain ⟨bk, ok, hA5, hbk, hcell⟩ := H5.out.at_ hh
            subst hA5
            obtain ⟨hm', hhm⟩ : ∃ k m, h = hdOf k m ∧ (T.ent k).hv x = some m := (HM.out h).1 (List.mem_of_getElem? hh)
            obtain ⟨m, rfl, hhv⟩ := hhm
            obtain ⟨hky, hka, hkb⟩ := hm'
            have HHV := Lib.hid hhv
            have HCH := Lib.hid (fun (W : World) (hW : Below w5.heap.size w5 W) (j : Nat) (u : Value) (hj : (cHd (hdOf ⟨hky, hka, hkb⟩ m))[j]? = some u) => (hW.cell (p := ⟨bk, ok + k * 4 + j, none⟩) hbk).trans (hcell j u hj))
            have hw3 : IntKind.i64.wrap ((k : Int) + 1) = ((k + 1 : Nat) : Int) := by rw [IntKind.wrap_i64]; omega
            clear hh hcell hhv
            go_wp2
            go_loopw [10, 11] (fun s10 _ wr => ∃ j : Nat, s10 = .int .i64 j ∧ j ≤ n ∧ Hid (Below w5.heap.size w5 wr)) (fun s10 _ _ => n - (intOf s10).toNat)
            case atStart => exact ⟨0, rfl, Nat.zero_le _, HB6⟩
            case round =>
              obtain ⟨j, rfl, hj, HB7⟩ := hrel
              obtain ⟨w7, rfl⟩ : ∃ w7, w7 = wr := ⟨wr, rfl⟩
              by_cases hjl : j < n
              · have d3 : decide ((j : Int) < (n : Int)) = true := by simp; omega
                have d3' : decide (j < n) = true := by simp; omega
                obtain ⟨y, hy⟩ : ∃ y, (whoOf xl)[j]? = some y := ⟨_, List.getElem?_eq_getElem (by have := HNW.out; omega)⟩
                have hye : (whoOf xl).getD j 0 = y := by rw [List.getD, hy]; rfl
                obtain ⟨bl2, ol2, hA2, hbl2, hcell⟩ := HWI.out.index j hjl
                rw [hye] at hcell
                injection hA2 with hA2
                injection hA2 with hA3 hA4
                subst hA3
                subst hA4
                have HYI := Lib.hid hy
                have HYU := Lib.hid (HWO.out y (List.mem_of_getElem? hy))
                have HB37 := Lib.hid (show Below w3.heap.size w3 w7 from HB5.out.trans (HB7.out.mono HB5.out.size))
                have e1 : w7.cell? ⟨bl, ol + j, none⟩ = some (.int .u32 y) := by rw [HB37.out.cell (p := ⟨bl, ol + j, none⟩) hbl]; exact hcell
                have e2 : w7.cell? ⟨bk, ok + k * 4, none⟩ = some (.int .u8 hky) := HCH.out w7 HB7.out 0 _ rfl
                have e3 : w7.cell? ⟨bk, ok + k * 4 + 1, none⟩ = some (.int .u32 hka) := HCH.out w7 HB7.out 1 _ rfl
                have e4 : w7.cell? ⟨bk, ok + k * 4 + 2, none⟩ = some (.int .u32 hkb) := HCH.out w7 HB7.out 2 _ rfl
                have mixed : Try.prog.follows .mixedOrders = true := by kernel_rfl
                have CC := Lib.hid (CM.out w7.drew y ⟨hky, hka, hkb⟩ (below_drewN HB37.out 1) HYU.out)
                obtain ⟨M, hM⟩ : ∃ M, ((T.ent ⟨hky, hka, hkb⟩).hv y).getD 0 = M := ⟨_, rfl⟩
                rw [hM] at CC
                have HMM := Lib.hid hM
                have hw4 : IntKind.i64.wrap ((j : Int) + 1) = ((j + 1 : Nat) : Int) := by rw [IntKind.wrap_i64]; omega
                clear hy hye hcell hM
                go_upto_region 16 with fail
                go_cut [11] (fun v wx => v = .int .u8 M ∧ Hid (Below w7.heap.size w7.drew wx))
                case first =>
                  go_region_with (go_at_call 18; (with_reducible refine CC.out.mono ?_); rintro er w8 ⟨rfl, hb8⟩; have HB8 := Lib.hid hb8; clear hb8)
                  all_goals (go_wp2; go_meet; exact ⟨rfl, HB8⟩)
                case rest =>
                obtain ⟨rfl, HB8⟩ := hcut
                rename_i hKK
                refine hKK _ _ ?_
                clear hKK CC e1 e2 e3 e4
                obtain ⟨w8, rfl⟩ : ∃ w8, w8 = wc := ⟨wc, rfl⟩
                have HB9 := Lib.hid (show Below w5.heap.size w5 w8 from HB7.out.drew.trans (HB8.out.mono HB7.out.size))
                have e5 : w8.cell? ⟨bk, ok + k * 4 + 3, none⟩ = some (.int .u8 m) := HCH.out w8 HB9.out 3 _ rfl
                clear HB8 HB7 HB37
                by_cases hji : j = i
                · have n1 : ((j : Int) != (i : Int)) = false := by simp [hji]
                  clear hji
                  go_wp2
                  go_roundw
                  case rel => exact ⟨j + 1, by go_num, by omega, HB9⟩
                  case measure => simp [intOf]; omega
                · have n1 : ((j : Int) != (i : Int)) = true := by simp; omega
                  by_cases hM0 : M = 0
                  · have n2 : (M != 0) = false := by simp [hM0]
                    clear hM0 hji
                    go_wp2
                    go_roundw
                    case rel => exact ⟨j + 1, by go_num, by omega, HB9⟩
                    case measure => simp [intOf]; omega
                  · have n2 : (M != 0) = true := by simp [hM0]
                    have hMs : (T.ent ⟨hky, hka, hkb⟩).hv y = some M := by
                      have := HMM.out
                      cases hh : (T.ent ⟨hky, hka, hkb⟩).hv y with
                      | none => rw [hh] at this; exact absurd this.symm hM0
                      | some z => rw [hh] at this; exact congrArg some this
                    obtain ⟨q1, q2⟩ := HI.out.two _ _ _ _ _ HHV.out hMs (fun e => who_two HXI.out HYI.out hji e.symm)
                    have n3 : (M == 2) = false := by rw [q2]; rfl
                    have n4 : (m == 2) = false := by rw [q1]; rfl
                    clear hM0 hji hMs q1 q2
                    go_wp2
                    go_roundw
                    case rel => exact ⟨j + 1, by go_num, by omega, HB9⟩
                    case measure => simp [intOf]; omega
              · have d3 : decide ((j : Int) < (n : Int)) = false := by simp; omega
                have d3' : decide (j < n) = false := by simp; omega
                go_wp2
                go_roundw
                case rel => exact ⟨k + 1, by go_num, by omega, HB7⟩
                case measure => simp [intOf]; omega
          · have d2 : decide ((k : Int) < (nh : Int)) = false := by simp; omega
            have d2' : decide (k < nh) = false := by simp; omega
            have HB7 := Lib.hid (show Below w3.heap.size w3 w6 from HB5.out.trans (HB6.out.mono HB5.out.size))
            go_wp2
            go_roundw
            case rel => exact ⟨i + 1, by go_num, by omega, HB7⟩
            case measure => simp [intOf]; omega
      · have d1 : decide ((i : Int) < (n : Int)) = false := by simp; omega
        have d1' : decide (i < n) = false := by simp; omega
        have hX := X2.out.below (HB3.out.trans (HB.out.mono HZ3.out)) (Nat.lt_succ_self _)
        have e1 : w4.cell? ⟨x2, 1, none⟩ = some (.int .u32 ot) := by rw [hX.cell 1]; rfl
        have e2 : w4.cell? ⟨x2, 2, none⟩ = some (.int .u8 oky) := by rw [hX.cell 2]; rfl
        have e3 : w4.cell? ⟨x2, 3, none⟩ = some (.int .u32 oka) := by rw [hX.cell 3]; rfl
        have e4 : w4.cell? ⟨x2, 4, none⟩ = some (.int .u32 okb) := by rw [hX.cell 4]; rfl
        have e5 : w4.cell? ⟨x2, 5, none⟩ = some (.int .u8 om) := by rw [hX.cell 5]; rfl
        have HX4 := Lib.hid hX
        have CA := Lib.hid (ask_any w4 S Nb xl.length t T ot ⟨oky, oka, okb⟩ om (HT.out.later HB.out) HO0.out.2.1 HO0.out.2.2.1 (by have := HNB.out.1; omega) (by have := HN.out; omega))
        obtain ⟨q, hq⟩ : ∃ q, askB T ot ⟨oky, oka, okb⟩ om = q := ⟨_, rfl⟩
        obtain ⟨T', hT'⟩ : ∃ T', askT T ot ⟨oky, oka, okb⟩ om = T' := ⟨_, rfl⟩
        have hqm := ask_mode (t := ot) (k := ⟨oky, oka, okb⟩) (m := om) HI.out
        rw [hq, hT'] at hqm
        rw [hq, hT'] at CA
        obtain ⟨r, hr⟩ : ∃ r, ((T'.ent ⟨oky, oka, okb⟩).hv ot).getD 0 = r := ⟨_, rfl⟩
        rw [hr] at hqm
        have HR := Lib.hid hr
        have HQM := Lib.hid hqm
        clear hX hq hT' hqm hr
        go_wp2_with fail
        (with_reducible refine (CA.out).mono ?_)
        rintro e w5 ⟨rfl, S5, h51, h52, h53⟩
        have HX5 := HX4.out.fr h52 (fun h => by have := HBS.out _ h; omega)
        have f1 : w5.cell? ⟨x2, 1, none⟩ = some (.int .u32 ot) := by rw [HX5.cell 1]; rfl
        have f2 : w5.cell? ⟨x2, 2, none⟩ = some (.int .u8 oky) := by rw [HX5.cell 2]; rfl
        have f3 : w5.cell? ⟨x2, 3, none⟩ = some (.int .u32 oka) := by rw [HX5.cell 3]; rfl
        have f4 : w5.cell? ⟨x2, 4, none⟩ = some (.int .u32 okb) := by rw [HX5.cell 4]; rfl
        have CM5 := Lib.hid (mode_any w5 S5 (Nb + 1) (xl.length + 1) t T' ot ⟨oky, oka, okb⟩ h51 HO0.out.2.1 (by have := HNB.out.1; omega))
        rw [HR.out] at CM5
        have HBX5 := Lib.hid HX5
        have HB15 := Lib.hid (show Below (x2 + 1) w1 w5 from (HB3.out.trans (HB.out.mono HZ3.out)).trans (h52.to_below HBS.out (Nat.le_trans HZ3.out HB.out.size)))
        have HZ5 := Lib.hid (show x2 + 1 ≤ w5.heap.size from Nat.le_trans (Nat.le_trans HZ3.out HB.out.size) h52.size)
        clear h51 h52 h53 HX5 e1 e2 e3 e4 e5 CA
        go_wp2_with fail
        (with_reducible refine (CM5.out).mono ?_)
        rintro e w6 ⟨rfl, hb6⟩
        have hX6 := HBX5.out.later hb6
        have g5 : w6.cell? ⟨x2, 5, none⟩ = some (.int .u8 om) := by rw [hX6.cell 5]; rfl
        have HB6 := Lib.hid (show Below (x2 + 1) w1 w6 from HB15.out.trans (hb6.mono HZ5.out))
        clear hX6 hb6 f1 f2 f3 f4 CM5
        have HE : Hid (∀ W, Below (x2 + 1) w1 W → Below w.heap.size w W) := Lib.hid (fun W hW => by rw [HX2.out]; exact HB1.out.trans (hW.mono (Nat.le_succ x2)))
        by_cases hr2 : r = 2
        · have n1 : (r == 2) = true := by rw [hr2]; rfl
          have hq : q = true := by rw [HQM.out, hr2]; rfl
          subst hq
          clear hr2
          go_wp2
          go_ret
          exact ⟨rfl, HE.out _ HB6.out⟩
        · have n1 : (r == 2) = false := by simp [hr2]
          by_cases hr1 : r = 1
          · have n2 : (r == 1) = true := by rw [hr1]; rfl
            by_cases ho1 : om = 1
            · have n3 : (om == 1) = true := by rw [ho1]; rfl
              have hq : q = true := by rw [HQM.out, hr1, ho1]; rfl
              subst hq
              clear hr2 hr1 ho1
              go_wp2
              go_ret
              exact ⟨rfl, HE.out _ HB6.out⟩
            · have n3 : (om == 1) = false := by simp [ho1]
              have hq : q = false := by rw [HQM.out, hr1]; simp [ho1]
              subst hq
              clear hr2 hr1 ho1
              go_wp2
              go_ret
              exact ⟨rfl, HE.out _ HB6.out⟩
          · have n2 : (r == 1) = false := by simp [hr1]
            have hq : q = false := by rw [HQM.out]; simp [hr1, hr2]
            subst hq
            clear hr2 hr1
            go_wp2
            go_ret
            exact ⟨rfl, HE.out _ HB6.out⟩


set_option maxRecDepth 100000 in
theorem lifted (os : Os) (started : os.Started) (H : Type) (enc : TypeId × Value → H) :
    ReturnsInHanded {} Try.checked os 4 .any (Rows.lockModesSpec.pre6 enc Try.prog Try.f4 Rows.lockModesRow.domain false) (Rows.lockModesSpec.post enc Try.prog Try.f4 false true false false) := by
  refine returnsInHanded_of_change (C := Try.checked) own started (by kernel_rfl) Try.func4
    (ChangeSpec.witness6 (enc := enc) (C := Try.checked) false ⟨#[], #[.slice none 0 0, .agg #[.int .u8 0, .int .u32 0, .int .u8 0, .int .u32 0, .int .u32 0, .int .u8 0]], []⟩ 8 (by kernel_rfl) (by kernel_rfl) (by kernel_rfl) (by kernel_rfl)) ?_
  intro W base args ds gs before hval0 hW hcnd _
  have hval : ∀ (j : Nat) t v, Try.f4.params[j]? = some t → args[j]? = some v → Value.okWide Try.prog W .any base t v := hval0
  have hW' := hW
  obtain ⟨p, q, hA0, hV, rfl, hfz, hnd⟩ := hW
  have hA1 : DataW.TrodAll enc Try.prog W 0 (fun _ => true) true Try.f4.params.toList args.toList ds p := hA0
  have hA := hA1
  rw [Try.params4] at hA hval
  obtain ⟨v0, vs0, d0, ds0, p0, q0, hargs, rfl, rfl, h0, r0⟩ := trodAll_cons hA
  obtain ⟨v1, vs1, d1, ds1, p1, q1, rfl, rfl, rfl, h1, r1⟩ := trodAll_cons r0
  obtain ⟨rfl, rfl, rfl⟩ := trodAll_nil r1
  obtain rfl : args = #[v0, v1] := by cases args; simp_all
  obtain ⟨rfl, rfl⟩ := trodVars_none hV
  obtain ⟨xl, i0, wf0⟩ := Lock.open_los (hval 0 22 v0 rfl rfl) h0
  obtain ⟨o, ok1, rfl⟩ := Lock.open_lo (hval 1 33 v1 rfl rfl) h1
  clear hA0 hval0
  refine (walk W v0 xl i0 wf0 o ok1).mono fun e W' ⟨he, bel⟩ => ?_
  subst he
  exact ⟨_, rfl, _, _, _, [], _, [], hW', trodAll_mk1 (shut_bool Try.underlying4 _), args_again laidOut bel (by kernel_rfl) hA1, rfl, bel.frame _, fun h => by cases h⟩

theorem over : Rows.lockModesRow.holds Try.pinned (OpenSpec.ofChange Rows.lockModesSpec) :=
  OpenClaim.holds_of_wide 4 Try.f4 rfl rfl rfl rfl rfl rfl rfl ⟨rfl, rfl, rfl, rfl, rfl⟩ rfl rfl rfl rfl rfl (by kernel_rfl) Try.func4 (by kernel_rfl)
    (of_decide_eq_true (by kernel_rfl)) (by unfold Func.isWrapper; first | (rw [if_pos (by decide +kernel)]; kernel_rfl) | (rw [if_neg (by decide +kernel)]; exact ⟨rfl, rfl⟩))
    (fun os started H enc _ => lifted os started H enc)

theorem proved : Rows.LockModesSaid := over
end Go.Proofs.Ytpndcpmfcajmdaa.LLockModes
