/- The law manciplelaw13.LockFirst returns true whatever it is called with, and what it was called with reads as it did. No condition. -/
import Derived.Test.YtpndcpmfcajmdaaLaw
import Derived.Test.YtpndcpmfcajmdaaLkM
import Derived.Deep.DeepCutAuto
import Derived.Deep.QuietTactic
namespace Go.Proofs.Ytpndcpmfcajmdaa.LLockFirst
open Go.ChangeShapes Go.WideShapes Go.ChangeAt Go.RowKit Go.IntWalk Go.Proofs.Mem Law
set_option linter.unusedVariables false
open Go.Proofs.Ytpndcpmfcajmdaa.Lock Go.Proofs.Each
set_option maxRecDepth 100000 in
set_option maxHeartbeats 16000000 in
theorem walk (w : World) (k : Lock.Ky) (hk : k.ok) (l : Value) (xl : List Int) (hl : IR w w.heap.size .u32 l xl) (bl : ∀ n ∈ xl, 0 ≤ n ∧ n ≤ 4294967295) :
    Calls Try.prog 8 #[.agg #[.int .u8 k.k, .int .u32 k.a, .int .u32 k.b], l] w fun e w' => e = .returned (.bool true) ∧ Below w.heap.size w w' := by
  obtain ⟨A, c, rfl, hlc, hcm⟩ := hl.form
  have HL := Lib.hid hl
  have BL := Lib.hid bl
  have KN := Lib.hid (fun W => known_any W)
  have hb0 := new_ (Below.refl w.heap.size w) (.cells #[.int .u8 k.k, .int .u32 k.a, .int .u32 k.b] 31)
  have X2 := Lib.hid (Box.new w #[.int .u8 k.k, .int .u32 k.a, .int .u32 k.b] 31)
  obtain ⟨x2, hx2⟩ : ∃ x, w.heap.size = x := ⟨_, rfl⟩
  have hs1 : (w.alloc (.cells #[.int .u8 k.k, .int .u32 k.a, .int .u32 k.b] 31)).heap.size = x2 + 1 := by rw [← hx2]; simp
  rw [hx2] at hb0 X2
  obtain ⟨w1, hw1⟩ : ∃ w1, w.alloc (.cells #[.int .u8 k.k, .int .u32 k.a, .int .u32 k.b] 31) = w1 := ⟨_, rfl⟩
  rw [hw1] at hb0 X2 hs1
  have HX2 := Lib.hid hx2
  have HB1 := Lib.hid hb0
  have HS1 := Lib.hid hs1
  have HKO := Lib.hid hk
  clear hl bl hb0 hs1 hk
  by_cases hlen : 30 < xl.length
  · have d1 : decide (30 < (xl.length : Int)) = true := decide_eq_true (by omega)
    have d1' : decide (30 < xl.length) = true := decide_eq_true hlen
    go_enter Try.func8, Try.ntmps8
    go_wp2_with fail
    (with_reducible refine (KN.out _).mono ?_)
    rintro e w2 ⟨rfl, hb2⟩
    go_wp2
    go_ret
    exact ⟨rfl, by rw [HX2.out]; exact HB1.out.trans (hb2.mono (by have := HS1.out; omega))⟩
  · have d1 : decide (30 < (xl.length : Int)) = false := decide_eq_false (by omega)
    have d1' : decide (30 < xl.length) = false := decide_eq_false hlen
    have CN := Lib.hid (fun W => new_tab W)
    obtain ⟨N, hN⟩ : ∃ N, xl.length = N := ⟨_, rfl⟩
    have HN := Lib.hid (show xl.length = N ∧ N ≤ 30 by omega)
    have HL1 := Lib.hid HL.out
    rw [hN] at d1 d1' ⊢
    have bN : (N : Int) ≤ 30 := by omega
    have hNc : N ≤ c := by omega
    clear hlc hcm hlen hN
    go_enter Try.func8, Try.ntmps8
    go_wp2_with fail
    (with_reducible refine (KN.out _).mono ?_)
    rintro e w2 ⟨rfl, hb2⟩
    have HB2 := Lib.hid hb2
    clear hb2
    go_wp2_with fail
    (with_reducible refine (CN.out _).mono ?_)
    rintro e w3 ⟨t, S1, rfl, ht3, hs3, hb3⟩
    have hz2 : x2 + 1 ≤ w2.heap.size := by have := HS1.out; have := HB2.out.size; omega
    have HT3 := Lib.hid (show TabAt w3 S1 0 0 t (stT k (dst (xl.take 0))) by rw [show dst (xl.take 0) = [] from rfl, stT_nil]; exact ht3)
    have HSB3 := Lib.hid (show ∀ x, S1 x → x2 + 1 ≤ x from fun x hx => Nat.le_trans hz2 (hs3 x hx))
    have HB3 := Lib.hid (show Below (x2 + 1) w1 w3 from (HB2.out.mono (by have := HS1.out; omega)).trans (hb3.mono hz2))
    have HZ3 := Lib.hid (show x2 + 1 ≤ w3.heap.size by have := hb3.size; omega)
    clear ht3 hs3 hb3 hz2 d1 d1' CN KN
    go_wp2
    have HPW := Lib.hid (show ([] : List Int).Pairwise (· < ·) ∧ ∀ x, x ∈ ([] : List Int) ↔ x ∈ dst (xl.take 0) from ⟨List.Pairwise.nil, fun x => Iff.rfl⟩)
    have HXX := Lib.hid (X2.out.below HB3.out (Nat.lt_succ_self _))
    go_loopw [6, 7, 8, 9, 10] (fun s6 s7 _ _ _ wr => ∃ (i : Nat) (A : Option Addr) (n c : Nat) (wl : List Int) (S' : Nat → Prop), s6 = .slice A n c ∧ s7 = .int .i64 i ∧ i ≤ N ∧ Hid (n = wl.length ∧ wl.length = (dst (xl.take i)).length) ∧ Hid (wl.Pairwise (· < ·) ∧ ∀ x, x ∈ wl ↔ x ∈ dst (xl.take i)) ∧ Hid (wr.ownsRow (x2 + 1) 29 1 (.slice A n c) wl.length (wl.map (.int .u32))) ∧ Hid (TabAt wr S' i i t (stT k (dst (xl.take i)))) ∧ Hid (∀ x, S' x → x2 + 1 ≤ x) ∧ Hid (Below (x2 + 1) w1 wr) ∧ Hid (Box wr x2 #[.int .u8 k.k, .int .u32 k.a, .int .u32 k.b] 31) ∧ Hid (∀ b, (Value.slice A n c).ownBlock = some b → ¬ S' b) ∧ Hid (x2 + 1 ≤ wr.heap.size)) (fun _ s7 _ _ _ _ => N - (intOf s7).toNat)
    case atStart => exact ⟨0, none, 0, 0, [], S1, rfl, rfl, Nat.zero_le _, Lib.hid ⟨rfl, rfl⟩, HPW, Lib.hid (World.ownsRow_nil _ _ _ _), HT3, HSB3, HB3, HXX, Lib.hid (fun b hb => by cases hb), HZ3⟩
    case round =>
      obtain ⟨i, A6, n6, c6, wl, S', rfl, rfl, hi, HLEN, HW, HO, HT, HSB, HB, HX, HRS, HZ⟩ := hrel
      obtain ⟨w4, rfl⟩ : ∃ w4, w4 = wr := ⟨wr, rfl⟩
      clear HT3 HSB3 HB3 HXX HZ3
      by_cases hil : i < N
      · have d1 : decide ((i : Int) < (N : Int)) = true := by simp; omega
        have d1' : decide (i < N) = true := by simp; omega
        obtain ⟨x, hx⟩ : ∃ x, xl[i]? = some x := ⟨_, List.getElem?_eq_getElem (by have := HN.out.1; omega)⟩
        have hxe : xl.getD i 0 = x := by rw [List.getD, hx]; rfl
        obtain ⟨bl, ol, hA, hbl, hcell⟩ := (show IR w w.heap.size .u32 (.slice A N c) xl from HN.out.1 ▸ HL.out).index i hil
        rw [hxe] at hcell
        have hlt : ∀ W, Below (x2 + 1) w1 W → W.cell? ⟨bl, ol + i, none⟩ = some (.int .u32 x) := fun W hW => by
          rw [hW.cell (p := ⟨bl, ol + i, none⟩) (by show bl < _; have := HX2.out; omega), HB1.out.cell (p := ⟨bl, ol + i, none⟩) (by show bl < _; have := HX2.out; omega)]
          exact hcell
        have HLT := Lib.hid hlt
        have k1 : w4.cell? ⟨bl, ol + i, none⟩ = some (.int .u32 x) := hlt w4 HB.out
        have HXI := Lib.hid hx
        have HXU := Lib.hid (show U32 x from BL.out x (List.mem_of_getElem? hx))
        subst hA
        clear hxe hcell hbl hlt hx
        have CI := Lib.hid (into_any w4 (x2 + 1) (.slice A6 n6 c6) wl x HZ.out (by have := HLEN.out.2; have := dst_len xl i; omega) HO.out)
        go_wp2_with fail
        (with_reducible refine (CI.out).mono ?_)
        rintro e w5 ⟨v5, rfl, ho5, hsm5, hb5⟩
        obtain ⟨A5, c5, hv5, hc51, hc52⟩ := own_is ho5
        have hsrt := into_sorted (n := x) HW.out.1
        have n63 : (wl.length : Int) ≤ 100 := by have := HLEN.out.2; have := dst_len xl i; omega
        have HSRT := Lib.hid hsrt
        have HO5 := Lib.hid ho5
        have HB5 := Lib.hid hb5
        have HSM5 := Lib.hid hsm5
        clear hsm5
        have HTK := Lib.hid (dst_take HXI.out)
        have hw2 : IntKind.i64.wrap ((i : Int) + 1) = ((i + 1 : Nat) : Int) := by rw [IntKind.wrap_i64]; omega
        have hn6 : n6 = wl.length := HLEN.out.1
        subst hn6
        subst hv5
        clear ho5 hb5 hc51 hc52 CI
        by_cases hm : x ∈ wl
        · have hl5 : (into wl x).length = wl.length := by rw [hsrt.2, if_pos hm]
          have hmd : x ∈ dst (xl.take i) := (HW.out.2 x).1 hm
          have hdd : dst (xl.take (i + 1)) = dst (xl.take i) := by rw [HTK.out, if_pos hmd]
          have de : (((into wl x).length : Int) == (wl.length : Int)) = true := by rw [hl5]; simp
          have HDD := Lib.hid hdd
          rw [hl5]
          clear hm hmd hdd hsrt
          go_wp2
          go_roundw
          case rel => exact ⟨i + 1, A6, wl.length, c6, wl, S', rfl, by go_num, by omega, Lib.hid ⟨rfl, by rw [HDD.out]; exact HLEN.out.2⟩, Lib.hid (by rw [HDD.out]; exact HW.out), Lib.hid (own_below HO.out HB5.out), Lib.hid (by rw [HDD.out]; exact (HT.out.later HB5.out).more (Nat.le_succ _) (Nat.le_succ _)), HSB, Lib.hid (HB.out.trans (HB5.out.mono HZ.out)), Lib.hid (HX.out.later HB5.out), HRS, Lib.hid (Nat.le_trans HZ.out HB5.out.size)⟩
          case measure => simp [intOf]; omega
        · have hl5 : (into wl x).length = wl.length + 1 := by rw [hsrt.2, if_neg hm]
          have hmd : x ∉ dst (xl.take i) := fun h => hm ((HW.out.2 x).2 h)
          have hdd : dst (xl.take (i + 1)) = dst (xl.take i) ++ [x] := by rw [HTK.out, if_neg hmd]
          have de : (((into wl x).length : Int) == (wl.length : Int)) = false := by rw [hl5, beq_eq_false_iff_ne]; omega
          have HDD := Lib.hid hdd
          have hT5 := HT.out.later HB5.out
          have hX5 := HX.out.later HB5.out
          obtain ⟨fa, fb⟩ := first_ask (k := k) hmd
          have CA := Lib.hid (ask_any w5.drew S' i i t (stT k (dst (xl.take i))) x k 2 (hT5.later (below_drewN (Below.refl _ _) 1)) HXU.out HKO.out (by omega) (by omega))
          rw [fa, fb] at CA
          obtain ⟨q, hq⟩ : ∃ q, (dst (xl.take i)).isEmpty = q := ⟨_, rfl⟩
          rw [hq] at CA
          have d0 : ((wl.length : Int) == 0) = q := by
            rw [← hq, HLEN.out.2]
            cases dst (xl.take i) with
            | nil => rfl
            | cons a b => simp; omega
          have e1 : w5.cell? ⟨bl, ol + i, none⟩ = some (.int .u32 x) := HLT.out w5 (HB.out.trans (HB5.out.mono HZ.out))
          have e2 : w5.cell? ⟨x2, 0, none⟩ = some (.int .u8 k.k) := by rw [hX5.cell 0]; rfl
          have e3 : w5.cell? ⟨x2, 1, none⟩ = some (.int .u32 k.a) := by rw [hX5.cell 1]; rfl
          have e4 : w5.cell? ⟨x2, 2, none⟩ = some (.int .u32 k.b) := by rw [hX5.cell 2]; rfl
          have mixed : Try.prog.follows .mixedOrders = true := by kernel_rfl
          have HT5 := Lib.hid hT5
          have HX5 := Lib.hid hX5
          have HW5 := Lib.hid (show (into wl x).Pairwise (· < ·) ∧ ∀ y, y ∈ into wl x ↔ y ∈ dst (xl.take (i + 1)) from ⟨hsrt.1, fun y => by
            rw [into_mem, hdd, List.mem_append, List.mem_singleton, HW.out.2 y]; exact or_comm⟩)
          have HL5 := Lib.hid (show (into wl x).length = (dst (xl.take (i + 1))).length by rw [hl5, hdd, List.length_append, HLEN.out.2]; rfl)
          have HR5 := Lib.hid (show ∀ b, (Value.slice A5 (into wl x).length c5).ownBlock = some b → (¬ S' b) ∧ b < w5.heap.size from fun b hb => ⟨fun hs => by
            have hso := HT.out.old b hs
            rcases HSM5.out with h | h
            · rw [h] at hb; exact HRS.out b hb hs
            · have := h b hb; omega, (HO5.out.lt b hb).2⟩)
          rw [← HDD.out] at CA
          clear hl5 hmd hdd hT5 hX5 fa fb hq hm hsrt
          go_upto_region 14 with fail
          go_cut [10] (fun v wx => v = .bool q ∧ Hid (AskOut w5.drew wx S' (i + 1) (i + 1) t (stT k (dst (xl.take (i + 1))))))
          case first =>
            go_region_with (go_at_call 19; (with_reducible refine CA.out.mono ?_); rintro er w6 ⟨rfl, ha6⟩; have HA6 := Lib.hid ha6; clear ha6)
            all_goals (go_wp2; go_meet; exact ⟨rfl, HA6⟩)
          case rest =>
            obtain ⟨rfl, HA6⟩ := hcut
            rename_i hK
            refine hK _ _ ?_
            clear hK CA e1 e2 e3 e4
            obtain ⟨S6, h1, h2, h3⟩ := HA6.out
            have hz5 : x2 + 1 ≤ w5.drew.heap.size := Nat.le_trans HZ.out HB5.out.size
            have HT6 := Lib.hid h1
            have HSB6 := Lib.hid (show ∀ y, S6 y → x2 + 1 ≤ y from fun y hy => (h3 y hy).elim (HSB.out y) (fun h => Nat.le_trans hz5 h))
            have hb6 : Below (x2 + 1) w5.drew wc := h2.to_below HSB.out hz5
            have HB6 := Lib.hid (show Below (x2 + 1) w1 wc from ((HB.out.trans (HB5.out.mono HZ.out)).drew).trans hb6)
            have HX6 := Lib.hid (show Box wc x2 #[.int .u8 k.k, .int .u32 k.a, .int .u32 k.b] 31 from (HX5.out.drew).below hb6 (Nat.lt_succ_self _))
            have HO6 := Lib.hid (own_frS (show w5.drew.ownsRow (x2 + 1) 29 1 (.slice A5 (into wl x).length c5) (into wl x).length ((into wl x).map (.int .u32)) from HO5.out) h2 (fun b hb => (HR5.out b hb).1))
            have HR6 := Lib.hid (show ∀ b, (Value.slice A5 (into wl x).length c5).ownBlock = some b → ¬ S6 b from fun b hb hs => by
              have h4 := HR5.out b hb
              rcases h3 b hs with h | h
              · exact h4.1 h
              · have h5 : w5.heap.size ≤ b := h; omega)
            have HZ6 := Lib.hid (show x2 + 1 ≤ wc.heap.size from Nat.le_trans hz5 hb6.size)
            clear h1 h2 h3 hz5 hb6
            cases q
            all_goals
              go_wp2
              go_roundw
              case rel => exact ⟨i + 1, A5, _, c5, into wl x, S6, rfl, by go_num, by omega, Lib.hid ⟨rfl, HL5.out⟩, HW5, HO6, HT6, HSB6, HB6, HX6, HR6, HZ6⟩
              case measure => simp [intOf]; omega
      · have hiN : i = N := by omega
        have d1 : decide ((i : Int) < (N : Int)) = false := by simp; omega
        have d1' : decide (i < N) = false := by simp; omega
        subst hiN
        have hdx : dst (xl.take i) = dst xl := by rw [← HN.out.1, List.take_length]
        have HT7 := Lib.hid (show TabAt w4 S' i i t (stT k (dst xl)) by rw [← hdx]; exact HT.out)
        have HDN := Lib.hid (show (dst xl).Nodup by rw [← hdx]; exact dst_nodup xl i)
        have HDL := Lib.hid (show (dst xl).length ≤ 30 by rw [← hdx]; have := dst_len xl i; omega)
        have HDM := Lib.hid (show ∀ x ∈ dst xl, U32 x from fun x hx => BL.out x (dst_mem xl i x (by rw [hdx]; exact hx)))
        obtain ⟨w7, rfl⟩ : ∃ w7, w7 = w4 := ⟨w4, rfl⟩
        have HLT : Hid (∀ W, Below (x2 + 1) w1 W → IR W w.heap.size .u32 (.slice A i c) xl) := Lib.hid (fun W hW => by
          have h1 : IR w w.heap.size .u32 (.slice A i c) xl := HN.out.1 ▸ HL.out
          exact h1.below ((by rw [HX2.out]; exact HB1.out : Below w.heap.size w w1).trans (hW.mono (by have := HX2.out; omega))))
        have HLA := HLT.out w7 HB.out
        have HIA := Lib.hid HLA
        have hfA : ∃ bo : Option (Nat × Nat), A = bo.map (fun p => ⟨p.1, p.2, none⟩) ∨ i = 0 := by
          by_cases h0 : 0 < i
          · obtain ⟨b, o, e, _⟩ := HLA.index 0 h0
            exact ⟨some (b, o), .inl e⟩
          · exact ⟨none, .inr (by omega)⟩
        obtain ⟨j0, hj0, hj1, hj2, hj3⟩ := info_parts u32_inf
        clear hdx HT HO HW HLEN HRS hfA HLA
        go_wp2
        go_loopw [11, 12, 13, 14] (fun s11 s12 _ _ wr => ∃ (j : Nat) (A6 : Option Addr) (n6 c6 : Nat) (ol : List Int), s11 = .slice A6 n6 c6 ∧ s12 = .int .i64 j ∧ j ≤ i ∧ Hid (n6 = ol.length) ∧ Hid (ol = dst (xl.take j)) ∧ Hid (wr.ownsRow w7.heap.size 29 1 (.slice A6 n6 c6) ol.length (ol.map (.int .u32))) ∧ Hid (Below w7.heap.size w7 wr)) (fun _ s12 _ _ _ => i - (intOf s12).toNat)
        case atStart => exact ⟨0, none, 0, 0, [], rfl, rfl, Nat.zero_le _, Lib.hid rfl, Lib.hid rfl, Lib.hid (World.ownsRow_nil _ _ _ _), Lib.hid (Below.refl _ _)⟩
        case round =>
          obtain ⟨j, A8, n8, c8, ol, rfl, rfl, hj, HN8, HD8, HO8, HB8⟩ := hrel
          obtain ⟨w8, rfl⟩ : ∃ w8, w8 = wr := ⟨wr, rfl⟩
          by_cases hjl : j < i
          · have d1 : decide ((j : Int) < (i : Int)) = true := by simp; omega
            have d1' : decide (j < i) = true := by simp; omega
            obtain ⟨x, hx⟩ : ∃ x, xl[j]? = some x := ⟨_, List.getElem?_eq_getElem (by have := HN.out.1; omega)⟩
            have hxe : xl.getD j 0 = x := by rw [List.getD, hx]; rfl
            obtain ⟨bl, ol2, hA, hbl, hcell⟩ := (HIA.out.below (HB8.out.mono (by have := HZ.out; have := HX2.out; omega))).index j hjl
            rw [hxe] at hcell
            have HXI := Lib.hid (dst_take hx)
            subst hA
            clear hx hxe
            obtain ⟨M, hM⟩ : ∃ M, ol.length = M := ⟨_, rfl⟩
            have hn8 : n8 = M := by rw [← hM]; exact HN8.out
            subst hn8
            have HM := Lib.hid hM
            have hM30 : (n8 : Int) ≤ 30 := by have := dst_len xl j; have := HD8.out; rw [← hM, this]; omega
            have HRA := Lib.hid (IR.of_own HO8.out)
            have HHC := Lib.hid (fun d => (show (w8.drewN d).cell? ⟨bl, ol2 + j, none⟩ = some (.int .u32 x) from hcell))
            clear hM hbl hcell
            go_wp2
            go_loopw [13, 14] (fun s13 s14 wr => ∃ m : Nat, m ≤ n8 ∧ s13 = .bool (decide (x ∈ ol.take m)) ∧ s14 = .int .i64 m ∧ ∃ d, wr = w8.drewN d) (fun _ s14 _ => n8 - (intOf s14).toNat)
            case atStart => exact ⟨0, Nat.zero_le _, by simp, rfl, 0, rfl⟩
            case round =>
              obtain ⟨m, hm, rfl, rfl, d, hd⟩ := hrel
              obtain ⟨w9, rfl⟩ : ∃ w9, w9 = wr := ⟨wr, rfl⟩
              by_cases hml : m < n8
              · have d2 : decide ((m : Int) < (n8 : Int)) = true := by simp; omega
                have d2' : decide (m < n8) = true := by simp; omega
                obtain ⟨y, hy⟩ : ∃ y, ol[m]? = some y := ⟨_, List.getElem?_eq_getElem (by have := HM.out; omega)⟩
                have hye : ol.getD m 0 = y := by rw [List.getD, hy]; rfl
                obtain ⟨b8, o8, hA8, hb8, hc8⟩ := (HM.out ▸ HRA.out : IR w8 w8.heap.size .u32 (.slice A8 n8 c8) ol).index m hml
                rw [hye] at hc8
                have e1 : ∀ d', (w9.drewN d').cell? ⟨bl, ol2 + j, none⟩ = some (.int .u32 x) := fun d' => by rw [hd]; exact HHC.out 0
                have e2 : ∀ d', (w9.drewN d').cell? ⟨b8, o8 + m, none⟩ = some (.int .u32 y) := fun d' => by rw [hd]; exact hc8
                have hq2 : decide (x ∈ ol.take (m + 1)) = (decide (x ∈ ol.take m) || decide (y = x)) := by
                  rw [List.take_add_one, hy, ← Bool.decide_or]
                  refine decide_eq_decide.2 ?_
                  rw [List.mem_append]
                  simp only [Option.toList_some, List.mem_singleton]
                  exact ⟨fun h => h.imp id (fun h => h.symm), fun h => h.imp id (fun h => h.symm)⟩
                obtain ⟨q, hq⟩ : ∃ q, decide (x ∈ ol.take m) = q := ⟨_, rfl⟩
                obtain ⟨r, hr⟩ : ∃ r, decide (y = x) = r := ⟨_, rfl⟩
                have hyx : (y == x) = r := by rw [← hr]; exact u32eq y x
                rw [hq, hr] at hq2
                have HQ2 := Lib.hid hq2
                have HD := Lib.hid hd
                have hw2 : IntKind.i64.wrap ((m : Int) + 1) = ((m + 1 : Nat) : Int) := by rw [IntKind.wrap_i64]; omega
                subst hA8
                rw [hq]
                clear hq hq2 hy hye hb8 hc8 hd
                cases q with
                | true =>
                  go_upto_region 25 with fail
                  go_quiet (fail)
                  go_wp2
                  go_roundw
                  case rel => exact ⟨m + 1, by omega, by rw [HQ2.out]; rfl, by go_num, d + nq, by rw [HD.out]; simp [World.drewN, Nat.add_assoc]⟩
                  case measure => simp [intOf]; omega
                | false =>
                  go_upto_region 25 with fail
                  go_quiet (fail)
                  go_wp2
                  go_roundw
                  case rel => exact ⟨m + 1, by omega, by rw [HQ2.out]; rfl, by go_num, d + nq, by rw [HD.out]; simp [World.drewN, Nat.add_assoc]⟩
                  case measure => simp [intOf]; omega
              · have hmn : m = n8 := by omega
                have d2 : decide ((m : Int) < (n8 : Int)) = false := by simp; omega
                have d2' : decide (m < n8) = false := by simp; omega
                have htk : ol.take m = ol := by rw [hmn, ← HM.out, List.take_length]
                rw [htk]
                have HO9 : Hid (w9.ownsRow w7.heap.size 29 1 (.slice A8 n8 c8) ol.length (ol.map (.int .u32))) := Lib.hid (by rw [hd]; exact HO8.out)
                have HB9 : Hid (Below w7.heap.size w7 w9) := Lib.hid (by rw [hd]; exact below_drewN HB8.out d)
                have e1 : w9.cell? ⟨bl, ol2 + j, none⟩ = some (.int .u32 x) := by rw [hd]; exact HHC.out 0
                have hw2 : IntKind.i64.wrap ((j : Int) + 1) = ((j + 1 : Nat) : Int) := by rw [IntKind.wrap_i64]; omega
                clear htk hmn hd
                by_cases hin : x ∈ ol
                · have dq : decide (x ∈ ol) = true := decide_eq_true hin
                  have HX8 := Lib.hid (show ol = dst (xl.take (j + 1)) by rw [HXI.out, ← HD8.out, if_pos hin])
                  rw [dq]
                  clear hin dq
                  go_wp2
                  go_roundw
                  case rel => exact ⟨j + 1, A8, n8, c8, ol, rfl, by go_num, by omega, HN8, HX8, HO9, HB9⟩
                  case measure => simp [intOf]; omega
                · have dq : decide (x ∈ ol) = false := decide_eq_false hin
                  have HX8 := Lib.hid (show ol ++ [x] = dst (xl.take (j + 1)) by rw [HXI.out, ← HD8.out, if_neg hin])
                  rw [dq]
                  clear hin dq
                  go_wp2_with (at_builtin; refine wpList_push _ rfl _ _ _ rfl w7.heap.size 29 j0 .u32 4 Try.underlying38 hj0 hj1 hj2 hj3 (.slice A8 n8 c8) n8 ol rfl (by have h1 := own_below HO9.out (new_ (Below.refl _ _) (.cells #[.int .u32 x] 29)); rw [HM.out] at h1; exact h1) w9.heap.size x rfl (cell_new _ _ _ 0) (by unfold maxLen; omega) (by omega) (by have := HB9.out.size; simp; omega) ?_; intro v2 x2' hown2 hb2)
                  obtain ⟨A9, c9, rfl, _, _⟩ := own_is hown2
                  have hl9 : (ol ++ [x]).length = n8 + 1 := by rw [List.length_append, HM.out]; rfl
                  have HO10 := Lib.hid (show x2'.ownsRow w7.heap.size 29 1 (.slice A9 (n8 + 1) c9) (ol ++ [x]).length ((ol ++ [x]).map (.int .u32)) by rw [hl9]; exact hown2)
                  have HL10 := Lib.hid (show n8 + 1 = (ol ++ [x]).length from hl9.symm)
                  have HB10 := Lib.hid ((HB9.out.trans ((new_ (Below.refl w9.heap.size w9) (.cells #[.int .u32 x] 29)).mono HB9.out.size)).trans hb2)
                  clear hown2 hb2 hl9
                  go_wp2
                  go_roundw
                  case rel => exact ⟨j + 1, A9, n8 + 1, c9, _, rfl, by go_num, by omega, HL10, HX8, HO10, HB10⟩
                  case measure => simp [intOf]; omega
          · have hji : j = i := by omega
            have d2 : decide ((j : Int) < (i : Int)) = false := by simp; omega
            have d2' : decide (j < i) = false := by simp; omega
            have hol : ol = dst xl := by have := HD8.out; rw [hji, ← HN.out.1, List.take_length] at this; exact this
            have HND := Lib.hid (show ol.Nodup by rw [hol]; exact HDN.out)
            have HOL := Lib.hid (show ol.length ≤ 30 ∧ n8 = ol.length from ⟨by rw [hol]; exact HDL.out, HN8.out⟩)
            have HOM := Lib.hid (show ∀ x ∈ ol, U32 x by rw [hol]; exact HDM.out)
            have HT8 := Lib.hid (show TabAt w8 S' (i + 0) i t (stT k (ol.drop 0)) by rw [hol]; exact HT7.out.later HB8.out)
            have HBB := Lib.hid (HB.out.trans (HB8.out.mono HZ.out))
            have HOLD := Lib.hid (show ∀ y, S' y → y < w7.heap.size from HT7.out.old)
            have HZ8 := Lib.hid (show x2 + 1 ≤ w7.heap.size ∧ w7.heap.size ≤ w8.heap.size from ⟨HZ.out, HB8.out.size⟩)
            have CR := Lib.hid (fun (W : World) (N L : Nat) (T : Tb) (x : Int) (h : TabAt W S' N L t T) (hx : U32 x) (h1 : N ≤ 50000) (h2 : L ≤ 50000) => release_any W S' N L t T x h hx h1 h2)
            have hi30 : (i : Int) ≤ 30 := bN
            have hn30 : (n8 : Int) ≤ 30 := by have := HOL.out; omega
            clear hji hol HD8 HT7 HB HB8 HDN HDL HDM HX HN8
            go_wp2
            go_loopw [15, 16] (fun s15 _ wr => ∃ m : Nat, m ≤ n8 ∧ s15 = .int .i64 m ∧ Hid (TabAt wr S' (i + m) i t (stT k (ol.drop m))) ∧ Hid (wr.ownsRow w7.heap.size 29 1 (.slice A8 n8 c8) ol.length (ol.map (.int .u32))) ∧ Hid (Below (x2 + 1) w1 wr) ∧ Hid (w7.heap.size ≤ wr.heap.size)) (fun s15 _ _ => n8 - (intOf s15).toNat)
            case atStart => exact ⟨0, Nat.zero_le _, rfl, HT8, HO8, HBB, Lib.hid HZ8.out.2⟩
            case round =>
              obtain ⟨m, hm, rfl, HT, HO, HB, HZ9⟩ := hrel
              obtain ⟨w9, rfl⟩ : ∃ w9, w9 = wr := ⟨wr, rfl⟩
              clear HT8 HO8 HBB
              by_cases hml : m < n8
              · have d3 : decide ((m : Int) < (n8 : Int)) = true := by simp; omega
                have d3' : decide (m < n8) = true := by simp; omega
                obtain ⟨x, hx⟩ : ∃ x, ol[m]? = some x := ⟨_, List.getElem?_eq_getElem (by have := HOL.out.2; omega)⟩
                have hdr : ol.drop m = x :: ol.drop (m + 1) := by
                  have h1 : m < ol.length := (List.getElem?_eq_some_iff.1 hx).1
                  have h2 : ol[m] = x := (List.getElem?_eq_some_iff.1 hx).2
                  rw [List.drop_eq_getElem_cons h1, h2]
                have hxe : ol.getD m 0 = x := by rw [List.getD, hx]; rfl
                obtain ⟨b8, o8, hA8, hb8, hc8⟩ := (IR.of_own HO.out : IR w9 w9.heap.size .u32 (.slice A8 n8 c8) ol).index m hml
                rw [hxe] at hc8
                have hnd : (x :: ol.drop (m + 1)).Nodup := by rw [← hdr]; exact HND.out.drop
                have CC := Lib.hid (CR.out w9 (i + m) i (stT k (ol.drop m)) x HT.out (HOM.out x (List.mem_of_getElem? hx)) (by omega) (by omega))
                rw [hdr] at CC
                have HND9 := Lib.hid hnd
                have HRB := Lib.hid (show ∀ b, (Value.slice A8 n8 c8).ownBlock = some b → ¬ S' b from fun b hb hs => by have h1 := HOLD.out b hs; have h2 := (HO.out.lt b hb).1; omega)
                subst hA8
                clear hx hdr hxe hb8 hnd
                go_wp2_with fail
                (with_reducible refine CC.out.mono ?_)
                rintro er w10 ⟨v10, ks, T', got, rfl, ho10, hr10, hw10, ht10, hf10⟩
                obtain ⟨rfl, rfl⟩ := first_rel HND9.out ho10 hr10
                have hgl : ((ol.drop (m + 1)).take 1).length ≤ 1 := by simp; omega
                have HT10 := Lib.hid (show TabAt w10 S' (i + (m + 1)) i t (stT k (ol.drop (m + 1))) from ht10.more (by omega) (Nat.le_refl _))
                have HO10 := Lib.hid (own_frS HO.out hf10 HRB.out)
                have HB10 := Lib.hid (HB.out.trans (hf10.to_below HSB.out (by have := HZ9.out; have := HZ8.out; omega)))
                have HZ10 := Lib.hid (show w7.heap.size ≤ w10.heap.size from Nat.le_trans HZ9.out hf10.size)
                have HIR := IR.of_own HO10.out
                have hw2 : IntKind.i64.wrap ((m : Int) + 1) = (m : Int) + 1 := by rw [IntKind.wrap_i64]; omega
                have ht2 : ((m : Int) + 1).toNat = m + 1 := by omega
                have h02 : (0 : Int) ≤ (m : Int) + 1 := by omega
                by_cases hm1 : m + 1 < n8
                · obtain ⟨y, hy⟩ : ∃ y, ol[m + 1]? = some y := ⟨_, List.getElem?_eq_getElem (by have := HOL.out.2; omega)⟩
                  have hgot : (ol.drop (m + 1)).take 1 = [y] := by
                    have h1 : m + 1 < ol.length := (List.getElem?_eq_some_iff.1 hy).1
                    have h2 : ol[m + 1] = y := (List.getElem?_eq_some_iff.1 hy).2
                    rw [List.drop_eq_getElem_cons h1, h2]; rfl
                  rw [hgot] at hw10
                  obtain ⟨g10, c10, rfl, _, _, hc10, hd10⟩ := own_one hw10
                  have hye : ol.getD (m + 1) 0 = y := by rw [List.getD, hy]; rfl
                  obtain ⟨b11, o11, hA11, _, hc11⟩ := (HIR : IR w10 w10.heap.size .u32 (.slice (some ⟨b8, o8, none⟩) n8 c8) ol).index (m + 1) hm1
                  rw [hye] at hc11
                  injection hA11 with hA11
                  injection hA11 with hA1 hA2
                  subst hA1
                  subst hA2
                  have e1 : decide ((m : Int) + 1 < (n8 : Int)) = true := by simp; omega
                  have e1' : (m : Int) + 1 < (n8 : Int) := by omega
                  have e2 : ((m : Int) + 1 == (n8 : Int)) = false := by rw [beq_eq_false_iff_ne]; omega
                  have e4 : (y != y) = false := by simp
                  have e3 : (y == y) = true := by simp
                  have q1 : ∀ d, (w10.drewN d).cell? ⟨b8, o8 + (m + 1), none⟩ = some (.int .u32 y) := fun d => hc11
                  have q2 : ∀ d, (w10.drewN d).cell? ⟨g10, 0, none⟩ = some (.int .u32 y) := fun d => hd10
                  clear ho10 hr10 hw10 ht10 hf10 HIR hgot hy hye hc11 hd10 hgl
                  go_upto_region 32 with fail
                  go_quiet (fail)
                  have bq : Below w10.heap.size w10 (w10.drewN nq) := below_drewN (Below.refl _ _) nq
                  have HT11 := Lib.hid (HT10.out.later bq)
                  have HO11 := Lib.hid (own_below HO10.out bq)
                  have HB11 := Lib.hid (below_drewN HB10.out nq)
                  have HZ11 := Lib.hid (show w7.heap.size ≤ (w10.drewN nq).heap.size from HZ10.out)
                  clear bq
                  generalize w10.drewN nq = w11 at HT11 HO11 HB11 HZ11 ⊢
                  have hw3 : IntKind.i64.wrap ((m : Int) + 1) = ((m + 1 : Nat) : Int) := by rw [IntKind.wrap_i64]; omega
                  clear hw2
                  go_wp2
                  go_roundw
                  case rel => exact ⟨m + 1, by omega, by go_num, HT11, HO11, HB11, HZ11⟩
                  case measure => simp [intOf]; omega
                · have hmn : m + 1 = n8 := by omega
                  have hgot : (ol.drop (m + 1)).take 1 = [] := by rw [List.drop_eq_nil_of_le (by have := HOL.out.2; omega)]; rfl
                  rw [hgot] at hw10
                  obtain ⟨A10, c10, rfl, _, _⟩ := own_is hw10
                  have e1 : decide ((m : Int) + 1 < (n8 : Int)) = false := by simp; omega
                  have e1' : ¬ (m : Int) + 1 < (n8 : Int) := by omega
                  have e2 : ((m : Int) + 1 == (n8 : Int)) = true := by simp; omega
                  clear ho10 hr10 hw10 ht10 hf10 HIR hgot hmn hgl
                  go_upto_region 32 with fail
                  go_quiet (fail)
                  have bq : Below w10.heap.size w10 (w10.drewN nq) := below_drewN (Below.refl _ _) nq
                  have HT11 := Lib.hid (HT10.out.later bq)
                  have HO11 := Lib.hid (own_below HO10.out bq)
                  have HB11 := Lib.hid (below_drewN HB10.out nq)
                  have HZ11 := Lib.hid (show w7.heap.size ≤ (w10.drewN nq).heap.size from HZ10.out)
                  clear bq
                  generalize w10.drewN nq = w11 at HT11 HO11 HB11 HZ11 ⊢
                  have hw3 : IntKind.i64.wrap ((m : Int) + 1) = ((m + 1 : Nat) : Int) := by rw [IntKind.wrap_i64]; omega
                  clear hw2
                  go_wp2
                  go_roundw
                  case rel => exact ⟨m + 1, by omega, by go_num, HT11, HO11, HB11, HZ11⟩
                  case measure => simp [intOf]; omega
              · have d3 : decide ((m : Int) < (n8 : Int)) = false := by simp; omega
                have d3' : decide (m < n8) = false := by simp; omega
                go_wp2
                go_ret
                exact ⟨rfl, by rw [HX2.out]; exact HB1.out.trans (HB.out.mono (Nat.le_succ x2))⟩


set_option maxRecDepth 100000 in
theorem lifted (os : Os) (started : os.Started) (H : Type) (enc : TypeId × Value → H) :
    ReturnsInHanded {} Try.checked os 8 .any (Rows.lockFirstSpec.pre6 enc Try.prog Try.f8 Rows.lockFirstRow.domain false) (Rows.lockFirstSpec.post enc Try.prog Try.f8 false true false false) := by
  refine returnsInHanded_of_change (C := Try.checked) own started (by kernel_rfl) Try.func8
    (ChangeSpec.witness6 (enc := enc) (C := Try.checked) false ⟨#[], #[.agg #[.int .u8 0, .int .u32 0, .int .u32 0], .slice none 0 0], []⟩ 8 (by kernel_rfl) (by kernel_rfl) (by kernel_rfl) (by kernel_rfl)) ?_
  intro W base args ds gs before hval0 hW hcnd _
  have hval : ∀ (j : Nat) t v, Try.f8.params[j]? = some t → args[j]? = some v → Value.okWide Try.prog W .any base t v := hval0
  have hW' := hW
  obtain ⟨p, q, hA0, hV, rfl, hfz, hnd⟩ := hW
  have hA1 : DataW.TrodAll enc Try.prog W 0 (fun _ => true) true Try.f8.params.toList args.toList ds p := hA0
  have hA := hA1
  rw [Try.params8] at hA hval
  obtain ⟨v0, vs0, d0, ds0, p0, q0, hargs, rfl, rfl, h0, r0⟩ := trodAll_cons hA
  obtain ⟨v1, vs1, d1, ds1, p1, q1, rfl, rfl, rfl, h1, r1⟩ := trodAll_cons r0
  obtain ⟨rfl, rfl, rfl⟩ := trodAll_nil r1
  obtain rfl : args = #[v0, v1] := by cases args; simp_all
  obtain ⟨rfl, rfl⟩ := trodVars_none hV
  obtain ⟨k, ok0, rfl⟩ := Lock.open_key (hval 0 31 v0 rfl rfl) h0
  obtain ⟨xl, i1, wf1⟩ := open_IR Try.underlying38 Try.underlying29 (by kernel_rfl) (hval 1 38 v1 rfl rfl) h1
  clear hA0 hval0
  refine (walk W k ok0 v1 xl i1 (fun n hn => bounds_u32 (wf1 n hn))).mono fun e W' ⟨he, bel⟩ => ?_
  subst he
  exact ⟨_, rfl, _, _, _, [], _, [], hW', trodAll_mk1 (shut_bool Try.underlying4 _), args_again laidOut bel (by kernel_rfl) hA1, rfl, bel.frame _, fun h => by cases h⟩

theorem over : Rows.lockFirstRow.holds Try.pinned (OpenSpec.ofChange Rows.lockFirstSpec) :=
  OpenClaim.holds_of_wide 8 Try.f8 rfl rfl rfl rfl rfl rfl rfl ⟨rfl, rfl, rfl, rfl, rfl⟩ rfl rfl rfl rfl rfl (by kernel_rfl) Try.func8 (by kernel_rfl)
    (of_decide_eq_true (by kernel_rfl)) (by unfold Func.isWrapper; first | (rw [if_pos (by decide +kernel)]; kernel_rfl) | (rw [if_neg (by decide +kernel)]; exact ⟨rfl, rfl⟩))
    (fun os started H enc _ => lifted os started H enc)

theorem proved : Rows.LockFirstSaid := over
end Go.Proofs.Ytpndcpmfcajmdaa.LLockFirst
