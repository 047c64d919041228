import Derived.Test.YtpndcpmfcajmdaaLkR
/- Locks: the laws' run. -/
namespace Go.Proofs.Ytpndcpmfcajmdaa.Lock
open Go.ChangeShapes Go.WideShapes Go.ChangeAt Go.RowKit Go.IntWalk Go.Proofs.Mem Law Go.Shelf Go.Proofs.Each
set_option linter.unusedVariables false
set_option linter.unusedSimpArgs false
theorem kd_rem {a : Int} (h : 0 ≤ a ∧ a ≤ 255) : a.tmod 6 = a % 6 := Int.tmod_eq_emod_of_nonneg h.1
set_option maxRecDepth 100000 in
set_option maxHeartbeats 16000000 in
theorem run_any (w : World) (v : Value) (xl : List Lo) (hv : SS cLo 6 w w.heap.size v xl) (hok : ∀ x ∈ xl, x.Ok) (hl : xl.length ≤ 60) :
    Calls Try.prog 16 #[v] w fun e w' => ∃ t V T S, e = .returned (.tuple #[.pointer (some ⟨t, 0, none⟩), V]) ∧ Pt w' w.heap.size xl t T S xl.length V ∧ Below w.heap.size w w' ∧ w.heap.size ≤ w'.heap.size := by
  obtain ⟨A, c, rfl, hlc, hcm⟩ := hv.form
  have HV := Lib.hid hv
  have HK := Lib.hid hok
  have CN := Lib.hid (fun W => new_tab W)
  have CR := Lib.hid (fun (W : World) (S : Nat → Prop) (N L t : Nat) (T : Tb) (txn : Int) (h : TabAt W S N L t T) (ht : U32 txn) (hN : N ≤ 50000) (hL : L ≤ 50000) => release_any W S N L t T txn h ht hN hL)
  obtain ⟨N, hN⟩ : ∃ N, xl.length = N := ⟨_, rfl⟩
  have HN := Lib.hid (show xl.length = N ∧ N ≤ 60 by omega)
  obtain ⟨B, hB⟩ : ∃ B, w.heap.size = B := ⟨_, rfl⟩
  have HB0 := Lib.hid hB
  rw [hN, hB]
  rw [hB] at HV
  have bN : (N : Int) ≤ 60 := by omega
  clear hv hok hlc hcm hN hl hB
  go_enter Try.func16, Try.ntmps16
  go_wp2_with fail
  (with_reducible refine (CN.out _).mono ?_)
  rintro e w1 ⟨t, S1, rfl, ht1, hs1, hb1⟩
  have HP1 := Lib.hid (show Pt w1 B (xl.take 0) t T0 S1 0 (.slice none 0 0) from ⟨.nil, ⟨0, Nat.le_refl _, ht1⟩, fun x hx => by rw [← HB0.out]; exact hs1 x hx, World.ownsRow_nil _ _ _ _, fun b hb => by cases hb⟩)
  have HB1 := Lib.hid (show Below B w w1 by rw [← HB0.out]; exact hb1)
  have HZ1 := Lib.hid (show B ≤ w1.heap.size by rw [← HB0.out]; exact hb1.size)
  clear ht1 hs1 hb1 CN
  go_wp2
  go_loopw [5, 6] (fun s5 s6 wr => ∃ (i : Nat) (A : Option Addr) (n c : Nat) (T : Tb) (S : Nat → Prop), s5 = .slice A n c ∧ s6 = .int .i64 i ∧ i ≤ N ∧ Hid (n = (whoOf (xl.take i)).length) ∧ Hid (Pt wr B (xl.take i) t T S i (.slice A n c)) ∧ Hid (Below B w wr) ∧ Hid (B ≤ wr.heap.size)) (fun _ s6 _ => N - (intOf s6).toNat)
  case atStart => exact ⟨0, none, 0, 0, T0, S1, rfl, rfl, Nat.zero_le _, Lib.hid rfl, HP1, HB1, HZ1⟩
  case round =>
    obtain ⟨i, A5, n5, c5, T, S, rfl, rfl, hi, HLEN, HP, HB, HZ⟩ := hrel
    obtain ⟨w2, rfl⟩ : ∃ w2, w2 = wr := ⟨wr, rfl⟩
    clear HP1 HB1 HZ1
    by_cases hil : i < N
    · have d1 : decide ((i : Int) < (N : Int)) = true := by simp; omega
      have d1' : decide (i < N) = true := by simp; omega
      obtain ⟨o, ho⟩ : ∃ o, xl[i]? = some o := ⟨_, List.getElem?_eq_getElem (by have := HN.out.1; omega)⟩
      obtain ⟨bk, ok, hA, hbk, hcell⟩ := HV.out.at_ ho
      subst hA
      have HTK := Lib.hid (show xl.take (i + 1) = xl.take i ++ [o] by rw [List.take_add_one, ho]; rfl)
      have HOK := Lib.hid (HK.out o (List.mem_of_getElem? ho))
      have HLT := Lib.hid (show (xl.take i).length ≤ 60 by rw [List.length_take]; omega)
      have HC := Lib.hid (fun (W : World) (hW : Below B w W) (j : Nat) (u : Value) (hj : (cLo o)[j]? = some u) => (hW.cell (p := ⟨bk, ok + i * 6 + j, none⟩) hbk).trans (hcell j u hj))
      obtain ⟨kd, ot, ok3, om⟩ := o
      obtain ⟨ky, ka, kb⟩ := ok3
      have HWM := Lib.hid (who_len (xl.take i))
      have c0 : w2.cell? ⟨bk, ok + i * 6, none⟩ = some (.int .u8 kd) := HC.out w2 HB.out 0 _ rfl
      have c1 : w2.cell? ⟨bk, ok + i * 6 + 1, none⟩ = some (.int .u32 ot) := HC.out w2 HB.out 1 _ rfl
      have c2 : w2.cell? ⟨bk, ok + i * 6 + 2, none⟩ = some (.int .u8 ky) := HC.out w2 HB.out 2 _ rfl
      have c3 : w2.cell? ⟨bk, ok + i * 6 + 3, none⟩ = some (.int .u32 ka) := HC.out w2 HB.out 3 _ rfl
      have c4 : w2.cell? ⟨bk, ok + i * 6 + 4, none⟩ = some (.int .u32 kb) := HC.out w2 HB.out 4 _ rfl
      have c5' : w2.cell? ⟨bk, ok + i * 6 + 5, none⟩ = some (.int .u8 om) := HC.out w2 HB.out 5 _ rfl
      obtain ⟨q, hq⟩ : ∃ q, (kd % 6 == 4) = q := ⟨_, rfl⟩
      have hrem : (kd.tmod 6 == 4) = q := by rw [kd_rem HOK.out.1]; exact hq
      have hw2 : IntKind.i64.wrap ((i : Int) + 1) = ((i + 1 : Nat) : Int) := by rw [IntKind.wrap_i64]; omega
      clear ho hcell
      cases q with
      | true =>
        have hk4 : kd % 6 = 4 := by simpa using hq
        obtain ⟨Nb, hNb, htb⟩ := HP.out.tab
        have CC := Lib.hid (CR.out w2 S Nb i t T ot htb HOK.out.2.1 (by omega) (by omega))
        have HTB := Lib.hid hNb
        have HK4 := Lib.hid hk4
        clear hNb htb hk4
        go_wp2_with fail
        (with_reducible refine CC.out.mono ?_)
        rintro er w3 ⟨v3, ks, T', got, rfl, ho3, hr3, hw3, ht3, hf3⟩
        obtain ⟨hx1, hx2, hx3, hx4, hx5, hx6⟩ := HP.out.release (o := ⟨kd, ot, ⟨ky, ka, kb⟩, om⟩) HZ.out HK4.out HTB.out (by have := HLT.out; omega) ho3 hr3 ht3 hf3
        have hbw3 : Below B w w3 := HB.out.trans hx6
        have hz3 : B ≤ w3.heap.size := Nat.le_trans HZ.out hx6.size
        have e1 : w3.cell? ⟨bk, ok + i * 6 + 1, none⟩ = some (.int .u32 ot) := HC.out w3 hbw3 1 _ rfl
        have CI := Lib.hid (into_any w3 B (.slice A5 n5 c5) (whoOf (xl.take i)) ot hz3 (by have := HWM.out; have := HLT.out; omega) hx4)
        clear ho3 hr3 hw3 ht3 hf3 CC
        go_wp2_with fail
        (with_reducible refine (CI.out).mono ?_)
        rintro e w4 ⟨v5, rfl, ho5, hsm5, hb5⟩
        obtain ⟨A6, c6, hv6, _, _⟩ := own_is ho5
        have HP4 := Lib.hid (Pt.note hx1 hx2 hx3 hx5 ho5 hsm5 hb5)
        have HB4 := Lib.hid (show Below B w w4 from hbw3.trans (hb5.mono hz3))
        have HZ4 := Lib.hid (show B ≤ w4.heap.size from Nat.le_trans hz3 hb5.size)
        rw [← HTK.out] at HP4
        have HL4 := Lib.hid (show (into (whoOf (xl.take i)) ot).length = (whoOf (xl.take (i + 1))).length by rw [HTK.out, whoOf_snoc])
        subst hv6
        clear hx1 hx2 hx3 hx4 hx5 hx6 ho5 hsm5 hb5 hz3 hbw3 CI c0 c1 c2 c3 c4 c5' HP HTK HC
        go_wp2
        go_roundw
        case rel => exact ⟨i + 1, A6, _, c6, _, _, rfl, by go_num, by omega, HL4, HP4, HB4, HZ4⟩
        case measure => simp [intOf]; omega
      | false =>
        have hk4 : kd % 6 ≠ 4 := by simpa using hq
        obtain ⟨Nb, hNb, htb⟩ := HP.out.tab
        have CA := Lib.hid (ask_any w2.drew S Nb i t T ot ⟨ky, ka, kb⟩ om (htb.later (below_drewN (Below.refl _ _) 1)) HOK.out.2.1 HOK.out.2.2.1 (by omega) (by omega))
        have HTB := Lib.hid hNb
        have HK4 := Lib.hid hk4
        have mixed : Try.prog.follows .mixedOrders = true := by kernel_rfl
        obtain ⟨T', hT'⟩ : ∃ T', askT T ot ⟨ky, ka, kb⟩ om = T' := ⟨_, rfl⟩
        obtain ⟨qa, hqa⟩ : ∃ qa, askB T ot ⟨ky, ka, kb⟩ om = qa := ⟨_, rfl⟩
        rw [hT', hqa] at CA
        have HT' := Lib.hid hT'
        clear hNb htb hk4 hT' hqa
        go_upto_region 10 with fail
        go_cut [46] (fun v wx => v = .bool qa ∧ Hid (AskOut w2.drew wx S (Nb + 1) (i + 1) t T'))
        case first =>
          go_region_with (go_at_call 19; (with_reducible refine CA.out.mono ?_); rintro er w6 ⟨rfl, ha6⟩; have HA6 := Lib.hid ha6; clear ha6)
          all_goals (go_wp2; go_meet; exact ⟨rfl, HA6⟩)
        case rest =>
        obtain ⟨rfl, HA6⟩ := hcut
        rename_i hKK
        refine hKK _ _ ?_
        clear hKK CA
        obtain ⟨w3, rfl⟩ : ∃ w3, w3 = wc := ⟨wc, rfl⟩
        obtain ⟨S6, h1, h2, h3⟩ := HA6.out
        have HPD : Pt w2.drew B (xl.take i) t T S i (.slice A5 n5 c5) := ⟨HP.out.run, HP.out.tab.imp fun N h => ⟨h.1, h.2.later (below_drewN (Below.refl _ _) 1)⟩, HP.out.base, HP.out.who, HP.out.far⟩
        obtain ⟨hx1, hx2, hx3, hx4, hx5, hx6⟩ := HPD.ask (o := ⟨kd, ot, ⟨ky, ka, kb⟩, om⟩) HZ.out HK4.out S6 Nb HTB.out (by rw [HT'.out]; exact h1) h2 h3
        have hbw3 : Below B w w3 := HB.out.drew.trans hx6
        have hz3 : B ≤ w3.heap.size := Nat.le_trans HZ.out hx6.size
        have e1 : w3.cell? ⟨bk, ok + i * 6 + 1, none⟩ = some (.int .u32 ot) := HC.out w3 hbw3 1 _ rfl
        have CI := Lib.hid (into_any w3 B (.slice A5 n5 c5) (whoOf (xl.take i)) ot hz3 (by have := HWM.out; have := HLT.out; omega) hx4)
        clear h1 h2 h3 HPD HA6
        go_wp2_with fail
        (with_reducible refine (CI.out).mono ?_)
        rintro e w4 ⟨v5, rfl, ho5, hsm5, hb5⟩
        obtain ⟨A6, c6, hv6, _, _⟩ := own_is ho5
        have HP4 := Lib.hid (Pt.note hx1 hx2 hx3 hx5 ho5 hsm5 hb5)
        have HB4 := Lib.hid (show Below B w w4 from hbw3.trans (hb5.mono hz3))
        have HZ4 := Lib.hid (show B ≤ w4.heap.size from Nat.le_trans hz3 hb5.size)
        rw [← HTK.out] at HP4
        have HL4 := Lib.hid (show (into (whoOf (xl.take i)) ot).length = (whoOf (xl.take (i + 1))).length by rw [HTK.out, whoOf_snoc])
        subst hv6
        clear hx1 hx2 hx3 hx4 hx5 hx6 ho5 hsm5 hb5 hz3 hbw3 CI c0 c1 c2 c3 c4 c5' HP HTK HC
        go_wp2
        go_roundw
        case rel => exact ⟨i + 1, A6, _, c6, _, _, rfl, by go_num, by omega, HL4, HP4, HB4, HZ4⟩
        case measure => simp [intOf]; omega
    · have hiN : i = N := by omega
      have d1 : decide ((i : Int) < (N : Int)) = false := by simp; omega
      have d1' : decide (i < N) = false := by simp; omega
      have htk : xl.take i = xl := by rw [hiN, ← HN.out.1, List.take_length]
      rw [htk] at HP
      subst hiN
      go_wp2
      go_ret2
      exact ⟨t, _, T, S, rfl, HP.out, HB.out, HZ.out⟩
end Go.Proofs.Ytpndcpmfcajmdaa.Lock
