/- The law manciplelaw13.LockShares returns true whatever it is called with, and what it was called with reads as it did. No condition. -/
import Derived.Test.YtpndcpmfcajmdaaLaw
import Derived.Test.YtpndcpmfcajmdaaLm7
namespace Go.Proofs.Ytpndcpmfcajmdaa.LLockShares
open Go.ChangeShapes Go.WideShapes Go.ChangeAt Go.RowKit Go.IntWalk Go.Proofs.Mem Law
set_option linter.unusedVariables false
open Go.Proofs.Ytpndcpmfcajmdaa.Lock Go.Proofs.Each
theorem sh_edges {T : Tb} {fr : List Int} (h : Sh T) (he : EdR T fr (ahL T)) : eds T fr = [] := edR_none he (fun x => by rw [h.wt])
set_option maxRecDepth 100000 in
set_option maxHeartbeats 16000000 in
theorem walk (w : World) (l : Value) (xl : List Lock.Lo) (hl : SS Lock.cLo 6 w w.heap.size l xl) (bl : ∀ o ∈ xl, Lock.Lo.Ok o) :
    Calls Try.prog 7 #[l] w fun e w' => e = .returned (.bool true) ∧ Below w.heap.size w w' := by
  obtain ⟨A, c, rfl, hlc, hcm⟩ := hl.form
  have HL := Lib.hid hl
  have BL := Lib.hid bl
  have KN := Lib.hid (fun W => known_any W)
  clear hl bl
  by_cases hlen : 60 < xl.length
  · have d1 : decide (60 < (xl.length : Int)) = true := decide_eq_true (by omega)
    have d1' : decide (60 < xl.length) = true := decide_eq_true hlen
    go_enter Try.func7, Try.ntmps7
    go_wp2_with fail
    (with_reducible refine (KN.out _).mono ?_)
    rintro e w2 ⟨rfl, hb2⟩
    go_wp2
    go_ret
    exact ⟨rfl, hb2⟩
  · have d1 : decide (60 < (xl.length : Int)) = false := decide_eq_false (by omega)
    have d1' : decide (60 < xl.length) = false := decide_eq_false hlen
    obtain ⟨N, hN⟩ : ∃ N, xl.length = N := ⟨_, rfl⟩
    have HN := Lib.hid (show xl.length = N ∧ N ≤ 60 by omega)
    rw [hN] at d1 d1' HL ⊢
    have bN : (N : Int) ≤ 60 := by omega
    have CN := Lib.hid (fun W => new_tab W)
    have CR := Lib.hid (fun (W : World) (S : Nat → Prop) (N L t : Nat) (T : Tb) (txn : Int) (h : TabAt W S N L t T) (ht : U32 txn) (hN : N ≤ 50000) (hL : L ≤ 50000) => release_any W S N L t T txn h ht hN hL)
    obtain ⟨B, hB⟩ : ∃ B, w.heap.size = B := ⟨_, rfl⟩
    have HB0 := Lib.hid hB
    rw [hB] at HL ⊢
    clear hlc hcm hlen hN hB
    go_enter Try.func7, Try.ntmps7
    go_wp2_with fail
    (with_reducible refine (KN.out _).mono ?_)
    rintro e w0 ⟨rfl, hb0⟩
    have HB00 := Lib.hid (show Below B w w0 by rw [← HB0.out]; exact hb0)
    clear hb0
    go_wp2_with fail
    (with_reducible refine (CN.out _).mono ?_)
    rintro e w1 ⟨t, S1, rfl, ht1, hs1, hb1⟩
    have HZ0 := Lib.hid (show B ≤ w0.heap.size by rw [← HB0.out]; exact HB00.out.size)
    have HB1 := Lib.hid (show Below B w w1 from HB00.out.trans (hb1.mono HZ0.out))
    have HZ1 := Lib.hid (show B ≤ w1.heap.size from Nat.le_trans HZ0.out hb1.size)
    have HT1 := Lib.hid ht1
    have HS1 := Lib.hid (show ∀ x, S1 x → B ≤ x from fun x hx => Nat.le_trans HZ0.out (hs1 x hx))
    clear ht1 hs1 hb1 CN
    go_wp2
    go_loopw [4, 5, 6] (fun s4 _ _ wr => ∃ (i : Nat) (T : Tb) (S : Nat → Prop) (ys : List Lo), s4 = .int .i64 i ∧ i ≤ N ∧ Hid (RunR ys T) ∧ Hid (Sh T) ∧ Hid (∃ Nb, Nb ≤ i ∧ TabAt wr S Nb i t T) ∧ Hid (∀ x, S x → B ≤ x) ∧ Hid (Below B w wr) ∧ Hid (B ≤ wr.heap.size)) (fun s4 _ _ _ => N - (intOf s4).toNat)
    case atStart => exact ⟨0, T0, S1, [], rfl, Nat.zero_le _, Lib.hid .nil, Lib.hid sh_T0, Lib.hid ⟨0, Nat.le_refl _, HT1.out⟩, HS1, HB1, HZ1⟩
    case round =>
      obtain ⟨i, T, S, ys, rfl, hi, HRUN, HSH, HT, HS, HB, HZ⟩ := hrel
      obtain ⟨w2, rfl⟩ : ∃ w2, w2 = wr := ⟨wr, rfl⟩
      clear HT1 HS1 HB1 HZ1
      obtain ⟨Nb, hNb, htb⟩ := HT.out
      have HTB := Lib.hid htb
      by_cases hil : i < N
      · have e1 : decide ((i : Int) < (N : Int)) = true := by simp; omega
        have e1' : decide (i < N) = true := by simp; omega
        obtain ⟨o, ho⟩ : ∃ o, xl[i]? = some o := ⟨_, List.getElem?_eq_getElem (by have := HN.out.1; omega)⟩
        obtain ⟨bk, ok, hA, hbk, hcell⟩ := HL.out.at_ ho
        subst hA
        have HOK := Lib.hid (BL.out o (List.mem_of_getElem? ho))
        have HC := Lib.hid (fun (W : World) (hW : Below B w W) (j : Nat) (u : Value) (hj : (cLo o)[j]? = some u) => (hW.cell (p := ⟨bk, ok + i * 6 + j, none⟩) hbk).trans (hcell j u hj))
        obtain ⟨kd, ot, ok3, om⟩ := o
        obtain ⟨ky, ka, kb⟩ := ok3
        have c0 : w2.cell? ⟨bk, ok + i * 6, none⟩ = some (.int .u8 kd) := HC.out w2 HB.out 0 _ rfl
        have c1 : w2.cell? ⟨bk, ok + i * 6 + 1, none⟩ = some (.int .u32 ot) := HC.out w2 HB.out 1 _ rfl
        have c2 : w2.cell? ⟨bk, ok + i * 6 + 2, none⟩ = some (.int .u8 ky) := HC.out w2 HB.out 2 _ rfl
        have c3 : w2.cell? ⟨bk, ok + i * 6 + 3, none⟩ = some (.int .u32 ka) := HC.out w2 HB.out 3 _ rfl
        have c4 : w2.cell? ⟨bk, ok + i * 6 + 4, none⟩ = some (.int .u32 kb) := HC.out w2 HB.out 4 _ rfl
        obtain ⟨q, hq⟩ : ∃ q, (kd % 6 == 4) = q := ⟨_, rfl⟩
        have hrem : (kd.tmod 6 == 4) = q := by rw [kd_rem HOK.out.1]; exact hq
        have hw2 : IntKind.i64.wrap ((i : Int) + 1) = ((i + 1 : Nat) : Int) := by rw [IntKind.wrap_i64]; omega
        clear ho hcell
        cases q with
        | true =>
          have hk4 : kd % 6 = 4 := by simpa using hq
          have CC := Lib.hid (CR.out w2 S Nb i t T ot htb HOK.out.2.1 (by omega) (by omega))
          have HK4 := Lib.hid hk4
          have HNB := Lib.hid hNb
          clear htb hNb hk4
          go_wp2_with fail
          (with_reducible refine CC.out.mono ?_)
          rintro er w3 ⟨v3, ks, T', got, rfl, ho3, hr3, hw3, ht3, hf3⟩
          obtain ⟨hg, hsh⟩ := sh_rel HSH.out ho3 hr3
          subst hg
          obtain ⟨A3, c3', rfl, _, _⟩ := own_is hw3
          have R1 := Lib.hid (show RunR (ys ++ [⟨kd, ot, ⟨ky, ka, kb⟩, om⟩]) T' from .snoc HRUN.out (by unfold StepR; rw [if_pos HK4.out]; exact ⟨ks, [], ho3, hr3⟩))
          have R2 := Lib.hid hsh
          have R3 := Lib.hid (show ∃ Nb, Nb ≤ i + 1 ∧ TabAt w3 S Nb (i + 1) t T' from ⟨Nb, by have := HNB.out; omega, ht3.more (Nat.le_refl _) (Nat.le_succ _)⟩)
          have R4 := Lib.hid (show Below B w w3 from HB.out.trans (hf3.to_below HS.out HZ.out))
          have R5 := Lib.hid (show B ≤ w3.heap.size from Nat.le_trans HZ.out hf3.size)
          clear ho3 hr3 hw3 ht3 hf3 hsh CC c0 c1 c2 c3 c4
          go_wp2
          go_roundw
          case rel => exact ⟨i + 1, T', S, _, by go_num, by omega, R1, R2, R3, HS, R4, R5⟩
          case measure => simp [intOf]; omega
        | false =>
          have hk4 : kd % 6 ≠ 4 := by simpa using hq
          have CA := Lib.hid (ask_any w2.drew S Nb i t T ot ⟨ky, ka, kb⟩ 1 (htb.later (below_drewN (Below.refl _ _) 1)) HOK.out.2.1 HOK.out.2.2.1 (by omega) (by omega))
          have HK4 := Lib.hid hk4
          have HNB := Lib.hid hNb
          have mixed : Try.prog.follows .mixedOrders = true := by kernel_rfl
          obtain ⟨hsa, hst⟩ := sh_ask (t := ot) (k := ⟨ky, ka, kb⟩) HSH.out
          obtain ⟨T', hT'⟩ : ∃ T', askT T ot ⟨ky, ka, kb⟩ 1 = T' := ⟨_, rfl⟩
          rw [hT', hsa] at CA
          rw [hT'] at hst
          have HT' := Lib.hid hT'
          have HST := Lib.hid hst
          clear htb hNb hk4 hT' hsa hst
          go_upto_region 13 with fail
          go_cut [6] (fun v wx => v = .bool true ∧ Hid (AskOut w2.drew wx S (Nb + 1) (i + 1) t T'))
          case first =>
            go_region_with (go_at_call 19; (with_reducible refine CA.out.mono ?_); rintro er w6 ⟨rfl, ha6⟩; have HA6 := Lib.hid ha6; clear ha6)
            all_goals (go_wp2; go_meet; exact ⟨rfl, HA6⟩)
          case rest =>
          obtain ⟨rfl, HA6⟩ := hcut
          rename_i hKK
          refine hKK _ _ ?_
          clear hKK CA
          obtain ⟨w3, rfl⟩ : ∃ w3, w3 = wc := ⟨wc, rfl⟩
          obtain ⟨S6, h1, h2, h3⟩ := HA6.out
          have R1 := Lib.hid (show RunR (ys ++ [⟨kd, ot, ⟨ky, ka, kb⟩, 1⟩]) T' from .snoc HRUN.out (by unfold StepR; rw [if_neg HK4.out]; exact HT'.out.symm))
          have R3 := Lib.hid (show ∃ Nb, Nb ≤ i + 1 ∧ TabAt w3 S6 Nb (i + 1) t T' from ⟨Nb + 1, by have := HNB.out; omega, h1⟩)
          have hbd : Below B w w2.drew := HB.out.drew
          have R4 := Lib.hid (show Below B w w3 from hbd.trans (h2.to_below HS.out HZ.out))
          have R5 := Lib.hid (show B ≤ w3.heap.size from Nat.le_trans HZ.out h2.size)
          have R6 := Lib.hid (show ∀ x, S6 x → B ≤ x from fun x hx => (h3 x hx).elim (HS.out x) (Nat.le_trans HZ.out))
          clear h1 h2 h3 hbd HA6 c0 c1 c2 c3 c4
          go_wp2
          go_roundw
          case rel => exact ⟨i + 1, T', S6, _, by go_num, by omega, R1, HST, R3, R6, R4, R5⟩
          case measure => simp [intOf]; omega
      · have e1 : decide ((i : Int) < (N : Int)) = false := by simp; omega
        have e1' : decide (i < N) = false := by simp; omega
        have CE := Lib.hid (edges_any w2 S Nb i t T htb (inv_run HRUN.out) (line_run HRUN.out).1 (by omega) (by omega))
        clear htb hNb
        go_wp2_with fail
        (with_reducible refine (CE.out).mono ?_)
        rintro e w5 ⟨v, fr, rfl, he, _, ho, hb5⟩
        rw [sh_edges HSH.out he] at ho
        obtain ⟨A5, c5, rfl⟩ : ∃ A c, v = .slice A 0 c := by
          rcases ho.2 with ⟨rfl, _⟩ | ⟨g, cap, cur, rfl, _⟩
          · exact ⟨_, _, rfl⟩
          · exact ⟨_, _, rfl⟩
        have HE := Lib.hid (show Below B w w5 from HB.out.trans (hb5.mono HZ.out))
        clear he ho hb5
        go_wp2
        go_ret
        exact ⟨rfl, HE.out⟩


set_option maxRecDepth 100000 in
theorem lifted (os : Os) (started : os.Started) (H : Type) (enc : TypeId × Value → H) :
    ReturnsInHanded {} Try.checked os 7 .any (Rows.lockSharesSpec.pre6 enc Try.prog Try.f7 Rows.lockSharesRow.domain false) (Rows.lockSharesSpec.post enc Try.prog Try.f7 false true false false) := by
  refine returnsInHanded_of_change (C := Try.checked) own started (by kernel_rfl) Try.func7
    (ChangeSpec.witness6 (enc := enc) (C := Try.checked) false ⟨#[], #[.slice none 0 0], []⟩ 8 (by kernel_rfl) (by kernel_rfl) (by kernel_rfl) (by kernel_rfl)) ?_
  intro W base args ds gs before hval0 hW hcnd _
  have hval : ∀ (j : Nat) t v, Try.f7.params[j]? = some t → args[j]? = some v → Value.okWide Try.prog W .any base t v := hval0
  have hW' := hW
  obtain ⟨p, q, hA0, hV, rfl, hfz, hnd⟩ := hW
  have hA1 : DataW.TrodAll enc Try.prog W 0 (fun _ => true) true Try.f7.params.toList args.toList ds p := hA0
  have hA := hA1
  rw [Try.params7] at hA hval
  obtain ⟨v0, vs0, d0, ds0, p0, q0, hargs, rfl, rfl, h0, r0⟩ := trodAll_cons hA
  obtain ⟨rfl, rfl, rfl⟩ := trodAll_nil r0
  obtain rfl : args = #[v0] := by cases args; simp_all
  obtain ⟨rfl, rfl⟩ := trodVars_none hV
  obtain ⟨xl, i0, wf0⟩ := Lock.open_los (hval 0 22 v0 rfl rfl) h0
  clear hA0 hval0
  refine (walk W v0 xl i0 wf0).mono fun e W' ⟨he, bel⟩ => ?_
  subst he
  exact ⟨_, rfl, _, _, _, [], _, [], hW', trodAll_mk1 (shut_bool Try.underlying4 _), args_again laidOut bel (by kernel_rfl) hA1, rfl, bel.frame _, fun h => by cases h⟩

theorem over : Rows.lockSharesRow.holds Try.pinned (OpenSpec.ofChange Rows.lockSharesSpec) :=
  OpenClaim.holds_of_wide 7 Try.f7 rfl rfl rfl rfl rfl rfl rfl ⟨rfl, rfl, rfl, rfl, rfl⟩ rfl rfl rfl rfl rfl (by kernel_rfl) Try.func7 (by kernel_rfl)
    (of_decide_eq_true (by kernel_rfl)) (by unfold Func.isWrapper; first | (rw [if_pos (by decide +kernel)]; kernel_rfl) | (rw [if_neg (by decide +kernel)]; exact ⟨rfl, rfl⟩))
    (fun os started H enc _ => lifted os started H enc)

theorem proved : Rows.LockSharesSaid := over
end Go.Proofs.Ytpndcpmfcajmdaa.LLockShares
