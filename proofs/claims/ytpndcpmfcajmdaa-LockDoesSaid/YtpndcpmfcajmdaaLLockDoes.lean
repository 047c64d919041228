/- The law manciplelaw13.LockDoes returns true whatever it is called with, and what it was called with reads as it did. No condition. -/
import Derived.Test.YtpndcpmfcajmdaaLaw
import Derived.Test.YtpndcpmfcajmdaaLnA
namespace Go.Proofs.Ytpndcpmfcajmdaa.LLockDoes
open Go.ChangeShapes Go.WideShapes Go.ChangeAt Go.RowKit Go.IntWalk Go.Proofs.Mem Law
set_option linter.unusedVariables false
open Go.Proofs.Ytpndcpmfcajmdaa.Lock Go.Proofs.Each
set_option maxRecDepth 100000 in
set_option maxHeartbeats 16000000 in
theorem walk (w : World) (l : Value) (xl : List Lock.Lo) (hl : SS Lock.cLo 6 w w.heap.size l xl) (bl : ∀ o ∈ xl, Lock.Lo.Ok o) :
    Calls Try.prog 3 #[l] w fun e w' => e = .returned (.bool true) ∧ Below w.heap.size w w' := by
  obtain ⟨A, c, rfl, hlc, hcm⟩ := hl.form
  have HL := Lib.hid hl
  have BL := Lib.hid bl
  have KN := Lib.hid (fun W => known_any W)
  clear hl bl
  by_cases hlen : 60 < xl.length
  · have d1 : decide (60 < (xl.length : Int)) = true := decide_eq_true (by omega)
    have d1' : decide (60 < xl.length) = true := decide_eq_true hlen
    go_enter Try.func3, Try.ntmps3
    go_wp2_with fail
    (with_reducible refine (KN.out _).mono ?_)
    rintro e w2 ⟨rfl, hb2⟩
    go_wp2
    go_ret
    exact ⟨rfl, hb2⟩
  · have d1 : decide (60 < (xl.length : Int)) = false := decide_eq_false (by omega)
    have d1' : decide (60 < xl.length) = false := decide_eq_false hlen
    obtain ⟨N, hN⟩ : ∃ N, xl.length = N := ⟨_, rfl⟩
    have HN := Lib.hid (show xl.length = N ∧ N ≤ 60 by omega)
    rw [hN] at d1 d1' HL ⊢
    have bN : (N : Int) ≤ 60 := by omega
    have CN := Lib.hid (fun W => new_tab W)
    have CRN := Lib.hid (fun W => rnew_any W)
    obtain ⟨B, hB⟩ : ∃ B, w.heap.size = B := ⟨_, rfl⟩
    have HB0 := Lib.hid hB
    rw [hB] at HL ⊢
    clear hlc hcm hlen hN hB
    go_enter Try.func3, Try.ntmps3
    go_wp2_with fail
    (with_reducible refine (KN.out _).mono ?_)
    rintro e w0 ⟨rfl, hb0⟩
    have HB00 := Lib.hid (show Below B w w0 by rw [← HB0.out]; exact hb0)
    clear hb0
    go_wp2_with fail
    (with_reducible refine (CN.out _).mono ?_)
    rintro e w1 ⟨t, S1, rfl, ht1, hs1, hb1⟩
    go_wp2_with fail
    (with_reducible refine (CRN.out _).mono ?_)
    rintro e w2 ⟨tb, R1, rfl, hr2, hs2, hb2⟩
    have HZ0 := Lib.hid (show B ≤ w0.heap.size by rw [← HB0.out]; exact HB00.out.size)
    have HBO := Lib.hid (show Bo w2 B t tb 0 T0 [] S1 R1 from ⟨⟨[], .nil, Nat.le_refl _⟩, ⟨0, Nat.le_refl _, ht1.later hb2⟩, hr2, sim_T0, .nil, fun x hx hR => by have h1 := ht1.old x hx; have h2 := hs2 x hR; omega, fun x hx => Nat.le_trans HZ0.out (hs1 x hx), fun x hx => Nat.le_trans (Nat.le_trans HZ0.out hb1.size) (hs2 x hx), Nat.le_trans (Nat.le_trans HZ0.out hb1.size) hb2.size⟩)
    have HB1 := Lib.hid (show Below B w w2 from (HB00.out.trans (hb1.mono HZ0.out)).trans (hb2.mono (Nat.le_trans HZ0.out hb1.size)))
    clear ht1 hs1 hb1 hr2 hs2 hb2 CN CRN
    go_wp2
    go_loopw [5, 6, 7, 8] (fun s5 _ _ _ wr => ∃ (i : Nat) (T : Tb) (L : List Rk) (S R : Nat → Prop), s5 = .int .i64 i ∧ i ≤ N ∧ Hid (Bo wr B t tb i T L S R) ∧ Hid (Below B w wr)) (fun s5 _ _ _ _ => N - (intOf s5).toNat)
    case atStart => exact ⟨0, T0, [], S1, R1, rfl, Nat.zero_le _, HBO, HB1⟩
    case round =>
      obtain ⟨i, T, L, S, R, rfl, hi, HB2, HB⟩ := hrel
      obtain ⟨w2, rfl⟩ : ∃ w2, w2 = wr := ⟨wr, rfl⟩
      clear HBO HB1
      by_cases hil : i < N
      · have e1 : decide ((i : Int) < (N : Int)) = true := by simp; omega
        have e1' : decide (i < N) = true := by simp; omega
        obtain ⟨o, ho⟩ : ∃ o, xl[i]? = some o := ⟨_, List.getElem?_eq_getElem (by have := HN.out.1; omega)⟩
        obtain ⟨bk, ok, hA, hbk, hcell⟩ := HL.out.at_ ho
        subst hA
        have HOK := Lib.hid (BL.out o (List.mem_of_getElem? ho))
        have HC := Lib.hid (fun (W : World) (hW : Below B w W) (j : Nat) (u : Value) (hj : (cLo o)[j]? = some u) => (hW.cell (p := ⟨bk, ok + i * 6 + j, none⟩) hbk).trans (hcell j u hj))
        obtain ⟨kd, ot, ok3, om⟩ := o
        obtain ⟨ky, ka, kb⟩ := ok3
        have c0 : w2.cell? ⟨bk, ok + i * 6, none⟩ = some (.int .u8 kd) := HC.out w2 HB.out 0 _ rfl
        have c1 : w2.cell? ⟨bk, ok + i * 6 + 1, none⟩ = some (.int .u32 ot) := HC.out w2 HB.out 1 _ rfl
        have c2 : w2.cell? ⟨bk, ok + i * 6 + 2, none⟩ = some (.int .u8 ky) := HC.out w2 HB.out 2 _ rfl
        have c3 : w2.cell? ⟨bk, ok + i * 6 + 3, none⟩ = some (.int .u32 ka) := HC.out w2 HB.out 3 _ rfl
        have c4 : w2.cell? ⟨bk, ok + i * 6 + 4, none⟩ = some (.int .u32 kb) := HC.out w2 HB.out 4 _ rfl
        have c5 : w2.cell? ⟨bk, ok + i * 6 + 5, none⟩ = some (.int .u8 om) := HC.out w2 HB.out 5 _ rfl
        have hw2 : IntKind.i64.wrap ((i : Int) + 1) = ((i + 1 : Nat) : Int) := by rw [IntKind.wrap_i64]; omega
        have CD := Lib.hid (does_both w2 B t tb i T L S R kd ot ⟨ky, ka, kb⟩ om HB2.out HOK.out (by omega))
        have HI := Lib.hid (show i + 1 ≤ 100 by omega)
        clear ho hcell
        go_wp2_with fail
        (with_reducible refine (CD.out).mono ?_)
        rintro e w3 ⟨rfl, T', L', S', R', hbo, hb3⟩
        have HBO3 := Lib.hid hbo
        have HB3 := Lib.hid (show Below B w w3 from HB.out.trans hb3)
        have CE := Lib.hid (bo_edges w3 B t tb (i + 1) T' L' S' R' hbo HI.out)
        have x3 : w3.cell? ⟨bk, ok + i * 6 + 1, none⟩ = some (.int .u32 ot) := HC.out w3 HB3.out 1 _ rfl
        obtain ⟨E, hE⟩ : ∃ E, rEds (L'.map Rk.co) (whoL (L'.map Rk.co)) = E := ⟨_, rfl⟩
        rw [hE] at CE
        have HE := Lib.hid hE
        clear hbo hb3 CD hE c0 c1 c2 c3 c4 c5 HB2 HB
        go_wp2_with fail
        (with_reducible refine (CE.out).mono ?_)
        rintro e w4 ⟨v4, rfl, ho4, hl4, hb4⟩
        have HBO4 := Lib.hid (HBO3.out.later hb4)
        have HB4 := Lib.hid (show Below B w w4 from HB3.out.trans (hb4.mono HBO3.out.hb))
        have CF := Lib.hid (show Calls Try.prog 15 #[.pointer (some ⟨tb, 0, none⟩)] w4 fun e w' => ∃ v, e = .returned v ∧ w'.ownsRow w4.heap.size 51 2 v E.length (E.flatMap cEd) ∧ Below w4.heap.size w4 w' by
          have := bo_redges w4 B t tb (i + 1) T' L' S' R' HBO4.out HI.out
          rw [HE.out] at this
          exact this)
        have HO4 := Lib.hid ho4
        have HL4 := Lib.hid hl4
        clear ho4 hl4 hb4 CE HBO3 HB3 x3
        go_wp2_with fail
        (with_reducible refine (CF.out).mono ?_)
        rintro e w5 ⟨v5, rfl, ho5, hb5⟩
        have HBO5 := Lib.hid (HBO4.out.later hb5)
        have HB5 := Lib.hid (show Below B w w5 from HB4.out.trans (hb5.mono HBO4.out.hb))
        have CS := Lib.hid (sameEds_any w5 w5.heap.size v4 v5 E (SS.of_own cEd_len (own_below HO4.out hb5)) (SS.of_own cEd_len ho5) HL4.out)
        clear ho5 hb5 CF HBO4 HB4 HO4 HL4
        go_wp2_with fail
        (with_reducible refine (CS.out).mono ?_)
        rintro e w6 ⟨rfl, hb6⟩
        have HBO6 := Lib.hid (HBO5.out.later hb6)
        have HB6 := Lib.hid (show Below B w w6 from HB5.out.trans (hb6.mono HBO5.out.hb))
        have x6 : w6.cell? ⟨bk, ok + i * 6 + 1, none⟩ = some (.int .u32 ot) := HC.out w6 HB6.out 1 _ rfl
        have CD5 := Lib.hid (does_see w6 B t tb (i + 1) T' L' S' R' 5 ot ⟨0, 0, 0⟩ 0 HBO6.out HOK.out.2.1 (by omega) HI.out (by decide))
        clear hb6 CS HBO5 HB5
        go_wp2_with fail
        (with_reducible refine (CD5.out).mono ?_)
        rintro e w7 ⟨rfl, hb7⟩
        have HBO7 := Lib.hid (HBO6.out.later hb7)
        have HB7 := Lib.hid (show Below B w w7 from HB6.out.trans (hb7.mono HBO6.out.hb))
        clear hb7 CD5 HBO6 HB6 x6
        go_wp2
        go_roundw
        case rel => exact ⟨i + 1, T', L', S', R', by go_num, by omega, HBO7, HB7⟩
        case measure => simp [intOf]; omega
      · have e1 : decide ((i : Int) < (N : Int)) = false := by simp; omega
        have e1' : decide (i < N) = false := by simp; omega
        go_wp2
        go_ret
        exact ⟨rfl, HB.out⟩


set_option maxRecDepth 100000 in
theorem lifted (os : Os) (started : os.Started) (H : Type) (enc : TypeId × Value → H) :
    ReturnsInHanded {} Try.checked os 3 .any (Rows.lockDoesSpec.pre6 enc Try.prog Try.f3 Rows.lockDoesRow.domain false) (Rows.lockDoesSpec.post enc Try.prog Try.f3 false true false false) := by
  refine returnsInHanded_of_change (C := Try.checked) own started (by kernel_rfl) Try.func3
    (ChangeSpec.witness6 (enc := enc) (C := Try.checked) false ⟨#[], #[.slice none 0 0], []⟩ 8 (by kernel_rfl) (by kernel_rfl) (by kernel_rfl) (by kernel_rfl)) ?_
  intro W base args ds gs before hval0 hW hcnd _
  have hval : ∀ (j : Nat) t v, Try.f3.params[j]? = some t → args[j]? = some v → Value.okWide Try.prog W .any base t v := hval0
  have hW' := hW
  obtain ⟨p, q, hA0, hV, rfl, hfz, hnd⟩ := hW
  have hA1 : DataW.TrodAll enc Try.prog W 0 (fun _ => true) true Try.f3.params.toList args.toList ds p := hA0
  have hA := hA1
  rw [Try.params3] at hA hval
  obtain ⟨v0, vs0, d0, ds0, p0, q0, hargs, rfl, rfl, h0, r0⟩ := trodAll_cons hA
  obtain ⟨rfl, rfl, rfl⟩ := trodAll_nil r0
  obtain rfl : args = #[v0] := by cases args; simp_all
  obtain ⟨rfl, rfl⟩ := trodVars_none hV
  obtain ⟨xl, i0, wf0⟩ := Lock.open_los (hval 0 22 v0 rfl rfl) h0
  clear hA0 hval0
  refine (walk W v0 xl i0 wf0).mono fun e W' ⟨he, bel⟩ => ?_
  subst he
  exact ⟨_, rfl, _, _, _, [], _, [], hW', trodAll_mk1 (shut_bool Try.underlying4 _), args_again laidOut bel (by kernel_rfl) hA1, rfl, bel.frame _, fun h => by cases h⟩

theorem over : Rows.lockDoesRow.holds Try.pinned (OpenSpec.ofChange Rows.lockDoesSpec) :=
  OpenClaim.holds_of_wide 3 Try.f3 rfl rfl rfl rfl rfl rfl rfl ⟨rfl, rfl, rfl, rfl, rfl⟩ rfl rfl rfl rfl rfl (by kernel_rfl) Try.func3 (by kernel_rfl)
    (of_decide_eq_true (by kernel_rfl)) (by unfold Func.isWrapper; first | (rw [if_pos (by decide +kernel)]; kernel_rfl) | (rw [if_neg (by decide +kernel)]; exact ⟨rfl, rfl⟩))
    (fun os started H enc _ => lifted os started H enc)

theorem proved : Rows.LockDoesSaid := over
end Go.Proofs.Ytpndcpmfcajmdaa.LLockDoes
