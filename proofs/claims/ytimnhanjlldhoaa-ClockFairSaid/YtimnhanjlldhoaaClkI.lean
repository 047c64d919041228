import Derived.Test.YtimnhanjlldhoaaClkH
/- A call on both clocks: Pick, left and taken. -/
namespace Go.Proofs.Ytimnhanjlldhoaa.Clk
open Go.ChangeShapes Go.WideShapes Go.ChangeAt Go.RowKit Go.IntWalk Go.Proofs.Mem Go.Proofs.Clk
set_option linter.unusedVariables false
set_option maxRecDepth 100000 in
set_option maxHeartbeats 8000000 in
theorem does_again (w : World) (g gf h r ra rb rc k : Nat) (l m : List Fm) (B : Int) (t : Two w g gf l h r ra rb rc m k) (hl : l.length ≤ 64) (hm : m.length ≤ 64) (hh : h < l.length) (hkm : k < m.length) (ho : Oks B l) (hp : Oks B m) (hB : 0 ≤ B ∧ B ≤ 100000) (i kd : Int) (h0 : 0 ≤ kd ∧ kd ≤ 255) (hk : kd.tmod 8 = 7) :
    Calls Try.prog 10 #[.pointer (some ⟨g, 0, none⟩), .pointer (some ⟨r, 0, none⟩), .agg #[.int .u8 kd, .int .i64 i]] w (DoesP B g gf h r ra rb rc k l m w) := by
  have T := Lib.hid t
  have b0 := Box.new w #[.int .u8 kd, .int .i64 i] 30
  clear t
  have HO := Lib.hid ho
  have HP := Lib.hid hp
  have HB := Lib.hid hB
  obtain ⟨r1, r2, p1, p2, he⟩ := two_picks l m h k hh hkm
  have K1 := Lib.hid (p1.keeps hh)
  have K2 := Lib.hid (p2.keeps hkm)
  have P1 := Lib.hid p1
  have P2 := Lib.hid p2
  have HE := Lib.hid he
  clear ho hp hB p1 p2 he
  obtain ⟨x, b, l1, h1⟩ := r1
  obtain ⟨y, b2, m1, k1⟩ := r2
  have T1 := Lib.hid (T.out.later (new_ (Below.refl w.heap.size w) (.cells #[.int .u8 kd, .int .i64 i] 30)))
  have B1 := Lib.hid b0
  have hg : (w.heap.size ≠ g ∧ w.heap.size ≠ gf) ∧ (w.heap.size ≠ r ∧ w.heap.size ≠ ra ∧ w.heap.size ≠ rb ∧ w.heap.size ≠ rc) :=
    ⟨⟨by have := T.out.c.top.lt; omega, by have := T.out.c.fs.lt; omega⟩, by have := T.out.d.top.lt; omega, by have := T.out.d.ts.lt; omega, by have := T.out.d.us.lt; omega, by have := T.out.d.ps.lt; omega⟩
  have HG := Lib.hid hg
  have hf0 := (Fr.refl (DS g gf r ra rb rc) w).alloc (.cells #[.int .u8 kd, .int .i64 i] 30)
  have F0 := Lib.hid hf0
  clear hf0 hg b0
  have OA := Lib.hid (K1.out.2.2 B HB.out.1 HO.out)
  have OB := Lib.hid (K2.out.2.2 B HB.out.1 HP.out)
  rcases b with _ | _
  · go_enter Try.func10, Try.ntmps10
    go_wp2_with fail
    (with_reducible refine (pick_any _ g gf h l T1.out.c hl hh _ P1.out).mono ?_)
    rintro e w1 ⟨rfl, c1, f1⟩
    have b1 := B1.out.fr f1 (by rintro (e | e); exact HG.out.1.1 e; exact HG.out.1.2 e)
    have x1 : w1.cell? ⟨w.heap.size, 0, none⟩ = some (.int .u8 kd) := b1.cell 0
    have T2 := Lib.hid (T1.out.left c1 f1)
    have F1 := Lib.hid (F0.out.trans' f1 (fun _ _ x => .inl x))
    have B2 := Lib.hid b1
    clear c1 f1 b1
    go_wp2_with fail
    (with_reducible refine (pick_ref _ r ra rb rc k m B T2.out.d hm hkm HP.out HB.out.1 _ P2.out).mono ?_)
    rintro e w2 ⟨rfl, d2, f2⟩
    have b2' := B2.out.fr f2 (by rintro (e | e | e | e); exact HG.out.2.1 e; exact HG.out.2.2.1 e; exact HG.out.2.2.2.1 e; exact HG.out.2.2.2.2 e)
    have x2 : w2.cell? ⟨w.heap.size, 0, none⟩ = some (.int .u8 kd) := b2'.cell 0
    have T3 := Lib.hid (T2.out.right d2 f2)
    have F2 := Lib.hid (F1.out.trans' f2 (fun _ _ x => .inr x))
    clear d2 f2 b2'
    dsimp only at T3
    go_wp2
    all_goals go_ret
    all_goals refine ⟨_, l1, h1, m1, k1, rfl, T3.out, F2.out, K1.out.1, K2.out.1, K1.out.2.1, K2.out.2.1, (K1.out.2.2 B HB.out.1 HO.out).mono (by omega), (K2.out.2.2 B HB.out.1 HP.out).mono (by omega), fun e1 e2 => ?_⟩
    all_goals have e3 := HE.out e1 e2
    all_goals injection e3 with e3 e4
    all_goals injection e4 with e4 e5
    all_goals injection e5 with e5 e6
    all_goals refine ⟨?_, e5, e6⟩
    all_goals simp_all
  · rcases b2 with _ | _
    · go_enter Try.func10, Try.ntmps10
      go_wp2_with fail
      (with_reducible refine (pick_any _ g gf h l T1.out.c hl hh _ P1.out).mono ?_)
      rintro e w1 ⟨rfl, c1, f1⟩
      have b1 := B1.out.fr f1 (by rintro (e | e); exact HG.out.1.1 e; exact HG.out.1.2 e)
      have x1 : w1.cell? ⟨w.heap.size, 0, none⟩ = some (.int .u8 kd) := b1.cell 0
      have T2 := Lib.hid (T1.out.left c1 f1)
      have F1 := Lib.hid (F0.out.trans' f1 (fun _ _ x => .inl x))
      have B2 := Lib.hid b1
      clear c1 f1 b1
      go_wp2_with fail
      (with_reducible refine (pick_ref _ r ra rb rc k m B T2.out.d hm hkm HP.out HB.out.1 _ P2.out).mono ?_)
      rintro e w2 ⟨rfl, d2, f2⟩
      have b2' := B2.out.fr f2 (by rintro (e | e | e | e); exact HG.out.2.1 e; exact HG.out.2.2.1 e; exact HG.out.2.2.2.1 e; exact HG.out.2.2.2.2 e)
      have x2 : w2.cell? ⟨w.heap.size, 0, none⟩ = some (.int .u8 kd) := b2'.cell 0
      have T3 := Lib.hid (T2.out.right d2 f2)
      have F2 := Lib.hid (F1.out.trans' f2 (fun _ _ x => .inr x))
      clear d2 f2 b2'
      dsimp only at T3
      go_wp2
      all_goals go_ret
      all_goals refine ⟨_, l1, h1, m1, k1, rfl, T3.out, F2.out, K1.out.1, K2.out.1, K1.out.2.1, K2.out.2.1, (K1.out.2.2 B HB.out.1 HO.out).mono (by omega), (K2.out.2.2 B HB.out.1 HP.out).mono (by omega), fun e1 e2 => ?_⟩
      all_goals have e3 := HE.out e1 e2
      all_goals injection e3 with e3 e4
      all_goals injection e4 with e4 e5
      all_goals injection e5 with e5 e6
      all_goals exact absurd e4 (by decide)
    · by_cases hxy : x = y
      · subst hxy
        have dx : (x == x) = true := by simp
        by_cases hq : (leaveM l1 x).1 = (leaveM m1 x).1
        · have dq : ((leaveM l1 x).1 == (leaveM m1 x).1) = true := by simpa using hq
          clear hq
          go_enter Try.func10, Try.ntmps10
          go_wp2_with fail
          (with_reducible refine (pick_any _ g gf h l T1.out.c hl hh _ P1.out).mono ?_)
          rintro e w1 ⟨rfl, c1, f1⟩
          have b1 := B1.out.fr f1 (by rintro (e | e); exact HG.out.1.1 e; exact HG.out.1.2 e)
          have x1 : w1.cell? ⟨w.heap.size, 0, none⟩ = some (.int .u8 kd) := b1.cell 0
          have T2 := Lib.hid (T1.out.left c1 f1)
          have F1 := Lib.hid (F0.out.trans' f1 (fun _ _ x => .inl x))
          have B2 := Lib.hid b1
          clear c1 f1 b1
          go_wp2_with fail
          (with_reducible refine (pick_ref _ r ra rb rc k m B T2.out.d hm hkm HP.out HB.out.1 _ P2.out).mono ?_)
          rintro e w2 ⟨rfl, d2, f2⟩
          have b2' := B2.out.fr f2 (by rintro (e | e | e | e); exact HG.out.2.1 e; exact HG.out.2.2.1 e; exact HG.out.2.2.2.1 e; exact HG.out.2.2.2.2 e)
          have x2 : w2.cell? ⟨w.heap.size, 0, none⟩ = some (.int .u8 kd) := b2'.cell 0
          have T3 := Lib.hid (T2.out.right d2 f2)
          have F2 := Lib.hid (F1.out.trans' f2 (fun _ _ x => .inr x))
          clear d2 f2 b2'
          dsimp only at T3
          have hl1 : l1.length ≤ 64 := by have h2 : l1.length = l.length := K1.out.1; omega
          have hm1 : m1.length ≤ 64 := by have h2 : m1.length = m.length := K2.out.1; omega
          go_wp2_with fail
          (with_reducible refine (leave_any _ g gf h1 l1 B T3.out.c hl1 OA.out HB.out x).mono ?_)
          rintro e w3 ⟨rfl, c3, f3⟩
          have T4 := Lib.hid (T3.out.left c3 f3)
          have F3 := Lib.hid (F2.out.trans' f3 (fun _ _ x => .inl x))
          clear c3 f3
          go_wp2_with fail
          (with_reducible refine (leave_ref _ r ra rb rc k1 m1 B T4.out.d hm1 OB.out HB.out x).mono ?_)
          rintro e w4 ⟨rfl, d4, f4⟩
          have T5 := Lib.hid (T4.out.right d4 f4)
          have F4 := Lib.hid (F3.out.trans' f4 (fun _ _ x => .inr x))
          clear d4 f4
          have hl2 : (leaveM l1 x).2.length ≤ 64 := by rw [leaveM_len]; exact hl1
          have hm2 : (leaveM m1 x).2.length ≤ 64 := by rw [leaveM_len]; exact hm1
          go_wp2_with fail
          (with_reducible refine (take_any _ g gf h1 (leaveM l1 x).2 T5.out.c hl2 x).mono ?_)
          rintro e w5 ⟨rfl, c5, f5⟩
          have T6 := Lib.hid (T5.out.left c5 f5)
          have F5 := Lib.hid (F4.out.trans' f5 (fun _ _ x => .inl x))
          clear c5 f5
          go_wp2_with fail
          (with_reducible refine (take_ref _ r ra rb rc k1 (leaveM m1 x).2 T6.out.d hm2 x).mono ?_)
          rintro e w6 ⟨rfl, d6, f6⟩
          have T7 := Lib.hid (T6.out.right d6 f6)
          have F6 := Lib.hid (F5.out.trans' f6 (fun _ _ x => .inr x))
          clear d6 f6
          go_wp2
          all_goals go_ret
          all_goals refine ⟨_, (takeM (leaveM l1 x).2 x).2, h1, (takeM (leaveM m1 x).2 x).2, k1, rfl, T7.out, F6.out, (takeM_len.trans (leaveM_len.trans K1.out.1)), (takeM_len.trans (leaveM_len.trans K2.out.1)), K1.out.2.1, K2.out.2.1, (takeM_ok (leaveM_ok (K1.out.2.2 B HB.out.1 HO.out) HB.out.1) HB.out.1).mono (by omega), (takeM_ok (leaveM_ok (K2.out.2.2 B HB.out.1 HP.out) HB.out.1) HB.out.1).mono (by omega), fun e1 e2 => ?_⟩
          all_goals have e3 := HE.out e1 e2
          all_goals injection e3 with e3 e4
          all_goals injection e4 with e4 e5
          all_goals injection e5 with e5 e6
          all_goals subst e5
          all_goals exact ⟨by simp, rfl, e6⟩
        · have dq : ((leaveM l1 x).1 == (leaveM m1 x).1) = false := by simpa using hq
          have HQ := Lib.hid hq
          clear hq
          go_enter Try.func10, Try.ntmps10
          go_wp2_with fail
          (with_reducible refine (pick_any _ g gf h l T1.out.c hl hh _ P1.out).mono ?_)
          rintro e w1 ⟨rfl, c1, f1⟩
          have b1 := B1.out.fr f1 (by rintro (e | e); exact HG.out.1.1 e; exact HG.out.1.2 e)
          have x1 : w1.cell? ⟨w.heap.size, 0, none⟩ = some (.int .u8 kd) := b1.cell 0
          have T2 := Lib.hid (T1.out.left c1 f1)
          have F1 := Lib.hid (F0.out.trans' f1 (fun _ _ x => .inl x))
          have B2 := Lib.hid b1
          clear c1 f1 b1
          go_wp2_with fail
          (with_reducible refine (pick_ref _ r ra rb rc k m B T2.out.d hm hkm HP.out HB.out.1 _ P2.out).mono ?_)
          rintro e w2 ⟨rfl, d2, f2⟩
          have b2' := B2.out.fr f2 (by rintro (e | e | e | e); exact HG.out.2.1 e; exact HG.out.2.2.1 e; exact HG.out.2.2.2.1 e; exact HG.out.2.2.2.2 e)
          have x2 : w2.cell? ⟨w.heap.size, 0, none⟩ = some (.int .u8 kd) := b2'.cell 0
          have T3 := Lib.hid (T2.out.right d2 f2)
          have F2 := Lib.hid (F1.out.trans' f2 (fun _ _ x => .inr x))
          clear d2 f2 b2'
          dsimp only at T3
          have hl1 : l1.length ≤ 64 := by have h2 : l1.length = l.length := K1.out.1; omega
          have hm1 : m1.length ≤ 64 := by have h2 : m1.length = m.length := K2.out.1; omega
          go_wp2_with fail
          (with_reducible refine (leave_any _ g gf h1 l1 B T3.out.c hl1 OA.out HB.out x).mono ?_)
          rintro e w3 ⟨rfl, c3, f3⟩
          have T4 := Lib.hid (T3.out.left c3 f3)
          have F3 := Lib.hid (F2.out.trans' f3 (fun _ _ x => .inl x))
          clear c3 f3
          go_wp2_with fail
          (with_reducible refine (leave_ref _ r ra rb rc k1 m1 B T4.out.d hm1 OB.out HB.out x).mono ?_)
          rintro e w4 ⟨rfl, d4, f4⟩
          have T5 := Lib.hid (T4.out.right d4 f4)
          have F4 := Lib.hid (F3.out.trans' f4 (fun _ _ x => .inr x))
          clear d4 f4
          go_wp2
          all_goals go_ret
          all_goals refine ⟨_, (leaveM l1 x).2, h1, (leaveM m1 x).2, k1, rfl, T5.out, F4.out, (leaveM_len.trans K1.out.1), (leaveM_len.trans K2.out.1), K1.out.2.1, K2.out.2.1, (leaveM_ok (K1.out.2.2 B HB.out.1 HO.out) HB.out.1).mono (by omega), (leaveM_ok (K2.out.2.2 B HB.out.1 HP.out) HB.out.1).mono (by omega), fun e1 e2 => ?_⟩
          all_goals have e3 := HE.out e1 e2
          all_goals injection e3 with e3 e4
          all_goals injection e4 with e4 e5
          all_goals injection e5 with e5 e6
          all_goals subst e5
          all_goals exact absurd rfl HQ.out
      · have dx : (x == y) = false := by simpa using hxy
        have HX := Lib.hid hxy
        clear hxy
        go_enter Try.func10, Try.ntmps10
        go_wp2_with fail
        (with_reducible refine (pick_any _ g gf h l T1.out.c hl hh _ P1.out).mono ?_)
        rintro e w1 ⟨rfl, c1, f1⟩
        have b1 := B1.out.fr f1 (by rintro (e | e); exact HG.out.1.1 e; exact HG.out.1.2 e)
        have x1 : w1.cell? ⟨w.heap.size, 0, none⟩ = some (.int .u8 kd) := b1.cell 0
        have T2 := Lib.hid (T1.out.left c1 f1)
        have F1 := Lib.hid (F0.out.trans' f1 (fun _ _ x => .inl x))
        have B2 := Lib.hid b1
        clear c1 f1 b1
        go_wp2_with fail
        (with_reducible refine (pick_ref _ r ra rb rc k m B T2.out.d hm hkm HP.out HB.out.1 _ P2.out).mono ?_)
        rintro e w2 ⟨rfl, d2, f2⟩
        have b2' := B2.out.fr f2 (by rintro (e | e | e | e); exact HG.out.2.1 e; exact HG.out.2.2.1 e; exact HG.out.2.2.2.1 e; exact HG.out.2.2.2.2 e)
        have x2 : w2.cell? ⟨w.heap.size, 0, none⟩ = some (.int .u8 kd) := b2'.cell 0
        have T3 := Lib.hid (T2.out.right d2 f2)
        have F2 := Lib.hid (F1.out.trans' f2 (fun _ _ x => .inr x))
        clear d2 f2 b2'
        dsimp only at T3
        go_wp2
        all_goals go_ret
        all_goals refine ⟨_, l1, h1, m1, k1, rfl, T3.out, F2.out, K1.out.1, K2.out.1, K1.out.2.1, K2.out.2.1, (K1.out.2.2 B HB.out.1 HO.out).mono (by omega), (K2.out.2.2 B HB.out.1 HP.out).mono (by omega), fun e1 e2 => ?_⟩
        all_goals have e3 := HE.out e1 e2
        all_goals injection e3 with e3 e4
        all_goals injection e4 with e4 e5
        all_goals injection e5 with e5 e6
        all_goals exact absurd e3 HX.out
end Go.Proofs.Ytimnhanjlldhoaa.Clk
