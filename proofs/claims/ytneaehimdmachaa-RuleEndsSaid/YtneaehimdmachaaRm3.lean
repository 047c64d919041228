import Derived.Test.YtneaehimdmachaaMem2
import Derived.Test.YtneaehimdmachaaRm2
namespace Go.Proofs.Ytneaehimdmachaa.Rule
open Go.ChangeShapes Go.WideShapes Go.ChangeAt Go.RowKit Go.IntWalk Go.Proofs.Mem Go.Proofs.Each
set_option linter.unusedVariables false
set_option linter.unusedSimpArgs false
set_option maxRecDepth 100000 in
set_option maxHeartbeats 8000000 in
theorem mint_y (w : World) (g : Nat) (q : Ot) (v : Value) (base i : Nat) (p : Value) (l : List Pu) (seen : List Ce) (hst : St w g q v base i p l) (hs : SeenAt w g v seen) (hg : g < base) (hbase : base ≤ w.heap.size) (hl : l.length ≤ 800) (hi : i ≤ 800000) (hq : q.Ok) (hok : ∀ c ∈ seen, c.Ok) (hkd : q.kd = 2) :
    Calls Try.prog 37 #[.pointer (some ⟨g, 0, none⟩)] w (Did w g q v base i p l seen (oMint q) Rp.enc) := by
  have BEG := Lib.hid (Begin.mk hs hg hbase hq hok (fun x hx => hst.own.lt x hx))
  obtain ⟨W0, hW0⟩ : ∃ W0, w.alloc (.cells #[.int .u16 0, .int .u64 0, .int .u64 0, .int .u64 0] 41) = W0 := ⟨_, rfl⟩
  have SS : Hid (ST w g q v base p i p l [.box w.heap.size #[.int .u16 0, .int .u64 0, .int .u64 0, .int .u64 0] 41] W0) := Lib.hid (by rw [← hW0]; exact ST.start hst BEG.out _ _)
  have HI := Lib.hid hi
  have HQ := Lib.hid hq
  have HOK := Lib.hid hok
  have HL := Lib.hid hl
  have HKD := Lib.hid hkd
  obtain ⟨ce0, hce0⟩ := the_cell seen (i)
  have CE0 := Lib.hid hce0
  clear hst hs hg hbase hl hi hq hok hkd hce0
  go_enter Try.func37, Try.ntmps37
  go_upto_region 1 with fail
  try rw [hW0]
  clear hW0
  refine wp_SK (D := DP w g q v base i p l seen (oMint q) Rp.enc) 9 10 11 (seen[i]? = some ce0 ∧ ce0.is = true) (i + 1) #[.int .u64 ce0.A, .int .u64 ce0.B, .int .u8 1, .int .u32 q.wh, .int .u32 0, .bool true] [pw g 0, pw g 0, pw g 7, pw g 0, pw g 0, pw g 0, pw g 1, some (.int .u32 q.wh, True), some (.agg #[.int .u8 1, .int .u32 q.wh, .int .u32 0], True), some (.agg (thing ce0.A ce0.B 1 q.wh 0 true), True), none, none] SS.out (fun vals => ?_) (fun vals W1 hB hfin hall => ?_) (ea 10 rfl)
  · simp only [ObD, Act.put, qA, qC, qZ]
    refine ⟨?_, ?_, ?_, ?_, ?_, ?_, ?_, ?_, ?o0_8, ?o0_9, ?o0_10, ?o0_11, trivial⟩
    all_goals (intro L W hL hk hC hw; have f := deps hw rfl rfl; simp only [depF, vsP, pw, qS, qD, and_true, true_and] at f)
    case o0_8 => have CL := Lib.hid (purse_any q.wh W); clear hL hC hk hw; refine spD rfl ?_; go_simp; (with_reducible refine CL.out.mono ?_); rintro e w8 ⟨rfl, h2⟩; first | exact sq h2 rfl ⟨rfl, trivial⟩ | exact ⟨_, rfl, sq h2 rfl ⟨rfl, trivial⟩⟩
    case o0_9 =>
      have CL := Lib.hid (there_K SS.out (hC.pre hk) BEG.out (by have := HI.out; omega) CE0.out 1 q.wh 0); clear hL hC hk hw; refine spD rfl ?_; go_simp; (with_reducible refine CL.out.mono ?_); rintro e w8 (⟨h, rfl, h2⟩ | ⟨h, h3, rfl, h2⟩ | ⟨rfl, hf, H⟩)
      · exact ⟨_, rfl, Did.miss (by unfold oMint; simp only [runOm_bind, run_there_no h]) h2⟩
      · exact ⟨_, rfl, Did.err (by unfold oMint; simp only [runOm_bind, run_there_not h h3]) h2⟩
      · first | exact kv hf H rfl ⟨rfl, trivial⟩ | exact ⟨_, rfl, kv hf H rfl ⟨rfl, trivial⟩⟩
    case o0_10 => have ZZ := hC.fr.size; clear hL hC hk hw; refine spD rfl ?_; go_simp; exact am ZZ
    case o0_11 => obtain ⟨gt, C, fa, hgt, bx0, hc⟩ := Fw.geta (hw ⟨10, .data⟩ (by simp) rfl) (by decide); obtain ⟨c0, c1, c2, c3, c4, c5, rfl⟩ := arr6 hc; have q := six_cells bx0; have BXX := Lib.hid bx0; have FA := Lib.hid fa; clear bx0 hc; unfold thing at f; clear hL hC hk hw; refine spD rfl ?_; go_simp; exact sm SS.out BEG.out BXX.out hgt FA.out
    all_goals (have c := kn7 hC; clear hL hC hk hw; refine spD rfl ?_; go_simp; first | exact sv rfl ⟨rfl, trivial⟩ | exact ⟨_, rfl, sv rfl ⟨rfl, trivial⟩⟩)
  have S0 := Lib.hid hB.1
  simp only [allF, vsP, pw, true_and, and_true, Nat.reduceAdd] at hall
  obtain ⟨gt0, fa, hgt, bx⟩ := hfin
  simp only [TL, Act.put, qA, qC, qZ, hall, fa]
  replace SS := Lib.hid (SS.out.push BEG.out hB.st SS.out.lt hgt bx)
  clear hall vals hB fa hgt bx
  have y0 : W1.cell? ⟨g, 0, none⟩ = some (.int .u8 q.kd) := SS.out.kn.c0
  have dk : (q.kd == 2) = true := by have := HKD.out; simpa using this
  go_upto_region 3 with fail
  clear dk y0
  refine wp_S (D := DP w g q v base i p l seen (oMint q) Rp.enc) 11 12 13 (SB True False w g q v base p (i + 1) p l [.box gt0 #[.int .u64 (ce0.A + q.n), .int .u64 ce0.B, .int .u8 1, .int .u32 q.wh, .int .u32 0, .bool true] 69, .box w.heap.size #[.int .u16 0, .int .u64 0, .int .u64 0, .int .u64 0] 41]) [some (.pointer (some ⟨gt0, 0, none⟩), True), some (.pointer (some ⟨gt0, 0, none⟩), True), some (.int .u64 ce0.A, True), pw g 0, pw g 0, pw g 0, pw g 5, some (.int .u64 q.n, True), some (.int .u64 (ce0.A + q.n), Mr ce0.A q.n), some (.pointer (some ⟨gt0, 0, none⟩), True), some (.pointer (some ⟨gt0, 0, none⟩), True), some (undef, True)] SS.out (fun vals => ?_) (fun vals W2 hB hall => ?_)
  · simp only [ObD, Act.put, qA, qC, qZ]
    refine ⟨?_, ?_, ?o1_2, ?_, ?_, ?_, ?_, ?_, ?o1_8, ?_, ?_, ?o1_11, trivial⟩
    all_goals (intro L W hL hk hC hw; have f := deps hw rfl rfl; simp only [depF, vsP, pw, qS, qD, and_true, true_and] at f)
    case' o1_2 => have k0 : W.cell? ⟨gt0, 0, none⟩ = some (.int .u64 ce0.A) := (hC.pre (hL.not_yet hk 11 16 (by decide +kernel))).bx.1.out.cell 0
    case o1_8 =>
      have CL := Lib.hid (more_C (A_ok HOK.out S0.out.1) HQ.out.n hC SS.out BEG.out); clear hL hC hk hw; refine spD rfl ?_; go_simp; (with_reducible refine CL.out.mono ?_)
      rintro e w8 (⟨h, rfl, h2⟩ | ⟨h1, rfl, h2⟩)
      · exact ⟨_, rfl, Did.err (by unfold oMint; simp only [runOm_bind, run_there S0.out.1 S0.out.2, if_pos HKD.out, run_more_no h]) h2⟩
      · first | exact sq h2 rfl ⟨rfl, h1⟩ | exact ⟨_, rfl, sq h2 rfl ⟨rfl, h1⟩⟩
    case o1_11 => have PRE := hC.pre hk; have q0 : W.cell? ⟨gt0, 0, none⟩ = some (.int .u64 ce0.A) := PRE.bx.1.out.cell 0; have r0 := PRE.bx.1.out.frozen 0; have P := Lib.hid PRE; clear PRE; clear hL hC hk hw; refine spD rfl ?_; go_simp; exact ks (ksB SS.out P.out BEG.out 0 rfl) rfl ⟨rfl, trivial⟩
    all_goals (have c := kn7 hC; clear hL hC hk hw; refine spD rfl ?_; go_simp; first | exact sv rfl ⟨rfl, trivial⟩ | exact ⟨_, rfl, sv rfl ⟨rfl, trivial⟩⟩)
  have C2 : Hid (Mr ce0.A q.n) := Lib.hid (vsP_c (hall.get 8))
  simp only [allF, vsP, pw, true_and, and_true, Nat.reduceAdd] at hall
  simp only [TL, Act.put, qA, qC, qZ, hall]
  replace SS := Lib.hid hB.st
  clear hall vals hB
  obtain ⟨⟨y0, y1, y2, y3, y4, y5⟩, -⟩ := six_cells SS.out.bx.1.out
  have CALL := Lib.hid (amount_S SS.out BEG.out (by have := HL.out; (try simp only [List.length_append, List.length_cons, List.length_nil]); omega) 1 q.wh 0 (ce0.A + q.n) (show _ = l ++ [amt 1 q.wh 0 (ce0.A + q.n)] by simp))
  go_wp2_with fail
  (with_reducible refine CALL.out.mono ?_)
  rintro e W3 ⟨rfl, hf, p3, hs⟩
  replace SS := Lib.hid hs
  clear CALL hf hs y0 y1 y2 y3 y4 y5
  have y0 : W3.cell? ⟨gt0, 0, none⟩ = some (.int .u64 (ce0.A + q.n)) := SS.out.bx.1.out.cell 0
  obtain ⟨⟨z0, z1, z2, z3⟩, x0, x1, x2, x3⟩ := four_cells SS.out.bx.2.1.out
  go_wp2
  generalize hW : (World.setCell _ (⟨w.heap.size, 3, none⟩ : Addr) _) = WZ
  have b9 : Box WZ w.heap.size #[.int .u16 0, .int .u64 (ce0.A + q.n), .int .u64 0, .int .u64 0] 41 := by
    rw [← hW]
    exact four_box SS.out.bx.2.1.out
  have F9 : Hid (Fr (fun x => x = w.heap.size) W3 WZ) := Lib.hid (by
    rw [← hW]
    exact four_fr)
  obtain ⟨⟨v0, v1, v2, v3⟩, -⟩ := four_cells b9
  clear hW b9 z0 z1 z2 z3 x0 x1 x2 x3 y0
  refine bodyPost_ret (v := .agg #[.int .u16 0, .int .u64 (ce0.A + q.n), .int .u64 0, .int .u64 0]) (by simp [results, Try.results37, go_sem, v0, v1, v2, v3]; try rfl) rfl ?_
  refine (SS.out.wr BEG.out 1 rfl F9.out).did (y := (⟨ce0.A + q.n, 0, 0⟩, l ++ [amt 1 q.wh 0 (ce0.A + q.n)])) ?_ rfl
  unfold oMint
  simp only [runOm_bind, runOm_pure, run_there S0.out.1 S0.out.2, if_pos HKD.out, run_more C2.out, oAmount, run_put]
  try rfl
set_option maxRecDepth 100000 in
set_option maxHeartbeats 8000000 in
theorem mint_n (w : World) (g : Nat) (q : Ot) (v : Value) (base i : Nat) (p : Value) (l : List Pu) (seen : List Ce) (hst : St w g q v base i p l) (hs : SeenAt w g v seen) (hg : g < base) (hbase : base ≤ w.heap.size) (hl : l.length ≤ 800) (hi : i ≤ 800000) (hq : q.Ok) (hok : ∀ c ∈ seen, c.Ok) (hkd : q.kd ≠ 2) :
    Calls Try.prog 37 #[.pointer (some ⟨g, 0, none⟩)] w (Did w g q v base i p l seen (oMint q) Rp.enc) := by
  have BEG := Lib.hid (Begin.mk hs hg hbase hq hok (fun x hx => hst.own.lt x hx))
  obtain ⟨W0, hW0⟩ : ∃ W0, w.alloc (.cells #[.int .u16 0, .int .u64 0, .int .u64 0, .int .u64 0] 41) = W0 := ⟨_, rfl⟩
  have SS : Hid (ST w g q v base p i p l [.box w.heap.size #[.int .u16 0, .int .u64 0, .int .u64 0, .int .u64 0] 41] W0) := Lib.hid (by rw [← hW0]; exact ST.start hst BEG.out _ _)
  have HI := Lib.hid hi
  have HQ := Lib.hid hq
  have HOK := Lib.hid hok
  have HL := Lib.hid hl
  have HKD := Lib.hid hkd
  obtain ⟨ce0, hce0⟩ := the_cell seen (i)
  have CE0 := Lib.hid hce0
  clear hst hs hg hbase hl hi hq hok hkd hce0
  go_enter Try.func37, Try.ntmps37
  go_upto_region 1 with fail
  try rw [hW0]
  clear hW0
  refine wp_SK (D := DP w g q v base i p l seen (oMint q) Rp.enc) 9 10 11 (seen[i]? = some ce0 ∧ ce0.is = true) (i + 1) #[.int .u64 ce0.A, .int .u64 ce0.B, .int .u8 1, .int .u32 q.wh, .int .u32 0, .bool true] [pw g 0, pw g 0, pw g 7, pw g 0, pw g 0, pw g 0, pw g 1, some (.int .u32 q.wh, True), some (.agg #[.int .u8 1, .int .u32 q.wh, .int .u32 0], True), some (.agg (thing ce0.A ce0.B 1 q.wh 0 true), True), none, none] SS.out (fun vals => ?_) (fun vals W1 hB hfin hall => ?_) (ea 10 rfl)
  · simp only [ObD, Act.put, qA, qC, qZ]
    refine ⟨?_, ?_, ?_, ?_, ?_, ?_, ?_, ?_, ?o0_8, ?o0_9, ?o0_10, ?o0_11, trivial⟩
    all_goals (intro L W hL hk hC hw; have f := deps hw rfl rfl; simp only [depF, vsP, pw, qS, qD, and_true, true_and] at f)
    case o0_8 => have CL := Lib.hid (purse_any q.wh W); clear hL hC hk hw; refine spD rfl ?_; go_simp; (with_reducible refine CL.out.mono ?_); rintro e w8 ⟨rfl, h2⟩; first | exact sq h2 rfl ⟨rfl, trivial⟩ | exact ⟨_, rfl, sq h2 rfl ⟨rfl, trivial⟩⟩
    case o0_9 =>
      have CL := Lib.hid (there_K SS.out (hC.pre hk) BEG.out (by have := HI.out; omega) CE0.out 1 q.wh 0); clear hL hC hk hw; refine spD rfl ?_; go_simp; (with_reducible refine CL.out.mono ?_); rintro e w8 (⟨h, rfl, h2⟩ | ⟨h, h3, rfl, h2⟩ | ⟨rfl, hf, H⟩)
      · exact ⟨_, rfl, Did.miss (by unfold oMint; simp only [runOm_bind, run_there_no h]) h2⟩
      · exact ⟨_, rfl, Did.err (by unfold oMint; simp only [runOm_bind, run_there_not h h3]) h2⟩
      · first | exact kv hf H rfl ⟨rfl, trivial⟩ | exact ⟨_, rfl, kv hf H rfl ⟨rfl, trivial⟩⟩
    case o0_10 => have ZZ := hC.fr.size; clear hL hC hk hw; refine spD rfl ?_; go_simp; exact am ZZ
    case o0_11 => obtain ⟨gt, C, fa, hgt, bx0, hc⟩ := Fw.geta (hw ⟨10, .data⟩ (by simp) rfl) (by decide); obtain ⟨c0, c1, c2, c3, c4, c5, rfl⟩ := arr6 hc; have q := six_cells bx0; have BXX := Lib.hid bx0; have FA := Lib.hid fa; clear bx0 hc; unfold thing at f; clear hL hC hk hw; refine spD rfl ?_; go_simp; exact sm SS.out BEG.out BXX.out hgt FA.out
    all_goals (have c := kn7 hC; clear hL hC hk hw; refine spD rfl ?_; go_simp; first | exact sv rfl ⟨rfl, trivial⟩ | exact ⟨_, rfl, sv rfl ⟨rfl, trivial⟩⟩)
  have S0 := Lib.hid hB.1
  simp only [allF, vsP, pw, true_and, and_true, Nat.reduceAdd] at hall
  obtain ⟨gt0, fa, hgt, bx⟩ := hfin
  simp only [TL, Act.put, qA, qC, qZ, hall, fa]
  replace SS := Lib.hid (SS.out.push BEG.out hB.st SS.out.lt hgt bx)
  clear hall vals hB fa hgt bx
  have y0 : W1.cell? ⟨g, 0, none⟩ = some (.int .u8 q.kd) := SS.out.kn.c0
  have dk : (q.kd == 2) = false := by have := HKD.out; simpa using this
  go_upto_region 4 with fail
  clear dk y0
  refine wp_S (D := DP w g q v base i p l seen (oMint q) Rp.enc) 11 12 13 (SB True False w g q v base p (i + 1) p l [.box gt0 #[.int .u64 (ce0.A - q.n), .int .u64 ce0.B, .int .u8 1, .int .u32 q.wh, .int .u32 0, .bool true] 69, .box w.heap.size #[.int .u16 0, .int .u64 0, .int .u64 0, .int .u64 0] 41]) [some (.pointer (some ⟨gt0, 0, none⟩), True), some (.pointer (some ⟨gt0, 0, none⟩), True), some (.int .u64 ce0.A, True), pw g 0, pw g 0, pw g 0, pw g 5, some (.int .u64 q.n, True), some (.int .u64 (ce0.A - q.n), Ls ce0.A q.n), some (.pointer (some ⟨gt0, 0, none⟩), True), some (.pointer (some ⟨gt0, 0, none⟩), True), some (undef, True)] SS.out (fun vals => ?_) (fun vals W2 hB hall => ?_)
  · simp only [ObD, Act.put, qA, qC, qZ]
    refine ⟨?_, ?_, ?o1_2, ?_, ?_, ?_, ?_, ?_, ?o1_8, ?_, ?_, ?o1_11, trivial⟩
    all_goals (intro L W hL hk hC hw; have f := deps hw rfl rfl; simp only [depF, vsP, pw, qS, qD, and_true, true_and] at f)
    case' o1_2 => have k0 : W.cell? ⟨gt0, 0, none⟩ = some (.int .u64 ce0.A) := (hC.pre (hL.not_yet hk 11 16 (by decide +kernel))).bx.1.out.cell 0
    case o1_8 =>
      have CL := Lib.hid (less_C (A_ok HOK.out S0.out.1) HQ.out.n hC SS.out BEG.out); clear hL hC hk hw; refine spD rfl ?_; go_simp; (with_reducible refine CL.out.mono ?_)
      rintro e w8 (⟨h, rfl, h2⟩ | ⟨⟨h, h3⟩, rfl, h2⟩ | ⟨h1, rfl, h2⟩)
      · exact ⟨_, rfl, Did.err (by unfold oMint; simp only [runOm_bind, run_there S0.out.1 S0.out.2, if_neg HKD.out, run_less_great h]) h2⟩
      · exact ⟨_, rfl, Did.err (by unfold oMint; simp only [runOm_bind, run_there S0.out.1 S0.out.2, if_neg HKD.out, run_less_low h h3]) h2⟩
      · first | exact sq h2 rfl ⟨rfl, h1⟩ | exact ⟨_, rfl, sq h2 rfl ⟨rfl, h1⟩⟩
    case o1_11 => have PRE := hC.pre hk; have q0 : W.cell? ⟨gt0, 0, none⟩ = some (.int .u64 ce0.A) := PRE.bx.1.out.cell 0; have r0 := PRE.bx.1.out.frozen 0; have P := Lib.hid PRE; clear PRE; clear hL hC hk hw; refine spD rfl ?_; go_simp; exact ks (ksB SS.out P.out BEG.out 0 rfl) rfl ⟨rfl, trivial⟩
    all_goals (have c := kn7 hC; clear hL hC hk hw; refine spD rfl ?_; go_simp; first | exact sv rfl ⟨rfl, trivial⟩ | exact ⟨_, rfl, sv rfl ⟨rfl, trivial⟩⟩)
  have C2 : Hid (Ls ce0.A q.n) := Lib.hid (vsP_c (hall.get 8))
  simp only [allF, vsP, pw, true_and, and_true, Nat.reduceAdd] at hall
  simp only [TL, Act.put, qA, qC, qZ, hall]
  replace SS := Lib.hid hB.st
  clear hall vals hB
  obtain ⟨⟨y0, y1, y2, y3, y4, y5⟩, -⟩ := six_cells SS.out.bx.1.out
  have CALL := Lib.hid (amount_S SS.out BEG.out (by have := HL.out; (try simp only [List.length_append, List.length_cons, List.length_nil]); omega) 1 q.wh 0 (ce0.A - q.n) (show _ = l ++ [amt 1 q.wh 0 (ce0.A - q.n)] by simp))
  go_wp2_with fail
  (with_reducible refine CALL.out.mono ?_)
  rintro e W3 ⟨rfl, hf, p3, hs⟩
  replace SS := Lib.hid hs
  clear CALL hf hs y0 y1 y2 y3 y4 y5
  have y0 : W3.cell? ⟨gt0, 0, none⟩ = some (.int .u64 (ce0.A - q.n)) := SS.out.bx.1.out.cell 0
  obtain ⟨⟨z0, z1, z2, z3⟩, x0, x1, x2, x3⟩ := four_cells SS.out.bx.2.1.out
  go_wp2
  generalize hW : (World.setCell _ (⟨w.heap.size, 3, none⟩ : Addr) _) = WZ
  have b9 : Box WZ w.heap.size #[.int .u16 0, .int .u64 (ce0.A - q.n), .int .u64 0, .int .u64 0] 41 := by
    rw [← hW]
    exact four_box SS.out.bx.2.1.out
  have F9 : Hid (Fr (fun x => x = w.heap.size) W3 WZ) := Lib.hid (by
    rw [← hW]
    exact four_fr)
  obtain ⟨⟨v0, v1, v2, v3⟩, -⟩ := four_cells b9
  clear hW b9 z0 z1 z2 z3 x0 x1 x2 x3 y0
  refine bodyPost_ret (v := .agg #[.int .u16 0, .int .u64 (ce0.A - q.n), .int .u64 0, .int .u64 0]) (by simp [results, Try.results37, go_sem, v0, v1, v2, v3]; try rfl) rfl ?_
  refine (SS.out.wr BEG.out 1 rfl F9.out).did (y := (⟨ce0.A - q.n, 0, 0⟩, l ++ [amt 1 q.wh 0 (ce0.A - q.n)])) ?_ rfl
  unfold oMint
  simp only [runOm_bind, runOm_pure, run_there S0.out.1 S0.out.2, if_neg HKD.out, run_less C2.out.1 C2.out.2, oAmount, run_put]
  try rfl
theorem mint_all (w : World) (g : Nat) (q : Ot) (v : Value) (base i : Nat) (p : Value) (l : List Pu) (seen : List Ce) (hst : St w g q v base i p l) (hs : SeenAt w g v seen) (hg : g < base) (hbase : base ≤ w.heap.size) (hl : l.length ≤ 800) (hi : i ≤ 800000) (hq : q.Ok) (hok : ∀ c ∈ seen, c.Ok) :
    Calls Try.prog 37 #[.pointer (some ⟨g, 0, none⟩)] w (Did w g q v base i p l seen (oMint q) Rp.enc) := by
  by_cases h : q.kd = 2
  · exact mint_y w g q v base i p l seen hst hs hg hbase hl hi hq hok h
  · exact mint_n w g q v base i p l seen hst hs hg hbase hl hi hq hok h
set_option maxRecDepth 100000 in
set_option maxHeartbeats 8000000 in
theorem create_y (w : World) (g : Nat) (q : Ot) (v : Value) (base i : Nat) (p : Value) (l : List Pu) (seen : List Ce) (hst : St w g q v base i p l) (hs : SeenAt w g v seen) (hg : g < base) (hbase : base ≤ w.heap.size) (hl : l.length ≤ 800) (hi : i ≤ 800000) (hq : q.Ok) (hok : ∀ c ∈ seen, c.Ok) (hkd : q.kd = 4) :
    Calls Try.prog 38 #[.pointer (some ⟨g, 0, none⟩)] w (Did w g q v base i p l seen (oCreate q) Rp.enc) := by
  have BEG := Lib.hid (Begin.mk hs hg hbase hq hok (fun x hx => hst.own.lt x hx))
  obtain ⟨W0, hW0⟩ : ∃ W0, w.alloc (.cells #[.int .u16 0, .int .u64 0, .int .u64 0, .int .u64 0] 41) = W0 := ⟨_, rfl⟩
  have SS : Hid (ST w g q v base p i p l [.box w.heap.size #[.int .u16 0, .int .u64 0, .int .u64 0, .int .u64 0] 41] W0) := Lib.hid (by rw [← hW0]; exact ST.start hst BEG.out _ _)
  have HI := Lib.hid hi
  have HQ := Lib.hid hq
  have HOK := Lib.hid hok
  have HL := Lib.hid hl
  have HKD := Lib.hid hkd
  obtain ⟨ce0, hce0⟩ := the_cell seen (i)
  have CE0 := Lib.hid hce0
  obtain ⟨ce1, hce1⟩ := the_cell seen (i + 1)
  have CE1 := Lib.hid hce1
  clear hst hs hg hbase hl hi hq hok hkd hce0 hce1
  go_enter Try.func38, Try.ntmps38
  go_upto_region 1 with fail
  try rw [hW0]
  clear hW0
  refine wp_SA (D := DP w g q v base i p l seen (oCreate q) Rp.enc) 9 10 11 (seen[i]? = some ce0 ∧ ce0.is = true) False (i + 1) l [pw g 0, pw g 0, pw g 7, pw g 0, pw g 0, pw g 0, pw g 1, some (.int .u32 q.wh, True), some (.agg #[.int .u8 1, .int .u32 q.wh, .int .u32 0], True), some (.agg (thing ce0.A ce0.B 1 q.wh 0 true), True)] SS.out (fun vals => ?_) (fun vals W1 hB hall => ?_)
  · simp only [ObD, Act.put, qA, qC, qZ]
    refine ⟨?_, ?_, ?_, ?_, ?_, ?_, ?_, ?_, ?o0_8, ?o0_9, trivial⟩
    all_goals (intro L W hL hk hC hw; have f := deps hw rfl rfl; simp only [depF, vsP, pw, qS, qD, and_true, true_and] at f)
    case o0_8 => have CL := Lib.hid (purse_any q.wh W); clear hL hC hk hw; refine spD rfl ?_; go_simp; (with_reducible refine CL.out.mono ?_); rintro e w8 ⟨rfl, h2⟩; first | exact sq h2 rfl ⟨rfl, trivial⟩ | exact ⟨_, rfl, sq h2 rfl ⟨rfl, trivial⟩⟩
    case o0_9 =>
      have CL := Lib.hid (there_K SS.out (hC.pre hk) BEG.out (by have := HI.out; omega) CE0.out 1 q.wh 0); clear hL hC hk hw; refine spD rfl ?_; go_simp; (with_reducible refine CL.out.mono ?_); rintro e w8 (⟨h, rfl, h2⟩ | ⟨h, h3, rfl, h2⟩ | ⟨rfl, hf, H⟩)
      · exact ⟨_, rfl, Did.miss (by unfold oCreate; simp only [runOm_bind, run_there_no h]) h2⟩
      · exact ⟨_, rfl, Did.err (by unfold oCreate; simp only [runOm_bind, run_there_not h h3]) h2⟩
      · first | exact kv hf H rfl ⟨rfl, trivial⟩ | exact ⟨_, rfl, kv hf H rfl ⟨rfl, trivial⟩⟩
    all_goals (have c := kn7 hC; clear hL hC hk hw; refine spD rfl ?_; go_simp; first | exact sv rfl ⟨rfl, trivial⟩ | exact ⟨_, rfl, sv rfl ⟨rfl, trivial⟩⟩)
  have S0 := Lib.hid hB.1
  simp only [allF, vsP, pw, true_and, and_true, Nat.reduceAdd] at hall
  simp only [TL, Act.put, qA, qC, qZ, hall]
  replace SS := Lib.hid hB.st
  clear hall vals hB
  go_upto_region 2 with fail
  refine wp_SK (D := DP w g q v base i p l seen (oCreate q) Rp.enc) 14 15 16 (seen[i + 1]? = some ce1) (i + 1 + 1) #[.int .u64 ce1.vA, .int .u64 ce1.vB, .int .u8 3, .int .u32 q.wh, .int .u32 q.wt, .bool ce1.is] [pw g 0, pw g 0, pw g 7, pw g 0, pw g 0, pw g 0, pw g 1, some (.int .u32 q.wh, True), pw g 0, pw g 0, pw g 0, pw g 3, some (.int .u32 q.wt, True), some (.agg #[.int .u8 3, .int .u32 q.wh, .int .u32 q.wt], True), some (.agg (thing ce1.vA ce1.vB 3 q.wh q.wt ce1.is), True), none, none] SS.out (fun vals => ?_) (fun vals W2 hB hfin hall => ?_) (ea 15 rfl)
  · simp only [ObD, Act.put, qA, qC, qZ]
    refine ⟨?_, ?_, ?_, ?_, ?_, ?_, ?_, ?_, ?_, ?_, ?_, ?_, ?_, ?o1_13, ?o1_14, ?o1_15, ?o1_16, trivial⟩
    all_goals (intro L W hL hk hC hw; have f := deps hw rfl rfl; simp only [depF, vsP, pw, qS, qD, and_true, true_and] at f)
    case o1_13 => have CL := Lib.hid (stack_any q.wh q.wt W); clear hL hC hk hw; refine spD rfl ?_; go_simp; (with_reducible refine CL.out.mono ?_); rintro e w8 ⟨rfl, h2⟩; first | exact sq h2 rfl ⟨rfl, trivial⟩ | exact ⟨_, rfl, sq h2 rfl ⟨rfl, trivial⟩⟩
    case o1_14 =>
      have CL := Lib.hid (look_K SS.out (hC.pre hk) BEG.out (by have := HI.out; omega) CE1.out 3 q.wh q.wt); clear hL hC hk hw; refine spD rfl ?_; go_simp; (with_reducible refine CL.out.mono ?_); rintro e w8 (⟨h, rfl, h2⟩ | ⟨h1, rfl, hf, H⟩)
      · exact ⟨_, rfl, Did.miss (by unfold oCreate; simp only [runOm_bind, run_there S0.out.1 S0.out.2, run_look_no h]) h2⟩
      · first | exact kv hf H rfl ⟨rfl, trivial⟩ | exact ⟨_, rfl, kv hf H rfl ⟨rfl, trivial⟩⟩
    case o1_15 => have ZZ := hC.fr.size; clear hL hC hk hw; refine spD rfl ?_; go_simp; exact am ZZ
    case o1_16 => obtain ⟨gt, C, fa, hgt, bx0, hc⟩ := Fw.geta (hw ⟨15, .data⟩ (by simp) rfl) (by decide); obtain ⟨c0, c1, c2, c3, c4, c5, rfl⟩ := arr6 hc; have q := six_cells bx0; have BXX := Lib.hid bx0; have FA := Lib.hid fa; clear bx0 hc; unfold thing at f; clear hL hC hk hw; refine spD rfl ?_; go_simp; exact sm SS.out BEG.out BXX.out hgt FA.out
    all_goals (have c := kn7 hC; clear hL hC hk hw; refine spD rfl ?_; go_simp; first | exact sv rfl ⟨rfl, trivial⟩ | exact ⟨_, rfl, sv rfl ⟨rfl, trivial⟩⟩)
  have S1 := Lib.hid hB.1
  simp only [allF, vsP, pw, true_and, and_true, Nat.reduceAdd] at hall
  obtain ⟨gt0, fa, hgt, bx⟩ := hfin
  simp only [TL, Act.put, qA, qC, qZ, hall, fa]
  replace SS := Lib.hid (SS.out.push BEG.out hB.st SS.out.lt hgt bx)
  clear hall vals hB fa hgt bx
  have y0 : W2.cell? ⟨g, 0, none⟩ = some (.int .u8 q.kd) := SS.out.kn.c0
  have dk : (q.kd == 4) = true := by have := HKD.out; simpa using this
  go_upto_region 4 with fail
  clear dk y0
  refine wp_S (D := DP w g q v base i p l seen (oCreate q) Rp.enc) 11 12 13 (SB True False w g q v base p (i + 1 + 1) p l [.box gt0 #[.int .u64 (ce1.vA + q.n), .int .u64 ce1.vB, .int .u8 3, .int .u32 q.wh, .int .u32 q.wt, .bool ce1.is] 69, .box w.heap.size #[.int .u16 0, .int .u64 0, .int .u64 0, .int .u64 0] 41]) [some (.pointer (some ⟨gt0, 0, none⟩), True), some (.pointer (some ⟨gt0, 0, none⟩), True), some (.int .u64 ce1.vA, True), pw g 0, pw g 0, pw g 0, pw g 5, some (.int .u64 q.n, True), some (.int .u64 (ce1.vA + q.n), Mr ce1.vA q.n), some (.pointer (some ⟨gt0, 0, none⟩), True), some (.pointer (some ⟨gt0, 0, none⟩), True), some (undef, True)] SS.out (fun vals => ?_) (fun vals W3 hB hall => ?_)
  · simp only [ObD, Act.put, qA, qC, qZ]
    refine ⟨?_, ?_, ?o2_2, ?_, ?_, ?_, ?_, ?_, ?o2_8, ?_, ?_, ?o2_11, trivial⟩
    all_goals (intro L W hL hk hC hw; have f := deps hw rfl rfl; simp only [depF, vsP, pw, qS, qD, and_true, true_and] at f)
    case' o2_2 => have k0 : W.cell? ⟨gt0, 0, none⟩ = some (.int .u64 ce1.vA) := (hC.pre (hL.not_yet hk 11 16 (by decide +kernel))).bx.1.out.cell 0
    case o2_8 =>
      have CL := Lib.hid (more_C (vA_ok HOK.out S1.out) HQ.out.n hC SS.out BEG.out); clear hL hC hk hw; refine spD rfl ?_; go_simp; (with_reducible refine CL.out.mono ?_)
      rintro e w8 (⟨h, rfl, h2⟩ | ⟨h1, rfl, h2⟩)
      · exact ⟨_, rfl, Did.err (by unfold oCreate; simp only [runOm_bind, run_there S0.out.1 S0.out.2, run_look S1.out, if_pos HKD.out, run_more_no h]) h2⟩
      · first | exact sq h2 rfl ⟨rfl, h1⟩ | exact ⟨_, rfl, sq h2 rfl ⟨rfl, h1⟩⟩
    case o2_11 => have PRE := hC.pre hk; have q0 : W.cell? ⟨gt0, 0, none⟩ = some (.int .u64 ce1.vA) := PRE.bx.1.out.cell 0; have r0 := PRE.bx.1.out.frozen 0; have P := Lib.hid PRE; clear PRE; clear hL hC hk hw; refine spD rfl ?_; go_simp; exact ks (ksB SS.out P.out BEG.out 0 rfl) rfl ⟨rfl, trivial⟩
    all_goals (have c := kn7 hC; clear hL hC hk hw; refine spD rfl ?_; go_simp; first | exact sv rfl ⟨rfl, trivial⟩ | exact ⟨_, rfl, sv rfl ⟨rfl, trivial⟩⟩)
  have C3 : Hid (Mr ce1.vA q.n) := Lib.hid (vsP_c (hall.get 8))
  simp only [allF, vsP, pw, true_and, and_true, Nat.reduceAdd] at hall
  simp only [TL, Act.put, qA, qC, qZ, hall]
  replace SS := Lib.hid hB.st
  clear hall vals hB
  obtain ⟨⟨y0, y1, y2, y3, y4, y5⟩, -⟩ := six_cells SS.out.bx.1.out
  have CALL := Lib.hid (amount_S SS.out BEG.out (by have := HL.out; (try simp only [List.length_append, List.length_cons, List.length_nil]); omega) 3 q.wh q.wt (ce1.vA + q.n) (show _ = l ++ [amt 3 q.wh q.wt (ce1.vA + q.n)] by simp))
  go_wp2_with fail
  (with_reducible refine CALL.out.mono ?_)
  rintro e W4 ⟨rfl, hf, p4, hs⟩
  replace SS := Lib.hid hs
  clear CALL hf hs y0 y1 y2 y3 y4 y5
  have y0 : W4.cell? ⟨gt0, 0, none⟩ = some (.int .u64 (ce1.vA + q.n)) := SS.out.bx.1.out.cell 0
  obtain ⟨⟨z0, z1, z2, z3⟩, x0, x1, x2, x3⟩ := four_cells SS.out.bx.2.1.out
  go_wp2
  generalize hW : (World.setCell _ (⟨w.heap.size, 3, none⟩ : Addr) _) = WZ
  have b9 : Box WZ w.heap.size #[.int .u16 0, .int .u64 (ce1.vA + q.n), .int .u64 0, .int .u64 0] 41 := by
    rw [← hW]
    exact four_box SS.out.bx.2.1.out
  have F9 : Hid (Fr (fun x => x = w.heap.size) W4 WZ) := Lib.hid (by
    rw [← hW]
    exact four_fr)
  obtain ⟨⟨v0, v1, v2, v3⟩, -⟩ := four_cells b9
  clear hW b9 z0 z1 z2 z3 x0 x1 x2 x3 y0
  refine bodyPost_ret (v := .agg #[.int .u16 0, .int .u64 (ce1.vA + q.n), .int .u64 0, .int .u64 0]) (by simp [results, Try.results38, go_sem, v0, v1, v2, v3]; try rfl) rfl ?_
  refine (SS.out.wr BEG.out 1 rfl F9.out).did (y := (⟨ce1.vA + q.n, 0, 0⟩, l ++ [amt 3 q.wh q.wt (ce1.vA + q.n)])) ?_ rfl
  unfold oCreate
  simp only [runOm_bind, runOm_pure, run_there S0.out.1 S0.out.2, run_look S1.out, if_pos HKD.out, run_more C3.out, oAmount, run_put]
  try rfl
set_option maxRecDepth 100000 in
set_option maxHeartbeats 8000000 in
theorem create_n (w : World) (g : Nat) (q : Ot) (v : Value) (base i : Nat) (p : Value) (l : List Pu) (seen : List Ce) (hst : St w g q v base i p l) (hs : SeenAt w g v seen) (hg : g < base) (hbase : base ≤ w.heap.size) (hl : l.length ≤ 800) (hi : i ≤ 800000) (hq : q.Ok) (hok : ∀ c ∈ seen, c.Ok) (hkd : q.kd ≠ 4) :
    Calls Try.prog 38 #[.pointer (some ⟨g, 0, none⟩)] w (Did w g q v base i p l seen (oCreate q) Rp.enc) := by
  have BEG := Lib.hid (Begin.mk hs hg hbase hq hok (fun x hx => hst.own.lt x hx))
  obtain ⟨W0, hW0⟩ : ∃ W0, w.alloc (.cells #[.int .u16 0, .int .u64 0, .int .u64 0, .int .u64 0] 41) = W0 := ⟨_, rfl⟩
  have SS : Hid (ST w g q v base p i p l [.box w.heap.size #[.int .u16 0, .int .u64 0, .int .u64 0, .int .u64 0] 41] W0) := Lib.hid (by rw [← hW0]; exact ST.start hst BEG.out _ _)
  have HI := Lib.hid hi
  have HQ := Lib.hid hq
  have HOK := Lib.hid hok
  have HL := Lib.hid hl
  have HKD := Lib.hid hkd
  obtain ⟨ce0, hce0⟩ := the_cell seen (i)
  have CE0 := Lib.hid hce0
  obtain ⟨ce1, hce1⟩ := the_cell seen (i + 1)
  have CE1 := Lib.hid hce1
  clear hst hs hg hbase hl hi hq hok hkd hce0 hce1
  go_enter Try.func38, Try.ntmps38
  go_upto_region 1 with fail
  try rw [hW0]
  clear hW0
  refine wp_SA (D := DP w g q v base i p l seen (oCreate q) Rp.enc) 9 10 11 (seen[i]? = some ce0 ∧ ce0.is = true) False (i + 1) l [pw g 0, pw g 0, pw g 7, pw g 0, pw g 0, pw g 0, pw g 1, some (.int .u32 q.wh, True), some (.agg #[.int .u8 1, .int .u32 q.wh, .int .u32 0], True), some (.agg (thing ce0.A ce0.B 1 q.wh 0 true), True)] SS.out (fun vals => ?_) (fun vals W1 hB hall => ?_)
  · simp only [ObD, Act.put, qA, qC, qZ]
    refine ⟨?_, ?_, ?_, ?_, ?_, ?_, ?_, ?_, ?o0_8, ?o0_9, trivial⟩
    all_goals (intro L W hL hk hC hw; have f := deps hw rfl rfl; simp only [depF, vsP, pw, qS, qD, and_true, true_and] at f)
    case o0_8 => have CL := Lib.hid (purse_any q.wh W); clear hL hC hk hw; refine spD rfl ?_; go_simp; (with_reducible refine CL.out.mono ?_); rintro e w8 ⟨rfl, h2⟩; first | exact sq h2 rfl ⟨rfl, trivial⟩ | exact ⟨_, rfl, sq h2 rfl ⟨rfl, trivial⟩⟩
    case o0_9 =>
      have CL := Lib.hid (there_K SS.out (hC.pre hk) BEG.out (by have := HI.out; omega) CE0.out 1 q.wh 0); clear hL hC hk hw; refine spD rfl ?_; go_simp; (with_reducible refine CL.out.mono ?_); rintro e w8 (⟨h, rfl, h2⟩ | ⟨h, h3, rfl, h2⟩ | ⟨rfl, hf, H⟩)
      · exact ⟨_, rfl, Did.miss (by unfold oCreate; simp only [runOm_bind, run_there_no h]) h2⟩
      · exact ⟨_, rfl, Did.err (by unfold oCreate; simp only [runOm_bind, run_there_not h h3]) h2⟩
      · first | exact kv hf H rfl ⟨rfl, trivial⟩ | exact ⟨_, rfl, kv hf H rfl ⟨rfl, trivial⟩⟩
    all_goals (have c := kn7 hC; clear hL hC hk hw; refine spD rfl ?_; go_simp; first | exact sv rfl ⟨rfl, trivial⟩ | exact ⟨_, rfl, sv rfl ⟨rfl, trivial⟩⟩)
  have S0 := Lib.hid hB.1
  simp only [allF, vsP, pw, true_and, and_true, Nat.reduceAdd] at hall
  simp only [TL, Act.put, qA, qC, qZ, hall]
  replace SS := Lib.hid hB.st
  clear hall vals hB
  go_upto_region 2 with fail
  refine wp_SK (D := DP w g q v base i p l seen (oCreate q) Rp.enc) 14 15 16 (seen[i + 1]? = some ce1) (i + 1 + 1) #[.int .u64 ce1.vA, .int .u64 ce1.vB, .int .u8 3, .int .u32 q.wh, .int .u32 q.wt, .bool ce1.is] [pw g 0, pw g 0, pw g 7, pw g 0, pw g 0, pw g 0, pw g 1, some (.int .u32 q.wh, True), pw g 0, pw g 0, pw g 0, pw g 3, some (.int .u32 q.wt, True), some (.agg #[.int .u8 3, .int .u32 q.wh, .int .u32 q.wt], True), some (.agg (thing ce1.vA ce1.vB 3 q.wh q.wt ce1.is), True), none, none] SS.out (fun vals => ?_) (fun vals W2 hB hfin hall => ?_) (ea 15 rfl)
  · simp only [ObD, Act.put, qA, qC, qZ]
    refine ⟨?_, ?_, ?_, ?_, ?_, ?_, ?_, ?_, ?_, ?_, ?_, ?_, ?_, ?o1_13, ?o1_14, ?o1_15, ?o1_16, trivial⟩
    all_goals (intro L W hL hk hC hw; have f := deps hw rfl rfl; simp only [depF, vsP, pw, qS, qD, and_true, true_and] at f)
    case o1_13 => have CL := Lib.hid (stack_any q.wh q.wt W); clear hL hC hk hw; refine spD rfl ?_; go_simp; (with_reducible refine CL.out.mono ?_); rintro e w8 ⟨rfl, h2⟩; first | exact sq h2 rfl ⟨rfl, trivial⟩ | exact ⟨_, rfl, sq h2 rfl ⟨rfl, trivial⟩⟩
    case o1_14 =>
      have CL := Lib.hid (look_K SS.out (hC.pre hk) BEG.out (by have := HI.out; omega) CE1.out 3 q.wh q.wt); clear hL hC hk hw; refine spD rfl ?_; go_simp; (with_reducible refine CL.out.mono ?_); rintro e w8 (⟨h, rfl, h2⟩ | ⟨h1, rfl, hf, H⟩)
      · exact ⟨_, rfl, Did.miss (by unfold oCreate; simp only [runOm_bind, run_there S0.out.1 S0.out.2, run_look_no h]) h2⟩
      · first | exact kv hf H rfl ⟨rfl, trivial⟩ | exact ⟨_, rfl, kv hf H rfl ⟨rfl, trivial⟩⟩
    case o1_15 => have ZZ := hC.fr.size; clear hL hC hk hw; refine spD rfl ?_; go_simp; exact am ZZ
    case o1_16 => obtain ⟨gt, C, fa, hgt, bx0, hc⟩ := Fw.geta (hw ⟨15, .data⟩ (by simp) rfl) (by decide); obtain ⟨c0, c1, c2, c3, c4, c5, rfl⟩ := arr6 hc; have q := six_cells bx0; have BXX := Lib.hid bx0; have FA := Lib.hid fa; clear bx0 hc; unfold thing at f; clear hL hC hk hw; refine spD rfl ?_; go_simp; exact sm SS.out BEG.out BXX.out hgt FA.out
    all_goals (have c := kn7 hC; clear hL hC hk hw; refine spD rfl ?_; go_simp; first | exact sv rfl ⟨rfl, trivial⟩ | exact ⟨_, rfl, sv rfl ⟨rfl, trivial⟩⟩)
  have S1 := Lib.hid hB.1
  simp only [allF, vsP, pw, true_and, and_true, Nat.reduceAdd] at hall
  obtain ⟨gt0, fa, hgt, bx⟩ := hfin
  simp only [TL, Act.put, qA, qC, qZ, hall, fa]
  replace SS := Lib.hid (SS.out.push BEG.out hB.st SS.out.lt hgt bx)
  clear hall vals hB fa hgt bx
  have y0 : W2.cell? ⟨g, 0, none⟩ = some (.int .u8 q.kd) := SS.out.kn.c0
  have dk : (q.kd == 4) = false := by have := HKD.out; simpa using this
  go_upto_region 5 with fail
  clear dk y0
  refine wp_S (D := DP w g q v base i p l seen (oCreate q) Rp.enc) 11 12 13 (SB True False w g q v base p (i + 1 + 1) p l [.box gt0 #[.int .u64 (ce1.vA - q.n), .int .u64 ce1.vB, .int .u8 3, .int .u32 q.wh, .int .u32 q.wt, .bool ce1.is] 69, .box w.heap.size #[.int .u16 0, .int .u64 0, .int .u64 0, .int .u64 0] 41]) [some (.pointer (some ⟨gt0, 0, none⟩), True), some (.pointer (some ⟨gt0, 0, none⟩), True), some (.int .u64 ce1.vA, True), pw g 0, pw g 0, pw g 0, pw g 5, some (.int .u64 q.n, True), some (.int .u64 (ce1.vA - q.n), Ls ce1.vA q.n), some (.pointer (some ⟨gt0, 0, none⟩), True), some (.pointer (some ⟨gt0, 0, none⟩), True), some (undef, True)] SS.out (fun vals => ?_) (fun vals W3 hB hall => ?_)
  · simp only [ObD, Act.put, qA, qC, qZ]
    refine ⟨?_, ?_, ?o2_2, ?_, ?_, ?_, ?_, ?_, ?o2_8, ?_, ?_, ?o2_11, trivial⟩
    all_goals (intro L W hL hk hC hw; have f := deps hw rfl rfl; simp only [depF, vsP, pw, qS, qD, and_true, true_and] at f)
    case' o2_2 => have k0 : W.cell? ⟨gt0, 0, none⟩ = some (.int .u64 ce1.vA) := (hC.pre (hL.not_yet hk 11 16 (by decide +kernel))).bx.1.out.cell 0
    case o2_8 =>
      have CL := Lib.hid (less_C (vA_ok HOK.out S1.out) HQ.out.n hC SS.out BEG.out); clear hL hC hk hw; refine spD rfl ?_; go_simp; (with_reducible refine CL.out.mono ?_)
      rintro e w8 (⟨h, rfl, h2⟩ | ⟨⟨h, h3⟩, rfl, h2⟩ | ⟨h1, rfl, h2⟩)
      · exact ⟨_, rfl, Did.err (by unfold oCreate; simp only [runOm_bind, run_there S0.out.1 S0.out.2, run_look S1.out, if_neg HKD.out, run_less_great h]) h2⟩
      · exact ⟨_, rfl, Did.err (by unfold oCreate; simp only [runOm_bind, run_there S0.out.1 S0.out.2, run_look S1.out, if_neg HKD.out, run_less_low h h3]) h2⟩
      · first | exact sq h2 rfl ⟨rfl, h1⟩ | exact ⟨_, rfl, sq h2 rfl ⟨rfl, h1⟩⟩
    case o2_11 => have PRE := hC.pre hk; have q0 : W.cell? ⟨gt0, 0, none⟩ = some (.int .u64 ce1.vA) := PRE.bx.1.out.cell 0; have r0 := PRE.bx.1.out.frozen 0; have P := Lib.hid PRE; clear PRE; clear hL hC hk hw; refine spD rfl ?_; go_simp; exact ks (ksB SS.out P.out BEG.out 0 rfl) rfl ⟨rfl, trivial⟩
    all_goals (have c := kn7 hC; clear hL hC hk hw; refine spD rfl ?_; go_simp; first | exact sv rfl ⟨rfl, trivial⟩ | exact ⟨_, rfl, sv rfl ⟨rfl, trivial⟩⟩)
  have C3 : Hid (Ls ce1.vA q.n) := Lib.hid (vsP_c (hall.get 8))
  simp only [allF, vsP, pw, true_and, and_true, Nat.reduceAdd] at hall
  simp only [TL, Act.put, qA, qC, qZ, hall]
  replace SS := Lib.hid hB.st
  clear hall vals hB
  obtain ⟨⟨y0, y1, y2, y3, y4, y5⟩, -⟩ := six_cells SS.out.bx.1.out
  have CALL := Lib.hid (amount_S SS.out BEG.out (by have := HL.out; (try simp only [List.length_append, List.length_cons, List.length_nil]); omega) 3 q.wh q.wt (ce1.vA - q.n) (show _ = l ++ [amt 3 q.wh q.wt (ce1.vA - q.n)] by simp))
  go_wp2_with fail
  (with_reducible refine CALL.out.mono ?_)
  rintro e W4 ⟨rfl, hf, p4, hs⟩
  replace SS := Lib.hid hs
  clear CALL hf hs y0 y1 y2 y3 y4 y5
  have y0 : W4.cell? ⟨gt0, 0, none⟩ = some (.int .u64 (ce1.vA - q.n)) := SS.out.bx.1.out.cell 0
  obtain ⟨⟨z0, z1, z2, z3⟩, x0, x1, x2, x3⟩ := four_cells SS.out.bx.2.1.out
  go_wp2
  generalize hW : (World.setCell _ (⟨w.heap.size, 3, none⟩ : Addr) _) = WZ
  have b9 : Box WZ w.heap.size #[.int .u16 0, .int .u64 (ce1.vA - q.n), .int .u64 0, .int .u64 0] 41 := by
    rw [← hW]
    exact four_box SS.out.bx.2.1.out
  have F9 : Hid (Fr (fun x => x = w.heap.size) W4 WZ) := Lib.hid (by
    rw [← hW]
    exact four_fr)
  obtain ⟨⟨v0, v1, v2, v3⟩, -⟩ := four_cells b9
  clear hW b9 z0 z1 z2 z3 x0 x1 x2 x3 y0
  refine bodyPost_ret (v := .agg #[.int .u16 0, .int .u64 (ce1.vA - q.n), .int .u64 0, .int .u64 0]) (by simp [results, Try.results38, go_sem, v0, v1, v2, v3]; try rfl) rfl ?_
  refine (SS.out.wr BEG.out 1 rfl F9.out).did (y := (⟨ce1.vA - q.n, 0, 0⟩, l ++ [amt 3 q.wh q.wt (ce1.vA - q.n)])) ?_ rfl
  unfold oCreate
  simp only [runOm_bind, runOm_pure, run_there S0.out.1 S0.out.2, run_look S1.out, if_neg HKD.out, run_less C3.out.1 C3.out.2, oAmount, run_put]
  try rfl
theorem create_all (w : World) (g : Nat) (q : Ot) (v : Value) (base i : Nat) (p : Value) (l : List Pu) (seen : List Ce) (hst : St w g q v base i p l) (hs : SeenAt w g v seen) (hg : g < base) (hbase : base ≤ w.heap.size) (hl : l.length ≤ 800) (hi : i ≤ 800000) (hq : q.Ok) (hok : ∀ c ∈ seen, c.Ok) :
    Calls Try.prog 38 #[.pointer (some ⟨g, 0, none⟩)] w (Did w g q v base i p l seen (oCreate q) Rp.enc) := by
  by_cases h : q.kd = 4
  · exact create_y w g q v base i p l seen hst hs hg hbase hl hi hq hok h
  · exact create_n w g q v base i p l seen hst hs hg hbase hl hi hq hok h
end Go.Proofs.Ytneaehimdmachaa.Rule
namespace Go.Proofs.Ytneaehimdmachaa.Rule
open Go.ChangeShapes Go.WideShapes Go.ChangeAt Go.RowKit Go.IntWalk Go.Proofs.Mem Go.Proofs.Each
set_option linter.unusedVariables false
set_option linter.unusedSimpArgs false
set_option maxRecDepth 100000 in
set_option maxHeartbeats 8000000 in
theorem deposit_out_ (w : World) (g : Nat) (q : Ot) (v : Value) (base i : Nat) (p : Value) (l : List Pu) (seen : List Ce) (hst : St w g q v base i p l) (hs : SeenAt w g v seen) (hg : g < base) (hbase : base ≤ w.heap.size) (hl : l.length ≤ 800) (hi : i ≤ 800000) (hq : q.Ok) (hok : ∀ c ∈ seen, c.Ok) (hkd : q.kd ≠ 7) :
    Calls Try.prog 39 #[.pointer (some ⟨g, 0, none⟩)] w (Did w g q v base i p l seen (oDeposit q) Rp.enc) := by
  have BEG := Lib.hid (Begin.mk hs hg hbase hq hok (fun x hx => hst.own.lt x hx))
  obtain ⟨W0, hW0⟩ : ∃ W0, w.alloc (.cells #[.int .u16 0, .int .u64 0, .int .u64 0, .int .u64 0] 41) = W0 := ⟨_, rfl⟩
  have SS : Hid (ST w g q v base p i p l [.box w.heap.size #[.int .u16 0, .int .u64 0, .int .u64 0, .int .u64 0] 41] W0) := Lib.hid (by rw [← hW0]; exact ST.start hst BEG.out _ _)
  have HI := Lib.hid hi
  have HQ := Lib.hid hq
  have HOK := Lib.hid hok
  have HL := Lib.hid hl
  have HKD := Lib.hid hkd
  obtain ⟨ce0, hce0⟩ := the_cell seen (i)
  have CE0 := Lib.hid hce0
  obtain ⟨ce1, hce1⟩ := the_cell seen (i + 1)
  have CE1 := Lib.hid hce1
  clear hst hs hg hbase hl hi hq hok hkd hce0 hce1
  go_enter Try.func39, Try.ntmps39
  go_upto_region 1 with fail
  try rw [hW0]
  clear hW0
  refine wp_SK (D := DP w g q v base i p l seen (oDeposit q) Rp.enc) 9 10 11 (seen[i]? = some ce0 ∧ ce0.is = true) (i + 1) #[.int .u64 ce0.A, .int .u64 ce0.B, .int .u8 1, .int .u32 q.wh, .int .u32 0, .bool true] [pw g 0, pw g 0, pw g 7, pw g 0, pw g 0, pw g 0, pw g 1, some (.int .u32 q.wh, True), some (.agg #[.int .u8 1, .int .u32 q.wh, .int .u32 0], True), some (.agg (thing ce0.A ce0.B 1 q.wh 0 true), True), none, none] SS.out (fun vals => ?_) (fun vals W1 hB hfin hall => ?_) (ea 10 rfl)
  · simp only [ObD, Act.put, qA, qC, qZ]
    refine ⟨?_, ?_, ?_, ?_, ?_, ?_, ?_, ?_, ?o0_8, ?o0_9, ?o0_10, ?o0_11, trivial⟩
    all_goals (intro L W hL hk hC hw; have f := deps hw rfl rfl; simp only [depF, vsP, pw, qS, qD, and_true, true_and] at f)
    case o0_8 => have CL := Lib.hid (purse_any q.wh W); clear hL hC hk hw; refine spD rfl ?_; go_simp; (with_reducible refine CL.out.mono ?_); rintro e w8 ⟨rfl, h2⟩; first | exact sq h2 rfl ⟨rfl, trivial⟩ | exact ⟨_, rfl, sq h2 rfl ⟨rfl, trivial⟩⟩
    case o0_9 =>
      have CL := Lib.hid (there_K SS.out (hC.pre hk) BEG.out (by have := HI.out; omega) CE0.out 1 q.wh 0); clear hL hC hk hw; refine spD rfl ?_; go_simp; (with_reducible refine CL.out.mono ?_); rintro e w8 (⟨h, rfl, h2⟩ | ⟨h, h3, rfl, h2⟩ | ⟨rfl, hf, H⟩)
      · exact ⟨_, rfl, Did.miss (by unfold oDeposit; simp only [runOm_bind, run_there_no h]) h2⟩
      · exact ⟨_, rfl, Did.err (by unfold oDeposit; simp only [runOm_bind, run_there_not h h3]) h2⟩
      · first | exact kv hf H rfl ⟨rfl, trivial⟩ | exact ⟨_, rfl, kv hf H rfl ⟨rfl, trivial⟩⟩
    case o0_10 => have ZZ := hC.fr.size; clear hL hC hk hw; refine spD rfl ?_; go_simp; exact am ZZ
    case o0_11 => obtain ⟨gt, C, fa, hgt, bx0, hc⟩ := Fw.geta (hw ⟨10, .data⟩ (by simp) rfl) (by decide); obtain ⟨c0, c1, c2, c3, c4, c5, rfl⟩ := arr6 hc; have q := six_cells bx0; have BXX := Lib.hid bx0; have FA := Lib.hid fa; clear bx0 hc; unfold thing at f; clear hL hC hk hw; refine spD rfl ?_; go_simp; exact sm SS.out BEG.out BXX.out hgt FA.out
    all_goals (have c := kn7 hC; clear hL hC hk hw; refine spD rfl ?_; go_simp; first | exact sv rfl ⟨rfl, trivial⟩ | exact ⟨_, rfl, sv rfl ⟨rfl, trivial⟩⟩)
  have S0 := Lib.hid hB.1
  simp only [allF, vsP, pw, true_and, and_true, Nat.reduceAdd] at hall
  obtain ⟨gt0, fa, hgt, bx⟩ := hfin
  simp only [TL, Act.put, qA, qC, qZ, hall, fa]
  replace SS := Lib.hid (SS.out.push BEG.out hB.st SS.out.lt hgt bx)
  clear hall vals hB fa hgt bx
  go_upto_region 2 with fail
  refine wp_SK (D := DP w g q v base i p l seen (oDeposit q) Rp.enc) 9 10 11 (seen[i + 1]? = some ce1) (i + 1 + 1) #[.int .u64 ce1.vA, .int .u64 ce1.vB, .int .u8 2, .int .u32 q.wh, .int .u32 0, .bool ce1.is] [pw g 0, pw g 0, pw g 7, pw g 0, pw g 0, pw g 0, pw g 1, some (.int .u32 q.wh, True), some (.agg #[.int .u8 2, .int .u32 q.wh, .int .u32 0], True), some (.agg (thing ce1.vA ce1.vB 2 q.wh 0 ce1.is), True), none, none] SS.out (fun vals => ?_) (fun vals W2 hB hfin hall => ?_) (ea 10 rfl)
  · simp only [ObD, Act.put, qA, qC, qZ]
    refine ⟨?_, ?_, ?_, ?_, ?_, ?_, ?_, ?_, ?o1_8, ?o1_9, ?o1_10, ?o1_11, trivial⟩
    all_goals (intro L W hL hk hC hw; have f := deps hw rfl rfl; simp only [depF, vsP, pw, qS, qD, and_true, true_and] at f)
    case o1_8 => have CL := Lib.hid (bank_any q.wh W); clear hL hC hk hw; refine spD rfl ?_; go_simp; (with_reducible refine CL.out.mono ?_); rintro e w8 ⟨rfl, h2⟩; first | exact sq h2 rfl ⟨rfl, trivial⟩ | exact ⟨_, rfl, sq h2 rfl ⟨rfl, trivial⟩⟩
    case o1_9 =>
      have CL := Lib.hid (look_K SS.out (hC.pre hk) BEG.out (by have := HI.out; omega) CE1.out 2 q.wh 0); clear hL hC hk hw; refine spD rfl ?_; go_simp; (with_reducible refine CL.out.mono ?_); rintro e w8 (⟨h, rfl, h2⟩ | ⟨h1, rfl, hf, H⟩)
      · exact ⟨_, rfl, Did.miss (by unfold oDeposit; simp only [runOm_bind, run_there S0.out.1 S0.out.2, run_look_no h]) h2⟩
      · first | exact kv hf H rfl ⟨rfl, trivial⟩ | exact ⟨_, rfl, kv hf H rfl ⟨rfl, trivial⟩⟩
    case o1_10 => have ZZ := hC.fr.size; clear hL hC hk hw; refine spD rfl ?_; go_simp; exact am ZZ
    case o1_11 => obtain ⟨gt, C, fa, hgt, bx0, hc⟩ := Fw.geta (hw ⟨10, .data⟩ (by simp) rfl) (by decide); obtain ⟨c0, c1, c2, c3, c4, c5, rfl⟩ := arr6 hc; have q := six_cells bx0; have BXX := Lib.hid bx0; have FA := Lib.hid fa; clear bx0 hc; unfold thing at f; clear hL hC hk hw; refine spD rfl ?_; go_simp; exact sm SS.out BEG.out BXX.out hgt FA.out
    all_goals (have c := kn7 hC; clear hL hC hk hw; refine spD rfl ?_; go_simp; first | exact sv rfl ⟨rfl, trivial⟩ | exact ⟨_, rfl, sv rfl ⟨rfl, trivial⟩⟩)
  have S1 := Lib.hid hB.1
  simp only [allF, vsP, pw, true_and, and_true, Nat.reduceAdd] at hall
  obtain ⟨gt1, fa, hgt, bx⟩ := hfin
  simp only [TL, Act.put, qA, qC, qZ, hall, fa]
  replace SS := Lib.hid (SS.out.push BEG.out hB.st SS.out.lt hgt bx)
  clear hall vals hB fa hgt bx
  have y0 : W2.cell? ⟨g, 0, none⟩ = some (.int .u8 q.kd) := SS.out.kn.c0
  have dk : (q.kd == 7) = false := by have := HKD.out; simpa using this
  go_upto_region 6 with fail
  clear y0 dk
  refine wp_S (D := DP w g q v base i p l seen (oDeposit q) Rp.enc) 15 16 17 (SB True False w g q v base p (i + 1 + 1) p l [.box gt1 #[.int .u64 ce1.vA, .int .u64 ce1.vB, .int .u8 2, .int .u32 q.wh, .int .u32 0, .bool ce1.is] 69, .box gt0 #[.int .u64 (ce0.A - q.n), .int .u64 ce0.B, .int .u8 1, .int .u32 q.wh, .int .u32 0, .bool true] 69, .box w.heap.size #[.int .u16 0, .int .u64 0, .int .u64 0, .int .u64 0] 41]) [some (.pointer (some ⟨gt0, 0, none⟩), True), some (.pointer (some ⟨gt0, 0, none⟩), True), some (.pointer (some ⟨gt0, 0, none⟩), True), some (.pointer (some ⟨gt0, 0, none⟩), True), some (.pointer (some ⟨gt0, 0, none⟩), True), some (.int .u64 ce0.A, True), pw g 0, pw g 0, pw g 0, pw g 5, some (.int .u64 q.n, True), some (.int .u64 (ce0.A - q.n), Ls ce0.A q.n), some (.pointer (some ⟨gt0, 0, none⟩), True), some (.pointer (some ⟨gt0, 0, none⟩), True), some (.pointer (some ⟨gt0, 0, none⟩), True), some (undef, True)] SS.out (fun vals => ?_) (fun vals W3 hB hall => ?_)
  · simp only [ObD, Act.put, qA, qC, qZ]
    refine ⟨?_, ?_, ?_, ?_, ?_, ?o2_5, ?_, ?_, ?_, ?_, ?_, ?o2_11, ?_, ?_, ?_, ?o2_15, trivial⟩
    all_goals (intro L W hL hk hC hw; have f := deps hw rfl rfl; simp only [depF, vsP, pw, qS, qD, and_true, true_and] at f)
    case' o2_5 => have k0 : W.cell? ⟨gt0, 0, none⟩ = some (.int .u64 ce0.A) := (hC.pre (hL.not_yet hk 15 16 (by decide +kernel))).bx.2.1.out.cell 0
    case o2_11 =>
      have CL := Lib.hid (less_C (A_ok HOK.out S0.out.1) HQ.out.n hC SS.out BEG.out); clear hL hC hk hw; refine spD rfl ?_; go_simp; (with_reducible refine CL.out.mono ?_)
      rintro e w8 (⟨h, rfl, h2⟩ | ⟨⟨h, h3⟩, rfl, h2⟩ | ⟨h1, rfl, h2⟩)
      · exact ⟨_, rfl, Did.err (by unfold oDeposit; simp only [runOm_bind, run_there S0.out.1 S0.out.2, run_look S1.out, if_neg HKD.out, run_less_great h]) h2⟩
      · exact ⟨_, rfl, Did.err (by unfold oDeposit; simp only [runOm_bind, run_there S0.out.1 S0.out.2, run_look S1.out, if_neg HKD.out, run_less_low h h3]) h2⟩
      · first | exact sq h2 rfl ⟨rfl, h1⟩ | exact ⟨_, rfl, sq h2 rfl ⟨rfl, h1⟩⟩
    case o2_15 => have PRE := hC.pre hk; have q0 : W.cell? ⟨gt0, 0, none⟩ = some (.int .u64 ce0.A) := PRE.bx.2.1.out.cell 0; have r0 := PRE.bx.2.1.out.frozen 0; have P := Lib.hid PRE; clear PRE; clear hL hC hk hw; refine spD rfl ?_; go_simp; exact ks (ksB SS.out P.out BEG.out 1 rfl) rfl ⟨rfl, trivial⟩
    all_goals (have c := kn7 hC; clear hL hC hk hw; refine spD rfl ?_; go_simp; first | exact sv rfl ⟨rfl, trivial⟩ | exact ⟨_, rfl, sv rfl ⟨rfl, trivial⟩⟩)
  have C3 : Hid (Ls ce0.A q.n) := Lib.hid (vsP_c (hall.get 11))
  simp only [allF, vsP, pw, true_and, and_true, Nat.reduceAdd] at hall
  simp only [TL, Act.put, qA, qC, qZ, hall]
  replace SS := Lib.hid hB.st
  clear hall vals hB
  go_upto_region 7 with fail
  refine wp_S (D := DP w g q v base i p l seen (oDeposit q) Rp.enc) 15 16 17 (SB True False w g q v base p (i + 1 + 1) p l [.box gt1 #[.int .u64 (ce1.vA + q.n), .int .u64 ce1.vB, .int .u8 2, .int .u32 q.wh, .int .u32 0, .bool ce1.is] 69, .box gt0 #[.int .u64 (ce0.A - q.n), .int .u64 ce0.B, .int .u8 1, .int .u32 q.wh, .int .u32 0, .bool true] 69, .box w.heap.size #[.int .u16 0, .int .u64 0, .int .u64 0, .int .u64 0] 41]) [some (.pointer (some ⟨gt1, 0, none⟩), True), some (.pointer (some ⟨gt1, 0, none⟩), True), some (.pointer (some ⟨gt1, 0, none⟩), True), some (.pointer (some ⟨gt1, 0, none⟩), True), some (.pointer (some ⟨gt1, 0, none⟩), True), some (.int .u64 ce1.vA, True), pw g 0, pw g 0, pw g 0, pw g 5, some (.int .u64 q.n, True), some (.int .u64 (ce1.vA + q.n), Mr ce1.vA q.n), some (.pointer (some ⟨gt1, 0, none⟩), True), some (.pointer (some ⟨gt1, 0, none⟩), True), some (.pointer (some ⟨gt1, 0, none⟩), True), some (undef, True)] SS.out (fun vals => ?_) (fun vals W4 hB hall => ?_)
  · simp only [ObD, Act.put, qA, qC, qZ]
    refine ⟨?_, ?_, ?_, ?_, ?_, ?o3_5, ?_, ?_, ?_, ?_, ?_, ?o3_11, ?_, ?_, ?_, ?o3_15, trivial⟩
    all_goals (intro L W hL hk hC hw; have f := deps hw rfl rfl; simp only [depF, vsP, pw, qS, qD, and_true, true_and] at f)
    case' o3_5 => have k0 : W.cell? ⟨gt1, 0, none⟩ = some (.int .u64 ce1.vA) := (hC.pre (hL.not_yet hk 15 16 (by decide +kernel))).bx.1.out.cell 0
    case o3_11 =>
      have CL := Lib.hid (more_C (vA_ok HOK.out S1.out) HQ.out.n hC SS.out BEG.out); clear hL hC hk hw; refine spD rfl ?_; go_simp; (with_reducible refine CL.out.mono ?_)
      rintro e w8 (⟨h, rfl, h2⟩ | ⟨h1, rfl, h2⟩)
      · exact ⟨_, rfl, Did.err (by unfold oDeposit; simp only [runOm_bind, run_there S0.out.1 S0.out.2, run_look S1.out, if_neg HKD.out, run_less C3.out.1 C3.out.2, run_more_no h]) h2⟩
      · first | exact sq h2 rfl ⟨rfl, h1⟩ | exact ⟨_, rfl, sq h2 rfl ⟨rfl, h1⟩⟩
    case o3_15 => have PRE := hC.pre hk; have q0 : W.cell? ⟨gt1, 0, none⟩ = some (.int .u64 ce1.vA) := PRE.bx.1.out.cell 0; have r0 := PRE.bx.1.out.frozen 0; have P := Lib.hid PRE; clear PRE; clear hL hC hk hw; refine spD rfl ?_; go_simp; exact ks (ksB SS.out P.out BEG.out 0 rfl) rfl ⟨rfl, trivial⟩
    all_goals (have c := kn7 hC; clear hL hC hk hw; refine spD rfl ?_; go_simp; first | exact sv rfl ⟨rfl, trivial⟩ | exact ⟨_, rfl, sv rfl ⟨rfl, trivial⟩⟩)
  have C4 : Hid (Mr ce1.vA q.n) := Lib.hid (vsP_c (hall.get 11))
  simp only [allF, vsP, pw, true_and, and_true, Nat.reduceAdd] at hall
  simp only [TL, Act.put, qA, qC, qZ, hall]
  replace SS := Lib.hid hB.st
  clear hall vals hB
  obtain ⟨⟨y0, y1, y2, y3, y4, y5⟩, -⟩ := six_cells SS.out.bx.2.1.out
  have CALL := Lib.hid (amount_S SS.out BEG.out (by have := HL.out; (try simp only [List.length_append, List.length_cons, List.length_nil]); omega) 1 q.wh 0 (ce0.A - q.n) (show _ = l ++ [amt 1 q.wh 0 (ce0.A - q.n)] by simp))
  go_wp2_with fail
  (with_reducible refine CALL.out.mono ?_)
  rintro e W5 ⟨rfl, hf, p5, hs⟩
  replace SS := Lib.hid hs
  clear CALL hf hs y0 y1 y2 y3 y4 y5
  obtain ⟨⟨y0, y1, y2, y3, y4, y5⟩, -⟩ := six_cells SS.out.bx.1.out
  have CALL := Lib.hid (amount_S SS.out BEG.out (by have := HL.out; (try simp only [List.length_append, List.length_cons, List.length_nil]); omega) 2 q.wh 0 (ce1.vA + q.n) (show _ = l ++ [amt 1 q.wh 0 (ce0.A - q.n), amt 2 q.wh 0 (ce1.vA + q.n)] by simp))
  go_wp2_with fail
  (with_reducible refine CALL.out.mono ?_)
  rintro e W6 ⟨rfl, hf, p6, hs⟩
  replace SS := Lib.hid hs
  clear CALL hf hs y0 y1 y2 y3 y4 y5
  have y0 : W6.cell? ⟨gt0, 0, none⟩ = some (.int .u64 (ce0.A - q.n)) := SS.out.bx.2.1.out.cell 0
  have y1 : W6.cell? ⟨gt1, 0, none⟩ = some (.int .u64 (ce1.vA + q.n)) := SS.out.bx.1.out.cell 0
  obtain ⟨⟨z0, z1, z2, z3⟩, x0, x1, x2, x3⟩ := four_cells SS.out.bx.2.2.1.out
  go_wp2
  generalize hW : (World.setCell _ (⟨w.heap.size, 3, none⟩ : Addr) _) = WZ
  have b9 : Box WZ w.heap.size #[.int .u16 0, .int .u64 (ce0.A - q.n), .int .u64 (ce1.vA + q.n), .int .u64 0] 41 := by
    rw [← hW]
    exact four_box SS.out.bx.2.2.1.out
  have F9 : Hid (Fr (fun x => x = w.heap.size) W6 WZ) := Lib.hid (by
    rw [← hW]
    exact four_fr)
  obtain ⟨⟨v0, v1, v2, v3⟩, -⟩ := four_cells b9
  clear hW b9 z0 z1 z2 z3 x0 x1 x2 x3 y0 y1
  refine bodyPost_ret (v := .agg #[.int .u16 0, .int .u64 (ce0.A - q.n), .int .u64 (ce1.vA + q.n), .int .u64 0]) (by simp [results, Try.results39, go_sem, v0, v1, v2, v3]; try rfl) rfl ?_
  refine (SS.out.wr BEG.out 2 rfl F9.out).did (y := (⟨ce0.A - q.n, ce1.vA + q.n, 0⟩, l ++ [amt 1 q.wh 0 (ce0.A - q.n), amt 2 q.wh 0 (ce1.vA + q.n)])) ?_ rfl
  unfold oDeposit
  simp only [runOm_bind, runOm_pure, run_there S0.out.1 S0.out.2, run_look S1.out, if_neg HKD.out, run_less C3.out.1 C3.out.2, run_more C4.out, oAmount, run_put, oAmount, run_put, List.append_assoc, List.cons_append, List.nil_append]
  try rfl
set_option maxRecDepth 100000 in
set_option maxHeartbeats 8000000 in
theorem deposit_in_ (w : World) (g : Nat) (q : Ot) (v : Value) (base i : Nat) (p : Value) (l : List Pu) (seen : List Ce) (hst : St w g q v base i p l) (hs : SeenAt w g v seen) (hg : g < base) (hbase : base ≤ w.heap.size) (hl : l.length ≤ 800) (hi : i ≤ 800000) (hq : q.Ok) (hok : ∀ c ∈ seen, c.Ok) (hkd : q.kd = 7) :
    Calls Try.prog 39 #[.pointer (some ⟨g, 0, none⟩)] w (Did w g q v base i p l seen (oDeposit q) Rp.enc) := by
  have BEG := Lib.hid (Begin.mk hs hg hbase hq hok (fun x hx => hst.own.lt x hx))
  obtain ⟨W0, hW0⟩ : ∃ W0, w.alloc (.cells #[.int .u16 0, .int .u64 0, .int .u64 0, .int .u64 0] 41) = W0 := ⟨_, rfl⟩
  have SS : Hid (ST w g q v base p i p l [.box w.heap.size #[.int .u16 0, .int .u64 0, .int .u64 0, .int .u64 0] 41] W0) := Lib.hid (by rw [← hW0]; exact ST.start hst BEG.out _ _)
  have HI := Lib.hid hi
  have HQ := Lib.hid hq
  have HOK := Lib.hid hok
  have HL := Lib.hid hl
  have HKD := Lib.hid hkd
  obtain ⟨ce0, hce0⟩ := the_cell seen (i)
  have CE0 := Lib.hid hce0
  obtain ⟨ce1, hce1⟩ := the_cell seen (i + 1)
  have CE1 := Lib.hid hce1
  clear hst hs hg hbase hl hi hq hok hkd hce0 hce1
  go_enter Try.func39, Try.ntmps39
  go_upto_region 1 with fail
  try rw [hW0]
  clear hW0
  refine wp_SK (D := DP w g q v base i p l seen (oDeposit q) Rp.enc) 9 10 11 (seen[i]? = some ce0 ∧ ce0.is = true) (i + 1) #[.int .u64 ce0.A, .int .u64 ce0.B, .int .u8 1, .int .u32 q.wh, .int .u32 0, .bool true] [pw g 0, pw g 0, pw g 7, pw g 0, pw g 0, pw g 0, pw g 1, some (.int .u32 q.wh, True), some (.agg #[.int .u8 1, .int .u32 q.wh, .int .u32 0], True), some (.agg (thing ce0.A ce0.B 1 q.wh 0 true), True), none, none] SS.out (fun vals => ?_) (fun vals W1 hB hfin hall => ?_) (ea 10 rfl)
  · simp only [ObD, Act.put, qA, qC, qZ]
    refine ⟨?_, ?_, ?_, ?_, ?_, ?_, ?_, ?_, ?o0_8, ?o0_9, ?o0_10, ?o0_11, trivial⟩
    all_goals (intro L W hL hk hC hw; have f := deps hw rfl rfl; simp only [depF, vsP, pw, qS, qD, and_true, true_and] at f)
    case o0_8 => have CL := Lib.hid (purse_any q.wh W); clear hL hC hk hw; refine spD rfl ?_; go_simp; (with_reducible refine CL.out.mono ?_); rintro e w8 ⟨rfl, h2⟩; first | exact sq h2 rfl ⟨rfl, trivial⟩ | exact ⟨_, rfl, sq h2 rfl ⟨rfl, trivial⟩⟩
    case o0_9 =>
      have CL := Lib.hid (there_K SS.out (hC.pre hk) BEG.out (by have := HI.out; omega) CE0.out 1 q.wh 0); clear hL hC hk hw; refine spD rfl ?_; go_simp; (with_reducible refine CL.out.mono ?_); rintro e w8 (⟨h, rfl, h2⟩ | ⟨h, h3, rfl, h2⟩ | ⟨rfl, hf, H⟩)
      · exact ⟨_, rfl, Did.miss (by unfold oDeposit; simp only [runOm_bind, run_there_no h]) h2⟩
      · exact ⟨_, rfl, Did.err (by unfold oDeposit; simp only [runOm_bind, run_there_not h h3]) h2⟩
      · first | exact kv hf H rfl ⟨rfl, trivial⟩ | exact ⟨_, rfl, kv hf H rfl ⟨rfl, trivial⟩⟩
    case o0_10 => have ZZ := hC.fr.size; clear hL hC hk hw; refine spD rfl ?_; go_simp; exact am ZZ
    case o0_11 => obtain ⟨gt, C, fa, hgt, bx0, hc⟩ := Fw.geta (hw ⟨10, .data⟩ (by simp) rfl) (by decide); obtain ⟨c0, c1, c2, c3, c4, c5, rfl⟩ := arr6 hc; have q := six_cells bx0; have BXX := Lib.hid bx0; have FA := Lib.hid fa; clear bx0 hc; unfold thing at f; clear hL hC hk hw; refine spD rfl ?_; go_simp; exact sm SS.out BEG.out BXX.out hgt FA.out
    all_goals (have c := kn7 hC; clear hL hC hk hw; refine spD rfl ?_; go_simp; first | exact sv rfl ⟨rfl, trivial⟩ | exact ⟨_, rfl, sv rfl ⟨rfl, trivial⟩⟩)
  have S0 := Lib.hid hB.1
  simp only [allF, vsP, pw, true_and, and_true, Nat.reduceAdd] at hall
  obtain ⟨gt0, fa, hgt, bx⟩ := hfin
  simp only [TL, Act.put, qA, qC, qZ, hall, fa]
  replace SS := Lib.hid (SS.out.push BEG.out hB.st SS.out.lt hgt bx)
  clear hall vals hB fa hgt bx
  go_upto_region 2 with fail
  refine wp_SK (D := DP w g q v base i p l seen (oDeposit q) Rp.enc) 9 10 11 (seen[i + 1]? = some ce1) (i + 1 + 1) #[.int .u64 ce1.vA, .int .u64 ce1.vB, .int .u8 2, .int .u32 q.wh, .int .u32 0, .bool ce1.is] [pw g 0, pw g 0, pw g 7, pw g 0, pw g 0, pw g 0, pw g 1, some (.int .u32 q.wh, True), some (.agg #[.int .u8 2, .int .u32 q.wh, .int .u32 0], True), some (.agg (thing ce1.vA ce1.vB 2 q.wh 0 ce1.is), True), none, none] SS.out (fun vals => ?_) (fun vals W2 hB hfin hall => ?_) (ea 10 rfl)
  · simp only [ObD, Act.put, qA, qC, qZ]
    refine ⟨?_, ?_, ?_, ?_, ?_, ?_, ?_, ?_, ?o1_8, ?o1_9, ?o1_10, ?o1_11, trivial⟩
    all_goals (intro L W hL hk hC hw; have f := deps hw rfl rfl; simp only [depF, vsP, pw, qS, qD, and_true, true_and] at f)
    case o1_8 => have CL := Lib.hid (bank_any q.wh W); clear hL hC hk hw; refine spD rfl ?_; go_simp; (with_reducible refine CL.out.mono ?_); rintro e w8 ⟨rfl, h2⟩; first | exact sq h2 rfl ⟨rfl, trivial⟩ | exact ⟨_, rfl, sq h2 rfl ⟨rfl, trivial⟩⟩
    case o1_9 =>
      have CL := Lib.hid (look_K SS.out (hC.pre hk) BEG.out (by have := HI.out; omega) CE1.out 2 q.wh 0); clear hL hC hk hw; refine spD rfl ?_; go_simp; (with_reducible refine CL.out.mono ?_); rintro e w8 (⟨h, rfl, h2⟩ | ⟨h1, rfl, hf, H⟩)
      · exact ⟨_, rfl, Did.miss (by unfold oDeposit; simp only [runOm_bind, run_there S0.out.1 S0.out.2, run_look_no h]) h2⟩
      · first | exact kv hf H rfl ⟨rfl, trivial⟩ | exact ⟨_, rfl, kv hf H rfl ⟨rfl, trivial⟩⟩
    case o1_10 => have ZZ := hC.fr.size; clear hL hC hk hw; refine spD rfl ?_; go_simp; exact am ZZ
    case o1_11 => obtain ⟨gt, C, fa, hgt, bx0, hc⟩ := Fw.geta (hw ⟨10, .data⟩ (by simp) rfl) (by decide); obtain ⟨c0, c1, c2, c3, c4, c5, rfl⟩ := arr6 hc; have q := six_cells bx0; have BXX := Lib.hid bx0; have FA := Lib.hid fa; clear bx0 hc; unfold thing at f; clear hL hC hk hw; refine spD rfl ?_; go_simp; exact sm SS.out BEG.out BXX.out hgt FA.out
    all_goals (have c := kn7 hC; clear hL hC hk hw; refine spD rfl ?_; go_simp; first | exact sv rfl ⟨rfl, trivial⟩ | exact ⟨_, rfl, sv rfl ⟨rfl, trivial⟩⟩)
  have S1 := Lib.hid hB.1
  simp only [allF, vsP, pw, true_and, and_true, Nat.reduceAdd] at hall
  obtain ⟨gt1, fa, hgt, bx⟩ := hfin
  simp only [TL, Act.put, qA, qC, qZ, hall, fa]
  replace SS := Lib.hid (SS.out.push BEG.out hB.st SS.out.lt hgt bx)
  clear hall vals hB fa hgt bx
  have y0 : W2.cell? ⟨g, 0, none⟩ = some (.int .u8 q.kd) := SS.out.kn.c0
  have dk : (q.kd == 7) = true := by have := HKD.out; simpa using this
  go_upto_region 6 with fail
  clear y0 dk
  refine wp_S (D := DP w g q v base i p l seen (oDeposit q) Rp.enc) 15 16 17 (SB True False w g q v base p (i + 1 + 1) p l [.box gt1 #[.int .u64 (ce1.vA - q.n), .int .u64 ce1.vB, .int .u8 2, .int .u32 q.wh, .int .u32 0, .bool ce1.is] 69, .box gt0 #[.int .u64 ce0.A, .int .u64 ce0.B, .int .u8 1, .int .u32 q.wh, .int .u32 0, .bool true] 69, .box w.heap.size #[.int .u16 0, .int .u64 0, .int .u64 0, .int .u64 0] 41]) [some (.pointer (some ⟨gt1, 0, none⟩), True), some (.pointer (some ⟨gt1, 0, none⟩), True), some (.pointer (some ⟨gt1, 0, none⟩), True), some (.pointer (some ⟨gt1, 0, none⟩), True), some (.pointer (some ⟨gt1, 0, none⟩), True), some (.int .u64 ce1.vA, True), pw g 0, pw g 0, pw g 0, pw g 5, some (.int .u64 q.n, True), some (.int .u64 (ce1.vA - q.n), Ls ce1.vA q.n), some (.pointer (some ⟨gt1, 0, none⟩), True), some (.pointer (some ⟨gt1, 0, none⟩), True), some (.pointer (some ⟨gt1, 0, none⟩), True), some (undef, True)] SS.out (fun vals => ?_) (fun vals W3 hB hall => ?_)
  · simp only [ObD, Act.put, qA, qC, qZ]
    refine ⟨?_, ?_, ?_, ?_, ?_, ?o2_5, ?_, ?_, ?_, ?_, ?_, ?o2_11, ?_, ?_, ?_, ?o2_15, trivial⟩
    all_goals (intro L W hL hk hC hw; have f := deps hw rfl rfl; simp only [depF, vsP, pw, qS, qD, and_true, true_and] at f)
    case' o2_5 => have k0 : W.cell? ⟨gt1, 0, none⟩ = some (.int .u64 ce1.vA) := (hC.pre (hL.not_yet hk 15 16 (by decide +kernel))).bx.1.out.cell 0
    case o2_11 =>
      have CL := Lib.hid (less_C (vA_ok HOK.out S1.out) HQ.out.n hC SS.out BEG.out); clear hL hC hk hw; refine spD rfl ?_; go_simp; (with_reducible refine CL.out.mono ?_)
      rintro e w8 (⟨h, rfl, h2⟩ | ⟨⟨h, h3⟩, rfl, h2⟩ | ⟨h1, rfl, h2⟩)
      · exact ⟨_, rfl, Did.err (by unfold oDeposit; simp only [runOm_bind, run_there S0.out.1 S0.out.2, run_look S1.out, if_pos HKD.out, run_less_great h]) h2⟩
      · exact ⟨_, rfl, Did.err (by unfold oDeposit; simp only [runOm_bind, run_there S0.out.1 S0.out.2, run_look S1.out, if_pos HKD.out, run_less_low h h3]) h2⟩
      · first | exact sq h2 rfl ⟨rfl, h1⟩ | exact ⟨_, rfl, sq h2 rfl ⟨rfl, h1⟩⟩
    case o2_15 => have PRE := hC.pre hk; have q0 : W.cell? ⟨gt1, 0, none⟩ = some (.int .u64 ce1.vA) := PRE.bx.1.out.cell 0; have r0 := PRE.bx.1.out.frozen 0; have P := Lib.hid PRE; clear PRE; clear hL hC hk hw; refine spD rfl ?_; go_simp; exact ks (ksB SS.out P.out BEG.out 0 rfl) rfl ⟨rfl, trivial⟩
    all_goals (have c := kn7 hC; clear hL hC hk hw; refine spD rfl ?_; go_simp; first | exact sv rfl ⟨rfl, trivial⟩ | exact ⟨_, rfl, sv rfl ⟨rfl, trivial⟩⟩)
  have C3 : Hid (Ls ce1.vA q.n) := Lib.hid (vsP_c (hall.get 11))
  simp only [allF, vsP, pw, true_and, and_true, Nat.reduceAdd] at hall
  simp only [TL, Act.put, qA, qC, qZ, hall]
  replace SS := Lib.hid hB.st
  clear hall vals hB
  go_upto_region 7 with fail
  refine wp_S (D := DP w g q v base i p l seen (oDeposit q) Rp.enc) 15 16 17 (SB True False w g q v base p (i + 1 + 1) p l [.box gt1 #[.int .u64 (ce1.vA - q.n), .int .u64 ce1.vB, .int .u8 2, .int .u32 q.wh, .int .u32 0, .bool ce1.is] 69, .box gt0 #[.int .u64 (ce0.A + q.n), .int .u64 ce0.B, .int .u8 1, .int .u32 q.wh, .int .u32 0, .bool true] 69, .box w.heap.size #[.int .u16 0, .int .u64 0, .int .u64 0, .int .u64 0] 41]) [some (.pointer (some ⟨gt0, 0, none⟩), True), some (.pointer (some ⟨gt0, 0, none⟩), True), some (.pointer (some ⟨gt0, 0, none⟩), True), some (.pointer (some ⟨gt0, 0, none⟩), True), some (.pointer (some ⟨gt0, 0, none⟩), True), some (.int .u64 ce0.A, True), pw g 0, pw g 0, pw g 0, pw g 5, some (.int .u64 q.n, True), some (.int .u64 (ce0.A + q.n), Mr ce0.A q.n), some (.pointer (some ⟨gt0, 0, none⟩), True), some (.pointer (some ⟨gt0, 0, none⟩), True), some (.pointer (some ⟨gt0, 0, none⟩), True), some (undef, True)] SS.out (fun vals => ?_) (fun vals W4 hB hall => ?_)
  · simp only [ObD, Act.put, qA, qC, qZ]
    refine ⟨?_, ?_, ?_, ?_, ?_, ?o3_5, ?_, ?_, ?_, ?_, ?_, ?o3_11, ?_, ?_, ?_, ?o3_15, trivial⟩
    all_goals (intro L W hL hk hC hw; have f := deps hw rfl rfl; simp only [depF, vsP, pw, qS, qD, and_true, true_and] at f)
    case' o3_5 => have k0 : W.cell? ⟨gt0, 0, none⟩ = some (.int .u64 ce0.A) := (hC.pre (hL.not_yet hk 15 16 (by decide +kernel))).bx.2.1.out.cell 0
    case o3_11 =>
      have CL := Lib.hid (more_C (A_ok HOK.out S0.out.1) HQ.out.n hC SS.out BEG.out); clear hL hC hk hw; refine spD rfl ?_; go_simp; (with_reducible refine CL.out.mono ?_)
      rintro e w8 (⟨h, rfl, h2⟩ | ⟨h1, rfl, h2⟩)
      · exact ⟨_, rfl, Did.err (by unfold oDeposit; simp only [runOm_bind, run_there S0.out.1 S0.out.2, run_look S1.out, if_pos HKD.out, run_less C3.out.1 C3.out.2, run_more_no h]) h2⟩
      · first | exact sq h2 rfl ⟨rfl, h1⟩ | exact ⟨_, rfl, sq h2 rfl ⟨rfl, h1⟩⟩
    case o3_15 => have PRE := hC.pre hk; have q0 : W.cell? ⟨gt0, 0, none⟩ = some (.int .u64 ce0.A) := PRE.bx.2.1.out.cell 0; have r0 := PRE.bx.2.1.out.frozen 0; have P := Lib.hid PRE; clear PRE; clear hL hC hk hw; refine spD rfl ?_; go_simp; exact ks (ksB SS.out P.out BEG.out 1 rfl) rfl ⟨rfl, trivial⟩
    all_goals (have c := kn7 hC; clear hL hC hk hw; refine spD rfl ?_; go_simp; first | exact sv rfl ⟨rfl, trivial⟩ | exact ⟨_, rfl, sv rfl ⟨rfl, trivial⟩⟩)
  have C4 : Hid (Mr ce0.A q.n) := Lib.hid (vsP_c (hall.get 11))
  simp only [allF, vsP, pw, true_and, and_true, Nat.reduceAdd] at hall
  simp only [TL, Act.put, qA, qC, qZ, hall]
  replace SS := Lib.hid hB.st
  clear hall vals hB
  obtain ⟨⟨y0, y1, y2, y3, y4, y5⟩, -⟩ := six_cells SS.out.bx.2.1.out
  have CALL := Lib.hid (amount_S SS.out BEG.out (by have := HL.out; (try simp only [List.length_append, List.length_cons, List.length_nil]); omega) 1 q.wh 0 (ce0.A + q.n) (show _ = l ++ [amt 1 q.wh 0 (ce0.A + q.n)] by simp))
  go_wp2_with fail
  (with_reducible refine CALL.out.mono ?_)
  rintro e W5 ⟨rfl, hf, p5, hs⟩
  replace SS := Lib.hid hs
  clear CALL hf hs y0 y1 y2 y3 y4 y5
  obtain ⟨⟨y0, y1, y2, y3, y4, y5⟩, -⟩ := six_cells SS.out.bx.1.out
  have CALL := Lib.hid (amount_S SS.out BEG.out (by have := HL.out; (try simp only [List.length_append, List.length_cons, List.length_nil]); omega) 2 q.wh 0 (ce1.vA - q.n) (show _ = l ++ [amt 1 q.wh 0 (ce0.A + q.n), amt 2 q.wh 0 (ce1.vA - q.n)] by simp))
  go_wp2_with fail
  (with_reducible refine CALL.out.mono ?_)
  rintro e W6 ⟨rfl, hf, p6, hs⟩
  replace SS := Lib.hid hs
  clear CALL hf hs y0 y1 y2 y3 y4 y5
  have y0 : W6.cell? ⟨gt0, 0, none⟩ = some (.int .u64 (ce0.A + q.n)) := SS.out.bx.2.1.out.cell 0
  have y1 : W6.cell? ⟨gt1, 0, none⟩ = some (.int .u64 (ce1.vA - q.n)) := SS.out.bx.1.out.cell 0
  obtain ⟨⟨z0, z1, z2, z3⟩, x0, x1, x2, x3⟩ := four_cells SS.out.bx.2.2.1.out
  go_wp2
  generalize hW : (World.setCell _ (⟨w.heap.size, 3, none⟩ : Addr) _) = WZ
  have b9 : Box WZ w.heap.size #[.int .u16 0, .int .u64 (ce0.A + q.n), .int .u64 (ce1.vA - q.n), .int .u64 0] 41 := by
    rw [← hW]
    exact four_box SS.out.bx.2.2.1.out
  have F9 : Hid (Fr (fun x => x = w.heap.size) W6 WZ) := Lib.hid (by
    rw [← hW]
    exact four_fr)
  obtain ⟨⟨v0, v1, v2, v3⟩, -⟩ := four_cells b9
  clear hW b9 z0 z1 z2 z3 x0 x1 x2 x3 y0 y1
  refine bodyPost_ret (v := .agg #[.int .u16 0, .int .u64 (ce0.A + q.n), .int .u64 (ce1.vA - q.n), .int .u64 0]) (by simp [results, Try.results39, go_sem, v0, v1, v2, v3]; try rfl) rfl ?_
  refine (SS.out.wr BEG.out 2 rfl F9.out).did (y := (⟨ce0.A + q.n, ce1.vA - q.n, 0⟩, l ++ [amt 1 q.wh 0 (ce0.A + q.n), amt 2 q.wh 0 (ce1.vA - q.n)])) ?_ rfl
  unfold oDeposit
  simp only [runOm_bind, runOm_pure, run_there S0.out.1 S0.out.2, run_look S1.out, if_pos HKD.out, run_less C3.out.1 C3.out.2, run_more C4.out, oAmount, run_put, oAmount, run_put, List.append_assoc, List.cons_append, List.nil_append]
  try rfl
theorem deposit_all (w : World) (g : Nat) (q : Ot) (v : Value) (base i : Nat) (p : Value) (l : List Pu) (seen : List Ce) (hst : St w g q v base i p l) (hs : SeenAt w g v seen) (hg : g < base) (hbase : base ≤ w.heap.size) (hl : l.length ≤ 800) (hi : i ≤ 800000) (hq : q.Ok) (hok : ∀ c ∈ seen, c.Ok) :
    Calls Try.prog 39 #[.pointer (some ⟨g, 0, none⟩)] w (Did w g q v base i p l seen (oDeposit q) Rp.enc) := by
  by_cases h : q.kd = 7
  · exact deposit_in_ w g q v base i p l seen hst hs hg hbase hl hi hq hok h
  · exact deposit_out_ w g q v base i p l seen hst hs hg hbase hl hi hq hok h
end Go.Proofs.Ytneaehimdmachaa.Rule
namespace Go.Proofs.Ytneaehimdmachaa.Rule
open Go.ChangeShapes Go.WideShapes Go.ChangeAt Go.RowKit Go.IntWalk Go.Proofs.Mem Go.Proofs.Each
set_option linter.unusedVariables false
set_option linter.unusedSimpArgs false
def oNumberT (kd : Int) : Om Th := do
  let c ← oLook 8 kd 0
  oDeny (decide (4294967295 ≤ c.A)) 3
  return ⟨c.A + 1, c.B, 8, kd, 0, c.is⟩
theorem oNumber_T (kd : Int) {seen : List Ce} {i : Nat} {l : List Pu} : runOm seen (oNumber kd) i l = match runOm seen (oNumberT kd) i l with
    | .miss k a b => .miss k a b
    | .err e => .err e
    | .ok y j => .ok (y.1.A, y.2) j := by
  unfold oNumber oNumberT
  simp only [runOm_bind]
  cases runOm seen (oLook 8 kd 0) i l with
  | miss k a b => rfl
  | err e => rfl
  | ok y j =>
    simp only
    cases runOm seen (oDeny (decide (4294967295 ≤ y.1.A)) 3) j y.2 with
    | miss k a b => rfl
    | err e => rfl
    | ok z n => rfl
def Th.val (t : Th) : Value := .agg (thing t.A t.B t.k t.a t.b t.is)
def Th.enc (t : Th) : Value := .tuple #[.int .u32 t.A, t.val]
set_option maxRecDepth 100000 in
set_option maxHeartbeats 8000000 in
theorem number_any (w : World) (g : Nat) (q : Ot) (v : Value) (base i : Nat) (p : Value) (l : List Pu) (seen : List Ce) (hst : St w g q v base i p l) (hs : SeenAt w g v seen) (hg : g < base) (hbase : base ≤ w.heap.size) (hi : i ≤ 900000) (hq : q.Ok) (hok : ∀ c ∈ seen, c.Ok) (kd : Int) (hk : 0 ≤ kd ∧ kd ≤ 255) :
    Calls Try.prog 60 #[.pointer (some ⟨g, 0, none⟩), .int .u8 kd] w (Did w g q v base i p l seen (oNumberT kd) Th.enc) := by
  have BEG := Lib.hid (Begin.mk hs hg hbase hq hok (fun x hx => hst.own.lt x hx))
  obtain ⟨W0, hW0⟩ : ∃ W0, w.alloc (.cells #[.int .u64 0, .int .u64 0, .int .u8 0, .int .u32 0, .int .u32 0, .bool false] 69) = W0 := ⟨_, rfl⟩
  have SS : Hid (ST w g q v base p i p l [.box w.heap.size #[.int .u64 0, .int .u64 0, .int .u8 0, .int .u32 0, .int .u32 0, .bool false] 69] W0) := Lib.hid (by rw [← hW0]; exact ST.start hst BEG.out _ _)
  have HI := Lib.hid hi
  have HQ := Lib.hid hq
  have HOK := Lib.hid hok
  have HK := Lib.hid hk
  obtain ⟨ce0, hce0⟩ := the_cell seen (i)
  have CE0 := Lib.hid hce0
  clear hst hs hg hbase hi hq hok hk hce0
  go_enter Try.func60, Try.ntmps60
  go_upto_region 1 with fail
  try rw [hW0]
  clear hW0
  refine wp_SK (D := DP w g q v base i p l seen (oNumberT kd) Th.enc) 5 6 7 (seen[i]? = some ce0) (i + 1) #[.int .u64 ce0.vA, .int .u64 ce0.vB, .int .u8 8, .int .u32 kd, .int .u32 0, .bool ce0.is] [pw g 0, pw g 0, pw g 7, some (.int .u8 kd, True), some (.agg #[.int .u8 8, .int .u32 kd, .int .u32 0], True), some (.agg (thing ce0.vA ce0.vB 8 kd 0 ce0.is), True), none, none] SS.out (fun vals => ?_) (fun vals W1 hB hfin hall => ?_) (ea 6 rfl)
  · simp only [ObD, Act.put, qA, qC, qZ]
    refine ⟨?_, ?_, ?_, ?_, ?o0_4, ?o0_5, ?o0_6, ?o0_7, trivial⟩
    all_goals (intro L W hL hk hC hw; have f := deps hw rfl rfl; simp only [depF, vsP, pw, qS, qD, and_true, true_and] at f)
    case o0_4 => have CL := Lib.hid (count_any kd HK.out W); clear hL hC hk hw; refine spD rfl ?_; go_simp; (with_reducible refine CL.out.mono ?_); rintro e w8 ⟨rfl, h2⟩; first | exact sq h2 rfl ⟨rfl, trivial⟩ | exact ⟨_, rfl, sq h2 rfl ⟨rfl, trivial⟩⟩
    case o0_5 =>
      have CL := Lib.hid (look_K SS.out (hC.pre hk) BEG.out (by have := HI.out; omega) CE0.out 8 kd 0); clear hL hC hk hw; refine spD rfl ?_; go_simp; (with_reducible refine CL.out.mono ?_); rintro e w8 (⟨h, rfl, h2⟩ | ⟨h1, rfl, hf, H⟩)
      · exact ⟨_, rfl, Did.miss (by unfold oNumberT; simp only [runOm_bind, run_look_no h]) h2⟩
      · first | exact kv hf H rfl ⟨rfl, trivial⟩ | exact ⟨_, rfl, kv hf H rfl ⟨rfl, trivial⟩⟩
    case o0_6 => have ZZ := hC.fr.size; clear hL hC hk hw; refine spD rfl ?_; go_simp; exact am ZZ
    case o0_7 => obtain ⟨gt, C, fa, hgt, bx0, hc⟩ := Fw.geta (hw ⟨6, .data⟩ (by simp) rfl) (by decide); obtain ⟨c0, c1, c2, c3, c4, c5, rfl⟩ := arr6 hc; have q := six_cells bx0; have BXX := Lib.hid bx0; have FA := Lib.hid fa; clear bx0 hc; unfold thing at f; clear hL hC hk hw; refine spD rfl ?_; go_simp; exact sm SS.out BEG.out BXX.out hgt FA.out
    all_goals (have c := kn7 hC; clear hL hC hk hw; refine spD rfl ?_; go_simp; first | exact sv rfl ⟨rfl, trivial⟩ | exact ⟨_, rfl, sv rfl ⟨rfl, trivial⟩⟩)
  have S0 := Lib.hid hB.1
  simp only [allF, vsP, pw, true_and, and_true, Nat.reduceAdd] at hall
  obtain ⟨gt0, fa, hgt, bx⟩ := hfin
  simp only [TL, Act.put, qA, qC, qZ, hall, fa]
  replace SS := Lib.hid (SS.out.push BEG.out hB.st SS.out.lt hgt bx)
  clear hall vals hB fa hgt bx
  have t0 := SS.out.bx.1.out.cell 0
  have x0 := SS.out.bx.1.out.frozen 0
  simp only [List.getElem?_toArray, List.getElem?_cons_zero] at t0
  by_cases hbig : 4294967295 ≤ ce0.vA
  · have dk : decide (4294967295 ≤ ce0.vA) = true := decide_eq_true hbig
    have HB := Lib.hid hbig
    clear hbig
    go_wp2_with fail
    (with_reducible refine (deny_yes 3 _).mono ?_)
    rintro e w2 ⟨rfl, rfl⟩
    exact ⟨rfl, Did.err (by unfold oNumberT; simp only [runOm_bind, run_look S0.out, decide_eq_true HB.out, run_deny_yes]) (SS.out.low BEG.out)⟩
  · have dk : decide (4294967295 ≤ ce0.vA) = false := decide_eq_false hbig
    have cw : IntKind.u64.wrap (ce0.vA + 1) = ce0.vA + 1 := wrap_u64 (by have := (vA_ok HOK.out S0.out).1; omega) (by omega)
    have cv : IntKind.u32.wrap (ce0.vA + 1) = ce0.vA + 1 := by rw [wrap_u32]; exact lo32_of ⟨by have := (vA_ok HOK.out S0.out).1; omega, by omega⟩
    have HB := Lib.hid hbig
    have CV := Lib.hid cv
    clear hbig cv
    go_wp2_with fail
    (with_reducible refine (deny_no 3 _).mono ?_)
    rintro e w2 ⟨rfl, rfl⟩
    clear dk
    go_upto_region 4 with fail
    generalize hW2 : (World.setCell W1 _ _) = W2
    have SX : Hid (ST w g q v base p (i + 1) p l [.box gt0 #[.int .u64 (ce0.vA + 1), .int .u64 ce0.vB, .int .u8 8, .int .u32 kd, .int .u32 0, .bool ce0.is] 69, .box w.heap.size #[.int .u64 0, .int .u64 0, .int .u8 0, .int .u32 0, .int .u32 0, .bool false] 69] W2) := Lib.hid (by
      rw [← hW2]
      exact SS.out.updB BEG.out (o := 0) (u := .int .u64 (ce0.vA + 1)) 0)
    replace SS := SX
    clear hW2 cw SX
    obtain ⟨⟨t0, t1, t2, t3, t4, t5⟩, u0⟩ := six_cells SS.out.bx.1.out
    obtain ⟨⟨z0, z1, z2, z3, z4, z5⟩, x0, x1, x2, x3, x4, x5⟩ := six_cells SS.out.bx.2.1.out
    clear u0
    have cv := CV.out
    go_region
    go_wp2
    generalize hW : (World.setCell _ (⟨w.heap.size, 5, none⟩ : Addr) _) = W9
    have b9 : Box W9 w.heap.size #[.int .u64 (ce0.vA + 1), .int .u64 ce0.vB, .int .u8 8, .int .u32 kd, .int .u32 0, .bool ce0.is] 69 := by
      rw [← hW]
      exact six_box SS.out.bx.2.1.out
    have F9 : Hid (Fr (fun x => x = w.heap.size) W2 W9) := Lib.hid (by
      rw [← hW]
      exact six_fr)
    obtain ⟨⟨v0, v1, v2, v3, v4, v5⟩, u1⟩ := six_cells b9
    clear hW b9 z0 z1 z2 z3 z4 z5 x0 x1 x2 x3 x4 x5 t0 t1 t2 t3 t4 t5 u1
    refine bodyPost_ret (v := .tuple #[.int .u32 (ce0.vA + 1), .agg #[.int .u64 (ce0.vA + 1), .int .u64 ce0.vB, .int .u8 8, .int .u32 kd, .int .u32 0, .bool ce0.is]]) (by simp [results, Try.results60, go_sem, v0, v1, v2, v3, v4, v5]; try rfl) rfl ?_
    refine ((SS.out.wr BEG.out 1 rfl F9.out).drew).did (m := oNumberT kd) (enc := Th.enc) (y := ((⟨ce0.vA + 1, ce0.vB, 8, kd, 0, ce0.is⟩ : Th), l)) ?_ rfl
    unfold oNumberT
    simp only [runOm_bind, run_look S0.out, decide_eq_false (show ¬ 4294967295 ≤ ce0.vA by have := HB.out; omega), run_deny_no]
    rfl
theorem number_ok {seen : List Ce} {j n : Nat} {l : List Pu} {kd : Int} {y : Th × List Pu} (h : runOm seen (oNumberT kd) j l = .ok y n) : ∃ c, seen[j]? = some c ∧ ¬ 4294967295 ≤ c.vA ∧ y = (⟨c.vA + 1, c.vB, 8, kd, 0, c.is⟩, l) ∧ n = j + 1 := by
  unfold oNumberT at h
  cases hs : seen[j]? with
  | none => rw [runOm_bind, run_look_no hs] at h; cases h
  | some c =>
    rw [runOm_bind, run_look hs] at h
    by_cases hb : 4294967295 ≤ c.vA
    · simp only [runOm_bind, decide_eq_true hb, run_deny_yes] at h
      cases h
    · simp only [runOm_bind, decide_eq_false hb, run_deny_no] at h
      injection h with h1 h2
      exact ⟨c, rfl, hb, h1.symm, h2.symm⟩
def NumQ (w : World) (g : Nat) (q : Ot) (v : Value) (base : Nat) (p : Value) (W : World) (j : Nat) (p' : Value) (l : List Pu) (seen : List Ce) (kd : Int) (e : Ending) (w' : World) : Prop :=
  (∃ k a b, runOm seen (oNumberT kd) j l = .miss k a b ∧ e = .panicked (raiseK k a b) ∧ Below g w w') ∨
  (∃ m, runOm seen (oNumberT kd) j l = .err m ∧ e = .panicked (raise_ m) ∧ Below g w w') ∨
  ∃ c p2, seen[j]? = some c ∧ (0 ≤ c.vA ∧ ¬ 4294967295 ≤ c.vA) ∧ e = .returned (.tuple #[.int .u32 (c.vA + 1), .agg #[.int .u64 (c.vA + 1), .int .u64 c.vB, .int .u8 8, .int .u32 kd, .int .u32 0, .bool c.is]]) ∧ Run w g q v base p w' (j + 1) p2 l ∧ Fr (fun x => x = g ∨ p'.ownBlock = some x) W w'
theorem number_run {w W : World} {g base j : Nat} {q : Ot} {v p p' : Value} {l : List Pu} {seen : List Ce} (h : Run w g q v base p W j p' l) (hb : Begin w g q v base p seen) (hj : j ≤ 900000) (kd : Int) (hk : 0 ≤ kd ∧ kd ≤ 255) :
    Calls Try.prog 60 #[.pointer (some ⟨g, 0, none⟩), .int .u8 kd] W (NumQ w g q v base p W j p' l seen kd) :=
  (number_any W g q v base j p' l seen h.st (h.cells_ hb) hb.hg (Nat.le_trans hb.hbase h.size) hj hb.hq hb.hok kd hk).mono fun e w' hd => by
    rcases h.part hb hd with h1 | h1 | ⟨y, n, p2, h1, rfl, hr, hf⟩
    · exact .inl h1
    · exact .inr (.inl h1)
    · obtain ⟨c, hs, hbig, rfl, rfl⟩ := number_ok h1
      exact .inr (.inr ⟨c, p2, hs, ⟨(vA_ok hb.hok hs).1, hbig⟩, rfl, hr, hf⟩)
theorem number_S {w W : World} {g base j : Nat} {q : Ot} {v p p' : Value} {l : List Pu} {bs : List Bx} {seen : List Ce} (h : ST w g q v base p j p' l bs W) (hb : Begin w g q v base p seen) (hj : j ≤ 900000) (kd : Int) (hk : 0 ≤ kd ∧ kd ≤ 255) :
    Calls Try.prog 60 #[.pointer (some ⟨g, 0, none⟩), .int .u8 kd] W fun e w' =>
      (∃ k a b, runOm seen (oNumberT kd) j l = .miss k a b ∧ e = .panicked (raiseK k a b) ∧ Below g w w') ∨ (∃ m, runOm seen (oNumberT kd) j l = .err m ∧ e = .panicked (raise_ m) ∧ Below g w w') ∨
      ∃ c p2, seen[j]? = some c ∧ (0 ≤ c.vA ∧ ¬ 4294967295 ≤ c.vA) ∧ e = .returned (.tuple #[.int .u32 (c.vA + 1), .agg #[.int .u64 (c.vA + 1), .int .u64 c.vB, .int .u8 8, .int .u32 kd, .int .u32 0, .bool c.is]]) ∧ ST w g q v base p (j + 1) p2 l bs w' :=
  (number_run h.run.out hb hj kd hk).mono fun e w' hd => by
    rcases hd with h1 | h1 | ⟨c, p2, h1, h2, h3, h4, h5⟩
    · exact .inl h1
    · exact .inr (.inl h1)
    · exact .inr (.inr ⟨c, p2, h1, h2, h3, h.keep h4 h5 h.put_far⟩)
end Go.Proofs.Ytneaehimdmachaa.Rule
namespace Go.Proofs.Ytneaehimdmachaa.Rule
open Go.ChangeShapes Go.WideShapes Go.ChangeAt Go.RowKit Go.IntWalk Go.Proofs.Mem Go.Proofs.Each
set_option linter.unusedVariables false
set_option linter.unusedSimpArgs false
def RowA (n : Nat) (cs : Array Value) (v : Value) (W : World) : Prop := ∃ gb, v = .slice (some ⟨gb, 0, none⟩) 1 1 ∧ n ≤ gb ∧ Box W gb cs 69
def RowS (gg0 n m : Nat) (cs : Array Value) (va vs : Value) (W : World) : Prop := ∃ gg cap, vs = .slice (some ⟨gg, 0, none⟩) m cap ∧ (gg = gg0 ∨ n ≤ gg) ∧ Pile W gg m cap cs
theorem Aps.erase : ∀ {bs : List Bx}, Aps bs → ∀ n, Aps (bs.eraseIdx n)
  | [], _, n => by rw [List.eraseIdx_nil]; trivial
  | x :: r, h, 0 => h.2
  | x :: r, h, n + 1 => ⟨fun y hy => h.1 y (List.mem_of_mem_eraseIdx hy), Aps.erase h.2 n⟩
section
variable {w w0 W W' : World} {g base j j2 n : Nat} {q : Ot} {v p p' p2 : Value} {l l2 : List Pu} {bs bs2 rs : List Bx} {S : Nat → Prop} {F U : Prop} {seen : List Ce}
theorem ST.era (h : ST w g q v base p j p' l bs W) (n : Nat) (hr : bs.eraseIdx n = rs) : ST w g q v base p j p' l rs W := by
  subst hr
  exact ⟨h.run, .of fun x hx => h.bx.mem x (List.mem_of_mem_eraseIdx hx), fun x hx => h.ok x (List.mem_of_mem_eraseIdx hx), h.ap.erase n⟩
theorem ST.ne_era {x : Bx} (h : ST w g q v base p j p' l bs W) (hn : bs[n]? = some x) (hr : bs.eraseIdx n = rs) : ∀ y ∈ rs, y.blk ≠ x.blk := by
  subst hr
  intro y hy
  obtain ⟨i, hi⟩ := List.getElem?_of_mem hy
  rw [List.getElem?_eraseIdx] at hi
  split at hi
  · exact h.ap.out_ hn i y (by omega) hi
  · exact h.ap.out_ hn (i + 1) y (by omega) hi
theorem ST.regrow {old on oc new m cap : Nat} {oC C : Array Value} (h0 : ST w g q v base p j2 p2 l2 bs w0) (hb : Begin w g q v base p seen) (n : Nat) (hn : bs[n]? = some (.pile old on oc oC)) (hr : bs.eraseIdx n = rs) (h : ST w g q v base p j p' l rs W) (hor : new = old ∨ w0.heap.size ≤ new) (hx : Pile W new m cap C) : ST w g q v base p j p' l (.pile new m cap C :: rs) W := by
  have ho : (Bx.pile old on oc oC).ok w g := h0.ok _ (List.mem_of_getElem? hn)
  refine ⟨h.run, ⟨Lib.hid hx, h.bx⟩, fun x hx => ?_, ⟨fun y hy => ?_, h.ap⟩⟩
  · rcases List.mem_cons.1 hx with e | e
    · subst e
      rcases hor with e | e
      · subst e; exact ho
      · exact ⟨by have := h0.gl hb; omega, by have := h0.run.out.size; omega⟩
    · exact h.ok x e
  · rcases hor with e | e
    · subst e; exact h0.ne_era hn hr y hy
    · have : y.blk < w0.heap.size := h0.lt y (by subst hr; exact List.mem_of_mem_eraseIdx hy)
      show y.blk ≠ new
      omega
end
section
variable {w w0 W W' : World} {g base j j2 k a s t i : Nat} {q : Ot} {v p p' : Value} {l l2 : List Pu} {bs bs2 : List Bx} {S S1 : Nat → Prop} {F U : Prop} {seen : List Ce} {L : Nat → Bool} {A B G : World → Prop} {FinA : Value → World → Prop} {FinS : Value → Value → World → Prop} {Fs : List (Value → Prop)} {vals : Nat → Value} {x : Value} {f : Value → Prop}
theorem cg_kn (h : Cg w0 k s S S1 (ST w g q v base p j p' l bs) (SB F U w g q v base p j2 p' l2 bs2) G L W) : K7 W g q := by
  rcases h.or with h | h
  · exact h.kn
  · exact h.kn
theorem kg7 (h : Cg w0 k s S S1 (ST w g q v base p j p' l bs) (SB F U w g q v base p j2 p' l2 bs2) G L W) : W.cell? ⟨g, 0, none⟩ = some (.int .u8 q.kd) ∧ W.cell? ⟨g, 1, none⟩ = some (.int .u32 q.wh) ∧ W.cell? ⟨g, 2, none⟩ = some (.int .u32 q.wm) ∧ W.cell? ⟨g, 3, none⟩ = some (.int .u32 q.wt) ∧ W.cell? ⟨g, 4, none⟩ = some (.int .u32 q.id) ∧ W.cell? ⟨g, 5, none⟩ = some (.int .u64 q.n) ∧ W.cell? ⟨g, 6, none⟩ = some (.int .u64 q.pr) :=
  have c := cg_kn h
  ⟨c.c0, c.c1, c.c2, c.c3, c.c4, c.c5, c.c6⟩
theorem cg_bx (h : Cg w0 k s S S1 (ST w g q v base p j p' l bs) (SB F U w g q v base p j2 p' l2 bs) G L W) : Bxs W bs := by
  rcases h.or with h | h
  · exact h.bx
  · exact h.box
theorem gv (hE : (Fs.getD i fun _ => True) = f) (hf : f x) (hk : i ≠ k := by decide) (hs : i ≠ s := by decide) (ha : i ≠ a := by decide) (ht : i ≠ t := by decide) : Rw k s S S1 A B FinA i W W ∧ Fg k a s t B FinA FinS Fs i (upd vals i x) W :=
  ⟨Rw.same hk hs, Fg.val ht hs ha hk hE hf⟩
theorem gq (hb : Below W.heap.size W W') (hE : (Fs.getD i fun _ => True) = f) (hf : f x) (hk : i ≠ k := by decide) (hs : i ≠ s := by decide) (ha : i ≠ a := by decide) (ht : i ≠ t := by decide) :
    Rw k s S S1 (ST w g q v base p j p' l bs) (SB F U w g q v base p j2 p' l2 bs2) FinA i W W' ∧ Fg k a s t (SB F U w g q v base p j2 p' l2 bs2) FinA FinS Fs i (upd vals i x) W' :=
  ⟨Rw.below hk hs (fun h => h.later hb) (fun h => h.later hb) hb, Fg.val ht hs ha hk hE hf⟩
theorem gk (hf : Fr S W W') (H : B W') (hE : (Fs.getD k fun _ => True) = f) (hv : f x) (hs : k ≠ s := by decide) (ha : k ≠ a := by decide) (ht : k ≠ t := by decide) : Rw k s S S1 A B FinA k W W' ∧ Fg k a s t B FinA FinS Fs k (upd vals k x) W' :=
  ⟨Rw.work hs hf H, Fg.work ht hs ha H hE hv⟩
theorem gt_ (ht : t ≠ k := by decide) (hs : t ≠ s := by decide) (hst : s ≠ t := by decide) : Rw k s S S1 A B FinA t W W ∧ Fg k a s t B FinA FinS Fs t (upd vals t (vals s)) W :=
  ⟨Rw.same ht hs, Fg.told hst⟩
theorem gm0 {c0 c1 c2 c3 c4 c5 : Value} (hz : w0.heap.size ≤ W.heap.size) (hk : s ≠ k := by decide) (ht : s ≠ t := by decide) (ha : a ≠ s := by decide) :
    Rw k s S (fun x => w0.heap.size ≤ x) (ST w g q v base p j p' l bs) (SB F U w g q v base p j2 p' l2 bs2) (fun _ _ => True) s W (W.alloc (.cells #[c0, c1, c2, c3, c4, c5] 69)) ∧
    Fg k a s t (SB F U w g q v base p j2 p' l2 bs2) (fun _ _ => True) (fun _ u W => RowA w0.heap.size #[c0, c1, c2, c3, c4, c5] u W) Fs s (upd vals s (.slice (some ⟨W.heap.size, 0, none⟩) 1 1)) (W.alloc (.cells #[c0, c1, c2, c3, c4, c5] 69)) := by
  have h2 := new_ (Below.refl W.heap.size W) (.cells #[c0, c1, c2, c3, c4, c5] 69)
  exact ⟨Rw.store hk (Fr.of_below h2) (fun h => h.later h2) (fun h => h.later h2) (fun _ h => h), Fg.laid ht ha ⟨W.heap.size, rfl, hz, Box.new _ _ _⟩⟩
theorem gm1 {c0 c1 c2 c3 c4 c5 : Value} (hz : w0.heap.size ≤ W.heap.size) (hk : a ≠ k := by decide) (ht : a ≠ t := by decide) (ha : a ≠ s := by decide) :
    Rw k s S S1 (ST w g q v base p j p' l bs) (SB F U w g q v base p j2 p' l2 bs2) (RowA w0.heap.size #[c0, c1, c2, c3, c4, c5]) a W (W.alloc (.cells #[c0, c1, c2, c3, c4, c5] 69)) ∧
    Fg k a s t (SB F U w g q v base p j2 p' l2 bs2) (RowA w0.heap.size #[c0, c1, c2, c3, c4, c5]) FinS Fs a (upd vals a (.slice (some ⟨W.heap.size, 0, none⟩) 1 1)) (W.alloc (.cells #[c0, c1, c2, c3, c4, c5] 69)) := by
  have h2 := new_ (Below.refl W.heap.size W) (.cells #[c0, c1, c2, c3, c4, c5] 69)
  exact ⟨Rw.below hk ha (fun h => h.later h2) (fun h => h.later h2) h2, Fg.made ht ha ⟨W.heap.size, rfl, hz, Box.new _ _ _⟩⟩
theorem ST.elseP {W : World} {b m cap : Nat} {C : Array Value} (h : ST w g q v base p j p' l bs W) (hb : Begin w g q v base p seen) (hx : Pile W b m cap C) (hlo : w.heap.size ≤ b) (hne : ∀ x ∈ bs, x.blk ≠ b) (hf : Fr (fun x => x = b) W W') : ST w g q v base p j p' l bs W' := by
  obtain ⟨cur, hc, _⟩ := hx.box
  exact h.else_ hb hc (by decide) hlo hne hf
theorem SB.elseP {b m cap : Nat} {C : Array Value} (h : SB F U w g q v base p j p' l bs W) (hb : Begin w g q v base p seen) (hx : Pile W b m cap C) (hlo : w.heap.size ≤ b) (hne : ∀ x ∈ bs, x.blk ≠ b) (hf : Fr (fun x => x = b) W W') : SB F U w g q v base p j p' l bs W' := by
  obtain ⟨cur, hc, _⟩ := hx.box
  exact h.else_ hb hc (by decide) hlo hne hf
theorem ga {n old on oc m gg cc j0 : Nat} {p0 : Value} {l0 : List Pu} {oC C : Array Value} {bs0 : List Bx} {c6 : Array Value} (h0 : ST w g q v base p j0 p0 l0 bs0 w0) (hb : Begin w g q v base p seen) (hn : bs0[n]? = some (.pile old on oc oC)) (hr : bs0.eraseIdx n = bs)
    (GR : Pile W old on oc oC) (hz : w0.heap.size ≤ W.heap.size) (hown : W'.ownsRow old 69 6 (.slice (some ⟨gg, 0, none⟩) m cc) m C.toList) (hg : W.grownBy W' (Value.ownBlock (.slice (some ⟨old, 0, none⟩) on oc))) (hat : Value.ownBlock (.slice (some ⟨old, 0, none⟩) on oc) = some gg ∨ gg = W.heap.size)
    (hk : s ≠ k := by decide) (ht : s ≠ t := by decide) (ha : a ≠ s := by decide) :
    Rw k s S (fun x => x = old ∨ w0.heap.size ≤ x) (ST w g q v base p j p' l bs) (SB F U w g q v base p j2 p' l2 bs) (RowA w0.heap.size c6) s W W' ∧
    Fg k a s t (SB F U w g q v base p j2 p' l2 bs) (RowA w0.heap.size c6) (RowS old w0.heap.size m C) Fs s (upd vals s (.slice (some ⟨gg, 0, none⟩) m cc)) W' := by
  have hf : Fr (fun x => x = old) W W' := (Fr.refl _ _).grown hg (fun x e => .inl (by injection e with e; exact e.symm))
  have ho : (Bx.pile old on oc oC).ok w g := h0.ok _ (List.mem_of_getElem? hn)
  have hol : old < w0.heap.size := h0.lt (.pile old on oc oC) (List.mem_of_getElem? hn)
  have hne : ∀ x ∈ bs, x.blk ≠ old := h0.ne_era hn hr
  have hor : gg = old ∨ w0.heap.size ≤ gg := by
    rcases hat with e | e
    · left; injection e with e; exact e.symm
    · right; omega
  exact ⟨Rw.store hk (hf.mono fun x _ e => .inl e) (fun h => h.elseP hb GR ho.2 hne hf) (fun h => h.elseP hb GR ho.2 hne hf) (fun v' ⟨gb', e1, e2, e3⟩ => ⟨gb', e1, e2, e3.fr hf (fun e => by omega)⟩), Fg.laid ht ha ⟨gg, cc, rfl, hor, Pile.of_own hown⟩⟩
theorem gaN {m gg cc : Nat} {C : Array Value} {c6 : Array Value} (hz : w0.heap.size ≤ W.heap.size) (hown : W'.ownsRow w0.heap.size 69 6 (.slice (some ⟨gg, 0, none⟩) m cc) m C.toList) (hg : W.grownBy W' (Value.ownBlock (.slice none 0 0))) (hat : Value.ownBlock (.slice none 0 0) = some gg ∨ gg = W.heap.size)
    (hk : s ≠ k := by decide) (ht : s ≠ t := by decide) (ha : a ≠ s := by decide) :
    Rw k s S (fun x => w0.heap.size ≤ x) (ST w g q v base p j p' l bs) (SB F U w g q v base p j2 p' l2 bs) (RowA w0.heap.size c6) s W W' ∧
    Fg k a s t (SB F U w g q v base p j2 p' l2 bs) (RowA w0.heap.size c6) (RowS w0.heap.size w0.heap.size m C) Fs s (upd vals s (.slice (some ⟨gg, 0, none⟩) m cc)) W' := by
  have hb : Below W.heap.size W W' := grown_below hg
  have hor : gg = w0.heap.size ∨ w0.heap.size ≤ gg := by
    rcases hat with e | e
    · cases e
    · right; omega
  exact ⟨Rw.store hk (Fr.of_below hb) (fun h => h.later hb) (fun h => h.later hb) (fun v' ⟨gb', e1, e2, e3⟩ => ⟨gb', e1, e2, e3.later hb⟩), Fg.laid ht ha ⟨gg, cc, rfl, hor, Pile.of_own hown⟩⟩
variable {vs : Vs}
theorem depsG {o : Oper} (hw : ∀ e ∈ o.after, Region.binds .any e = true → Fg k a s t B FinA FinS (vs.map vsP) e.on vals W) (ha : vs.getD a none = none) (hs : vs.getD s none = none) (ht : vs.getD t none = none) : depF vs vals o.after.toList := by
  have key : ∀ es : List Edge, (∀ e ∈ es, e ∈ o.after) → depF vs vals es := by
    intro es
    induction es with
    | nil => intro _; trivial
    | cons e r ih =>
      intro h
      refine ⟨?_, ih fun x hx => h x (by simp [hx])⟩
      cases he : e.ground with
      | data =>
        have h1 := hw e (h e (by simp)) (by simp [Region.binds, he])
        by_cases e0 : e.on = t
        · rw [e0]
          show vsP (vs.getD t none) _
          rw [ht]; trivial
        · by_cases e1 : e.on = s
          · rw [e1]
            show vsP (vs.getD s none) _
            rw [hs]; trivial
          · by_cases e2 : e.on = a
            · rw [e2]
              show vsP (vs.getD a none) _
              rw [ha]; trivial
            · exact h1.get e0 e1 e2 (vs_getD vs e.on)
      | _ => trivial
  exact key _ fun e he => by simpa using he
theorem all_ofG (h : ∀ i, i < vs.length → i ≠ t → i ≠ s → i ≠ a → ((vs.map vsP).getD i fun _ => True) (vals i)) (ha : vs.getD a none = none) (hs : vs.getD s none = none) (ht : vs.getD t none = none) : allF vals 0 vs :=
  all_of (s := s) (a := a) (vs := vs) (fun i hi h1 h2 => by
    by_cases h0 : i = t
    · rw [vs_getD, h0, ht]; trivial
    · exact h i hi h0 h1 h2) ha hs
end
theorem wp_SG0 {P : Program} {ops : List Oper} {a0 : Act} {id : Nat} {Q : Exit → Act → World → Prop} {w0 : World} {w : World} {g base j : Nat} {q : Ot} {v p p' : Value} {l : List Pu} {bs : List Bx} {seen : List Ce} {D : Exit → World → Prop} (k n s t : Nat) (F : Prop) (j2 : Nat) (cs : Array Value) (vs : Vs) (h0 : ST w g q v base p j p' l bs w0) (hb : Begin w g q v base p seen)
    (hob : ∀ vals : Nat → Value, ObD D P ops.toArray (Cg w0 k s (fun x => x = g) (fun x => w0.heap.size ≤ x) (ST w g q v base p j p' l bs) (SB F False w g q v base p j2 p' l bs) (fun _ => True)) (Rw k s (fun x => x = g) (fun x => w0.heap.size ≤ x) (ST w g q v base p j p' l bs) (SB F False w g q v base p j2 p' l bs) (fun _ _ => True)) (Fg k n s t (SB F False w g q v base p j2 p' l bs) (fun _ _ => True) (fun _ u W => RowA w0.heap.size cs u W) (vs.map vsP)) vals 0 ops a0)
    (hend : ∀ (vals : Nat → Value) W, SB F False w g q v base p j2 p' l bs W → RowA w0.heap.size cs (vals s) W → vals t = vals s → allF vals 0 vs → Q .normal (TL vals 0 ops a0) W)
    (hdt : ∀ o, ops[t]? = some o → ∃ e ∈ o.after, Region.binds .any e = true ∧ e.on = s)
    (hQ : ∀ e (a : Act) w, a.defers = a0.defers → D e w → Q e a w := by rintro _ _ _ hd ⟨c, rfl, h⟩; exact ⟨hd, h⟩) (hm : P.follows .mixedOrders = true := by kernel_rfl) (hB : fitC ops.toArray = true := by kernel_rfl) (hka : k ≠ n := by decide) (hks : k ≠ s := by decide) (hkt : k ≠ t := by decide) (hst : s ≠ t := by decide) (hk : k < ops.length := by decide) (hsl : s < ops.length := by decide) (htl : t < ops.length := by decide) (hl : vs.length = ops.length := by rfl) (ha : vs.getD n none = none := by rfl) (hs : vs.getD s none = none := by rfl) (ht : vs.getD t none = none := by rfl) : (Code.region id ops.toArray true).wp P Q a0 w0 :=
  have hg := h0.gl hb
  wp_region_growC hQ hm hB k n s t hka hks hkt hst (fun x => x = g) (fun x => w0.heap.size ≤ x) (ST w g q v base p j p' l bs) (SB F False w g q v base p j2 p' l bs) (fun _ => True) (fun _ _ => True) (fun _ u W => RowA w0.heap.size cs u W) (vs.map vsP)
    (fun _ _ _ _ _ => trivial) (fun va u W W' hf h => by obtain ⟨gb, e1, e2, e3⟩ := h; exact ⟨gb, e1, e2, e3.fr hf (by omega)⟩) (fun _ _ _ _ => trivial) (.inl fun _ _ _ _ h => h) hdt hk h0.drew trivial hob
    (fun vals W _ h1 h3 h4 h2 => hend vals W h1 (h3 hsl) (h4 htl) (all_ofG (fun i hi => h2 i (by omega)) ha hs ht))
theorem wp_SGN {P : Program} {ops : List Oper} {a0 : Act} {id : Nat} {Q : Exit → Act → World → Prop} {w0 : World} {w : World} {g base j : Nat} {q : Ot} {v p p' : Value} {l : List Pu} {bs : List Bx} {seen : List Ce} {D : Exit → World → Prop} (k a s t m : Nat) (F : Prop) (j2 : Nat) (c6 C : Array Value) (vs : Vs) (h0 : ST w g q v base p j p' l bs w0) (hb : Begin w g q v base p seen)
    (hob : ∀ vals : Nat → Value, ObD D P ops.toArray (Cg w0 k s (fun x => x = g) (fun x => w0.heap.size ≤ x) (ST w g q v base p j p' l bs) (SB F False w g q v base p j2 p' l bs) (fun _ => True)) (Rw k s (fun x => x = g) (fun x => w0.heap.size ≤ x) (ST w g q v base p j p' l bs) (SB F False w g q v base p j2 p' l bs) (RowA w0.heap.size c6)) (Fg k a s t (SB F False w g q v base p j2 p' l bs) (RowA w0.heap.size c6) (RowS w0.heap.size w0.heap.size m C) (vs.map vsP)) vals 0 ops a0)
    (hend : ∀ (vals : Nat → Value) W, SB F False w g q v base p j2 p' l bs W → RowS w0.heap.size w0.heap.size m C (vals a) (vals s) W → vals t = vals s → allF vals 0 vs → Q .normal (TL vals 0 ops a0) W)
    (hda : ∀ o, ops[s]? = some o → ∃ e ∈ o.after, Region.binds .any e = true ∧ e.on = a) (hdt : ∀ o, ops[t]? = some o → ∃ e ∈ o.after, Region.binds .any e = true ∧ e.on = s)
    (hQ : ∀ e (a : Act) w, a.defers = a0.defers → D e w → Q e a w := by rintro _ _ _ hd ⟨c, rfl, h⟩; exact ⟨hd, h⟩) (hm : P.follows .mixedOrders = true := by kernel_rfl) (hB : fitC ops.toArray = true := by kernel_rfl) (hka : k ≠ a := by decide) (hks : k ≠ s := by decide) (hkt : k ≠ t := by decide) (hst : s ≠ t := by decide) (hk : k < ops.length := by decide) (hsl : s < ops.length := by decide) (htl : t < ops.length := by decide) (hl : vs.length = ops.length := by rfl) (ha : vs.getD a none = none := by rfl) (hs : vs.getD s none = none := by rfl) (ht : vs.getD t none = none := by rfl) : (Code.region id ops.toArray true).wp P Q a0 w0 :=
  have hg := h0.gl hb
  wp_region_growC hQ hm hB k a s t hka hks hkt hst (fun x => x = g) (fun x => w0.heap.size ≤ x) (ST w g q v base p j p' l bs) (SB F False w g q v base p j2 p' l bs) (fun _ => True) (RowA w0.heap.size c6) (RowS w0.heap.size w0.heap.size m C) (vs.map vsP)
    (fun va W W' hf h => by obtain ⟨gb, e1, e2, e3⟩ := h; exact ⟨gb, e1, e2, e3.fr hf (by omega)⟩) (fun va u W W' hf h => by obtain ⟨gg, cc, e1, e2, e3⟩ := h; exact ⟨gg, cc, e1, e2, e3.fr hf (by omega)⟩) (fun _ _ _ _ => trivial) (.inr hda) hdt hk h0.drew trivial hob
    (fun vals W _ h1 h3 h4 h2 => hend vals W h1 (h3 hsl) (h4 htl) (all_ofG (fun i hi => h2 i (by omega)) ha hs ht))
theorem wp_SGO {P : Program} {ops : List Oper} {a0 : Act} {id : Nat} {Q : Exit → Act → World → Prop} {w0 : World} {w : World} {g base j : Nat} {q : Ot} {v p p' : Value} {l : List Pu} {bs rs : List Bx} {seen : List Ce} {D : Exit → World → Prop} {old on oc : Nat} {oC : Array Value} (k a s t m : Nat) (B : World → Prop) (c6 C : Array Value) (vs : Vs) (n : Nat) (h0 : ST w g q v base p j p' l bs w0) (hb : Begin w g q v base p seen) (hn : bs[n]? = some (.pile old on oc oC)) (hr : bs.eraseIdx n = rs)
    (hob : ∀ vals : Nat → Value, ObD D P ops.toArray (Cg w0 k s (fun x => x = g) (fun x => x = old ∨ w0.heap.size ≤ x) (ST w g q v base p j p' l rs) B (fun W => Pile W old on oc oC)) (Rw k s (fun x => x = g) (fun x => x = old ∨ w0.heap.size ≤ x) (ST w g q v base p j p' l rs) B (RowA w0.heap.size c6)) (Fg k a s t B (RowA w0.heap.size c6) (RowS old w0.heap.size m C) (vs.map vsP)) vals 0 ops a0)
    (hend : ∀ (vals : Nat → Value) W, B W → RowS old w0.heap.size m C (vals a) (vals s) W → vals t = vals s → allF vals 0 vs → Q .normal (TL vals 0 ops a0) W)
    (hda : ∀ o, ops[s]? = some o → ∃ e ∈ o.after, Region.binds .any e = true ∧ e.on = a) (hdt : ∀ o, ops[t]? = some o → ∃ e ∈ o.after, Region.binds .any e = true ∧ e.on = s)
    (hQ : ∀ e (a : Act) w, a.defers = a0.defers → D e w → Q e a w := by rintro _ _ _ hd ⟨c, rfl, h⟩; exact ⟨hd, h⟩) (hm : P.follows .mixedOrders = true := by kernel_rfl) (hB : fitC ops.toArray = true := by kernel_rfl) (hka : k ≠ a := by decide) (hks : k ≠ s := by decide) (hkt : k ≠ t := by decide) (hst : s ≠ t := by decide) (hk : k < ops.length := by decide) (hsl : s < ops.length := by decide) (htl : t < ops.length := by decide) (hl : vs.length = ops.length := by rfl) (ha : vs.getD a none = none := by rfl) (hs : vs.getD s none = none := by rfl) (ht : vs.getD t none = none := by rfl) : (Code.region id ops.toArray true).wp P Q a0 w0 :=
  have hg := h0.gl hb
  have hog : old ≠ g := (show (Bx.pile old on oc oC).ok w g from h0.ok _ (List.mem_of_getElem? hn)).1
  wp_region_growC hQ hm hB k a s t hka hks hkt hst (fun x => x = g) (fun x => x = old ∨ w0.heap.size ≤ x) (ST w g q v base p j p' l rs) B (fun W => Pile W old on oc oC) (RowA w0.heap.size c6) (RowS old w0.heap.size m C) (vs.map vsP)
    (fun va W W' hf h => by obtain ⟨gb, e1, e2, e3⟩ := h; exact ⟨gb, e1, e2, e3.fr hf (by omega)⟩) (fun va u W W' hf h => by obtain ⟨gg, cc, e1, e2, e3⟩ := h; exact ⟨gg, cc, e1, e2, e3.fr hf (by omega)⟩) (fun W W' hf h => h.fr hf hog) (.inr hda) hdt hk (h0.drew.era n hr) (Hid.out (Bxs.get (x := .pile old on oc oC) h0.drew.bx n hn)) hob
    (fun vals W _ h1 h3 h4 h2 => hend vals W h1 (h3 hsl) (h4 htl) (all_ofG (fun i hi => h2 i (by omega)) ha hs ht))
end Go.Proofs.Ytneaehimdmachaa.Rule
namespace Go.Proofs.Stk
open Go.RowKit Go.WideShapes Go.Proofs.Mem
set_option linter.unusedVariables false
set_option linter.unusedSimpArgs false
abbrev Pr := Int × Int
def flat (l : List Pr) : List Value := l.flatMap fun p => [.int .u32 p.1, .int .u64 p.2]
theorem flat_nil : flat [] = [] := rfl
theorem flat_cons (p : Pr) (l : List Pr) : flat (p :: l) = .int .u32 p.1 :: .int .u64 p.2 :: flat l := rfl
theorem flat_app (l m : List Pr) : flat (l ++ m) = flat l ++ flat m := by simp [flat]
theorem flat_len : ∀ (l : List Pr), (flat l).length = l.length * 2
  | [] => rfl
  | p :: l => by rw [flat_cons]; simp [flat_len l]; omega
theorem flat_at : ∀ (l : List Pr) (j : Nat), j < l.length → (flat l)[j * 2]? = some (.int .u32 (l.getD j (0, 0)).1) ∧ (flat l)[j * 2 + 1]? = some (.int .u64 (l.getD j (0, 0)).2)
  | [], j, h => by simp at h
  | p :: l, 0, h => by simp [flat_cons]
  | p :: l, j + 1, h => by
    have := flat_at l j (by simpa using h)
    rw [flat_cons, show (j + 1) * 2 = j * 2 + 1 + 1 by omega, show j * 2 + 1 + 1 + 1 = (j * 2 + 1) + 1 + 1 by omega]
    simpa using this
theorem flat_set : ∀ (l : List Pr) (j : Nat) (x : Int), j < l.length → (flat l).set (j * 2 + 1) (.int .u64 x) = flat (l.set j ((l.getD j (0, 0)).1, x))
  | [], j, x, h => by simp at h
  | p :: l, 0, x, h => by simp [flat_cons]
  | p :: l, j + 1, x, h => by
    have := flat_set l j x (by simpa using h)
    rw [flat_cons, show (j + 1) * 2 + 1 = (j * 2 + 1) + 1 + 1 by omega]
    simp [flat_cons, this]
def KR (w : World) (B : Nat) (v : Value) (l : List Pr) : Prop :=
  ∃ A c, v = .slice A l.length c ∧ l.length ≤ c ∧ c ≤ maxLen ∧ ∀ i u, (flat l)[i]? = some u → ∃ b off, A = some ⟨b, off, none⟩ ∧ b < B ∧ w.cell? ⟨b, off + i, none⟩ = some u
section
variable {w w' : World} {B B' : Nat} {v : Value} {l : List Pr}
theorem KR.form (h : KR w B v l) : ∃ A c, v = .slice A l.length c ∧ l.length ≤ c ∧ c ≤ maxLen := by
  obtain ⟨A, c, h1, h2, h3, _⟩ := h
  exact ⟨A, c, h1, h2, h3⟩
theorem KR.nil (w : World) (B : Nat) : KR w B (.slice none 0 0) [] := ⟨none, 0, rfl, Nat.le_refl _, Nat.zero_le _, fun i u h => by rw [flat_nil] at h; cases h⟩
theorem KR.keep (h : KR w B v l) (hk : ∀ p : Addr, p.block < B → w'.cell? p = w.cell? p) : KR w' B v l := by
  obtain ⟨A, c, h1, h2, h3, h5⟩ := h
  refine ⟨A, c, h1, h2, h3, fun i u hi => ?_⟩
  obtain ⟨b, off, e, hb, hc⟩ := h5 i u hi
  exact ⟨b, off, e, hb, (hk _ hb).trans hc⟩
theorem KR.more (h : KR w B v l) (hB : B ≤ B') : KR w B' v l := by
  obtain ⟨A, c, h1, h2, h3, h5⟩ := h
  refine ⟨A, c, h1, h2, h3, fun i u hi => ?_⟩
  obtain ⟨b, off, e, hb, hc⟩ := h5 i u hi
  exact ⟨b, off, e, by omega, hc⟩
theorem KR.below (h : KR w B v l) (hb : Below B w w') : KR w' B v l := h.keep fun _ hp => hb.cell hp
theorem KR.index {A : Option Addr} {c n : Nat} (h : KR w B (.slice A n c) l) (j : Nat) (hj : j < n) :
    ∃ b off, A = some ⟨b, off, none⟩ ∧ b < B ∧ w.cell? ⟨b, off + j * 2, none⟩ = some (.int .u32 (l.getD j (0, 0)).1) ∧ w.cell? ⟨b, off + j * 2 + 1, none⟩ = some (.int .u64 (l.getD j (0, 0)).2) := by
  obtain ⟨A', c', e, _, _, h5⟩ := h
  injection e with e1 e2 e3
  subst e1; subst e2
  obtain ⟨f1, f2⟩ := flat_at l j hj
  obtain ⟨b, off, e, hb, hc⟩ := h5 _ _ f1
  obtain ⟨b2, off2, e2, _, hc2⟩ := h5 _ _ f2
  rw [e] at e2; injection e2 with e2; injection e2 with e3 e4; subst e3; subst e4
  exact ⟨b, off, e, hb, hc, hc2⟩
theorem KR.of_own {base : Nat} {e : TypeId} {n : Nat} (h : w.ownsRow base e 2 v n (flat l)) (hn : l.length = n) : KR w w.heap.size v l := by
  rcases h.2 with ⟨rfl, h2⟩ | ⟨g, cap, cur, rfl, hg, hh, hnc, hm, _, _⟩
  · have : l = [] := List.eq_nil_of_length_eq_zero (hn.trans h2)
    subst this
    exact KR.nil _ _
  · subst hn
    refine ⟨some ⟨g, 0, none⟩, cap, rfl, by omega, hm, fun i u hu => ?_⟩
    have hlt := (h.lt g rfl).2
    have := h.cells (g := g) rfl i _ hu
    rw [show (⟨g, 0, none⟩ : Addr).add i = ⟨g, 0 + i, none⟩ from by rw [Go.WideShapes.add_plain]] at this
    exact ⟨g, 0, rfl, hlt, this⟩
end
def KF (w : World) (lo : Nat) (v : Value) (l : List Pr) : Prop := KR w w.heap.size v l ∧ ∀ A n c, v = .slice A n c → l ≠ [] → ∃ b off, A = some ⟨b, off, none⟩ ∧ lo ≤ b
section
variable {w w' : World} {lo : Nat} {v : Value} {l : List Pr}
theorem KF.nil (w : World) (lo : Nat) : KF w lo (.slice none 0 0) [] := ⟨KR.nil _ _, fun _ _ _ _ h => absurd rfl h⟩
theorem KF.below (h : KF w lo v l) (hb : Below w.heap.size w w') : KF w' lo v l := ⟨(h.1.below hb).more hb.size, h.2⟩
theorem KF.setCell (h : KF w lo v l) {p : Addr} (hp : p.block < lo) (u : Value) : KF (w.setCell p u) lo v l := by
  refine ⟨?_, h.2⟩
  obtain ⟨A, c, h1, h2, h3, h5⟩ := h.1
  refine ⟨A, c, h1, h2, h3, fun i x hi => ?_⟩
  obtain ⟨b, off, e, hb, hc⟩ := h5 i x hi
  refine ⟨b, off, e, by simpa [World.setCell] using hb, ?_⟩
  obtain ⟨b2, off2, e2, hlo⟩ := h.2 A _ c h1 (by rintro rfl; simp [flat_nil] at hi)
  rw [e] at e2; injection e2 with e2; injection e2 with e3 e4; subst e3
  rw [World.cell?_setCell_other _ _ _ _ (by intro e; rw [e] at hp; simp at hp; omega)]
  exact hc
theorem KF.of_own {base : Nat} {e : TypeId} {n : Nat} (h : w.ownsRow base e 2 v n (flat l)) (hn : l.length = n) : KF w base v l := by
  refine ⟨KR.of_own h hn, fun A k c e2 hl => ?_⟩
  rcases h.2 with ⟨rfl, h2⟩ | ⟨g, cap, cur, rfl, hg, _⟩
  · exact absurd (List.eq_nil_of_length_eq_zero (hn.trans h2)) hl
  · injection e2 with e2 e3 e4
    exact ⟨g, 0, e2.symm, (h.lt g rfl).1⟩
end
def KO (w : World) (g : Nat) (t : TypeId) (l : List Pr) : Prop := w.heap[g]? = some (.cells (flat l).toArray t (0, 0))
section
variable {w w' : World} {g : Nat} {t : TypeId} {l : List Pr}
theorem KO.lt (h : KO w g t l) : g < w.heap.size := by
  rcases Nat.lt_or_ge g w.heap.size with hlt | hge
  · exact hlt
  · unfold KO at h; rw [Array.getElem?_eq_none hge] at h; cases h
theorem KO.cell (h : KO w g t l) (i : Nat) : w.cell? ⟨g, i, none⟩ = (flat l)[i]? := by
  unfold KO at h; simp [World.cell?, h]
theorem KO.frozen (h : KO w g t l) (i : Nat) : w.frozen? ⟨g, i, none⟩ = false := by
  unfold KO at h; simp [World.frozen?, h]
theorem KO.reads (h : KO w g t l) (hl : l.length ≤ 1000) : KR w w.heap.size (.slice (some ⟨g, 0, none⟩) l.length l.length) l :=
  ⟨_, _, rfl, Nat.le_refl _, by unfold maxLen; omega, fun i u hu => ⟨g, 0, rfl, h.lt, by rw [Nat.zero_add, h.cell]; exact hu⟩⟩
theorem KO.set_ (h : KO w g t l) (j : Nat) (x : Int) (hj : j < l.length) : KO (w.setCell ⟨g, j * 2 + 1, none⟩ (.int .u64 x)) g t (l.set j ((l.getD j (0, 0)).1, x)) := by
  unfold KO at h ⊢
  rw [← flat_set l j x hj]
  simp [World.setCell, Array.getElem?_modify, h]
theorem KO.far (h : KO w g t l) {p : Addr} (hp : g ≠ p.block) (u : Value) : KO (w.setCell p u) g t l := (Below.heap_setCell w p u g hp).trans h
theorem KO.alloc (h : KO w g t l) (o : Obj) : KO (w.alloc o) g t l := (Below.heap_alloc w o g h.lt).trans h
theorem KO.below {B : Nat} (h : KO w g t l) (hb : Below B w w') (hg : g < B) : KO w' g t l := (hb.block g hg).trans h
end
def lineS (id : Int) : List Pr × List Pr :=
  if id = 1 then ([(1, 2)], [(2, 1)]) else if id = 2 then ([(2, 1), (3, 1)], [(4, 1)]) else if id = 3 then ([(4, 1)], [(2, 1), (5, 3)]) else
  if id = 4 then ([(5, 10)], [(6, 1), (5, 1)]) else if id = 5 then ([(6, 1), (4, 2), (1, 5)], [(7, 1)]) else if id = 6 then ([(7, 1)], [(6, 1), (1, 4)]) else ([], [])
def isS (id : Int) : Bool := decide (1 ≤ id ∧ id ≤ 6)
def times (n : Int) (l : List Pr) : List Pr := l.map fun p => (p.1, p.2 * n)
def cnt (item : Int) : List Pr → Int
  | [] => 0
  | p :: l => if p.1 = item then p.2 else cnt item l
theorem times_len (n : Int) (l : List Pr) : (times n l).length = l.length := by simp [times]
theorem cnt_times (item n : Int) : ∀ l, cnt item (times n l) = cnt item l * n
  | [] => by simp [times, cnt]
  | p :: l => by
    show (if p.1 = item then p.2 * n else cnt item (times n l)) = _
    rw [cnt_times item n l]
    show _ = (if p.1 = item then p.2 else cnt item l) * n
    split <;> rfl
theorem six {id : Int} {Q : Prop} (h1 : id = 1 → Q) (h2 : id = 2 → Q) (h3 : id = 3 → Q) (h4 : id = 4 → Q) (h5 : id = 5 → Q) (h6 : id = 6 → Q) (h0 : isS id = false → Q) : Q := by
  by_cases a1 : id = 1
  · exact h1 a1
  by_cases a2 : id = 2
  · exact h2 a2
  by_cases a3 : id = 3
  · exact h3 a3
  by_cases a4 : id = 4
  · exact h4 a4
  by_cases a5 : id = 5
  · exact h5 a5
  by_cases a6 : id = 6
  · exact h6 a6
  exact h0 (by unfold isS; simp; omega)
theorem lineS_none {id : Int} (h : isS id = false) : lineS id = ([], []) := by
  unfold isS at h; simp at h
  unfold lineS
  rw [if_neg (by omega), if_neg (by omega), if_neg (by omega), if_neg (by omega), if_neg (by omega), if_neg (by omega)]
def small (l : List Pr) : Prop := l.length ≤ 3 ∧ ∀ p ∈ l, 0 ≤ p.1 ∧ p.1 ≤ 7 ∧ 1 ≤ p.2 ∧ p.2 ≤ 10
theorem lineS_small (id : Int) : small (lineS id).1 ∧ small (lineS id).2 := by
  refine six (id := id) ?_ ?_ ?_ ?_ ?_ ?_ ?_
  all_goals intro h
  all_goals first
    | (subst h; constructor <;> (constructor <;> simp [lineS]))
    | (rw [lineS_none h]; constructor <;> (constructor <;> simp))
end Go.Proofs.Stk
