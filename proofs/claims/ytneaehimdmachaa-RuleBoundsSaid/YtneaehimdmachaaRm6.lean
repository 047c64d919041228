import Derived.Test.YtneaehimdmachaaRm0
import Derived.Test.YtneaehimdmachaaRm1
import Derived.Test.YtneaehimdmachaaRm2
import Derived.Test.YtneaehimdmachaaRm3
import Derived.Test.YtneaehimdmachaaRm4
import Derived.Test.YtneaehimdmachaaRm5
import Derived.BigQuiet
import Derived.BigRegion
import Derived.Deep.AppendLies
import Derived.Deep.Cut
import Derived.Deep.DrawnRows
import Derived.Deep.QuietTactic
import Derived.Lib.AppendZerosOnto
import Derived.LoopN
namespace Go.Proofs.Ytneaehimdmachaa.Rule
open Go.ChangeShapes Go.WideShapes Go.ChangeAt Go.RowKit Go.IntWalk Go.Proofs.Mem Go.Proofs.Each
set_option linter.unusedVariables false
set_option linter.unusedSimpArgs false
set_option maxRecDepth 100000 in
set_option maxHeartbeats 8000000 in
theorem agree_second_put (w : World) (g : Nat) (q : Ot) (v : Value) (base i : Nat) (p : Value) (l : List Pu) (seen : List Ce) (hst : St w g q v base i p l) (hs : SeenAt w g v seen) (hg : g < base) (hbase : base ≤ w.heap.size) (hl : l.length ≤ 700) (hi : i ≤ 700000) (hq : q.Ok) (hok : ∀ c ∈ seen, c.Ok) (hc : ∀ c, seen[i]? = some c → q.wh ≠ hi32 c.A ∧ q.wh = lo32 c.A) (hd : ∀ c, seen[i]? = some c → c.B ≠ 1 ∧ c.B ≠ 3) :
    Calls Try.prog 45 #[.pointer (some ⟨g, 0, none⟩)] w (Did w g q v base i p l seen (oAgree q) Rp.enc) := by
  have BEG := Lib.hid (Begin.mk hs hg hbase hq hok (fun x hx => hst.own.lt x hx))
  obtain ⟨W0, hW0⟩ : ∃ W0, w.alloc (.cells #[.int .u16 0, .int .u64 0, .int .u64 0, .int .u64 0] 41) = W0 := ⟨_, rfl⟩
  have SS : Hid (ST w g q v base p i p l [.box w.heap.size #[.int .u16 0, .int .u64 0, .int .u64 0, .int .u64 0] 41] W0) := Lib.hid (by rw [← hW0]; exact ST.start hst BEG.out _ _)
  have HI := Lib.hid hi
  have HQ := Lib.hid hq
  have HOK := Lib.hid hok
  have HL := Lib.hid hl
  have HC := Lib.hid hc
  have HD := Lib.hid hd
  obtain ⟨ce0, hce0⟩ := the_cell seen (i)
  have CE0 := Lib.hid hce0
  clear hst hs hg hbase hl hi hq hok hc hd hce0
  go_enter Try.func45, Try.ntmps45
  go_upto_region 1 with fail
  try rw [hW0]
  clear hW0
  refine wp_SK (D := DP w g q v base i p l seen (oAgree q) Rp.enc) 9 10 11 (seen[i]? = some ce0 ∧ ce0.is = true) (i + 1) #[.int .u64 ce0.A, .int .u64 ce0.B, .int .u8 4, .int .u32 q.id, .int .u32 0, .bool true] [pw g 0, pw g 0, pw g 7, pw g 0, pw g 0, pw g 0, pw g 4, some (.int .u32 q.id, True), some (.agg #[.int .u8 4, .int .u32 q.id, .int .u32 0], True), some (.agg (thing ce0.A ce0.B 4 q.id 0 true), True), none, none] SS.out (fun vals => ?_) (fun vals W1 hB hfin hall => ?_) (ea 10 rfl)
  · simp only [ObD, Act.put, qA, qC, qZ]
    refine ⟨?_, ?_, ?_, ?_, ?_, ?_, ?_, ?_, ?o0_8, ?o0_9, ?o0_10, ?o0_11, trivial⟩
    all_goals (intro L W hL hk hC hw; have f := deps hw rfl rfl; simp only [depF, vsP, pw, qS, qD, and_true, true_and] at f)
    case o0_8 => have CL := Lib.hid (trade_any q.id W); clear hL hC hk hw; refine spD rfl ?_; go_simp; (with_reducible refine CL.out.mono ?_); rintro e w8 ⟨rfl, h2⟩; first | exact sq h2 rfl ⟨rfl, trivial⟩ | exact ⟨_, rfl, sq h2 rfl ⟨rfl, trivial⟩⟩
    case o0_9 =>
      have CL := Lib.hid (there_K SS.out (hC.pre hk) BEG.out (by have := HI.out; omega) CE0.out 4 q.id 0); clear hL hC hk hw; refine spD rfl ?_; go_simp; (with_reducible refine CL.out.mono ?_); rintro e w8 (⟨h, rfl, h2⟩ | ⟨h, h3, rfl, h2⟩ | ⟨rfl, hf, H⟩)
      · exact ⟨_, rfl, Did.miss (by unfold oAgree; simp only [runOm_bind, run_there_no h]) h2⟩
      · exact ⟨_, rfl, Did.err (by unfold oAgree; simp only [runOm_bind, run_there_not h h3]) h2⟩
      · first | exact kv hf H rfl ⟨rfl, trivial⟩ | exact ⟨_, rfl, kv hf H rfl ⟨rfl, trivial⟩⟩
    case o0_10 => have ZZ := hC.fr.size; clear hL hC hk hw; refine spD rfl ?_; go_simp; exact am ZZ
    case o0_11 => obtain ⟨gt, C, fa, hgt, bx0, hc⟩ := Fw.geta (hw ⟨10, .data⟩ (by simp) rfl) (by decide); obtain ⟨c0, c1, c2, c3, c4, c5, rfl⟩ := arr6 hc; have q := six_cells bx0; have BXX := Lib.hid bx0; have FA := Lib.hid fa; clear bx0 hc; unfold thing at f; clear hL hC hk hw; refine spD rfl ?_; go_simp; exact sm SS.out BEG.out BXX.out hgt FA.out
    all_goals (have c := kn7 hC; clear hL hC hk hw; refine spD rfl ?_; go_simp; first | exact sv rfl ⟨rfl, trivial⟩ | exact ⟨_, rfl, sv rfl ⟨rfl, trivial⟩⟩)
  have S0 := Lib.hid hB.1
  simp only [allF, vsP, pw, true_and, and_true, Nat.reduceAdd] at hall
  obtain ⟨gt0, fa, hgt, bx⟩ := hfin
  simp only [TL, Act.put, qA, qC, qZ, hall, fa]
  replace SS := Lib.hid (SS.out.push BEG.out hB.st SS.out.lt hgt bx)
  clear hall vals hB fa hgt bx
  obtain ⟨⟨y0, y1, y2, y3, y4, y5⟩, -⟩ := six_cells SS.out.bx.1.out
  have CALL := Lib.hid (side_second W1 g q v (i + 1 : Nat) p SS.out.run.out.st.wb ce0.A ce0.B 4 q.id 0 true (A_ok HOK.out S0.out.1) ((HC.out ce0 S0.out.1).1) (HC.out ce0 S0.out.1).2)
  unfold thing at CALL
  go_wp2_with fail
  (with_reducible refine CALL.out.mono ?_)
  rintro e W2 ⟨rfl, hbl⟩
  clear CALL y0 y1 y2 y3 y4 y5
  replace SS := Lib.hid (SS.out.later hbl)
  clear hbl
  have d1 : (ce0.B == 1) = false := by simpa using (HD.out ce0 S0.out.1).1
  have d2 : (ce0.B == 3) = false := by simpa using (HD.out ce0 S0.out.1).2
  have d3 : (ce0.B != 1) = true := by simpa using (HD.out ce0 S0.out.1).1
  have d4 : (ce0.B != 3) = true := by simpa using (HD.out ce0 S0.out.1).2
  obtain ⟨⟨y0, y1, y2, y3, y4, y5⟩, -⟩ := six_cells SS.out.bx.1.out
  obtain ⟨⟨y0, y1, y2, y3, y4, y5⟩, -⟩ := six_cells SS.out.bx.1.out
  have CALL := Lib.hid (put_S SS.out BEG.out (by have := HL.out; (try simp only [List.length_append, List.length_cons, List.length_nil]); omega) 4 q.id 0 ce0.A 2 (show _ = l ++ [Pu.mk 4 q.id 0 ce0.A 2 false] by simp))
  go_wp2_with fail
  (with_reducible refine CALL.out.mono ?_)
  rintro e W3 ⟨rfl, hf, p3, hs⟩
  replace SS := Lib.hid hs
  clear CALL hf hs y0 y1 y2 y3 y4 y5
  obtain ⟨⟨z0, z1, z2, z3⟩, x0, x1, x2, x3⟩ := four_cells SS.out.bx.2.1.out
  go_wp2
  generalize hW : (World.setCell _ (⟨w.heap.size, 3, none⟩ : Addr) _) = WZ
  have b9 : Box WZ w.heap.size #[.int .u16 0, .int .u64 0, .int .u64 0, .int .u64 0] 41 := by
    rw [← hW]
    exact four_box SS.out.bx.2.1.out
  have F9 : Hid (Fr (fun x => x = w.heap.size) W3 WZ) := Lib.hid (by
    rw [← hW]
    exact four_fr)
  obtain ⟨⟨v0, v1, v2, v3⟩, -⟩ := four_cells b9
  clear hW b9 z0 z1 z2 z3 x0 x1 x2 x3
  refine bodyPost_ret (v := .agg #[.int .u16 0, .int .u64 0, .int .u64 0, .int .u64 0]) (by simp [results, Try.results45, go_sem, v0, v1, v2, v3]; try rfl) rfl ?_
  refine (SS.out.wr BEG.out 1 rfl F9.out).did (y := (⟨0, 0, 0⟩, l ++ [Pu.mk 4 q.id 0 ce0.A 2 false])) ?_ rfl
  unfold oAgree
  simp only [runOm_bind, runOm_pure, run_there S0.out.1 S0.out.2, oSide, if_neg (HC.out ce0 S0.out.1).1, if_pos (HC.out ce0 S0.out.1).2, runOm_pure, if_pos (show ce0.B ≠ 2 - 1 ∧ ce0.B ≠ 3 from ⟨by have := (HD.out ce0 S0.out.1).1; omega, (HD.out ce0 S0.out.1).2⟩), run_put]
  try rfl
set_option maxRecDepth 100000 in
set_option maxHeartbeats 8000000 in
theorem agree_second_other (w : World) (g : Nat) (q : Ot) (v : Value) (base i : Nat) (p : Value) (l : List Pu) (seen : List Ce) (hst : St w g q v base i p l) (hs : SeenAt w g v seen) (hg : g < base) (hbase : base ≤ w.heap.size) (hl : l.length ≤ 700) (hi : i ≤ 700000) (hq : q.Ok) (hok : ∀ c ∈ seen, c.Ok) (hc : ∀ c, seen[i]? = some c → q.wh ≠ hi32 c.A ∧ q.wh = lo32 c.A) (hd : ∀ c, seen[i]? = some c → c.B = 1) :
    Calls Try.prog 45 #[.pointer (some ⟨g, 0, none⟩)] w (Did w g q v base i p l seen (oAgree q) Rp.enc) := by
  have BEG := Lib.hid (Begin.mk hs hg hbase hq hok (fun x hx => hst.own.lt x hx))
  obtain ⟨W0, hW0⟩ : ∃ W0, w.alloc (.cells #[.int .u16 0, .int .u64 0, .int .u64 0, .int .u64 0] 41) = W0 := ⟨_, rfl⟩
  have SS : Hid (ST w g q v base p i p l [.box w.heap.size #[.int .u16 0, .int .u64 0, .int .u64 0, .int .u64 0] 41] W0) := Lib.hid (by rw [← hW0]; exact ST.start hst BEG.out _ _)
  have HI := Lib.hid hi
  have HQ := Lib.hid hq
  have HOK := Lib.hid hok
  have HL := Lib.hid hl
  have HC := Lib.hid hc
  have HD := Lib.hid hd
  obtain ⟨ce0, hce0⟩ := the_cell seen (i)
  have CE0 := Lib.hid hce0
  clear hst hs hg hbase hl hi hq hok hc hd hce0
  go_enter Try.func45, Try.ntmps45
  go_upto_region 1 with fail
  try rw [hW0]
  clear hW0
  refine wp_SK (D := DP w g q v base i p l seen (oAgree q) Rp.enc) 9 10 11 (seen[i]? = some ce0 ∧ ce0.is = true) (i + 1) #[.int .u64 ce0.A, .int .u64 ce0.B, .int .u8 4, .int .u32 q.id, .int .u32 0, .bool true] [pw g 0, pw g 0, pw g 7, pw g 0, pw g 0, pw g 0, pw g 4, some (.int .u32 q.id, True), some (.agg #[.int .u8 4, .int .u32 q.id, .int .u32 0], True), some (.agg (thing ce0.A ce0.B 4 q.id 0 true), True), none, none] SS.out (fun vals => ?_) (fun vals W1 hB hfin hall => ?_) (ea 10 rfl)
  · simp only [ObD, Act.put, qA, qC, qZ]
    refine ⟨?_, ?_, ?_, ?_, ?_, ?_, ?_, ?_, ?o0_8, ?o0_9, ?o0_10, ?o0_11, trivial⟩
    all_goals (intro L W hL hk hC hw; have f := deps hw rfl rfl; simp only [depF, vsP, pw, qS, qD, and_true, true_and] at f)
    case o0_8 => have CL := Lib.hid (trade_any q.id W); clear hL hC hk hw; refine spD rfl ?_; go_simp; (with_reducible refine CL.out.mono ?_); rintro e w8 ⟨rfl, h2⟩; first | exact sq h2 rfl ⟨rfl, trivial⟩ | exact ⟨_, rfl, sq h2 rfl ⟨rfl, trivial⟩⟩
    case o0_9 =>
      have CL := Lib.hid (there_K SS.out (hC.pre hk) BEG.out (by have := HI.out; omega) CE0.out 4 q.id 0); clear hL hC hk hw; refine spD rfl ?_; go_simp; (with_reducible refine CL.out.mono ?_); rintro e w8 (⟨h, rfl, h2⟩ | ⟨h, h3, rfl, h2⟩ | ⟨rfl, hf, H⟩)
      · exact ⟨_, rfl, Did.miss (by unfold oAgree; simp only [runOm_bind, run_there_no h]) h2⟩
      · exact ⟨_, rfl, Did.err (by unfold oAgree; simp only [runOm_bind, run_there_not h h3]) h2⟩
      · first | exact kv hf H rfl ⟨rfl, trivial⟩ | exact ⟨_, rfl, kv hf H rfl ⟨rfl, trivial⟩⟩
    case o0_10 => have ZZ := hC.fr.size; clear hL hC hk hw; refine spD rfl ?_; go_simp; exact am ZZ
    case o0_11 => obtain ⟨gt, C, fa, hgt, bx0, hc⟩ := Fw.geta (hw ⟨10, .data⟩ (by simp) rfl) (by decide); obtain ⟨c0, c1, c2, c3, c4, c5, rfl⟩ := arr6 hc; have q := six_cells bx0; have BXX := Lib.hid bx0; have FA := Lib.hid fa; clear bx0 hc; unfold thing at f; clear hL hC hk hw; refine spD rfl ?_; go_simp; exact sm SS.out BEG.out BXX.out hgt FA.out
    all_goals (have c := kn7 hC; clear hL hC hk hw; refine spD rfl ?_; go_simp; first | exact sv rfl ⟨rfl, trivial⟩ | exact ⟨_, rfl, sv rfl ⟨rfl, trivial⟩⟩)
  have S0 := Lib.hid hB.1
  simp only [allF, vsP, pw, true_and, and_true, Nat.reduceAdd] at hall
  obtain ⟨gt0, fa, hgt, bx⟩ := hfin
  simp only [TL, Act.put, qA, qC, qZ, hall, fa]
  replace SS := Lib.hid (SS.out.push BEG.out hB.st SS.out.lt hgt bx)
  clear hall vals hB fa hgt bx
  obtain ⟨⟨y0, y1, y2, y3, y4, y5⟩, -⟩ := six_cells SS.out.bx.1.out
  have CALL := Lib.hid (side_second W1 g q v (i + 1 : Nat) p SS.out.run.out.st.wb ce0.A ce0.B 4 q.id 0 true (A_ok HOK.out S0.out.1) ((HC.out ce0 S0.out.1).1) (HC.out ce0 S0.out.1).2)
  unfold thing at CALL
  go_wp2_with fail
  (with_reducible refine CALL.out.mono ?_)
  rintro e W2 ⟨rfl, hbl⟩
  clear CALL y0 y1 y2 y3 y4 y5
  replace SS := Lib.hid (SS.out.later hbl)
  clear hbl
  have d1 : (ce0.B == 1) = true := by simpa using HD.out ce0 S0.out.1
  have d3 : (ce0.B != 1) = false := by simpa using HD.out ce0 S0.out.1
  have y0 : W2.cell? ⟨gt0, 1, none⟩ = some (.int .u64 ce0.B) := SS.out.bx.1.out.cell 1
  have y0 : W2.cell? ⟨gt0, 0, none⟩ = some (.int .u64 ce0.A) := SS.out.bx.1.out.cell 0
  go_wp2_with fail
  (with_reducible refine (unpair_any ce0.A (A_ok HOK.out S0.out.1) _).mono ?_)
  rintro e W3 ⟨rfl, hbl⟩
  clear y0
  replace SS := Lib.hid (SS.out.later hbl)
  clear hbl
  have CALL := Lib.hid (settle_run SS.out.run.out BEG.out (by have := HI.out; omega) (by have := HL.out; (try simp only [List.length_append, List.length_cons, List.length_nil]); omega) (lo32 ce0.A) (hi32 ce0.A))
  go_wp2_with fail
  (with_reducible refine CALL.out.mono ?_)
  rintro e WS (⟨k, a, b, h1, rfl, h2⟩ | ⟨m, h1, rfl, h2⟩ | ⟨y, j, pS, h1, rfl, hr, hf⟩)
  · exact ⟨rfl, Did.miss (by unfold oAgree; simp only [runOm_bind, run_there S0.out.1 S0.out.2, oSide, if_neg (HC.out ce0 S0.out.1).1, if_pos (HC.out ce0 S0.out.1).2, runOm_pure, if_neg (show ¬ (ce0.B ≠ 2 - 1 ∧ ce0.B ≠ 3) by have := HD.out ce0 S0.out.1; omega), h1]) h2⟩
  · exact ⟨rfl, Did.err (by unfold oAgree; simp only [runOm_bind, run_there S0.out.1 S0.out.2, oSide, if_neg (HC.out ce0 S0.out.1).1, if_pos (HC.out ce0 S0.out.1).2, runOm_pure, if_neg (show ¬ (ce0.B ≠ 2 - 1 ∧ ce0.B ≠ 3) by have := HD.out ce0 S0.out.1; omega), h1]) h2⟩
  have DOK := Lib.hid (show runOm seen (oAgree q) i l = .ok y j by unfold oAgree; simp only [runOm_bind, run_there S0.out.1 S0.out.2, oSide, if_neg (HC.out ce0 S0.out.1).1, if_pos (HC.out ce0 S0.out.1).2, runOm_pure, if_neg (show ¬ (ce0.B ≠ 2 - 1 ∧ ce0.B ≠ 3) by have := HD.out ce0 S0.out.1; omega), h1])
  replace SS := Lib.hid (SS.out.keep hr hf SS.out.put_far)
  clear hr hf h1 CALL
  obtain ⟨⟨z0, z1, z2, z3⟩, x0, x1, x2, x3⟩ := four_cells SS.out.bx.2.1.out
  go_wp2
  generalize hW : (World.setCell _ (⟨w.heap.size, 3, none⟩ : Addr) _) = WZ
  have b9 : Box WZ w.heap.size #[.int .u16 0, .int .u64 y.1.A, .int .u64 y.1.B, .int .u64 y.1.C] 41 := by
    rw [← hW]
    exact four_box SS.out.bx.2.1.out
  have F9 : Hid (Fr (fun x => x = w.heap.size) WS WZ) := Lib.hid (by
    rw [← hW]
    exact four_fr)
  obtain ⟨⟨v0, v1, v2, v3⟩, -⟩ := four_cells b9
  clear hW b9 z0 z1 z2 z3 x0 x1 x2 x3
  refine bodyPost_ret (v := .agg #[.int .u16 0, .int .u64 y.1.A, .int .u64 y.1.B, .int .u64 y.1.C]) (by simp [results, Try.results45, go_sem, v0, v1, v2, v3]; try rfl) rfl ?_
  exact (SS.out.wr BEG.out 1 rfl F9.out).did (y := y) DOK.out rfl
set_option maxRecDepth 100000 in
set_option maxHeartbeats 8000000 in
theorem agree_second_both (w : World) (g : Nat) (q : Ot) (v : Value) (base i : Nat) (p : Value) (l : List Pu) (seen : List Ce) (hst : St w g q v base i p l) (hs : SeenAt w g v seen) (hg : g < base) (hbase : base ≤ w.heap.size) (hl : l.length ≤ 700) (hi : i ≤ 700000) (hq : q.Ok) (hok : ∀ c ∈ seen, c.Ok) (hc : ∀ c, seen[i]? = some c → q.wh ≠ hi32 c.A ∧ q.wh = lo32 c.A) (hd : ∀ c, seen[i]? = some c → c.B ≠ 1 ∧ c.B = 3) :
    Calls Try.prog 45 #[.pointer (some ⟨g, 0, none⟩)] w (Did w g q v base i p l seen (oAgree q) Rp.enc) := by
  have BEG := Lib.hid (Begin.mk hs hg hbase hq hok (fun x hx => hst.own.lt x hx))
  obtain ⟨W0, hW0⟩ : ∃ W0, w.alloc (.cells #[.int .u16 0, .int .u64 0, .int .u64 0, .int .u64 0] 41) = W0 := ⟨_, rfl⟩
  have SS : Hid (ST w g q v base p i p l [.box w.heap.size #[.int .u16 0, .int .u64 0, .int .u64 0, .int .u64 0] 41] W0) := Lib.hid (by rw [← hW0]; exact ST.start hst BEG.out _ _)
  have HI := Lib.hid hi
  have HQ := Lib.hid hq
  have HOK := Lib.hid hok
  have HL := Lib.hid hl
  have HC := Lib.hid hc
  have HD := Lib.hid hd
  obtain ⟨ce0, hce0⟩ := the_cell seen (i)
  have CE0 := Lib.hid hce0
  clear hst hs hg hbase hl hi hq hok hc hd hce0
  go_enter Try.func45, Try.ntmps45
  go_upto_region 1 with fail
  try rw [hW0]
  clear hW0
  refine wp_SK (D := DP w g q v base i p l seen (oAgree q) Rp.enc) 9 10 11 (seen[i]? = some ce0 ∧ ce0.is = true) (i + 1) #[.int .u64 ce0.A, .int .u64 ce0.B, .int .u8 4, .int .u32 q.id, .int .u32 0, .bool true] [pw g 0, pw g 0, pw g 7, pw g 0, pw g 0, pw g 0, pw g 4, some (.int .u32 q.id, True), some (.agg #[.int .u8 4, .int .u32 q.id, .int .u32 0], True), some (.agg (thing ce0.A ce0.B 4 q.id 0 true), True), none, none] SS.out (fun vals => ?_) (fun vals W1 hB hfin hall => ?_) (ea 10 rfl)
  · simp only [ObD, Act.put, qA, qC, qZ]
    refine ⟨?_, ?_, ?_, ?_, ?_, ?_, ?_, ?_, ?o0_8, ?o0_9, ?o0_10, ?o0_11, trivial⟩
    all_goals (intro L W hL hk hC hw; have f := deps hw rfl rfl; simp only [depF, vsP, pw, qS, qD, and_true, true_and] at f)
    case o0_8 => have CL := Lib.hid (trade_any q.id W); clear hL hC hk hw; refine spD rfl ?_; go_simp; (with_reducible refine CL.out.mono ?_); rintro e w8 ⟨rfl, h2⟩; first | exact sq h2 rfl ⟨rfl, trivial⟩ | exact ⟨_, rfl, sq h2 rfl ⟨rfl, trivial⟩⟩
    case o0_9 =>
      have CL := Lib.hid (there_K SS.out (hC.pre hk) BEG.out (by have := HI.out; omega) CE0.out 4 q.id 0); clear hL hC hk hw; refine spD rfl ?_; go_simp; (with_reducible refine CL.out.mono ?_); rintro e w8 (⟨h, rfl, h2⟩ | ⟨h, h3, rfl, h2⟩ | ⟨rfl, hf, H⟩)
      · exact ⟨_, rfl, Did.miss (by unfold oAgree; simp only [runOm_bind, run_there_no h]) h2⟩
      · exact ⟨_, rfl, Did.err (by unfold oAgree; simp only [runOm_bind, run_there_not h h3]) h2⟩
      · first | exact kv hf H rfl ⟨rfl, trivial⟩ | exact ⟨_, rfl, kv hf H rfl ⟨rfl, trivial⟩⟩
    case o0_10 => have ZZ := hC.fr.size; clear hL hC hk hw; refine spD rfl ?_; go_simp; exact am ZZ
    case o0_11 => obtain ⟨gt, C, fa, hgt, bx0, hc⟩ := Fw.geta (hw ⟨10, .data⟩ (by simp) rfl) (by decide); obtain ⟨c0, c1, c2, c3, c4, c5, rfl⟩ := arr6 hc; have q := six_cells bx0; have BXX := Lib.hid bx0; have FA := Lib.hid fa; clear bx0 hc; unfold thing at f; clear hL hC hk hw; refine spD rfl ?_; go_simp; exact sm SS.out BEG.out BXX.out hgt FA.out
    all_goals (have c := kn7 hC; clear hL hC hk hw; refine spD rfl ?_; go_simp; first | exact sv rfl ⟨rfl, trivial⟩ | exact ⟨_, rfl, sv rfl ⟨rfl, trivial⟩⟩)
  have S0 := Lib.hid hB.1
  simp only [allF, vsP, pw, true_and, and_true, Nat.reduceAdd] at hall
  obtain ⟨gt0, fa, hgt, bx⟩ := hfin
  simp only [TL, Act.put, qA, qC, qZ, hall, fa]
  replace SS := Lib.hid (SS.out.push BEG.out hB.st SS.out.lt hgt bx)
  clear hall vals hB fa hgt bx
  obtain ⟨⟨y0, y1, y2, y3, y4, y5⟩, -⟩ := six_cells SS.out.bx.1.out
  have CALL := Lib.hid (side_second W1 g q v (i + 1 : Nat) p SS.out.run.out.st.wb ce0.A ce0.B 4 q.id 0 true (A_ok HOK.out S0.out.1) ((HC.out ce0 S0.out.1).1) (HC.out ce0 S0.out.1).2)
  unfold thing at CALL
  go_wp2_with fail
  (with_reducible refine CALL.out.mono ?_)
  rintro e W2 ⟨rfl, hbl⟩
  clear CALL y0 y1 y2 y3 y4 y5
  replace SS := Lib.hid (SS.out.later hbl)
  clear hbl
  have d1 : (ce0.B == 1) = false := by simpa using (HD.out ce0 S0.out.1).1
  have d2 : (ce0.B == 3) = true := by simpa using (HD.out ce0 S0.out.1).2
  have d3 : (ce0.B != 1) = true := by simpa using (HD.out ce0 S0.out.1).1
  have d4 : (ce0.B != 3) = false := by simpa using (HD.out ce0 S0.out.1).2
  have y0 : W2.cell? ⟨gt0, 1, none⟩ = some (.int .u64 ce0.B) := SS.out.bx.1.out.cell 1
  have y0 : W2.cell? ⟨gt0, 0, none⟩ = some (.int .u64 ce0.A) := SS.out.bx.1.out.cell 0
  go_wp2_with fail
  (with_reducible refine (unpair_any ce0.A (A_ok HOK.out S0.out.1) _).mono ?_)
  rintro e W3 ⟨rfl, hbl⟩
  clear y0
  replace SS := Lib.hid (SS.out.later hbl)
  clear hbl
  have CALL := Lib.hid (settle_run SS.out.run.out BEG.out (by have := HI.out; omega) (by have := HL.out; (try simp only [List.length_append, List.length_cons, List.length_nil]); omega) (lo32 ce0.A) (hi32 ce0.A))
  go_wp2_with fail
  (with_reducible refine CALL.out.mono ?_)
  rintro e WS (⟨k, a, b, h1, rfl, h2⟩ | ⟨m, h1, rfl, h2⟩ | ⟨y, j, pS, h1, rfl, hr, hf⟩)
  · exact ⟨rfl, Did.miss (by unfold oAgree; simp only [runOm_bind, run_there S0.out.1 S0.out.2, oSide, if_neg (HC.out ce0 S0.out.1).1, if_pos (HC.out ce0 S0.out.1).2, runOm_pure, if_neg (show ¬ (ce0.B ≠ 2 - 1 ∧ ce0.B ≠ 3) by have := HD.out ce0 S0.out.1; omega), h1]) h2⟩
  · exact ⟨rfl, Did.err (by unfold oAgree; simp only [runOm_bind, run_there S0.out.1 S0.out.2, oSide, if_neg (HC.out ce0 S0.out.1).1, if_pos (HC.out ce0 S0.out.1).2, runOm_pure, if_neg (show ¬ (ce0.B ≠ 2 - 1 ∧ ce0.B ≠ 3) by have := HD.out ce0 S0.out.1; omega), h1]) h2⟩
  have DOK := Lib.hid (show runOm seen (oAgree q) i l = .ok y j by unfold oAgree; simp only [runOm_bind, run_there S0.out.1 S0.out.2, oSide, if_neg (HC.out ce0 S0.out.1).1, if_pos (HC.out ce0 S0.out.1).2, runOm_pure, if_neg (show ¬ (ce0.B ≠ 2 - 1 ∧ ce0.B ≠ 3) by have := HD.out ce0 S0.out.1; omega), h1])
  replace SS := Lib.hid (SS.out.keep hr hf SS.out.put_far)
  clear hr hf h1 CALL
  obtain ⟨⟨z0, z1, z2, z3⟩, x0, x1, x2, x3⟩ := four_cells SS.out.bx.2.1.out
  go_wp2
  generalize hW : (World.setCell _ (⟨w.heap.size, 3, none⟩ : Addr) _) = WZ
  have b9 : Box WZ w.heap.size #[.int .u16 0, .int .u64 y.1.A, .int .u64 y.1.B, .int .u64 y.1.C] 41 := by
    rw [← hW]
    exact four_box SS.out.bx.2.1.out
  have F9 : Hid (Fr (fun x => x = w.heap.size) WS WZ) := Lib.hid (by
    rw [← hW]
    exact four_fr)
  obtain ⟨⟨v0, v1, v2, v3⟩, -⟩ := four_cells b9
  clear hW b9 z0 z1 z2 z3 x0 x1 x2 x3
  refine bodyPost_ret (v := .agg #[.int .u16 0, .int .u64 y.1.A, .int .u64 y.1.B, .int .u64 y.1.C]) (by simp [results, Try.results45, go_sem, v0, v1, v2, v3]; try rfl) rfl ?_
  exact (SS.out.wr BEG.out 1 rfl F9.out).did (y := y) DOK.out rfl
end Go.Proofs.Ytneaehimdmachaa.Rule
namespace Go.Proofs.Ytneaehimdmachaa.Rule
open Go.ChangeShapes Go.WideShapes Go.ChangeAt Go.RowKit Go.IntWalk Go.Proofs.Mem Go.Proofs.Each
set_option linter.unusedVariables false
set_option linter.unusedSimpArgs false
set_option maxRecDepth 100000 in
set_option maxHeartbeats 8000000 in
theorem agree_none (w : World) (g : Nat) (q : Ot) (v : Value) (base i : Nat) (p : Value) (l : List Pu) (seen : List Ce) (hst : St w g q v base i p l) (hs : SeenAt w g v seen) (hg : g < base) (hbase : base ≤ w.heap.size) (hl : l.length ≤ 700) (hi : i ≤ 700000) (hq : q.Ok) (hok : ∀ c ∈ seen, c.Ok) (hc : ∀ c, seen[i]? = some c → q.wh ≠ hi32 c.A ∧ q.wh ≠ lo32 c.A) :
    Calls Try.prog 45 #[.pointer (some ⟨g, 0, none⟩)] w (Did w g q v base i p l seen (oAgree q) Rp.enc) := by
  have BEG := Lib.hid (Begin.mk hs hg hbase hq hok (fun x hx => hst.own.lt x hx))
  obtain ⟨W0, hW0⟩ : ∃ W0, w.alloc (.cells #[.int .u16 0, .int .u64 0, .int .u64 0, .int .u64 0] 41) = W0 := ⟨_, rfl⟩
  have SS : Hid (ST w g q v base p i p l [.box w.heap.size #[.int .u16 0, .int .u64 0, .int .u64 0, .int .u64 0] 41] W0) := Lib.hid (by rw [← hW0]; exact ST.start hst BEG.out _ _)
  have HI := Lib.hid hi
  have HQ := Lib.hid hq
  have HOK := Lib.hid hok
  have HL := Lib.hid hl
  have HC := Lib.hid hc
  obtain ⟨ce0, hce0⟩ := the_cell seen (i)
  have CE0 := Lib.hid hce0
  clear hst hs hg hbase hl hi hq hok hc hce0
  go_enter Try.func45, Try.ntmps45
  go_upto_region 1 with fail
  try rw [hW0]
  clear hW0
  refine wp_SK (D := DP w g q v base i p l seen (oAgree q) Rp.enc) 9 10 11 (seen[i]? = some ce0 ∧ ce0.is = true) (i + 1) #[.int .u64 ce0.A, .int .u64 ce0.B, .int .u8 4, .int .u32 q.id, .int .u32 0, .bool true] [pw g 0, pw g 0, pw g 7, pw g 0, pw g 0, pw g 0, pw g 4, some (.int .u32 q.id, True), some (.agg #[.int .u8 4, .int .u32 q.id, .int .u32 0], True), some (.agg (thing ce0.A ce0.B 4 q.id 0 true), True), none, none] SS.out (fun vals => ?_) (fun vals W1 hB hfin hall => ?_) (ea 10 rfl)
  · simp only [ObD, Act.put, qA, qC, qZ]
    refine ⟨?_, ?_, ?_, ?_, ?_, ?_, ?_, ?_, ?o0_8, ?o0_9, ?o0_10, ?o0_11, trivial⟩
    all_goals (intro L W hL hk hC hw; have f := deps hw rfl rfl; simp only [depF, vsP, pw, qS, qD, and_true, true_and] at f)
    case o0_8 => have CL := Lib.hid (trade_any q.id W); clear hL hC hk hw; refine spD rfl ?_; go_simp; (with_reducible refine CL.out.mono ?_); rintro e w8 ⟨rfl, h2⟩; first | exact sq h2 rfl ⟨rfl, trivial⟩ | exact ⟨_, rfl, sq h2 rfl ⟨rfl, trivial⟩⟩
    case o0_9 =>
      have CL := Lib.hid (there_K SS.out (hC.pre hk) BEG.out (by have := HI.out; omega) CE0.out 4 q.id 0); clear hL hC hk hw; refine spD rfl ?_; go_simp; (with_reducible refine CL.out.mono ?_); rintro e w8 (⟨h, rfl, h2⟩ | ⟨h, h3, rfl, h2⟩ | ⟨rfl, hf, H⟩)
      · exact ⟨_, rfl, Did.miss (by unfold oAgree; simp only [runOm_bind, run_there_no h]) h2⟩
      · exact ⟨_, rfl, Did.err (by unfold oAgree; simp only [runOm_bind, run_there_not h h3]) h2⟩
      · first | exact kv hf H rfl ⟨rfl, trivial⟩ | exact ⟨_, rfl, kv hf H rfl ⟨rfl, trivial⟩⟩
    case o0_10 => have ZZ := hC.fr.size; clear hL hC hk hw; refine spD rfl ?_; go_simp; exact am ZZ
    case o0_11 => obtain ⟨gt, C, fa, hgt, bx0, hc⟩ := Fw.geta (hw ⟨10, .data⟩ (by simp) rfl) (by decide); obtain ⟨c0, c1, c2, c3, c4, c5, rfl⟩ := arr6 hc; have q := six_cells bx0; have BXX := Lib.hid bx0; have FA := Lib.hid fa; clear bx0 hc; unfold thing at f; clear hL hC hk hw; refine spD rfl ?_; go_simp; exact sm SS.out BEG.out BXX.out hgt FA.out
    all_goals (have c := kn7 hC; clear hL hC hk hw; refine spD rfl ?_; go_simp; first | exact sv rfl ⟨rfl, trivial⟩ | exact ⟨_, rfl, sv rfl ⟨rfl, trivial⟩⟩)
  have S0 := Lib.hid hB.1
  simp only [allF, vsP, pw, true_and, and_true, Nat.reduceAdd] at hall
  obtain ⟨gt0, fa, hgt, bx⟩ := hfin
  simp only [TL, Act.put, qA, qC, qZ, hall, fa]
  replace SS := Lib.hid (SS.out.push BEG.out hB.st SS.out.lt hgt bx)
  clear hall vals hB fa hgt bx
  obtain ⟨⟨y0, y1, y2, y3, y4, y5⟩, -⟩ := six_cells SS.out.bx.1.out
  have CALL := Lib.hid (side_none W1 g q v (i + 1 : Nat) p SS.out.run.out.st.wb ce0.A ce0.B 4 q.id 0 true (A_ok HOK.out S0.out.1) ((HC.out ce0 S0.out.1).1) (HC.out ce0 S0.out.1).2)
  unfold thing at CALL
  go_wp2_with fail
  (with_reducible refine CALL.out.mono ?_)
  rintro e W2 ⟨rfl, hbl⟩
  exact ⟨rfl, Did.err (by unfold oAgree; simp only [runOm_bind, run_there S0.out.1 S0.out.2, oSide, if_neg (HC.out ce0 S0.out.1).1, if_neg (HC.out ce0 S0.out.1).2, run_err_]) (SS.out.run.out.lowB BEG.out hbl)⟩
theorem the_state (seen : List Ce) (i : Nat) (n : Int) : (∀ c, seen[i]? = some c → c.B ≠ n ∧ c.B ≠ 3) ∨ (∀ c, seen[i]? = some c → c.B = n) ∨ (∀ c, seen[i]? = some c → c.B ≠ n ∧ c.B = 3) := by
  obtain ⟨ce, h⟩ := the_cell seen i
  by_cases h1 : ce.B = n
  · exact .inr (.inl fun c hc => by rw [h c hc]; exact h1)
  · by_cases h2 : ce.B = 3
    · exact .inr (.inr fun c hc => by rw [h c hc]; exact ⟨h1, h2⟩)
    · exact .inl fun c hc => by rw [h c hc]; exact ⟨h1, h2⟩
theorem agree_all (w : World) (g : Nat) (q : Ot) (v : Value) (base i : Nat) (p : Value) (l : List Pu) (seen : List Ce) (hst : St w g q v base i p l) (hs : SeenAt w g v seen) (hg : g < base) (hbase : base ≤ w.heap.size) (hl : l.length ≤ 700) (hi : i ≤ 700000) (hq : q.Ok) (hok : ∀ c ∈ seen, c.Ok) :
    Calls Try.prog 45 #[.pointer (some ⟨g, 0, none⟩)] w (Did w g q v base i p l seen (oAgree q) Rp.enc) := by
  rcases the_side seen i q with h | h | h
  · rcases the_state seen i 2 with k | k | k
    · exact agree_first_put w g q v base i p l seen hst hs hg hbase hl hi hq hok h k
    · exact agree_first_other w g q v base i p l seen hst hs hg hbase hl hi hq hok h k
    · exact agree_first_both w g q v base i p l seen hst hs hg hbase hl hi hq hok h k
  · rcases the_state seen i 1 with k | k | k
    · exact agree_second_put w g q v base i p l seen hst hs hg hbase hl hi hq hok h k
    · exact agree_second_other w g q v base i p l seen hst hs hg hbase hl hi hq hok h k
    · exact agree_second_both w g q v base i p l seen hst hs hg hbase hl hi hq hok h k
  · exact agree_none w g q v base i p l seen hst hs hg hbase hl hi hq hok h
end Go.Proofs.Ytneaehimdmachaa.Rule
namespace Go.Proofs.Ytneaehimdmachaa.Rule
open Go.ChangeShapes Go.WideShapes Go.ChangeAt Go.RowKit Go.IntWalk Go.Proofs.Mem Go.Proofs.Each
set_option linter.unusedVariables false
set_option linter.unusedSimpArgs false
theorem B_ok {seen : List Ce} {i : Nat} {c : Ce} (h : ∀ c ∈ seen, c.Ok) (he : seen[i]? = some c) : 0 ≤ c.B ∧ c.B ≤ 18446744073709551615 := (h c (List.mem_of_getElem? he)).B
set_option maxRecDepth 100000 in
set_option maxHeartbeats 8000000 in
theorem close_no (w : World) (g : Nat) (q : Ot) (v : Value) (base i : Nat) (p : Value) (l : List Pu) (seen : List Ce) (hst : St w g q v base i p l) (hs : SeenAt w g v seen) (hg : g < base) (hbase : base ≤ w.heap.size) (hl : l.length ≤ 700) (hi : i ≤ 700000) (hq : q.Ok) (hok : ∀ c ∈ seen, c.Ok) (hc : ∀ c, seen[i]? = some c → hi32 c.A ≠ q.wh) :
    Calls Try.prog 49 #[.pointer (some ⟨g, 0, none⟩)] w (Did w g q v base i p l seen (oClose q) Rp.enc) := by
  have BEG := Lib.hid (Begin.mk hs hg hbase hq hok (fun x hx => hst.own.lt x hx))
  obtain ⟨W0, hW0⟩ : ∃ W0, w.alloc (.cells #[.int .u16 0, .int .u64 0, .int .u64 0, .int .u64 0] 41) = W0 := ⟨_, rfl⟩
  have SS : Hid (ST w g q v base p i p l [.box w.heap.size #[.int .u16 0, .int .u64 0, .int .u64 0, .int .u64 0] 41] W0) := Lib.hid (by rw [← hW0]; exact ST.start hst BEG.out _ _)
  have HI := Lib.hid hi
  have HQ := Lib.hid hq
  have HOK := Lib.hid hok
  have HL := Lib.hid hl
  have HC := Lib.hid hc
  obtain ⟨ce0, hce0⟩ := the_cell seen (i)
  have CE0 := Lib.hid hce0
  clear hst hs hg hbase hl hi hq hok hc hce0
  go_enter Try.func49, Try.ntmps49
  go_upto_region 1 with fail
  try rw [hW0]
  clear hW0
  refine wp_SK (D := DP w g q v base i p l seen (oClose q) Rp.enc) 9 10 11 (seen[i]? = some ce0 ∧ ce0.is = true) (i + 1) #[.int .u64 ce0.A, .int .u64 ce0.B, .int .u8 6, .int .u32 q.id, .int .u32 0, .bool true] [pw g 0, pw g 0, pw g 7, pw g 0, pw g 0, pw g 0, pw g 4, some (.int .u32 q.id, True), some (.agg #[.int .u8 6, .int .u32 q.id, .int .u32 0], True), some (.agg (thing ce0.A ce0.B 6 q.id 0 true), True), none, none] SS.out (fun vals => ?_) (fun vals W1 hB hfin hall => ?_) (ea 10 rfl)
  · simp only [ObD, Act.put, qA, qC, qZ]
    refine ⟨?_, ?_, ?_, ?_, ?_, ?_, ?_, ?_, ?o0_8, ?o0_9, ?o0_10, ?o0_11, trivial⟩
    all_goals (intro L W hL hk hC hw; have f := deps hw rfl rfl; simp only [depF, vsP, pw, qS, qD, and_true, true_and] at f)
    case o0_8 => have CL := Lib.hid (auction_any q.id W); clear hL hC hk hw; refine spD rfl ?_; go_simp; (with_reducible refine CL.out.mono ?_); rintro e w8 ⟨rfl, h2⟩; first | exact sq h2 rfl ⟨rfl, trivial⟩ | exact ⟨_, rfl, sq h2 rfl ⟨rfl, trivial⟩⟩
    case o0_9 =>
      have CL := Lib.hid (there_K SS.out (hC.pre hk) BEG.out (by have := HI.out; omega) CE0.out 6 q.id 0); clear hL hC hk hw; refine spD rfl ?_; go_simp; (with_reducible refine CL.out.mono ?_); rintro e w8 (⟨h, rfl, h2⟩ | ⟨h, h3, rfl, h2⟩ | ⟨rfl, hf, H⟩)
      · exact ⟨_, rfl, Did.miss (by unfold oClose; simp only [runOm_bind, run_there_no h]) h2⟩
      · exact ⟨_, rfl, Did.err (by unfold oClose; simp only [runOm_bind, run_there_not h h3]) h2⟩
      · first | exact kv hf H rfl ⟨rfl, trivial⟩ | exact ⟨_, rfl, kv hf H rfl ⟨rfl, trivial⟩⟩
    case o0_10 => have ZZ := hC.fr.size; clear hL hC hk hw; refine spD rfl ?_; go_simp; exact am ZZ
    case o0_11 => obtain ⟨gt, C, fa, hgt, bx0, hc⟩ := Fw.geta (hw ⟨10, .data⟩ (by simp) rfl) (by decide); obtain ⟨c0, c1, c2, c3, c4, c5, rfl⟩ := arr6 hc; have q := six_cells bx0; have BXX := Lib.hid bx0; have FA := Lib.hid fa; clear bx0 hc; unfold thing at f; clear hL hC hk hw; refine spD rfl ?_; go_simp; exact sm SS.out BEG.out BXX.out hgt FA.out
    all_goals (have c := kn7 hC; clear hL hC hk hw; refine spD rfl ?_; go_simp; first | exact sv rfl ⟨rfl, trivial⟩ | exact ⟨_, rfl, sv rfl ⟨rfl, trivial⟩⟩)
  have S0 := Lib.hid hB.1
  simp only [allF, vsP, pw, true_and, and_true, Nat.reduceAdd] at hall
  obtain ⟨gt0, fa, hgt, bx⟩ := hfin
  simp only [TL, Act.put, qA, qC, qZ, hall, fa]
  replace SS := Lib.hid (SS.out.push BEG.out hB.st SS.out.lt hgt bx)
  clear hall vals hB fa hgt bx
  have y0 : W1.cell? ⟨gt0, 0, none⟩ = some (.int .u64 ce0.A) := SS.out.bx.1.out.cell 0
  go_wp2_with fail
  (with_reducible refine (unpair_any ce0.A (A_ok HOK.out S0.out.1) _).mono ?_)
  rintro e W2 ⟨rfl, hbl⟩
  clear y0
  replace SS := Lib.hid (SS.out.later hbl)
  clear hbl
  have d1 : (hi32 ce0.A == q.wh) = false := by have := HC.out ce0 S0.out.1; simpa using this
  have d2 : (hi32 ce0.A != q.wh) = true := by have := HC.out ce0 S0.out.1; simpa using this
  have y0 : W2.cell? ⟨g, 1, none⟩ = some (.int .u32 q.wh) := SS.out.kn.c1
  go_wp2_with fail
  (with_reducible refine (deny_yes 213 _).mono ?_)
  rintro e W3 ⟨rfl, rfl⟩
  exact ⟨rfl, Did.err (by unfold oClose; simp only [runOm_bind, run_there S0.out.1 S0.out.2, decide_eq_true (HC.out ce0 S0.out.1), run_deny_yes]) (SS.out.low BEG.out)⟩
set_option maxRecDepth 100000 in
set_option maxHeartbeats 8000000 in
theorem close_none (w : World) (g : Nat) (q : Ot) (v : Value) (base i : Nat) (p : Value) (l : List Pu) (seen : List Ce) (hst : St w g q v base i p l) (hs : SeenAt w g v seen) (hg : g < base) (hbase : base ≤ w.heap.size) (hl : l.length ≤ 700) (hi : i ≤ 700000) (hq : q.Ok) (hok : ∀ c ∈ seen, c.Ok) (hc : ∀ c, seen[i]? = some c → hi32 c.A = q.wh) (h1 : ∀ c, seen[i + 1]? = some c → c.is = false) :
    Calls Try.prog 49 #[.pointer (some ⟨g, 0, none⟩)] w (Did w g q v base i p l seen (oClose q) Rp.enc) := by
  have BEG := Lib.hid (Begin.mk hs hg hbase hq hok (fun x hx => hst.own.lt x hx))
  obtain ⟨W0, hW0⟩ : ∃ W0, w.alloc (.cells #[.int .u16 0, .int .u64 0, .int .u64 0, .int .u64 0] 41) = W0 := ⟨_, rfl⟩
  have SS : Hid (ST w g q v base p i p l [.box w.heap.size #[.int .u16 0, .int .u64 0, .int .u64 0, .int .u64 0] 41] W0) := Lib.hid (by rw [← hW0]; exact ST.start hst BEG.out _ _)
  have HI := Lib.hid hi
  have HQ := Lib.hid hq
  have HOK := Lib.hid hok
  have HL := Lib.hid hl
  have HC := Lib.hid hc
  have H1 := Lib.hid h1
  obtain ⟨ce0, hce0⟩ := the_cell seen (i)
  have CE0 := Lib.hid hce0
  obtain ⟨ce1, hce1⟩ := the_cell seen (i + 1)
  have CE1 := Lib.hid hce1
  obtain ⟨ce2, hce2⟩ := the_cell seen (i + 1 + 1)
  have CE2 := Lib.hid hce2
  clear hst hs hg hbase hl hi hq hok hc h1 hce0 hce1 hce2
  go_enter Try.func49, Try.ntmps49
  go_upto_region 1 with fail
  try rw [hW0]
  clear hW0
  refine wp_SK (D := DP w g q v base i p l seen (oClose q) Rp.enc) 9 10 11 (seen[i]? = some ce0 ∧ ce0.is = true) (i + 1) #[.int .u64 ce0.A, .int .u64 ce0.B, .int .u8 6, .int .u32 q.id, .int .u32 0, .bool true] [pw g 0, pw g 0, pw g 7, pw g 0, pw g 0, pw g 0, pw g 4, some (.int .u32 q.id, True), some (.agg #[.int .u8 6, .int .u32 q.id, .int .u32 0], True), some (.agg (thing ce0.A ce0.B 6 q.id 0 true), True), none, none] SS.out (fun vals => ?_) (fun vals W1 hB hfin hall => ?_) (ea 10 rfl)
  · simp only [ObD, Act.put, qA, qC, qZ]
    refine ⟨?_, ?_, ?_, ?_, ?_, ?_, ?_, ?_, ?o0_8, ?o0_9, ?o0_10, ?o0_11, trivial⟩
    all_goals (intro L W hL hk hC hw; have f := deps hw rfl rfl; simp only [depF, vsP, pw, qS, qD, and_true, true_and] at f)
    case o0_8 => have CL := Lib.hid (auction_any q.id W); clear hL hC hk hw; refine spD rfl ?_; go_simp; (with_reducible refine CL.out.mono ?_); rintro e w8 ⟨rfl, h2⟩; first | exact sq h2 rfl ⟨rfl, trivial⟩ | exact ⟨_, rfl, sq h2 rfl ⟨rfl, trivial⟩⟩
    case o0_9 =>
      have CL := Lib.hid (there_K SS.out (hC.pre hk) BEG.out (by have := HI.out; omega) CE0.out 6 q.id 0); clear hL hC hk hw; refine spD rfl ?_; go_simp; (with_reducible refine CL.out.mono ?_); rintro e w8 (⟨h, rfl, h2⟩ | ⟨h, h3, rfl, h2⟩ | ⟨rfl, hf, H⟩)
      · exact ⟨_, rfl, Did.miss (by unfold oClose; simp only [runOm_bind, run_there_no h]) h2⟩
      · exact ⟨_, rfl, Did.err (by unfold oClose; simp only [runOm_bind, run_there_not h h3]) h2⟩
      · first | exact kv hf H rfl ⟨rfl, trivial⟩ | exact ⟨_, rfl, kv hf H rfl ⟨rfl, trivial⟩⟩
    case o0_10 => have ZZ := hC.fr.size; clear hL hC hk hw; refine spD rfl ?_; go_simp; exact am ZZ
    case o0_11 => obtain ⟨gt, C, fa, hgt, bx0, hc⟩ := Fw.geta (hw ⟨10, .data⟩ (by simp) rfl) (by decide); obtain ⟨c0, c1, c2, c3, c4, c5, rfl⟩ := arr6 hc; have q := six_cells bx0; have BXX := Lib.hid bx0; have FA := Lib.hid fa; clear bx0 hc; unfold thing at f; clear hL hC hk hw; refine spD rfl ?_; go_simp; exact sm SS.out BEG.out BXX.out hgt FA.out
    all_goals (have c := kn7 hC; clear hL hC hk hw; refine spD rfl ?_; go_simp; first | exact sv rfl ⟨rfl, trivial⟩ | exact ⟨_, rfl, sv rfl ⟨rfl, trivial⟩⟩)
  have S0 := Lib.hid hB.1
  simp only [allF, vsP, pw, true_and, and_true, Nat.reduceAdd] at hall
  obtain ⟨gt0, fa, hgt, bx⟩ := hfin
  simp only [TL, Act.put, qA, qC, qZ, hall, fa]
  replace SS := Lib.hid (SS.out.push BEG.out hB.st SS.out.lt hgt bx)
  clear hall vals hB fa hgt bx
  have y0 : W1.cell? ⟨gt0, 0, none⟩ = some (.int .u64 ce0.A) := SS.out.bx.1.out.cell 0
  go_wp2_with fail
  (with_reducible refine (unpair_any ce0.A (A_ok HOK.out S0.out.1) _).mono ?_)
  rintro e W2 ⟨rfl, hbl⟩
  clear y0
  replace SS := Lib.hid (SS.out.later hbl)
  clear hbl
  have d1 : (hi32 ce0.A == q.wh) = true := by have := HC.out ce0 S0.out.1; simpa using this
  have d2 : (hi32 ce0.A != q.wh) = false := by have := HC.out ce0 S0.out.1; simpa using this
  have y0 : W2.cell? ⟨g, 1, none⟩ = some (.int .u32 q.wh) := SS.out.kn.c1
  go_wp2_with fail
  (with_reducible refine (deny_no 213 _).mono ?_)
  rintro e W3 ⟨rfl, rfl⟩
  clear d1 d2 y0
  go_upto_region 4 with fail
  refine wp_SK (D := DP w g q v base i p l seen (oClose q) Rp.enc) 9 10 11 (seen[i + 1]? = some ce1) (i + 1 + 1) #[.int .u64 ce1.vA, .int .u64 ce1.vB, .int .u8 7, .int .u32 q.id, .int .u32 0, .bool ce1.is] [pw g 0, pw g 0, pw g 7, pw g 0, pw g 0, pw g 0, pw g 4, some (.int .u32 q.id, True), some (.agg #[.int .u8 7, .int .u32 q.id, .int .u32 0], True), some (.agg (thing ce1.vA ce1.vB 7 q.id 0 ce1.is), True), none, none] SS.out (fun vals => ?_) (fun vals W4 hB hfin hall => ?_) (ea 10 rfl)
  · simp only [ObD, Act.put, qA, qC, qZ]
    refine ⟨?_, ?_, ?_, ?_, ?_, ?_, ?_, ?_, ?o3_8, ?o3_9, ?o3_10, ?o3_11, trivial⟩
    all_goals (intro L W hL hk hC hw; have f := deps hw rfl rfl; simp only [depF, vsP, pw, qS, qD, and_true, true_and] at f)
    case o3_8 => have CL := Lib.hid (bid_any q.id W); clear hL hC hk hw; refine spD rfl ?_; go_simp; (with_reducible refine CL.out.mono ?_); rintro e w8 ⟨rfl, h2⟩; first | exact sq h2 rfl ⟨rfl, trivial⟩ | exact ⟨_, rfl, sq h2 rfl ⟨rfl, trivial⟩⟩
    case o3_9 =>
      have CL := Lib.hid (look_K SS.out (hC.pre hk) BEG.out (by have := HI.out; omega) CE1.out 7 q.id 0); clear hL hC hk hw; refine spD rfl ?_; go_simp; (with_reducible refine CL.out.mono ?_); rintro e w8 (⟨h, rfl, h2⟩ | ⟨h1, rfl, hf, H⟩)
      · exact ⟨_, rfl, Did.miss (by unfold oClose; simp only [runOm_bind, run_there S0.out.1 S0.out.2, decide_eq_false (show ¬ hi32 ce0.A ≠ q.wh from fun h => h (HC.out ce0 S0.out.1)), run_deny_no, run_look_no h]) h2⟩
      · first | exact kv hf H rfl ⟨rfl, trivial⟩ | exact ⟨_, rfl, kv hf H rfl ⟨rfl, trivial⟩⟩
    case o3_10 => have ZZ := hC.fr.size; clear hL hC hk hw; refine spD rfl ?_; go_simp; exact am ZZ
    case o3_11 => obtain ⟨gt, C, fa, hgt, bx0, hc⟩ := Fw.geta (hw ⟨10, .data⟩ (by simp) rfl) (by decide); obtain ⟨c0, c1, c2, c3, c4, c5, rfl⟩ := arr6 hc; have q := six_cells bx0; have BXX := Lib.hid bx0; have FA := Lib.hid fa; clear bx0 hc; unfold thing at f; clear hL hC hk hw; refine spD rfl ?_; go_simp; exact sm SS.out BEG.out BXX.out hgt FA.out
    all_goals (have c := kn7 hC; clear hL hC hk hw; refine spD rfl ?_; go_simp; first | exact sv rfl ⟨rfl, trivial⟩ | exact ⟨_, rfl, sv rfl ⟨rfl, trivial⟩⟩)
  have S1 := Lib.hid hB.1
  simp only [allF, vsP, pw, true_and, and_true, Nat.reduceAdd] at hall
  obtain ⟨gt1, fa, hgt, bx⟩ := hfin
  simp only [TL, Act.put, qA, qC, qZ, hall, fa]
  replace SS := Lib.hid (SS.out.push BEG.out hB.st SS.out.lt hgt bx)
  clear hall vals hB fa hgt bx
  have I1 := Lib.hid (H1.out ce1 S1.out)
  have SX := SS.out
  rw [I1.out] at SX
  replace SS := Lib.hid SX
  clear SX
  have y0 : W4.cell? ⟨g, 1, none⟩ = some (.int .u32 q.wh) := SS.out.kn.c1
  have y1 : W4.cell? ⟨gt1, 5, none⟩ = some (.bool false) := SS.out.bx.1.out.cell 5
  go_upto_region 10 with fail
  clear y0 y1
  refine wp_SK (D := DP w g q v base i p l seen (oClose q) Rp.enc) 6 7 8 (seen[i + 1 + 1]? = some ce2) (i + 1 + 1 + 1) #[.int .u64 ce2.vA, .int .u64 ce2.vB, .int .u8 3, .int .u32 q.wh, .int .u32 (lo32 ce0.A), .bool ce2.is] [pw g 0, pw g 0, pw g 7, some (.int .u32 q.wh, True), some (.int .u32 (lo32 ce0.A), True), some (.agg #[.int .u8 3, .int .u32 q.wh, .int .u32 (lo32 ce0.A)], True), some (.agg (thing ce2.vA ce2.vB 3 q.wh (lo32 ce0.A) ce2.is), True), none, none] SS.out (fun vals => ?_) (fun vals W5 hB hfin hall => ?_) (ea 7 rfl)
  · simp only [ObD, Act.put, qA, qC, qZ]
    refine ⟨?_, ?_, ?_, ?_, ?_, ?o4_5, ?o4_6, ?o4_7, ?o4_8, trivial⟩
    all_goals (intro L W hL hk hC hw; have f := deps hw rfl rfl; simp only [depF, vsP, pw, qS, qD, and_true, true_and] at f)
    case o4_5 => have CL := Lib.hid (stack_any q.wh (lo32 ce0.A) W); clear hL hC hk hw; refine spD rfl ?_; go_simp; (with_reducible refine CL.out.mono ?_); rintro e w8 ⟨rfl, h2⟩; first | exact sq h2 rfl ⟨rfl, trivial⟩ | exact ⟨_, rfl, sq h2 rfl ⟨rfl, trivial⟩⟩
    case o4_6 =>
      have CL := Lib.hid (look_K SS.out (hC.pre hk) BEG.out (by have := HI.out; omega) CE2.out 3 q.wh (lo32 ce0.A)); clear hL hC hk hw; refine spD rfl ?_; go_simp; (with_reducible refine CL.out.mono ?_); rintro e w8 (⟨h, rfl, h2⟩ | ⟨h1, rfl, hf, H⟩)
      · exact ⟨_, rfl, Did.miss (by unfold oClose; simp only [runOm_bind, run_there S0.out.1 S0.out.2, decide_eq_false (show ¬ hi32 ce0.A ≠ q.wh from fun h => h (HC.out ce0 S0.out.1)), run_deny_no, run_look S1.out, I1.out, Bool.false_eq_true, if_false, run_look_no h]) h2⟩
      · first | exact kv hf H rfl ⟨rfl, trivial⟩ | exact ⟨_, rfl, kv hf H rfl ⟨rfl, trivial⟩⟩
    case o4_7 => have ZZ := hC.fr.size; clear hL hC hk hw; refine spD rfl ?_; go_simp; exact am ZZ
    case o4_8 => obtain ⟨gt, C, fa, hgt, bx0, hc⟩ := Fw.geta (hw ⟨7, .data⟩ (by simp) rfl) (by decide); obtain ⟨c0, c1, c2, c3, c4, c5, rfl⟩ := arr6 hc; have q := six_cells bx0; have BXX := Lib.hid bx0; have FA := Lib.hid fa; clear bx0 hc; unfold thing at f; clear hL hC hk hw; refine spD rfl ?_; go_simp; exact sm SS.out BEG.out BXX.out hgt FA.out
    all_goals (have c := kn7 hC; clear hL hC hk hw; refine spD rfl ?_; go_simp; first | exact sv rfl ⟨rfl, trivial⟩ | exact ⟨_, rfl, sv rfl ⟨rfl, trivial⟩⟩)
  have S2 := Lib.hid hB.1
  simp only [allF, vsP, pw, true_and, and_true, Nat.reduceAdd] at hall
  obtain ⟨gt3, fa, hgt, bx⟩ := hfin
  simp only [TL, Act.put, qA, qC, qZ, hall, fa]
  replace SS := Lib.hid (SS.out.push BEG.out hB.st SS.out.lt hgt bx)
  clear hall vals hB fa hgt bx
  go_upto_region 11 with fail
  refine wp_SA (D := DP w g q v base i p l seen (oClose q) Rp.enc) 10 11 12 True True (i + 1 + 1 + 1) (l ++ [amt 3 q.wh (lo32 ce0.A) (ce2.vA + ce0.B)]) [pw g 0, some (.pointer (some ⟨gt3, 2, none⟩), True), some (.agg #[.int .u8 3, .int .u32 q.wh, .int .u32 (lo32 ce0.A)], True), some (.pointer (some ⟨gt3, 0, none⟩), True), some (.pointer (some ⟨gt3, 0, none⟩), True), some (.int .u64 ce2.vA, True), some (.pointer (some ⟨gt0, 0, none⟩), True), some (.pointer (some ⟨gt0, 1, none⟩), True), some (.int .u64 ce0.B, True), some (.int .u64 (ce2.vA + ce0.B), Mr ce2.vA ce0.B), some (.tuple #[], True)] SS.out (fun vals => ?_) (fun vals W6 hB hall => ?_)
  · simp only [ObD, Act.put, qA, qC, qZ]
    refine ⟨?_, ?_, ?o5_2, ?_, ?_, ?o5_5, ?_, ?_, ?o5_8, ?o5_9, ?o5_10, trivial⟩
    all_goals (intro L W hL hk hC hw; have f := deps hw rfl rfl; simp only [depF, vsP, pw, qS, qD, and_true, true_and] at f)
    case' o5_2 => have k2 : W.cell? ⟨gt3, 2, none⟩ = some (.int .u8 3) := (cw_bx hC).1.out.cell 2; have k3 : W.cell? ⟨gt3, 3, none⟩ = some (.int .u32 q.wh) := (cw_bx hC).1.out.cell 3; have k4 : W.cell? ⟨gt3, 4, none⟩ = some (.int .u32 (lo32 ce0.A)) := (cw_bx hC).1.out.cell 4
    case' o5_5 => have k0 : W.cell? ⟨gt3, 0, none⟩ = some (.int .u64 ce2.vA) := (cw_bx hC).1.out.cell 0
    case' o5_8 => have k1 : W.cell? ⟨gt0, 1, none⟩ = some (.int .u64 ce0.B) := (cw_bx hC).2.2.1.out.cell 1
    case o5_9 =>
      have CL := Lib.hid (more_C (vA_ok HOK.out S2.out) (B_ok HOK.out S0.out.1) hC SS.out BEG.out); clear hL hC hk hw; refine spD rfl ?_; go_simp; (with_reducible refine CL.out.mono ?_)
      rintro e w8 (⟨h, rfl, h2⟩ | ⟨h1, rfl, h2⟩)
      · exact ⟨_, rfl, Did.err (by unfold oClose; simp only [runOm_bind, run_there S0.out.1 S0.out.2, decide_eq_false (show ¬ hi32 ce0.A ≠ q.wh from fun h => h (HC.out ce0 S0.out.1)), run_deny_no, run_look S1.out, I1.out, Bool.false_eq_true, if_false, run_look S2.out, run_more_no h]) h2⟩
      · first | exact sq h2 rfl ⟨rfl, h1⟩ | exact ⟨_, rfl, sq h2 rfl ⟨rfl, h1⟩⟩
    case o5_10 => have CL := Lib.hid (pk SS.out BEG.out (amount_S (hC.pre hk) BEG.out (by have := HL.out; (try simp only [List.length_append, List.length_cons, List.length_nil]); omega) 3 q.wh (lo32 ce0.A) (ce2.vA + ce0.B) (show _ = l ++ [amt 3 q.wh (lo32 ce0.A) (ce2.vA + ce0.B)] by simp))); clear hL hC hk hw; refine spD rfl ?_; go_simp; (with_reducible refine CL.out.mono ?_); rintro e w8 ⟨rfl, hf, H⟩; first | exact kv hf H rfl ⟨rfl, trivial⟩ | exact ⟨_, rfl, kv hf H rfl ⟨rfl, trivial⟩⟩
    all_goals (have c := kn7 hC; clear hL hC hk hw; refine spD rfl ?_; go_simp; first | exact sv rfl ⟨rfl, trivial⟩ | exact ⟨_, rfl, sv rfl ⟨rfl, trivial⟩⟩)
  have C6 : Hid (Mr ce2.vA ce0.B) := Lib.hid (vsP_c (hall.get 9))
  simp only [allF, vsP, pw, true_and, and_true, Nat.reduceAdd] at hall
  simp only [TL, Act.put, qA, qC, qZ, hall]
  obtain ⟨p6, hB⟩ := hB.put
  replace SS := Lib.hid hB
  clear hall vals hB
  replace SS := Lib.hid SS.out.drop
  obtain ⟨⟨y0, y1, y2, y3, y4, y5⟩, -⟩ := six_cells SS.out.bx.2.1.out
  have CALL := Lib.hid (gone_S SS.out BEG.out (by have := HL.out; (try simp only [List.length_append, List.length_cons, List.length_nil]); omega) 6 q.id 0 (show _ = l ++ [amt 3 q.wh (lo32 ce0.A) (ce2.vA + ce0.B), Pu.mk 6 q.id 0 0 0 true] by simp))
  go_wp2_with fail
  (with_reducible refine CALL.out.mono ?_)
  rintro e W7 ⟨rfl, hf, p7, hs⟩
  replace SS := Lib.hid hs
  clear CALL hf hs y0 y1 y2 y3 y4 y5
  have y0 : W7.cell? ⟨g, 4, none⟩ = some (.int .u32 q.id) := SS.out.kn.c4
  go_wp2_with fail
  (with_reducible refine (price_any q.id _).mono ?_)
  rintro e W8 ⟨rfl, hbl⟩
  clear y0
  replace SS := Lib.hid (SS.out.later hbl)
  clear hbl
  have y0 : W8.cell? ⟨g, 4, none⟩ = some (.int .u32 q.id) := SS.out.kn.c4
  have CALL := Lib.hid (gone_S SS.out BEG.out (by have := HL.out; (try simp only [List.length_append, List.length_cons, List.length_nil]); omega) 7 q.id 1 (show _ = l ++ [amt 3 q.wh (lo32 ce0.A) (ce2.vA + ce0.B), Pu.mk 6 q.id 0 0 0 true, Pu.mk 7 q.id 1 0 0 true] by simp))
  go_wp2_with fail
  (with_reducible refine CALL.out.mono ?_)
  rintro e W9 ⟨rfl, hf, p9, hs⟩
  replace SS := Lib.hid hs
  clear CALL hf hs y0
  have y0 : W9.cell? ⟨gt1, 5, none⟩ = some (.bool false) := SS.out.bx.1.out.cell 5
  have y0 : W9.cell? ⟨gt1, 0, none⟩ = some (.int .u64 ce1.vA) := SS.out.bx.1.out.cell 0
  have y1 : W9.cell? ⟨gt1, 5, none⟩ = some (.bool false) := SS.out.bx.1.out.cell 5
  obtain ⟨⟨z0, z1, z2, z3⟩, x0, x1, x2, x3⟩ := four_cells SS.out.bx.2.2.1.out
  go_wp2
  generalize hW : (World.setCell _ (⟨w.heap.size, 3, none⟩ : Addr) _) = WZ
  have b9 : Box WZ w.heap.size #[.int .u16 0, .int .u64 ce1.vA, .int .u64 0, .int .u64 0] 41 := by
    rw [← hW]
    exact four_box SS.out.bx.2.2.1.out
  have F9 : Hid (Fr (fun x => x = w.heap.size) W9 WZ) := Lib.hid (by
    rw [← hW]
    exact four_fr)
  obtain ⟨⟨v0, v1, v2, v3⟩, -⟩ := four_cells b9
  clear hW b9 z0 z1 z2 z3 x0 x1 x2 x3 y0 y1
  refine bodyPost_ret (v := .agg #[.int .u16 0, .int .u64 ce1.vA, .int .u64 0, .int .u64 0]) (by simp [results, Try.results49, go_sem, v0, v1, v2, v3]; try rfl) rfl ?_
  refine (SS.out.wr BEG.out 2 rfl F9.out).did (y := (⟨ce1.vA, 0, 0⟩, l ++ [amt 3 q.wh (lo32 ce0.A) (ce2.vA + ce0.B), Pu.mk 6 q.id 0 0 0 true, Pu.mk 7 q.id 1 0 0 true])) ?_ rfl
  unfold oClose
  simp only [runOm_bind, runOm_pure, run_there S0.out.1 S0.out.2, decide_eq_false (show ¬ hi32 ce0.A ≠ q.wh from fun h => h (HC.out ce0 S0.out.1)), run_deny_no, run_look S1.out, I1.out, Bool.false_eq_true, if_false, run_look S2.out, run_more C6.out, oAmount, run_put, oGone, run_put, oGone, run_put, oGone, List.append_assoc, List.cons_append, List.nil_append]
  try rfl
end Go.Proofs.Ytneaehimdmachaa.Rule
namespace Go.Proofs.Ytneaehimdmachaa.Rule
open Go.ChangeShapes Go.WideShapes Go.ChangeAt Go.RowKit Go.IntWalk Go.Proofs.Mem Go.Proofs.Each
set_option linter.unusedVariables false
set_option linter.unusedSimpArgs false
set_option maxRecDepth 100000 in
set_option maxHeartbeats 8000000 in
theorem close_bid (w : World) (g : Nat) (q : Ot) (v : Value) (base i : Nat) (p : Value) (l : List Pu) (seen : List Ce) (hst : St w g q v base i p l) (hs : SeenAt w g v seen) (hg : g < base) (hbase : base ≤ w.heap.size) (hl : l.length ≤ 700) (hi : i ≤ 700000) (hq : q.Ok) (hok : ∀ c ∈ seen, c.Ok) (hc : ∀ c, seen[i]? = some c → hi32 c.A = q.wh) (h1 : ∀ c, seen[i + 1]? = some c → c.is = true) :
    Calls Try.prog 49 #[.pointer (some ⟨g, 0, none⟩)] w (Did w g q v base i p l seen (oClose q) Rp.enc) := by
  have BEG := Lib.hid (Begin.mk hs hg hbase hq hok (fun x hx => hst.own.lt x hx))
  obtain ⟨W0, hW0⟩ : ∃ W0, w.alloc (.cells #[.int .u16 0, .int .u64 0, .int .u64 0, .int .u64 0] 41) = W0 := ⟨_, rfl⟩
  have SS : Hid (ST w g q v base p i p l [.box w.heap.size #[.int .u16 0, .int .u64 0, .int .u64 0, .int .u64 0] 41] W0) := Lib.hid (by rw [← hW0]; exact ST.start hst BEG.out _ _)
  have HI := Lib.hid hi
  have HQ := Lib.hid hq
  have HOK := Lib.hid hok
  have HL := Lib.hid hl
  have HC := Lib.hid hc
  have H1 := Lib.hid h1
  obtain ⟨ce0, hce0⟩ := the_cell seen (i)
  have CE0 := Lib.hid hce0
  obtain ⟨ce1, hce1⟩ := the_cell seen (i + 1)
  have CE1 := Lib.hid hce1
  obtain ⟨ce2, hce2⟩ := the_cell seen (i + 1 + 1)
  have CE2 := Lib.hid hce2
  obtain ⟨ce3, hce3⟩ := the_cell seen (i + 1 + 1 + 1)
  have CE3 := Lib.hid hce3
  clear hst hs hg hbase hl hi hq hok hc h1 hce0 hce1 hce2 hce3
  go_enter Try.func49, Try.ntmps49
  go_upto_region 1 with fail
  try rw [hW0]
  clear hW0
  refine wp_SK (D := DP w g q v base i p l seen (oClose q) Rp.enc) 9 10 11 (seen[i]? = some ce0 ∧ ce0.is = true) (i + 1) #[.int .u64 ce0.A, .int .u64 ce0.B, .int .u8 6, .int .u32 q.id, .int .u32 0, .bool true] [pw g 0, pw g 0, pw g 7, pw g 0, pw g 0, pw g 0, pw g 4, some (.int .u32 q.id, True), some (.agg #[.int .u8 6, .int .u32 q.id, .int .u32 0], True), some (.agg (thing ce0.A ce0.B 6 q.id 0 true), True), none, none] SS.out (fun vals => ?_) (fun vals W1 hB hfin hall => ?_) (ea 10 rfl)
  · simp only [ObD, Act.put, qA, qC, qZ]
    refine ⟨?_, ?_, ?_, ?_, ?_, ?_, ?_, ?_, ?o0_8, ?o0_9, ?o0_10, ?o0_11, trivial⟩
    all_goals (intro L W hL hk hC hw; have f := deps hw rfl rfl; simp only [depF, vsP, pw, qS, qD, and_true, true_and] at f)
    case o0_8 => have CL := Lib.hid (auction_any q.id W); clear hL hC hk hw; refine spD rfl ?_; go_simp; (with_reducible refine CL.out.mono ?_); rintro e w8 ⟨rfl, h2⟩; first | exact sq h2 rfl ⟨rfl, trivial⟩ | exact ⟨_, rfl, sq h2 rfl ⟨rfl, trivial⟩⟩
    case o0_9 =>
      have CL := Lib.hid (there_K SS.out (hC.pre hk) BEG.out (by have := HI.out; omega) CE0.out 6 q.id 0); clear hL hC hk hw; refine spD rfl ?_; go_simp; (with_reducible refine CL.out.mono ?_); rintro e w8 (⟨h, rfl, h2⟩ | ⟨h, h3, rfl, h2⟩ | ⟨rfl, hf, H⟩)
      · exact ⟨_, rfl, Did.miss (by unfold oClose; simp only [runOm_bind, run_there_no h]) h2⟩
      · exact ⟨_, rfl, Did.err (by unfold oClose; simp only [runOm_bind, run_there_not h h3]) h2⟩
      · first | exact kv hf H rfl ⟨rfl, trivial⟩ | exact ⟨_, rfl, kv hf H rfl ⟨rfl, trivial⟩⟩
    case o0_10 => have ZZ := hC.fr.size; clear hL hC hk hw; refine spD rfl ?_; go_simp; exact am ZZ
    case o0_11 => obtain ⟨gt, C, fa, hgt, bx0, hc⟩ := Fw.geta (hw ⟨10, .data⟩ (by simp) rfl) (by decide); obtain ⟨c0, c1, c2, c3, c4, c5, rfl⟩ := arr6 hc; have q := six_cells bx0; have BXX := Lib.hid bx0; have FA := Lib.hid fa; clear bx0 hc; unfold thing at f; clear hL hC hk hw; refine spD rfl ?_; go_simp; exact sm SS.out BEG.out BXX.out hgt FA.out
    all_goals (have c := kn7 hC; clear hL hC hk hw; refine spD rfl ?_; go_simp; first | exact sv rfl ⟨rfl, trivial⟩ | exact ⟨_, rfl, sv rfl ⟨rfl, trivial⟩⟩)
  have S0 := Lib.hid hB.1
  simp only [allF, vsP, pw, true_and, and_true, Nat.reduceAdd] at hall
  obtain ⟨gt0, fa, hgt, bx⟩ := hfin
  simp only [TL, Act.put, qA, qC, qZ, hall, fa]
  replace SS := Lib.hid (SS.out.push BEG.out hB.st SS.out.lt hgt bx)
  clear hall vals hB fa hgt bx
  have y0 : W1.cell? ⟨gt0, 0, none⟩ = some (.int .u64 ce0.A) := SS.out.bx.1.out.cell 0
  go_wp2_with fail
  (with_reducible refine (unpair_any ce0.A (A_ok HOK.out S0.out.1) _).mono ?_)
  rintro e W2 ⟨rfl, hbl⟩
  clear y0
  replace SS := Lib.hid (SS.out.later hbl)
  clear hbl
  have d1 : (hi32 ce0.A == q.wh) = true := by have := HC.out ce0 S0.out.1; simpa using this
  have d2 : (hi32 ce0.A != q.wh) = false := by have := HC.out ce0 S0.out.1; simpa using this
  have y0 : W2.cell? ⟨g, 1, none⟩ = some (.int .u32 q.wh) := SS.out.kn.c1
  go_wp2_with fail
  (with_reducible refine (deny_no 213 _).mono ?_)
  rintro e W3 ⟨rfl, rfl⟩
  clear d1 d2 y0
  go_upto_region 4 with fail
  refine wp_SK (D := DP w g q v base i p l seen (oClose q) Rp.enc) 9 10 11 (seen[i + 1]? = some ce1) (i + 1 + 1) #[.int .u64 ce1.vA, .int .u64 ce1.vB, .int .u8 7, .int .u32 q.id, .int .u32 0, .bool ce1.is] [pw g 0, pw g 0, pw g 7, pw g 0, pw g 0, pw g 0, pw g 4, some (.int .u32 q.id, True), some (.agg #[.int .u8 7, .int .u32 q.id, .int .u32 0], True), some (.agg (thing ce1.vA ce1.vB 7 q.id 0 ce1.is), True), none, none] SS.out (fun vals => ?_) (fun vals W4 hB hfin hall => ?_) (ea 10 rfl)
  · simp only [ObD, Act.put, qA, qC, qZ]
    refine ⟨?_, ?_, ?_, ?_, ?_, ?_, ?_, ?_, ?o3_8, ?o3_9, ?o3_10, ?o3_11, trivial⟩
    all_goals (intro L W hL hk hC hw; have f := deps hw rfl rfl; simp only [depF, vsP, pw, qS, qD, and_true, true_and] at f)
    case o3_8 => have CL := Lib.hid (bid_any q.id W); clear hL hC hk hw; refine spD rfl ?_; go_simp; (with_reducible refine CL.out.mono ?_); rintro e w8 ⟨rfl, h2⟩; first | exact sq h2 rfl ⟨rfl, trivial⟩ | exact ⟨_, rfl, sq h2 rfl ⟨rfl, trivial⟩⟩
    case o3_9 =>
      have CL := Lib.hid (look_K SS.out (hC.pre hk) BEG.out (by have := HI.out; omega) CE1.out 7 q.id 0); clear hL hC hk hw; refine spD rfl ?_; go_simp; (with_reducible refine CL.out.mono ?_); rintro e w8 (⟨h, rfl, h2⟩ | ⟨h1, rfl, hf, H⟩)
      · exact ⟨_, rfl, Did.miss (by unfold oClose; simp only [runOm_bind, run_there S0.out.1 S0.out.2, decide_eq_false (show ¬ hi32 ce0.A ≠ q.wh from fun h => h (HC.out ce0 S0.out.1)), run_deny_no, run_look_no h]) h2⟩
      · first | exact kv hf H rfl ⟨rfl, trivial⟩ | exact ⟨_, rfl, kv hf H rfl ⟨rfl, trivial⟩⟩
    case o3_10 => have ZZ := hC.fr.size; clear hL hC hk hw; refine spD rfl ?_; go_simp; exact am ZZ
    case o3_11 => obtain ⟨gt, C, fa, hgt, bx0, hc⟩ := Fw.geta (hw ⟨10, .data⟩ (by simp) rfl) (by decide); obtain ⟨c0, c1, c2, c3, c4, c5, rfl⟩ := arr6 hc; have q := six_cells bx0; have BXX := Lib.hid bx0; have FA := Lib.hid fa; clear bx0 hc; unfold thing at f; clear hL hC hk hw; refine spD rfl ?_; go_simp; exact sm SS.out BEG.out BXX.out hgt FA.out
    all_goals (have c := kn7 hC; clear hL hC hk hw; refine spD rfl ?_; go_simp; first | exact sv rfl ⟨rfl, trivial⟩ | exact ⟨_, rfl, sv rfl ⟨rfl, trivial⟩⟩)
  have S1 := Lib.hid hB.1
  simp only [allF, vsP, pw, true_and, and_true, Nat.reduceAdd] at hall
  obtain ⟨gt1, fa, hgt, bx⟩ := hfin
  simp only [TL, Act.put, qA, qC, qZ, hall, fa]
  replace SS := Lib.hid (SS.out.push BEG.out hB.st SS.out.lt hgt bx)
  clear hall vals hB fa hgt bx
  have I1 := Lib.hid (H1.out ce1 S1.out)
  have SX := SS.out
  rw [I1.out] at SX
  replace SS := Lib.hid SX
  clear SX
  have y0 : W4.cell? ⟨g, 1, none⟩ = some (.int .u32 q.wh) := SS.out.kn.c1
  have y1 : W4.cell? ⟨gt1, 5, none⟩ = some (.bool true) := SS.out.bx.1.out.cell 5
  go_upto_region 7 with fail
  clear y0 y1
  refine wp_SK (D := DP w g q v base i p l seen (oClose q) Rp.enc) 9 10 11 (seen[i + 1 + 1]? = some ce2) (i + 1 + 1 + 1) #[.int .u64 ce2.vA, .int .u64 ce2.vB, .int .u8 1, .int .u32 q.wh, .int .u32 0, .bool ce2.is] [pw g 0, pw g 0, pw g 7, pw g 0, pw g 0, pw g 0, pw g 1, some (.int .u32 q.wh, True), some (.agg #[.int .u8 1, .int .u32 q.wh, .int .u32 0], True), some (.agg (thing ce2.vA ce2.vB 1 q.wh 0 ce2.is), True), none, none] SS.out (fun vals => ?_) (fun vals W5 hB hfin hall => ?_) (ea 10 rfl)
  · simp only [ObD, Act.put, qA, qC, qZ]
    refine ⟨?_, ?_, ?_, ?_, ?_, ?_, ?_, ?_, ?o4_8, ?o4_9, ?o4_10, ?o4_11, trivial⟩
    all_goals (intro L W hL hk hC hw; have f := deps hw rfl rfl; simp only [depF, vsP, pw, qS, qD, and_true, true_and] at f)
    case o4_8 => have CL := Lib.hid (purse_any q.wh W); clear hL hC hk hw; refine spD rfl ?_; go_simp; (with_reducible refine CL.out.mono ?_); rintro e w8 ⟨rfl, h2⟩; first | exact sq h2 rfl ⟨rfl, trivial⟩ | exact ⟨_, rfl, sq h2 rfl ⟨rfl, trivial⟩⟩
    case o4_9 =>
      have CL := Lib.hid (look_K SS.out (hC.pre hk) BEG.out (by have := HI.out; omega) CE2.out 1 q.wh 0); clear hL hC hk hw; refine spD rfl ?_; go_simp; (with_reducible refine CL.out.mono ?_); rintro e w8 (⟨h, rfl, h2⟩ | ⟨h1, rfl, hf, H⟩)
      · exact ⟨_, rfl, Did.miss (by unfold oClose; simp only [runOm_bind, run_there S0.out.1 S0.out.2, decide_eq_false (show ¬ hi32 ce0.A ≠ q.wh from fun h => h (HC.out ce0 S0.out.1)), run_deny_no, run_look S1.out, I1.out, if_true, run_look_no h]) h2⟩
      · first | exact kv hf H rfl ⟨rfl, trivial⟩ | exact ⟨_, rfl, kv hf H rfl ⟨rfl, trivial⟩⟩
    case o4_10 => have ZZ := hC.fr.size; clear hL hC hk hw; refine spD rfl ?_; go_simp; exact am ZZ
    case o4_11 => obtain ⟨gt, C, fa, hgt, bx0, hc⟩ := Fw.geta (hw ⟨10, .data⟩ (by simp) rfl) (by decide); obtain ⟨c0, c1, c2, c3, c4, c5, rfl⟩ := arr6 hc; have q := six_cells bx0; have BXX := Lib.hid bx0; have FA := Lib.hid fa; clear bx0 hc; unfold thing at f; clear hL hC hk hw; refine spD rfl ?_; go_simp; exact sm SS.out BEG.out BXX.out hgt FA.out
    all_goals (have c := kn7 hC; clear hL hC hk hw; refine spD rfl ?_; go_simp; first | exact sv rfl ⟨rfl, trivial⟩ | exact ⟨_, rfl, sv rfl ⟨rfl, trivial⟩⟩)
  have S2 := Lib.hid hB.1
  simp only [allF, vsP, pw, true_and, and_true, Nat.reduceAdd] at hall
  obtain ⟨gt2, fa, hgt, bx⟩ := hfin
  simp only [TL, Act.put, qA, qC, qZ, hall, fa]
  replace SS := Lib.hid (SS.out.push BEG.out hB.st SS.out.lt hgt bx)
  clear hall vals hB fa hgt bx
  go_upto_region 8 with fail
  refine wp_SA (D := DP w g q v base i p l seen (oClose q) Rp.enc) 10 11 12 True True (i + 1 + 1 + 1) (l ++ [amt 1 q.wh 0 (ce2.vA + ce1.vA)]) [pw g 0, some (.pointer (some ⟨gt2, 2, none⟩), True), some (.agg #[.int .u8 1, .int .u32 q.wh, .int .u32 0], True), some (.pointer (some ⟨gt2, 0, none⟩), True), some (.pointer (some ⟨gt2, 0, none⟩), True), some (.int .u64 ce2.vA, True), some (.pointer (some ⟨gt1, 0, none⟩), True), some (.pointer (some ⟨gt1, 0, none⟩), True), some (.int .u64 ce1.vA, True), some (.int .u64 (ce2.vA + ce1.vA), Mr ce2.vA ce1.vA), some (.tuple #[], True)] SS.out (fun vals => ?_) (fun vals W6 hB hall => ?_)
  · simp only [ObD, Act.put, qA, qC, qZ]
    refine ⟨?_, ?_, ?o5_2, ?_, ?_, ?o5_5, ?_, ?_, ?o5_8, ?o5_9, ?o5_10, trivial⟩
    all_goals (intro L W hL hk hC hw; have f := deps hw rfl rfl; simp only [depF, vsP, pw, qS, qD, and_true, true_and] at f)
    case' o5_2 => have k2 : W.cell? ⟨gt2, 2, none⟩ = some (.int .u8 1) := (cw_bx hC).1.out.cell 2; have k3 : W.cell? ⟨gt2, 3, none⟩ = some (.int .u32 q.wh) := (cw_bx hC).1.out.cell 3; have k4 : W.cell? ⟨gt2, 4, none⟩ = some (.int .u32 0) := (cw_bx hC).1.out.cell 4
    case' o5_5 => have k0 : W.cell? ⟨gt2, 0, none⟩ = some (.int .u64 ce2.vA) := (cw_bx hC).1.out.cell 0
    case' o5_8 => have k0 : W.cell? ⟨gt1, 0, none⟩ = some (.int .u64 ce1.vA) := (cw_bx hC).2.1.out.cell 0
    case o5_9 =>
      have CL := Lib.hid (more_C (vA_ok HOK.out S2.out) (vA_ok HOK.out S1.out) hC SS.out BEG.out); clear hL hC hk hw; refine spD rfl ?_; go_simp; (with_reducible refine CL.out.mono ?_)
      rintro e w8 (⟨h, rfl, h2⟩ | ⟨h1, rfl, h2⟩)
      · exact ⟨_, rfl, Did.err (by unfold oClose; simp only [runOm_bind, run_there S0.out.1 S0.out.2, decide_eq_false (show ¬ hi32 ce0.A ≠ q.wh from fun h => h (HC.out ce0 S0.out.1)), run_deny_no, run_look S1.out, I1.out, if_true, run_look S2.out, run_more_no h]) h2⟩
      · first | exact sq h2 rfl ⟨rfl, h1⟩ | exact ⟨_, rfl, sq h2 rfl ⟨rfl, h1⟩⟩
    case o5_10 => have CL := Lib.hid (pk SS.out BEG.out (amount_S (hC.pre hk) BEG.out (by have := HL.out; (try simp only [List.length_append, List.length_cons, List.length_nil]); omega) 1 q.wh 0 (ce2.vA + ce1.vA) (show _ = l ++ [amt 1 q.wh 0 (ce2.vA + ce1.vA)] by simp))); clear hL hC hk hw; refine spD rfl ?_; go_simp; (with_reducible refine CL.out.mono ?_); rintro e w8 ⟨rfl, hf, H⟩; first | exact kv hf H rfl ⟨rfl, trivial⟩ | exact ⟨_, rfl, kv hf H rfl ⟨rfl, trivial⟩⟩
    all_goals (have c := kn7 hC; clear hL hC hk hw; refine spD rfl ?_; go_simp; first | exact sv rfl ⟨rfl, trivial⟩ | exact ⟨_, rfl, sv rfl ⟨rfl, trivial⟩⟩)
  have C6 : Hid (Mr ce2.vA ce1.vA) := Lib.hid (vsP_c (hall.get 9))
  simp only [allF, vsP, pw, true_and, and_true, Nat.reduceAdd] at hall
  simp only [TL, Act.put, qA, qC, qZ, hall]
  obtain ⟨p6, hB⟩ := hB.put
  replace SS := Lib.hid hB
  clear hall vals hB
  replace SS := Lib.hid SS.out.drop
  have y0 : W6.cell? ⟨gt1, 1, none⟩ = some (.int .u64 ce1.vB) := SS.out.bx.1.out.cell 1
  have cw : IntKind.u32.wrap ce1.vB = lo32 ce1.vB := wrap_u32 _
  go_upto_region 10 with fail
  clear cw y0
  refine wp_SK (D := DP w g q v base i p l seen (oClose q) Rp.enc) 6 7 8 (seen[i + 1 + 1 + 1]? = some ce3) (i + 1 + 1 + 1 + 1) #[.int .u64 ce3.vA, .int .u64 ce3.vB, .int .u8 3, .int .u32 (lo32 ce1.vB), .int .u32 (lo32 ce0.A), .bool ce3.is] [pw g 0, pw g 0, pw g 7, some (.int .u32 (lo32 ce1.vB), True), some (.int .u32 (lo32 ce0.A), True), some (.agg #[.int .u8 3, .int .u32 (lo32 ce1.vB), .int .u32 (lo32 ce0.A)], True), some (.agg (thing ce3.vA ce3.vB 3 (lo32 ce1.vB) (lo32 ce0.A) ce3.is), True), none, none] SS.out (fun vals => ?_) (fun vals W7 hB hfin hall => ?_) (ea 7 rfl)
  · simp only [ObD, Act.put, qA, qC, qZ]
    refine ⟨?_, ?_, ?_, ?_, ?_, ?o6_5, ?o6_6, ?o6_7, ?o6_8, trivial⟩
    all_goals (intro L W hL hk hC hw; have f := deps hw rfl rfl; simp only [depF, vsP, pw, qS, qD, and_true, true_and] at f)
    case o6_5 => have CL := Lib.hid (stack_any (lo32 ce1.vB) (lo32 ce0.A) W); clear hL hC hk hw; refine spD rfl ?_; go_simp; (with_reducible refine CL.out.mono ?_); rintro e w8 ⟨rfl, h2⟩; first | exact sq h2 rfl ⟨rfl, trivial⟩ | exact ⟨_, rfl, sq h2 rfl ⟨rfl, trivial⟩⟩
    case o6_6 =>
      have CL := Lib.hid (look_K SS.out (hC.pre hk) BEG.out (by have := HI.out; omega) CE3.out 3 (lo32 ce1.vB) (lo32 ce0.A)); clear hL hC hk hw; refine spD rfl ?_; go_simp; (with_reducible refine CL.out.mono ?_); rintro e w8 (⟨h, rfl, h2⟩ | ⟨h1, rfl, hf, H⟩)
      · exact ⟨_, rfl, Did.miss (by unfold oClose; simp only [runOm_bind, run_there S0.out.1 S0.out.2, decide_eq_false (show ¬ hi32 ce0.A ≠ q.wh from fun h => h (HC.out ce0 S0.out.1)), run_deny_no, run_look S1.out, I1.out, if_true, run_look S2.out, run_more C6.out, oAmount, run_put, run_look_no h]) h2⟩
      · first | exact kv hf H rfl ⟨rfl, trivial⟩ | exact ⟨_, rfl, kv hf H rfl ⟨rfl, trivial⟩⟩
    case o6_7 => have ZZ := hC.fr.size; clear hL hC hk hw; refine spD rfl ?_; go_simp; exact am ZZ
    case o6_8 => obtain ⟨gt, C, fa, hgt, bx0, hc⟩ := Fw.geta (hw ⟨7, .data⟩ (by simp) rfl) (by decide); obtain ⟨c0, c1, c2, c3, c4, c5, rfl⟩ := arr6 hc; have q := six_cells bx0; have BXX := Lib.hid bx0; have FA := Lib.hid fa; clear bx0 hc; unfold thing at f; clear hL hC hk hw; refine spD rfl ?_; go_simp; exact sm SS.out BEG.out BXX.out hgt FA.out
    all_goals (have c := kn7 hC; clear hL hC hk hw; refine spD rfl ?_; go_simp; first | exact sv rfl ⟨rfl, trivial⟩ | exact ⟨_, rfl, sv rfl ⟨rfl, trivial⟩⟩)
  have S3 := Lib.hid hB.1
  simp only [allF, vsP, pw, true_and, and_true, Nat.reduceAdd] at hall
  obtain ⟨gt3, fa, hgt, bx⟩ := hfin
  simp only [TL, Act.put, qA, qC, qZ, hall, fa]
  replace SS := Lib.hid (SS.out.push BEG.out hB.st SS.out.lt hgt bx)
  clear hall vals hB fa hgt bx
  go_upto_region 11 with fail
  refine wp_SA (D := DP w g q v base i p l seen (oClose q) Rp.enc) 10 11 12 True True (i + 1 + 1 + 1 + 1) (l ++ [amt 1 q.wh 0 (ce2.vA + ce1.vA), amt 3 (lo32 ce1.vB) (lo32 ce0.A) (ce3.vA + ce0.B)]) [pw g 0, some (.pointer (some ⟨gt3, 2, none⟩), True), some (.agg #[.int .u8 3, .int .u32 (lo32 ce1.vB), .int .u32 (lo32 ce0.A)], True), some (.pointer (some ⟨gt3, 0, none⟩), True), some (.pointer (some ⟨gt3, 0, none⟩), True), some (.int .u64 ce3.vA, True), some (.pointer (some ⟨gt0, 0, none⟩), True), some (.pointer (some ⟨gt0, 1, none⟩), True), some (.int .u64 ce0.B, True), some (.int .u64 (ce3.vA + ce0.B), Mr ce3.vA ce0.B), some (.tuple #[], True)] SS.out (fun vals => ?_) (fun vals W8 hB hall => ?_)
  · simp only [ObD, Act.put, qA, qC, qZ]
    refine ⟨?_, ?_, ?o7_2, ?_, ?_, ?o7_5, ?_, ?_, ?o7_8, ?o7_9, ?o7_10, trivial⟩
    all_goals (intro L W hL hk hC hw; have f := deps hw rfl rfl; simp only [depF, vsP, pw, qS, qD, and_true, true_and] at f)
    case' o7_2 => have k2 : W.cell? ⟨gt3, 2, none⟩ = some (.int .u8 3) := (cw_bx hC).1.out.cell 2; have k3 : W.cell? ⟨gt3, 3, none⟩ = some (.int .u32 (lo32 ce1.vB)) := (cw_bx hC).1.out.cell 3; have k4 : W.cell? ⟨gt3, 4, none⟩ = some (.int .u32 (lo32 ce0.A)) := (cw_bx hC).1.out.cell 4
    case' o7_5 => have k0 : W.cell? ⟨gt3, 0, none⟩ = some (.int .u64 ce3.vA) := (cw_bx hC).1.out.cell 0
    case' o7_8 => have k1 : W.cell? ⟨gt0, 1, none⟩ = some (.int .u64 ce0.B) := (cw_bx hC).2.2.1.out.cell 1
    case o7_9 =>
      have CL := Lib.hid (more_C (vA_ok HOK.out S3.out) (B_ok HOK.out S0.out.1) hC SS.out BEG.out); clear hL hC hk hw; refine spD rfl ?_; go_simp; (with_reducible refine CL.out.mono ?_)
      rintro e w8 (⟨h, rfl, h2⟩ | ⟨h1, rfl, h2⟩)
      · exact ⟨_, rfl, Did.err (by unfold oClose; simp only [runOm_bind, run_there S0.out.1 S0.out.2, decide_eq_false (show ¬ hi32 ce0.A ≠ q.wh from fun h => h (HC.out ce0 S0.out.1)), run_deny_no, run_look S1.out, I1.out, if_true, run_look S2.out, run_more C6.out, oAmount, run_put, run_look S3.out, run_more_no h]) h2⟩
      · first | exact sq h2 rfl ⟨rfl, h1⟩ | exact ⟨_, rfl, sq h2 rfl ⟨rfl, h1⟩⟩
    case o7_10 => have CL := Lib.hid (pk SS.out BEG.out (amount_S (hC.pre hk) BEG.out (by have := HL.out; (try simp only [List.length_append, List.length_cons, List.length_nil]); omega) 3 (lo32 ce1.vB) (lo32 ce0.A) (ce3.vA + ce0.B) (show _ = l ++ [amt 1 q.wh 0 (ce2.vA + ce1.vA), amt 3 (lo32 ce1.vB) (lo32 ce0.A) (ce3.vA + ce0.B)] by simp))); clear hL hC hk hw; refine spD rfl ?_; go_simp; (with_reducible refine CL.out.mono ?_); rintro e w8 ⟨rfl, hf, H⟩; first | exact kv hf H rfl ⟨rfl, trivial⟩ | exact ⟨_, rfl, kv hf H rfl ⟨rfl, trivial⟩⟩
    all_goals (have c := kn7 hC; clear hL hC hk hw; refine spD rfl ?_; go_simp; first | exact sv rfl ⟨rfl, trivial⟩ | exact ⟨_, rfl, sv rfl ⟨rfl, trivial⟩⟩)
  have C8 : Hid (Mr ce3.vA ce0.B) := Lib.hid (vsP_c (hall.get 9))
  simp only [allF, vsP, pw, true_and, and_true, Nat.reduceAdd] at hall
  simp only [TL, Act.put, qA, qC, qZ, hall]
  obtain ⟨p8, hB⟩ := hB.put
  replace SS := Lib.hid hB
  clear hall vals hB
  replace SS := Lib.hid SS.out.drop
  obtain ⟨⟨y0, y1, y2, y3, y4, y5⟩, -⟩ := six_cells SS.out.bx.2.1.out
  have CALL := Lib.hid (gone_S SS.out BEG.out (by have := HL.out; (try simp only [List.length_append, List.length_cons, List.length_nil]); omega) 6 q.id 0 (show _ = l ++ [amt 1 q.wh 0 (ce2.vA + ce1.vA), amt 3 (lo32 ce1.vB) (lo32 ce0.A) (ce3.vA + ce0.B), Pu.mk 6 q.id 0 0 0 true] by simp))
  go_wp2_with fail
  (with_reducible refine CALL.out.mono ?_)
  rintro e W9 ⟨rfl, hf, p9, hs⟩
  replace SS := Lib.hid hs
  clear CALL hf hs y0 y1 y2 y3 y4 y5
  have y0 : W9.cell? ⟨g, 4, none⟩ = some (.int .u32 q.id) := SS.out.kn.c4
  go_wp2_with fail
  (with_reducible refine (price_any q.id _).mono ?_)
  rintro e W10 ⟨rfl, hbl⟩
  clear y0
  replace SS := Lib.hid (SS.out.later hbl)
  clear hbl
  have y0 : W10.cell? ⟨g, 4, none⟩ = some (.int .u32 q.id) := SS.out.kn.c4
  have CALL := Lib.hid (gone_S SS.out BEG.out (by have := HL.out; (try simp only [List.length_append, List.length_cons, List.length_nil]); omega) 7 q.id 1 (show _ = l ++ [amt 1 q.wh 0 (ce2.vA + ce1.vA), amt 3 (lo32 ce1.vB) (lo32 ce0.A) (ce3.vA + ce0.B), Pu.mk 6 q.id 0 0 0 true, Pu.mk 7 q.id 1 0 0 true] by simp))
  go_wp2_with fail
  (with_reducible refine CALL.out.mono ?_)
  rintro e W11 ⟨rfl, hf, p11, hs⟩
  replace SS := Lib.hid hs
  clear CALL hf hs y0
  obtain ⟨⟨y0, y1, y2, y3, y4, y5⟩, -⟩ := six_cells SS.out.bx.1.out
  obtain ⟨⟨y0, y1, y2, y3, y4, y5⟩, -⟩ := six_cells SS.out.bx.1.out
  have CALL := Lib.hid (gone_S SS.out BEG.out (by have := HL.out; (try simp only [List.length_append, List.length_cons, List.length_nil]); omega) 7 q.id 0 (show _ = l ++ [amt 1 q.wh 0 (ce2.vA + ce1.vA), amt 3 (lo32 ce1.vB) (lo32 ce0.A) (ce3.vA + ce0.B), Pu.mk 6 q.id 0 0 0 true, Pu.mk 7 q.id 1 0 0 true, Pu.mk 7 q.id 0 0 0 true] by simp))
  go_wp2_with fail
  (with_reducible refine CALL.out.mono ?_)
  rintro e W12 ⟨rfl, hf, p12, hs⟩
  replace SS := Lib.hid hs
  clear CALL hf hs y0 y1 y2 y3 y4 y5
  have y0 : W12.cell? ⟨gt1, 0, none⟩ = some (.int .u64 ce1.vA) := SS.out.bx.1.out.cell 0
  obtain ⟨⟨z0, z1, z2, z3⟩, x0, x1, x2, x3⟩ := four_cells SS.out.bx.2.2.1.out
  go_wp2
  generalize hW : (World.setCell _ (⟨w.heap.size, 3, none⟩ : Addr) _) = WZ
  have b9 : Box WZ w.heap.size #[.int .u16 0, .int .u64 ce1.vA, .int .u64 0, .int .u64 0] 41 := by
    rw [← hW]
    exact four_box SS.out.bx.2.2.1.out
  have F9 : Hid (Fr (fun x => x = w.heap.size) W12 WZ) := Lib.hid (by
    rw [← hW]
    exact four_fr)
  obtain ⟨⟨v0, v1, v2, v3⟩, -⟩ := four_cells b9
  clear hW b9 z0 z1 z2 z3 x0 x1 x2 x3 y0
  refine bodyPost_ret (v := .agg #[.int .u16 0, .int .u64 ce1.vA, .int .u64 0, .int .u64 0]) (by simp [results, Try.results49, go_sem, v0, v1, v2, v3]; try rfl) rfl ?_
  refine (SS.out.wr BEG.out 2 rfl F9.out).did (y := (⟨ce1.vA, 0, 0⟩, l ++ [amt 1 q.wh 0 (ce2.vA + ce1.vA), amt 3 (lo32 ce1.vB) (lo32 ce0.A) (ce3.vA + ce0.B), Pu.mk 6 q.id 0 0 0 true, Pu.mk 7 q.id 1 0 0 true, Pu.mk 7 q.id 0 0 0 true])) ?_ rfl
  unfold oClose
  simp only [runOm_bind, runOm_pure, run_there S0.out.1 S0.out.2, decide_eq_false (show ¬ hi32 ce0.A ≠ q.wh from fun h => h (HC.out ce0 S0.out.1)), run_deny_no, run_look S1.out, I1.out, if_true, run_look S2.out, run_more C6.out, oAmount, run_put, run_look S3.out, run_more C8.out, oAmount, run_put, oGone, run_put, oGone, run_put, oGone, run_put, oGone, List.append_assoc, List.cons_append, List.nil_append]
  try rfl
theorem close_all (w : World) (g : Nat) (q : Ot) (v : Value) (base i : Nat) (p : Value) (l : List Pu) (seen : List Ce) (hst : St w g q v base i p l) (hs : SeenAt w g v seen) (hg : g < base) (hbase : base ≤ w.heap.size) (hl : l.length ≤ 700) (hi : i ≤ 700000) (hq : q.Ok) (hok : ∀ c ∈ seen, c.Ok) :
    Calls Try.prog 49 #[.pointer (some ⟨g, 0, none⟩)] w (Did w g q v base i p l seen (oClose q) Rp.enc) := by
  obtain ⟨ce, h⟩ := the_cell seen i
  obtain ⟨cf, h'⟩ := the_cell seen (i + 1)
  by_cases h1 : hi32 ce.A = q.wh
  · cases e : cf.is with
    | true => exact close_bid w g q v base i p l seen hst hs hg hbase hl hi hq hok (fun c hc => by rw [h c hc]; exact h1) (fun c hc => by rw [h' c hc]; exact e)
    | false => exact close_none w g q v base i p l seen hst hs hg hbase hl hi hq hok (fun c hc => by rw [h c hc]; exact h1) (fun c hc => by rw [h' c hc]; exact e)
  · exact close_no w g q v base i p l seen hst hs hg hbase hl hi hq hok (fun c hc => by rw [h c hc]; exact h1)
end Go.Proofs.Ytneaehimdmachaa.Rule
namespace Go.Proofs.Ytneaehimdmachaa.Rule
open Go.ChangeShapes Go.WideShapes Go.ChangeAt Go.RowKit Go.IntWalk Go.Proofs.Mem Go.Proofs.Each
set_option linter.unusedVariables false
set_option linter.unusedSimpArgs false
theorem side_n (w : World) (g : Nat) (q : Ot) (v : Value) (i : Int) (p : Value) (hb : WorkAt w g q v i p) (A B k a b : Int) (is : Bool) (hA : 0 ≤ A ∧ A ≤ 18446744073709551615) (n : Int) (h : (q.wh = hi32 A ∧ n = 0) ∨ (q.wh ≠ hi32 A ∧ q.wh = lo32 A ∧ n = 1)) :
    Calls Try.prog 63 #[.pointer (some ⟨g, 0, none⟩), .agg (thing A B k a b is)] w fun e w' => e = .returned (.int .u32 n) ∧ Below w.heap.size w w' := by
  rcases h with ⟨h1, rfl⟩ | ⟨h1, h2, rfl⟩
  · exact side_first w g q v i p hb A B k a b is hA h1
  · exact side_second w g q v i p hb A B k a b is hA h1 h2
theorem oSide_n {q : Ot} {A n : Int} (h : (q.wh = hi32 A ∧ n = 0) ∨ (q.wh ≠ hi32 A ∧ q.wh = lo32 A ∧ n = 1)) : oSide q A = pure n := by
  unfold oSide
  rcases h with ⟨h1, rfl⟩ | ⟨h1, h2, rfl⟩
  · rw [if_pos h1]
  · rw [if_neg h1, if_pos h2]
set_option maxRecDepth 100000 in
set_option maxHeartbeats 8000000 in
theorem offer_none (w : World) (g : Nat) (q : Ot) (v : Value) (base i : Nat) (p : Value) (l : List Pu) (seen : List Ce) (hst : St w g q v base i p l) (hs : SeenAt w g v seen) (hg : g < base) (hbase : base ≤ w.heap.size) (hl : l.length ≤ 700) (hi : i ≤ 700000) (hq : q.Ok) (hok : ∀ c ∈ seen, c.Ok) (hc : ∀ c, seen[i]? = some c → q.wh ≠ hi32 c.A ∧ q.wh ≠ lo32 c.A) :
    Calls Try.prog 44 #[.pointer (some ⟨g, 0, none⟩)] w (Did w g q v base i p l seen (oOffer q) Rp.enc) := by
  have BEG := Lib.hid (Begin.mk hs hg hbase hq hok (fun x hx => hst.own.lt x hx))
  obtain ⟨W0, hW0⟩ : ∃ W0, w.alloc (.cells #[.int .u16 0, .int .u64 0, .int .u64 0, .int .u64 0] 41) = W0 := ⟨_, rfl⟩
  have SS : Hid (ST w g q v base p i p l [.box w.heap.size #[.int .u16 0, .int .u64 0, .int .u64 0, .int .u64 0] 41] W0) := Lib.hid (by rw [← hW0]; exact ST.start hst BEG.out _ _)
  have HI := Lib.hid hi
  have HQ := Lib.hid hq
  have HOK := Lib.hid hok
  have HL := Lib.hid hl
  have HC := Lib.hid hc
  obtain ⟨ce0, hce0⟩ := the_cell seen (i)
  have CE0 := Lib.hid hce0
  clear hst hs hg hbase hl hi hq hok hc hce0
  go_enter Try.func44, Try.ntmps44
  go_upto_region 1 with fail
  try rw [hW0]
  clear hW0
  refine wp_SK (D := DP w g q v base i p l seen (oOffer q) Rp.enc) 9 10 11 (seen[i]? = some ce0 ∧ ce0.is = true) (i + 1) #[.int .u64 ce0.A, .int .u64 ce0.B, .int .u8 4, .int .u32 q.id, .int .u32 0, .bool true] [pw g 0, pw g 0, pw g 7, pw g 0, pw g 0, pw g 0, pw g 4, some (.int .u32 q.id, True), some (.agg #[.int .u8 4, .int .u32 q.id, .int .u32 0], True), some (.agg (thing ce0.A ce0.B 4 q.id 0 true), True), none, none] SS.out (fun vals => ?_) (fun vals W1 hB hfin hall => ?_) (ea 10 rfl)
  · simp only [ObD, Act.put, qA, qC, qZ]
    refine ⟨?_, ?_, ?_, ?_, ?_, ?_, ?_, ?_, ?o0_8, ?o0_9, ?o0_10, ?o0_11, trivial⟩
    all_goals (intro L W hL hk hC hw; have f := deps hw rfl rfl; simp only [depF, vsP, pw, qS, qD, and_true, true_and] at f)
    case o0_8 => have CL := Lib.hid (trade_any q.id W); clear hL hC hk hw; refine spD rfl ?_; go_simp; (with_reducible refine CL.out.mono ?_); rintro e w8 ⟨rfl, h2⟩; first | exact sq h2 rfl ⟨rfl, trivial⟩ | exact ⟨_, rfl, sq h2 rfl ⟨rfl, trivial⟩⟩
    case o0_9 =>
      have CL := Lib.hid (there_K SS.out (hC.pre hk) BEG.out (by have := HI.out; omega) CE0.out 4 q.id 0); clear hL hC hk hw; refine spD rfl ?_; go_simp; (with_reducible refine CL.out.mono ?_); rintro e w8 (⟨h, rfl, h2⟩ | ⟨h, h3, rfl, h2⟩ | ⟨rfl, hf, H⟩)
      · exact ⟨_, rfl, Did.miss (by unfold oOffer; simp only [runOm_bind, run_there_no h]) h2⟩
      · exact ⟨_, rfl, Did.err (by unfold oOffer; simp only [runOm_bind, run_there_not h h3]) h2⟩
      · first | exact kv hf H rfl ⟨rfl, trivial⟩ | exact ⟨_, rfl, kv hf H rfl ⟨rfl, trivial⟩⟩
    case o0_10 => have ZZ := hC.fr.size; clear hL hC hk hw; refine spD rfl ?_; go_simp; exact am ZZ
    case o0_11 => obtain ⟨gt, C, fa, hgt, bx0, hc⟩ := Fw.geta (hw ⟨10, .data⟩ (by simp) rfl) (by decide); obtain ⟨c0, c1, c2, c3, c4, c5, rfl⟩ := arr6 hc; have q := six_cells bx0; have BXX := Lib.hid bx0; have FA := Lib.hid fa; clear bx0 hc; unfold thing at f; clear hL hC hk hw; refine spD rfl ?_; go_simp; exact sm SS.out BEG.out BXX.out hgt FA.out
    all_goals (have c := kn7 hC; clear hL hC hk hw; refine spD rfl ?_; go_simp; first | exact sv rfl ⟨rfl, trivial⟩ | exact ⟨_, rfl, sv rfl ⟨rfl, trivial⟩⟩)
  have S0 := Lib.hid hB.1
  simp only [allF, vsP, pw, true_and, and_true, Nat.reduceAdd] at hall
  obtain ⟨gt0, fa, hgt, bx⟩ := hfin
  simp only [TL, Act.put, qA, qC, qZ, hall, fa]
  replace SS := Lib.hid (SS.out.push BEG.out hB.st SS.out.lt hgt bx)
  clear hall vals hB fa hgt bx
  obtain ⟨⟨y0, y1, y2, y3, y4, y5⟩, -⟩ := six_cells SS.out.bx.1.out
  have CALL := Lib.hid (side_none W1 g q v (i + 1 : Nat) p SS.out.run.out.st.wb ce0.A ce0.B 4 q.id 0 true (A_ok HOK.out S0.out.1) ((HC.out ce0 S0.out.1).1) (HC.out ce0 S0.out.1).2)
  unfold thing at CALL
  go_wp2_with fail
  (with_reducible refine CALL.out.mono ?_)
  rintro e W2 ⟨rfl, hbl⟩
  exact ⟨rfl, Did.err (by unfold oOffer; simp only [runOm_bind, run_there S0.out.1 S0.out.2, oSide, if_neg (HC.out ce0 S0.out.1).1, if_neg (HC.out ce0 S0.out.1).2, run_err_]) (SS.out.run.out.lowB BEG.out hbl)⟩
end Go.Proofs.Ytneaehimdmachaa.Rule
namespace Go.Proofs.Ytneaehimdmachaa.Rule
open Go.ChangeShapes Go.WideShapes Go.ChangeAt Go.RowKit Go.IntWalk Go.Proofs.Mem Go.Proofs.Stk
set_option linter.unusedVariables false
set_option linter.unusedSimpArgs false
section
variable {seen : List Ce} {l : List Pu} {wh : Int}
theorem oLooks_ok : ∀ (xs : List Int) (cs : List Ce) (j : Nat), cs.length = xs.length → (∀ t c, cs[t]? = some c → seen[j + t]? = some c) → runOm seen (oLooks wh xs) j l = .ok (cs.map Ce.vA, l) (j + xs.length)
  | [], cs, j, h, _ => by
    have : cs = [] := List.eq_nil_of_length_eq_zero (by simpa using h)
    subst this; rfl
  | x :: r, [], j, h, _ => by simp at h
  | x :: r, c :: cs, j, h, hs => by
    have h0 : seen[j]? = some c := by simpa using hs 0 c rfl
    have ih := oLooks_ok r cs (j + 1) (by simpa using h) (fun t d hd => by have := hs (t + 1) d (by simpa using hd); rwa [show j + (t + 1) = j + 1 + t by omega] at this)
    unfold oLooks
    rw [runOm_bind, run_look h0]
    simp only [runOm_bind, ih]
    show Re.ok (c.vA :: cs.map Ce.vA, l) (j + 1 + r.length) = _
    rw [show j + (x :: r).length = j + 1 + r.length by simp; omega]
    rfl
theorem oLooks_miss : ∀ (xs : List Int) (cs : List Ce) (j : Nat) (x : Int), xs[cs.length]? = some x → (∀ t c, cs[t]? = some c → seen[j + t]? = some c) → seen[j + cs.length]? = none → runOm seen (oLooks wh xs) j l = .miss 3 wh x
  | [], cs, j, x, h, _, _ => by simp at h
  | y :: r, [], j, x, h, _, hn => by
    have : y = x := by simpa using h
    subst this
    unfold oLooks
    rw [runOm_bind, run_look_no (by simpa using hn)]
  | y :: r, c :: cs, j, x, h, hs, hn => by
    have h0 : seen[j]? = some c := by simpa using hs 0 c rfl
    have ih := oLooks_miss r cs (j + 1) x (by simpa using h) (fun t d hd => by have := hs (t + 1) d (by simpa using hd); rwa [show j + (t + 1) = j + 1 + t by omega] at this) (by rw [← hn]; congr 1; simp; omega)
    unfold oLooks
    rw [runOm_bind, run_look h0]
    simp only [runOm_bind, ih]
def chg (f : Int → Int → Int) : Nat → List Int → List Int → List Int
  | k + 1, x :: xs, a :: ms => f x a :: chg f k xs ms
  | _, _, ms => ms
theorem chg_zero (f : Int → Int → Int) (xs ms : List Int) : chg f 0 xs ms = ms := by cases xs <;> cases ms <;> rfl
theorem chg_len (f : Int → Int → Int) : ∀ (k : Nat) (xs ms : List Int), (chg f k xs ms).length = ms.length
  | 0, xs, ms => by rw [chg_zero]
  | k + 1, [], ms => by unfold chg; rfl
  | k + 1, x :: xs, [] => by unfold chg; rfl
  | k + 1, x :: xs, a :: ms => by unfold chg; simp [chg_len f k xs ms]
theorem chg_at (f : Int → Int → Int) : ∀ (k : Nat) (xs ms : List Int) (i : Nat), k ≤ i → (chg f k xs ms)[i]? = ms[i]?
  | 0, xs, ms, i, _ => by rw [chg_zero]
  | k + 1, [], ms, i, _ => by unfold chg; rfl
  | k + 1, x :: xs, [], i, _ => by unfold chg; rfl
  | k + 1, x :: xs, a :: ms, 0, h => by omega
  | k + 1, x :: xs, a :: ms, i + 1, h => by unfold chg; simpa using chg_at f k xs ms i (by omega)
theorem chg_set (f : Int → Int → Int) : ∀ (k : Nat) (xs ms : List Int) (x a : Int), xs[k]? = some x → ms[k]? = some a → (chg f k xs ms).set k (f x a) = chg f (k + 1) xs ms
  | 0, x :: xs, a :: ms, y, b, hx, ha => by
    have e1 : x = y := by simpa using hx
    have e2 : a = b := by simpa using ha
    subst e1 e2
    rw [chg_zero]; unfold chg; rw [chg_zero]; rfl
  | k + 1, x :: xs, a :: ms, y, b, hx, ha => by
    have ih := chg_set f k xs ms y b (by simpa using hx) (by simpa using ha)
    show f x a :: (chg f k xs ms).set k (f y b) = f x a :: chg f (k + 1) xs ms
    rw [ih]
  | 0, [], ms, y, b, hx, ha => by simp at hx
  | 0, x :: xs, [], y, b, hx, ha => by simp at ha
  | k + 1, [], ms, y, b, hx, ha => by simp at hx
  | k + 1, x :: xs, [], y, b, hx, ha => by simp at ha
theorem oLesses_ok (f : Int → Int) : ∀ (xs ms : List Int) (j : Nat), ms.length = xs.length → (∀ (t : Nat) x a, xs[t]? = some x → ms[t]? = some a → Ls a (f x)) → runOm seen (oLesses f xs ms) j l = .ok (chg (fun x a => a - f x) xs.length xs ms, l) j
  | [], ms, j, h, _ => by
    have : ms = [] := List.eq_nil_of_length_eq_zero (by simpa using h)
    subst this; rfl
  | x :: r, [], j, h, _ => by simp at h
  | x :: r, a :: ms, j, h, hs => by
    have h0 := hs 0 x a rfl rfl
    have ih := oLesses_ok f r ms j (by simpa using h) (fun t y b h1 h2 => hs (t + 1) y b (by simpa using h1) (by simpa using h2))
    unfold oLesses
    rw [runOm_bind, run_less h0.1 h0.2]
    simp only [runOm_bind, ih]
    rfl
theorem oLesses_err (f : Int → Int) : ∀ (xs ms : List Int) (k j : Nat) (x a e : Int), xs[k]? = some x → ms[k]? = some a → (∀ t y b, t < k → xs[t]? = some y → ms[t]? = some b → Ls b (f y)) → (∀ l, runOm seen (oLess a (f x)) j l = .err e) → runOm seen (oLesses f xs ms) j l = .err e
  | [], ms, k, j, x, a, e, hx, _, _, _ => by simp at hx
  | y :: r, [], k, j, x, a, e, _, ha, _, _ => by simp at ha
  | y :: r, b :: ms, 0, j, x, a, e, hx, ha, _, he => by
    have e1 : y = x := by simpa using hx
    have e2 : b = a := by simpa using ha
    subst e1 e2
    unfold oLesses
    rw [runOm_bind, he]
  | y :: r, b :: ms, k + 1, j, x, a, e, hx, ha, hs, he => by
    have h0 := hs 0 y b (by omega) rfl rfl
    have ih := oLesses_err f r ms k j x a e (by simpa using hx) (by simpa using ha) (fun t z c ht h1 h2 => hs (t + 1) z c (by omega) (by simpa using h1) (by simpa using h2)) he
    unfold oLesses
    rw [runOm_bind, run_less h0.1 h0.2]
    simp only [runOm_bind, ih]
theorem oMores_ok (f : Int → Int) : ∀ (xs ms : List Int) (j : Nat), ms.length = xs.length → (∀ (t : Nat) x a, xs[t]? = some x → ms[t]? = some a → Mr a (f x)) → runOm seen (oMores f xs ms) j l = .ok (chg (fun x a => a + f x) xs.length xs ms, l) j
  | [], ms, j, h, _ => by
    have : ms = [] := List.eq_nil_of_length_eq_zero (by simpa using h)
    subst this; rfl
  | x :: r, [], j, h, _ => by simp at h
  | x :: r, a :: ms, j, h, hs => by
    have h0 := hs 0 x a rfl rfl
    have ih := oMores_ok f r ms j (by simpa using h) (fun t y b h1 h2 => hs (t + 1) y b (by simpa using h1) (by simpa using h2))
    unfold oMores
    rw [runOm_bind, run_more h0]
    simp only [runOm_bind, ih]
    rfl
theorem oMores_err (f : Int → Int) : ∀ (xs ms : List Int) (k j : Nat) (x a e : Int), xs[k]? = some x → ms[k]? = some a → (∀ t y b, t < k → xs[t]? = some y → ms[t]? = some b → Mr b (f y)) → (∀ l, runOm seen (oMore a (f x)) j l = .err e) → runOm seen (oMores f xs ms) j l = .err e
  | [], ms, k, j, x, a, e, hx, _, _, _ => by simp at hx
  | y :: r, [], k, j, x, a, e, _, ha, _, _ => by simp at ha
  | y :: r, b :: ms, 0, j, x, a, e, hx, ha, _, he => by
    have e1 : y = x := by simpa using hx
    have e2 : b = a := by simpa using ha
    subst e1 e2
    unfold oMores
    rw [runOm_bind, he]
  | y :: r, b :: ms, k + 1, j, x, a, e, hx, ha, hs, he => by
    have h0 := hs 0 y b (by omega) rfl rfl
    have ih := oMores_err f r ms k j x a e (by simpa using hx) (by simpa using ha) (fun t z c ht h1 h2 => hs (t + 1) z c (by omega) (by simpa using h1) (by simpa using h2)) he
    unfold oMores
    rw [runOm_bind, run_more h0]
    simp only [runOm_bind, ih]
def amts (wh : Int) : List Int → List Int → List Pu
  | x :: xs, a :: ms => amt 3 wh x a :: amts wh xs ms
  | _, _ => []
theorem amts_take (wh : Int) : ∀ (xs ms : List Int) (k : Nat) (x a : Int), xs[k]? = some x → ms[k]? = some a → (amts wh xs ms).take (k + 1) = (amts wh xs ms).take k ++ [amt 3 wh x a]
  | [], ms, k, x, a, hx, _ => by simp at hx
  | y :: r, [], k, x, a, _, ha => by simp at ha
  | y :: r, b :: ms, 0, x, a, hx, ha => by
    have e1 : y = x := by simpa using hx
    have e2 : b = a := by simpa using ha
    subst e1 e2
    rfl
  | y :: r, b :: ms, k + 1, x, a, hx, ha => by
    have ih := amts_take wh r ms k x a (by simpa using hx) (by simpa using ha)
    show amt 3 wh y b :: (amts wh r ms).take (k + 1) = amt 3 wh y b :: (amts wh r ms).take k ++ [amt 3 wh x a]
    rw [ih]; rfl
theorem amts_len (wh : Int) : ∀ (xs ms : List Int), ms.length = xs.length → (amts wh xs ms).length = xs.length
  | [], ms, _ => by unfold amts; rfl
  | x :: xs, [], h => by simp at h
  | x :: xs, a :: ms, h => by unfold amts; simp [amts_len wh xs ms (by simpa using h)]
theorem oAmounts_ok : ∀ (xs ms : List Int) (j : Nat) (l : List Pu), runOm seen (oAmounts wh xs ms) j l = .ok ((), l ++ amts wh xs ms) j
  | [], ms, j, l => by unfold oAmounts amts; simp; rfl
  | x :: r, [], j, l => by unfold oAmounts amts; simp; rfl
  | x :: r, a :: ms, j, l => by
    unfold oAmounts amts
    rw [runOm_bind]
    simp only [oAmount, run_put]
    rw [oAmounts_ok r ms j (l ++ [amt 3 wh x a])]
    simp
end
def thC (t : Th) : List Value := [.int .u64 t.A, .int .u64 t.B, .int .u8 t.k, .int .u32 t.a, .int .u32 t.b, .bool t.is]
def pileC (ts : List Th) : Array Value := (ts.flatMap thC).toArray
theorem pileC_size (ts : List Th) : (pileC ts).size = ts.length * 6 := by
  induction ts with
  | nil => rfl
  | cons t r ih => simp [pileC, thC] at ih ⊢; omega
theorem pileC_at : ∀ (ts : List Th) (j : Nat) (t : Th), ts[j]? = some t → (pileC ts)[j * 6]? = some (.int .u64 t.A) ∧ (pileC ts)[j * 6 + 1]? = some (.int .u64 t.B) ∧ (pileC ts)[j * 6 + 2]? = some (.int .u8 t.k) ∧ (pileC ts)[j * 6 + 3]? = some (.int .u32 t.a) ∧ (pileC ts)[j * 6 + 4]? = some (.int .u32 t.b) ∧ (pileC ts)[j * 6 + 5]? = some (.bool t.is)
  | [], j, t, h => by simp at h
  | u :: r, 0, t, h => by
    have : u = t := by simpa using h
    subst this
    refine ⟨rfl, rfl, rfl, rfl, rfl, rfl⟩
  | u :: r, j + 1, t, h => by
    have ih := pileC_at r j t (by simpa using h)
    have key : ∀ n, (pileC (u :: r))[(j + 1) * 6 + n]? = (pileC r)[j * 6 + n]? := fun n => by
      have e : pileC (u :: r) = (thC u ++ r.flatMap thC).toArray := by simp [pileC]
      rw [e, show (j + 1) * 6 + n = j * 6 + n + (thC u).length by simp [thC]; omega]
      simp only [List.getElem?_toArray, pileC]
      rw [List.getElem?_append_right (by omega), Nat.add_sub_cancel]
    refine ⟨(key 0).trans ih.1, (key 1).trans ih.2.1, (key 2).trans ih.2.2.1, (key 3).trans ih.2.2.2.1, (key 4).trans ih.2.2.2.2.1, (key 5).trans ih.2.2.2.2.2⟩
theorem pileC_app (ts : List Th) (t : Th) : pileC (ts ++ [t]) = (pileC ts) ++ (thC t).toArray := by simp [pileC]
theorem pileC_set : ∀ (ts : List Th) (j : Nat) (t : Th) (x : Int), ts[j]? = some t → (pileC ts).setIfInBounds (j * 6) (.int .u64 x) = pileC (ts.set j { t with A := x })
  | [], j, t, x, h => by simp at h
  | u :: r, 0, t, x, h => by
    have : u = t := by simpa using h
    subst this
    simp [pileC, thC]
  | u :: r, j + 1, t, x, h => by
    have ih := pileC_set r j t x (by simpa using h)
    have e : pileC (u :: r) = (thC u).toArray ++ pileC r := by simp [pileC]
    have e2 : pileC ((u :: r).set (j + 1) { t with A := x }) = (thC u).toArray ++ pileC (r.set j { t with A := x }) := by simp [pileC]
    rw [e, e2, ← ih]
    apply Array.ext'
    rw [Array.toList_setIfInBounds]
    simp only [Array.toList_append]
    rw [List.set_append_right _ _ (by simp [thC]; omega)]
    rw [Array.toList_setIfInBounds]
    congr 2
    simp [thC]; omega
def ths (wh : Int) : List Int → List Ce → List Int → List Th
  | x :: xs, c :: cs, a :: ms => ⟨a, c.vB, 3, wh, x, c.is⟩ :: ths wh xs cs ms
  | _, _, _ => []
theorem ths_at (wh : Int) : ∀ (xs : List Int) (cs : List Ce) (ms : List Int) (k : Nat) (x : Int) (c : Ce) (a : Int), xs[k]? = some x → cs[k]? = some c → ms[k]? = some a → (ths wh xs cs ms)[k]? = some ⟨a, c.vB, 3, wh, x, c.is⟩
  | [], cs, ms, k, x, c, a, hx, _, _ => by simp at hx
  | y :: xs, [], ms, k, x, c, a, _, hc, _ => by simp at hc
  | y :: xs, d :: cs, [], k, x, c, a, _, _, ha => by simp at ha
  | y :: xs, d :: cs, b :: ms, 0, x, c, a, hx, hc, ha => by
    have e1 : y = x := by simpa using hx
    have e2 : d = c := by simpa using hc
    have e3 : b = a := by simpa using ha
    subst e1 e2 e3; rfl
  | y :: xs, d :: cs, b :: ms, k + 1, x, c, a, hx, hc, ha => by
    have := ths_at wh xs cs ms k x c a (by simpa using hx) (by simpa using hc) (by simpa using ha)
    simpa [ths] using this
theorem ths_set (wh : Int) : ∀ (xs : List Int) (cs : List Ce) (ms : List Int) (k : Nat) (x : Int) (c : Ce) (a b : Int), xs[k]? = some x → cs[k]? = some c → ms[k]? = some a → (ths wh xs cs ms).set k ⟨b, c.vB, 3, wh, x, c.is⟩ = ths wh xs cs (ms.set k b)
  | [], cs, ms, k, x, c, a, b, hx, _, _ => by simp at hx
  | y :: xs, [], ms, k, x, c, a, b, _, hc, _ => by simp at hc
  | y :: xs, d :: cs, [], k, x, c, a, b, _, _, ha => by simp at ha
  | y :: xs, d :: cs, e :: ms, 0, x, c, a, b, hx, hc, ha => by
    have e1 : y = x := by simpa using hx
    have e2 : d = c := by simpa using hc
    subst e1 e2; rfl
  | y :: xs, d :: cs, e :: ms, k + 1, x, c, a, b, hx, hc, ha => by
    have := ths_set wh xs cs ms k x c a b (by simpa using hx) (by simpa using hc) (by simpa using ha)
    simpa [ths] using this
theorem ths_snoc (wh : Int) : ∀ (xs : List Int) (cs : List Ce) (x : Int) (c : Ce), xs[cs.length]? = some x → ths wh xs (cs ++ [c]) ((cs ++ [c]).map Ce.vA) = ths wh xs cs (cs.map Ce.vA) ++ [⟨c.vA, c.vB, 3, wh, x, c.is⟩]
  | [], cs, x, c, h => by simp at h
  | y :: xs, [], x, c, h => by
    have e1 : y = x := by simpa using h
    subst e1
    cases xs <;> rfl
  | y :: xs, d :: cs, x, c, h => by
    have := ths_snoc wh xs cs x c (by simpa using h)
    simpa [ths] using this
end Go.Proofs.Ytneaehimdmachaa.Rule
namespace Go.Proofs.Ytneaehimdmachaa.Rule
open Go.ChangeShapes Go.WideShapes Go.ChangeAt Go.RowKit Go.IntWalk Go.Proofs.Mem Go.Proofs.Stk
set_option linter.unusedVariables false
set_option linter.unusedSimpArgs false
theorem stack_info : (Try.prog.info? 104).map (fun i => (i.zero, i.size, i.bytes)) = some (some (.agg #[.int .u32 0, .int .u64 0]), 2, 16) := by kernel_rfl
set_option maxRecDepth 100000 in
set_option maxHeartbeats 4000000 in
theorem grow_stacks (n : Nat) (h0 : 0 < n) (hn : n ≤ 10000) (w : World) : Calls Try.prog 78 #[.slice none 0 0, .int .i64 n] w fun e w' => ∃ v, e = .returned v ∧ w'.ownsRow w.heap.size 104 2 v 0 ([] : List Value) ∧ Below w.heap.size w w' := by
  obtain ⟨i0, hi0, hz0, hz1, hz2⟩ := info_parts stack_info
  have h1 : ¬ ((n : Int) < 0) := by omega
  have d1 : decide ((n : Int) < 0) = false := by simp
  have h3 : wrap64 ((n : Int) - 0) = (n : Int) := by unfold wrap64; omega
  have d4 : decide (0 < (n : Int)) = true := by simp; omega
  have hrz : ∀ ty, (Builtin.append_ #[75, 3] ty #[.slice none 0 0, .int .i64 n]).run Try.prog w = .ok (.slice (some ⟨w.heap.size, 0, none⟩) n (grownCap w n 0 104)) (w.drew.alloc (.cells (#[] ++ Builtin.zeroCells (Value.agg #[.int .u32 0, .int .u64 0]).cells n ++ Builtin.zeroCells (Value.agg #[.int .u32 0, .int .u64 0]).cells (grownCap w n 0 104 - n)) 104)) := fun ty => by
    have h := Lib.run_append_grow_zeros w 75 3 ty 104 i0 (.agg #[.int .u32 0, .int .u64 0]) .i64 .i64 Try.underlying75 Try.underlying3 hi0 hz0 none 0 0 [] (run_firstCells_none w.drew i0.size 0 0 0) n (by omega) (by omega) (by omega) (by omega)
      (by rw [hz2]; omega)
      (by rw [Nat.zero_add]; exact growslice_fits (by omega) (by rw [hz2]; omega))
    rw [Nat.zero_add] at h
    exact h
  have hGn : n ≤ grownCap w n 0 104 := grownCap_ge w _ _ _
  have hGm := grownCap_le_maxLen w n 0 104 (by unfold maxLen; omega)
  obtain ⟨G, hG⟩ : ∃ G, G = grownCap w n 0 104 := ⟨_, rfl⟩
  rw [← hG] at hrz hGn hGm
  clear hG
  have hG63 : G ≤ 9223372036854775807 := by unfold maxLen at hGm; omega
  have HR := Lib.hid hrz
  clear hrz
  go_enter Try.func78, Try.ntmps78
  go_wp2_with (at_builtin; refine Lib.wpList_append_run _ rfl _ _ _ _ rfl _ _ rfl rfl _ _ (HR.out _) ?_)
  go_ret
  refine ⟨_, rfl, ⟨rfl, .inr ⟨w.heap.size, G, _, rfl, Nat.le_refl _, heap_alloc_new w.drew _, Nat.zero_le _, hGm, ?_, ?_⟩⟩, new_ (Below.drew (Below.refl _ _)) _⟩
  · simp [size_zeroCells]; omega
  · simp
theorem kr_news {w : World} {B : Nat} {b off n c : Nat} {l : List Pr} (h : KR w B (.slice (some ⟨b, off, none⟩) n c) l) : ∀ (j : Nat) (u : Value), (flat l)[j]? = some u → w.cell? ((⟨b, off, none⟩ : Addr).add j) = some u := fun j u hu => by
  obtain ⟨A, c', e, _, _, h5⟩ := h
  injection e with e1 e2 e3
  subst e1
  obtain ⟨b', off', e, _, hc⟩ := h5 j u hu
  injection e with e
  injection e with e1 e2
  subst e1 e2
  rw [Go.WideShapes.add_plain]
  exact hc
theorem flat_one (l : List Pr) : ∀ u ∈ flat l, u.oneCell' = true := by
  intro u hu
  unfold flat at hu
  simp only [List.mem_flatMap] at hu
  obtain ⟨p, _, hp⟩ := hu
  simp at hp
  rcases hp with rfl | rfl <;> rfl
set_option maxRecDepth 100000 in
set_option maxHeartbeats 8000000 in
theorem concat_two (b : Nat) (b1 o1 b2 o2 n1 n2 c1 c2 : Nat) (l1 l2 : List Pr) (w : World) (e1 : n1 = l1.length) (e2 : n2 = l2.length) (hb0 : w.cell? ⟨b, 0, none⟩ = some (.slice (some ⟨b1, o1, none⟩) n1 c1)) (hb1 : w.cell? ⟨b, 1, none⟩ = some (.slice (some ⟨b2, o2, none⟩) n2 c2))
    (k1 : KR w w.heap.size (.slice (some ⟨b1, o1, none⟩) n1 c1) l1) (k2 : KR w w.heap.size (.slice (some ⟨b2, o2, none⟩) n2 c2) l2) (p1 : 0 < n1 ∧ n1 ≤ 1000) (p2 : 0 < n2 ∧ n2 ≤ 1000) :
    Calls Try.prog 72 #[.slice (some ⟨b, 0, none⟩) 2 2] w fun e w' => ∃ u, e = .returned u ∧ w'.ownsRow w.heap.size 104 2 u (n1 + n2) (flat (l1 ++ l2)) ∧ Below w.heap.size w w' := by
  obtain ⟨i0, hi0, hz0, hz1, hz2⟩ := info_parts stack_info
  obtain ⟨N, hN⟩ : ∃ N : Nat, N = n1 + n2 := ⟨_, rfl⟩
  have GR := Lib.hid (grow_stacks N (by omega) (by omega) w)
  have s1 : (n1 : Int) + (n2 : Int) = (N : Int) := by omega
  have s2 : decide ((N : Int) < 0) = false := by simp
  have s3 : decide ((n1 : Int) < 0) = false := by simp
  have hb : b < w.heap.size := Law.lt_of_cell hb0
  have B0 := Lib.hid hb0
  have B1 := Lib.hid hb1
  have K1 := Lib.hid k1
  have K2 := Lib.hid k2
  have P1 := Lib.hid p1
  have P2 := Lib.hid p2
  have E1 := Lib.hid e1
  have E2 := Lib.hid e2
  have HN := Lib.hid hN
  have hn1 : (n1 : Int) ≤ 1000 := by omega
  have hn2 : (n2 : Int) ≤ 1000 := by omega
  have hnN : (N : Int) ≤ 2000 := by omega
  clear k1 k2 p1 p2 e1 e2 hN
  go_enter Try.func72, Try.ntmps72
  go_wp2
  refine wp_loop_rounds 3 ?_
  rw [rounds_succ]
  go_wp2
  rw [rounds_succ]
  go_wp2
  rw [rounds_succ]
  go_wp2_with fail
  (with_reducible refine GR.out.mono ?_)
  rintro e w1 ⟨u1, rfl, hu1, hbl⟩
  have HU1 := Lib.hid hu1
  have HB1 := Lib.hid hbl
  clear hu1 hbl hb0 hb1
  have hb0 : w1.cell? ⟨b, 0, none⟩ = some (.slice (some ⟨b1, o1, none⟩) n1 c1) := (HB1.out.cell (p := ⟨b, 0, none⟩) hb).trans B0.out
  go_wp2
  refine wp_loop_rounds 3 ?_
  rw [rounds_succ]
  go_wp2_with (at_builtin; refine wpList_append_lies _ rfl _ _ _ rfl w.heap.size 104 i0 _ 2 16 Try.underlying75 hi0 hz0 hz1 hz2 rfl (by omega) u1 0 [] rfl HU1.out ⟨b1, o1, none⟩ n1 c1 (flat l1) rfl (by rw [flat_len, E1.out]) (kr_news (K1.out.below HB1.out)) (flat_one l1) P1.out.1 (by have := P1.out; unfold maxLen; omega) (by have := P1.out; omega) HB1.out.size _ rfl ?_; intro g2 cap2 w2 hown2 hgr2 hat2 hlt2; rw [Nat.zero_add, List.nil_append] at hown2)
  have HB2 := Lib.hid (HB1.out.trans (((Fr.refl (fun x => u1.ownBlock = some x) w1).grown hgr2 (fun x e => .inl e)).to_below (fun x hx => (HU1.out.lt x hx).1) HB1.out.size))
  have HU2 := Lib.hid hown2
  clear hown2 hgr2 hat2 hlt2 hb0
  have hb1 : w2.cell? ⟨b, 1, none⟩ = some (.slice (some ⟨b2, o2, none⟩) n2 c2) := (HB2.out.cell (p := ⟨b, 1, none⟩) hb).trans B1.out
  rw [rounds_succ]
  go_wp2_with (at_builtin; refine wpList_append_lies _ rfl _ _ _ rfl w.heap.size 104 i0 _ 2 16 Try.underlying75 hi0 hz0 hz1 hz2 rfl (by omega) (.slice (some ⟨g2, 0, none⟩) n1 cap2) n1 (flat l1) rfl HU2.out ⟨b2, o2, none⟩ n2 c2 (flat l2) rfl (by rw [flat_len, E2.out]) (kr_news (K2.out.below HB2.out)) (flat_one l2) P2.out.1 (by have := P1.out; have := P2.out; unfold maxLen; omega) (by have := P1.out; have := P2.out; omega) HB2.out.size _ rfl ?_; intro g3 cap3 w3 hown3 hgr3 hat3 hlt3)
  have HB3 := Lib.hid (HB2.out.trans (((Fr.refl (fun x => (Value.slice (some ⟨g2, 0, none⟩) n1 cap2).ownBlock = some x) w2).grown hgr3 (fun x e => .inl e)).to_below (fun x hx => (HU2.out.lt x hx).1) HB2.out.size))
  have HU3 := Lib.hid hown3
  clear hown3 hgr3 hat3 hlt3 hb1
  rw [rounds_succ]
  go_wp2
  go_ret
  exact ⟨_, rfl, by rw [flat_app]; exact HU3.out, HB3.out⟩
end Go.Proofs.Ytneaehimdmachaa.Rule
namespace Go.Proofs.Ytneaehimdmachaa.Rule
open Go.ChangeShapes Go.WideShapes Go.ChangeAt Go.RowKit Go.IntWalk Go.Proofs.Mem Go.Proofs.Stk
set_option linter.unusedVariables false
set_option linter.unusedSimpArgs false
theorem nan_any (x : Int) (w : World) : Calls Try.prog 98 #[.int .u32 x] w fun e w' => e = .returned (.bool false) ∧ w' = w := by
  have d : (x != x) = false := by simp
  go_enter Try.func98, Try.ntmps98
  go_wp2
  go_ret
  exact ⟨by simp, rfl⟩
theorem less_u32 (x y : Int) (w : World) : Calls Try.prog 88 #[.int .u32 x, .int .u32 y] w fun e w' => e = .returned (.bool (decide (x < y))) ∧ w' = w := by
  obtain ⟨b, hb⟩ : ∃ b, b = decide (x < y) := ⟨_, rfl⟩
  rw [← hb]
  have d := hb.symm
  clear hb
  go_enter Try.func88, Try.ntmps88
  go_wp2_with (first | (go_at_call 98; (with_reducible refine (nan_any _ _).mono ?_); rintro e w1 ⟨rfl, rfl⟩))
  go_ret
  exact ⟨rfl, rfl⟩
def Row32 (W : World) (gg n cap : Nat) (xs : List Int) : Prop := W.ownsRow gg 22 1 (.slice (some ⟨gg, 0, none⟩) n cap) n (xs.map (.int .u32))
section
variable {W W' : World} {gg n cap : Nat} {xs : List Int} {S : Nat → Prop}
theorem Row32.box (h : Row32 W gg n cap xs) : ∃ cur, Box W gg cur 22 ∧ cur.size = cap ∧ n ≤ cap ∧ cap ≤ maxLen ∧ xs.length = n ∧ cur.toList.take n = xs.map (.int .u32) := by
  obtain ⟨h1, h2 | ⟨g, c, cur, e, hb, hg, hn, hc, hs, ht⟩⟩ := h
  · cases h2.1
  · injection e with e1 e2 e3
    injection e1 with e1
    injection e1 with e1
    subst e1 e3
    exact ⟨cur, hg, by simpa using hs, hn, hc, by simpa using h1, by simpa using ht⟩
theorem Row32.cell (h : Row32 W gg n cap xs) (i : Nat) {x : Int} (hx : xs[i]? = some x) : W.cell? ⟨gg, i, none⟩ = some (.int .u32 x) := by
  obtain ⟨cur, hb, hs, hn, _, hl, ht⟩ := h.box
  have hi : i < xs.length := (List.getElem?_eq_some_iff.1 hx).1
  have h2 : (xs.map (Value.int .u32))[i]? = some (.int .u32 x) := by simp [hx]
  rw [← ht, List.getElem?_take, if_pos (by omega)] at h2
  rw [hb.cell i]
  simpa using h2
theorem Row32.frozen (h : Row32 W gg n cap xs) (i : Nat) : W.frozen? ⟨gg, i, none⟩ = false := by
  obtain ⟨cur, hb, _⟩ := h.box
  exact hb.frozen i
theorem Row32.lt (h : Row32 W gg n cap xs) : gg < W.heap.size := by
  obtain ⟨cur, hb, _⟩ := h.box
  exact hb.lt
theorem Row32.len (h : Row32 W gg n cap xs) : xs.length = n := by
  obtain ⟨cur, _, _, _, _, hl, _⟩ := h.box
  exact hl
theorem Row32.drewN (h : Row32 W gg n cap xs) (d : Nat) : Row32 (W.drewN d) gg n cap xs := h
theorem Row32.drew (h : Row32 W gg n cap xs) : Row32 W.drew gg n cap xs := h
theorem Row32.later (h : Row32 W gg n cap xs) (hb : Below W.heap.size W W') : Row32 W' gg n cap xs := own_below h hb
theorem Row32.set_ (h : Row32 W gg n cap xs) (i : Nat) (x : Int) (hi : i < n) : Row32 (W.setCell ⟨gg, i, none⟩ (.int .u32 x)) gg n cap (xs.set i x) := by
  obtain ⟨cur, hb, hs, hn, hc, hl, ht⟩ := h.box
  refine ⟨by simp [hl], .inr ⟨gg, cap, cur.setIfInBounds i (.int .u32 x), rfl, Nat.le_refl _, Box.set_ hb i _, hn, hc, by simpa using hs, ?_⟩⟩
  rw [Array.toList_setIfInBounds, Nat.mul_one, List.take_set, ht, List.map_set]
def swp (xs : List Int) (j : Nat) : List Int := (xs.set j (xs.getD (j - 1) 0)).set (j - 1) (xs.getD j 0)
def down : Nat → List Int → List Int
  | 0, xs => xs
  | j + 1, xs => if xs.getD (j + 1) 0 < xs.getD j 0 then down j (swp xs (j + 1)) else xs
def isort (n : Nat) (xs : List Int) : List Int := (List.range (n - 1)).foldl (fun ys k => down (k + 1) ys) xs
end
end Go.Proofs.Ytneaehimdmachaa.Rule
namespace Go.Proofs.Ytneaehimdmachaa.Rule
open Go.ChangeShapes Go.WideShapes Go.ChangeAt Go.RowKit Go.IntWalk Go.Proofs.Mem Go.Proofs.Stk
set_option linter.unusedVariables false
set_option linter.unusedSimpArgs false
def isortTo (k : Nat) (xs : List Int) : List Int := (List.range (k - 1)).foldl (fun ys k => down (k + 1) ys) xs
theorem isortTo_succ (k : Nat) (hk : 1 ≤ k) (xs : List Int) : isortTo (k + 1) xs = down k (isortTo k xs) := by
  unfold isortTo
  rw [show k + 1 - 1 = (k - 1) + 1 by omega, List.range_succ, List.foldl_append]
  simp only [List.foldl_cons, List.foldl_nil]
  rw [show k - 1 + 1 = k by omega]
set_option maxRecDepth 100000 in
set_option maxHeartbeats 4000000 in
theorem isort_any (w : World) (gg n cap : Nat) (xs : List Int) (h : Row32 w gg n cap xs) (h1 : 1 ≤ n) (hn : n ≤ 12) :
    Calls Try.prog 82 #[.slice (some ⟨gg, 0, none⟩) n cap, .int .i64 0, .int .i64 n] w fun e w' => e = .returned (.tuple #[]) ∧ Row32 w' gg n cap (isortTo n xs) ∧ Fr (fun x => x = gg) w w' := by
  have HR := Lib.hid h
  have HC := Lib.hid (show n ≤ cap by obtain ⟨cur, _, _, hc, _⟩ := h.box; exact hc)
  have H1 := Lib.hid h1
  clear h h1
  go_enter Try.func82, Try.ntmps82
  go_wp2
  go_loopw [6] (fun s wr => ∃ k : Nat, 1 ≤ k ∧ k ≤ n ∧ s = .int .i64 k ∧ Hid (Row32 wr gg n cap (isortTo k xs)) ∧ Hid (Fr (fun x => x = gg) w wr)) (fun s _ => n - (intOf s).toNat)
  case atStart => exact ⟨1, by omega, H1.out, rfl, HR, Lib.hid (Fr.refl _ _)⟩
  case round =>
    obtain ⟨k, hk1, hk, rfl, HO, HF⟩ := hrel
    obtain ⟨w1, rfl⟩ : ∃ w1, w1 = wr := ⟨wr, rfl⟩
    by_cases hl : k < n
    · have d1 : decide ((k : Int) < (n : Int)) = true := by simp; omega
      go_wp2
      have hk12 : (k : Int) ≤ 12 := by omega
      obtain ⟨k', hk'⟩ : ∃ k', k' = k + 1 := ⟨_, rfl⟩
      have hks : (k : Int) + 1 = (k' : Int) := by omega
      have HK := Lib.hid hk'
      clear hk'
      go_loopw [7] (fun s wr => ∃ (j : Nat) (ys : List Int), j ≤ k ∧ s = .int .i64 j ∧ Hid (Row32 wr gg n cap ys) ∧ Hid (down j ys = isortTo (k + 1) xs) ∧ Hid (Fr (fun x => x = gg) w wr)) (fun s _ => (intOf s).toNat)
      case atStart => exact ⟨k, _, Nat.le_refl _, rfl, HO, Lib.hid (isortTo_succ k hk1 xs).symm, HF⟩
      case round =>
        obtain ⟨j, ys, hj, rfl, HY, HD, HG⟩ := hrel
        obtain ⟨w2, rfl⟩ : ∃ w2, w2 = wr := ⟨wr, rfl⟩
        have hlen := HY.out.len
        match j, hj, HD with
        | 0, hj, HD =>
          have d2 : decide ((0 : Int) < 0) = false := by simp
          go_upto_region 4 with fail
          go_quiet (fail)
          go_wp2
          go_roundw
          case rel => exact ⟨k', by have := HK.out; omega, by have := HK.out; omega, rfl, Lib.hid (by rw [HK.out, ← HD.out]; exact HY.out.drewN nq), Lib.hid (HG.out.drewN nq)⟩
          case measure => simp [intOf]; have := HK.out; omega
        | j + 1, hj, HD =>
          obtain ⟨a, ha⟩ : ∃ a, ys[j + 1]? = some a := ⟨_, List.getElem?_eq_getElem (by omega)⟩
          obtain ⟨b, hb⟩ : ∃ b, ys[j]? = some b := ⟨_, List.getElem?_eq_getElem (by omega)⟩
          have ca := fun d => (HY.out.drewN d).cell (j + 1) ha
          have cb := fun d => (HY.out.drewN d).cell j hb
          have d2 : decide ((0 : Int) < ((j + 1 : Nat) : Int)) = true := by simp
          have s2 : ((j + 1 : Nat) : Int) - 1 = (j : Int) := by omega
          by_cases hab : a < b
          · have d3 : decide (a < b) = true := decide_eq_true hab
            go_upto_region 4 with fail
            go_quiet (first | (go_at_call 88; exact quiet_l ((less_u32 a b _).mono (fun e w' ⟨h1, h2⟩ => ⟨h1, h2.symm⟩))))
            have hd : down (j + 1) ys = down j ((ys.set (j + 1) b).set j a) := by
              conv => lhs; unfold down
              rw [if_pos (by simp only [List.getD_eq_getElem?_getD, ha, hb, Option.getD_some]; exact hab)]
              unfold swp
              simp only [List.getD_eq_getElem?_getD, ha, hb, Option.getD_some, Nat.add_sub_cancel]
            have HDD := Lib.hid hd
            have fa := fun d => (HY.out.drewN d).frozen (j + 1)
            have fb := fun d => (HY.out.drewN d).frozen j
            clear hd
            go_upto_region 6 with fail
            go_region
            go_wp2
            go_roundw
            case rel => exact ⟨j, (ys.set (j + 1) b).set j a, by omega, rfl, Lib.hid (((HY.out.drewN (nq + 1)).set_ (j + 1) b (by omega)).set_ j a (by omega)), Lib.hid (by rw [← HDD.out]; exact HD.out), Lib.hid (((HG.out.drewN (nq + 1)).setCell (p := ⟨gg, j + 1, none⟩) (.inl rfl) _).setCell (p := ⟨gg, j, none⟩) (.inl rfl) _)⟩
            case measure => simp [intOf]
          · have d3 : decide (a < b) = false := decide_eq_false hab
            go_upto_region 4 with fail
            go_quiet (first | (go_at_call 88; exact quiet_l ((less_u32 a b _).mono (fun e w' ⟨h1, h2⟩ => ⟨h1, h2.symm⟩))))
            have hd : down (j + 1) ys = ys := by
              unfold down
              rw [if_neg]
              simp only [List.getD_eq_getElem?_getD, ha, hb, Option.getD_some]
              exact hab
            have HDD := Lib.hid hd
            clear hd
            go_wp2
            go_roundw
            case rel => exact ⟨k', by have := HK.out; omega, by have := HK.out; omega, rfl, Lib.hid (by rw [HK.out, ← HD.out, HDD.out]; exact HY.out.drewN nq), Lib.hid (HG.out.drewN nq)⟩
            case measure => simp [intOf]; have := HK.out; omega
    · have d1 : decide ((k : Int) < (n : Int)) = false := by simp; omega
      obtain rfl : k = n := by omega
      go_wp2
      go_end0
      exact ⟨rfl, HO.out, HF.out⟩
end Go.Proofs.Ytneaehimdmachaa.Rule
