import Derived.Test.YtneaehimdmachaaFr
import Derived.Test.YtneaehimdmachaaRm0
import Derived.Test.YtneaehimdmachaaRm1
import Derived.Test.YtneaehimdmachaaRm2
import Derived.Test.YtneaehimdmachaaRm3
import Derived.BigQuiet
import Derived.Deep.AppendLies
import Derived.Deep.DrawnRows
import Derived.Deep.QuietTactic
import Derived.Deep.RegionHeld3
import Derived.Deep.RegionWith
import Derived.Handy
import Derived.IntWalk
import Derived.Lib.Hide
import Derived.ProofKit
import Derived.WalkKit
namespace Go.Proofs.Ytneaehimdmachaa.Rule
open Go.ChangeShapes Go.WideShapes Go.ChangeAt Go.RowKit Go.IntWalk Go.Proofs.Mem Go.Proofs.Each
set_option linter.unusedVariables false
set_option linter.unusedSimpArgs false
set_option maxRecDepth 100000 in
set_option maxHeartbeats 8000000 in
theorem trade_all (w : World) (g : Nat) (q : Ot) (v : Value) (base i : Nat) (p : Value) (l : List Pu) (seen : List Ce) (hst : St w g q v base i p l) (hs : SeenAt w g v seen) (hg : g < base) (hbase : base ≤ w.heap.size) (hl : l.length ≤ 800) (hi : i ≤ 800000) (hq : q.Ok) (hok : ∀ c ∈ seen, c.Ok) :
    Calls Try.prog 43 #[.pointer (some ⟨g, 0, none⟩)] w (Did w g q v base i p l seen (oTrade q) Rp.enc) := by
  have BEG := Lib.hid (Begin.mk hs hg hbase hq hok (fun x hx => hst.own.lt x hx))
  obtain ⟨W0, hW0⟩ : ∃ W0, w.alloc (.cells #[.int .u16 0, .int .u64 0, .int .u64 0, .int .u64 0] 41) = W0 := ⟨_, rfl⟩
  have SS : Hid (ST w g q v base p i p l [.box w.heap.size #[.int .u16 0, .int .u64 0, .int .u64 0, .int .u64 0] 41] W0) := Lib.hid (by rw [← hW0]; exact ST.start hst BEG.out _ _)
  have HI := Lib.hid hi
  have HQ := Lib.hid hq
  have HOK := Lib.hid hok
  have HL := Lib.hid hl
  obtain ⟨ce0, hce0⟩ := the_cell seen (i)
  have CE0 := Lib.hid hce0
  obtain ⟨ce1, hce1⟩ := the_cell seen (i + 1)
  have CE1 := Lib.hid hce1
  obtain ⟨ce2, hce2⟩ := the_cell seen (i + 1 + 1)
  have CE2 := Lib.hid hce2
  clear hst hs hg hbase hl hi hq hok hce0 hce1 hce2
  go_enter Try.func43, Try.ntmps43
  go_upto_region 1 with fail
  try rw [hW0]
  clear hW0
  refine wp_SA (D := DP w g q v base i p l seen (oTrade q) Rp.enc) 9 10 11 (seen[i]? = some ce0 ∧ ce0.is = true) False (i + 1) l [pw g 0, pw g 0, pw g 7, pw g 0, pw g 0, pw g 0, pw g 1, some (.int .u32 q.wh, True), some (.agg #[.int .u8 1, .int .u32 q.wh, .int .u32 0], True), some (.agg (thing ce0.A ce0.B 1 q.wh 0 true), True)] SS.out (fun vals => ?_) (fun vals W1 hB hall => ?_)
  · simp only [ObD, Act.put, qA, qC, qZ]
    refine ⟨?_, ?_, ?_, ?_, ?_, ?_, ?_, ?_, ?o0_8, ?o0_9, trivial⟩
    all_goals (intro L W hL hk hC hw; have f := deps hw rfl rfl; simp only [depF, vsP, pw, qS, qD, and_true, true_and] at f)
    case o0_8 => have CL := Lib.hid (purse_any q.wh W); clear hL hC hk hw; refine spD rfl ?_; go_simp; (with_reducible refine CL.out.mono ?_); rintro e w8 ⟨rfl, h2⟩; first | exact sq h2 rfl ⟨rfl, trivial⟩ | exact ⟨_, rfl, sq h2 rfl ⟨rfl, trivial⟩⟩
    case o0_9 =>
      have CL := Lib.hid (there_K SS.out (hC.pre hk) BEG.out (by have := HI.out; omega) CE0.out 1 q.wh 0); clear hL hC hk hw; refine spD rfl ?_; go_simp; (with_reducible refine CL.out.mono ?_); rintro e w8 (⟨h, rfl, h2⟩ | ⟨h, h3, rfl, h2⟩ | ⟨rfl, hf, H⟩)
      · exact ⟨_, rfl, Did.miss (by unfold oTrade; simp only [runOm_bind, run_there_no h]) h2⟩
      · exact ⟨_, rfl, Did.err (by unfold oTrade; simp only [runOm_bind, run_there_not h h3]) h2⟩
      · first | exact kv hf H rfl ⟨rfl, trivial⟩ | exact ⟨_, rfl, kv hf H rfl ⟨rfl, trivial⟩⟩
    all_goals (have c := kn7 hC; clear hL hC hk hw; refine spD rfl ?_; go_simp; first | exact sv rfl ⟨rfl, trivial⟩ | exact ⟨_, rfl, sv rfl ⟨rfl, trivial⟩⟩)
  have S0 := Lib.hid hB.1
  simp only [allF, vsP, pw, true_and, and_true, Nat.reduceAdd] at hall
  simp only [TL, Act.put, qA, qC, qZ, hall]
  replace SS := Lib.hid hB.st
  clear hall vals hB
  go_upto_region 2 with fail
  refine wp_SA (D := DP w g q v base i p l seen (oTrade q) Rp.enc) 9 10 11 (seen[i + 1]? = some ce1 ∧ ce1.is = true) False (i + 1 + 1) l [pw g 0, pw g 0, pw g 7, pw g 0, pw g 0, pw g 0, pw g 2, some (.int .u32 q.wm, True), some (.agg #[.int .u8 1, .int .u32 q.wm, .int .u32 0], True), some (.agg (thing ce1.A ce1.B 1 q.wm 0 true), True)] SS.out (fun vals => ?_) (fun vals W2 hB hall => ?_)
  · simp only [ObD, Act.put, qA, qC, qZ]
    refine ⟨?_, ?_, ?_, ?_, ?_, ?_, ?_, ?_, ?o1_8, ?o1_9, trivial⟩
    all_goals (intro L W hL hk hC hw; have f := deps hw rfl rfl; simp only [depF, vsP, pw, qS, qD, and_true, true_and] at f)
    case o1_8 => have CL := Lib.hid (purse_any q.wm W); clear hL hC hk hw; refine spD rfl ?_; go_simp; (with_reducible refine CL.out.mono ?_); rintro e w8 ⟨rfl, h2⟩; first | exact sq h2 rfl ⟨rfl, trivial⟩ | exact ⟨_, rfl, sq h2 rfl ⟨rfl, trivial⟩⟩
    case o1_9 =>
      have CL := Lib.hid (there_K SS.out (hC.pre hk) BEG.out (by have := HI.out; omega) CE1.out 1 q.wm 0); clear hL hC hk hw; refine spD rfl ?_; go_simp; (with_reducible refine CL.out.mono ?_); rintro e w8 (⟨h, rfl, h2⟩ | ⟨h, h3, rfl, h2⟩ | ⟨rfl, hf, H⟩)
      · exact ⟨_, rfl, Did.miss (by unfold oTrade; simp only [runOm_bind, run_there S0.out.1 S0.out.2, run_there_no h]) h2⟩
      · exact ⟨_, rfl, Did.err (by unfold oTrade; simp only [runOm_bind, run_there S0.out.1 S0.out.2, run_there_not h h3]) h2⟩
      · first | exact kv hf H rfl ⟨rfl, trivial⟩ | exact ⟨_, rfl, kv hf H rfl ⟨rfl, trivial⟩⟩
    all_goals (have c := kn7 hC; clear hL hC hk hw; refine spD rfl ?_; go_simp; first | exact sv rfl ⟨rfl, trivial⟩ | exact ⟨_, rfl, sv rfl ⟨rfl, trivial⟩⟩)
  have S1 := Lib.hid hB.1
  simp only [allF, vsP, pw, true_and, and_true, Nat.reduceAdd] at hall
  simp only [TL, Act.put, qA, qC, qZ, hall]
  replace SS := Lib.hid hB.st
  clear hall vals hB
  have CALL := Lib.hid (number_S SS.out BEG.out (by have := HI.out; omega) 4 (by omega))
  go_wp2_with fail
  (with_reducible refine CALL.out.mono ?_)
  rintro e W3 (⟨k, a, b, h1, rfl, h2⟩ | ⟨m, h1, rfl, h2⟩ | ⟨c, p3, h1, hb, rfl, hs⟩)
  · exact ⟨rfl, Did.miss (by unfold oTrade; simp only [runOm_bind, run_there S0.out.1 S0.out.2, run_there S1.out.1 S1.out.2, oNumber_T, h1]) h2⟩
  · exact ⟨rfl, Did.err (by unfold oTrade; simp only [runOm_bind, run_there S0.out.1 S0.out.2, run_there S1.out.1 S1.out.2, oNumber_T, h1]) h2⟩
  obtain rfl : ce2 = c := (CE2.out c h1).symm
  have S2 := Lib.hid h1
  have B2 := Lib.hid hb
  replace SS := Lib.hid (hs.alloc BEG.out #[.int .u64 (ce2.vA + 1), .int .u64 ce2.vB, .int .u8 8, .int .u32 4, .int .u32 0, .bool ce2.is] 69)
  clear CALL hs h1 hb
  obtain ⟨⟨y0, y1, y2, y3, y4, y5⟩, -⟩ := six_cells SS.out.bx.1.out
  have CALL := Lib.hid (amount_S SS.out BEG.out (by have := HL.out; (try simp only [List.length_append, List.length_cons, List.length_nil]); omega) 8 4 0 (ce2.vA + 1) (show _ = l ++ [amt 8 4 0 (ce2.vA + 1)] by simp))
  go_wp2_with fail
  (with_reducible refine CALL.out.mono ?_)
  rintro e W4 ⟨rfl, hf, p4, hs⟩
  replace SS := Lib.hid hs
  clear CALL hf hs y0 y1 y2 y3 y4 y5
  go_upto_region 5 with fail
  refine wp_SA (D := DP w g q v base i p l seen (oTrade q) Rp.enc) 15 16 17 True True (i + 1 + 1 + 1) (l ++ [amt 8 4 0 (ce2.vA + 1), Pu.mk 4 (ce2.vA + 1) 0 (pair q.wh q.wm) 0 false]) [pw g 0, some (.int .u32 (ce2.vA + 1), True), some (.agg #[.int .u8 4, .int .u32 (ce2.vA + 1), .int .u32 0], True), pw g 0, pw g 0, pw g 0, pw g 1, some (.int .u32 q.wh, True), pw g 0, pw g 0, pw g 0, pw g 2, some (.int .u32 q.wm, True), some (.int .u64 (pair q.wh q.wm), True), some (.agg #[.int .u64 (pair q.wh q.wm), .int .u64 0], True), some (.tuple #[], True)] SS.out (fun vals => ?_) (fun vals W5 hB hall => ?_)
  · simp only [ObD, Act.put, qA, qC, qZ]
    refine ⟨?_, ?_, ?o4_2, ?_, ?_, ?_, ?_, ?_, ?_, ?_, ?_, ?_, ?_, ?o4_13, ?_, ?o4_15, trivial⟩
    all_goals (intro L W hL hk hC hw; have f := deps hw rfl rfl; simp only [depF, vsP, pw, qS, qD, and_true, true_and] at f)
    case o4_2 => have CL := Lib.hid (trade_any (ce2.vA + 1) W); clear hL hC hk hw; refine spD rfl ?_; go_simp; (with_reducible refine CL.out.mono ?_); rintro e w8 ⟨rfl, h2⟩; first | exact sq h2 rfl ⟨rfl, trivial⟩ | exact ⟨_, rfl, sq h2 rfl ⟨rfl, trivial⟩⟩
    case o4_13 => have CL := Lib.hid (pair_any q.wh q.wm (HQ.out.wh) (HQ.out.wm) W); clear hL hC hk hw; refine spD rfl ?_; go_simp; (with_reducible refine CL.out.mono ?_); rintro e w8 ⟨rfl, h2⟩; first | exact sq h2 rfl ⟨rfl, trivial⟩ | exact ⟨_, rfl, sq h2 rfl ⟨rfl, trivial⟩⟩
    case o4_15 => have CL := Lib.hid (pk SS.out BEG.out (put_S (hC.pre hk) BEG.out (by have := HL.out; (try simp only [List.length_append, List.length_cons, List.length_nil]); omega) 4 (ce2.vA + 1) 0 (pair q.wh q.wm) 0 (show _ = l ++ [amt 8 4 0 (ce2.vA + 1), Pu.mk 4 (ce2.vA + 1) 0 (pair q.wh q.wm) 0 false] by simp))); clear hL hC hk hw; refine spD rfl ?_; go_simp; (with_reducible refine CL.out.mono ?_); rintro e w8 ⟨rfl, hf, H⟩; first | exact kv hf H rfl ⟨rfl, trivial⟩ | exact ⟨_, rfl, kv hf H rfl ⟨rfl, trivial⟩⟩
    all_goals (have c := kn7 hC; clear hL hC hk hw; refine spD rfl ?_; go_simp; first | exact sv rfl ⟨rfl, trivial⟩ | exact ⟨_, rfl, sv rfl ⟨rfl, trivial⟩⟩)
  simp only [allF, vsP, pw, true_and, and_true, Nat.reduceAdd] at hall
  simp only [TL, Act.put, qA, qC, qZ, hall]
  obtain ⟨p5, hB⟩ := hB.put
  replace SS := Lib.hid hB
  clear hall vals hB
  have cv : IntKind.u64.wrap (ce2.vA + 1) = ce2.vA + 1 := wrap_u64 (by have := B2.out; omega) (by have := B2.out; omega)
  obtain ⟨⟨z0, z1, z2, z3⟩, x0, x1, x2, x3⟩ := four_cells SS.out.bx.2.1.out
  go_wp2
  generalize hW : (World.setCell _ (⟨w.heap.size, 3, none⟩ : Addr) _) = WZ
  have b9 : Box WZ w.heap.size #[.int .u16 0, .int .u64 (ce2.vA + 1), .int .u64 0, .int .u64 0] 41 := by
    rw [← hW]
    exact four_box SS.out.bx.2.1.out
  have F9 : Hid (Fr (fun x => x = w.heap.size) W5 WZ) := Lib.hid (by
    rw [← hW]
    exact four_fr)
  obtain ⟨⟨v0, v1, v2, v3⟩, -⟩ := four_cells b9
  clear hW b9 z0 z1 z2 z3 x0 x1 x2 x3
  refine bodyPost_ret (v := .agg #[.int .u16 0, .int .u64 (ce2.vA + 1), .int .u64 0, .int .u64 0]) (by simp [results, Try.results43, go_sem, v0, v1, v2, v3]; try rfl) rfl ?_
  refine (SS.out.wr BEG.out 1 rfl F9.out).did (y := (⟨ce2.vA + 1, 0, 0⟩, l ++ [amt 8 4 0 (ce2.vA + 1), Pu.mk 4 (ce2.vA + 1) 0 (pair q.wh q.wm) 0 false])) ?_ rfl
  unfold oTrade
  simp only [runOm_bind, runOm_pure, run_there S0.out.1 S0.out.2, run_there S1.out.1 S1.out.2, oNumber, run_look S2.out, decide_eq_false (show ¬ 4294967295 ≤ ce2.vA by have := B2.out; omega), run_deny_no, oAmount, run_put, run_put, List.append_assoc, List.cons_append, List.nil_append]
  try rfl
end Go.Proofs.Ytneaehimdmachaa.Rule
namespace Go.Proofs.Ytneaehimdmachaa.Rule
open Go.ChangeShapes Go.WideShapes Go.ChangeAt Go.RowKit Go.IntWalk Go.Proofs.Mem Go.Proofs.Each
set_option linter.unusedVariables false
set_option linter.unusedSimpArgs false
set_option maxRecDepth 100000 in
set_option maxHeartbeats 8000000 in
theorem sell_all (w : World) (g : Nat) (q : Ot) (v : Value) (base i : Nat) (p : Value) (l : List Pu) (seen : List Ce) (hst : St w g q v base i p l) (hs : SeenAt w g v seen) (hg : g < base) (hbase : base ≤ w.heap.size) (hl : l.length ≤ 800) (hi : i ≤ 800000) (hq : q.Ok) (hok : ∀ c ∈ seen, c.Ok) :
    Calls Try.prog 47 #[.pointer (some ⟨g, 0, none⟩)] w (Did w g q v base i p l seen (oSell q) Rp.enc) := by
  have BEG := Lib.hid (Begin.mk hs hg hbase hq hok (fun x hx => hst.own.lt x hx))
  obtain ⟨W0, hW0⟩ : ∃ W0, w.alloc (.cells #[.int .u16 0, .int .u64 0, .int .u64 0, .int .u64 0] 41) = W0 := ⟨_, rfl⟩
  have SS : Hid (ST w g q v base p i p l [.box w.heap.size #[.int .u16 0, .int .u64 0, .int .u64 0, .int .u64 0] 41] W0) := Lib.hid (by rw [← hW0]; exact ST.start hst BEG.out _ _)
  have HI := Lib.hid hi
  have HQ := Lib.hid hq
  have HOK := Lib.hid hok
  have HL := Lib.hid hl
  obtain ⟨ce0, hce0⟩ := the_cell seen (i)
  have CE0 := Lib.hid hce0
  obtain ⟨ce1, hce1⟩ := the_cell seen (i + 1)
  have CE1 := Lib.hid hce1
  obtain ⟨ce2, hce2⟩ := the_cell seen (i + 1 + 1)
  have CE2 := Lib.hid hce2
  clear hst hs hg hbase hl hi hq hok hce0 hce1 hce2
  go_enter Try.func47, Try.ntmps47
  go_upto_region 1 with fail
  try rw [hW0]
  clear hW0
  refine wp_SA (D := DP w g q v base i p l seen (oSell q) Rp.enc) 9 10 11 (seen[i]? = some ce0 ∧ ce0.is = true) False (i + 1) l [pw g 0, pw g 0, pw g 7, pw g 0, pw g 0, pw g 0, pw g 1, some (.int .u32 q.wh, True), some (.agg #[.int .u8 1, .int .u32 q.wh, .int .u32 0], True), some (.agg (thing ce0.A ce0.B 1 q.wh 0 true), True)] SS.out (fun vals => ?_) (fun vals W1 hB hall => ?_)
  · simp only [ObD, Act.put, qA, qC, qZ]
    refine ⟨?_, ?_, ?_, ?_, ?_, ?_, ?_, ?_, ?o0_8, ?o0_9, trivial⟩
    all_goals (intro L W hL hk hC hw; have f := deps hw rfl rfl; simp only [depF, vsP, pw, qS, qD, and_true, true_and] at f)
    case o0_8 => have CL := Lib.hid (purse_any q.wh W); clear hL hC hk hw; refine spD rfl ?_; go_simp; (with_reducible refine CL.out.mono ?_); rintro e w8 ⟨rfl, h2⟩; first | exact sq h2 rfl ⟨rfl, trivial⟩ | exact ⟨_, rfl, sq h2 rfl ⟨rfl, trivial⟩⟩
    case o0_9 =>
      have CL := Lib.hid (there_K SS.out (hC.pre hk) BEG.out (by have := HI.out; omega) CE0.out 1 q.wh 0); clear hL hC hk hw; refine spD rfl ?_; go_simp; (with_reducible refine CL.out.mono ?_); rintro e w8 (⟨h, rfl, h2⟩ | ⟨h, h3, rfl, h2⟩ | ⟨rfl, hf, H⟩)
      · exact ⟨_, rfl, Did.miss (by unfold oSell; simp only [runOm_bind, run_there_no h]) h2⟩
      · exact ⟨_, rfl, Did.err (by unfold oSell; simp only [runOm_bind, run_there_not h h3]) h2⟩
      · first | exact kv hf H rfl ⟨rfl, trivial⟩ | exact ⟨_, rfl, kv hf H rfl ⟨rfl, trivial⟩⟩
    all_goals (have c := kn7 hC; clear hL hC hk hw; refine spD rfl ?_; go_simp; first | exact sv rfl ⟨rfl, trivial⟩ | exact ⟨_, rfl, sv rfl ⟨rfl, trivial⟩⟩)
  have S0 := Lib.hid hB.1
  simp only [allF, vsP, pw, true_and, and_true, Nat.reduceAdd] at hall
  simp only [TL, Act.put, qA, qC, qZ, hall]
  replace SS := Lib.hid hB.st
  clear hall vals hB
  go_upto_region 2 with fail
  refine wp_SK (D := DP w g q v base i p l seen (oSell q) Rp.enc) 14 15 16 (seen[i + 1]? = some ce1) (i + 1 + 1) #[.int .u64 ce1.vA, .int .u64 ce1.vB, .int .u8 3, .int .u32 q.wh, .int .u32 q.wt, .bool ce1.is] [pw g 0, pw g 0, pw g 7, pw g 0, pw g 0, pw g 0, pw g 1, some (.int .u32 q.wh, True), pw g 0, pw g 0, pw g 0, pw g 3, some (.int .u32 q.wt, True), some (.agg #[.int .u8 3, .int .u32 q.wh, .int .u32 q.wt], True), some (.agg (thing ce1.vA ce1.vB 3 q.wh q.wt ce1.is), True), none, none] SS.out (fun vals => ?_) (fun vals W2 hB hfin hall => ?_) (ea 15 rfl)
  · simp only [ObD, Act.put, qA, qC, qZ]
    refine ⟨?_, ?_, ?_, ?_, ?_, ?_, ?_, ?_, ?_, ?_, ?_, ?_, ?_, ?o1_13, ?o1_14, ?o1_15, ?o1_16, trivial⟩
    all_goals (intro L W hL hk hC hw; have f := deps hw rfl rfl; simp only [depF, vsP, pw, qS, qD, and_true, true_and] at f)
    case o1_13 => have CL := Lib.hid (stack_any q.wh q.wt W); clear hL hC hk hw; refine spD rfl ?_; go_simp; (with_reducible refine CL.out.mono ?_); rintro e w8 ⟨rfl, h2⟩; first | exact sq h2 rfl ⟨rfl, trivial⟩ | exact ⟨_, rfl, sq h2 rfl ⟨rfl, trivial⟩⟩
    case o1_14 =>
      have CL := Lib.hid (look_K SS.out (hC.pre hk) BEG.out (by have := HI.out; omega) CE1.out 3 q.wh q.wt); clear hL hC hk hw; refine spD rfl ?_; go_simp; (with_reducible refine CL.out.mono ?_); rintro e w8 (⟨h, rfl, h2⟩ | ⟨h1, rfl, hf, H⟩)
      · exact ⟨_, rfl, Did.miss (by unfold oSell; simp only [runOm_bind, run_there S0.out.1 S0.out.2, run_look_no h]) h2⟩
      · first | exact kv hf H rfl ⟨rfl, trivial⟩ | exact ⟨_, rfl, kv hf H rfl ⟨rfl, trivial⟩⟩
    case o1_15 => have ZZ := hC.fr.size; clear hL hC hk hw; refine spD rfl ?_; go_simp; exact am ZZ
    case o1_16 => obtain ⟨gt, C, fa, hgt, bx0, hc⟩ := Fw.geta (hw ⟨15, .data⟩ (by simp) rfl) (by decide); obtain ⟨c0, c1, c2, c3, c4, c5, rfl⟩ := arr6 hc; have q := six_cells bx0; have BXX := Lib.hid bx0; have FA := Lib.hid fa; clear bx0 hc; unfold thing at f; clear hL hC hk hw; refine spD rfl ?_; go_simp; exact sm SS.out BEG.out BXX.out hgt FA.out
    all_goals (have c := kn7 hC; clear hL hC hk hw; refine spD rfl ?_; go_simp; first | exact sv rfl ⟨rfl, trivial⟩ | exact ⟨_, rfl, sv rfl ⟨rfl, trivial⟩⟩)
  have S1 := Lib.hid hB.1
  simp only [allF, vsP, pw, true_and, and_true, Nat.reduceAdd] at hall
  obtain ⟨gt0, fa, hgt, bx⟩ := hfin
  simp only [TL, Act.put, qA, qC, qZ, hall, fa]
  replace SS := Lib.hid (SS.out.push BEG.out hB.st SS.out.lt hgt bx)
  clear hall vals hB fa hgt bx
  go_upto_region 3 with fail
  refine wp_SA (D := DP w g q v base i p l seen (oSell q) Rp.enc) 8 10 11 True False (i + 1 + 1) l [some (.pointer (some ⟨gt0, 0, none⟩), True), some (.pointer (some ⟨gt0, 0, none⟩), True), some (.int .u64 ce1.vA, True), pw g 0, pw g 0, pw g 0, pw g 5, some (.int .u64 q.n, True), some (.int .u64 (ce1.vA - q.n), Ls ce1.vA q.n), some (.int .u64 (ce1.vA - q.n), True)] SS.out (fun vals => ?_) (fun vals W3 hB hall => ?_)
  · simp only [ObD, Act.put, qA, qC, qZ]
    refine ⟨?_, ?_, ?o2_2, ?_, ?_, ?_, ?_, ?_, ?o2_8, ?_, trivial⟩
    all_goals (intro L W hL hk hC hw; have f := deps hw rfl rfl; simp only [depF, vsP, pw, qS, qD, and_true, true_and] at f)
    case' o2_2 => have k0 : W.cell? ⟨gt0, 0, none⟩ = some (.int .u64 ce1.vA) := (cw_bx hC).1.out.cell 0
    case o2_8 =>
      have CL := Lib.hid (less_K (w0 := W2) (vA_ok HOK.out S1.out) HQ.out.n (hC.pre hk) BEG.out); clear hL hC hk hw; refine spD rfl ?_; go_simp; (with_reducible refine CL.out.mono ?_)
      rintro e w8 (⟨h, rfl, h2⟩ | ⟨⟨h, h3⟩, rfl, h2⟩ | ⟨h1, rfl, hf, H⟩)
      · exact ⟨_, rfl, Did.err (by unfold oSell; simp only [runOm_bind, run_there S0.out.1 S0.out.2, run_look S1.out, run_less_great h]) h2⟩
      · exact ⟨_, rfl, Did.err (by unfold oSell; simp only [runOm_bind, run_there S0.out.1 S0.out.2, run_look S1.out, run_less_low h h3]) h2⟩
      · first | exact kv hf H rfl ⟨rfl, h1⟩ | exact ⟨_, rfl, kv hf H rfl ⟨rfl, h1⟩⟩
    all_goals (have c := kn7 hC; clear hL hC hk hw; refine spD rfl ?_; go_simp; first | exact sv rfl ⟨rfl, trivial⟩ | exact ⟨_, rfl, sv rfl ⟨rfl, trivial⟩⟩)
  have C3 : Hid (Ls ce1.vA q.n) := Lib.hid (vsP_c (hall.get 8))
  simp only [allF, vsP, pw, true_and, and_true, Nat.reduceAdd] at hall
  simp only [TL, Act.put, qA, qC, qZ, hall]
  replace SS := Lib.hid hB.st
  clear hall vals hB
  have CALL := Lib.hid (number_S SS.out BEG.out (by have := HI.out; omega) 6 (by omega))
  go_wp2_with fail
  (with_reducible refine CALL.out.mono ?_)
  rintro e W4 (⟨k, a, b, h1, rfl, h2⟩ | ⟨m, h1, rfl, h2⟩ | ⟨c, p4, h1, hb, rfl, hs⟩)
  · exact ⟨rfl, Did.miss (by unfold oSell; simp only [runOm_bind, run_there S0.out.1 S0.out.2, run_look S1.out, run_less C3.out.1 C3.out.2, oNumber_T, h1]) h2⟩
  · exact ⟨rfl, Did.err (by unfold oSell; simp only [runOm_bind, run_there S0.out.1 S0.out.2, run_look S1.out, run_less C3.out.1 C3.out.2, oNumber_T, h1]) h2⟩
  obtain rfl : ce2 = c := (CE2.out c h1).symm
  have S2 := Lib.hid h1
  have B2 := Lib.hid hb
  replace SS := Lib.hid (hs.alloc BEG.out #[.int .u64 (ce2.vA + 1), .int .u64 ce2.vB, .int .u8 8, .int .u32 6, .int .u32 0, .bool ce2.is] 69)
  clear CALL hs h1 hb
  obtain ⟨⟨y0, y1, y2, y3, y4, y5⟩, -⟩ := six_cells SS.out.bx.2.1.out
  have CALL := Lib.hid (amount_S SS.out BEG.out (by have := HL.out; (try simp only [List.length_append, List.length_cons, List.length_nil]); omega) 3 q.wh q.wt (ce1.vA - q.n) (show _ = l ++ [amt 3 q.wh q.wt (ce1.vA - q.n)] by simp))
  go_wp2_with fail
  (with_reducible refine CALL.out.mono ?_)
  rintro e W5 ⟨rfl, hf, p5, hs⟩
  replace SS := Lib.hid hs
  clear CALL hf hs y0 y1 y2 y3 y4 y5
  obtain ⟨⟨y0, y1, y2, y3, y4, y5⟩, -⟩ := six_cells SS.out.bx.1.out
  have CALL := Lib.hid (amount_S SS.out BEG.out (by have := HL.out; (try simp only [List.length_append, List.length_cons, List.length_nil]); omega) 8 6 0 (ce2.vA + 1) (show _ = l ++ [amt 3 q.wh q.wt (ce1.vA - q.n), amt 8 6 0 (ce2.vA + 1)] by simp))
  go_wp2_with fail
  (with_reducible refine CALL.out.mono ?_)
  rintro e W6 ⟨rfl, hf, p6, hs⟩
  replace SS := Lib.hid hs
  clear CALL hf hs y0 y1 y2 y3 y4 y5
  go_upto_region 7 with fail
  refine wp_SA (D := DP w g q v base i p l seen (oSell q) Rp.enc) 20 21 22 True True (i + 1 + 1 + 1) (l ++ [amt 3 q.wh q.wt (ce1.vA - q.n), amt 8 6 0 (ce2.vA + 1), Pu.mk 6 (ce2.vA + 1) 0 (pair q.wh q.wt) q.n false]) [pw g 0, some (.int .u32 (ce2.vA + 1), True), some (.agg #[.int .u8 6, .int .u32 (ce2.vA + 1), .int .u32 0], True), pw g 0, pw g 0, pw g 0, pw g 1, some (.int .u32 q.wh, True), pw g 0, pw g 0, pw g 0, pw g 3, some (.int .u32 q.wt, True), some (.int .u64 (pair q.wh q.wt), True), pw g 0, pw g 0, pw g 0, pw g 5, some (.int .u64 q.n, True), some (.agg #[.int .u64 (pair q.wh q.wt), .int .u64 q.n], True), some (.tuple #[], True)] SS.out (fun vals => ?_) (fun vals W7 hB hall => ?_)
  · simp only [ObD, Act.put, qA, qC, qZ]
    refine ⟨?_, ?_, ?o6_2, ?_, ?_, ?_, ?_, ?_, ?_, ?_, ?_, ?_, ?_, ?o6_13, ?_, ?_, ?_, ?_, ?_, ?_, ?o6_20, trivial⟩
    all_goals (intro L W hL hk hC hw; have f := deps hw rfl rfl; simp only [depF, vsP, pw, qS, qD, and_true, true_and] at f)
    case o6_2 => have CL := Lib.hid (auction_any (ce2.vA + 1) W); clear hL hC hk hw; refine spD rfl ?_; go_simp; (with_reducible refine CL.out.mono ?_); rintro e w8 ⟨rfl, h2⟩; first | exact sq h2 rfl ⟨rfl, trivial⟩ | exact ⟨_, rfl, sq h2 rfl ⟨rfl, trivial⟩⟩
    case o6_13 => have CL := Lib.hid (pair_any q.wh q.wt (HQ.out.wh) (HQ.out.wt) W); clear hL hC hk hw; refine spD rfl ?_; go_simp; (with_reducible refine CL.out.mono ?_); rintro e w8 ⟨rfl, h2⟩; first | exact sq h2 rfl ⟨rfl, trivial⟩ | exact ⟨_, rfl, sq h2 rfl ⟨rfl, trivial⟩⟩
    case o6_20 => have CL := Lib.hid (pk SS.out BEG.out (put_S (hC.pre hk) BEG.out (by have := HL.out; (try simp only [List.length_append, List.length_cons, List.length_nil]); omega) 6 (ce2.vA + 1) 0 (pair q.wh q.wt) q.n (show _ = l ++ [amt 3 q.wh q.wt (ce1.vA - q.n), amt 8 6 0 (ce2.vA + 1), Pu.mk 6 (ce2.vA + 1) 0 (pair q.wh q.wt) q.n false] by simp))); clear hL hC hk hw; refine spD rfl ?_; go_simp; (with_reducible refine CL.out.mono ?_); rintro e w8 ⟨rfl, hf, H⟩; first | exact kv hf H rfl ⟨rfl, trivial⟩ | exact ⟨_, rfl, kv hf H rfl ⟨rfl, trivial⟩⟩
    all_goals (have c := kn7 hC; clear hL hC hk hw; refine spD rfl ?_; go_simp; first | exact sv rfl ⟨rfl, trivial⟩ | exact ⟨_, rfl, sv rfl ⟨rfl, trivial⟩⟩)
  simp only [allF, vsP, pw, true_and, and_true, Nat.reduceAdd] at hall
  simp only [TL, Act.put, qA, qC, qZ, hall]
  obtain ⟨p7, hB⟩ := hB.put
  replace SS := Lib.hid hB
  clear hall vals hB
  go_upto_region 8 with fail
  refine wp_SA (D := DP w g q v base i p l seen (oSell q) Rp.enc) 8 9 10 True True (i + 1 + 1 + 1) (l ++ [amt 3 q.wh q.wt (ce1.vA - q.n), amt 8 6 0 (ce2.vA + 1), Pu.mk 6 (ce2.vA + 1) 0 (pair q.wh q.wt) q.n false, amt 7 (ce2.vA + 1) 1 q.pr]) [pw g 0, some (.int .u32 (ce2.vA + 1), True), some (.agg #[.int .u8 7, .int .u32 (ce2.vA + 1), .int .u32 1], True), pw g 0, pw g 0, pw g 0, pw g 6, some (.int .u64 q.pr, True), some (.tuple #[], True)] SS.out (fun vals => ?_) (fun vals W8 hB hall => ?_)
  · simp only [ObD, Act.put, qA, qC, qZ]
    refine ⟨?_, ?_, ?o7_2, ?_, ?_, ?_, ?_, ?_, ?o7_8, trivial⟩
    all_goals (intro L W hL hk hC hw; have f := deps hw rfl rfl; simp only [depF, vsP, pw, qS, qD, and_true, true_and] at f)
    case o7_2 => have CL := Lib.hid (price_any (ce2.vA + 1) W); clear hL hC hk hw; refine spD rfl ?_; go_simp; (with_reducible refine CL.out.mono ?_); rintro e w8 ⟨rfl, h2⟩; first | exact sq h2 rfl ⟨rfl, trivial⟩ | exact ⟨_, rfl, sq h2 rfl ⟨rfl, trivial⟩⟩
    case o7_8 => have CL := Lib.hid (pk SS.out BEG.out (amount_S (hC.pre hk) BEG.out (by have := HL.out; (try simp only [List.length_append, List.length_cons, List.length_nil]); omega) 7 (ce2.vA + 1) 1 q.pr (show _ = l ++ [amt 3 q.wh q.wt (ce1.vA - q.n), amt 8 6 0 (ce2.vA + 1), Pu.mk 6 (ce2.vA + 1) 0 (pair q.wh q.wt) q.n false, amt 7 (ce2.vA + 1) 1 q.pr] by simp))); clear hL hC hk hw; refine spD rfl ?_; go_simp; (with_reducible refine CL.out.mono ?_); rintro e w8 ⟨rfl, hf, H⟩; first | exact kv hf H rfl ⟨rfl, trivial⟩ | exact ⟨_, rfl, kv hf H rfl ⟨rfl, trivial⟩⟩
    all_goals (have c := kn7 hC; clear hL hC hk hw; refine spD rfl ?_; go_simp; first | exact sv rfl ⟨rfl, trivial⟩ | exact ⟨_, rfl, sv rfl ⟨rfl, trivial⟩⟩)
  simp only [allF, vsP, pw, true_and, and_true, Nat.reduceAdd] at hall
  simp only [TL, Act.put, qA, qC, qZ, hall]
  obtain ⟨p8, hB⟩ := hB.put
  replace SS := Lib.hid hB
  clear hall vals hB
  have cv : IntKind.u64.wrap (ce2.vA + 1) = ce2.vA + 1 := wrap_u64 (by have := B2.out; omega) (by have := B2.out; omega)
  obtain ⟨⟨z0, z1, z2, z3⟩, x0, x1, x2, x3⟩ := four_cells SS.out.bx.2.2.1.out
  go_wp2
  generalize hW : (World.setCell _ (⟨w.heap.size, 3, none⟩ : Addr) _) = WZ
  have b9 : Box WZ w.heap.size #[.int .u16 0, .int .u64 (ce2.vA + 1), .int .u64 0, .int .u64 0] 41 := by
    rw [← hW]
    exact four_box SS.out.bx.2.2.1.out
  have F9 : Hid (Fr (fun x => x = w.heap.size) W8 WZ) := Lib.hid (by
    rw [← hW]
    exact four_fr)
  obtain ⟨⟨v0, v1, v2, v3⟩, -⟩ := four_cells b9
  clear hW b9 z0 z1 z2 z3 x0 x1 x2 x3
  refine bodyPost_ret (v := .agg #[.int .u16 0, .int .u64 (ce2.vA + 1), .int .u64 0, .int .u64 0]) (by simp [results, Try.results47, go_sem, v0, v1, v2, v3]; try rfl) rfl ?_
  refine (SS.out.wr BEG.out 2 rfl F9.out).did (y := (⟨ce2.vA + 1, 0, 0⟩, l ++ [amt 3 q.wh q.wt (ce1.vA - q.n), amt 8 6 0 (ce2.vA + 1), Pu.mk 6 (ce2.vA + 1) 0 (pair q.wh q.wt) q.n false, amt 7 (ce2.vA + 1) 1 q.pr])) ?_ rfl
  unfold oSell
  simp only [runOm_bind, runOm_pure, run_there S0.out.1 S0.out.2, run_look S1.out, run_less C3.out.1 C3.out.2, oNumber, run_look S2.out, decide_eq_false (show ¬ 4294967295 ≤ ce2.vA by have := B2.out; omega), run_deny_no, oAmount, run_put, oAmount, run_put, run_put, oAmount, run_put, List.append_assoc, List.cons_append, List.nil_append]
  try rfl
end Go.Proofs.Ytneaehimdmachaa.Rule
namespace Go.Proofs.Ytneaehimdmachaa.Rule
open Go.ChangeShapes Go.WideShapes Go.ChangeAt Go.RowKit Go.IntWalk Go.Proofs.Mem Go.Proofs.Each
set_option linter.unusedVariables false
set_option linter.unusedSimpArgs false
set_option maxRecDepth 100000 in
set_option maxHeartbeats 8000000 in
theorem settle_nn (w : World) (g : Nat) (q : Ot) (v : Value) (base i : Nat) (p : Value) (l : List Pu) (seen : List Ce) (hst : St w g q v base i p l) (hs : SeenAt w g v seen) (hg : g < base) (hbase : base ≤ w.heap.size) (hl : l.length ≤ 800) (hi : i ≤ 800000) (hq : q.Ok) (hok : ∀ c ∈ seen, c.Ok) (t0 t1 : Int) (h0 : ∀ c, seen[i]? = some c → c.is = false) (h1 : ∀ c, seen[i + 1]? = some c → c.is = false) :
    Calls Try.prog 67 #[.pointer (some ⟨g, 0, none⟩), .agg #[.int .u32 t0, .int .u32 t1]] w (Did w g q v base i p l seen (oSettle q t0 t1) Rp.enc) := by
  have BEG := Lib.hid (Begin.mk hs hg hbase hq hok (fun x hx => hst.own.lt x hx))
  obtain ⟨Wt, hWt⟩ : ∃ W, w.alloc (.cells #[.int .u32 t0, .int .u32 t1] 95) = W := ⟨_, rfl⟩
  obtain ⟨W0, hW0⟩ : ∃ W0, Wt.alloc (.cells #[.int .u16 0, .int .u64 0, .int .u64 0, .int .u64 0] 41) = W0 := ⟨_, rfl⟩
  obtain ⟨gto, hgto⟩ : ∃ x, w.heap.size = x := ⟨_, rfl⟩
  obtain ⟨gre, hgre⟩ : ∃ x, Wt.heap.size = x := ⟨_, rfl⟩
  have HGRE := Lib.hid hgre
  have HGTO := Lib.hid hgto
  have SS : Hid (ST w g q v base p i p l [.box gre #[.int .u16 0, .int .u64 0, .int .u64 0, .int .u64 0] 41, .box gto #[.int .u32 t0, .int .u32 t1] 95] W0) := Lib.hid (by rw [← hW0, ← hgre, ← hgto, ← hWt]; exact (ST.start hst BEG.out _ _).alloc BEG.out _ _)
  have HI := Lib.hid hi
  have HQ := Lib.hid hq
  have HOK := Lib.hid hok
  have HL := Lib.hid hl
  have IS0 := Lib.hid h0
  have IS1 := Lib.hid h1
  obtain ⟨ce0, hce0⟩ := the_cell seen (i)
  have CE0 := Lib.hid hce0
  obtain ⟨ce1, hce1⟩ := the_cell seen (i + 1)
  have CE1 := Lib.hid hce1
  clear hst hs hg hbase hl hi hq hok h0 h1 hgto hgre hce0 hce1
  go_enter Try.func67, Try.ntmps67
  go_upto_region 1 with fail
  try rw [hWt]
  try rw [hW0]
  rw [HGRE.out]
  try rw [HGTO.out]
  clear hW0 hWt HGTO HGRE
  refine wp_SK (D := DP w g q v base i p l seen (oSettle q t0 t1) Rp.enc) 9 10 11 (seen[i]? = some ce0) (i + 1) #[.int .u64 ce0.vA, .int .u64 ce0.vB, .int .u8 5, .int .u32 q.id, .int .u32 0, .bool ce0.is] [pw g 0, pw g 0, pw g 7, pw g 0, pw g 0, pw g 0, pw g 4, some (.int .u32 q.id, True), some (.agg #[.int .u8 5, .int .u32 q.id, .int .u32 0], True), some (.agg (thing ce0.vA ce0.vB 5 q.id 0 ce0.is), True), none, none] SS.out (fun vals => ?_) (fun vals W1 hB hfin hall => ?_) (ea 10 rfl)
  · simp only [ObD, Act.put, qA, qC, qZ]
    refine ⟨?_, ?_, ?_, ?_, ?_, ?_, ?_, ?_, ?o0_8, ?o0_9, ?o0_10, ?o0_11, trivial⟩
    all_goals (intro L W hL hk hC hw; have f := deps hw rfl rfl; simp only [depF, vsP, pw, qS, qD, and_true, true_and] at f)
    case o0_8 => have CL := Lib.hid (offer_any q.id 0 W); clear hL hC hk hw; refine spD rfl ?_; go_simp; (with_reducible refine CL.out.mono ?_); rintro e w8 ⟨rfl, h2⟩; first | exact sq h2 rfl ⟨rfl, trivial⟩ | exact ⟨_, rfl, sq h2 rfl ⟨rfl, trivial⟩⟩
    case o0_9 =>
      have CL := Lib.hid (look_K SS.out (hC.pre hk) BEG.out (by have := HI.out; omega) CE0.out 5 q.id 0); clear hL hC hk hw; refine spD rfl ?_; go_simp; (with_reducible refine CL.out.mono ?_); rintro e w8 (⟨h, rfl, h2⟩ | ⟨h1, rfl, hf, H⟩)
      · exact ⟨_, rfl, Did.miss (by unfold oSettle; simp only [runOm_bind, run_look_no h]) h2⟩
      · first | exact kv hf H rfl ⟨rfl, trivial⟩ | exact ⟨_, rfl, kv hf H rfl ⟨rfl, trivial⟩⟩
    case o0_10 => have ZZ := hC.fr.size; clear hL hC hk hw; refine spD rfl ?_; go_simp; exact am ZZ
    case o0_11 => obtain ⟨gt, C, fa, hgt, bx0, hc⟩ := Fw.geta (hw ⟨10, .data⟩ (by simp) rfl) (by decide); obtain ⟨c0, c1, c2, c3, c4, c5, rfl⟩ := arr6 hc; have q := six_cells bx0; have BXX := Lib.hid bx0; have FA := Lib.hid fa; clear bx0 hc; unfold thing at f; clear hL hC hk hw; refine spD rfl ?_; go_simp; exact sm SS.out BEG.out BXX.out hgt FA.out
    all_goals (have c := kn7 hC; clear hL hC hk hw; refine spD rfl ?_; go_simp; first | exact sv rfl ⟨rfl, trivial⟩ | exact ⟨_, rfl, sv rfl ⟨rfl, trivial⟩⟩)
  have S0 := Lib.hid hB.1
  simp only [allF, vsP, pw, true_and, and_true, Nat.reduceAdd] at hall
  obtain ⟨gt0, fa, hgt, bx⟩ := hfin
  simp only [TL, Act.put, qA, qC, qZ, hall, fa]
  replace SS := Lib.hid (SS.out.push BEG.out hB.st SS.out.lt hgt bx)
  clear hall vals hB fa hgt bx
  go_upto_region 2 with fail
  refine wp_SK (D := DP w g q v base i p l seen (oSettle q t0 t1) Rp.enc) 9 10 11 (seen[i + 1]? = some ce1) (i + 1 + 1) #[.int .u64 ce1.vA, .int .u64 ce1.vB, .int .u8 5, .int .u32 q.id, .int .u32 1, .bool ce1.is] [pw g 0, pw g 0, pw g 7, pw g 0, pw g 0, pw g 0, pw g 4, some (.int .u32 q.id, True), some (.agg #[.int .u8 5, .int .u32 q.id, .int .u32 1], True), some (.agg (thing ce1.vA ce1.vB 5 q.id 1 ce1.is), True), none, none] SS.out (fun vals => ?_) (fun vals W2 hB hfin hall => ?_) (ea 10 rfl)
  · simp only [ObD, Act.put, qA, qC, qZ]
    refine ⟨?_, ?_, ?_, ?_, ?_, ?_, ?_, ?_, ?o1_8, ?o1_9, ?o1_10, ?o1_11, trivial⟩
    all_goals (intro L W hL hk hC hw; have f := deps hw rfl rfl; simp only [depF, vsP, pw, qS, qD, and_true, true_and] at f)
    case o1_8 => have CL := Lib.hid (offer_any q.id 1 W); clear hL hC hk hw; refine spD rfl ?_; go_simp; (with_reducible refine CL.out.mono ?_); rintro e w8 ⟨rfl, h2⟩; first | exact sq h2 rfl ⟨rfl, trivial⟩ | exact ⟨_, rfl, sq h2 rfl ⟨rfl, trivial⟩⟩
    case o1_9 =>
      have CL := Lib.hid (look_K SS.out (hC.pre hk) BEG.out (by have := HI.out; omega) CE1.out 5 q.id 1); clear hL hC hk hw; refine spD rfl ?_; go_simp; (with_reducible refine CL.out.mono ?_); rintro e w8 (⟨h, rfl, h2⟩ | ⟨h1, rfl, hf, H⟩)
      · exact ⟨_, rfl, Did.miss (by unfold oSettle; simp only [runOm_bind, run_look S0.out, run_look_no h]) h2⟩
      · first | exact kv hf H rfl ⟨rfl, trivial⟩ | exact ⟨_, rfl, kv hf H rfl ⟨rfl, trivial⟩⟩
    case o1_10 => have ZZ := hC.fr.size; clear hL hC hk hw; refine spD rfl ?_; go_simp; exact am ZZ
    case o1_11 => obtain ⟨gt, C, fa, hgt, bx0, hc⟩ := Fw.geta (hw ⟨10, .data⟩ (by simp) rfl) (by decide); obtain ⟨c0, c1, c2, c3, c4, c5, rfl⟩ := arr6 hc; have q := six_cells bx0; have BXX := Lib.hid bx0; have FA := Lib.hid fa; clear bx0 hc; unfold thing at f; clear hL hC hk hw; refine spD rfl ?_; go_simp; exact sm SS.out BEG.out BXX.out hgt FA.out
    all_goals (have c := kn7 hC; clear hL hC hk hw; refine spD rfl ?_; go_simp; first | exact sv rfl ⟨rfl, trivial⟩ | exact ⟨_, rfl, sv rfl ⟨rfl, trivial⟩⟩)
  have S1 := Lib.hid hB.1
  simp only [allF, vsP, pw, true_and, and_true, Nat.reduceAdd] at hall
  obtain ⟨gt1, fa, hgt, bx⟩ := hfin
  simp only [TL, Act.put, qA, qC, qZ, hall, fa]
  replace SS := Lib.hid (SS.out.push BEG.out hB.st SS.out.lt hgt bx)
  clear hall vals hB fa hgt bx
  have I0 := Lib.hid (IS0.out ce0 S0.out)
  have I1 := Lib.hid (IS1.out ce1 S1.out)
  have SX := SS.out
  rw [I0.out] at SX
  replace SS := Lib.hid SX
  clear SX
  have SX := SS.out
  rw [I1.out] at SX
  replace SS := Lib.hid SX
  clear SX
  have e0 := I0.out
  have e1 := I1.out
  obtain ⟨⟨y0, y1, y2, y3, y4, y5⟩, -⟩ := six_cells SS.out.bx.2.1.out
  obtain ⟨⟨y6, y7, y8, y9, y10, y11⟩, -⟩ := six_cells SS.out.bx.1.out
  obtain ⟨W3, hWn⟩ : ∃ W3, W2.alloc (.cells #[.int .u64 ce0.vA, .int .u64 ce0.vB, .int .u8 5, .int .u32 q.id, .int .u32 0, .bool false, .int .u64 ce1.vA, .int .u64 ce1.vB, .int .u8 5, .int .u32 q.id, .int .u32 1, .bool false] 109) = W3 := ⟨_, rfl⟩
  obtain ⟨ga, hgn⟩ : ∃ ga, W2.heap.size = ga := ⟨_, rfl⟩
  have TT := SS.out.alloc BEG.out #[.int .u64 ce0.vA, .int .u64 ce0.vB, .int .u8 5, .int .u32 q.id, .int .u32 0, .bool false, .int .u64 ce1.vA, .int .u64 ce1.vB, .int .u8 5, .int .u32 q.id, .int .u32 1, .bool false] 109
  rw [hgn, hWn] at TT
  replace TT := Lib.hid TT
  have HWN := Lib.hid hWn
  have HGN := Lib.hid hgn
  clear hWn hgn
  go_wp2
  clear e0 e1
  try rw [HWN.out]
  try rw [HGN.out]
  clear HWN HGN SS y0 y1 y2 y3 y4 y5 y6 y7 y8 y9 y10 y11
  have SS := TT
  clear TT
  replace SS := Lib.hid SS.out.drop1
  have hx0 : ∀ W, Sem.run Try.prog (Instr.index 109 (.agg #[.int .u64 ce0.vA, .int .u64 ce0.vB, .int .u8 5, .int .u32 q.id, .int .u32 0, .bool false, .int .u64 ce1.vA, .int .u64 ce1.vB, .int .u8 5, .int .u32 q.id, .int .u32 1, .bool false]) (.int .i64 0)) W = .ok (.agg #[.int .u64 ce0.vA, .int .u64 ce0.vB, .int .u8 5, .int .u32 q.id, .int .u32 0, .bool false]) W := fun W => by rfl
  have hx1 : ∀ W, Sem.run Try.prog (Instr.index 109 (.agg #[.int .u64 ce0.vA, .int .u64 ce0.vB, .int .u8 5, .int .u32 q.id, .int .u32 0, .bool false, .int .u64 ce1.vA, .int .u64 ce1.vB, .int .u8 5, .int .u32 q.id, .int .u32 1, .bool false]) (.int .i64 1)) W = .ok (.agg #[.int .u64 ce1.vA, .int .u64 ce1.vB, .int .u8 5, .int .u32 q.id, .int .u32 1, .bool false]) W := fun W => by rfl
  refine wp_loop_rounds 3 ?_
  rw [rounds_succ]
  obtain ⟨W4, hWn⟩ : ∃ W4, W3.alloc (.cells #[.int .u64 ce0.vA, .int .u64 ce0.vB, .int .u8 5, .int .u32 q.id, .int .u32 0, .bool false] 69) = W4 := ⟨_, rfl⟩
  obtain ⟨go0, hgn⟩ : ∃ go0, W3.heap.size = go0 := ⟨_, rfl⟩
  have TT := SS.out.alloc BEG.out #[.int .u64 ce0.vA, .int .u64 ce0.vB, .int .u8 5, .int .u32 q.id, .int .u32 0, .bool false] 69
  rw [hgn, hWn] at TT
  replace TT := Lib.hid TT
  have HWN := Lib.hid hWn
  have HGN := Lib.hid hgn
  clear hWn hgn
  go_wp2
  try rw [HWN.out]
  try rw [HGN.out]
  clear HWN HGN SS
  have SS := TT
  clear TT
  replace SS := Lib.hid SS.out.drop
  rw [rounds_succ]
  obtain ⟨W5, hWn⟩ : ∃ W5, W4.alloc (.cells #[.int .u64 ce1.vA, .int .u64 ce1.vB, .int .u8 5, .int .u32 q.id, .int .u32 1, .bool false] 69) = W5 := ⟨_, rfl⟩
  obtain ⟨go1, hgn⟩ : ∃ go1, W4.heap.size = go1 := ⟨_, rfl⟩
  have TT := SS.out.alloc BEG.out #[.int .u64 ce1.vA, .int .u64 ce1.vB, .int .u8 5, .int .u32 q.id, .int .u32 1, .bool false] 69
  rw [hgn, hWn] at TT
  replace TT := Lib.hid TT
  have HWN := Lib.hid hWn
  have HGN := Lib.hid hgn
  clear hWn hgn
  go_wp2
  try rw [HWN.out]
  try rw [HGN.out]
  clear HWN HGN SS
  have SS := TT
  clear TT
  replace SS := Lib.hid SS.out.drop
  have y0 : W5.cell? ⟨ga, 0, none⟩ = some (.int .u64 ce0.vA) := SS.out.bx.1.out.cell 0
  have y1 : W5.cell? ⟨ga, 1, none⟩ = some (.int .u64 ce0.vB) := SS.out.bx.1.out.cell 1
  have y2 : W5.cell? ⟨ga, 2, none⟩ = some (.int .u8 5) := SS.out.bx.1.out.cell 2
  have y3 : W5.cell? ⟨ga, 3, none⟩ = some (.int .u32 q.id) := SS.out.bx.1.out.cell 3
  have y4 : W5.cell? ⟨ga, 4, none⟩ = some (.int .u32 0) := SS.out.bx.1.out.cell 4
  have y5 : W5.cell? ⟨ga, 5, none⟩ = some (.bool false) := SS.out.bx.1.out.cell 5
  have y6 : W5.cell? ⟨ga, 6, none⟩ = some (.int .u64 ce1.vA) := SS.out.bx.1.out.cell 6
  have y7 : W5.cell? ⟨ga, 7, none⟩ = some (.int .u64 ce1.vB) := SS.out.bx.1.out.cell 7
  have y8 : W5.cell? ⟨ga, 8, none⟩ = some (.int .u8 5) := SS.out.bx.1.out.cell 8
  have y9 : W5.cell? ⟨ga, 9, none⟩ = some (.int .u32 q.id) := SS.out.bx.1.out.cell 9
  have y10 : W5.cell? ⟨ga, 10, none⟩ = some (.int .u32 1) := SS.out.bx.1.out.cell 10
  have y11 : W5.cell? ⟨ga, 11, none⟩ = some (.bool false) := SS.out.bx.1.out.cell 11
  rw [rounds_succ]
  go_wp2
  refine wp_loop_rounds 3 ?_
  clear y0 y1 y2 y3 y4 y5 y6 y7 y8 y9 y10 y11
  replace SS := Lib.hid SS.out.drop
  rw [rounds_succ]
  obtain ⟨W6, hWn⟩ : ∃ W6, W5.alloc (.cells #[.int .u64 ce0.vA, .int .u64 ce0.vB, .int .u8 5, .int .u32 q.id, .int .u32 0, .bool false] 69) = W6 := ⟨_, rfl⟩
  obtain ⟨gq0, hgn⟩ : ∃ gq0, W5.heap.size = gq0 := ⟨_, rfl⟩
  have TT := SS.out.alloc BEG.out #[.int .u64 ce0.vA, .int .u64 ce0.vB, .int .u8 5, .int .u32 q.id, .int .u32 0, .bool false] 69
  rw [hgn, hWn] at TT
  replace TT := Lib.hid TT
  have HWN := Lib.hid hWn
  have HGN := Lib.hid hgn
  clear hWn hgn
  go_wp2
  try rw [HWN.out]
  try rw [HGN.out]
  clear HWN HGN SS
  have SS := TT
  clear TT
  rw [rounds_succ]
  obtain ⟨W7, hWn⟩ : ∃ W7, W6.alloc (.cells #[.int .u64 ce1.vA, .int .u64 ce1.vB, .int .u8 5, .int .u32 q.id, .int .u32 1, .bool false] 69) = W7 := ⟨_, rfl⟩
  obtain ⟨gq1, hgn⟩ : ∃ gq1, W6.heap.size = gq1 := ⟨_, rfl⟩
  have TT := SS.out.alloc BEG.out #[.int .u64 ce1.vA, .int .u64 ce1.vB, .int .u8 5, .int .u32 q.id, .int .u32 1, .bool false] 69
  rw [hgn, hWn] at TT
  replace TT := Lib.hid TT
  have HWN := Lib.hid hWn
  have HGN := Lib.hid hgn
  clear hWn hgn
  go_wp2
  try rw [HWN.out]
  try rw [HGN.out]
  clear HWN HGN SS
  have SS := TT
  clear TT
  rw [rounds_succ]
  have y0 : W7.cell? ⟨g, 4, none⟩ = some (.int .u32 q.id) := SS.out.kn.c4
  go_wp2_with fail
  (with_reducible refine (trade_any q.id _).mono ?_)
  rintro e W8 ⟨rfl, hbl⟩
  clear y0
  replace SS := Lib.hid (SS.out.later hbl)
  clear hbl
  have y0 : W8.cell? ⟨g, 4, none⟩ = some (.int .u32 q.id) := SS.out.kn.c4
  have CALL := Lib.hid (gone_S SS.out BEG.out (by have := HL.out; (try simp only [List.length_append, List.length_cons, List.length_nil]); omega) 4 q.id 0 (show _ = l ++ [Pu.mk 4 q.id 0 0 0 true] by simp))
  go_wp2_with fail
  (with_reducible refine CALL.out.mono ?_)
  rintro e W9 ⟨rfl, hf, p9, hs⟩
  replace SS := Lib.hid hs
  clear CALL hf hs y0
  obtain ⟨⟨z0, z1, z2, z3⟩, x0, x1, x2, x3⟩ := four_cells SS.out.bx.2.2.2.1.out
  go_wp2
  generalize hW : (World.setCell _ (⟨gre, 3, none⟩ : Addr) _) = WZ
  have b9 : Box WZ gre #[.int .u16 0, .int .u64 1, .int .u64 0, .int .u64 0] 41 := by
    rw [← hW]
    exact four_box SS.out.bx.2.2.2.1.out
  have F9 : Hid (Fr (fun x => x = gre) W9 WZ) := Lib.hid (by
    rw [← hW]
    exact four_fr)
  obtain ⟨⟨v0, v1, v2, v3⟩, -⟩ := four_cells b9
  clear hW b9 z0 z1 z2 z3 x0 x1 x2 x3
  refine bodyPost_ret (v := .agg #[.int .u16 0, .int .u64 1, .int .u64 0, .int .u64 0]) (by simp [results, Try.results67, go_sem, v0, v1, v2, v3]; try rfl) rfl ?_
  refine (SS.out.wr BEG.out 3 rfl F9.out).did (y := (⟨1, 0, 0⟩, l ++ [Pu.mk 4 q.id 0 0 0 true])) ?_ rfl
  unfold oSettle
  simp only [runOm_bind, runOm_pure, run_look S0.out, run_look S1.out, I0.out, Bool.false_eq_true, if_false, I1.out, Bool.false_eq_true, if_false, oGone, run_put, oGone]
  try rfl
end Go.Proofs.Ytneaehimdmachaa.Rule
namespace Go.Proofs.Ytneaehimdmachaa.Rule
open Go.ChangeShapes Go.WideShapes Go.ChangeAt Go.RowKit Go.IntWalk Go.Proofs.Mem Go.Proofs.Each
set_option linter.unusedVariables false
set_option linter.unusedSimpArgs false
set_option maxRecDepth 100000 in
set_option maxHeartbeats 8000000 in
theorem settle_yn (w : World) (g : Nat) (q : Ot) (v : Value) (base i : Nat) (p : Value) (l : List Pu) (seen : List Ce) (hst : St w g q v base i p l) (hs : SeenAt w g v seen) (hg : g < base) (hbase : base ≤ w.heap.size) (hl : l.length ≤ 800) (hi : i ≤ 800000) (hq : q.Ok) (hok : ∀ c ∈ seen, c.Ok) (t0 t1 : Int) (h0 : ∀ c, seen[i]? = some c → c.is = true) (h1 : ∀ c, seen[i + 1]? = some c → c.is = false) :
    Calls Try.prog 67 #[.pointer (some ⟨g, 0, none⟩), .agg #[.int .u32 t0, .int .u32 t1]] w (Did w g q v base i p l seen (oSettle q t0 t1) Rp.enc) := by
  have BEG := Lib.hid (Begin.mk hs hg hbase hq hok (fun x hx => hst.own.lt x hx))
  obtain ⟨Wt, hWt⟩ : ∃ W, w.alloc (.cells #[.int .u32 t0, .int .u32 t1] 95) = W := ⟨_, rfl⟩
  obtain ⟨W0, hW0⟩ : ∃ W0, Wt.alloc (.cells #[.int .u16 0, .int .u64 0, .int .u64 0, .int .u64 0] 41) = W0 := ⟨_, rfl⟩
  obtain ⟨gto, hgto⟩ : ∃ x, w.heap.size = x := ⟨_, rfl⟩
  obtain ⟨gre, hgre⟩ : ∃ x, Wt.heap.size = x := ⟨_, rfl⟩
  have HGRE := Lib.hid hgre
  have HGTO := Lib.hid hgto
  have SS : Hid (ST w g q v base p i p l [.box gre #[.int .u16 0, .int .u64 0, .int .u64 0, .int .u64 0] 41, .box gto #[.int .u32 t0, .int .u32 t1] 95] W0) := Lib.hid (by rw [← hW0, ← hgre, ← hgto, ← hWt]; exact (ST.start hst BEG.out _ _).alloc BEG.out _ _)
  have HI := Lib.hid hi
  have HQ := Lib.hid hq
  have HOK := Lib.hid hok
  have HL := Lib.hid hl
  have IS0 := Lib.hid h0
  have IS1 := Lib.hid h1
  obtain ⟨ce0, hce0⟩ := the_cell seen (i)
  have CE0 := Lib.hid hce0
  obtain ⟨ce1, hce1⟩ := the_cell seen (i + 1)
  have CE1 := Lib.hid hce1
  obtain ⟨ce2, hce2⟩ := the_cell seen (i + 1 + 1)
  have CE2 := Lib.hid hce2
  clear hst hs hg hbase hl hi hq hok h0 h1 hgto hgre hce0 hce1 hce2
  go_enter Try.func67, Try.ntmps67
  go_upto_region 1 with fail
  try rw [hWt]
  try rw [hW0]
  rw [HGRE.out]
  try rw [HGTO.out]
  clear hW0 hWt HGTO HGRE
  refine wp_SK (D := DP w g q v base i p l seen (oSettle q t0 t1) Rp.enc) 9 10 11 (seen[i]? = some ce0) (i + 1) #[.int .u64 ce0.vA, .int .u64 ce0.vB, .int .u8 5, .int .u32 q.id, .int .u32 0, .bool ce0.is] [pw g 0, pw g 0, pw g 7, pw g 0, pw g 0, pw g 0, pw g 4, some (.int .u32 q.id, True), some (.agg #[.int .u8 5, .int .u32 q.id, .int .u32 0], True), some (.agg (thing ce0.vA ce0.vB 5 q.id 0 ce0.is), True), none, none] SS.out (fun vals => ?_) (fun vals W1 hB hfin hall => ?_) (ea 10 rfl)
  · simp only [ObD, Act.put, qA, qC, qZ]
    refine ⟨?_, ?_, ?_, ?_, ?_, ?_, ?_, ?_, ?o0_8, ?o0_9, ?o0_10, ?o0_11, trivial⟩
    all_goals (intro L W hL hk hC hw; have f := deps hw rfl rfl; simp only [depF, vsP, pw, qS, qD, and_true, true_and] at f)
    case o0_8 => have CL := Lib.hid (offer_any q.id 0 W); clear hL hC hk hw; refine spD rfl ?_; go_simp; (with_reducible refine CL.out.mono ?_); rintro e w8 ⟨rfl, h2⟩; first | exact sq h2 rfl ⟨rfl, trivial⟩ | exact ⟨_, rfl, sq h2 rfl ⟨rfl, trivial⟩⟩
    case o0_9 =>
      have CL := Lib.hid (look_K SS.out (hC.pre hk) BEG.out (by have := HI.out; omega) CE0.out 5 q.id 0); clear hL hC hk hw; refine spD rfl ?_; go_simp; (with_reducible refine CL.out.mono ?_); rintro e w8 (⟨h, rfl, h2⟩ | ⟨h1, rfl, hf, H⟩)
      · exact ⟨_, rfl, Did.miss (by unfold oSettle; simp only [runOm_bind, run_look_no h]) h2⟩
      · first | exact kv hf H rfl ⟨rfl, trivial⟩ | exact ⟨_, rfl, kv hf H rfl ⟨rfl, trivial⟩⟩
    case o0_10 => have ZZ := hC.fr.size; clear hL hC hk hw; refine spD rfl ?_; go_simp; exact am ZZ
    case o0_11 => obtain ⟨gt, C, fa, hgt, bx0, hc⟩ := Fw.geta (hw ⟨10, .data⟩ (by simp) rfl) (by decide); obtain ⟨c0, c1, c2, c3, c4, c5, rfl⟩ := arr6 hc; have q := six_cells bx0; have BXX := Lib.hid bx0; have FA := Lib.hid fa; clear bx0 hc; unfold thing at f; clear hL hC hk hw; refine spD rfl ?_; go_simp; exact sm SS.out BEG.out BXX.out hgt FA.out
    all_goals (have c := kn7 hC; clear hL hC hk hw; refine spD rfl ?_; go_simp; first | exact sv rfl ⟨rfl, trivial⟩ | exact ⟨_, rfl, sv rfl ⟨rfl, trivial⟩⟩)
  have S0 := Lib.hid hB.1
  simp only [allF, vsP, pw, true_and, and_true, Nat.reduceAdd] at hall
  obtain ⟨gt0, fa, hgt, bx⟩ := hfin
  simp only [TL, Act.put, qA, qC, qZ, hall, fa]
  replace SS := Lib.hid (SS.out.push BEG.out hB.st SS.out.lt hgt bx)
  clear hall vals hB fa hgt bx
  go_upto_region 2 with fail
  refine wp_SK (D := DP w g q v base i p l seen (oSettle q t0 t1) Rp.enc) 9 10 11 (seen[i + 1]? = some ce1) (i + 1 + 1) #[.int .u64 ce1.vA, .int .u64 ce1.vB, .int .u8 5, .int .u32 q.id, .int .u32 1, .bool ce1.is] [pw g 0, pw g 0, pw g 7, pw g 0, pw g 0, pw g 0, pw g 4, some (.int .u32 q.id, True), some (.agg #[.int .u8 5, .int .u32 q.id, .int .u32 1], True), some (.agg (thing ce1.vA ce1.vB 5 q.id 1 ce1.is), True), none, none] SS.out (fun vals => ?_) (fun vals W2 hB hfin hall => ?_) (ea 10 rfl)
  · simp only [ObD, Act.put, qA, qC, qZ]
    refine ⟨?_, ?_, ?_, ?_, ?_, ?_, ?_, ?_, ?o1_8, ?o1_9, ?o1_10, ?o1_11, trivial⟩
    all_goals (intro L W hL hk hC hw; have f := deps hw rfl rfl; simp only [depF, vsP, pw, qS, qD, and_true, true_and] at f)
    case o1_8 => have CL := Lib.hid (offer_any q.id 1 W); clear hL hC hk hw; refine spD rfl ?_; go_simp; (with_reducible refine CL.out.mono ?_); rintro e w8 ⟨rfl, h2⟩; first | exact sq h2 rfl ⟨rfl, trivial⟩ | exact ⟨_, rfl, sq h2 rfl ⟨rfl, trivial⟩⟩
    case o1_9 =>
      have CL := Lib.hid (look_K SS.out (hC.pre hk) BEG.out (by have := HI.out; omega) CE1.out 5 q.id 1); clear hL hC hk hw; refine spD rfl ?_; go_simp; (with_reducible refine CL.out.mono ?_); rintro e w8 (⟨h, rfl, h2⟩ | ⟨h1, rfl, hf, H⟩)
      · exact ⟨_, rfl, Did.miss (by unfold oSettle; simp only [runOm_bind, run_look S0.out, run_look_no h]) h2⟩
      · first | exact kv hf H rfl ⟨rfl, trivial⟩ | exact ⟨_, rfl, kv hf H rfl ⟨rfl, trivial⟩⟩
    case o1_10 => have ZZ := hC.fr.size; clear hL hC hk hw; refine spD rfl ?_; go_simp; exact am ZZ
    case o1_11 => obtain ⟨gt, C, fa, hgt, bx0, hc⟩ := Fw.geta (hw ⟨10, .data⟩ (by simp) rfl) (by decide); obtain ⟨c0, c1, c2, c3, c4, c5, rfl⟩ := arr6 hc; have q := six_cells bx0; have BXX := Lib.hid bx0; have FA := Lib.hid fa; clear bx0 hc; unfold thing at f; clear hL hC hk hw; refine spD rfl ?_; go_simp; exact sm SS.out BEG.out BXX.out hgt FA.out
    all_goals (have c := kn7 hC; clear hL hC hk hw; refine spD rfl ?_; go_simp; first | exact sv rfl ⟨rfl, trivial⟩ | exact ⟨_, rfl, sv rfl ⟨rfl, trivial⟩⟩)
  have S1 := Lib.hid hB.1
  simp only [allF, vsP, pw, true_and, and_true, Nat.reduceAdd] at hall
  obtain ⟨gt1, fa, hgt, bx⟩ := hfin
  simp only [TL, Act.put, qA, qC, qZ, hall, fa]
  replace SS := Lib.hid (SS.out.push BEG.out hB.st SS.out.lt hgt bx)
  clear hall vals hB fa hgt bx
  have I0 := Lib.hid (IS0.out ce0 S0.out)
  have I1 := Lib.hid (IS1.out ce1 S1.out)
  have SX := SS.out
  rw [I0.out] at SX
  replace SS := Lib.hid SX
  clear SX
  have SX := SS.out
  rw [I1.out] at SX
  replace SS := Lib.hid SX
  clear SX
  have e0 := I0.out
  have e1 := I1.out
  obtain ⟨⟨y0, y1, y2, y3, y4, y5⟩, -⟩ := six_cells SS.out.bx.2.1.out
  obtain ⟨⟨y6, y7, y8, y9, y10, y11⟩, -⟩ := six_cells SS.out.bx.1.out
  obtain ⟨W3, hWn⟩ : ∃ W3, W2.alloc (.cells #[.int .u64 ce0.vA, .int .u64 ce0.vB, .int .u8 5, .int .u32 q.id, .int .u32 0, .bool true, .int .u64 ce1.vA, .int .u64 ce1.vB, .int .u8 5, .int .u32 q.id, .int .u32 1, .bool false] 109) = W3 := ⟨_, rfl⟩
  obtain ⟨ga, hgn⟩ : ∃ ga, W2.heap.size = ga := ⟨_, rfl⟩
  have TT := SS.out.alloc BEG.out #[.int .u64 ce0.vA, .int .u64 ce0.vB, .int .u8 5, .int .u32 q.id, .int .u32 0, .bool true, .int .u64 ce1.vA, .int .u64 ce1.vB, .int .u8 5, .int .u32 q.id, .int .u32 1, .bool false] 109
  rw [hgn, hWn] at TT
  replace TT := Lib.hid TT
  have HWN := Lib.hid hWn
  have HGN := Lib.hid hgn
  clear hWn hgn
  go_wp2
  clear e0 e1
  try rw [HWN.out]
  try rw [HGN.out]
  clear HWN HGN SS y0 y1 y2 y3 y4 y5 y6 y7 y8 y9 y10 y11
  have SS := TT
  clear TT
  replace SS := Lib.hid SS.out.drop1
  have hx0 : ∀ W, Sem.run Try.prog (Instr.index 109 (.agg #[.int .u64 ce0.vA, .int .u64 ce0.vB, .int .u8 5, .int .u32 q.id, .int .u32 0, .bool true, .int .u64 ce1.vA, .int .u64 ce1.vB, .int .u8 5, .int .u32 q.id, .int .u32 1, .bool false]) (.int .i64 0)) W = .ok (.agg #[.int .u64 ce0.vA, .int .u64 ce0.vB, .int .u8 5, .int .u32 q.id, .int .u32 0, .bool true]) W := fun W => by rfl
  have hx1 : ∀ W, Sem.run Try.prog (Instr.index 109 (.agg #[.int .u64 ce0.vA, .int .u64 ce0.vB, .int .u8 5, .int .u32 q.id, .int .u32 0, .bool true, .int .u64 ce1.vA, .int .u64 ce1.vB, .int .u8 5, .int .u32 q.id, .int .u32 1, .bool false]) (.int .i64 1)) W = .ok (.agg #[.int .u64 ce1.vA, .int .u64 ce1.vB, .int .u8 5, .int .u32 q.id, .int .u32 1, .bool false]) W := fun W => by rfl
  refine wp_loop_rounds 3 ?_
  rw [rounds_succ]
  obtain ⟨W4, hWn⟩ : ∃ W4, W3.alloc (.cells #[.int .u64 ce0.vA, .int .u64 ce0.vB, .int .u8 5, .int .u32 q.id, .int .u32 0, .bool true] 69) = W4 := ⟨_, rfl⟩
  obtain ⟨go0, hgn⟩ : ∃ go0, W3.heap.size = go0 := ⟨_, rfl⟩
  have TT := SS.out.alloc BEG.out #[.int .u64 ce0.vA, .int .u64 ce0.vB, .int .u8 5, .int .u32 q.id, .int .u32 0, .bool true] 69
  rw [hgn, hWn] at TT
  replace TT := Lib.hid TT
  have HWN := Lib.hid hWn
  have HGN := Lib.hid hgn
  clear hWn hgn
  go_upto_region 8 with fail
  try rw [HWN.out]
  try rw [HGN.out]
  clear HWN HGN SS
  have SS := TT
  clear TT
  refine wp_SK (D := DP w g q v base i p l seen (oSettle q t0 t1) Rp.enc) 10 11 12 (seen[i + 1 + 1]? = some ce2) (i + 1 + 1 + 1) #[.int .u64 ce2.vA, .int .u64 ce2.vB, .int .u8 (holdK ce0.vB), .int .u32 t0, .int .u32 (holdW ce0.vB), .bool ce2.is] [pw g 0, pw g 0, pw g 7, some (.int .i64 0, True), some (.pointer (some ⟨gto, 0, none⟩), True), some (.int .u32 t0, True), some (.pointer (some ⟨go0, 0, none⟩), True), some (.pointer (some ⟨go0, 1, none⟩), True), some (.int .u64 ce0.vB, True), some (.agg #[.int .u8 (holdK ce0.vB), .int .u32 t0, .int .u32 (holdW ce0.vB)], True), some (.agg (thing ce2.vA ce2.vB (holdK ce0.vB) t0 (holdW ce0.vB) ce2.is), True), none, none] SS.out (fun vals => ?_) (fun vals W5 hB hfin hall => ?_) (ea 11 rfl)
  · simp only [ObD, Act.put, qA, qC, qZ]
    refine ⟨?_, ?_, ?_, ?_, ?_, ?o4_5, ?_, ?_, ?o4_8, ?o4_9, ?o4_10, ?o4_11, ?o4_12, trivial⟩
    all_goals (intro L W hL hk hC hw; have f := deps hw rfl rfl; simp only [depF, vsP, pw, qS, qD, and_true, true_and] at f)
    case' o4_5 => have k0 : W.cell? ⟨gto, 0, none⟩ = some (.int .u32 t0) := (cw_bx hC).2.2.2.2.1.out.cell 0
    case' o4_8 => have k1 : W.cell? ⟨go0, 1, none⟩ = some (.int .u64 ce0.vB) := (cw_bx hC).1.out.cell 1
    case o4_9 => have CL := Lib.hid (hold_any t0 ce0.vB W); clear hL hC hk hw; refine spD rfl ?_; go_simp; (with_reducible refine CL.out.mono ?_); rintro e w8 ⟨rfl, h2⟩; first | exact sq h2 rfl ⟨rfl, trivial⟩ | exact ⟨_, rfl, sq h2 rfl ⟨rfl, trivial⟩⟩
    case o4_10 =>
      have CL := Lib.hid (look_K SS.out (hC.pre hk) BEG.out (by have := HI.out; omega) CE2.out (holdK ce0.vB) t0 (holdW ce0.vB)); clear hL hC hk hw; refine spD rfl ?_; go_simp; (with_reducible refine CL.out.mono ?_); rintro e w8 (⟨h, rfl, h2⟩ | ⟨h1, rfl, hf, H⟩)
      · exact ⟨_, rfl, Did.miss (by unfold oSettle; simp only [runOm_bind, run_look S0.out, run_look S1.out, I0.out, if_true, run_look_no h]) h2⟩
      · first | exact kv hf H rfl ⟨rfl, trivial⟩ | exact ⟨_, rfl, kv hf H rfl ⟨rfl, trivial⟩⟩
    case o4_11 => have ZZ := hC.fr.size; clear hL hC hk hw; refine spD rfl ?_; go_simp; exact am ZZ
    case o4_12 => obtain ⟨gt, C, fa, hgt, bx0, hc⟩ := Fw.geta (hw ⟨11, .data⟩ (by simp) rfl) (by decide); obtain ⟨c0, c1, c2, c3, c4, c5, rfl⟩ := arr6 hc; have q := six_cells bx0; have BXX := Lib.hid bx0; have FA := Lib.hid fa; clear bx0 hc; unfold thing at f; clear hL hC hk hw; refine spD rfl ?_; go_simp; exact sm SS.out BEG.out BXX.out hgt FA.out
    all_goals (have c := kn7 hC; clear hL hC hk hw; refine spD rfl ?_; go_simp; first | exact sv rfl ⟨rfl, trivial⟩ | exact ⟨_, rfl, sv rfl ⟨rfl, trivial⟩⟩)
  have S2 := Lib.hid hB.1
  simp only [allF, vsP, pw, true_and, and_true, Nat.reduceAdd] at hall
  obtain ⟨gp0, fa, hgt, bx⟩ := hfin
  simp only [TL, Act.put, qA, qC, qZ, hall, fa]
  replace SS := Lib.hid (SS.out.push BEG.out hB.st SS.out.lt hgt bx)
  clear hall vals hB fa hgt bx
  go_upto_region 9 with fail
  refine wp_SA (D := DP w g q v base i p l seen (oSettle q t0 t1) Rp.enc) 10 11 12 True True (i + 1 + 1 + 1) (l ++ [amt (holdK ce0.vB) t0 (holdW ce0.vB) (ce2.vA + ce0.vA)]) [pw g 0, some (.pointer (some ⟨gp0, 2, none⟩), True), some (.agg #[.int .u8 (holdK ce0.vB), .int .u32 t0, .int .u32 (holdW ce0.vB)], True), some (.pointer (some ⟨gp0, 0, none⟩), True), some (.pointer (some ⟨gp0, 0, none⟩), True), some (.int .u64 ce2.vA, True), some (.pointer (some ⟨go0, 0, none⟩), True), some (.pointer (some ⟨go0, 0, none⟩), True), some (.int .u64 ce0.vA, True), some (.int .u64 (ce2.vA + ce0.vA), Mr ce2.vA ce0.vA), some (.tuple #[], True)] SS.out (fun vals => ?_) (fun vals W6 hB hall => ?_)
  · simp only [ObD, Act.put, qA, qC, qZ]
    refine ⟨?_, ?_, ?o5_2, ?_, ?_, ?o5_5, ?_, ?_, ?o5_8, ?o5_9, ?o5_10, trivial⟩
    all_goals (intro L W hL hk hC hw; have f := deps hw rfl rfl; simp only [depF, vsP, pw, qS, qD, and_true, true_and] at f)
    case' o5_2 => have k2 : W.cell? ⟨gp0, 2, none⟩ = some (.int .u8 (holdK ce0.vB)) := (cw_bx hC).1.out.cell 2; have k3 : W.cell? ⟨gp0, 3, none⟩ = some (.int .u32 t0) := (cw_bx hC).1.out.cell 3; have k4 : W.cell? ⟨gp0, 4, none⟩ = some (.int .u32 (holdW ce0.vB)) := (cw_bx hC).1.out.cell 4
    case' o5_5 => have k0 : W.cell? ⟨gp0, 0, none⟩ = some (.int .u64 ce2.vA) := (cw_bx hC).1.out.cell 0
    case' o5_8 => have k0 : W.cell? ⟨go0, 0, none⟩ = some (.int .u64 ce0.vA) := (cw_bx hC).2.1.out.cell 0
    case o5_9 =>
      have CL := Lib.hid (more_C (vA_ok HOK.out S2.out) (vA_ok HOK.out S0.out) hC SS.out BEG.out); clear hL hC hk hw; refine spD rfl ?_; go_simp; (with_reducible refine CL.out.mono ?_)
      rintro e w8 (⟨h, rfl, h2⟩ | ⟨h1, rfl, h2⟩)
      · exact ⟨_, rfl, Did.err (by unfold oSettle; simp only [runOm_bind, run_look S0.out, run_look S1.out, I0.out, if_true, run_look S2.out, run_more_no h]) h2⟩
      · first | exact sq h2 rfl ⟨rfl, h1⟩ | exact ⟨_, rfl, sq h2 rfl ⟨rfl, h1⟩⟩
    case o5_10 => have CL := Lib.hid (pk SS.out BEG.out (amount_S (hC.pre hk) BEG.out (by have := HL.out; (try simp only [List.length_append, List.length_cons, List.length_nil]); omega) (holdK ce0.vB) t0 (holdW ce0.vB) (ce2.vA + ce0.vA) (show _ = l ++ [amt (holdK ce0.vB) t0 (holdW ce0.vB) (ce2.vA + ce0.vA)] by simp))); clear hL hC hk hw; refine spD rfl ?_; go_simp; (with_reducible refine CL.out.mono ?_); rintro e w8 ⟨rfl, hf, H⟩; first | exact kv hf H rfl ⟨rfl, trivial⟩ | exact ⟨_, rfl, kv hf H rfl ⟨rfl, trivial⟩⟩
    all_goals (have c := kn7 hC; clear hL hC hk hw; refine spD rfl ?_; go_simp; first | exact sv rfl ⟨rfl, trivial⟩ | exact ⟨_, rfl, sv rfl ⟨rfl, trivial⟩⟩)
  have C6 : Hid (Mr ce2.vA ce0.vA) := Lib.hid (vsP_c (hall.get 9))
  simp only [allF, vsP, pw, true_and, and_true, Nat.reduceAdd] at hall
  simp only [TL, Act.put, qA, qC, qZ, hall]
  obtain ⟨p6, hB⟩ := hB.put
  replace SS := Lib.hid hB
  clear hall vals hB
  go_wp2
  replace SS := Lib.hid SS.out.drop
  replace SS := Lib.hid SS.out.drop
  rw [rounds_succ]
  obtain ⟨W7, hWn⟩ : ∃ W7, W6.alloc (.cells #[.int .u64 ce1.vA, .int .u64 ce1.vB, .int .u8 5, .int .u32 q.id, .int .u32 1, .bool false] 69) = W7 := ⟨_, rfl⟩
  obtain ⟨go1, hgn⟩ : ∃ go1, W6.heap.size = go1 := ⟨_, rfl⟩
  have TT := SS.out.alloc BEG.out #[.int .u64 ce1.vA, .int .u64 ce1.vB, .int .u8 5, .int .u32 q.id, .int .u32 1, .bool false] 69
  rw [hgn, hWn] at TT
  replace TT := Lib.hid TT
  have HWN := Lib.hid hWn
  have HGN := Lib.hid hgn
  clear hWn hgn
  go_wp2
  try rw [HWN.out]
  try rw [HGN.out]
  clear HWN HGN SS
  have SS := TT
  clear TT
  replace SS := Lib.hid SS.out.drop
  have y0 : W7.cell? ⟨ga, 0, none⟩ = some (.int .u64 ce0.vA) := SS.out.bx.1.out.cell 0
  have y1 : W7.cell? ⟨ga, 1, none⟩ = some (.int .u64 ce0.vB) := SS.out.bx.1.out.cell 1
  have y2 : W7.cell? ⟨ga, 2, none⟩ = some (.int .u8 5) := SS.out.bx.1.out.cell 2
  have y3 : W7.cell? ⟨ga, 3, none⟩ = some (.int .u32 q.id) := SS.out.bx.1.out.cell 3
  have y4 : W7.cell? ⟨ga, 4, none⟩ = some (.int .u32 0) := SS.out.bx.1.out.cell 4
  have y5 : W7.cell? ⟨ga, 5, none⟩ = some (.bool true) := SS.out.bx.1.out.cell 5
  have y6 : W7.cell? ⟨ga, 6, none⟩ = some (.int .u64 ce1.vA) := SS.out.bx.1.out.cell 6
  have y7 : W7.cell? ⟨ga, 7, none⟩ = some (.int .u64 ce1.vB) := SS.out.bx.1.out.cell 7
  have y8 : W7.cell? ⟨ga, 8, none⟩ = some (.int .u8 5) := SS.out.bx.1.out.cell 8
  have y9 : W7.cell? ⟨ga, 9, none⟩ = some (.int .u32 q.id) := SS.out.bx.1.out.cell 9
  have y10 : W7.cell? ⟨ga, 10, none⟩ = some (.int .u32 1) := SS.out.bx.1.out.cell 10
  have y11 : W7.cell? ⟨ga, 11, none⟩ = some (.bool false) := SS.out.bx.1.out.cell 11
  rw [rounds_succ]
  go_wp2
  refine wp_loop_rounds 3 ?_
  clear y0 y1 y2 y3 y4 y5 y6 y7 y8 y9 y10 y11
  replace SS := Lib.hid SS.out.drop
  rw [rounds_succ]
  obtain ⟨W8, hWn⟩ : ∃ W8, W7.alloc (.cells #[.int .u64 ce0.vA, .int .u64 ce0.vB, .int .u8 5, .int .u32 q.id, .int .u32 0, .bool true] 69) = W8 := ⟨_, rfl⟩
  obtain ⟨gq0, hgn⟩ : ∃ gq0, W7.heap.size = gq0 := ⟨_, rfl⟩
  have TT := SS.out.alloc BEG.out #[.int .u64 ce0.vA, .int .u64 ce0.vB, .int .u8 5, .int .u32 q.id, .int .u32 0, .bool true] 69
  rw [hgn, hWn] at TT
  replace TT := Lib.hid TT
  have HWN := Lib.hid hWn
  have HGN := Lib.hid hgn
  clear hWn hgn
  go_wp2_with fail
  try rw [HWN.out]
  try rw [HGN.out]
  clear HWN HGN SS
  have SS := TT
  clear TT
  have CALL := Lib.hid (gone_S SS.out BEG.out (by have := HL.out; (try simp only [List.length_append, List.length_cons, List.length_nil]); omega) 5 q.id 0 (show _ = l ++ [amt (holdK ce0.vB) t0 (holdW ce0.vB) (ce2.vA + ce0.vA), Pu.mk 5 q.id 0 0 0 true] by simp))
  (with_reducible refine CALL.out.mono ?_)
  rintro e W9 ⟨rfl, hf, p9, hs⟩
  replace SS := Lib.hid hs
  clear CALL hf hs
  go_wp2
  rw [rounds_succ]
  obtain ⟨W10, hWn⟩ : ∃ W10, W9.alloc (.cells #[.int .u64 ce1.vA, .int .u64 ce1.vB, .int .u8 5, .int .u32 q.id, .int .u32 1, .bool false] 69) = W10 := ⟨_, rfl⟩
  obtain ⟨gq1, hgn⟩ : ∃ gq1, W9.heap.size = gq1 := ⟨_, rfl⟩
  have TT := SS.out.alloc BEG.out #[.int .u64 ce1.vA, .int .u64 ce1.vB, .int .u8 5, .int .u32 q.id, .int .u32 1, .bool false] 69
  rw [hgn, hWn] at TT
  replace TT := Lib.hid TT
  have HWN := Lib.hid hWn
  have HGN := Lib.hid hgn
  clear hWn hgn
  go_wp2
  try rw [HWN.out]
  try rw [HGN.out]
  clear HWN HGN SS
  have SS := TT
  clear TT
  rw [rounds_succ]
  have y0 : W10.cell? ⟨g, 4, none⟩ = some (.int .u32 q.id) := SS.out.kn.c4
  go_wp2_with fail
  (with_reducible refine (trade_any q.id _).mono ?_)
  rintro e W11 ⟨rfl, hbl⟩
  clear y0
  replace SS := Lib.hid (SS.out.later hbl)
  clear hbl
  have y0 : W11.cell? ⟨g, 4, none⟩ = some (.int .u32 q.id) := SS.out.kn.c4
  have CALL := Lib.hid (gone_S SS.out BEG.out (by have := HL.out; (try simp only [List.length_append, List.length_cons, List.length_nil]); omega) 4 q.id 0 (show _ = l ++ [amt (holdK ce0.vB) t0 (holdW ce0.vB) (ce2.vA + ce0.vA), Pu.mk 5 q.id 0 0 0 true, Pu.mk 4 q.id 0 0 0 true] by simp))
  go_wp2_with fail
  (with_reducible refine CALL.out.mono ?_)
  rintro e W12 ⟨rfl, hf, p12, hs⟩
  replace SS := Lib.hid hs
  clear CALL hf hs y0
  obtain ⟨⟨z0, z1, z2, z3⟩, x0, x1, x2, x3⟩ := four_cells SS.out.bx.2.2.2.1.out
  go_wp2
  generalize hW : (World.setCell _ (⟨gre, 3, none⟩ : Addr) _) = WZ
  have b9 : Box WZ gre #[.int .u16 0, .int .u64 1, .int .u64 0, .int .u64 0] 41 := by
    rw [← hW]
    exact four_box SS.out.bx.2.2.2.1.out
  have F9 : Hid (Fr (fun x => x = gre) W12 WZ) := Lib.hid (by
    rw [← hW]
    exact four_fr)
  obtain ⟨⟨v0, v1, v2, v3⟩, -⟩ := four_cells b9
  clear hW b9 z0 z1 z2 z3 x0 x1 x2 x3
  refine bodyPost_ret (v := .agg #[.int .u16 0, .int .u64 1, .int .u64 0, .int .u64 0]) (by simp [results, Try.results67, go_sem, v0, v1, v2, v3]; try rfl) rfl ?_
  refine (SS.out.wr BEG.out 3 rfl F9.out).did (y := (⟨1, 0, 0⟩, l ++ [amt (holdK ce0.vB) t0 (holdW ce0.vB) (ce2.vA + ce0.vA), Pu.mk 5 q.id 0 0 0 true, Pu.mk 4 q.id 0 0 0 true])) ?_ rfl
  unfold oSettle
  simp only [runOm_bind, runOm_pure, run_look S0.out, run_look S1.out, I0.out, if_true, run_look S2.out, run_more C6.out, oAmount, run_put, I1.out, Bool.false_eq_true, if_false, oGone, run_put, oGone, run_put, oGone, List.append_assoc, List.cons_append, List.nil_append]
  try rfl
end Go.Proofs.Ytneaehimdmachaa.Rule
namespace Go.Proofs.Ytneaehimdmachaa.Rule
set_option linter.unusedVariables false
set_option linter.unusedSimpArgs false
def Pu.good (x : Pu) : Prop := (x.gone = true ∧ x.A = 0 ∧ x.B = 0) ∨ (x.gone = false ∧ (x.k ≠ 4 → x.k ≠ 6 → x.A ≤ 4611686018427387904) ∧ (x.k = 3 → x.A ≠ 0))
theorem Pu.good_of {k a b A B : Int} (h : k ≠ 4 → k ≠ 6 → A ≤ 4611686018427387904) (h3 : k = 3 → A ≠ 0) : (Pu.mk k a b A B false).good := .inr ⟨rfl, h, h3⟩
def Tr.hold {α : Type} (P : α → Prop) : Tr α → Prop
  | .ret x => P x
  | .err _ => True
  | .look _ _ _ f => ∀ A B is, 0 ≤ A → A ≤ 4611686018427387904 → (f A B is).hold P
theorem Tr.hold_bind {α β : Type} {P : β → Prop} (f : α → Tr β) : ∀ (t : Tr α), t.hold (fun x => (f x).hold P) → (t.bind f).hold P
  | .ret x, h => h
  | .err _, _ => by simp only [Tr.bind]; unfold Tr.hold; trivial
  | .look _ _ _ g, h => by
    simp only [Tr.bind, Tr.hold] at h ⊢
    exact fun A B is h0 h1 => Tr.hold_bind f (g A B is) (h A B is h0 h1)
theorem Tr.hold_mono {α : Type} {P Q : α → Prop} (hpq : ∀ x, P x → Q x) : ∀ (t : Tr α), t.hold P → t.hold Q
  | .ret x, h => hpq x h
  | .err _, _ => by unfold Tr.hold; trivial
  | .look _ _ _ g, h => by
    simp only [Tr.hold] at h ⊢
    exact fun A B is h0 h1 => Tr.hold_mono hpq (g A B is) (h A B is h0 h1)
theorem Tr.hold_run {α : Type} {P : α → Prop} (seen : List Ce) (hs : ∀ c ∈ seen, 0 ≤ c.A ∧ c.A ≤ 4611686018427387904) : ∀ (t : Tr α) (i : Nat) (y : α) (j : Nat), t.hold P → runTr seen t i = .ok y j → P y
  | .ret x, i, y, j, h, e => by injection e with e1 e2; subst e1; exact h
  | .err _, i, y, j, h, e => by cases e
  | .look _ _ _ g, i, y, j, h, e => by
    simp only [Tr.hold] at h
    simp only [runTr] at e
    split at e
    · cases e
    · rename_i c hc
      have hm := hs c (List.mem_of_getElem? hc)
      have h0 : 0 ≤ c.vA ∧ c.vA ≤ 4611686018427387904 := by unfold Ce.vA; split <;> omega
      exact Tr.hold_run seen hs _ _ _ _ (h _ _ _ h0.1 h0.2) e
def Om.good {α : Type} (m : Om α) (P : α → Prop) : Prop := ∀ l, (∀ x ∈ l, Pu.good x) → (m l).hold (fun y => P y.1 ∧ ∀ x ∈ y.2, Pu.good x)
section
variable {α β : Type} {P : β → Prop} {Q : α → Prop}
theorem Om.good_bind {m : Om α} {f : α → Om β} (hm : Om.good m Q) (hf : ∀ x, Q x → Om.good (f x) P) : Om.good (m >>= f) P := fun l hl =>
  Tr.hold_bind (fun y : α × List Pu => f y.1 y.2) (m l) (Tr.hold_mono (fun y hy => hf y.1 hy.1 y.2 hy.2) _ (hm l hl))
theorem Om.good_weak {m : Om β} {P' : β → Prop} (hm : Om.good m P') : Om.good m (fun _ => True) := fun l hl => Tr.hold_mono (fun y hy => ⟨trivial, hy.2⟩) _ (hm l hl)
theorem Om.good_pure {x : β} (h : P x) : Om.good (pure x : Om β) P := fun l hl => by show (Tr.ret (x, l)).hold _; unfold Tr.hold; exact ⟨h, hl⟩
theorem Om.good_pure' (x : β) : Om.good (pure x : Om β) (fun y => y = x) := Om.good_pure rfl
theorem Om.good_err (e : Int) : Om.good (oErr e : Om β) P := fun l hl => by show (Tr.err e : Tr (β × List Pu)).hold _; unfold Tr.hold; trivial
theorem Om.good_look (k a b : Int) : Om.good (oLook k a b) (fun t => 0 ≤ t.A ∧ t.A ≤ 4611686018427387904) := fun l hl => by
  unfold oLook
  simp only [Tr.hold]
  exact fun A B is h0 h1 => ⟨⟨h0, h1⟩, hl⟩
theorem Om.good_deny (c : Bool) (e : Int) : Om.good (oDeny c e) (fun _ => c = false) := by
  unfold oDeny
  split
  · exact Om.good_err e
  · rename_i h; exact Om.good_pure (by simpa using h)
theorem Om.good_there (k a b : Int) : Om.good (oThere k a b) (fun t => 0 ≤ t.A ∧ t.A ≤ 4611686018427387904) :=
  Om.good_bind (Om.good_look k a b) (fun t ht => Om.good_bind (Om.good_deny _ _) (fun _ _ => Om.good_pure ht))
theorem Om.good_put (x : Pu) (hx : x.good) : Om.good (oPut x) (fun _ => True) := fun l hl => by
  unfold oPut
  unfold Tr.hold
  refine ⟨trivial, fun y hy => ?_⟩
  rcases List.mem_append.1 hy with h | h
  · exact hl y h
  · rw [List.mem_singleton.1 h]; exact hx
theorem Om.good_amount (k a b A : Int) (h : A ≤ 4611686018427387904) : Om.good (oAmount k a b A) (fun _ => True) := by
  unfold oAmount
  refine Om.good_put _ ?_
  unfold amt
  split
  · exact .inl ⟨rfl, rfl, rfl⟩
  · rename_i hn; exact .inr ⟨rfl, fun _ _ => h, fun hk hA => hn ⟨hk, hA⟩⟩
theorem Om.good_gone (k a b : Int) : Om.good (oGone k a b) (fun _ => True) := Om.good_put _ (.inl ⟨rfl, rfl, rfl⟩)
theorem Om.good_more (a n : Int) : Om.good (oMore a n) (fun r => r = a + n ∧ r ≤ 4611686018427387904) := by
  unfold oMore
  split
  · exact Om.good_err _
  · exact Om.good_pure ⟨rfl, by omega⟩
theorem Om.good_less (a n : Int) : Om.good (oLess a n) (fun r => r = a - n ∧ n ≤ 4611686018427387904 ∧ a ≤ 4611686018427387904 ∧ n ≤ a) := by
  unfold oLess
  split
  · exact Om.good_err _
  · split
    · exact Om.good_err _
    · exact Om.good_pure ⟨rfl, by omega, by omega, by omega⟩
theorem Om.good_run {m : Om β} (hm : Om.good m P) {seen : List Ce} (hs : ∀ c ∈ seen, 0 ≤ c.A ∧ c.A ≤ 4611686018427387904) {i j : Nat} {y : β × List Pu} (h : runOm seen m i [] = .ok y j) : ∀ x ∈ y.2, Pu.good x :=
  (Tr.hold_run seen hs _ _ _ _ (hm [] (by simp)) h).2
end
theorem oNumber_good (kd : Int) : Om.good (oNumber kd) (fun r => 0 ≤ r ∧ r ≤ 4294967295) := by
  unfold oNumber
  refine Om.good_bind (Om.good_look _ _ _) (fun c hc => Om.good_bind (Om.good_deny _ _) (fun _ hd => Om.good_pure ?_))
  have := of_decide_eq_false hd
  omega
theorem oSide_good (q : Ot) (A : Int) : Om.good (oSide q A) (fun r => r = 0 ∨ r = 1) := by
  unfold oSide
  split
  · exact Om.good_pure (.inl rfl)
  · split
    · exact Om.good_pure (.inr rfl)
    · exact Om.good_err _
theorem good_one : (∀ (q : Ot) (hn : 0 ≤ q.n), Om.good (oOpen q) (fun _ => True)) ∧ (∀ (q : Ot) (hn : 0 ≤ q.n), Om.good (oMint q) (fun _ => True)) ∧ (∀ (q : Ot) (hn : 0 ≤ q.n), Om.good (oCreate q) (fun _ => True)) ∧ (∀ (q : Ot) (hn : 0 ≤ q.n), Om.good (oDeposit q) (fun _ => True)) ∧ (∀ (q : Ot) (hn : 0 ≤ q.n), Om.good (oLookAt q) (fun _ => True)) ∧ (∀ (k a b k2 a2 b2 : Int) (q : Ot) (hn : 0 ≤ q.n), Om.good (oMove q k a b k2 a2 b2) (fun _ => True)) ∧ (∀ (q : Ot) (hn : 0 ≤ q.n), Om.good (oTrade q) (fun _ => True)) ∧ (∀ (t0 t1 : Int) (q : Ot) (hn : 0 ≤ q.n), Om.good (oSettle q t0 t1) (fun _ => True)) ∧ (∀ (q : Ot) (hn : 0 ≤ q.n) (hp : q.pr ≤ 4611686018427387904), Om.good (oSell q) (fun _ => True)) ∧ (∀ (q : Ot) (hn : 0 ≤ q.n) (hp : q.n ≤ 4611686018427387904), Om.good (oBid q) (fun _ => True)) ∧ (∀ (q : Ot) (hn : 0 ≤ q.n), Om.good (oClose q) (fun _ => True)) ∧ (∀ (q : Ot) (hn : 0 ≤ q.n), Om.good (oOffer q) (fun _ => True)) := by
  refine ⟨?_, ?_, ?_, ?_, ?_, ?_, ?_, ?_, ?_, ?_, ?_, ?_⟩
  all_goals
    intros
    first | unfold oOpen | unfold oMint | unfold oCreate | unfold oDeposit | unfold oLookAt | unfold oMove | unfold oTrade | unfold oSettle | unfold oSell | unfold oBid | unfold oClose | unfold oOffer
    repeat' (first
      | with_reducible exact Om.good_err _
      | with_reducible refine Om.good_pure ?_
      | with_reducible refine Om.good_bind (Om.good_there _ _ _) (fun _ hx => ?_)
      | with_reducible refine Om.good_bind (Om.good_look _ _ _) (fun _ hx => ?_)
      | with_reducible refine Om.good_bind (Om.good_more _ _) (fun _ hx => ?_)
      | with_reducible refine Om.good_bind (Om.good_less _ _) (fun _ hx => ?_)
      | with_reducible refine Om.good_bind (Om.good_deny _ _) (fun _ hx => ?_)
      | with_reducible refine Om.good_bind (Om.good_amount _ _ _ _ ?_) (fun _ hx => ?_)
      | with_reducible refine Om.good_bind (Om.good_gone _ _ _) (fun _ hx => ?_)
      | with_reducible refine Om.good_bind (Om.good_put _ ?_) (fun _ hx => ?_)
      | with_reducible refine Om.good_bind (Om.good_pure' _) (fun _ hx => ?_)
      | with_reducible refine Om.good_bind (oNumber_good _) (fun _ hx => ?_)
      | with_reducible refine Om.good_bind (oSide_good _ _) (fun _ hx => ?_)
      | with_reducible exact Om.good_weak (oNumber_good _)
      | with_reducible exact Om.good_weak (oSide_good _ _)
      | split
      | dsimp only)
    all_goals first
      | trivial
      | omega
      | (dsimp only at *; omega)
      | (refine Pu.good_of ?_ ?_ <;> intros <;> first | omega | (dsimp only at *; omega))
theorem oOpen_good (q : Ot) (hn : 0 ≤ q.n) : Om.good (oOpen q) (fun _ => True) := good_one.1 q hn
theorem oMint_good (q : Ot) (hn : 0 ≤ q.n) : Om.good (oMint q) (fun _ => True) := good_one.2.1 q hn
theorem oCreate_good (q : Ot) (hn : 0 ≤ q.n) : Om.good (oCreate q) (fun _ => True) := good_one.2.2.1 q hn
theorem oDeposit_good (q : Ot) (hn : 0 ≤ q.n) : Om.good (oDeposit q) (fun _ => True) := good_one.2.2.2.1 q hn
theorem oLookAt_good (q : Ot) (hn : 0 ≤ q.n) : Om.good (oLookAt q) (fun _ => True) := good_one.2.2.2.2.1 q hn
theorem oMove_good (k a b k2 a2 b2 : Int) (q : Ot) (hn : 0 ≤ q.n) : Om.good (oMove q k a b k2 a2 b2) (fun _ => True) := good_one.2.2.2.2.2.1 k a b k2 a2 b2 q hn
theorem oTrade_good (q : Ot) (hn : 0 ≤ q.n) : Om.good (oTrade q) (fun _ => True) := good_one.2.2.2.2.2.2.1 q hn
theorem oSettle_good (t0 t1 : Int) (q : Ot) (hn : 0 ≤ q.n) : Om.good (oSettle q t0 t1) (fun _ => True) := good_one.2.2.2.2.2.2.2.1 t0 t1 q hn
theorem oSell_good (q : Ot) (hn : 0 ≤ q.n) (hp : q.pr ≤ 4611686018427387904) : Om.good (oSell q) (fun _ => True) := good_one.2.2.2.2.2.2.2.2.1 q hn hp
theorem oBid_good (q : Ot) (hn : 0 ≤ q.n) (hp : q.n ≤ 4611686018427387904) : Om.good (oBid q) (fun _ => True) := good_one.2.2.2.2.2.2.2.2.2.1 q hn hp
theorem oClose_good (q : Ot) (hn : 0 ≤ q.n) : Om.good (oClose q) (fun _ => True) := good_one.2.2.2.2.2.2.2.2.2.2.1 q hn
theorem oOffer_good (q : Ot) (hn : 0 ≤ q.n) : Om.good (oOffer q) (fun _ => True) := good_one.2.2.2.2.2.2.2.2.2.2.2 q hn
theorem oPay_good (q : Ot) (hn : 0 ≤ q.n) : Om.good (oPay q) (fun _ => True) := by
  unfold oPay
  exact Om.good_bind (Om.good_there _ _ _) (fun _ _ => oMove_good _ _ _ _ _ _ q hn)
theorem oGive_good (q : Ot) (hn : 0 ≤ q.n) : Om.good (oGive q) (fun _ => True) := by
  unfold oGive
  exact Om.good_bind (Om.good_there _ _ _) (fun _ _ => Om.good_bind (Om.good_there _ _ _) (fun _ _ => oMove_good _ _ _ _ _ _ q hn))
theorem oAgree_good (q : Ot) (hn : 0 ≤ q.n) : Om.good (oAgree q) (fun _ => True) := by
  unfold oAgree
  refine Om.good_bind (Om.good_there _ _ _) (fun t _ => Om.good_bind (oSide_good _ _) (fun s _ => ?_))
  split
  · exact Om.good_bind (Om.good_put _ (Pu.good_of (fun h => absurd rfl h) (fun h => by cases h))) (fun _ _ => Om.good_pure trivial)
  · exact oSettle_good _ _ q hn
theorem oBreak_good (q : Ot) (hn : 0 ≤ q.n) : Om.good (oBreak q) (fun _ => True) := by
  unfold oBreak
  exact Om.good_bind (Om.good_there _ _ _) (fun t _ => Om.good_bind (oSide_good _ _) (fun s _ => oSettle_good _ _ q hn))
end Go.Proofs.Ytneaehimdmachaa.Rule
namespace Go.Proofs.Ytneaehimdmachaa.Stk
open Go.ChangeShapes Go.WideShapes Go.ChangeAt Go.RowKit Go.IntWalk Go.Proofs.Mem Go.Proofs.Stk
set_option linter.unusedVariables false
set_option linter.unusedSimpArgs false
def rv (g1 g2 : Nat) (n1 n2 : Nat) : Value := .agg #[.slice (some ⟨g1, 0, none⟩) n1 n1, .slice (some ⟨g2, 0, none⟩) n2 n2]
def OfPost (l1 l2 : List Pr) (x : Value) (w : World) (e : Ending) (w' : World) : Prop :=
  ∃ g1 g2, e = .returned (.tuple #[rv g1 g2 l1.length l2.length, x]) ∧ g1 ≠ g2 ∧ w.heap.size ≤ g1 ∧ w.heap.size ≤ g2 ∧
    KO w' g1 104 l1 ∧ KO w' g2 104 l2 ∧ Below w.heap.size w w'
theorem KO.new (w : World) (t : TypeId) (l : List Pr) (g : Nat) (hg : g = w.heap.size) : KO (w.alloc (.cells (flat l).toArray t)) g t l := by
  subst hg; exact heap_alloc_new w _
theorem of_post (w : World) (o : Obj) (l1 l2 : List Pr) (x : Value) (v : Value) (hv : v = rv (w.heap.size + 1) (w.heap.size + 2) l1.length l2.length) :
    OfPost l1 l2 x w (.returned (.tuple #[v, x])) (((w.alloc o).alloc (.cells (flat l1).toArray 104)).alloc (.cells (flat l2).toArray 104)) := by
  subst hv
  refine ⟨w.heap.size + 1, w.heap.size + 2, rfl, by omega, by omega, by omega, ?_, ?_, ?_⟩
  · exact (KO.new _ _ _ _ (by simp)).alloc _
  · exact KO.new _ _ _ _ (by simp)
  · exact (((Below.refl _ _).alloc (Nat.le_refl _) _).alloc (by simp) _).alloc (by simp; omega) _
set_option maxRecDepth 100000 in
set_option maxHeartbeats 4000000 in
theorem of_some (id : Int) (h : isS id = true) (w : World) : Calls Try.prog 70 #[.int .u32 id] w (OfPost (lineS id).1 (lineS id).2 (.bool true) w) := by
  refine six (id := id) ?_ ?_ ?_ ?_ ?_ ?_ (fun h0 => by rw [h] at h0; cases h0)
  all_goals intro e; subst e; clear h
  · go_enter Try.func70, Try.ntmps70
    go_wp2
    refine bodyPost_ret (v := .tuple #[rv (w.heap.size + 1) (w.heap.size + 2) 1 1, .bool true]) (by simp [results, Try.results70, go_sem]; try rfl) rfl ?_
    exact of_post w _ [(1, 2)] [(2, 1)] (.bool true) _ rfl
  · go_enter Try.func70, Try.ntmps70
    go_wp2
    refine bodyPost_ret (v := .tuple #[rv (w.heap.size + 1) (w.heap.size + 2) 2 1, .bool true]) (by simp [results, Try.results70, go_sem]; try rfl) rfl ?_
    exact of_post w _ [(2, 1), (3, 1)] [(4, 1)] (.bool true) _ rfl
  · go_enter Try.func70, Try.ntmps70
    go_wp2
    refine bodyPost_ret (v := .tuple #[rv (w.heap.size + 1) (w.heap.size + 2) 1 2, .bool true]) (by simp [results, Try.results70, go_sem]; try rfl) rfl ?_
    exact of_post w _ [(4, 1)] [(2, 1), (5, 3)] (.bool true) _ rfl
  · go_enter Try.func70, Try.ntmps70
    go_wp2
    refine bodyPost_ret (v := .tuple #[rv (w.heap.size + 1) (w.heap.size + 2) 1 2, .bool true]) (by simp [results, Try.results70, go_sem]; try rfl) rfl ?_
    exact of_post w _ [(5, 10)] [(6, 1), (5, 1)] (.bool true) _ rfl
  · go_enter Try.func70, Try.ntmps70
    go_wp2
    refine bodyPost_ret (v := .tuple #[rv (w.heap.size + 1) (w.heap.size + 2) 3 1, .bool true]) (by simp [results, Try.results70, go_sem]; try rfl) rfl ?_
    exact of_post w _ [(6, 1), (4, 2), (1, 5)] [(7, 1)] (.bool true) _ rfl
  · go_enter Try.func70, Try.ntmps70
    go_wp2
    refine bodyPost_ret (v := .tuple #[rv (w.heap.size + 1) (w.heap.size + 2) 1 2, .bool true]) (by simp [results, Try.results70, go_sem]; try rfl) rfl ?_
    exact of_post w _ [(7, 1)] [(6, 1), (1, 4)] (.bool true) _ rfl
set_option maxRecDepth 100000 in
theorem of_none (id : Int) (h : isS id = false) (w : World) : Calls Try.prog 70 #[.int .u32 id] w fun e w' => e = .returned (.tuple #[.agg #[.slice none 0 0, .slice none 0 0], .bool false]) ∧ Below w.heap.size w w' := by
  unfold isS at h; simp at h
  have a1 : (id == 1) = false := by simp; omega
  have a2 : (id == 2) = false := by simp; omega
  have a3 : (id == 3) = false := by simp; omega
  have a4 : (id == 4) = false := by simp; omega
  have a5 : (id == 5) = false := by simp; omega
  have a6 : (id == 6) = false := by simp; omega
  clear h
  go_enter Try.func70, Try.ntmps70
  go_wp2
  refine bodyPost_ret (v := .tuple #[.agg #[.slice none 0 0, .slice none 0 0], .bool false]) (by simp [results, Try.results70, go_sem]; try rfl) rfl ?_
  exact ⟨rfl, (Below.refl _ _).alloc (Nat.le_refl _) _⟩
end Go.Proofs.Ytneaehimdmachaa.Stk
namespace Go.Proofs.Ytneaehimdmachaa.Stk
open Go.ChangeShapes Go.WideShapes Go.ChangeAt Go.RowKit Go.IntWalk Go.Proofs.Mem Go.Proofs.Stk
set_option linter.unusedVariables false
set_option linter.unusedSimpArgs false
theorem ret_int {k : IntKind} {a b : Int} (h : a = b) : Ending.returned (.int k a) = .returned (.int k b) := by rw [h]
theorem cnt_drop (item : Int) (l : List Pr) (j : Nat) (h : j < l.length) : cnt item (l.drop j) = if (l.getD j (0, 0)).1 = item then (l.getD j (0, 0)).2 else cnt item (l.drop (j + 1)) := by
  rw [List.drop_eq_getElem_cons h]
  simp [cnt, List.getD, List.getElem?_eq_getElem h]
def okL (l : List Pr) : Prop := l.length ≤ 1000 ∧ ∀ p ∈ l, (0 ≤ p.1 ∧ p.1 ≤ 4294967295) ∧ 0 ≤ p.2 ∧ p.2 ≤ 18446744073709551615
set_option maxHeartbeats 1000000 in
theorem count_any (v : Value) (l : List Pr) (item : Int) (hl : l.length ≤ 1000) (w : World) (hv : KR w w.heap.size v l) :
    Calls Try.prog 75 #[v, .int .u32 item] w fun e w' => e = .returned (.int .u64 (cnt item l)) ∧ Below w.heap.size w w' := by
  obtain ⟨A, c, rfl, hlc, hcm⟩ := hv.form
  unfold maxLen at hcm
  go_enter Try.func75, Try.ntmps75
  go_wp2
  go_loopw [9] (fun i wr => ∃ j : Nat, j ≤ l.length ∧ i = .int .i64 j ∧ cnt item (l.drop j) = cnt item l ∧ Below w.heap.size w wr) (fun i _ => l.length - (intOf i).toNat)
  case atStart => exact ⟨0, by omega, rfl, by simp, Below.refl _ _⟩
  case round =>
    obtain ⟨j, hj, rfl, hg, hbel⟩ := hrel
    have HG := Lib.hid hg
    clear hg
    by_cases hlt : j < l.length
    · obtain ⟨b, off, rfl, hb, hc1, hc2⟩ := (hv.below hbel).index j hlt
      have hs := cnt_drop item l j hlt
      generalize l.getD j (0, 0) = p at *
      have HS := Lib.hid hs
      clear hs
      by_cases he : p.1 = item
      · have hd : (p.1 == item) = true := by simpa using he
        have HE := Lib.hid he
        clear he
        go_wp2
        go_ret
        exact ⟨ret_int (by rw [← HG.out, HS.out, if_pos HE.out]), hbel.alloc hbel.size _⟩
      · have hd : (p.1 == item) = false := by simpa using he
        have HE := Lib.hid he
        clear he
        go_wp2
        go_roundw
        case rel => exact ⟨j + 1, by omega, by go_num, by rw [← HG.out, HS.out, if_neg HE.out], hbel.alloc hbel.size _⟩
        case measure => simp [intOf]; omega
    · go_wp2
      go_ret
      have := HG.out
      rw [List.drop_eq_nil_of_le (by omega)] at this
      exact ⟨ret_int this, hbel⟩
end Go.Proofs.Ytneaehimdmachaa.Stk
namespace Go.Proofs.Ytneaehimdmachaa.Stk
open Go.ChangeShapes Go.WideShapes Go.ChangeAt Go.RowKit Go.IntWalk Go.Proofs.Mem Go.Proofs.Stk
set_option linter.unusedVariables false
set_option linter.unusedSimpArgs false
def flatI (l : List Pr) : List Int := l.flatMap fun p => [p.1, p.2]
def LinePost (l1 l2 : List Pr) (w : World) (e : Ending) (w' : World) : Prop :=
  ∃ u v, e = .returned (.tuple #[u, v]) ∧ IR w' w'.heap.size .u64 u (flatI l1) ∧ IR w' w'.heap.size .u64 v (flatI l2) ∧ Below w.heap.size w w'
end Go.Proofs.Ytneaehimdmachaa.Stk
namespace Go.Proofs.Ytneaehimdmachaa.Stk
open Go.ChangeShapes Go.WideShapes Go.ChangeAt Go.RowKit Go.IntWalk Go.Proofs.Mem Go.Proofs.Stk Money
set_option linter.unusedVariables false
set_option linter.unusedSimpArgs false
def tto (n : Int) (l : List Pr) (i : Nat) : List Pr := times n (l.take i) ++ l.drop i
theorem tto_len (n : Int) (l : List Pr) (i : Nat) : (tto n l i).length = l.length := by simp [tto, times]; omega
theorem tto_at (n : Int) (l : List Pr) (i : Nat) (h : i < l.length) : (tto n l i).getD i (0, 0) = l.getD i (0, 0) := by
  have h1 : (times n (l.take i)).length = i := by simp [times]; omega
  simp only [tto, List.getD, List.getElem?_append_right (show (times n (l.take i)).length ≤ i by omega), h1, Nat.sub_self, List.getElem?_drop, Nat.add_zero]
theorem tto_set (n : Int) (l : List Pr) (i : Nat) (h : i < l.length) : (tto n l i).set i ((l.getD i (0, 0)).1, (l.getD i (0, 0)).2 * n) = tto n l (i + 1) := by
  have h1 : (times n (l.take i)).length = i := by simp [times]; omega
  unfold tto
  rw [List.set_append_right _ _ (by omega), h1, Nat.sub_self, List.drop_eq_getElem_cons h, List.set_cons_zero, List.take_succ_eq_append_getElem h]
  simp only [times, List.map_append, List.getD, List.getElem?_eq_getElem h, Option.getD_some, List.append_assoc]
  rfl
theorem timesS_small (a n : Int) (ha : 0 ≤ a ∧ a ≤ 10) (hn : 0 ≤ n ∧ n ≤ 1000) : timesS a n = (a * n, 0) := by
  unfold timesS
  have : a * n ≤ 10000 := by have := Int.mul_le_mul ha.2 hn.2 hn.1 (by omega); omega
  rw [if_neg (by omega)]
def Only (g : Nat) (w w' : World) : Prop := Fr (fun k => k = g) w w'
set_option maxHeartbeats 4000000 in
theorem multiply_any (n : Int) (hn : 0 ≤ n ∧ n ≤ 1000) (G : Nat → Nat) (L : Nat → List Pr) (g0 : Nat) (w : World) (hG : ∀ i k, i < 2 → k < 2 → i ≠ k → G i ≠ G k) (h0 : ∀ i, i < 2 → g0 ≠ G i) (hlt0 : g0 < w.heap.size)
    (hs : ∀ i, i < 2 → small (L i)) (hc : ∀ i, i < 2 → w.cell? ⟨g0, i, none⟩ = some (.slice (some ⟨G i, 0, none⟩) (L i).length (L i).length)) (hk : ∀ i, i < 2 → KO w (G i) 104 (L i)) :
    Calls Try.prog 71 #[.int .u64 n, .slice (some ⟨g0, 0, none⟩) 2 2] w fun e w' => e = .returned (.int .u16 0) ∧ (∀ i, i < 2 → KO w' (G i) 104 (times n (L i))) ∧ Fr (fun k => ∃ i, i < 2 ∧ k = G i) w w' := by
  have HG := Lib.hid hG
  have H0 := Lib.hid h0
  have HS := Lib.hid hs
  have HC := Lib.hid hc
  have HK := Lib.hid hk
  clear hG h0 hs hc hk
  go_enter Try.func71, Try.ntmps71
  go_wp2
  go_loopw [12] (fun c wr => ∃ j : Nat, j ≤ 2 ∧ c = .int .i64 j ∧ Hid (∀ i, i < 2 → KO wr (G i) 104 (if i < j then times n (L i) else L i)) ∧ Fr (fun k => ∃ i, i < 2 ∧ k = G i) w wr) (fun c _ => 2 - (intOf c).toNat)
  case atStart => exact ⟨0, by omega, rfl, Lib.hid fun i hi => by simpa using HK.out i hi, Fr.refl _ _⟩
  case round =>
    obtain ⟨j, hj, rfl, hko, hfr⟩ := hrel
    by_cases hlt : j < 2
    · have hkj := hko.out j hlt
      rw [if_neg (by omega)] at hkj
      have hsj := HS.out j hlt
      have hcj : wr.cell? ⟨g0, j, none⟩ = some (.slice (some ⟨G j, 0, none⟩) (L j).length (L j).length) := by
        rw [← HC.out j hlt]; exact hfr.cell hlt0 (by rintro ⟨i, hi, e⟩; exact H0.out i hi e)
      have hgj := hkj.lt
      obtain ⟨g, hg⟩ : ∃ g, g = G j := ⟨_, rfl⟩
      obtain ⟨l, hl⟩ : ∃ l, l = L j := ⟨_, rfl⟩
      rw [← hg] at hkj hcj hgj
      rw [← hl] at hkj hsj hcj
      have HGj := Lib.hid hg
      have HLj := Lib.hid hl
      clear hg hl
      have hl3 := hsj.1
      have HSJ := Lib.hid hsj.2
      clear hsj
      have HKJ := Lib.hid hkj
      clear hkj
      have hdj : decide ((j : Int) < 2) = true := by simp; omega
      obtain ⟨wo, rfl⟩ : ∃ wo : World, wo = wr := ⟨_, rfl⟩
      go_wp2
      go_loopw [18] (fun c wr2 => ∃ i : Nat, i ≤ l.length ∧ c = .int .i64 i ∧ Hid (KO wr2 g 104 (tto n l i)) ∧ Hid (Fr (fun k => k = g) wo wr2)) (fun c _ => l.length - (intOf c).toNat)
      case atStart => exact ⟨0, by omega, rfl, Lib.hid (by simpa [tto, times] using HKJ.out), Lib.hid (Fr.refl _ _)⟩
      case round =>
        obtain ⟨i, hi, rfl, hko2, hfr2⟩ := hrel
        by_cases hli : i < l.length
        · have hk2 := hko2.out
          have f2 := (flat_at (tto n l i) i (by rw [tto_len]; exact hli)).2
          rw [tto_at n l i hli] at f2
          have hset := fun (w' : World) (h : KO w' g 104 (tto n l i)) => h.set_ i ((l.getD i (0, 0)).2 * n) (by rw [tto_len]; exact hli)
          rw [tto_at n l i hli, tto_set n l i hli] at hset
          have hp : l.getD i (0, 0) ∈ l := by simp [List.getD, List.getElem?_eq_getElem hli]
          have hq := HSJ.out _ hp
          clear hp
          generalize l.getD i (0, 0) = p at *
          obtain ⟨x, y⟩ := p
          dsimp only at hq f2 hset
          obtain ⟨q1, q2, q3, q4⟩ := hq
          have hcell := hk2.cell (i * 2 + 1)
          rw [f2] at hcell
          have hgl := hk2.lt
          have HSET := Lib.hid hset
          have HK2 := Lib.hid hk2
          clear hset f2 hk2 hko2
          go_wp2_with fail
          (with_reducible refine (times_any y n ⟨by omega, by omega⟩ ⟨hn.1, by omega⟩ _).mono ?_)
          rintro e w' ⟨rfl, hbt⟩
          rw [timesS_small y n ⟨by omega, by omega⟩ hn]
          have hk3 := HK2.out.below hbt hgl
          have hcell3 := (hbt.cell (p := ⟨g, i * 2 + 1, none⟩) hgl).trans hcell
          have hfz3 := hk3.frozen (i * 2 + 1)
          have hs3 := HSET.out _ hk3
          have HS3 := Lib.hid hs3
          clear hs3 hk3
          have hfr3 := Lib.hid ((hfr2.out.below hbt).setCell (p := ⟨g, i * 2 + 1, none⟩) (.inl rfl) (.int .u64 (y * n)))
          clear hcell hbt
          go_wp2
          go_roundw
          case rel => exact ⟨i + 1, by omega, by go_num, HS3, hfr3⟩
          case measure => simp [intOf]; omega
        · have e : i = l.length := by omega
          subst e
          go_wp2
          go_roundw
          case rel =>
            refine ⟨j + 1, by omega, by go_num, Lib.hid fun k hk => ?_, hfr.trans' hfr2.out fun k _ e => ⟨j, hlt, by rw [e]; exact HGj.out⟩⟩
            by_cases hkj : k = j
            · subst hkj
              rw [if_pos (by omega)]
              have := hko2.out
              rw [show tto n l l.length = times n l by simp [tto]] at this
              rw [HGj.out, HLj.out] at this
              exact this
            · have h1 := hko.out k hk
              have h2 : KO wr (G k) 104 (if k < j then times n (L k) else L k) := (hfr2.out.block _ h1.lt fun e => HG.out k j hk hlt hkj (by rw [e]; exact HGj.out)).trans h1
              by_cases hkl : k < j
              · rw [if_pos hkl] at h2; rw [if_pos (by omega)]; exact h2
              · rw [if_neg hkl] at h2; rw [if_neg (by omega)]; exact h2
          case measure => simp [intOf]; omega
    · go_wp2
      go_ret
      exact ⟨rfl, fun i hi => by have := hko.out i hi; rwa [if_pos (by omega)] at this, hfr⟩
end Go.Proofs.Ytneaehimdmachaa.Stk
namespace Go.Proofs.Ytneaehimdmachaa.Stk
open Go.ChangeShapes Go.WideShapes Go.ChangeAt Go.RowKit Go.IntWalk Go.Proofs.Mem Go.Proofs.Stk
set_option linter.unusedVariables false
set_option linter.unusedSimpArgs false
def Rd (l1 l2 : List Pr) (w : World) (v : Value) : Prop := ∃ A1 c1 A2 c2, v = .agg #[.slice A1 l1.length c1, .slice A2 l2.length c2] ∧ KR w w.heap.size (.slice A1 l1.length c1) l1 ∧ KR w w.heap.size (.slice A2 l2.length c2) l2
theorem Rd.below {l1 l2 : List Pr} {w w' : World} {v : Value} (h : Rd l1 l2 w v) (hb : Below w.heap.size w w') : Rd l1 l2 w' v := by
  obtain ⟨A1, c1, A2, c2, e, h1, h2⟩ := h
  exact ⟨A1, c1, A2, c2, e, (h1.below hb).more hb.size, (h2.below hb).more hb.size⟩
def RdPost (l1 l2 : List Pr) (x : Value) (w : World) (e : Ending) (w' : World) : Prop := ∃ v, e = .returned (.tuple #[v, x]) ∧ Rd l1 l2 w' v ∧ Below w.heap.size w w'
theorem OfPost.rd {l1 l2 : List Pr} {x : Value} {w w' : World} {e : Ending} (h : OfPost l1 l2 x w e w') (h1 : l1.length ≤ 1000) (h2 : l2.length ≤ 1000) : RdPost l1 l2 x w e w' := by
  obtain ⟨g1, g2, rfl, _, _, _, k1, k2, hb⟩ := h
  exact ⟨_, rfl, ⟨_, _, _, _, rfl, k1.reads h1, k2.reads h2⟩, hb⟩
theorem Rd.none (w : World) : Rd [] [] w (.agg #[.slice none 0 0, .slice none 0 0]) := ⟨_, _, _, _, rfl, KR.nil _ _, KR.nil _ _⟩
theorem two_kept {w w' : World} {x y : Value} {t : TypeId} (h : Below (w.heap.size + 1) (w.alloc (.cells #[x, y] t)) w') :
    w'.cell? ⟨w.heap.size, 0, none⟩ = some x ∧ w'.cell? ⟨w.heap.size, 1, none⟩ = some y ∧ w'.frozen? ⟨w.heap.size, 0, none⟩ = false ∧ w'.frozen? ⟨w.heap.size, 1, none⟩ = false ∧ w.heap.size < w'.heap.size := by
  refine ⟨(h.cell (p := ⟨w.heap.size, 0, none⟩) (by simp)).trans (cell_new w _ _ 0), (h.cell (p := ⟨w.heap.size, 1, none⟩) (by simp)).trans (cell_new w _ _ 1), (h.frozen (p := ⟨w.heap.size, 0, none⟩) (by simp)).trans ?_, (h.frozen (p := ⟨w.heap.size, 1, none⟩) (by simp)).trans ?_, by have := h.size; simp at this; omega⟩
  · simp only [World.frozen?, show (w.alloc (.cells #[x, y] t)).heap[w.heap.size]? = _ from heap_alloc_new w _]; rfl
  · simp only [World.frozen?, show (w.alloc (.cells #[x, y] t)).heap[w.heap.size]? = _ from heap_alloc_new w _]; rfl
end Go.Proofs.Ytneaehimdmachaa.Stk
namespace Go.Proofs.Ytneaehimdmachaa.Stk
open Go.ChangeShapes Go.WideShapes Go.ChangeAt Go.RowKit Go.IntWalk Go.Proofs.Mem Go.Proofs.Stk
set_option linter.unusedVariables false
set_option linter.unusedSimpArgs false
def errN (id n : Int) : Int := if isS id = false then 40 else if n < 1 ∨ 1000 < n then 1 else 0
def inN (id n : Int) : List Pr := if errN id n = 0 then times n (lineS id).1 else []
def outN (id n : Int) : List Pr := if errN id n = 0 then times n (lineS id).2 else []
set_option maxRecDepth 100000 in
set_option maxHeartbeats 4000000 in
theorem needs_bad (id n : Int) (h : isS id = true) (hr : n < 1 ∨ 1000 < n) (w : World) : Calls Try.prog 57 #[.int .u32 id, .int .u64 n] w (RdPost [] [] (.int .u16 1) w) := by
  have HO := Lib.hid (fun W => of_some id h W)
  clear h
  by_cases h1 : n < 1
  · have hd : decide (n < 1) = true := decide_eq_true h1
    clear hr
    go_enter Try.func57, Try.ntmps57
    go_wp2_with fail
    (with_reducible refine (HO.out _).mono ?_)
    rintro e w1 ⟨g1, g2, rfl, hne, hg1, hg2, k1, k2, hb1⟩
    unfold rv
    have zg : w.heap.size < w1.heap.size := by have := hb1.size; simp at this; omega
    obtain ⟨c0, c1, f0, f1, z3⟩ := two_kept (w := w) (by simpa using hb1)
    have hbw : Below w.heap.size w w1 := ((Below.refl _ _).alloc (Nat.le_refl _) _).trans (hb1.mono (by simp))
    clear hb1 k1 k2 hg1 hg2 hne
    go_wp2
    refine bodyPost_ret (v := .tuple #[.agg #[.slice none 0 0, .slice none 0 0], .int .u16 1]) (by simp [results, Try.results57, go_sem, c0, c1, zg]; try rfl) rfl ?_
    exact ⟨_, rfl, Rd.none _, ((hbw.setCell (Nat.le_refl _) _).setCell (Nat.le_refl _) _).alloc (by have := hbw.size; simpa [World.setCell] using this) _⟩
  · have hd : decide (n < 1) = false := decide_eq_false h1
    have hd2 : decide (1000 < n) = true := by simp; omega
    clear hr
    go_enter Try.func57, Try.ntmps57
    go_wp2_with fail
    (with_reducible refine (HO.out _).mono ?_)
    rintro e w1 ⟨g1, g2, rfl, hne, hg1, hg2, k1, k2, hb1⟩
    unfold rv
    have zg : w.heap.size < w1.heap.size := by have := hb1.size; simp at this; omega
    obtain ⟨c0, c1, f0, f1, z3⟩ := two_kept (w := w) (by simpa using hb1)
    have hbw : Below w.heap.size w w1 := ((Below.refl _ _).alloc (Nat.le_refl _) _).trans (hb1.mono (by simp))
    clear hb1 k1 k2 hg1 hg2 hne
    go_wp2
    refine bodyPost_ret (v := .tuple #[.agg #[.slice none 0 0, .slice none 0 0], .int .u16 1]) (by simp [results, Try.results57, go_sem, c0, c1, zg]; try rfl) rfl ?_
    exact ⟨_, rfl, Rd.none _, ((hbw.setCell (Nat.le_refl _) _).setCell (Nat.le_refl _) _).alloc (by have := hbw.size; simpa [World.setCell] using this) _⟩
set_option maxRecDepth 100000 in
set_option maxHeartbeats 4000000 in
theorem needs_none (id n : Int) (h : isS id = false) (w : World) : Calls Try.prog 57 #[.int .u32 id, .int .u64 n] w (RdPost [] [] (.int .u16 40) w) := by
  have HO := Lib.hid (fun W => of_none id h W)
  clear h
  go_enter Try.func57, Try.ntmps57
  go_wp2_with fail
  (with_reducible refine (HO.out _).mono ?_)
  rintro e w1 ⟨rfl, hb1⟩
  have zg : w.heap.size < w1.heap.size := by have := hb1.size; simp at this; omega
  obtain ⟨c0, c1, f0, f1, z3⟩ := two_kept (w := w) (by simpa using hb1)
  have hbw : Below w.heap.size w w1 := ((Below.refl _ _).alloc (Nat.le_refl _) _).trans (hb1.mono (by simp))
  clear hb1
  go_wp2
  refine bodyPost_ret (v := .tuple #[.agg #[.slice none 0 0, .slice none 0 0], .int .u16 40]) (by simp [results, Try.results57, go_sem, c0, c1, zg]; try rfl) rfl ?_
  exact ⟨_, rfl, Rd.none _, ((hbw.setCell (Nat.le_refl _) _).setCell (Nat.le_refl _) _).alloc (by have := hbw.size; simpa [World.setCell] using this) _⟩
set_option maxRecDepth 100000 in
set_option maxHeartbeats 4000000 in
theorem needs_some (id n : Int) (h : isS id = true) (h1 : 1 ≤ n) (h2 : n ≤ 1000) (w : World) :
    Calls Try.prog 57 #[.int .u32 id, .int .u64 n] w (OfPost (times n (lineS id).1) (times n (lineS id).2) (.int .u16 0) w) := by
  obtain ⟨s1, s2⟩ := lineS_small id
  have ho := fun W => of_some id h W
  generalize (lineS id).1 = l1 at *
  generalize (lineS id).2 = l2 at *
  have HO := Lib.hid ho
  clear h ho
  have hd : decide (n < 1) = false := by simp; omega
  have hd2 : decide (1000 < n) = false := by simp; omega
  go_enter Try.func57, Try.ntmps57
  go_wp2_with fail
  (with_reducible refine (HO.out _).mono ?_)
  rintro e w1 ⟨g1, g2, rfl, hne, hg1, hg2, k1, k2, hb1⟩
  unfold rv
  have zg : w.heap.size < w1.heap.size := by have := hb1.size; simp at this; omega
  obtain ⟨c0, c1, f0, f1, z3⟩ := two_kept (w := w) (by simpa using hb1)
  have hbw : Below w.heap.size w w1 := ((Below.refl _ _).alloc (Nat.le_refl _) _).trans (hb1.mono (by simp))
  have y1 := k1.lt
  have y2 := k2.lt
  simp at hg1 hg2
  have HN := Lib.hid hne
  have K1 := Lib.hid k1
  have K2 := Lib.hid k2
  clear hb1 hne k1 k2
  go_wp2_with fail
  (with_reducible refine (multiply_any n ⟨by omega, h2⟩ (fun i => if i = 0 then g1 else g2) (fun i => if i = 0 then l1 else l2) (w1.heap.size + 1) _ ?a1 ?a2 ?a3 ?a4 ?a5 ?a6).mono ?_)
  case a1 => intro i k hi hk hik; have := HN.out; (try dsimp only); split <;> split <;> first | exact this | exact Ne.symm this | omega
  case a2 => intro i hi; (try dsimp only); split <;> omega
  case a3 => simp
  case a4 => intro i hi; (try dsimp only); split <;> assumption
  case a5 =>
    intro i hi
    rcases (show i = 0 ∨ i = 1 by omega) with rfl | rfl <;> simp
  case a6 => intro i hi; (try dsimp only); split <;> first | exact (K1.out.alloc _).alloc _ | exact (K2.out.alloc _).alloc _
  rintro e w4 ⟨rfl, hko, hfr⟩
  have q1 := hko 0 (by omega)
  have q2 := hko 1 (by omega)
  rw [if_pos rfl, if_pos rfl] at q1
  rw [if_neg (by omega), if_neg (by omega)] at q2
  have hne0 : ∀ k, k = w.heap.size ∨ k = w1.heap.size → ¬ ∃ i, i < 2 ∧ k = (if i = 0 then g1 else g2) := by
    rintro k hk ⟨i, hi, e⟩
    split at e <;> omega
  have r0 := hfr.cell (p := ⟨w1.heap.size, 0, none⟩) (by simp; omega) (hne0 _ (.inr rfl))
  have r1 := hfr.cell (p := ⟨w1.heap.size, 1, none⟩) (by simp; omega) (hne0 _ (.inr rfl))
  have o0 := hfr.cell (p := ⟨w.heap.size, 0, none⟩) (by simp; omega) (hne0 _ (.inl rfl))
  have o1 := hfr.cell (p := ⟨w.heap.size, 1, none⟩) (by simp; omega) (hne0 _ (.inl rfl))
  have fr0 : w4.frozen? ⟨w.heap.size, 0, none⟩ = false := by
    have := hfr.block w.heap.size (by simp; omega) (hne0 _ (.inl rfl))
    rw [show w4.frozen? ⟨w.heap.size, 0, none⟩ = _ from World.frozen?_of_block this]
    simpa [go_sem, zg] using f0
  have fr1 : w4.frozen? ⟨w.heap.size, 1, none⟩ = false := by
    have := hfr.block w.heap.size (by simp; omega) (hne0 _ (.inl rfl))
    rw [show w4.frozen? ⟨w.heap.size, 1, none⟩ = _ from World.frozen?_of_block this]
    simpa [go_sem, zg] using f1
  simp [go_sem, zg, c0, c1] at r0 r1 o0 o1
  have z4 := hfr.size
  simp at z4
  have hbel : Below w.heap.size w w4 := ((hbw.alloc hbw.size _).alloc (by simp; omega) _).trans (hfr.to_below (by rintro k ⟨i, hi, e⟩; split at e <;> omega) (by simp; omega))
  clear hne0 hfr hko
  go_wp2
  refine bodyPost_ret (v := .tuple #[.agg #[.slice (some ⟨g1, 0, none⟩) l1.length l1.length, .slice (some ⟨g2, 0, none⟩) l2.length l2.length], .int .u16 0]) (by simp [results, Try.results57, go_sem, o0, o1]; try rfl) rfl ?_
  exact ⟨g1, g2, by rw [times_len, times_len]; rfl, HN.out, by omega, by omega, (q1.far (p := ⟨w.heap.size, 0, none⟩) (by simp; omega) (.slice (some ⟨g1, 0, none⟩) l1.length l1.length)).far (p := ⟨w.heap.size, 1, none⟩) (by simp; omega) (.slice (some ⟨g2, 0, none⟩) l2.length l2.length), (q2.far (p := ⟨w.heap.size, 0, none⟩) (by simp; omega) (.slice (some ⟨g1, 0, none⟩) l1.length l1.length)).far (p := ⟨w.heap.size, 1, none⟩) (by simp; omega) (.slice (some ⟨g2, 0, none⟩) l2.length l2.length), (hbel.setCell (Nat.le_refl _) _).setCell (Nat.le_refl _) _⟩
theorem needs_any (id n : Int) (hn : 0 ≤ n ∧ n ≤ 18446744073709551615) (w : World) : Calls Try.prog 57 #[.int .u32 id, .int .u64 n] w (RdPost (inN id n) (outN id n) (.int .u16 (errN id n)) w) := by
  by_cases h : isS id = true
  · by_cases hr : n < 1 ∨ 1000 < n
    · have he : errN id n = 1 := by unfold errN; rw [h]; simp [hr]
      have := needs_bad id n h hr w
      rw [show inN id n = [] by unfold inN; rw [he]; rfl, show outN id n = [] by unfold outN; rw [he]; rfl, he]; exact this
    · have he : errN id n = 0 := by unfold errN; rw [h]; simp [hr]
      have := (needs_some id n h (by omega) (by omega) w).mono fun e w' h' => h'.rd (by rw [times_len]; have := (lineS_small id).1.1; omega) (by rw [times_len]; have := (lineS_small id).2.1; omega)
      rw [show inN id n = times n (lineS id).1 by unfold inN; rw [he]; rfl, show outN id n = times n (lineS id).2 by unfold outN; rw [he]; rfl, he]; exact this
  · have h' : isS id = false := by simpa using h
    have he : errN id n = 40 := by unfold errN; rw [h']; rfl
    have := needs_none id n h' w
    rw [show inN id n = [] by unfold inN; rw [he]; rfl, show outN id n = [] by unfold outN; rw [he]; rfl, he]; exact this
end Go.Proofs.Ytneaehimdmachaa.Stk
namespace Go.Proofs.Ytneaehimdmachaa.Stk
open Go.ChangeShapes Go.WideShapes Go.ChangeAt Go.RowKit Go.IntWalk Go.Proofs.Mem Go.Proofs.Stk
set_option linter.unusedVariables false
set_option linter.unusedSimpArgs false
theorem ret_pair {a b : Int} {k k' : IntKind} {x y : Int} (h : a = x) (h' : b = y) : Ending.returned (.tuple #[.int k a, .int k' b]) = .returned (.tuple #[.int k x, .int k' y]) := by rw [h, h']
theorem inN_len (id n : Int) : (inN id n).length ≤ 1000 ∧ (outN id n).length ≤ 1000 := by
  obtain ⟨s1, s2⟩ := lineS_small id
  have := s1.1; have := s2.1
  unfold inN outN; constructor <;> split <;> simp [times_len] <;> omega
theorem inN_err (id n : Int) (h : errN id n ≠ 0) : inN id n = [] ∧ outN id n = [] := by
  unfold inN outN; rw [if_neg h, if_neg h]; exact ⟨rfl, rfl⟩
end Go.Proofs.Ytneaehimdmachaa.Stk
namespace Go.Proofs.Ytneaehimdmachaa.Stk
open Go.ChangeShapes Go.WideShapes Go.ChangeAt Go.RowKit Go.IntWalk Go.Proofs.Mem Go.Proofs.Stk
set_option linter.unusedVariables false
set_option linter.unusedSimpArgs false
attribute [local go_sem ↓] Go.wp_at_zero Go.wp_at_succ
set_option maxRecDepth 100000 in
set_option maxHeartbeats 4000000 in
theorem change_any (id n item : Int) (hn : 0 ≤ n ∧ n ≤ 18446744073709551615) (w : World) : Calls Try.prog 59 #[.int .u32 id, .int .u64 n, .int .u32 item] w fun e w' =>
    e = .returned (.tuple #[.int .u64 (cnt item (inN id n)), .int .u64 (cnt item (outN id n))]) ∧ Below w.heap.size w w' := by
  have HO := Lib.hid (fun W => needs_any id n hn W)
  obtain ⟨i1, i2⟩ := inN_len id n
  by_cases he : errN id n = 0
  · have hd : (errN id n != 0) = false := by simpa using he
    generalize errN id n = err at *
    generalize inN id n = l1 at *
    generalize outN id n = l2 at *
    clear he
    go_enter Try.func59, Try.ntmps59
    go_wp2_with fail
    (with_reducible refine (HO.out _).mono ?_)
    rintro e w1 ⟨v, rfl, ⟨A1, c1, A2, c2, rfl, k1, k2⟩, hb1⟩
    have k1' := fun (W : World) (h : Below w1.heap.size w1 W) => (k1.below h).more h.size
    have k2' := fun (W : World) (h : Below w1.heap.size w1 W) => (k2.below h).more h.size
    have K1 := Lib.hid k1'
    have K2 := Lib.hid k2'
    clear k1 k2 k1' k2'
    go_wp2
    go_region_held3 (fun w' => w'.cell? ⟨w1.heap.size, 0, none⟩ = some (.slice A1 l1.length c1) ∧ w'.cell? ⟨w1.heap.size, 1, none⟩ = some (.slice A2 l2.length c2) ∧ w1.heap.size < w'.heap.size ∧ Below w1.heap.size w1 w')
      (first
        | (refine ⟨?_, ?_, ?_, ?_⟩ <;> first | assumption | simp | exact (((Below.refl _ _).alloc (Nat.le_refl _) _).drew))
        | (go_split_ands; exact ⟨(hbc.cell (p := ⟨w1.heap.size, 0, none⟩) (by assumption)).trans (by assumption), (hbc.cell (p := ⟨w1.heap.size, 1, none⟩) (by assumption)).trans (by assumption), Nat.lt_of_lt_of_le (by assumption) hbc.size, Below.trans (by assumption) (hbc.mono (Nat.le_of_lt (by assumption)))⟩))
      ((first
        | (go_at_call 75; (with_reducible refine (count_any (.slice A1 l1.length c1) l1 item i1 _ (K1.out _ (by go_split_ands; assumption))).mono ?_); rintro e w' ⟨rfl, hbc⟩)
        | (go_at_call 75; (with_reducible refine (count_any (.slice A2 l2.length c2) l2 item i2 _ (K2.out _ (by go_split_ands; assumption))).mono ?_); rintro e w' ⟨rfl, hbc⟩)))
    rename_i hH
    obtain ⟨_, _, _, hbz⟩ := hH
    go_wp2
    go_ret2
    exact ⟨rfl, hb1.trans (hbz.mono hb1.size)⟩
  · have hd : (errN id n != 0) = true := by simpa using he
    obtain ⟨e1, e2⟩ := inN_err id n he
    rw [e1, e2] at HO ⊢
    generalize errN id n = err at *
    clear he i1 i2 e1 e2
    go_enter Try.func59, Try.ntmps59
    go_wp2_with fail
    (with_reducible refine (HO.out _).mono ?_)
    rintro e w1 ⟨v, rfl, ⟨A1, c1, A2, c2, rfl, k1, k2⟩, hb1⟩
    clear k1 k2
    go_wp2
    go_ret2
    exact ⟨rfl, hb1.alloc hb1.size _⟩
end Go.Proofs.Ytneaehimdmachaa.Stk
namespace Go.Proofs.Ytneaehimdmachaa.Rule
set_option linter.unusedVariables false
set_option linter.unusedSimpArgs false
def craftItems (id : Int) : List Int :=
  if id = 1 then [1, 2] else if id = 2 then [2, 3, 4] else if id = 3 then [2, 4, 5] else if id = 4 then [5, 6] else if id = 5 then [1, 4, 6, 7] else if id = 6 then [1, 6, 7] else []
def oLooks (wh : Int) : List Int → Om (List Int)
  | [] => pure []
  | n :: r => do
    let t ← oLook 3 wh n
    let l ← oLooks wh r
    return t.A :: l
def oLesses (f : Int → Int) : List Int → List Int → Om (List Int)
  | n :: r, A :: l => do
    let x ← oLess A (f n)
    let m ← oLesses f r l
    return x :: m
  | _, _ => pure []
def oMores (f : Int → Int) : List Int → List Int → Om (List Int)
  | n :: r, A :: l => do
    let x ← oMore A (f n)
    let m ← oMores f r l
    return x :: m
  | _, _ => pure []
def oAmounts (wh : Int) : List Int → List Int → Om Unit
  | n :: r, A :: l => do
    oAmount 3 wh n A
    oAmounts wh r l
  | _, _ => pure ()
def oCraft (q : Ot) : Om Rp := do
  oDeny (decide (Stk.errN q.wt q.n ≠ 0)) (Stk.errN q.wt q.n)
  let _ ← oThere 1 q.wh 0
  let l ← oLooks q.wh (craftItems q.wt)
  let m ← oLesses (fun n => Stk.cnt n (Stk.inN q.wt q.n)) (craftItems q.wt) l
  let x ← oMores (fun n => Stk.cnt n (Stk.outN q.wt q.n)) (craftItems q.wt) m
  oAmounts q.wh (craftItems q.wt) x
  return ⟨q.n, 0, 0⟩
theorem craftItems_len (id : Int) : (craftItems id).length ≤ 4 := by
  unfold craftItems
  repeat' split
  all_goals decide
theorem oLooks_deep (wh : Int) : ∀ (l : List Int) (n : Nat), l.length ≤ n → Om.deep n (oLooks wh l)
  | [], n, _ => Om.deep_pure _
  | a :: r, 0, h => by simp at h
  | a :: r, n + 1, h => Om.deep_b1 (Om.deep_look _ _ _) (fun _ => Om.deep_bind n 0 (oLooks_deep wh r n (by simpa using h)) (fun _ => Om.deep_pure _) (by omega))
theorem oLesses_deep (f : Int → Int) : ∀ (l m : List Int), Om.deep 0 (oLesses f l m)
  | [], _ => by unfold oLesses; exact Om.deep_pure _
  | _ :: _, [] => by unfold oLesses; exact Om.deep_pure _
  | n :: r, A :: l => by unfold oLesses; exact Om.deep_b0 (Om.deep_less _ _) (fun _ => Om.deep_b0 (oLesses_deep f r l) (fun _ => Om.deep_pure _))
theorem oMores_deep (f : Int → Int) : ∀ (l m : List Int), Om.deep 0 (oMores f l m)
  | [], _ => by unfold oMores; exact Om.deep_pure _
  | _ :: _, [] => by unfold oMores; exact Om.deep_pure _
  | n :: r, A :: l => by unfold oMores; exact Om.deep_b0 (Om.deep_more _ _) (fun _ => Om.deep_b0 (oMores_deep f r l) (fun _ => Om.deep_pure _))
theorem oAmounts_deep (wh : Int) : ∀ (l m : List Int), Om.deep 0 (oAmounts wh l m)
  | [], _ => by unfold oAmounts; exact Om.deep_pure _
  | _ :: _, [] => by unfold oAmounts; exact Om.deep_pure _
  | n :: r, A :: l => by unfold oAmounts; exact Om.deep_b0 (Om.deep_amount _ _ _ _) (fun _ => oAmounts_deep wh r l)
theorem oCraft_deep (q : Ot) : Om.deep 8 (oCraft q) := by
  unfold oCraft
  refine Om.deep_b0 (Om.deep_deny _ _) (fun _ => Om.deep_b1 (Om.deep_there _ _ _) (fun _ => Om.deep_bind 4 3 (oLooks_deep _ _ 4 (craftItems_len _)) (fun _ => ?_) (by omega)))
  exact Om.deep_b0 (oLesses_deep _ _ _) (fun _ => Om.deep_b0 (oMores_deep _ _ _) (fun _ => Om.deep_b0 (oAmounts_deep _ _ _) (fun _ => Om.deep_pure _)))
theorem oLooks_good (wh : Int) : ∀ l : List Int, Om.good (oLooks wh l) (fun _ => True)
  | [] => Om.good_pure trivial
  | n :: r => Om.good_bind (Om.good_look _ _ _) (fun _ _ => Om.good_bind (oLooks_good wh r) (fun _ _ => Om.good_pure trivial))
theorem oLesses_good (f : Int → Int) : ∀ l m : List Int, Om.good (oLesses f l m) (fun _ => True)
  | [], _ => by unfold oLesses; exact Om.good_pure trivial
  | _ :: _, [] => by unfold oLesses; exact Om.good_pure trivial
  | n :: r, A :: l => by unfold oLesses; exact Om.good_bind (Om.good_less _ _) (fun _ _ => Om.good_bind (oLesses_good f r l) (fun _ _ => Om.good_pure trivial))
theorem oMores_good (f : Int → Int) : ∀ l m : List Int, Om.good (oMores f l m) (fun x => ∀ a ∈ x, a ≤ 4611686018427387904)
  | [], _ => by unfold oMores; exact Om.good_pure (by simp)
  | _ :: _, [] => by unfold oMores; exact Om.good_pure (by simp)
  | n :: r, A :: l => by
    unfold oMores
    exact Om.good_bind (Om.good_more _ _) (fun x hx => Om.good_bind (oMores_good f r l) (fun m hm => Om.good_pure (fun a ha => by
      rcases List.mem_cons.1 ha with e | e
      · rw [e]; exact hx.2
      · exact hm a e)))
theorem oAmounts_good (wh : Int) : ∀ l m : List Int, (∀ a ∈ m, a ≤ 4611686018427387904) → Om.good (oAmounts wh l m) (fun _ => True)
  | [], _, _ => by unfold oAmounts; exact Om.good_pure trivial
  | _ :: _, [], _ => by unfold oAmounts; exact Om.good_pure trivial
  | n :: r, A :: l, h => by
    unfold oAmounts
    exact Om.good_bind (Om.good_amount _ _ _ _ (h A (by simp))) (fun _ _ => oAmounts_good wh r l (fun a ha => h a (by simp [ha])))
theorem oCraft_good (q : Ot) : Om.good (oCraft q) (fun _ => True) := by
  unfold oCraft
  exact Om.good_bind (Om.good_deny _ _) (fun _ _ => Om.good_bind (Om.good_there _ _ _) (fun _ _ => Om.good_bind (oLooks_good _ _) (fun _ _ => Om.good_bind (oLesses_good _ _ _) (fun _ _ => Om.good_bind (oMores_good _ _ _) (fun x hx => Om.good_bind (oAmounts_good _ _ x hx) (fun _ _ => Om.good_pure trivial))))))
def oDo (q : Ot) : Om Rp :=
  if q.kd = 1 then oOpen q else if q.kd = 2 ∨ q.kd = 3 then oMint q else if q.kd = 4 ∨ q.kd = 5 then oCreate q else if q.kd = 6 ∨ q.kd = 7 then oDeposit q else if q.kd = 8 then oPay q else if q.kd = 9 then oGive q else if q.kd = 10 then oCraft q
  else if q.kd = 11 then oTrade q else if q.kd = 12 then oOffer q else if q.kd = 13 then oAgree q else if q.kd = 14 then oBreak q else if q.kd = 15 then oSell q else if q.kd = 16 then oBid q else if q.kd = 17 then oClose q else if q.kd = 18 then oLookAt q else oErr 1
end Go.Proofs.Ytneaehimdmachaa.Rule
