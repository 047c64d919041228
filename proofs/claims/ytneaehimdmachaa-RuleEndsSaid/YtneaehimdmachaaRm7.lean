import Derived.Test.YtneaehimdmachaaLaw
import Derived.Test.YtneaehimdmachaaRm0
import Derived.Test.YtneaehimdmachaaRm1
import Derived.Test.YtneaehimdmachaaRm2
import Derived.Test.YtneaehimdmachaaRm3
import Derived.Test.YtneaehimdmachaaRm4
import Derived.Test.YtneaehimdmachaaRm6
import Derived.ChangeArms
import Derived.Deep.Slices
import Derived.Laws.OwnMore
import Derived.Lib.SliceRun
namespace Go.Proofs.Ytneaehimdmachaa.Rule
open Go.ChangeShapes Go.WideShapes Go.ChangeAt Go.RowKit Go.IntWalk Go.Proofs.Mem Go.Proofs.Each
set_option linter.unusedVariables false
set_option linter.unusedSimpArgs false
set_option maxRecDepth 100000 in
set_option maxHeartbeats 8000000 in
theorem bid_own (w : World) (g : Nat) (q : Ot) (v : Value) (base i : Nat) (p : Value) (l : List Pu) (seen : List Ce) (hst : St w g q v base i p l) (hs : SeenAt w g v seen) (hg : g < base) (hbase : base ≤ w.heap.size) (hl : l.length ≤ 700) (hi : i ≤ 700000) (hq : q.Ok) (hok : ∀ c ∈ seen, c.Ok) (hc : ∀ c, seen[i]? = some c → hi32 c.A = q.wh) :
    Calls Try.prog 48 #[.pointer (some ⟨g, 0, none⟩)] w (Did w g q v base i p l seen (oBid q) Rp.enc) := by
  have BEG := Lib.hid (Begin.mk hs hg hbase hq hok (fun x hx => hst.own.lt x hx))
  obtain ⟨W0, hW0⟩ : ∃ W0, w.alloc (.cells #[.int .u16 0, .int .u64 0, .int .u64 0, .int .u64 0] 41) = W0 := ⟨_, rfl⟩
  have SS : Hid (ST w g q v base p i p l [.box w.heap.size #[.int .u16 0, .int .u64 0, .int .u64 0, .int .u64 0] 41] W0) := Lib.hid (by rw [← hW0]; exact ST.start hst BEG.out _ _)
  have HI := Lib.hid hi
  have HQ := Lib.hid hq
  have HOK := Lib.hid hok
  have HL := Lib.hid hl
  have HC := Lib.hid hc
  obtain ⟨ce0, hce0⟩ := the_cell seen (i)
  have CE0 := Lib.hid hce0
  clear hst hs hg hbase hl hi hq hok hc hce0
  go_enter Try.func48, Try.ntmps48
  go_upto_region 1 with fail
  try rw [hW0]
  clear hW0
  refine wp_SK (D := DP w g q v base i p l seen (oBid q) Rp.enc) 9 10 11 (seen[i]? = some ce0 ∧ ce0.is = true) (i + 1) #[.int .u64 ce0.A, .int .u64 ce0.B, .int .u8 6, .int .u32 q.id, .int .u32 0, .bool true] [pw g 0, pw g 0, pw g 7, pw g 0, pw g 0, pw g 0, pw g 4, some (.int .u32 q.id, True), some (.agg #[.int .u8 6, .int .u32 q.id, .int .u32 0], True), some (.agg (thing ce0.A ce0.B 6 q.id 0 true), True), none, none] SS.out (fun vals => ?_) (fun vals W1 hB hfin hall => ?_) (ea 10 rfl)
  · simp only [ObD, Act.put, qA, qC, qZ]
    refine ⟨?_, ?_, ?_, ?_, ?_, ?_, ?_, ?_, ?o0_8, ?o0_9, ?o0_10, ?o0_11, trivial⟩
    all_goals (intro L W hL hk hC hw; have f := deps hw rfl rfl; simp only [depF, vsP, pw, qS, qD, and_true, true_and] at f)
    case o0_8 => have CL := Lib.hid (auction_any q.id W); clear hL hC hk hw; refine spD rfl ?_; go_simp; (with_reducible refine CL.out.mono ?_); rintro e w8 ⟨rfl, h2⟩; first | exact sq h2 rfl ⟨rfl, trivial⟩ | exact ⟨_, rfl, sq h2 rfl ⟨rfl, trivial⟩⟩
    case o0_9 =>
      have CL := Lib.hid (there_K SS.out (hC.pre hk) BEG.out (by have := HI.out; omega) CE0.out 6 q.id 0); clear hL hC hk hw; refine spD rfl ?_; go_simp; (with_reducible refine CL.out.mono ?_); rintro e w8 (⟨h, rfl, h2⟩ | ⟨h, h3, rfl, h2⟩ | ⟨rfl, hf, H⟩)
      · exact ⟨_, rfl, Did.miss (by unfold oBid; simp only [runOm_bind, run_there_no h]) h2⟩
      · exact ⟨_, rfl, Did.err (by unfold oBid; simp only [runOm_bind, run_there_not h h3]) h2⟩
      · first | exact kv hf H rfl ⟨rfl, trivial⟩ | exact ⟨_, rfl, kv hf H rfl ⟨rfl, trivial⟩⟩
    case o0_10 => have ZZ := hC.fr.size; clear hL hC hk hw; refine spD rfl ?_; go_simp; exact am ZZ
    case o0_11 => obtain ⟨gt, C, fa, hgt, bx0, hc⟩ := Fw.geta (hw ⟨10, .data⟩ (by simp) rfl) (by decide); obtain ⟨c0, c1, c2, c3, c4, c5, rfl⟩ := arr6 hc; have q := six_cells bx0; have BXX := Lib.hid bx0; have FA := Lib.hid fa; clear bx0 hc; unfold thing at f; clear hL hC hk hw; refine spD rfl ?_; go_simp; exact sm SS.out BEG.out BXX.out hgt FA.out
    all_goals (have c := kn7 hC; clear hL hC hk hw; refine spD rfl ?_; go_simp; first | exact sv rfl ⟨rfl, trivial⟩ | exact ⟨_, rfl, sv rfl ⟨rfl, trivial⟩⟩)
  have S0 := Lib.hid hB.1
  simp only [allF, vsP, pw, true_and, and_true, Nat.reduceAdd] at hall
  obtain ⟨gt0, fa, hgt, bx⟩ := hfin
  simp only [TL, Act.put, qA, qC, qZ, hall, fa]
  replace SS := Lib.hid (SS.out.push BEG.out hB.st SS.out.lt hgt bx)
  clear hall vals hB fa hgt bx
  have y0 : W1.cell? ⟨gt0, 0, none⟩ = some (.int .u64 ce0.A) := SS.out.bx.1.out.cell 0
  go_wp2_with fail
  (with_reducible refine (unpair_any ce0.A (A_ok HOK.out S0.out.1) _).mono ?_)
  rintro e W2 ⟨rfl, hbl⟩
  clear y0
  replace SS := Lib.hid (SS.out.later hbl)
  clear hbl
  have d1 : (hi32 ce0.A == q.wh) = true := by have := HC.out ce0 S0.out.1; simpa using this
  have y0 : W2.cell? ⟨g, 1, none⟩ = some (.int .u32 q.wh) := SS.out.kn.c1
  go_wp2_with fail
  (with_reducible refine (deny_yes 213 _).mono ?_)
  rintro e W3 ⟨rfl, rfl⟩
  exact ⟨rfl, Did.err (by unfold oBid; simp only [runOm_bind, run_there S0.out.1 S0.out.2, decide_eq_true (HC.out ce0 S0.out.1), run_deny_yes]) (SS.out.low BEG.out)⟩
set_option maxRecDepth 100000 in
set_option maxHeartbeats 8000000 in
theorem bid_lowp (w : World) (g : Nat) (q : Ot) (v : Value) (base i : Nat) (p : Value) (l : List Pu) (seen : List Ce) (hst : St w g q v base i p l) (hs : SeenAt w g v seen) (hg : g < base) (hbase : base ≤ w.heap.size) (hl : l.length ≤ 700) (hi : i ≤ 700000) (hq : q.Ok) (hok : ∀ c ∈ seen, c.Ok) (hc : ∀ c, seen[i]? = some c → hi32 c.A ≠ q.wh) (h1 : ∀ c, seen[i + 1]? = some c → q.n < c.vA) :
    Calls Try.prog 48 #[.pointer (some ⟨g, 0, none⟩)] w (Did w g q v base i p l seen (oBid q) Rp.enc) := by
  have BEG := Lib.hid (Begin.mk hs hg hbase hq hok (fun x hx => hst.own.lt x hx))
  obtain ⟨W0, hW0⟩ : ∃ W0, w.alloc (.cells #[.int .u16 0, .int .u64 0, .int .u64 0, .int .u64 0] 41) = W0 := ⟨_, rfl⟩
  have SS : Hid (ST w g q v base p i p l [.box w.heap.size #[.int .u16 0, .int .u64 0, .int .u64 0, .int .u64 0] 41] W0) := Lib.hid (by rw [← hW0]; exact ST.start hst BEG.out _ _)
  have HI := Lib.hid hi
  have HQ := Lib.hid hq
  have HOK := Lib.hid hok
  have HL := Lib.hid hl
  have HC := Lib.hid hc
  have H1 := Lib.hid h1
  obtain ⟨ce0, hce0⟩ := the_cell seen (i)
  have CE0 := Lib.hid hce0
  obtain ⟨ce1, hce1⟩ := the_cell seen (i + 1)
  have CE1 := Lib.hid hce1
  obtain ⟨ce2, hce2⟩ := the_cell seen (i + 1 + 1)
  have CE2 := Lib.hid hce2
  clear hst hs hg hbase hl hi hq hok hc h1 hce0 hce1 hce2
  go_enter Try.func48, Try.ntmps48
  go_upto_region 1 with fail
  try rw [hW0]
  clear hW0
  refine wp_SK (D := DP w g q v base i p l seen (oBid q) Rp.enc) 9 10 11 (seen[i]? = some ce0 ∧ ce0.is = true) (i + 1) #[.int .u64 ce0.A, .int .u64 ce0.B, .int .u8 6, .int .u32 q.id, .int .u32 0, .bool true] [pw g 0, pw g 0, pw g 7, pw g 0, pw g 0, pw g 0, pw g 4, some (.int .u32 q.id, True), some (.agg #[.int .u8 6, .int .u32 q.id, .int .u32 0], True), some (.agg (thing ce0.A ce0.B 6 q.id 0 true), True), none, none] SS.out (fun vals => ?_) (fun vals W1 hB hfin hall => ?_) (ea 10 rfl)
  · simp only [ObD, Act.put, qA, qC, qZ]
    refine ⟨?_, ?_, ?_, ?_, ?_, ?_, ?_, ?_, ?o0_8, ?o0_9, ?o0_10, ?o0_11, trivial⟩
    all_goals (intro L W hL hk hC hw; have f := deps hw rfl rfl; simp only [depF, vsP, pw, qS, qD, and_true, true_and] at f)
    case o0_8 => have CL := Lib.hid (auction_any q.id W); clear hL hC hk hw; refine spD rfl ?_; go_simp; (with_reducible refine CL.out.mono ?_); rintro e w8 ⟨rfl, h2⟩; first | exact sq h2 rfl ⟨rfl, trivial⟩ | exact ⟨_, rfl, sq h2 rfl ⟨rfl, trivial⟩⟩
    case o0_9 =>
      have CL := Lib.hid (there_K SS.out (hC.pre hk) BEG.out (by have := HI.out; omega) CE0.out 6 q.id 0); clear hL hC hk hw; refine spD rfl ?_; go_simp; (with_reducible refine CL.out.mono ?_); rintro e w8 (⟨h, rfl, h2⟩ | ⟨h, h3, rfl, h2⟩ | ⟨rfl, hf, H⟩)
      · exact ⟨_, rfl, Did.miss (by unfold oBid; simp only [runOm_bind, run_there_no h]) h2⟩
      · exact ⟨_, rfl, Did.err (by unfold oBid; simp only [runOm_bind, run_there_not h h3]) h2⟩
      · first | exact kv hf H rfl ⟨rfl, trivial⟩ | exact ⟨_, rfl, kv hf H rfl ⟨rfl, trivial⟩⟩
    case o0_10 => have ZZ := hC.fr.size; clear hL hC hk hw; refine spD rfl ?_; go_simp; exact am ZZ
    case o0_11 => obtain ⟨gt, C, fa, hgt, bx0, hc⟩ := Fw.geta (hw ⟨10, .data⟩ (by simp) rfl) (by decide); obtain ⟨c0, c1, c2, c3, c4, c5, rfl⟩ := arr6 hc; have q := six_cells bx0; have BXX := Lib.hid bx0; have FA := Lib.hid fa; clear bx0 hc; unfold thing at f; clear hL hC hk hw; refine spD rfl ?_; go_simp; exact sm SS.out BEG.out BXX.out hgt FA.out
    all_goals (have c := kn7 hC; clear hL hC hk hw; refine spD rfl ?_; go_simp; first | exact sv rfl ⟨rfl, trivial⟩ | exact ⟨_, rfl, sv rfl ⟨rfl, trivial⟩⟩)
  have S0 := Lib.hid hB.1
  simp only [allF, vsP, pw, true_and, and_true, Nat.reduceAdd] at hall
  obtain ⟨gt0, fa, hgt, bx⟩ := hfin
  simp only [TL, Act.put, qA, qC, qZ, hall, fa]
  replace SS := Lib.hid (SS.out.push BEG.out hB.st SS.out.lt hgt bx)
  clear hall vals hB fa hgt bx
  have y0 : W1.cell? ⟨gt0, 0, none⟩ = some (.int .u64 ce0.A) := SS.out.bx.1.out.cell 0
  go_wp2_with fail
  (with_reducible refine (unpair_any ce0.A (A_ok HOK.out S0.out.1) _).mono ?_)
  rintro e W2 ⟨rfl, hbl⟩
  clear y0
  replace SS := Lib.hid (SS.out.later hbl)
  clear hbl
  have d1 : (hi32 ce0.A == q.wh) = false := by have := HC.out ce0 S0.out.1; simpa using this
  have y0 : W2.cell? ⟨g, 1, none⟩ = some (.int .u32 q.wh) := SS.out.kn.c1
  go_wp2_with fail
  (with_reducible refine (deny_no 213 _).mono ?_)
  rintro e W3 ⟨rfl, rfl⟩
  clear d1 y0
  go_upto_region 4 with fail
  refine wp_SK (D := DP w g q v base i p l seen (oBid q) Rp.enc) 9 10 11 (seen[i + 1]? = some ce1) (i + 1 + 1) #[.int .u64 ce1.vA, .int .u64 ce1.vB, .int .u8 7, .int .u32 q.id, .int .u32 1, .bool ce1.is] [pw g 0, pw g 0, pw g 7, pw g 0, pw g 0, pw g 0, pw g 4, some (.int .u32 q.id, True), some (.agg #[.int .u8 7, .int .u32 q.id, .int .u32 1], True), some (.agg (thing ce1.vA ce1.vB 7 q.id 1 ce1.is), True), none, none] SS.out (fun vals => ?_) (fun vals W4 hB hfin hall => ?_) (ea 10 rfl)
  · simp only [ObD, Act.put, qA, qC, qZ]
    refine ⟨?_, ?_, ?_, ?_, ?_, ?_, ?_, ?_, ?o3_8, ?o3_9, ?o3_10, ?o3_11, trivial⟩
    all_goals (intro L W hL hk hC hw; have f := deps hw rfl rfl; simp only [depF, vsP, pw, qS, qD, and_true, true_and] at f)
    case o3_8 => have CL := Lib.hid (price_any q.id W); clear hL hC hk hw; refine spD rfl ?_; go_simp; (with_reducible refine CL.out.mono ?_); rintro e w8 ⟨rfl, h2⟩; first | exact sq h2 rfl ⟨rfl, trivial⟩ | exact ⟨_, rfl, sq h2 rfl ⟨rfl, trivial⟩⟩
    case o3_9 =>
      have CL := Lib.hid (look_K SS.out (hC.pre hk) BEG.out (by have := HI.out; omega) CE1.out 7 q.id 1); clear hL hC hk hw; refine spD rfl ?_; go_simp; (with_reducible refine CL.out.mono ?_); rintro e w8 (⟨h, rfl, h2⟩ | ⟨h1, rfl, hf, H⟩)
      · exact ⟨_, rfl, Did.miss (by unfold oBid; simp only [runOm_bind, run_there S0.out.1 S0.out.2, decide_eq_false (HC.out ce0 S0.out.1), run_deny_no, run_look_no h]) h2⟩
      · first | exact kv hf H rfl ⟨rfl, trivial⟩ | exact ⟨_, rfl, kv hf H rfl ⟨rfl, trivial⟩⟩
    case o3_10 => have ZZ := hC.fr.size; clear hL hC hk hw; refine spD rfl ?_; go_simp; exact am ZZ
    case o3_11 => obtain ⟨gt, C, fa, hgt, bx0, hc⟩ := Fw.geta (hw ⟨10, .data⟩ (by simp) rfl) (by decide); obtain ⟨c0, c1, c2, c3, c4, c5, rfl⟩ := arr6 hc; have q := six_cells bx0; have BXX := Lib.hid bx0; have FA := Lib.hid fa; clear bx0 hc; unfold thing at f; clear hL hC hk hw; refine spD rfl ?_; go_simp; exact sm SS.out BEG.out BXX.out hgt FA.out
    all_goals (have c := kn7 hC; clear hL hC hk hw; refine spD rfl ?_; go_simp; first | exact sv rfl ⟨rfl, trivial⟩ | exact ⟨_, rfl, sv rfl ⟨rfl, trivial⟩⟩)
  have S1 := Lib.hid hB.1
  simp only [allF, vsP, pw, true_and, and_true, Nat.reduceAdd] at hall
  obtain ⟨gt1, fa, hgt, bx⟩ := hfin
  simp only [TL, Act.put, qA, qC, qZ, hall, fa]
  replace SS := Lib.hid (SS.out.push BEG.out hB.st SS.out.lt hgt bx)
  clear hall vals hB fa hgt bx
  go_upto_region 5 with fail
  refine wp_SK (D := DP w g q v base i p l seen (oBid q) Rp.enc) 9 10 11 (seen[i + 1 + 1]? = some ce2) (i + 1 + 1 + 1) #[.int .u64 ce2.vA, .int .u64 ce2.vB, .int .u8 7, .int .u32 q.id, .int .u32 0, .bool ce2.is] [pw g 0, pw g 0, pw g 7, pw g 0, pw g 0, pw g 0, pw g 4, some (.int .u32 q.id, True), some (.agg #[.int .u8 7, .int .u32 q.id, .int .u32 0], True), some (.agg (thing ce2.vA ce2.vB 7 q.id 0 ce2.is), True), none, none] SS.out (fun vals => ?_) (fun vals W5 hB hfin hall => ?_) (ea 10 rfl)
  · simp only [ObD, Act.put, qA, qC, qZ]
    refine ⟨?_, ?_, ?_, ?_, ?_, ?_, ?_, ?_, ?o4_8, ?o4_9, ?o4_10, ?o4_11, trivial⟩
    all_goals (intro L W hL hk hC hw; have f := deps hw rfl rfl; simp only [depF, vsP, pw, qS, qD, and_true, true_and] at f)
    case o4_8 => have CL := Lib.hid (bid_any q.id W); clear hL hC hk hw; refine spD rfl ?_; go_simp; (with_reducible refine CL.out.mono ?_); rintro e w8 ⟨rfl, h2⟩; first | exact sq h2 rfl ⟨rfl, trivial⟩ | exact ⟨_, rfl, sq h2 rfl ⟨rfl, trivial⟩⟩
    case o4_9 =>
      have CL := Lib.hid (look_K SS.out (hC.pre hk) BEG.out (by have := HI.out; omega) CE2.out 7 q.id 0); clear hL hC hk hw; refine spD rfl ?_; go_simp; (with_reducible refine CL.out.mono ?_); rintro e w8 (⟨h, rfl, h2⟩ | ⟨h1, rfl, hf, H⟩)
      · exact ⟨_, rfl, Did.miss (by unfold oBid; simp only [runOm_bind, run_there S0.out.1 S0.out.2, decide_eq_false (HC.out ce0 S0.out.1), run_deny_no, run_look S1.out, run_look_no h]) h2⟩
      · first | exact kv hf H rfl ⟨rfl, trivial⟩ | exact ⟨_, rfl, kv hf H rfl ⟨rfl, trivial⟩⟩
    case o4_10 => have ZZ := hC.fr.size; clear hL hC hk hw; refine spD rfl ?_; go_simp; exact am ZZ
    case o4_11 => obtain ⟨gt, C, fa, hgt, bx0, hc⟩ := Fw.geta (hw ⟨10, .data⟩ (by simp) rfl) (by decide); obtain ⟨c0, c1, c2, c3, c4, c5, rfl⟩ := arr6 hc; have q := six_cells bx0; have BXX := Lib.hid bx0; have FA := Lib.hid fa; clear bx0 hc; unfold thing at f; clear hL hC hk hw; refine spD rfl ?_; go_simp; exact sm SS.out BEG.out BXX.out hgt FA.out
    all_goals (have c := kn7 hC; clear hL hC hk hw; refine spD rfl ?_; go_simp; first | exact sv rfl ⟨rfl, trivial⟩ | exact ⟨_, rfl, sv rfl ⟨rfl, trivial⟩⟩)
  have S2 := Lib.hid hB.1
  simp only [allF, vsP, pw, true_and, and_true, Nat.reduceAdd] at hall
  obtain ⟨gt2, fa, hgt, bx⟩ := hfin
  simp only [TL, Act.put, qA, qC, qZ, hall, fa]
  replace SS := Lib.hid (SS.out.push BEG.out hB.st SS.out.lt hgt bx)
  clear hall vals hB fa hgt bx
  go_upto_region 6 with fail
  have LT0 := Lib.hid ((decide_eq_true (H1.out ce1 S1.out) : decide (q.n < ce1.vA) = true))
  refine wp_SA (D := DP w g q v base i p l seen (oBid q) Rp.enc) 24 25 26 False False (i + 1 + 1 + 1) l [pw g 0, pw g 0, pw g 0, pw g 5, some (.int .u64 q.n, True), some (.pointer (some ⟨gt1, 0, none⟩), True), some (.pointer (some ⟨gt1, 0, none⟩), True), some (.int .u64 ce1.vA, True), some (.bool true, True), some (.bool true, True), some (undef, True), some (undef, True), some (undef, True), some (undef, True), some (undef, True), some (undef, True), some (undef, True), some (undef, True), some (undef, True), some (undef, True), some (undef, True), some (undef, True), some (undef, True), some (.bool true, True), some (.tuple #[], True)] SS.out (fun vals => ?_) (fun vals W6 hB hall => ?_)
  · simp only [ObD, Act.put, qA, qC, qZ]
    refine ⟨?_, ?_, ?_, ?_, ?_, ?_, ?_, ?o5_7, ?o5_8, ?_, ?o5_10, ?o5_11, ?o5_12, ?o5_13, ?o5_14, ?o5_15, ?o5_16, ?o5_17, ?o5_18, ?o5_19, ?o5_20, ?o5_21, ?o5_22, ?o5_23, ?o5_24, trivial⟩
    all_goals (intro L W hL hk hC hw; have f := deps hw rfl rfl; simp only [depF, vsP, pw, qS, qD, and_true, true_and] at f)
    case' o5_7 => have k0 : W.cell? ⟨gt1, 0, none⟩ = some (.int .u64 ce1.vA) := (cw_bx hC).2.1.out.cell 0
    case' o5_8 => have lt0 := LT0.out
    case' o5_23 => have lt0 := LT0.out
    case o5_10 => have fg : vals 9 = .bool true := (Fw.get (f := vsP (some (.bool true, True))) (hw ⟨9, .guard⟩ (by simp) rfl) (by decide) (by decide) rfl).1; exact wp_unwantedD rfl (yielded_of rfl fg) (by decide) (sv rfl ⟨rfl, trivial⟩)
    case o5_11 => have fg : vals 9 = .bool true := (Fw.get (f := vsP (some (.bool true, True))) (hw ⟨9, .guard⟩ (by simp) rfl) (by decide) (by decide) rfl).1; exact wp_unwantedD rfl (yielded_of rfl fg) (by decide) (sv rfl ⟨rfl, trivial⟩)
    case o5_12 => have fg : vals 9 = .bool true := (Fw.get (f := vsP (some (.bool true, True))) (hw ⟨9, .chain⟩ (by simp) rfl) (by decide) (by decide) rfl).1; exact wp_unwantedD rfl (yielded_of rfl fg) (by decide) (sv rfl ⟨rfl, trivial⟩)
    case o5_13 => have fg : vals 12 = undef := (Fw.get (f := vsP (some (undef, True))) (hw ⟨12, .guard⟩ (by simp) rfl) (by decide) (by decide) rfl).1; exact wp_unwantedN rfl (yielded_no rfl fg) (sv rfl ⟨rfl, trivial⟩)
    case o5_14 => have fg : vals 12 = undef := (Fw.get (f := vsP (some (undef, True))) (hw ⟨12, .guard⟩ (by simp) rfl) (by decide) (by decide) rfl).1; exact wp_unwantedN rfl (yielded_no rfl fg) (sv rfl ⟨rfl, trivial⟩)
    case o5_15 => have fg : vals 12 = undef := (Fw.get (f := vsP (some (undef, True))) (hw ⟨12, .guard⟩ (by simp) rfl) (by decide) (by decide) rfl).1; exact wp_unwantedN rfl (yielded_no rfl fg) (sv rfl ⟨rfl, trivial⟩)
    case o5_16 => have fg : vals 12 = undef := (Fw.get (f := vsP (some (undef, True))) (hw ⟨12, .guard⟩ (by simp) rfl) (by decide) (by decide) rfl).1; exact wp_unwantedN rfl (yielded_no rfl fg) (sv rfl ⟨rfl, trivial⟩)
    case o5_17 => have fg : vals 12 = undef := (Fw.get (f := vsP (some (undef, True))) (hw ⟨12, .guard⟩ (by simp) rfl) (by decide) (by decide) rfl).1; exact wp_unwantedN rfl (yielded_no rfl fg) (sv rfl ⟨rfl, trivial⟩)
    case o5_18 => have fg : vals 12 = undef := (Fw.get (f := vsP (some (undef, True))) (hw ⟨12, .guard⟩ (by simp) rfl) (by decide) (by decide) rfl).1; exact wp_unwantedN rfl (yielded_no rfl fg) (sv rfl ⟨rfl, trivial⟩)
    case o5_19 => have fg : vals 12 = undef := (Fw.get (f := vsP (some (undef, True))) (hw ⟨12, .guard⟩ (by simp) rfl) (by decide) (by decide) rfl).1; exact wp_unwantedN rfl (yielded_no rfl fg) (sv rfl ⟨rfl, trivial⟩)
    case o5_20 => have fg : vals 12 = undef := (Fw.get (f := vsP (some (undef, True))) (hw ⟨12, .guard⟩ (by simp) rfl) (by decide) (by decide) rfl).1; exact wp_unwantedN rfl (yielded_no rfl fg) (sv rfl ⟨rfl, trivial⟩)
    case o5_21 => have fg : vals 12 = undef := (Fw.get (f := vsP (some (undef, True))) (hw ⟨12, .guard⟩ (by simp) rfl) (by decide) (by decide) rfl).1; exact wp_unwantedN rfl (yielded_no rfl fg) (sv rfl ⟨rfl, trivial⟩)
    case o5_22 => have fg : vals 9 = .bool true := (Fw.get (f := vsP (some (.bool true, True))) (hw ⟨9, .guard⟩ (by simp) rfl) (by decide) (by decide) rfl).1; exact wp_unwantedD rfl (yielded_of rfl fg) (by decide) (sv rfl ⟨rfl, trivial⟩)
    case o5_24 => have AX := Lib.hid (hC.pre hk); clear hL hC hk hw; refine spD rfl ?_; go_simp; (with_reducible refine (deny_yes 214 _).mono ?_); rintro e w8 ⟨rfl, rfl⟩; exact ⟨_, rfl, Did.err (by unfold oBid; simp only [runOm_bind, run_there S0.out.1 S0.out.2, decide_eq_false (HC.out ce0 S0.out.1), run_deny_no, run_look S1.out, run_look S2.out, decide_eq_true (H1.out ce1 S1.out), Bool.true_or, run_deny_yes]) (AX.out.low BEG.out)⟩
    all_goals (have c := kn7 hC; clear hL hC hk hw; refine spD rfl ?_; go_simp; first | exact sv rfl ⟨rfl, trivial⟩ | exact ⟨_, rfl, sv rfl ⟨rfl, trivial⟩⟩)
  exact hB.1.elim
set_option maxRecDepth 100000 in
set_option maxHeartbeats 8000000 in
theorem bid_lowb (w : World) (g : Nat) (q : Ot) (v : Value) (base i : Nat) (p : Value) (l : List Pu) (seen : List Ce) (hst : St w g q v base i p l) (hs : SeenAt w g v seen) (hg : g < base) (hbase : base ≤ w.heap.size) (hl : l.length ≤ 700) (hi : i ≤ 700000) (hq : q.Ok) (hok : ∀ c ∈ seen, c.Ok) (hc : ∀ c, seen[i]? = some c → hi32 c.A ≠ q.wh) (h1 : ∀ c, seen[i + 1]? = some c → ¬ q.n < c.vA) (h2 : ∀ c, seen[i + 1 + 1]? = some c → c.is = true) (h3 : ∀ c, seen[i + 1 + 1]? = some c →  q.n ≤ c.vA) :
    Calls Try.prog 48 #[.pointer (some ⟨g, 0, none⟩)] w (Did w g q v base i p l seen (oBid q) Rp.enc) := by
  have BEG := Lib.hid (Begin.mk hs hg hbase hq hok (fun x hx => hst.own.lt x hx))
  obtain ⟨W0, hW0⟩ : ∃ W0, w.alloc (.cells #[.int .u16 0, .int .u64 0, .int .u64 0, .int .u64 0] 41) = W0 := ⟨_, rfl⟩
  have SS : Hid (ST w g q v base p i p l [.box w.heap.size #[.int .u16 0, .int .u64 0, .int .u64 0, .int .u64 0] 41] W0) := Lib.hid (by rw [← hW0]; exact ST.start hst BEG.out _ _)
  have HI := Lib.hid hi
  have HQ := Lib.hid hq
  have HOK := Lib.hid hok
  have HL := Lib.hid hl
  have HC := Lib.hid hc
  have H1 := Lib.hid h1
  have H2 := Lib.hid h2
  have H3 := Lib.hid h3
  obtain ⟨ce0, hce0⟩ := the_cell seen (i)
  have CE0 := Lib.hid hce0
  obtain ⟨ce1, hce1⟩ := the_cell seen (i + 1)
  have CE1 := Lib.hid hce1
  obtain ⟨ce2, hce2⟩ := the_cell seen (i + 1 + 1)
  have CE2 := Lib.hid hce2
  clear hst hs hg hbase hl hi hq hok hc h1 h2 h3 hce0 hce1 hce2
  go_enter Try.func48, Try.ntmps48
  go_upto_region 1 with fail
  try rw [hW0]
  clear hW0
  refine wp_SK (D := DP w g q v base i p l seen (oBid q) Rp.enc) 9 10 11 (seen[i]? = some ce0 ∧ ce0.is = true) (i + 1) #[.int .u64 ce0.A, .int .u64 ce0.B, .int .u8 6, .int .u32 q.id, .int .u32 0, .bool true] [pw g 0, pw g 0, pw g 7, pw g 0, pw g 0, pw g 0, pw g 4, some (.int .u32 q.id, True), some (.agg #[.int .u8 6, .int .u32 q.id, .int .u32 0], True), some (.agg (thing ce0.A ce0.B 6 q.id 0 true), True), none, none] SS.out (fun vals => ?_) (fun vals W1 hB hfin hall => ?_) (ea 10 rfl)
  · simp only [ObD, Act.put, qA, qC, qZ]
    refine ⟨?_, ?_, ?_, ?_, ?_, ?_, ?_, ?_, ?o0_8, ?o0_9, ?o0_10, ?o0_11, trivial⟩
    all_goals (intro L W hL hk hC hw; have f := deps hw rfl rfl; simp only [depF, vsP, pw, qS, qD, and_true, true_and] at f)
    case o0_8 => have CL := Lib.hid (auction_any q.id W); clear hL hC hk hw; refine spD rfl ?_; go_simp; (with_reducible refine CL.out.mono ?_); rintro e w8 ⟨rfl, h2⟩; first | exact sq h2 rfl ⟨rfl, trivial⟩ | exact ⟨_, rfl, sq h2 rfl ⟨rfl, trivial⟩⟩
    case o0_9 =>
      have CL := Lib.hid (there_K SS.out (hC.pre hk) BEG.out (by have := HI.out; omega) CE0.out 6 q.id 0); clear hL hC hk hw; refine spD rfl ?_; go_simp; (with_reducible refine CL.out.mono ?_); rintro e w8 (⟨h, rfl, h2⟩ | ⟨h, h3, rfl, h2⟩ | ⟨rfl, hf, H⟩)
      · exact ⟨_, rfl, Did.miss (by unfold oBid; simp only [runOm_bind, run_there_no h]) h2⟩
      · exact ⟨_, rfl, Did.err (by unfold oBid; simp only [runOm_bind, run_there_not h h3]) h2⟩
      · first | exact kv hf H rfl ⟨rfl, trivial⟩ | exact ⟨_, rfl, kv hf H rfl ⟨rfl, trivial⟩⟩
    case o0_10 => have ZZ := hC.fr.size; clear hL hC hk hw; refine spD rfl ?_; go_simp; exact am ZZ
    case o0_11 => obtain ⟨gt, C, fa, hgt, bx0, hc⟩ := Fw.geta (hw ⟨10, .data⟩ (by simp) rfl) (by decide); obtain ⟨c0, c1, c2, c3, c4, c5, rfl⟩ := arr6 hc; have q := six_cells bx0; have BXX := Lib.hid bx0; have FA := Lib.hid fa; clear bx0 hc; unfold thing at f; clear hL hC hk hw; refine spD rfl ?_; go_simp; exact sm SS.out BEG.out BXX.out hgt FA.out
    all_goals (have c := kn7 hC; clear hL hC hk hw; refine spD rfl ?_; go_simp; first | exact sv rfl ⟨rfl, trivial⟩ | exact ⟨_, rfl, sv rfl ⟨rfl, trivial⟩⟩)
  have S0 := Lib.hid hB.1
  simp only [allF, vsP, pw, true_and, and_true, Nat.reduceAdd] at hall
  obtain ⟨gt0, fa, hgt, bx⟩ := hfin
  simp only [TL, Act.put, qA, qC, qZ, hall, fa]
  replace SS := Lib.hid (SS.out.push BEG.out hB.st SS.out.lt hgt bx)
  clear hall vals hB fa hgt bx
  have y0 : W1.cell? ⟨gt0, 0, none⟩ = some (.int .u64 ce0.A) := SS.out.bx.1.out.cell 0
  go_wp2_with fail
  (with_reducible refine (unpair_any ce0.A (A_ok HOK.out S0.out.1) _).mono ?_)
  rintro e W2 ⟨rfl, hbl⟩
  clear y0
  replace SS := Lib.hid (SS.out.later hbl)
  clear hbl
  have d1 : (hi32 ce0.A == q.wh) = false := by have := HC.out ce0 S0.out.1; simpa using this
  have y0 : W2.cell? ⟨g, 1, none⟩ = some (.int .u32 q.wh) := SS.out.kn.c1
  go_wp2_with fail
  (with_reducible refine (deny_no 213 _).mono ?_)
  rintro e W3 ⟨rfl, rfl⟩
  clear d1 y0
  go_upto_region 4 with fail
  refine wp_SK (D := DP w g q v base i p l seen (oBid q) Rp.enc) 9 10 11 (seen[i + 1]? = some ce1) (i + 1 + 1) #[.int .u64 ce1.vA, .int .u64 ce1.vB, .int .u8 7, .int .u32 q.id, .int .u32 1, .bool ce1.is] [pw g 0, pw g 0, pw g 7, pw g 0, pw g 0, pw g 0, pw g 4, some (.int .u32 q.id, True), some (.agg #[.int .u8 7, .int .u32 q.id, .int .u32 1], True), some (.agg (thing ce1.vA ce1.vB 7 q.id 1 ce1.is), True), none, none] SS.out (fun vals => ?_) (fun vals W4 hB hfin hall => ?_) (ea 10 rfl)
  · simp only [ObD, Act.put, qA, qC, qZ]
    refine ⟨?_, ?_, ?_, ?_, ?_, ?_, ?_, ?_, ?o3_8, ?o3_9, ?o3_10, ?o3_11, trivial⟩
    all_goals (intro L W hL hk hC hw; have f := deps hw rfl rfl; simp only [depF, vsP, pw, qS, qD, and_true, true_and] at f)
    case o3_8 => have CL := Lib.hid (price_any q.id W); clear hL hC hk hw; refine spD rfl ?_; go_simp; (with_reducible refine CL.out.mono ?_); rintro e w8 ⟨rfl, h2⟩; first | exact sq h2 rfl ⟨rfl, trivial⟩ | exact ⟨_, rfl, sq h2 rfl ⟨rfl, trivial⟩⟩
    case o3_9 =>
      have CL := Lib.hid (look_K SS.out (hC.pre hk) BEG.out (by have := HI.out; omega) CE1.out 7 q.id 1); clear hL hC hk hw; refine spD rfl ?_; go_simp; (with_reducible refine CL.out.mono ?_); rintro e w8 (⟨h, rfl, h2⟩ | ⟨h1, rfl, hf, H⟩)
      · exact ⟨_, rfl, Did.miss (by unfold oBid; simp only [runOm_bind, run_there S0.out.1 S0.out.2, decide_eq_false (HC.out ce0 S0.out.1), run_deny_no, run_look_no h]) h2⟩
      · first | exact kv hf H rfl ⟨rfl, trivial⟩ | exact ⟨_, rfl, kv hf H rfl ⟨rfl, trivial⟩⟩
    case o3_10 => have ZZ := hC.fr.size; clear hL hC hk hw; refine spD rfl ?_; go_simp; exact am ZZ
    case o3_11 => obtain ⟨gt, C, fa, hgt, bx0, hc⟩ := Fw.geta (hw ⟨10, .data⟩ (by simp) rfl) (by decide); obtain ⟨c0, c1, c2, c3, c4, c5, rfl⟩ := arr6 hc; have q := six_cells bx0; have BXX := Lib.hid bx0; have FA := Lib.hid fa; clear bx0 hc; unfold thing at f; clear hL hC hk hw; refine spD rfl ?_; go_simp; exact sm SS.out BEG.out BXX.out hgt FA.out
    all_goals (have c := kn7 hC; clear hL hC hk hw; refine spD rfl ?_; go_simp; first | exact sv rfl ⟨rfl, trivial⟩ | exact ⟨_, rfl, sv rfl ⟨rfl, trivial⟩⟩)
  have S1 := Lib.hid hB.1
  simp only [allF, vsP, pw, true_and, and_true, Nat.reduceAdd] at hall
  obtain ⟨gt1, fa, hgt, bx⟩ := hfin
  simp only [TL, Act.put, qA, qC, qZ, hall, fa]
  replace SS := Lib.hid (SS.out.push BEG.out hB.st SS.out.lt hgt bx)
  clear hall vals hB fa hgt bx
  go_upto_region 5 with fail
  refine wp_SK (D := DP w g q v base i p l seen (oBid q) Rp.enc) 9 10 11 (seen[i + 1 + 1]? = some ce2) (i + 1 + 1 + 1) #[.int .u64 ce2.vA, .int .u64 ce2.vB, .int .u8 7, .int .u32 q.id, .int .u32 0, .bool ce2.is] [pw g 0, pw g 0, pw g 7, pw g 0, pw g 0, pw g 0, pw g 4, some (.int .u32 q.id, True), some (.agg #[.int .u8 7, .int .u32 q.id, .int .u32 0], True), some (.agg (thing ce2.vA ce2.vB 7 q.id 0 ce2.is), True), none, none] SS.out (fun vals => ?_) (fun vals W5 hB hfin hall => ?_) (ea 10 rfl)
  · simp only [ObD, Act.put, qA, qC, qZ]
    refine ⟨?_, ?_, ?_, ?_, ?_, ?_, ?_, ?_, ?o4_8, ?o4_9, ?o4_10, ?o4_11, trivial⟩
    all_goals (intro L W hL hk hC hw; have f := deps hw rfl rfl; simp only [depF, vsP, pw, qS, qD, and_true, true_and] at f)
    case o4_8 => have CL := Lib.hid (bid_any q.id W); clear hL hC hk hw; refine spD rfl ?_; go_simp; (with_reducible refine CL.out.mono ?_); rintro e w8 ⟨rfl, h2⟩; first | exact sq h2 rfl ⟨rfl, trivial⟩ | exact ⟨_, rfl, sq h2 rfl ⟨rfl, trivial⟩⟩
    case o4_9 =>
      have CL := Lib.hid (look_K SS.out (hC.pre hk) BEG.out (by have := HI.out; omega) CE2.out 7 q.id 0); clear hL hC hk hw; refine spD rfl ?_; go_simp; (with_reducible refine CL.out.mono ?_); rintro e w8 (⟨h, rfl, h2⟩ | ⟨h1, rfl, hf, H⟩)
      · exact ⟨_, rfl, Did.miss (by unfold oBid; simp only [runOm_bind, run_there S0.out.1 S0.out.2, decide_eq_false (HC.out ce0 S0.out.1), run_deny_no, run_look S1.out, run_look_no h]) h2⟩
      · first | exact kv hf H rfl ⟨rfl, trivial⟩ | exact ⟨_, rfl, kv hf H rfl ⟨rfl, trivial⟩⟩
    case o4_10 => have ZZ := hC.fr.size; clear hL hC hk hw; refine spD rfl ?_; go_simp; exact am ZZ
    case o4_11 => obtain ⟨gt, C, fa, hgt, bx0, hc⟩ := Fw.geta (hw ⟨10, .data⟩ (by simp) rfl) (by decide); obtain ⟨c0, c1, c2, c3, c4, c5, rfl⟩ := arr6 hc; have q := six_cells bx0; have BXX := Lib.hid bx0; have FA := Lib.hid fa; clear bx0 hc; unfold thing at f; clear hL hC hk hw; refine spD rfl ?_; go_simp; exact sm SS.out BEG.out BXX.out hgt FA.out
    all_goals (have c := kn7 hC; clear hL hC hk hw; refine spD rfl ?_; go_simp; first | exact sv rfl ⟨rfl, trivial⟩ | exact ⟨_, rfl, sv rfl ⟨rfl, trivial⟩⟩)
  have S2 := Lib.hid hB.1
  simp only [allF, vsP, pw, true_and, and_true, Nat.reduceAdd] at hall
  obtain ⟨gt2, fa, hgt, bx⟩ := hfin
  simp only [TL, Act.put, qA, qC, qZ, hall, fa]
  replace SS := Lib.hid (SS.out.push BEG.out hB.st SS.out.lt hgt bx)
  clear hall vals hB fa hgt bx
  have I2 := Lib.hid (H2.out ce2 S2.out)
  have SX := SS.out
  rw [I2.out] at SX
  replace SS := Lib.hid SX
  clear SX
  go_upto_region 6 with fail
  have LT0 := Lib.hid ((decide_eq_false (show ¬ q.n < ce1.vA by have := H1.out ce1 S1.out; omega) : decide (q.n < ce1.vA) = false))
  have LT1 := Lib.hid ((decide_eq_true (H3.out ce2 S2.out) : decide (q.n ≤ ce2.vA) = true))
  refine wp_SA (D := DP w g q v base i p l seen (oBid q) Rp.enc) 24 25 26 False False (i + 1 + 1 + 1) l [pw g 0, pw g 0, pw g 0, pw g 5, some (.int .u64 q.n, True), some (.pointer (some ⟨gt1, 0, none⟩), True), some (.pointer (some ⟨gt1, 0, none⟩), True), some (.int .u64 ce1.vA, True), some (.bool false, True), some (.bool false, True), some (.pointer (some ⟨gt2, 5, none⟩), True), some (.bool true, True), some (.bool true, True), some (.pointer (some ⟨gt2, 0, none⟩), True), some (.pointer (some ⟨gt2, 0, none⟩), True), some (.int .u64 ce2.vA, True), pw g 0, pw g 0, pw g 0, pw g 5, some (.int .u64 q.n, True), some (.bool true, True), some (.bool true, True), some (.bool true, True), some (.tuple #[], True)] SS.out (fun vals => ?_) (fun vals W6 hB hall => ?_)
  · simp only [ObD, Act.put, qA, qC, qZ]
    refine ⟨?_, ?_, ?_, ?_, ?_, ?_, ?_, ?o5_7, ?o5_8, ?_, ?o5_10, ?o5_11, ?o5_12, ?o5_13, ?o5_14, ?o5_15, ?o5_16, ?o5_17, ?o5_18, ?o5_19, ?o5_20, ?o5_21, ?o5_22, ?o5_23, ?o5_24, trivial⟩
    all_goals (intro L W hL hk hC hw; have f := deps hw rfl rfl; simp only [depF, vsP, pw, qS, qD, and_true, true_and] at f)
    case' o5_7 => have k0 : W.cell? ⟨gt1, 0, none⟩ = some (.int .u64 ce1.vA) := (cw_bx hC).2.1.out.cell 0
    case' o5_8 => have lt0 := LT0.out; have lt1 := LT1.out
    case' o5_23 => have lt0 := LT0.out; have lt1 := LT1.out
    case o5_10 => have fg : vals 9 = .bool false := (Fw.get (f := vsP (some (.bool false, True))) (hw ⟨9, .guard⟩ (by simp) rfl) (by decide) (by decide) rfl).1; have c := kn7 hC; clear hL hC hk hw; refine step_guardD rfl (yielded_of rfl fg) ?_; go_simp; first | exact sv rfl ⟨rfl, trivial⟩ | exact ⟨_, rfl, sv rfl ⟨rfl, trivial⟩⟩
    case o5_11 => have fg : vals 9 = .bool false := (Fw.get (f := vsP (some (.bool false, True))) (hw ⟨9, .guard⟩ (by simp) rfl) (by decide) (by decide) rfl).1; have k5 : W.cell? ⟨gt2, 5, none⟩ = some (.bool true) := (cw_bx hC).1.out.cell 5; have c := kn7 hC; clear hL hC hk hw; refine step_guardD rfl (yielded_of rfl fg) ?_; go_simp; first | exact sv rfl ⟨rfl, trivial⟩ | exact ⟨_, rfl, sv rfl ⟨rfl, trivial⟩⟩
    case o5_12 => have fg : vals 9 = .bool false := (Fw.get (f := vsP (some (.bool false, True))) (hw ⟨9, .chain⟩ (by simp) rfl) (by decide) (by decide) rfl).1; have c := kn7 hC; clear hL hC hk hw; refine step_guardD rfl (yielded_of rfl fg) ?_; go_simp; first | exact sv rfl ⟨rfl, trivial⟩ | exact ⟨_, rfl, sv rfl ⟨rfl, trivial⟩⟩
    case o5_13 => have fg : vals 12 = .bool true := (Fw.get (f := vsP (some (.bool true, True))) (hw ⟨12, .guard⟩ (by simp) rfl) (by decide) (by decide) rfl).1; have c := kn7 hC; clear hL hC hk hw; refine step_guardD rfl (yielded_of rfl fg) ?_; go_simp; first | exact sv rfl ⟨rfl, trivial⟩ | exact ⟨_, rfl, sv rfl ⟨rfl, trivial⟩⟩
    case o5_14 => have fg : vals 12 = .bool true := (Fw.get (f := vsP (some (.bool true, True))) (hw ⟨12, .guard⟩ (by simp) rfl) (by decide) (by decide) rfl).1; have c := kn7 hC; clear hL hC hk hw; refine step_guardD rfl (yielded_of rfl fg) ?_; go_simp; first | exact sv rfl ⟨rfl, trivial⟩ | exact ⟨_, rfl, sv rfl ⟨rfl, trivial⟩⟩
    case o5_15 => have fg : vals 12 = .bool true := (Fw.get (f := vsP (some (.bool true, True))) (hw ⟨12, .guard⟩ (by simp) rfl) (by decide) (by decide) rfl).1; have k0 : W.cell? ⟨gt2, 0, none⟩ = some (.int .u64 ce2.vA) := (cw_bx hC).1.out.cell 0; have c := kn7 hC; clear hL hC hk hw; refine step_guardD rfl (yielded_of rfl fg) ?_; go_simp; first | exact sv rfl ⟨rfl, trivial⟩ | exact ⟨_, rfl, sv rfl ⟨rfl, trivial⟩⟩
    case o5_16 => have fg : vals 12 = .bool true := (Fw.get (f := vsP (some (.bool true, True))) (hw ⟨12, .guard⟩ (by simp) rfl) (by decide) (by decide) rfl).1; have c := kn7 hC; clear hL hC hk hw; refine step_guardD rfl (yielded_of rfl fg) ?_; go_simp; first | exact sv rfl ⟨rfl, trivial⟩ | exact ⟨_, rfl, sv rfl ⟨rfl, trivial⟩⟩
    case o5_17 => have fg : vals 12 = .bool true := (Fw.get (f := vsP (some (.bool true, True))) (hw ⟨12, .guard⟩ (by simp) rfl) (by decide) (by decide) rfl).1; have c := kn7 hC; clear hL hC hk hw; refine step_guardD rfl (yielded_of rfl fg) ?_; go_simp; first | exact sv rfl ⟨rfl, trivial⟩ | exact ⟨_, rfl, sv rfl ⟨rfl, trivial⟩⟩
    case o5_18 => have fg : vals 12 = .bool true := (Fw.get (f := vsP (some (.bool true, True))) (hw ⟨12, .guard⟩ (by simp) rfl) (by decide) (by decide) rfl).1; have c := kn7 hC; clear hL hC hk hw; refine step_guardD rfl (yielded_of rfl fg) ?_; go_simp; first | exact sv rfl ⟨rfl, trivial⟩ | exact ⟨_, rfl, sv rfl ⟨rfl, trivial⟩⟩
    case o5_19 => have fg : vals 12 = .bool true := (Fw.get (f := vsP (some (.bool true, True))) (hw ⟨12, .guard⟩ (by simp) rfl) (by decide) (by decide) rfl).1; have c := kn7 hC; clear hL hC hk hw; refine step_guardD rfl (yielded_of rfl fg) ?_; go_simp; first | exact sv rfl ⟨rfl, trivial⟩ | exact ⟨_, rfl, sv rfl ⟨rfl, trivial⟩⟩
    case o5_20 => have fg : vals 12 = .bool true := (Fw.get (f := vsP (some (.bool true, True))) (hw ⟨12, .guard⟩ (by simp) rfl) (by decide) (by decide) rfl).1; have c := kn7 hC; clear hL hC hk hw; refine step_guardD rfl (yielded_of rfl fg) ?_; go_simp; first | exact sv rfl ⟨rfl, trivial⟩ | exact ⟨_, rfl, sv rfl ⟨rfl, trivial⟩⟩
    case o5_21 => have fg : vals 12 = .bool true := (Fw.get (f := vsP (some (.bool true, True))) (hw ⟨12, .guard⟩ (by simp) rfl) (by decide) (by decide) rfl).1; have lt0 := LT0.out; have lt1 := LT1.out; have c := kn7 hC; clear hL hC hk hw; refine step_guardD rfl (yielded_of rfl fg) ?_; go_simp; first | exact sv rfl ⟨rfl, trivial⟩ | exact ⟨_, rfl, sv rfl ⟨rfl, trivial⟩⟩
    case o5_22 => have fg : vals 9 = .bool false := (Fw.get (f := vsP (some (.bool false, True))) (hw ⟨9, .guard⟩ (by simp) rfl) (by decide) (by decide) rfl).1; have lt0 := LT0.out; have lt1 := LT1.out; have c := kn7 hC; clear hL hC hk hw; refine step_guardD rfl (yielded_of rfl fg) ?_; go_simp; first | exact sv rfl ⟨rfl, trivial⟩ | exact ⟨_, rfl, sv rfl ⟨rfl, trivial⟩⟩
    case o5_24 => have AX := Lib.hid (hC.pre hk); clear hL hC hk hw; refine spD rfl ?_; go_simp; (with_reducible refine (deny_yes 214 _).mono ?_); rintro e w8 ⟨rfl, rfl⟩; exact ⟨_, rfl, Did.err (by unfold oBid; simp only [runOm_bind, run_there S0.out.1 S0.out.2, decide_eq_false (HC.out ce0 S0.out.1), run_deny_no, run_look S1.out, run_look S2.out, decide_eq_false (show ¬ q.n < ce1.vA by have := H1.out ce1 S1.out; omega), I2.out, decide_eq_true (H3.out ce2 S2.out), Bool.true_and, Bool.false_or, run_deny_yes]) (AX.out.low BEG.out)⟩
    all_goals (have c := kn7 hC; clear hL hC hk hw; refine spD rfl ?_; go_simp; first | exact sv rfl ⟨rfl, trivial⟩ | exact ⟨_, rfl, sv rfl ⟨rfl, trivial⟩⟩)
  exact hB.1.elim
end Go.Proofs.Ytneaehimdmachaa.Rule
namespace Go.Proofs.Ytneaehimdmachaa.Rule
open Go.ChangeShapes Go.WideShapes Go.ChangeAt Go.RowKit Go.IntWalk Go.Proofs.Mem Go.Proofs.Stk
set_option linter.unusedVariables false
set_option linter.unusedSimpArgs false
set_option maxRecDepth 100000 in
theorem len_any (n : Nat) (hn : n ≤ 1000000) (w : World) : Calls Try.prog 80 #[.int .u64 n] w fun e w' => (∃ k : Nat, e = .returned (.int .i64 k)) ∧ w = w' := by
  have CL := Lib.hid (Money.len64_any (n : Int) (by omega) (by omega) w)
  clear hn
  go_enter Try.func80, Try.ntmps80
  go_wp2_with (go_at_call 92; (with_reducible refine CL.out.mono ?_); rintro e w1 ⟨rfl, rfl⟩)
  go_ret
  exact ⟨⟨_, rfl⟩, rfl⟩
set_option maxRecDepth 100000 in
set_option maxHeartbeats 4000000 in
theorem pdq_small (w : World) (gg n cap k : Nat) (xs : List Int) (h : Row32 w gg n cap xs) (h1 : 1 ≤ n) (hn : n ≤ 12) :
    Calls Try.prog 79 #[.slice (some ⟨gg, 0, none⟩) n cap, .int .i64 0, .int .i64 n, .int .i64 k] w fun e w' => e = .returned (.tuple #[]) ∧ Row32 w' gg n cap (isortTo n xs) ∧ Fr (fun x => x = gg) w w' := by
  have CL := Lib.hid (isort_any w gg n cap xs h h1 hn)
  have d1 : decide ((n : Int) ≤ 12) = true := by simp; omega
  have s1 : (n : Int) - 0 = (n : Int) := by omega
  have hn12 : (n : Int) ≤ 12 := by omega
  clear h h1 hn
  go_enter Try.func79, Try.ntmps79
  go_wp2
  refine wp_loop_rounds 1 ?_
  rw [rounds_succ]
  go_wp2_with fail
  (with_reducible refine CL.out.mono ?_)
  rintro e w1 ⟨rfl, h2, h3⟩
  have H2 := Lib.hid h2
  have H3 := Lib.hid h3
  clear h2 h3
  go_wp2
  refine bodyPost_ret (results_none rfl _ _ _) rfl ?_
  exact ⟨rfl, H2.out, H3.out⟩
set_option maxRecDepth 100000 in
theorem sort_small (w : World) (gg n cap : Nat) (xs : List Int) (h : Row32 w gg n cap xs) (h1 : 1 ≤ n) (hn : n ≤ 12) :
    Calls Try.prog 73 #[.slice (some ⟨gg, 0, none⟩) n cap] w fun e w' => e = .returned (.tuple #[]) ∧ Row32 w' gg n cap (isortTo n xs) ∧ Fr (fun x => x = gg) w w' := by
  have CL := Lib.hid (len_any n (by omega) w)
  have CP := Lib.hid (fun k => pdq_small w gg n cap k xs h h1 hn)
  have cw : IntKind.u64.wrap (n : Int) = n := by
    have : IntKind.u64.wrap (n : Int) = (n : Int) % 18446744073709551616 := by simp [IntKind.wrap, IntKind.signed, IntKind.bits]
    omega
  clear h h1 hn
  go_enter Try.func73, Try.ntmps73
  go_wp2_with (first
    | (go_at_call 80; (with_reducible refine CL.out.mono ?_); rintro e w1 ⟨⟨k, rfl⟩, rfl⟩)
    | (go_at_call 79; (with_reducible refine (CP.out _).mono ?_); rintro e w2 ⟨rfl, h2, h3⟩; have H2 := Lib.hid h2; have H3 := Lib.hid h3; clear h2 h3))
  go_end0
  exact ⟨rfl, H2.out, H3.out⟩
end Go.Proofs.Ytneaehimdmachaa.Rule
namespace Go.Proofs.Ytneaehimdmachaa.Rule
open Go.ChangeShapes Go.WideShapes Go.ChangeAt Go.RowKit Go.IntWalk Go.Proofs.Mem Go.Proofs.Stk
set_option linter.unusedVariables false
set_option linter.unusedSimpArgs false
set_option maxRecDepth 100000 in
set_option maxHeartbeats 4000000 in
theorem compact_same (w : World) (gg n cap : Nat) (xs : List Int) (h : Row32 w gg n cap xs) (h1 : 2 ≤ n) (hn : n ≤ 12) (hd : ∀ j, j + 1 < n → xs.getD (j + 1) 0 ≠ xs.getD j 0) :
    Calls Try.prog 74 #[.slice (some ⟨gg, 0, none⟩) n cap] w fun e w' => e = .returned (.slice (some ⟨gg, 0, none⟩) n cap) ∧ Below w.heap.size w w' := by
  have HR := Lib.hid h
  have HC := Lib.hid (show n ≤ cap by obtain ⟨cur, _, _, hc, _⟩ := h.box; exact hc)
  have HD := Lib.hid hd
  have H1 := Lib.hid h1
  have hlen := h.len
  have d0 : decide ((n : Int) < 2) = false := by simp; omega
  clear h h1 hd
  go_enter Try.func74, Try.ntmps74
  go_wp2
  go_loopw [3] (fun s wr => ∃ k : Nat, 1 ≤ k ∧ k ≤ n ∧ s = .int .i64 k ∧ Hid (Below w.heap.size w wr)) (fun s _ => n - (intOf s).toNat)
  case atStart => exact ⟨1, by omega, by have := H1.out; omega, rfl, Lib.hid (Below.refl _ _)⟩
  case round =>
    obtain ⟨k, hk1, hk, rfl, HX⟩ := hrel
    have HY : Hid (Row32 wr gg n cap xs) := Lib.hid (HR.out.later HX.out)
    by_cases hl : k < n
    · have d1 : decide ((k : Int) < (n : Int)) = true := by simp; omega
      obtain ⟨j, rfl⟩ : ∃ j, k = j + 1 := ⟨k - 1, by omega⟩
      obtain ⟨a, ha⟩ : ∃ a, xs[j + 1]? = some a := ⟨_, List.getElem?_eq_getElem (by omega)⟩
      obtain ⟨b, hb⟩ : ∃ b, xs[j]? = some b := ⟨_, List.getElem?_eq_getElem (by omega)⟩
      have ca := fun e => (HY.out.drewN e).cell (j + 1) ha
      have cb := fun e => (HY.out.drewN e).cell j hb
      have hne : a ≠ b := by
        have := HD.out j hl
        simpa only [List.getD_eq_getElem?_getD, ha, hb, Option.getD_some] using this
      have d2 : (a == b) = false := by simpa using hne
      have s2 : ((j + 1 : Nat) : Int) - 1 = (j : Int) := by omega
      obtain ⟨k', hk'⟩ : ∃ k', k' = j + 1 + 1 := ⟨_, rfl⟩
      have hks : ((j + 1 : Nat) : Int) + 1 = (k' : Int) := by omega
      have hk12 : (k' : Int) ≤ 13 := by omega
      have HK := Lib.hid hk'
      clear hk' hne
      go_upto_region 6 with fail
      go_quiet (fail)
      go_wp2
      go_roundw
      case rel => exact ⟨k', by have := HK.out; omega, by have := HK.out; omega, (by have e : ((j : Int) + 1 + 1) = (k' : Int) := (by have := HK.out; omega); rw [e]), Lib.hid (below_drewN HX.out nq)⟩
      case measure => simp [intOf]; have := HK.out; omega
    · have d1 : decide ((k : Int) < (n : Int)) = false := by simp; omega
      go_wp2
      go_ret
      exact ⟨rfl, HX.out⟩
end Go.Proofs.Ytneaehimdmachaa.Rule
namespace Go.Proofs.Ytneaehimdmachaa.Rule
open Go.ChangeShapes Go.WideShapes Go.ChangeAt Go.RowKit Go.IntWalk Go.Proofs.Mem Go.Proofs.Stk
set_option linter.unusedVariables false
set_option linter.unusedSimpArgs false
theorem Row32.front {W : World} {gg cap : Nat} {a b c : Int} (h : Row32 W gg 3 cap [a, b, c]) : Row32 W gg 2 cap [a, b] := by
  obtain ⟨cur, hb, hs, hn, hc, hl, ht⟩ := h.box
  refine ⟨by simp, .inr ⟨gg, cap, cur, rfl, Nat.le_refl _, hb, by omega, hc, by simpa using hs, ?_⟩⟩
  have h2 : cur.toList.take 2 = (cur.toList.take 3).take 2 := by rw [List.take_take]; rfl
  rw [Nat.mul_one, h2, ht]
  rfl
set_option maxRecDepth 100000 in
set_option maxHeartbeats 4000000 in
theorem compact_556 (w : World) (gg cap : Nat) (h : Row32 w gg 3 cap [5, 5, 6]) :
    Calls Try.prog 74 #[.slice (some ⟨gg, 0, none⟩) 3 cap] w fun e w' => e = .returned (.slice (some ⟨gg, 0, none⟩) 2 cap) ∧ Row32 w' gg 2 cap [5, 6] ∧ Fr (fun x => x = gg) w w' := by
  have HR := Lib.hid h
  have hc : 3 ≤ cap := by obtain ⟨cur, _, _, hc, _⟩ := h.box; exact hc
  have hm : cap ≤ 9223372036854775807 := by obtain ⟨cur, _, _, _, hc, _⟩ := h.box; unfold maxLen at hc; omega
  have HC := Lib.hid hc
  have c0 := fun d => (HR.out.drewN d).cell 0 (x := 5) rfl
  have c1 := fun d => (HR.out.drewN d).cell 1 (x := 5) rfl
  have c2 := fun d => (HR.out.drewN d).cell 2 (x := 6) rfl
  clear h
  go_enter Try.func74, Try.ntmps74
  go_wp2
  refine wp_loop_rounds 1 ?_
  rw [rounds_succ]
  go_upto_region 6 with fail
  go_quiet (fail)
  go_wp2
  refine wp_loop_rounds 2 ?_
  rw [rounds_succ]
  go_upto_region 11 with fail
  have HR1 := Lib.hid (HR.out.drewN nq)
  have F1 := Lib.hid ((Fr.refl (fun x => x = gg) w).drewN nq)
  generalize w.drewN nq = w1 at HR1 F1 ⊢
  clear c0 c1 c2
  have c1 := fun d => (HR1.out.drewN d).cell 1 (x := 5) rfl
  have c2 := fun d => (HR1.out.drewN d).cell 2 (x := 6) rfl
  have f1 := fun d => (HR1.out.drewN d).frozen 1
  have f2 := fun d => (HR1.out.drewN d).frozen 2
  go_quiet (fail)
  go_wp2
  generalize hW2 : (World.setCell _ (⟨gg, 1, none⟩ : Addr) _) = W2
  have HR2 : Hid (Row32 W2 gg 3 cap [5, 6, 6]) := Lib.hid (by rw [← hW2]; exact (HR1.out.drewN _).set_ 1 6 (by decide))
  have F2 : Hid (Fr (fun x => x = gg) w W2) := Lib.hid (by rw [← hW2]; exact (F1.out.drewN _).setCell (p := ⟨gg, 1, none⟩) (.inl rfl) _)
  clear hW2 c1 c2 f1 f2
  have c2 := HR2.out.cell 2 (x := 6) rfl
  have f2 := HR2.out.frozen 2
  have g1 : ∀ j, j < 1 → (W2.cell? ⟨gg, 2 + j, none⟩).isSome = true := fun j hj => by
    have e : j = 0 := by omega
    subst e
    rw [show W2.cell? ⟨gg, 2 + 0, none⟩ = some (.int .u32 6) from c2]
    rfl
  have g2 : ∀ j, j < 1 → W2.frozen? ⟨gg, 2 + j, none⟩ = false := fun j hj => by
    have e : j = 0 := by omega
    subst e
    exact f2
  have hcl : ∀ (ty : TypeId) (c : Nat), (Builtin.clear_ #[81] ty #[.slice (some ⟨gg, 2, none⟩) 1 c]).run Try.prog W2 = .ok (.tuple #[]) (W2.setCells gg 2 (List.replicate 1 (.int .u32 0))) := fun ty c =>
    Lib.run_clear_slice W2 _ 22 ty (.int .u32 0) Try.underlying81 (fun _ => by kernel_rfl) rfl rfl gg 2 1 c (by omega) g1 g2
  clear g1 g2
  rw [rounds_succ]
  go_wp2
  go_ret
  exact ⟨rfl, (HR2.out.set_ 2 0 (by decide)).front, F2.out.setCell (p := ⟨gg, 2, none⟩) (.inl rfl) _⟩
end Go.Proofs.Ytneaehimdmachaa.Rule
namespace Go.Proofs.Ytneaehimdmachaa.Rule
open Go.Proofs.Stk
set_option linter.unusedVariables false
set_option linter.unusedSimpArgs false
def rawItems (id : Int) : List Int := ((lineS id).1 ++ (lineS id).2).map (·.1)
theorem raw_sorted (id : Int) (h : id = 1 ∨ id = 2 ∨ id = 3 ∨ id = 5 ∨ id = 6) : isortTo (rawItems id).length (rawItems id) = craftItems id := by
  rcases h with rfl | rfl | rfl | rfl | rfl <;> decide
theorem raw_four : isortTo (rawItems 4).length (rawItems 4) = [5, 5, 6] := by decide
theorem raw_len (id : Int) (h : 1 ≤ id ∧ id ≤ 6) : 2 ≤ (rawItems id).length ∧ (rawItems id).length ≤ 4 := by
  have : id = 1 ∨ id = 2 ∨ id = 3 ∨ id = 4 ∨ id = 5 ∨ id = 6 := by omega
  rcases this with rfl | rfl | rfl | rfl | rfl | rfl <;> decide
theorem times_fst (n : Int) (l : List Pr) : (times n l).map (·.1) = l.map (·.1) := by simp [times]
theorem craft_apart (id : Int) (h : 1 ≤ id ∧ id ≤ 6) : ∀ j, j + 1 < (craftItems id).length → (craftItems id).getD (j + 1) 0 ≠ (craftItems id).getD j 0 := by
  have key : ∀ j, j < 4 → j + 1 < (craftItems id).length → (craftItems id).getD (j + 1) 0 ≠ (craftItems id).getD j 0 := by
    have : id = 1 ∨ id = 2 ∨ id = 3 ∨ id = 4 ∨ id = 5 ∨ id = 6 := by omega
    rcases this with rfl | rfl | rfl | rfl | rfl | rfl <;> decide
  exact fun j hj => key j (by have := craftItems_len id; omega) hj
end Go.Proofs.Ytneaehimdmachaa.Rule
namespace Go.Proofs.Ytneaehimdmachaa.Rule
open Go.ChangeShapes Go.WideShapes Go.ChangeAt Go.RowKit Go.IntWalk Go.Proofs.Mem Go.Proofs.Stk
open Go.Proofs.Ytneaehimdmachaa.Stk (rv)
set_option linter.unusedVariables false
set_option linter.unusedSimpArgs false
theorem u32_info : (Try.prog.info? 22).map (fun i => (i.zero, i.size, i.bytes)) = some (some (.int .u32 0), 1, 4) := by kernel_rfl
theorem Row32.of_own {W : World} {base n : Nat} {v : Value} {xs : List Int} (h : W.ownsRow base 22 1 v n (xs.map (.int .u32))) (hn : 0 < n) : ∃ gg cap, v = .slice (some ⟨gg, 0, none⟩) n cap ∧ base ≤ gg ∧ Row32 W gg n cap xs := by
  obtain ⟨h1, h2 | ⟨g, cap, cur, e, hb, rest⟩⟩ := h
  · omega
  · exact ⟨g, cap, e, hb, by simpa using h1, .inr ⟨g, cap, cur, rfl, Nat.le_refl _, rest⟩⟩
theorem raw_at {l1 l2 : List Pr} {id : Int} (e : l1.map (·.1) ++ l2.map (·.1) = rawItems id) (j : Nat) (h : j < l1.length + l2.length) : (rawItems id)[j]? = some ((l1 ++ l2).getD j (0, 0)).1 := by
  rw [← e, ← List.map_append, List.getElem?_map, List.getD_eq_getElem?_getD, List.getElem?_eq_getElem (by simpa using h)]
  rfl
set_option maxRecDepth 100000 in
set_option maxHeartbeats 4000000 in
theorem items_raw (id : Int) (w : World) (g1 g2 : Nat) (l1 l2 : List Pr) (e1 : l1.map (·.1) ++ l2.map (·.1) = rawItems id) (p1 : 0 < l1.length ∧ l1.length ≤ 6) (p2 : 0 < l2.length ∧ l2.length ≤ 6) (h6 : 1 ≤ id ∧ id ≤ 6)
    (k1 : KR w w.heap.size (.slice (some ⟨g1, 0, none⟩) l1.length l1.length) l1) (k2 : KR w w.heap.size (.slice (some ⟨g2, 0, none⟩) l2.length l2.length) l2) :
    Calls Try.prog 58 #[rv g1 g2 l1.length l2.length] w fun e w' => ∃ gg k cap, e = .returned (.slice (some ⟨gg, 0, none⟩) k cap) ∧ Row32 w' gg k cap (craftItems id) ∧ w.heap.size ≤ gg ∧ Below w.heap.size w w' := by
  obtain ⟨i0, hi0, hz0, hz1, hz2⟩ := info_parts u32_info
  obtain ⟨N, hN⟩ : ∃ N, N = l1.length + l2.length := ⟨_, rfl⟩
  have hlen : (rawItems id).length = N := by rw [← e1, hN]; simp
  have hraw := raw_len id h6
  obtain ⟨W1, hW1⟩ : ∃ W1, (w.alloc (.cells #[.slice (some ⟨g1, 0, none⟩) l1.length l1.length, .slice (some ⟨g2, 0, none⟩) l2.length l2.length] 77)).alloc (.cells #[.slice (some ⟨g1, 0, none⟩) l1.length l1.length, .slice (some ⟨g2, 0, none⟩) l2.length l2.length] 75) = W1 := ⟨_, rfl⟩
  have hb1 : Below w.heap.size w W1 := by rw [← hW1]; exact new_ (new_ (Below.refl _ _) _) _
  have bx : Box W1 (w.heap.size + 1) #[.slice (some ⟨g1, 0, none⟩) l1.length l1.length, .slice (some ⟨g2, 0, none⟩) l2.length l2.length] 75 := by
    rw [← hW1]
    have := Box.new (w.alloc (.cells #[.slice (some ⟨g1, 0, none⟩) l1.length l1.length, .slice (some ⟨g2, 0, none⟩) l2.length l2.length] 77)) #[.slice (some ⟨g1, 0, none⟩) l1.length l1.length, .slice (some ⟨g2, 0, none⟩) l2.length l2.length] 75
    rwa [World.size_alloc] at this
  have CC := Lib.hid (concat_two (w.heap.size + 1) g1 0 g2 0 l1.length l2.length l1.length l2.length l1 l2 W1 rfl rfl (bx.cell 0) (bx.cell 1) ((k1.below hb1).more hb1.size) ((k2.below hb1).more hb1.size) ⟨p1.1, by omega⟩ ⟨p2.1, by omega⟩)
  have B1 := Lib.hid hb1
  have HR := Lib.hid (raw_at e1)
  have HN := Lib.hid hN
  have HL := Lib.hid hlen
  have H2 := Lib.hid (show 2 ≤ N ∧ N ≤ 4 by rw [← hlen]; exact hraw)
  have H6 := Lib.hid h6
  have HW := Lib.hid hW1
  clear e1 p1 p2 k1 k2 hb1 bx hN hlen hraw h6 hW1
  unfold rv
  go_enter Try.func58, Try.ntmps58
  go_wp2_with fail
  rw [HW.out]
  (with_reducible refine CC.out.mono ?_)
  rintro e w2 ⟨u, rfl, hu, hb2⟩
  rw [← HN.out] at hu
  have ku := KR.of_own hu (by rw [List.length_append, HN.out])
  obtain ⟨A, cu, rfl, hcu, hcm⟩ := ku.form
  rw [List.length_append, ← HN.out] at ku hcu ⊢
  unfold maxLen at hcm
  have KU := Lib.hid ku
  have B2 := Lib.hid (show Below w.heap.size w w2 from B1.out.trans (hb2.mono B1.out.size))
  clear hu ku hb2 CC HW
  go_wp2
  go_loopw [3, 13] (fun v c wr => ∃ j : Nat, j ≤ N ∧ c = .int .i64 j ∧ Hid (wr.ownsRow w2.heap.size 22 1 v j (((rawItems id).take j).map (.int .u32))) ∧ Hid (Below w2.heap.size w2 wr)) (fun _ c _ => N - (intOf c).toNat)
  case atStart => exact ⟨0, by omega, rfl, Lib.hid (World.ownsRow_nil _ _ _ _), Lib.hid (Below.refl _ _)⟩
  case round =>
    obtain ⟨j, hj, rfl, HO, HX⟩ := hrel
    by_cases hl : j < N
    · have d1 : decide ((j : Int) < (N : Int)) = true := by simp; omega
      obtain ⟨b, off, rfl, hb, hc1, hc2⟩ := (KU.out.below HX.out).index j hl
      have hrj := HR.out j (by rw [← HN.out]; exact hl)
      generalize (l1 ++ l2).getD j (0, 0) = pp at hc1 hc2 hrj
      have HRJ := Lib.hid hrj
      have hj4 : (j : Int) ≤ 4 := by have := H2.out; omega
      obtain ⟨j', hj'⟩ : ∃ j', j' = j + 1 := ⟨_, rfl⟩
      have hjs : (j : Int) + 1 = (j' : Int) := by omega
      have HJ := Lib.hid hj'
      have HBW := Lib.hid hb
      clear hj' hrj
      go_wp2_with (at_builtin; refine wpList_push _ rfl _ _ _ rfl w2.heap.size 22 i0 .u32 4 Try.underlying81 hi0 hz0 hz1 hz2 _ j ((rawItems id).take j) rfl ((HO.out.alloc _).alloc _) (wr.heap.size + 1) pp.1 rfl (by have := cell_new (wr.alloc (.cells #[.int .u32 pp.1, .int .u64 pp.2] 104)) #[.int .u32 pp.1] 22 0; rwa [World.size_alloc] at this) (by simp only [maxLen]; omega) (by omega) (by have := HX.out.size; simp; omega) ?_; intro v5 w5 hown5 hb5)
      go_roundw
      case rel =>
        refine ⟨j', by have := HJ.out; omega, rfl, Lib.hid ?_, Lib.hid ?_⟩
        · rw [HJ.out, List.take_add_one, HRJ.out]; exact hown5
        · exact (new_ (new_ HX.out _) _).trans hb5
      case measure => simp [intOf]; have := HJ.out; omega
    · have d1 : decide ((j : Int) < (N : Int)) = false := by simp; omega
      have hjN : j = N := by omega
      subst hjN
      have ho := HO.out
      rw [List.take_of_length_le (by rw [HL.out]; exact Nat.le_refl _)] at ho
      obtain ⟨gg, cap, rfl, hgg, hrow⟩ := Row32.of_own ho (by have := H2.out; omega)
      have HROW := Lib.hid hrow
      have HGG := Lib.hid (show w.heap.size ≤ gg by have := B2.out.size; omega)
      have HB := Lib.hid (show Below w.heap.size w wr from B2.out.trans (HX.out.mono B2.out.size))
      clear ho hrow hgg HO
      have CS := Lib.hid (sort_small wr gg j cap (rawItems id) HROW.out (by have := H2.out; omega) (by have := H2.out; omega))
      go_wp2_with fail
      (with_reducible refine CS.out.mono ?_)
      rintro e w3 ⟨rfl, h3, f3⟩
      have H3 := Lib.hid h3
      have HB3 := Lib.hid (HB.out.trans (f3.to_below (B := w.heap.size) (fun x hx => by rw [hx]; exact HGG.out) HB.out.size))
      clear h3 f3 CS
      by_cases h4 : id = 4
      · subst h4
        have hj3 : j = 3 := HL.out.symm.trans (by decide)
        subst hj3
        have h3 := H3.out
        rw [show isortTo 3 (rawItems 4) = [5, 5, 6] from raw_four] at h3
        have CQ := Lib.hid (compact_556 w3 gg cap h3)
        clear h3
        go_wp2_with fail
        (with_reducible refine CQ.out.mono ?_)
        rintro e w4 ⟨rfl, h5, f5⟩
        have H5 := Lib.hid h5
        have F5 := Lib.hid f5
        clear h5 f5
        go_wp2
        go_ret
        exact ⟨gg, 2, cap, rfl, H5.out, HGG.out, HB3.out.trans (F5.out.to_below (B := w.heap.size) (fun x hx => by rw [hx]; exact HGG.out) HB3.out.size)⟩
      · have hs : isortTo j (rawItems id) = craftItems id := by
          have := HL.out
          have h0 := raw_sorted id (by have := H6.out; omega)
          rwa [this] at h0
        have h3 := H3.out
        rw [hs] at h3
        have hlc := h3.len
        have CQ := Lib.hid (compact_same w3 gg j cap (craftItems id) h3 (by have := H2.out; omega) (by have := H2.out; omega) (fun i hi => craft_apart id H6.out i (by omega)))
        have HC3 := Lib.hid h3
        clear h3 hs hlc
        go_wp2_with fail
        (with_reducible refine CQ.out.mono ?_)
        rintro e w4 ⟨rfl, h5⟩
        have H5 := Lib.hid h5
        clear h5
        go_wp2
        go_ret
        exact ⟨gg, j, cap, rfl, HC3.out.later H5.out, HGG.out, HB3.out.trans (H5.out.mono HB3.out.size)⟩
end Go.Proofs.Ytneaehimdmachaa.Rule
namespace Go.Proofs.Ytneaehimdmachaa.Rule
open Go.ChangeShapes Go.WideShapes Go.ChangeAt Go.RowKit Go.IntWalk Go.Proofs.Mem Go.Proofs.Each
set_option linter.unusedVariables false
set_option linter.unusedSimpArgs false
def Rn_ (w0 : World) (t : TypeId) (s : Nat) (i : Nat) (W W' : World) : Prop := (i ≠ s → Below W.heap.size W W') ∧ (i = s → ∃ gb C u1 u2, w0.heap.size ≤ gb ∧ Box W gb C t ∧ Box W' gb #[u1, u2] t ∧ Fr (fun x => x = gb) W W')
def Fn0 (w0 : World) (t : TypeId) (k m x a s : Nat) (err : Int) (X : Value → World → Prop) (vs : Vs) (j : Nat) (vals : Nat → Value) (W : World) : Prop :=
  if j = s then ∃ gb u1 u2, vals a = .pointer (some ⟨gb, 0, none⟩) ∧ w0.heap.size ≤ gb ∧ Box W gb #[u1, u2] t ∧ X (.agg #[u1, u2]) W
  else if j = a then ∃ gb u1 u2, vals a = .pointer (some ⟨gb, 0, none⟩) ∧ w0.heap.size ≤ gb ∧ Box W gb #[u1, u2] t
  else if j = k ∨ j = m then ∃ u, vals j = .tuple #[u, .int .u16 err] ∧ X u W
  else if j = x then X (vals j) W
  else vsP (vs.getD j none) (vals j)
section
variable {w0 W W' : World} {t : TypeId} {k m x a s j i : Nat} {err : Int} {X : Value → World → Prop} {vs : Vs} {vals : Nat → Value} {u : Value}
theorem fn_v (hs : j ≠ s) (ha : j ≠ a) (hk : ¬ (j = k ∨ j = m)) (hx : j ≠ x) (h : vsP (vs.getD j none) u) : Fn0 w0 t k m x a s err X vs j (upd vals j u) W := by
  unfold Fn0; rw [if_neg hs, if_neg ha, if_neg hk, if_neg hx, upd_same]; exact h
theorem fn_k (hs : j ≠ s) (ha : j ≠ a) (hk : j = k ∨ j = m) (h : X u W) : Fn0 w0 t k m x a s err X vs j (upd vals j (.tuple #[u, .int .u16 err])) W := by
  unfold Fn0; rw [if_neg hs, if_neg ha, if_pos hk, upd_same]; exact ⟨u, rfl, h⟩
theorem fn_x (hs : x ≠ s) (ha : x ≠ a) (hk : ¬ (x = k ∨ x = m)) (h : X u W) : Fn0 w0 t k m x a s err X vs x (upd vals x u) W := by
  unfold Fn0; rw [if_neg hs, if_neg ha, if_neg hk, if_pos rfl, upd_same]; exact h
theorem fn_gk (h : Fn0 w0 t k m x a s err X vs j vals W) (hs : j ≠ s) (ha : j ≠ a) (hk : j = k ∨ j = m) : ∃ u, vals j = .tuple #[u, .int .u16 err] ∧ X u W := by
  unfold Fn0 at h; rw [if_neg hs, if_neg ha, if_pos hk] at h; exact h
theorem fn_gx (h : Fn0 w0 t k m x a s err X vs x vals W) (hs : x ≠ s) (ha : x ≠ a) (hk : ¬ (x = k ∨ x = m)) : X (vals x) W := by
  unfold Fn0 at h; rw [if_neg hs, if_neg ha, if_neg hk, if_pos rfl] at h; exact h
theorem fn_ga (h : Fn0 w0 t k m x a s err X vs a vals W) (hs : a ≠ s) : ∃ gb u1 u2, vals a = .pointer (some ⟨gb, 0, none⟩) ∧ w0.heap.size ≤ gb ∧ Box W gb #[u1, u2] t := by
  unfold Fn0 at h; rw [if_neg hs, if_pos rfl] at h; exact h
theorem fn_gv (h : Fn0 w0 t k m x a s err X vs j vals W) (hs : j ≠ s) (ha : j ≠ a) (hk : ¬ (j = k ∨ j = m)) (hx : j ≠ x) : vsP (vs.getD j none) (vals j) := by
  unfold Fn0 at h; rw [if_neg hs, if_neg ha, if_neg hk, if_neg hx] at h; exact h
theorem rn_same (hs : i ≠ s) : Rn_ w0 t s i W W := ⟨fun _ => Below.refl _ _, fun e => absurd e hs⟩
theorem rn_b (hs : i ≠ s) (h : Below W.heap.size W W') : Rn_ w0 t s i W W' := ⟨fun _ => h, fun e => absurd e hs⟩
theorem depsN {o : Oper} (hw : ∀ e ∈ o.after, Region.binds .any e = true → Fn0 w0 t k m x a s err X vs e.on vals W) (h : vs.getD k none = none ∧ vs.getD m none = none ∧ vs.getD x none = none ∧ vs.getD a none = none ∧ vs.getD s none = none) : depF vs vals o.after.toList := by
  have key : ∀ es : List Edge, (∀ e ∈ es, e ∈ o.after) → depF vs vals es := by
    intro es
    induction es with
    | nil => intro _; trivial
    | cons e r ih =>
      intro h'
      refine ⟨?_, ih fun y hy => h' y (by simp [hy])⟩
      cases he : e.ground with
      | data =>
        have h1 := hw e (h' e (by simp)) (by simp [Region.binds, he])
        show vsP (vs.getD e.on none) _
        by_cases e1 : e.on = s
        · rw [e1, h.2.2.2.2]; trivial
        · by_cases e2 : e.on = a
          · rw [e2, h.2.2.2.1]; trivial
          · by_cases e3 : e.on = k ∨ e.on = m
            · rcases e3 with e3 | e3
              · rw [e3, h.1]; trivial
              · rw [e3, h.2.1]; trivial
            · by_cases e4 : e.on = x
              · rw [e4, h.2.2.1]; trivial
              · exact fn_gv h1 e1 e2 e3 e4
      | _ => trivial
  exact key _ fun e he => by simpa using he
end
theorem wp_SN {P : Program} {ops : List Oper} {a0 : Act} {id : Nat} {Q : Exit → Act → World → Prop} {w0 : World} {w : World} {g base j : Nat} {q : Ot} {v p p' : Value} {l : List Pu} {bs : List Bx} {seen : List Ce} (t : TypeId) (ht : t ≠ 51) (k m x a s : Nat) (err : Int) (X : Value → World → Prop) (vs : Vs) (h0 : ST w g q v base p j p' l bs w0) (hb : Begin w g q v base p seen)
    (hX1 : ∀ u W W', Below W.heap.size W W' → X u W → X u W') (hX2 : ∀ u W W' gb C, Box W gb C t → Fr (fun x => x = gb) W W' → X u W → X u W')
    (hob : ∀ vals : Nat → Value, ObD (fun _ _ => False) P ops.toArray (fun _ W => ST w g q v base p j p' l bs W ∧ w0.heap.size ≤ W.heap.size) (Rn_ w0 t s) (Fn0 w0 t k m x a s err X vs) vals 0 ops a0)
    (hend : ∀ (vals : Nat → Value) W gb u1 u2, ST w g q v base p j p' l bs W → vals a = .pointer (some ⟨gb, 0, none⟩) → w0.heap.size ≤ gb → Box W gb #[u1, u2] t → X (.agg #[u1, u2]) W → allF vals 0 vs → Q .normal (TL vals 0 ops a0) W)
    (hda : ∀ o, ops[s]? = some o → ∃ e ∈ o.after, Region.binds .any e = true ∧ e.on = a)
    (hv : vs.getD k none = none ∧ vs.getD m none = none ∧ vs.getD x none = none ∧ vs.getD a none = none ∧ vs.getD s none = none)
    (hm : P.follows .mixedOrders = true := by kernel_rfl) (hB : fitB ops.toArray = true := by kernel_rfl) (has : a ≠ s := by decide) (hsl : s < ops.length := by decide) (hl : vs.length = ops.length := by rfl) : (Code.region id ops.toArray true).wp P Q a0 w0 := by
  refine wp_region_obD (D := fun _ _ => False) (fun _ _ _ _ h => h.elim) hm hB (fun _ W => ST w g q v base p j p' l bs W ∧ w0.heap.size ≤ W.heap.size) (Rn_ w0 t s) (Fn0 w0 t k m x a s err X vs) (fun _ _ => ⟨h0.drew, Nat.le_refl _⟩) ?_ ?_ ?_ hob ?_
  · intro i L L' W W' hi hLL ⟨h, hz⟩ hr
    by_cases his : i = s
    · obtain ⟨gb, C, u1, u2, h1, h2, h3, h4⟩ := hr.2 his
      exact ⟨h.else_ hb h2 ht (by have := h0.run.out.size; omega) (fun y hy => by have := h0.lt y hy; omega) h4, by have := h4.size; omega⟩
    · exact ⟨h.later (hr.1 his), by have := (hr.1 his).size; omega⟩
  · intro i j L vals W W' hji hc hr hf
    unfold Fn0 at hf ⊢
    by_cases h1 : j = s
    · rw [if_pos h1] at hf ⊢
      have hbl := hr.1 (fun e => hji (h1.trans e.symm))
      obtain ⟨gb, u1, u2, e1, e2, e3, e4⟩ := hf
      exact ⟨gb, u1, u2, e1, e2, e3.later hbl, hX1 _ _ _ hbl e4⟩
    · rw [if_neg h1] at hf ⊢
      have st : ∀ u, X u W → X u W' := fun u hx => by
        by_cases his : i = s
        · obtain ⟨gb, C, u1, u2, h1, h2, h3, h4⟩ := hr.2 his
          exact hX2 _ _ _ gb C h2 h4 hx
        · exact hX1 _ _ _ (hr.1 his) hx
      by_cases h2 : j = a
      · rw [if_pos h2] at hf ⊢
        obtain ⟨gb, u1, u2, e1, e2, e3⟩ := hf
        by_cases his : i = s
        · obtain ⟨gb', C, u1', u2', f1, f2, f3, f4⟩ := hr.2 his
          by_cases hg : gb = gb'
          · subst hg; exact ⟨gb, u1', u2', e1, e2, f3⟩
          · exact ⟨gb, u1, u2, e1, e2, e3.fr f4 hg⟩
        · exact ⟨gb, u1, u2, e1, e2, e3.later (hr.1 his)⟩
      · rw [if_neg h2] at hf ⊢
        by_cases h3 : j = k ∨ j = m
        · rw [if_pos h3] at hf ⊢
          obtain ⟨u, e1, e2⟩ := hf
          exact ⟨u, e1, st u e2⟩
        · rw [if_neg h3] at hf ⊢
          by_cases h4 : j = x
          · rw [if_pos h4] at hf ⊢; exact st _ hf
          · rw [if_neg h4] at hf ⊢; exact hf
  · intro j oj vals vals' hj hv' hw W hf
    unfold Fn0 at hf ⊢
    by_cases h1 : j = s
    · rw [if_pos h1] at hf ⊢
      subst h1
      obtain ⟨e, he, hbd, e2⟩ := hda oj hj
      have := hw e he hbd
      rw [e2] at this
      rw [← this]; exact hf
    · rw [if_neg h1] at hf ⊢
      by_cases h2 : j = a
      · rw [if_pos h2] at hf ⊢
        rw [← h2, ← hv', h2]; exact hf
      · rw [if_neg h2] at hf ⊢
        rw [← hv']; exact hf
  · intro L vals W hc h
    have hs := h s hsl
    unfold Fn0 at hs
    rw [if_pos rfl] at hs
    obtain ⟨gb, u1, u2, e1, e2, e3, e4⟩ := hs
    refine hend vals W gb u1 u2 hc.1 e1 e2 e3 e4 (all_of (s := s) (a := a) (fun i hi h1 h2 => ?_) hv.2.2.2.1 hv.2.2.2.2)
    rw [vs_getD]
    by_cases h3 : i = k ∨ i = m
    · rcases h3 with h3 | h3
      · rw [h3, hv.1]; trivial
      · rw [h3, hv.2.1]; trivial
    · by_cases h4 : i = x
      · rw [h4, hv.2.2.1]; trivial
      · exact fn_gv (h i (by omega)) h1 h2 h3 h4
section
variable {w w0 W W' : World} {g base j j2 : Nat} {q : Ot} {v p p' p2 : Value} {l l2 : List Pu} {bs bs2 : List Bx} {seen : List Ce}
theorem ST.add {b : Nat} {C : Array Value} {t : TypeId} (h : ST w g q v base p j p' l bs W) (hx : Box W b C t) (hg : b ≠ g) (hlo : w.heap.size ≤ b) (ht : t ≠ 51) (hne : ∀ y ∈ bs, y.blk ≠ b) : ST w g q v base p j p' l (.box b C t :: bs) W :=
  ⟨h.run, ⟨Lib.hid hx, h.bx⟩, fun x hx => by
    rcases List.mem_cons.1 hx with e | e
    · subst e; exact ⟨hg, hlo, ht⟩
    · exact h.ok x e, ⟨hne, h.ap⟩⟩
end
section
variable {w w0 W W' : World} {g base j i k m x a s : Nat} {q : Ot} {v p p' : Value} {l : List Pu} {bs : List Bx} {seen : List Ce} {t : TypeId} {err : Int} {X : Value → World → Prop} {vs : Vs} {vals : Nat → Value} {u : Value}
theorem st7 (h : ST w g q v base p j p' l bs W) : W.cell? ⟨g, 0, none⟩ = some (.int .u8 q.kd) ∧ W.cell? ⟨g, 1, none⟩ = some (.int .u32 q.wh) ∧ W.cell? ⟨g, 2, none⟩ = some (.int .u32 q.wm) ∧ W.cell? ⟨g, 3, none⟩ = some (.int .u32 q.wt) ∧ W.cell? ⟨g, 4, none⟩ = some (.int .u32 q.id) ∧ W.cell? ⟨g, 5, none⟩ = some (.int .u64 q.n) ∧ W.cell? ⟨g, 6, none⟩ = some (.int .u64 q.pr) :=
  have c := h.kn
  ⟨c.c0, c.c1, c.c2, c.c3, c.c4, c.c5, c.c6⟩
theorem pn {y : Value} {C : Prop} (hE : vs.getD i none = some (y, C)) (hf : u = y ∧ C) (hs : i ≠ s := by decide) (ha : i ≠ a := by decide) (hk : ¬ (i = k ∨ i = m) := by decide) (hx : i ≠ x := by decide) : Rn_ w0 t s i W W ∧ Fn0 w0 t k m x a s err X vs i (upd vals i u) W :=
  ⟨rn_same hs, fn_v hs ha hk hx (by rw [hE]; exact hf)⟩
theorem fn_a {u1 u2 : Value} (hz : w0.heap.size ≤ W.heap.size) (has : a ≠ s := by decide) : Rn_ w0 t s a W (W.alloc (.cells #[u1, u2] t)) ∧ Fn0 w0 t k m x a s err X vs a (upd vals a (.pointer (some ⟨W.heap.size, 0, none⟩))) (W.alloc (.cells #[u1, u2] t)) := by
  refine ⟨rn_b has (new_ (Below.refl W.heap.size W) _), ?_⟩
  unfold Fn0; rw [if_neg has, if_pos rfl, upd_same]
  exact ⟨W.heap.size, _, _, rfl, hz, Box.new _ _ _⟩
theorem fn_s {gb : Nat} {c1 c2 u1 u2 : Value} (hX2 : ∀ u W W' gb C, Box W gb C t → Fr (fun x => x = gb) W W' → X u W → X u W') (bx : Box W gb #[c1, c2] t) (hgb : w0.heap.size ≤ gb) (fa : vals a = .pointer (some ⟨gb, 0, none⟩)) (hx : X (.agg #[u1, u2]) W) (has : a ≠ s := by decide) :
    Rn_ w0 t s s W ((W.setCell ⟨gb, 0, none⟩ u1).setCell ⟨gb, 1, none⟩ u2) ∧ ∃ z, Fn0 w0 t k m x a s err X vs s (upd vals s z) ((W.setCell ⟨gb, 0, none⟩ u1).setCell ⟨gb, 1, none⟩ u2) := by
  have hf : Fr (fun x => x = gb) W ((W.setCell ⟨gb, 0, none⟩ u1).setCell ⟨gb, 1, none⟩ u2) := ((Fr.refl (fun x => x = gb) W).setCell (p := ⟨gb, 0, none⟩) (.inl rfl) u1).setCell (p := ⟨gb, 1, none⟩) (.inl rfl) u2
  refine ⟨⟨fun e => absurd rfl e, fun _ => ⟨gb, _, u1, u2, hgb, bx, (bx.set_ 0 u1).set_ 1 u2, hf⟩⟩, undef, ?_⟩
  unfold Fn0; rw [if_pos rfl, upd_other _ _ _ _ has]
  exact ⟨gb, u1, u2, fa, hgb, (bx.set_ 0 u1).set_ 1 u2, hX2 _ _ _ gb _ bx hf hx⟩
theorem Box.ne_of {a b : Nat} {C C' : Array Value} {t t' : TypeId} (h : Box W a C t) (h' : Box W b C' t') (ht : t ≠ t') : a ≠ b := by
  rintro rfl
  unfold Box at h h'
  rw [h] at h'
  injection h' with h'
  injection h' with _ h'
  exact ht h'
def Xg (B n1 n2 : Nat) (l1 l2 : List Stk.Pr) (u : Value) (W : World) : Prop := ∃ g1 g2, u = .agg #[.slice (some ⟨g1, 0, none⟩) n1 n1, .slice (some ⟨g2, 0, none⟩) n2 n2] ∧ g1 ≠ g2 ∧ B ≤ g1 ∧ B ≤ g2 ∧ Box W g1 (Stk.flat l1).toArray 104 ∧ Box W g2 (Stk.flat l2).toArray 104
def Xb (u : Value) (W : World) : Prop := ∃ A1 n1 c1 A2 n2 c2, u = .agg #[.slice A1 n1 c1, .slice A2 n2 c2]
theorem Xg.b {B n1 n2 : Nat} {l1 l2 : List Stk.Pr} (h : Xg B n1 n2 l1 l2 u W) : Xb u W := by
  obtain ⟨g1, g2, e, _⟩ := h
  exact ⟨_, _, _, _, _, _, e⟩
theorem Xg.later {B n1 n2 : Nat} {l1 l2 : List Stk.Pr} (h : Xg B n1 n2 l1 l2 u W) (hb : Below W.heap.size W W') : Xg B n1 n2 l1 l2 u W' := by
  obtain ⟨g1, g2, e, h1, h2, h3, h4, h5⟩ := h
  exact ⟨g1, g2, e, h1, h2, h3, h4.later hb, h5.later hb⟩
theorem Xg.fr {B n1 n2 gb : Nat} {l1 l2 : List Stk.Pr} {C : Array Value} (h : Xg B n1 n2 l1 l2 u W) (hx : Box W gb C 77) (hf : Fr (fun x => x = gb) W W') : Xg B n1 n2 l1 l2 u W' := by
  obtain ⟨g1, g2, e, h1, h2, h3, h4, h5⟩ := h
  exact ⟨g1, g2, e, h1, h2, h3, h4.fr hf (Box.ne_of h4 hx (by decide)), h5.fr hf (Box.ne_of h5 hx (by decide))⟩
theorem needs_g (id n : Int) (h : Stk.errN id n = 0) (B : Nat) (W : World) (hB : B ≤ W.heap.size) : Calls Try.prog 57 #[.int .u32 id, .int .u64 n] W fun e W' => ∃ u, e = .returned (.tuple #[u, .int .u16 0]) ∧ Xg B (Stk.inN id n).length (Stk.outN id n).length (Stk.inN id n) (Stk.outN id n) u W' ∧ Below W.heap.size W W' := by
  have hs : Stk.isS id = true := by
    unfold Stk.errN at h
    cases e : Stk.isS id with
    | true => rfl
    | false => rw [e] at h; simp at h
  have hn : ¬ (n < 1 ∨ 1000 < n) := fun e => by unfold Stk.errN at h; rw [hs] at h; simp [e] at h
  have e1 : Stk.inN id n = Stk.times n (Stk.lineS id).1 := by unfold Stk.inN; rw [if_pos h]
  have e2 : Stk.outN id n = Stk.times n (Stk.lineS id).2 := by unfold Stk.outN; rw [if_pos h]
  rw [e1, e2]
  refine (Stk.needs_some id n hs (by omega) (by omega) W).mono fun e W' ⟨g1, g2, h1, h2, h3, h4, h5, h6, h7⟩ => ⟨_, h1, ⟨g1, g2, rfl, h2, by omega, by omega, h5, h6⟩, h7⟩
theorem needs_b (id n : Int) (hn : 0 ≤ n ∧ n ≤ 18446744073709551615) (W : World) : Calls Try.prog 57 #[.int .u32 id, .int .u64 n] W fun e W' => ∃ u, e = .returned (.tuple #[u, .int .u16 (Stk.errN id n)]) ∧ Xb u W' ∧ Below W.heap.size W W' :=
  (Stk.needs_any id n hn W).mono fun e W' ⟨u, h1, ⟨A1, c1, A2, c2, e, _⟩, h3⟩ => ⟨u, h1, ⟨_, _, _, _, _, _, e⟩, h3⟩
theorem cnt_bound (x id n : Int) : (0 ≤ Stk.cnt x (Stk.inN id n) ∧ Stk.cnt x (Stk.inN id n) ≤ 18446744073709551615) ∧ 0 ≤ Stk.cnt x (Stk.outN id n) ∧ Stk.cnt x (Stk.outN id n) ≤ 18446744073709551615 := by
  have key : ∀ (L : List Stk.Pr), Stk.small L → 0 ≤ Stk.cnt x L ∧ Stk.cnt x L ≤ 10 := by
    intro L hL
    have : ∀ L : List Stk.Pr, (∀ p ∈ L, 0 ≤ p.2 ∧ p.2 ≤ 10) → 0 ≤ Stk.cnt x L ∧ Stk.cnt x L ≤ 10 := by
      intro L
      induction L with
      | nil => intro _; simp [Stk.cnt]
      | cons p r ih =>
        intro h
        unfold Stk.cnt
        split
        · exact h p (by simp)
        · exact ih fun y hy => h y (by simp [hy])
    exact this L fun p hp => by have := hL.2 p hp; omega
  have two : ∀ (L : List Stk.Pr), Stk.small L → Stk.errN id n = 0 → 0 ≤ Stk.cnt x (Stk.times n L) ∧ Stk.cnt x (Stk.times n L) ≤ 18446744073709551615 := by
    intro L hL h
    have h1 := key L hL
    have hn : 1 ≤ n ∧ n ≤ 1000 := by
      unfold Stk.errN at h
      split at h
      · cases h
      · split at h
        · cases h
        · omega
    rw [Stk.cnt_times]
    have h2 : 0 ≤ Stk.cnt x L * n := Int.mul_nonneg h1.1 (by omega)
    have h3 : Stk.cnt x L * n ≤ 10 * 1000 := Int.mul_le_mul h1.2 hn.2 (by omega) (by omega)
    omega
  by_cases h : Stk.errN id n = 0
  · have e1 : Stk.inN id n = Stk.times n (Stk.lineS id).1 := by unfold Stk.inN; rw [if_pos h]
    have e2 : Stk.outN id n = Stk.times n (Stk.lineS id).2 := by unfold Stk.outN; rw [if_pos h]
    rw [e1, e2]
    exact ⟨two _ (Stk.lineS_small id).1 h, two _ (Stk.lineS_small id).2 h⟩
  · have e1 : Stk.inN id n = [] := by unfold Stk.inN; rw [if_neg h]
    have e2 : Stk.outN id n = [] := by unfold Stk.outN; rw [if_neg h]
    rw [e1, e2]
    simp [Stk.cnt]
end
end Go.Proofs.Ytneaehimdmachaa.Rule
namespace Go.Proofs.Ytneaehimdmachaa.Rule
set_option linter.unusedVariables false
set_option linter.unusedSimpArgs false
def oAll (q : Ot) : Om Rp := match ckE q with
  | some e => oErr e
  | none => oDo q
def nOut : Re (Rp × List Pu) → Int × Int × Int × Bool
  | .miss k a b => (k, a, b, true)
  | _ => (0, 0, 0, false)
def dOut : Re (Rp × List Pu) → List Pu × Int × Rp
  | .miss _ _ _ => ([], 1, ⟨0, 0, 0⟩)
  | .err e => ([], e, ⟨0, 0, 0⟩)
  | .ok y _ => (y.2, 0, y.1)
abbrev opR (q : Ot) (seen : List Ce) : Re (Rp × List Pu) := runOm seen (oAll q) 0 []
theorem Om.ite_deep {c : Prop} [Decidable c] {n : Nat} {x y : Om Rp} (hx : c → Om.deep n x) (hy : ¬ c → Om.deep n y) : Om.deep n (if c then x else y) := by
  split
  · exact hx (by assumption)
  · exact hy (by assumption)
theorem Om.ite_good {c : Prop} [Decidable c] {P : Rp → Prop} {x y : Om Rp} (hx : c → Om.good x P) (hy : ¬ c → Om.good y P) : Om.good (if c then x else y) P := by
  split
  · exact hx (by assumption)
  · exact hy (by assumption)
theorem oDo_deep (q : Ot) : Om.deep 12 (oDo q) := by
  unfold oDo
  repeat' (with_reducible refine Om.ite_deep (fun _ => ?_) (fun _ => ?_))
  all_goals first
    | exact Om.deep_err _
    | exact Om.deep_mono (oOpen_deep q) (by omega)
    | exact Om.deep_mono (oMint_deep q) (by omega)
    | exact Om.deep_mono (oCreate_deep q) (by omega)
    | exact Om.deep_mono (oDeposit_deep q) (by omega)
    | exact Om.deep_mono (oCraft_deep q) (by omega)
    | exact Om.deep_mono (oLookAt_deep q) (by omega)
    | exact oPay_deep q
    | exact oGive_deep q
    | exact oTrade_deep q
    | exact oOffer_deep q
    | exact oAgree_deep q
    | exact oBreak_deep q
    | exact oSell_deep q
    | exact oBid_deep q
    | exact oClose_deep q
theorem oAll_deep (q : Ot) : Om.deep 12 (oAll q) := by
  unfold oAll
  split
  · exact Om.deep_err _
  · exact oDo_deep q
theorem Tr.deep_run {α : Type} (seen : List Ce) (k a b : Int) : ∀ (t : Tr α) (n i : Nat), t.deep n → runTr seen t i = .miss k a b → seen.length < i + n
  | .ret x, _, _, _, h => by simp [runTr] at h
  | .err e, _, _, _, h => by simp [runTr] at h
  | .look _ _ _ f, 0, _, hd, _ => by unfold Tr.deep at hd; exact hd.elim
  | .look _ _ _ f, n + 1, i, hd, h => by
    simp only [Tr.deep] at hd
    simp only [runTr] at h
    cases e : seen[i]? with
    | none =>
      have := List.getElem?_eq_none_iff.1 e
      omega
    | some c =>
      rw [e] at h
      have := Tr.deep_run seen k a b _ n (i + 1) (hd c.vA c.vB c.is) h
      omega
theorem miss_short {q : Ot} {seen : List Ce} {k a b : Int} (h : opR q seen = .miss k a b) : seen.length < 12 := by
  have := Tr.deep_run seen k a b _ 12 0 (oAll_deep q []) h
  omega
theorem opR_more {q : Ot} {seen : List Ce} (more : List Ce) (h : ∀ k a b, opR q seen ≠ .miss k a b) : opR q (seen ++ more) = opR q seen := runTr_more seen more _ 0 h
theorem oDo_good (q : Ot) (hq : q.Ok) (hc : ckE q = none) : Om.good (oDo q) (fun _ => True) := by
  have hn : 0 ≤ q.n := hq.n.1
  have hp : q.kd = 15 → q.pr ≤ 4611686018427387904 := fun hk => by
    rcases Int.lt_or_le 4611686018427387904 q.pr with h | h
    · simp [ckE, hk, h] at hc
    · exact h
  have hb : q.kd = 16 → q.n ≤ 4611686018427387904 := fun hk => by
    rcases Int.lt_or_le 4611686018427387904 q.n with h | h
    · simp [ckE, hk, h] at hc
    · exact h
  unfold oDo
  repeat' (with_reducible refine Om.ite_good (fun _ => ?_) (fun _ => ?_))
  all_goals first
    | exact Om.good_err _
    | exact oOpen_good q hn
    | exact oMint_good q hn
    | exact oCreate_good q hn
    | exact oDeposit_good q hn
    | exact oCraft_good q
    | exact oLookAt_good q hn
    | exact oPay_good q hn
    | exact oGive_good q hn
    | exact oTrade_good q hn
    | exact oOffer_good q hn
    | exact oAgree_good q hn
    | exact oBreak_good q hn
    | exact oSell_good q hn (hp (by assumption))
    | exact oBid_good q hn (hb (by assumption))
    | exact oClose_good q hn
theorem opR_good {q : Ot} (hq : q.Ok) {seen : List Ce} (hs : ∀ c ∈ seen, 0 ≤ c.A ∧ c.A ≤ 4611686018427387904) : ∀ x ∈ (dOut (opR q seen)).1, x.good := by
  cases h : opR q seen with
  | miss k a b => intro x hx; cases hx
  | err e => intro x hx; cases hx
  | ok y j =>
    have hg : Om.good (oAll q) (fun _ => True) := by
      unfold oAll
      cases hc : ckE q with
      | some e => exact Om.good_err _
      | none => exact oDo_good q hq hc
    exact Om.good_run hg hs h
end Go.Proofs.Ytneaehimdmachaa.Rule
namespace Go.Proofs.Mem
open Go.RowKit Go.WideShapes
set_option linter.unusedVariables false
set_option linter.unusedSimpArgs false
section
variable {α : Type} {F : α → List Value} {sz : Nat}
theorem flat_len (hF : ∀ x, (F x).length = sz) : ∀ l : List α, (l.flatMap F).length = l.length * sz
  | [] => by simp
  | x :: l => by rw [List.flatMap_cons, List.length_append, hF, flat_len hF l, List.length_cons, Nat.succ_mul]; omega
theorem flat_at (hF : ∀ x, (F x).length = sz) : ∀ (l : List α) (i : Nat) (x : α) (j : Nat), l[i]? = some x → j < sz → (l.flatMap F)[i * sz + j]? = (F x)[j]?
  | [], i, x, j, h, _ => by simp at h
  | y :: l, 0, x, j, h, hj => by
    simp at h
    subst h
    rw [Nat.zero_mul, Nat.zero_add, List.flatMap_cons, List.getElem?_append_left (by rw [hF]; exact hj)]
  | y :: l, i + 1, x, j, h, hj => by
    have := flat_at hF l i x j (by simpa using h) hj
    rw [List.flatMap_cons, List.getElem?_append_right (by rw [hF, Nat.succ_mul]; omega), hF, ← this]
    congr 1
    rw [Nat.succ_mul]; omega
theorem SS.of_own {w : World} {base : Nat} {e : TypeId} {v : Value} {xs : List α} (hF : ∀ x, (F x).length = sz) (h : w.ownsRow base e sz v xs.length (xs.flatMap F)) : SS F sz w w.heap.size v xs := by
  have h' := h
  rcases h.2 with ⟨rfl, hn⟩ | ⟨g, cap, cur, rfl, hg, hh, hnc, hm, _, _⟩
  · have : xs = [] := List.eq_nil_of_length_eq_zero hn
    subst this
    exact SS.nil _ _
  · have hlt := (h.lt g rfl).2
    refine ⟨some ⟨g, 0, none⟩, cap, rfl, hnc, hm, fun i x hx => ⟨g, 0, rfl, hlt, fun j u hu => ?_⟩⟩
    have hi : i < xs.length := (List.getElem?_eq_some_iff.1 hx).1
    have hj : j < sz := by rw [← hF x]; exact (List.getElem?_eq_some_iff.1 hu).1
    have hlt2 : i * sz + j < xs.length * sz := by
      have h1 : (i + 1) * sz ≤ xs.length * sz := Nat.mul_le_mul_right sz hi
      rw [Nat.succ_mul] at h1
      omega
    rw [Nat.zero_add, h'.cellAt (i * sz + j) hlt2, flat_at hF xs i x j hx hj, hu]
theorem wpList_push_ss {P : Program} (w : World) {ops : Array Oper} {rest : List Oper} {o : Oper} {a : Act} {Q : Exit → Act → World → Prop} (hgd : o.guard = none) (s x : Operand) (t : TypeId)
    (ho : o.op = .call { callee := .builtin .append, args := #[s, x], argTypes := #[t, t] })
    (base : Nat) (e : TypeId) (i : TypeInfo) (z : Value) (bytes : Nat) (ht : P.underlying t = some (.slice e)) (hi : P.info? e = some i) (hz : i.zero = some z)
    (hsize : i.size = sz) (hby : i.bytes = bytes) (hzs : z.cells.size = sz) (hsz : 0 < sz) (hF : ∀ y, (F y).length = sz) (h1 : ∀ y : α, ∀ u ∈ F y, u.oneCell' = true)
    (v : Value) (xs : List α) (hs : a.eval s = v) (hown : w.ownsRow base e sz v xs.length (xs.flatMap F))
    (g : Nat) (y : α) (T : TypeId) (hx : a.eval x = .slice (some ⟨g, 0, none⟩) 1 1) (hc : Box w g (F y).toArray T) (h63 : xs.length + 1 ≤ maxLen) (hbytes : (xs.length + 1) * bytes ≤ 140737488355328) (hbase : base ≤ w.heap.size)
    (h : ∀ v' w', w'.ownsRow base e sz v' (xs ++ [y]).length ((xs ++ [y]).flatMap F) → RowTo w w' v v' → wpList P ops Q rest (a.put o.dst v') w') : wpList P ops Q (o :: rest) a w := by
  refine wpList_plain hgd fun K hK' => ?_
  obtain ⟨v', w', hrun, h2, h3, _, h5⟩ := run_append_own_at (P := P) (w := w) base t o.type e i z sz bytes ht hi hz hsize hby hzs hsz v xs.length _ hown ⟨g, 0, none⟩ 1 1 (F y) (by rw [hF]; omega) (by
    intro j u hj
    rw [Go.WideShapes.add_plain, Nat.zero_add, hc.cell j]
    simpa using hj) (h1 y) h63 hbytes hbase
  unfold Oper.wp
  simp [execOp, ho, resolve, invoke, builtin, hs, hx, hrun, Result.andThen]
  exact hK' _ _ (h v' w' (by rw [List.length_append, List.flatMap_append]; simpa using h2) (RowTo.app h3 h5))
end
end Go.Proofs.Mem
namespace Go.Proofs.Ytneaehimdmachaa.Rule
open Go.ChangeShapes Go.WideShapes Go.ChangeAt Go.RowKit Go.IntWalk Go.Proofs.Mem
set_option linter.unusedVariables false
set_option linter.unusedSimpArgs false
def Ref (kd wh wm wt id n pr e : Int) : Prop := ∀ (A : Option Addr) (l c : Nat) (W : World), Calls Try.prog 30 #[.agg #[.int .u8 kd, .int .u32 wh, .int .u32 wm, .int .u32 wt, .int .u32 id, .int .u64 n, .int .u64 pr], .slice A l c] W fun en w' => en = .returned (.agg (outE e)) ∧ Below W.heap.size W w'
theorem c8 : Try.prog.cellsOf 5 = 1 := by kernel_rfl
theorem c32 : Try.prog.cellsOf 22 = 1 := by kernel_rfl
theorem c64 : Try.prog.cellsOf 30 = 1 := by kernel_rfl
theorem cOp : Try.prog.cellsOf 32 = 7 := by kernel_rfl
section
variable {H : Type} {enc : TypeId × Value → H} {W : World} {base : Nat} {spare : Nat → Bool} {held : Bool}
theorem list7 {l : List Value} (h : l.length = 7) : ∃ a b c d e f g, l = [a, b, c, d, e, f, g] := by
  match l, h with
  | [a, b, c, d, e, f, g], _ => exact ⟨a, b, c, d, e, f, g, rfl⟩
theorem one_int {k : IntKind} {t : TypeId} {n : Nat} {c : Value} {o : Option (DataW H × List MemPlace)} (ht : Try.prog.underlying t = some (.int k)) (h : DataW.trod enc Try.prog W base spare held n t [c] = o) (ho : o.isSome = true) : ∃ x, c = .int k x ∧ (Lit.int k x).wf = true := by
  cases o with
  | none => cases ho
  | some y =>
    obtain ⟨x, e, _, hw⟩ := DataW.trod_int ht h
    injection e with e _
    exact ⟨x, e, hw⟩
theorem some_at {α : Type} {l : List α} {i : Nat} (h : i < l.length) : (l[i]?).isSome = true := by simp [h]
set_option maxRecDepth 100000 in
theorem open_op {r : Reach} {b0 : Nat} {v : Value} {d : DataW H} {p : List MemPlace} (hv : Value.okWide Try.prog W r b0 32 v) (h : DataW.Trod enc Try.prog W base spare held 32 v d p) : ∃ q : Ot, q.Ok ∧ v = .agg q.cells := by
  obtain ⟨cs, rfl, hsz⟩ := okWide_struct Try.underlying32 hv
  obtain ⟨l⟩ := cs
  obtain ⟨a0, a1, a2, a3, a4, a5, a6, rfl⟩ := list7 (hsz.trans cOp)
  obtain ⟨fuel, hf⟩ := h
  obtain ⟨xs, n, _, _, _, hl, hg⟩ := DataW.trod_struct Try.underlying32 hf
  have h0 := hg 0 _ rfl
  have h1 := hg 1 _ rfl
  have h2 := hg 2 _ rfl
  have h3 := hg 3 _ rfl
  have h4 := hg 4 _ rfl
  have h5 := hg 5 _ rfl
  have h6 := hg 6 _ rfl
  simp [c8, c32, c64, Value.cells] at h0 h1 h2 h3 h4 h5 h6 hl
  obtain ⟨x0, rfl, w0⟩ := one_int Try.underlying5 h0 (some_at (by omega))
  obtain ⟨x1, rfl, w1⟩ := one_int Try.underlying22 h1 (some_at (by omega))
  obtain ⟨x2, rfl, w2⟩ := one_int Try.underlying22 h2 (some_at (by omega))
  obtain ⟨x3, rfl, w3⟩ := one_int Try.underlying22 h3 (some_at (by omega))
  obtain ⟨x4, rfl, w4⟩ := one_int Try.underlying22 h4 (some_at (by omega))
  obtain ⟨x5, rfl, w5⟩ := one_int Try.underlying30 h5 (some_at (by omega))
  obtain ⟨x6, rfl, w6⟩ := one_int Try.underlying30 h6 (some_at (by omega))
  exact ⟨⟨x0, x1, x2, x3, x4, x5, x6⟩, ⟨bounds_u8 w0, bounds_u32 w1, bounds_u32 w2, bounds_u32 w3, bounds_u32 w4, bounds_u64 w5, bounds_u64 w6⟩, rfl⟩
end
end Go.Proofs.Ytneaehimdmachaa.Rule
namespace Go.Proofs.Ytneaehimdmachaa.Rule
open Go.ChangeShapes Go.WideShapes Go.ChangeAt Go.RowKit Go.IntWalk Go.Proofs.Mem
set_option linter.unusedVariables false
set_option linter.unusedSimpArgs false
theorem cKey : Try.prog.cellsOf 24 = 3 := by kernel_rfl
theorem cVal : Try.prog.cellsOf 47 = 2 := by kernel_rfl
theorem cBool : Try.prog.cellsOf 4 = 1 := by kernel_rfl
theorem cCell : Try.prog.cellsOf 49 = 6 := by kernel_rfl
theorem list6 {l : List Value} (h : l.length = 6) : ∃ a b c d e f, l = [a, b, c, d, e, f] := by
  match l, h with
  | [a, b, c, d, e, f], _ => exact ⟨a, b, c, d, e, f, rfl⟩
section
variable {H : Type} {enc : TypeId × Value → H} {W : World} {base : Nat} {spare : Nat → Bool} {held : Bool}
theorem one_bool {t : TypeId} {n : Nat} {c : Value} {o : Option (DataW H × List MemPlace)} (ht : Try.prog.underlying t = some .bool) (h : DataW.trod enc Try.prog W base spare held n t [c] = o) (ho : o.isSome = true) : ∃ x, c = .bool x := by
  cases o with
  | none => cases ho
  | some y =>
    obtain ⟨x, e, _⟩ := DataW.trod_bool ht h
    injection e with e _
    exact ⟨x, e⟩
theorem one_key {n : Nat} {a0 a1 a2 : Value} {o : Option (DataW H × List MemPlace)} (h : DataW.trod enc Try.prog W base spare held n 24 [a0, a1, a2] = o) (ho : o.isSome = true) : ∃ k a b, a0 = .int .u8 k ∧ a1 = .int .u32 a ∧ a2 = .int .u32 b := by
  cases o with
  | none => cases ho
  | some y =>
    obtain ⟨xs, n', _, _, _, hl, hg⟩ := DataW.trod_struct Try.underlying24 h
    have h0 := hg 0 _ rfl
    have h1 := hg 1 _ rfl
    have h2 := hg 2 _ rfl
    simp [c8, c32] at h0 h1 h2 hl
    obtain ⟨x0, rfl, _⟩ := one_int Try.underlying5 h0 (some_at (by omega))
    obtain ⟨x1, rfl, _⟩ := one_int Try.underlying22 h1 (some_at (by omega))
    obtain ⟨x2, rfl, _⟩ := one_int Try.underlying22 h2 (some_at (by omega))
    exact ⟨x0, x1, x2, rfl, rfl, rfl⟩
theorem one_val {n : Nat} {a0 a1 : Value} {o : Option (DataW H × List MemPlace)} (h : DataW.trod enc Try.prog W base spare held n 47 [a0, a1] = o) (ho : o.isSome = true) : ∃ A B, a0 = .int .u64 A ∧ a1 = .int .u64 B ∧ (0 ≤ A ∧ A ≤ 18446744073709551615) ∧ 0 ≤ B ∧ B ≤ 18446744073709551615 := by
  cases o with
  | none => cases ho
  | some y =>
    obtain ⟨xs, n', _, _, _, hl, hg⟩ := DataW.trod_struct Try.underlying47 h
    have h0 := hg 0 _ rfl
    have h1 := hg 1 _ rfl
    simp [c64] at h0 h1 hl
    obtain ⟨x0, rfl, w0⟩ := one_int Try.underlying30 h0 (some_at (by omega))
    obtain ⟨x1, rfl, w1⟩ := one_int Try.underlying30 h1 (some_at (by omega))
    exact ⟨x0, x1, rfl, rfl, bounds_u64 w0, bounds_u64 w1⟩
set_option maxRecDepth 100000 in
theorem open_cells {r : Reach} {b0 : Nat} {v : Value} {d : DataW H} {p : List MemPlace} (hv : Value.okWide Try.prog W r b0 33 v) (h : DataW.Trod enc Try.prog W 0 (fun _ => true) true 33 v d p) : ∃ xs : List Ce, SeenAt W W.heap.size v xs ∧ ∀ x ∈ xs, x.Ok := by
  refine open_SS Ce.cells Ce.Ok Try.underlying33 cCell (by decide) (fun cs n y hcs hf => ?_) hv h
  obtain ⟨a0, a1, a2, a3, a4, a5, rfl⟩ := list6 hcs
  obtain ⟨xs, n', _, _, _, hl, hg⟩ := DataW.trod_struct Try.underlying49 hf
  have h0 := hg 0 _ rfl
  have h1 := hg 1 _ rfl
  have h2 := hg 2 _ rfl
  simp [cKey, cVal, cBool] at h0 h1 h2 hl
  obtain ⟨k, a, b, rfl, rfl, rfl⟩ := one_key h0 (some_at (by omega))
  obtain ⟨A, B, rfl, rfl, hA, hB⟩ := one_val h1 (some_at (by omega))
  obtain ⟨is, rfl⟩ := one_bool Try.underlying4 h2 (some_at (by omega))
  exact ⟨⟨k, a, b, A, B, is⟩, rfl, hA, hB⟩
end
end Go.Proofs.Ytneaehimdmachaa.Rule
