import Derived.Test.YtneaehimdmachaaRm3
namespace Go.Proofs.Ytneaehimdmachaa.Rule
open Go.ChangeShapes Go.WideShapes Go.ChangeAt Go.RowKit Go.IntWalk Go.Proofs.Mem Go.Proofs.Each
set_option linter.unusedVariables false
set_option linter.unusedSimpArgs false
set_option maxRecDepth 100000 in
set_option maxHeartbeats 8000000 in
theorem bid_other (w : World) (g : Nat) (q : Ot) (v : Value) (base i : Nat) (p : Value) (l : List Pu) (seen : List Ce) (hst : St w g q v base i p l) (hs : SeenAt w g v seen) (hg : g < base) (hbase : base ≤ w.heap.size) (hl : l.length ≤ 700) (hi : i ≤ 700000) (hq : q.Ok) (hok : ∀ c ∈ seen, c.Ok) (hc : ∀ c, seen[i]? = some c → hi32 c.A ≠ q.wh) (h1 : ∀ c, seen[i + 1]? = some c → ¬ q.n < c.vA) (h2 : ∀ c, seen[i + 1 + 1]? = some c → c.is = true) (h3 : ∀ c, seen[i + 1 + 1]? = some c → ¬ q.n ≤ c.vA) (h4 : ∀ c, seen[i + 1 + 1]? = some c → lo32 c.vB ≠ q.wh) :
    Calls Try.prog 48 #[.pointer (some ⟨g, 0, none⟩)] w (Did w g q v base i p l seen (oBid q) Rp.enc) := by
  have BEG := Lib.hid (Begin.mk hs hg hbase hq hok (fun x hx => hst.own.lt x hx))
  obtain ⟨W0, hW0⟩ : ∃ W0, w.alloc (.cells #[.int .u16 0, .int .u64 0, .int .u64 0, .int .u64 0] 41) = W0 := ⟨_, rfl⟩
  have SS : Hid (ST w g q v base p i p l [.box w.heap.size #[.int .u16 0, .int .u64 0, .int .u64 0, .int .u64 0] 41] W0) := Lib.hid (by rw [← hW0]; exact ST.start hst BEG.out _ _)
  have HI := Lib.hid hi
  have HQ := Lib.hid hq
  have HOK := Lib.hid hok
  have HL := Lib.hid hl
  have HC := Lib.hid hc
  have H1 := Lib.hid h1
  have H2 := Lib.hid h2
  have H3 := Lib.hid h3
  have H4 := Lib.hid h4
  obtain ⟨ce0, hce0⟩ := the_cell seen (i)
  have CE0 := Lib.hid hce0
  obtain ⟨ce1, hce1⟩ := the_cell seen (i + 1)
  have CE1 := Lib.hid hce1
  obtain ⟨ce2, hce2⟩ := the_cell seen (i + 1 + 1)
  have CE2 := Lib.hid hce2
  obtain ⟨ce3, hce3⟩ := the_cell seen (i + 1 + 1 + 1)
  have CE3 := Lib.hid hce3
  obtain ⟨ce4, hce4⟩ := the_cell seen (i + 1 + 1 + 1 + 1)
  have CE4 := Lib.hid hce4
  clear hst hs hg hbase hl hi hq hok hc h1 h2 h3 h4 hce0 hce1 hce2 hce3 hce4
  go_enter Try.func48, Try.ntmps48
  go_upto_region 1 with fail
  try rw [hW0]
  clear hW0
  refine wp_SK (D := DP w g q v base i p l seen (oBid q) Rp.enc) 9 10 11 (seen[i]? = some ce0 ∧ ce0.is = true) (i + 1) #[.int .u64 ce0.A, .int .u64 ce0.B, .int .u8 6, .int .u32 q.id, .int .u32 0, .bool true] [pw g 0, pw g 0, pw g 7, pw g 0, pw g 0, pw g 0, pw g 4, some (.int .u32 q.id, True), some (.agg #[.int .u8 6, .int .u32 q.id, .int .u32 0], True), some (.agg (thing ce0.A ce0.B 6 q.id 0 true), True), none, none] SS.out (fun vals => ?_) (fun vals W1 hB hfin hall => ?_) (ea 10 rfl)
  · simp only [ObD, Act.put, qA, qC, qZ]
    refine ⟨?_, ?_, ?_, ?_, ?_, ?_, ?_, ?_, ?o0_8, ?o0_9, ?o0_10, ?o0_11, trivial⟩
    all_goals (intro L W hL hk hC hw; have f := deps hw rfl rfl; simp only [depF, vsP, pw, qS, qD, and_true, true_and] at f)
    case o0_8 => have CL := Lib.hid (auction_any q.id W); clear hL hC hk hw; refine spD rfl ?_; go_simp; (with_reducible refine CL.out.mono ?_); rintro e w8 ⟨rfl, h2⟩; first | exact sq h2 rfl ⟨rfl, trivial⟩ | exact ⟨_, rfl, sq h2 rfl ⟨rfl, trivial⟩⟩
    case o0_9 =>
      have CL := Lib.hid (there_K SS.out (hC.pre hk) BEG.out (by have := HI.out; omega) CE0.out 6 q.id 0); clear hL hC hk hw; refine spD rfl ?_; go_simp; (with_reducible refine CL.out.mono ?_); rintro e w8 (⟨h, rfl, h2⟩ | ⟨h, h3, rfl, h2⟩ | ⟨rfl, hf, H⟩)
      · exact ⟨_, rfl, Did.miss (by unfold oBid; simp only [runOm_bind, run_there_no h]) h2⟩
      · exact ⟨_, rfl, Did.err (by unfold oBid; simp only [runOm_bind, run_there_not h h3]) h2⟩
      · first | exact kv hf H rfl ⟨rfl, trivial⟩ | exact ⟨_, rfl, kv hf H rfl ⟨rfl, trivial⟩⟩
    case o0_10 => have ZZ := hC.fr.size; clear hL hC hk hw; refine spD rfl ?_; go_simp; exact am ZZ
    case o0_11 => obtain ⟨gt, C, fa, hgt, bx0, hc⟩ := Fw.geta (hw ⟨10, .data⟩ (by simp) rfl) (by decide); obtain ⟨c0, c1, c2, c3, c4, c5, rfl⟩ := arr6 hc; have q := six_cells bx0; have BXX := Lib.hid bx0; have FA := Lib.hid fa; clear bx0 hc; unfold thing at f; clear hL hC hk hw; refine spD rfl ?_; go_simp; exact sm SS.out BEG.out BXX.out hgt FA.out
    all_goals (have c := kn7 hC; clear hL hC hk hw; refine spD rfl ?_; go_simp; first | exact sv rfl ⟨rfl, trivial⟩ | exact ⟨_, rfl, sv rfl ⟨rfl, trivial⟩⟩)
  have S0 := Lib.hid hB.1
  simp only [allF, vsP, pw, true_and, and_true, Nat.reduceAdd] at hall
  obtain ⟨gt0, fa, hgt, bx⟩ := hfin
  simp only [TL, Act.put, qA, qC, qZ, hall, fa]
  replace SS := Lib.hid (SS.out.push BEG.out hB.st SS.out.lt hgt bx)
  clear hall vals hB fa hgt bx
  have y0 : W1.cell? ⟨gt0, 0, none⟩ = some (.int .u64 ce0.A) := SS.out.bx.1.out.cell 0
  go_wp2_with fail
  (with_reducible refine (unpair_any ce0.A (A_ok HOK.out S0.out.1) _).mono ?_)
  rintro e W2 ⟨rfl, hbl⟩
  clear y0
  replace SS := Lib.hid (SS.out.later hbl)
  clear hbl
  have d1 : (hi32 ce0.A == q.wh) = false := by have := HC.out ce0 S0.out.1; simpa using this
  have y0 : W2.cell? ⟨g, 1, none⟩ = some (.int .u32 q.wh) := SS.out.kn.c1
  go_wp2_with fail
  (with_reducible refine (deny_no 213 _).mono ?_)
  rintro e W3 ⟨rfl, rfl⟩
  clear d1 y0
  go_upto_region 4 with fail
  refine wp_SK (D := DP w g q v base i p l seen (oBid q) Rp.enc) 9 10 11 (seen[i + 1]? = some ce1) (i + 1 + 1) #[.int .u64 ce1.vA, .int .u64 ce1.vB, .int .u8 7, .int .u32 q.id, .int .u32 1, .bool ce1.is] [pw g 0, pw g 0, pw g 7, pw g 0, pw g 0, pw g 0, pw g 4, some (.int .u32 q.id, True), some (.agg #[.int .u8 7, .int .u32 q.id, .int .u32 1], True), some (.agg (thing ce1.vA ce1.vB 7 q.id 1 ce1.is), True), none, none] SS.out (fun vals => ?_) (fun vals W4 hB hfin hall => ?_) (ea 10 rfl)
  · simp only [ObD, Act.put, qA, qC, qZ]
    refine ⟨?_, ?_, ?_, ?_, ?_, ?_, ?_, ?_, ?o3_8, ?o3_9, ?o3_10, ?o3_11, trivial⟩
    all_goals (intro L W hL hk hC hw; have f := deps hw rfl rfl; simp only [depF, vsP, pw, qS, qD, and_true, true_and] at f)
    case o3_8 => have CL := Lib.hid (price_any q.id W); clear hL hC hk hw; refine spD rfl ?_; go_simp; (with_reducible refine CL.out.mono ?_); rintro e w8 ⟨rfl, h2⟩; first | exact sq h2 rfl ⟨rfl, trivial⟩ | exact ⟨_, rfl, sq h2 rfl ⟨rfl, trivial⟩⟩
    case o3_9 =>
      have CL := Lib.hid (look_K SS.out (hC.pre hk) BEG.out (by have := HI.out; omega) CE1.out 7 q.id 1); clear hL hC hk hw; refine spD rfl ?_; go_simp; (with_reducible refine CL.out.mono ?_); rintro e w8 (⟨h, rfl, h2⟩ | ⟨h1, rfl, hf, H⟩)
      · exact ⟨_, rfl, Did.miss (by unfold oBid; simp only [runOm_bind, run_there S0.out.1 S0.out.2, decide_eq_false (HC.out ce0 S0.out.1), run_deny_no, run_look_no h]) h2⟩
      · first | exact kv hf H rfl ⟨rfl, trivial⟩ | exact ⟨_, rfl, kv hf H rfl ⟨rfl, trivial⟩⟩
    case o3_10 => have ZZ := hC.fr.size; clear hL hC hk hw; refine spD rfl ?_; go_simp; exact am ZZ
    case o3_11 => obtain ⟨gt, C, fa, hgt, bx0, hc⟩ := Fw.geta (hw ⟨10, .data⟩ (by simp) rfl) (by decide); obtain ⟨c0, c1, c2, c3, c4, c5, rfl⟩ := arr6 hc; have q := six_cells bx0; have BXX := Lib.hid bx0; have FA := Lib.hid fa; clear bx0 hc; unfold thing at f; clear hL hC hk hw; refine spD rfl ?_; go_simp; exact sm SS.out BEG.out BXX.out hgt FA.out
    all_goals (have c := kn7 hC; clear hL hC hk hw; refine spD rfl ?_; go_simp; first | exact sv rfl ⟨rfl, trivial⟩ | exact ⟨_, rfl, sv rfl ⟨rfl, trivial⟩⟩)
  have S1 := Lib.hid hB.1
  simp only [allF, vsP, pw, true_and, and_true, Nat.reduceAdd] at hall
  obtain ⟨gt1, fa, hgt, bx⟩ := hfin
  simp only [TL, Act.put, qA, qC, qZ, hall, fa]
  replace SS := Lib.hid (SS.out.push BEG.out hB.st SS.out.lt hgt bx)
  clear hall vals hB fa hgt bx
  go_upto_region 5 with fail
  refine wp_SK (D := DP w g q v base i p l seen (oBid q) Rp.enc) 9 10 11 (seen[i + 1 + 1]? = some ce2) (i + 1 + 1 + 1) #[.int .u64 ce2.vA, .int .u64 ce2.vB, .int .u8 7, .int .u32 q.id, .int .u32 0, .bool ce2.is] [pw g 0, pw g 0, pw g 7, pw g 0, pw g 0, pw g 0, pw g 4, some (.int .u32 q.id, True), some (.agg #[.int .u8 7, .int .u32 q.id, .int .u32 0], True), some (.agg (thing ce2.vA ce2.vB 7 q.id 0 ce2.is), True), none, none] SS.out (fun vals => ?_) (fun vals W5 hB hfin hall => ?_) (ea 10 rfl)
  · simp only [ObD, Act.put, qA, qC, qZ]
    refine ⟨?_, ?_, ?_, ?_, ?_, ?_, ?_, ?_, ?o4_8, ?o4_9, ?o4_10, ?o4_11, trivial⟩
    all_goals (intro L W hL hk hC hw; have f := deps hw rfl rfl; simp only [depF, vsP, pw, qS, qD, and_true, true_and] at f)
    case o4_8 => have CL := Lib.hid (bid_any q.id W); clear hL hC hk hw; refine spD rfl ?_; go_simp; (with_reducible refine CL.out.mono ?_); rintro e w8 ⟨rfl, h2⟩; first | exact sq h2 rfl ⟨rfl, trivial⟩ | exact ⟨_, rfl, sq h2 rfl ⟨rfl, trivial⟩⟩
    case o4_9 =>
      have CL := Lib.hid (look_K SS.out (hC.pre hk) BEG.out (by have := HI.out; omega) CE2.out 7 q.id 0); clear hL hC hk hw; refine spD rfl ?_; go_simp; (with_reducible refine CL.out.mono ?_); rintro e w8 (⟨h, rfl, h2⟩ | ⟨h1, rfl, hf, H⟩)
      · exact ⟨_, rfl, Did.miss (by unfold oBid; simp only [runOm_bind, run_there S0.out.1 S0.out.2, decide_eq_false (HC.out ce0 S0.out.1), run_deny_no, run_look S1.out, run_look_no h]) h2⟩
      · first | exact kv hf H rfl ⟨rfl, trivial⟩ | exact ⟨_, rfl, kv hf H rfl ⟨rfl, trivial⟩⟩
    case o4_10 => have ZZ := hC.fr.size; clear hL hC hk hw; refine spD rfl ?_; go_simp; exact am ZZ
    case o4_11 => obtain ⟨gt, C, fa, hgt, bx0, hc⟩ := Fw.geta (hw ⟨10, .data⟩ (by simp) rfl) (by decide); obtain ⟨c0, c1, c2, c3, c4, c5, rfl⟩ := arr6 hc; have q := six_cells bx0; have BXX := Lib.hid bx0; have FA := Lib.hid fa; clear bx0 hc; unfold thing at f; clear hL hC hk hw; refine spD rfl ?_; go_simp; exact sm SS.out BEG.out BXX.out hgt FA.out
    all_goals (have c := kn7 hC; clear hL hC hk hw; refine spD rfl ?_; go_simp; first | exact sv rfl ⟨rfl, trivial⟩ | exact ⟨_, rfl, sv rfl ⟨rfl, trivial⟩⟩)
  have S2 := Lib.hid hB.1
  simp only [allF, vsP, pw, true_and, and_true, Nat.reduceAdd] at hall
  obtain ⟨gt2, fa, hgt, bx⟩ := hfin
  simp only [TL, Act.put, qA, qC, qZ, hall, fa]
  replace SS := Lib.hid (SS.out.push BEG.out hB.st SS.out.lt hgt bx)
  clear hall vals hB fa hgt bx
  have I2 := Lib.hid (H2.out ce2 S2.out)
  have SX := SS.out
  rw [I2.out] at SX
  replace SS := Lib.hid SX
  clear SX
  go_upto_region 6 with fail
  have LT0 := Lib.hid ((decide_eq_false (show ¬ q.n < ce1.vA by have := H1.out ce1 S1.out; omega) : decide (q.n < ce1.vA) = false))
  have LT1 := Lib.hid ((decide_eq_false (show ¬ q.n ≤ ce2.vA by have := H3.out ce2 S2.out; omega) : decide (q.n ≤ ce2.vA) = false))
  refine wp_SA (D := DP w g q v base i p l seen (oBid q) Rp.enc) 24 25 26 True False (i + 1 + 1 + 1) l [pw g 0, pw g 0, pw g 0, pw g 5, some (.int .u64 q.n, True), some (.pointer (some ⟨gt1, 0, none⟩), True), some (.pointer (some ⟨gt1, 0, none⟩), True), some (.int .u64 ce1.vA, True), some (.bool false, True), some (.bool false, True), some (.pointer (some ⟨gt2, 5, none⟩), True), some (.bool true, True), some (.bool true, True), some (.pointer (some ⟨gt2, 0, none⟩), True), some (.pointer (some ⟨gt2, 0, none⟩), True), some (.int .u64 ce2.vA, True), pw g 0, pw g 0, pw g 0, pw g 5, some (.int .u64 q.n, True), some (.bool false, True), some (.bool false, True), some (.bool false, True), some (.tuple #[], True)] SS.out (fun vals => ?_) (fun vals W6 hB hall => ?_)
  · simp only [ObD, Act.put, qA, qC, qZ]
    refine ⟨?_, ?_, ?_, ?_, ?_, ?_, ?_, ?o5_7, ?o5_8, ?_, ?o5_10, ?o5_11, ?o5_12, ?o5_13, ?o5_14, ?o5_15, ?o5_16, ?o5_17, ?o5_18, ?o5_19, ?o5_20, ?o5_21, ?o5_22, ?o5_23, ?o5_24, trivial⟩
    all_goals (intro L W hL hk hC hw; have f := deps hw rfl rfl; simp only [depF, vsP, pw, qS, qD, and_true, true_and] at f)
    case' o5_7 => have k0 : W.cell? ⟨gt1, 0, none⟩ = some (.int .u64 ce1.vA) := (cw_bx hC).2.1.out.cell 0
    case' o5_8 => have lt0 := LT0.out; have lt1 := LT1.out
    case' o5_23 => have lt0 := LT0.out; have lt1 := LT1.out
    case o5_10 => have fg : vals 9 = .bool false := (Fw.get (f := vsP (some (.bool false, True))) (hw ⟨9, .guard⟩ (by simp) rfl) (by decide) (by decide) rfl).1; have c := kn7 hC; clear hL hC hk hw; refine step_guardD rfl (yielded_of rfl fg) ?_; go_simp; first | exact sv rfl ⟨rfl, trivial⟩ | exact ⟨_, rfl, sv rfl ⟨rfl, trivial⟩⟩
    case o5_11 => have fg : vals 9 = .bool false := (Fw.get (f := vsP (some (.bool false, True))) (hw ⟨9, .guard⟩ (by simp) rfl) (by decide) (by decide) rfl).1; have k5 : W.cell? ⟨gt2, 5, none⟩ = some (.bool true) := (cw_bx hC).1.out.cell 5; have c := kn7 hC; clear hL hC hk hw; refine step_guardD rfl (yielded_of rfl fg) ?_; go_simp; first | exact sv rfl ⟨rfl, trivial⟩ | exact ⟨_, rfl, sv rfl ⟨rfl, trivial⟩⟩
    case o5_12 => have fg : vals 9 = .bool false := (Fw.get (f := vsP (some (.bool false, True))) (hw ⟨9, .chain⟩ (by simp) rfl) (by decide) (by decide) rfl).1; have c := kn7 hC; clear hL hC hk hw; refine step_guardD rfl (yielded_of rfl fg) ?_; go_simp; first | exact sv rfl ⟨rfl, trivial⟩ | exact ⟨_, rfl, sv rfl ⟨rfl, trivial⟩⟩
    case o5_13 => have fg : vals 12 = .bool true := (Fw.get (f := vsP (some (.bool true, True))) (hw ⟨12, .guard⟩ (by simp) rfl) (by decide) (by decide) rfl).1; have c := kn7 hC; clear hL hC hk hw; refine step_guardD rfl (yielded_of rfl fg) ?_; go_simp; first | exact sv rfl ⟨rfl, trivial⟩ | exact ⟨_, rfl, sv rfl ⟨rfl, trivial⟩⟩
    case o5_14 => have fg : vals 12 = .bool true := (Fw.get (f := vsP (some (.bool true, True))) (hw ⟨12, .guard⟩ (by simp) rfl) (by decide) (by decide) rfl).1; have c := kn7 hC; clear hL hC hk hw; refine step_guardD rfl (yielded_of rfl fg) ?_; go_simp; first | exact sv rfl ⟨rfl, trivial⟩ | exact ⟨_, rfl, sv rfl ⟨rfl, trivial⟩⟩
    case o5_15 => have fg : vals 12 = .bool true := (Fw.get (f := vsP (some (.bool true, True))) (hw ⟨12, .guard⟩ (by simp) rfl) (by decide) (by decide) rfl).1; have k0 : W.cell? ⟨gt2, 0, none⟩ = some (.int .u64 ce2.vA) := (cw_bx hC).1.out.cell 0; have c := kn7 hC; clear hL hC hk hw; refine step_guardD rfl (yielded_of rfl fg) ?_; go_simp; first | exact sv rfl ⟨rfl, trivial⟩ | exact ⟨_, rfl, sv rfl ⟨rfl, trivial⟩⟩
    case o5_16 => have fg : vals 12 = .bool true := (Fw.get (f := vsP (some (.bool true, True))) (hw ⟨12, .guard⟩ (by simp) rfl) (by decide) (by decide) rfl).1; have c := kn7 hC; clear hL hC hk hw; refine step_guardD rfl (yielded_of rfl fg) ?_; go_simp; first | exact sv rfl ⟨rfl, trivial⟩ | exact ⟨_, rfl, sv rfl ⟨rfl, trivial⟩⟩
    case o5_17 => have fg : vals 12 = .bool true := (Fw.get (f := vsP (some (.bool true, True))) (hw ⟨12, .guard⟩ (by simp) rfl) (by decide) (by decide) rfl).1; have c := kn7 hC; clear hL hC hk hw; refine step_guardD rfl (yielded_of rfl fg) ?_; go_simp; first | exact sv rfl ⟨rfl, trivial⟩ | exact ⟨_, rfl, sv rfl ⟨rfl, trivial⟩⟩
    case o5_18 => have fg : vals 12 = .bool true := (Fw.get (f := vsP (some (.bool true, True))) (hw ⟨12, .guard⟩ (by simp) rfl) (by decide) (by decide) rfl).1; have c := kn7 hC; clear hL hC hk hw; refine step_guardD rfl (yielded_of rfl fg) ?_; go_simp; first | exact sv rfl ⟨rfl, trivial⟩ | exact ⟨_, rfl, sv rfl ⟨rfl, trivial⟩⟩
    case o5_19 => have fg : vals 12 = .bool true := (Fw.get (f := vsP (some (.bool true, True))) (hw ⟨12, .guard⟩ (by simp) rfl) (by decide) (by decide) rfl).1; have c := kn7 hC; clear hL hC hk hw; refine step_guardD rfl (yielded_of rfl fg) ?_; go_simp; first | exact sv rfl ⟨rfl, trivial⟩ | exact ⟨_, rfl, sv rfl ⟨rfl, trivial⟩⟩
    case o5_20 => have fg : vals 12 = .bool true := (Fw.get (f := vsP (some (.bool true, True))) (hw ⟨12, .guard⟩ (by simp) rfl) (by decide) (by decide) rfl).1; have c := kn7 hC; clear hL hC hk hw; refine step_guardD rfl (yielded_of rfl fg) ?_; go_simp; first | exact sv rfl ⟨rfl, trivial⟩ | exact ⟨_, rfl, sv rfl ⟨rfl, trivial⟩⟩
    case o5_21 => have fg : vals 12 = .bool true := (Fw.get (f := vsP (some (.bool true, True))) (hw ⟨12, .guard⟩ (by simp) rfl) (by decide) (by decide) rfl).1; have lt0 := LT0.out; have lt1 := LT1.out; have c := kn7 hC; clear hL hC hk hw; refine step_guardD rfl (yielded_of rfl fg) ?_; go_simp; first | exact sv rfl ⟨rfl, trivial⟩ | exact ⟨_, rfl, sv rfl ⟨rfl, trivial⟩⟩
    case o5_22 => have fg : vals 9 = .bool false := (Fw.get (f := vsP (some (.bool false, True))) (hw ⟨9, .guard⟩ (by simp) rfl) (by decide) (by decide) rfl).1; have lt0 := LT0.out; have lt1 := LT1.out; have c := kn7 hC; clear hL hC hk hw; refine step_guardD rfl (yielded_of rfl fg) ?_; go_simp; first | exact sv rfl ⟨rfl, trivial⟩ | exact ⟨_, rfl, sv rfl ⟨rfl, trivial⟩⟩
    case o5_24 => have AX := Lib.hid (hC.pre hk); clear hL hC hk hw; refine spD rfl ?_; go_simp; (with_reducible refine (deny_no 214 _).mono ?_); rintro e w8 ⟨rfl, rfl⟩; first | exact kv (Fr.refl _ _) AX.out.sb rfl ⟨rfl, trivial⟩ | exact ⟨_, rfl, kv (Fr.refl _ _) AX.out.sb rfl ⟨rfl, trivial⟩⟩
    all_goals (have c := kn7 hC; clear hL hC hk hw; refine spD rfl ?_; go_simp; first | exact sv rfl ⟨rfl, trivial⟩ | exact ⟨_, rfl, sv rfl ⟨rfl, trivial⟩⟩)
  simp only [allF, vsP, pw, true_and, and_true, Nat.reduceAdd] at hall
  simp only [TL, Act.put, qA, qC, qZ, hall]
  replace SS := Lib.hid hB.st
  clear hall vals hB LT0 LT1
  go_upto_region 7 with fail
  refine wp_SG0 (D := DP w g q v base i p l seen (oBid q) Rp.enc) 9 12 10 11 (seen[i + 1 + 1 + 1]? = some ce3 ∧ ce3.is = true) (i + 1 + 1 + 1 + 1) #[.int .u64 ce3.A, .int .u64 ce3.B, .int .u8 1, .int .u32 q.wh, .int .u32 0, .bool true] [pw g 0, pw g 0, pw g 7, pw g 0, pw g 0, pw g 0, pw g 1, some (.int .u32 q.wh, True), some (.agg #[.int .u8 1, .int .u32 q.wh, .int .u32 0], True), some (.agg (thing ce3.A ce3.B 1 q.wh 0 true), True), none, none] SS.out BEG.out (fun vals => ?_) (fun vals W7 hB hfin htold hall => ?_) (ea 10 rfl)
  · simp only [ObD, Act.put, qA, qC, qZ]
    refine ⟨?_, ?_, ?_, ?_, ?_, ?_, ?_, ?_, ?o6_8, ?o6_9, ?o6_10, ?o6_11, trivial⟩
    all_goals (intro L W hL hk hC hw; have f := depsG hw rfl rfl rfl; simp only [depF, vsP, pw, qS, qD, and_true, true_and] at f)
    case o6_8 => have CL := Lib.hid (purse_any q.wh W); clear hL hC hk hw; refine spD rfl ?_; go_simp; (with_reducible refine CL.out.mono ?_); rintro e w8 ⟨rfl, h2⟩; first | exact gq h2 rfl ⟨rfl, trivial⟩ | exact ⟨_, rfl, gq h2 rfl ⟨rfl, trivial⟩⟩
    case o6_9 =>
      have CL := Lib.hid (there_KG (hC.pre hk) BEG.out (by have := HI.out; omega) CE3.out 1 q.wh 0); clear hL hC hk hw; refine spD rfl ?_; go_simp; (with_reducible refine CL.out.mono ?_); rintro e w8 (⟨h, rfl, h2⟩ | ⟨h, h3, rfl, h2⟩ | ⟨rfl, hf, H⟩)
      · exact ⟨_, rfl, Did.miss (by unfold oBid; simp only [runOm_bind, run_there S0.out.1 S0.out.2, decide_eq_false (HC.out ce0 S0.out.1), run_deny_no, run_look S1.out, run_look S2.out, decide_eq_false (show ¬ q.n < ce1.vA by have := H1.out ce1 S1.out; omega), I2.out, decide_eq_false (show ¬ q.n ≤ ce2.vA by have := H3.out ce2 S2.out; omega), Bool.true_and, Bool.or_self, run_deny_no, run_there_no h]) h2⟩
      · exact ⟨_, rfl, Did.err (by unfold oBid; simp only [runOm_bind, run_there S0.out.1 S0.out.2, decide_eq_false (HC.out ce0 S0.out.1), run_deny_no, run_look S1.out, run_look S2.out, decide_eq_false (show ¬ q.n < ce1.vA by have := H1.out ce1 S1.out; omega), I2.out, decide_eq_false (show ¬ q.n ≤ ce2.vA by have := H3.out ce2 S2.out; omega), Bool.true_and, Bool.or_self, run_deny_no, run_there_not h h3]) h2⟩
      · first | exact gk hf H rfl ⟨rfl, trivial⟩ | exact ⟨_, rfl, gk hf H rfl ⟨rfl, trivial⟩⟩
    case o6_10 => have ZZ := hC.fr.size; unfold thing at f; clear hL hC hk hw; refine spD rfl ?_; go_simp; first | exact gm0 ZZ | exact ⟨_, rfl, gm0 ZZ⟩
    case o6_11 => clear hL hC hk hw; refine spD rfl ?_; go_simp; first | exact gt_ | exact ⟨_, rfl, gt_⟩
    all_goals (have c := kg7 hC; clear hL hC hk hw; refine spD rfl ?_; go_simp; first | exact gv rfl ⟨rfl, trivial⟩ | exact ⟨_, rfl, gv rfl ⟨rfl, trivial⟩⟩)
  have S3 := Lib.hid hB.1
  simp only [allF, vsP, pw, true_and, and_true, Nat.reduceAdd] at hall
  obtain ⟨gl, fs, hor, bx⟩ := hfin
  rw [fs] at htold
  simp only [TL, Act.put, qA, qC, qZ, hall, htold, fs]
  replace SS := Lib.hid (SS.out.pushP BEG.out hB.st SS.out.lt hor (Pile.of_box (n := 1) bx rfl (by decide)))
  clear hall vals hB htold fs hor bx
  have y0 : W7.cell? ⟨gt2, 5, none⟩ = some (.bool true) := SS.out.bx.2.1.out.cell 5
  go_upto_region 10 with fail
  clear y0
  have y0 : W7.cell? ⟨g, 1, none⟩ = some (.int .u32 q.wh) := SS.out.kn.c1
  have y1 : W7.cell? ⟨gt2, 1, none⟩ = some (.int .u64 ce2.vB) := SS.out.bx.2.1.out.cell 1
  have cw : IntKind.u32.wrap ce2.vB = lo32 ce2.vB := wrap_u32 _
  have d1 : (lo32 ce2.vB == q.wh) = false := by have := H4.out ce2 S2.out; simpa using this
  have d2 : (lo32 ce2.vB != q.wh) = true := by have := H4.out ce2 S2.out; simpa using this
  go_quiet (fail)
  have hbl : Below W7.heap.size W7 (W7.drewN nq) := below_drewN (Below.refl _ _) nq
  generalize W7.drewN nq = W8 at hbl ⊢
  clear cw d1 d2 y0 y1
  replace SS := Lib.hid (SS.out.later hbl)
  clear hbl
  go_upto_region 12 with fail
  refine wp_SGO (D := DP w g q v base i p l seen (oBid q) Rp.enc) 9 10 11 12 2 (SB (seen[i + 1 + 1 + 1 + 1]? = some ce4) False w g q v base p (i + 1 + 1 + 1 + 1 + 1) p l [.box gt2 #[.int .u64 ce2.vA, .int .u64 ce2.vB, .int .u8 7, .int .u32 q.id, .int .u32 0, .bool true] 69, .box gt1 #[.int .u64 ce1.vA, .int .u64 ce1.vB, .int .u8 7, .int .u32 q.id, .int .u32 1, .bool ce1.is] 69, .box gt0 #[.int .u64 ce0.A, .int .u64 ce0.B, .int .u8 6, .int .u32 q.id, .int .u32 0, .bool true] 69, .box w.heap.size #[.int .u16 0, .int .u64 0, .int .u64 0, .int .u64 0] 41]) #[.int .u64 ce4.vA, .int .u64 ce4.vB, .int .u8 1, .int .u32 (lo32 ce2.vB), .int .u32 0, .bool ce4.is] #[.int .u64 ce3.A, .int .u64 ce3.B, .int .u8 1, .int .u32 q.wh, .int .u32 0, .bool true, .int .u64 ce4.vA, .int .u64 ce4.vB, .int .u8 1, .int .u32 (lo32 ce2.vB), .int .u32 0, .bool ce4.is] [some (.slice (some ⟨gl, 0, none⟩) 1 1, True), pw g 0, pw g 0, pw g 7, some (.pointer (some ⟨gt2, 0, none⟩), True), some (.pointer (some ⟨gt2, 1, none⟩), True), some (.int .u64 ce2.vB, True), some (.int .u32 (lo32 ce2.vB), True), some (.agg #[.int .u8 1, .int .u32 (lo32 ce2.vB), .int .u32 0], True), some (.agg (thing ce4.vA ce4.vB 1 (lo32 ce2.vB) 0 ce4.is), True), none, none, none] 0 SS.out BEG.out rfl rfl (fun vals => ?_) (fun vals W9 hB hfin htold hall => ?_) (ea 10 rfl) (ea 11 rfl)
  · simp only [ObD, Act.put, qA, qC, qZ]
    refine ⟨?_, ?_, ?_, ?_, ?_, ?_, ?o8_6, ?o8_7, ?o8_8, ?o8_9, ?o8_10, ?o8_11, ?o8_12, trivial⟩
    all_goals (intro L W hL hk hC hw; have f := depsG hw rfl rfl rfl; simp only [depF, vsP, pw, qS, qD, and_true, true_and] at f)
    case' o8_6 => have k1 : W.cell? ⟨gt2, 1, none⟩ = some (.int .u64 ce2.vB) := (cg_bx hC).1.out.cell 1
    case' o8_7 => have hcv : IntKind.u32.wrap ce2.vB = (lo32 ce2.vB) := rfl
    case o8_8 => have CL := Lib.hid (purse_any (lo32 ce2.vB) W); clear hL hC hk hw; refine spD rfl ?_; go_simp; (with_reducible refine CL.out.mono ?_); rintro e w8 ⟨rfl, h2⟩; first | exact gq h2 rfl ⟨rfl, trivial⟩ | exact ⟨_, rfl, gq h2 rfl ⟨rfl, trivial⟩⟩
    case o8_9 =>
      have CL := Lib.hid (look_KG (hC.pre hk) BEG.out (by have := HI.out; omega) CE4.out 1 (lo32 ce2.vB) 0); clear hL hC hk hw; refine spD rfl ?_; go_simp; (with_reducible refine CL.out.mono ?_); rintro e w8 (⟨h, rfl, h2⟩ | ⟨h1, rfl, hf, H⟩)
      · exact ⟨_, rfl, Did.miss (by unfold oBid; simp only [runOm_bind, run_there S0.out.1 S0.out.2, decide_eq_false (HC.out ce0 S0.out.1), run_deny_no, run_look S1.out, run_look S2.out, decide_eq_false (show ¬ q.n < ce1.vA by have := H1.out ce1 S1.out; omega), I2.out, decide_eq_false (show ¬ q.n ≤ ce2.vA by have := H3.out ce2 S2.out; omega), Bool.true_and, Bool.or_self, run_deny_no, run_there S3.out.1 S3.out.2, if_true, if_pos (H4.out ce2 S2.out), run_look_no h]) h2⟩
      · first | exact gk hf H rfl ⟨rfl, trivial⟩ | exact ⟨_, rfl, gk hf H rfl ⟨rfl, trivial⟩⟩
    case o8_10 => have ZZ := hC.fr.size; unfold thing at f; clear hL hC hk hw; refine spD rfl ?_; go_simp; first | exact gm1 ZZ | exact ⟨_, rfl, gm1 ZZ⟩
    case o8_11 =>
      have GZ := hC.fr.size; have fm : vals 0 = .slice (some ⟨gl, 0, none⟩) 1 1 := (Fg.get (f := vsP (some (.slice (some ⟨gl, 0, none⟩) 1 1, True))) (hw ⟨0, .data⟩ (by simp) rfl) (by decide) (by decide) (by decide) rfl).1; obtain ⟨gb, fa, hgb, bxb⟩ := Fg.geta (hw ⟨10, .data⟩ (by simp) rfl) (by decide) (by decide); have FA := Lib.hid fa; have BXB := Lib.hid bxb; obtain ⟨i0, hi0, hz0, hz1, hz2⟩ := info_parts thing_info; have GR := Lib.hid (hC.row hk)
      clear hL hC hk hw
      refine step_append_lies _ (by rfl) _ _ _ (by rfl) gl 69 i0 _ 6 32 Try.underlying80 hi0 hz0 hz1 hz2 rfl (by omega) (.slice (some ⟨gl, 0, none⟩) 1 1) 1 _ (Eq.trans (by rfl) fm) GR.out ⟨gb, 0, none⟩ 1 1 [.int .u64 ce4.vA, .int .u64 ce4.vB, .int .u8 1, .int .u32 (lo32 ce2.vB), .int .u32 0, .bool ce4.is] (Eq.trans (by rfl) FA.out) rfl (World.news_of_block (cs := #[.int .u64 ce4.vA, .int .u64 ce4.vB, .int .u8 1, .int .u32 (lo32 ce2.vB), .int .u32 0, .bool ce4.is]) (t := 69) (fr := (0, 0)) BXB.out) (by simp [Value.oneCell']) (by omega) (by unfold maxLen; omega) (by omega) (Nat.le_of_lt GR.out.lt) W.heap.size rfl ?_
      intro gg cc WQ hown1 hgrow hat hlt1
      exact ⟨_, rfl, ga SS.out BEG.out (n := 0) rfl rfl GR.out GZ (by simpa using hown1) hgrow hat⟩
    case o8_12 => clear hL hC hk hw; refine spD rfl ?_; go_simp; first | exact gt_ | exact ⟨_, rfl, gt_⟩
    all_goals (have c := kg7 hC; clear hL hC hk hw; refine spD rfl ?_; go_simp; first | exact gv rfl ⟨rfl, trivial⟩ | exact ⟨_, rfl, gv rfl ⟨rfl, trivial⟩⟩)
  have S4 := Lib.hid hB.1
  simp only [allF, vsP, pw, true_and, and_true, Nat.reduceAdd] at hall
  obtain ⟨gm, cap_gm, fs, hor, bx⟩ := hfin
  rw [fs] at htold
  simp only [TL, Act.put, qA, qC, qZ, hall, htold, fs]
  generalize vals 10 = vz8
  replace SS := Lib.hid (SS.out.regrow BEG.out 0 rfl rfl hB.st hor bx)
  clear hall vals hB htold fs hor bx
  go_upto_region 13 with fail
  refine wp_S (D := DP w g q v base i p l seen (oBid q) Rp.enc) 15 16 17 (SB True False w g q v base p (i + 1 + 1 + 1 + 1 + 1) p l [.pile gm 2 cap_gm #[.int .u64 ce3.A, .int .u64 ce3.B, .int .u8 1, .int .u32 q.wh, .int .u32 0, .bool true, .int .u64 (ce4.vA + ce2.vA), .int .u64 ce4.vB, .int .u8 1, .int .u32 (lo32 ce2.vB), .int .u32 0, .bool ce4.is], .box gt2 #[.int .u64 ce2.vA, .int .u64 ce2.vB, .int .u8 7, .int .u32 q.id, .int .u32 0, .bool true] 69, .box gt1 #[.int .u64 ce1.vA, .int .u64 ce1.vB, .int .u8 7, .int .u32 q.id, .int .u32 1, .bool ce1.is] 69, .box gt0 #[.int .u64 ce0.A, .int .u64 ce0.B, .int .u8 6, .int .u32 q.id, .int .u32 0, .bool true] 69, .box w.heap.size #[.int .u16 0, .int .u64 0, .int .u64 0, .int .u64 0] 41]) [some (.slice (some ⟨gm, 0, none⟩) 2 cap_gm, True), some (.int .i64 1, True), some (.slice (some ⟨gm, 0, none⟩) 2 cap_gm, True), some (.int .i64 1, True), some (.pointer (some ⟨gm, 6, none⟩), True), some (.pointer (some ⟨gm, 6, none⟩), True), some (.pointer (some ⟨gm, 6, none⟩), True), some (.int .u64 ce4.vA, True), some (.pointer (some ⟨gt2, 0, none⟩), True), some (.pointer (some ⟨gt2, 0, none⟩), True), some (.int .u64 ce2.vA, True), some (.int .u64 (ce4.vA + ce2.vA), Mr ce4.vA ce2.vA), some (.pointer (some ⟨gm, 6, none⟩), True), some (.pointer (some ⟨gm, 6, none⟩), True), some (.pointer (some ⟨gm, 6, none⟩), True), some (undef, True)] SS.out (fun vals => ?_) (fun vals W10 hB hall => ?_)
  · simp only [ObD, Act.put, qA, qC, qZ]
    refine ⟨?_, ?_, ?_, ?_, ?_, ?_, ?_, ?o9_7, ?_, ?_, ?o9_10, ?o9_11, ?_, ?_, ?_, ?o9_15, trivial⟩
    all_goals (intro L W hL hk hC hw; have f := deps hw rfl rfl; simp only [depF, vsP, pw, qS, qD, and_true, true_and] at f)
    case' o9_7 => have k6 : W.cell? ⟨gm, 6, none⟩ = some (.int .u64 ce4.vA) := (hC.pre (hL.not_yet hk 15 16 (by decide +kernel))).bx.1.out.cell 6
    case' o9_10 => have k0 : W.cell? ⟨gt2, 0, none⟩ = some (.int .u64 ce2.vA) := (hC.pre (hL.not_yet hk 15 16 (by decide +kernel))).bx.2.1.out.cell 0
    case o9_11 =>
      have CL := Lib.hid (more_C (vA_ok HOK.out S4.out) (vA_ok HOK.out S2.out) hC SS.out BEG.out); clear hL hC hk hw; refine spD rfl ?_; go_simp; (with_reducible refine CL.out.mono ?_)
      rintro e w8 (⟨h, rfl, h2⟩ | ⟨h1, rfl, h2⟩)
      · exact ⟨_, rfl, Did.err (by unfold oBid; simp only [runOm_bind, run_there S0.out.1 S0.out.2, decide_eq_false (HC.out ce0 S0.out.1), run_deny_no, run_look S1.out, run_look S2.out, decide_eq_false (show ¬ q.n < ce1.vA by have := H1.out ce1 S1.out; omega), I2.out, decide_eq_false (show ¬ q.n ≤ ce2.vA by have := H3.out ce2 S2.out; omega), Bool.true_and, Bool.or_self, run_deny_no, run_there S3.out.1 S3.out.2, if_true, if_pos (H4.out ce2 S2.out), run_look S4.out, run_more_no h]) h2⟩
      · first | exact sq h2 rfl ⟨rfl, h1⟩ | exact ⟨_, rfl, sq h2 rfl ⟨rfl, h1⟩⟩
    case o9_15 => have PRE := hC.pre hk; have q0 : W.cell? ⟨gm, 6, none⟩ = some (.int .u64 ce4.vA) := PRE.bx.1.out.cell 6; have r0 := PRE.bx.1.out.frozen 6; have P := Lib.hid PRE; clear PRE; clear hL hC hk hw; refine spD rfl ?_; go_simp; exact ks (ksP SS.out P.out BEG.out 0 rfl) rfl ⟨rfl, trivial⟩
    all_goals (have c := kn7 hC; clear hL hC hk hw; refine spD rfl ?_; go_simp; first | exact sv rfl ⟨rfl, trivial⟩ | exact ⟨_, rfl, sv rfl ⟨rfl, trivial⟩⟩)
  have C10 : Hid (Mr ce4.vA ce2.vA) := Lib.hid (vsP_c (hall.get 11))
  simp only [allF, vsP, pw, true_and, and_true, Nat.reduceAdd] at hall
  simp only [TL, Act.put, qA, qC, qZ, hall]
  replace SS := Lib.hid hB.st
  clear hall vals hB
  go_upto_region 14 with fail
  refine wp_S (D := DP w g q v base i p l seen (oBid q) Rp.enc) 15 16 17 (SB True False w g q v base p (i + 1 + 1 + 1 + 1 + 1) p l [.pile gm 2 cap_gm #[.int .u64 (ce3.A - q.n), .int .u64 ce3.B, .int .u8 1, .int .u32 q.wh, .int .u32 0, .bool true, .int .u64 (ce4.vA + ce2.vA), .int .u64 ce4.vB, .int .u8 1, .int .u32 (lo32 ce2.vB), .int .u32 0, .bool ce4.is], .box gt2 #[.int .u64 ce2.vA, .int .u64 ce2.vB, .int .u8 7, .int .u32 q.id, .int .u32 0, .bool true] 69, .box gt1 #[.int .u64 ce1.vA, .int .u64 ce1.vB, .int .u8 7, .int .u32 q.id, .int .u32 1, .bool ce1.is] 69, .box gt0 #[.int .u64 ce0.A, .int .u64 ce0.B, .int .u8 6, .int .u32 q.id, .int .u32 0, .bool true] 69, .box w.heap.size #[.int .u16 0, .int .u64 0, .int .u64 0, .int .u64 0] 41]) [some (.slice (some ⟨gm, 0, none⟩) 2 cap_gm, True), some (.slice (some ⟨gm, 0, none⟩) 2 cap_gm, True), some (.pointer (some ⟨gm, 0, none⟩), True), some (.pointer (some ⟨gm, 0, none⟩), True), some (.pointer (some ⟨gm, 0, none⟩), True), some (.int .u64 ce3.A, True), pw g 0, pw g 0, pw g 0, pw g 5, some (.int .u64 q.n, True), some (.int .u64 (ce3.A - q.n), Ls ce3.A q.n), some (.pointer (some ⟨gm, 0, none⟩), True), some (.pointer (some ⟨gm, 0, none⟩), True), some (.pointer (some ⟨gm, 0, none⟩), True), some (undef, True)] SS.out (fun vals => ?_) (fun vals W11 hB hall => ?_)
  · simp only [ObD, Act.put, qA, qC, qZ]
    refine ⟨?_, ?_, ?_, ?_, ?_, ?o10_5, ?_, ?_, ?_, ?_, ?_, ?o10_11, ?_, ?_, ?_, ?o10_15, trivial⟩
    all_goals (intro L W hL hk hC hw; have f := deps hw rfl rfl; simp only [depF, vsP, pw, qS, qD, and_true, true_and] at f)
    case' o10_5 => have k0 : W.cell? ⟨gm, 0, none⟩ = some (.int .u64 ce3.A) := (hC.pre (hL.not_yet hk 15 16 (by decide +kernel))).bx.1.out.cell 0
    case o10_11 =>
      have CL := Lib.hid (less_C (A_ok HOK.out S3.out.1) HQ.out.n hC SS.out BEG.out); clear hL hC hk hw; refine spD rfl ?_; go_simp; (with_reducible refine CL.out.mono ?_)
      rintro e w8 (⟨h, rfl, h2⟩ | ⟨⟨h, h3⟩, rfl, h2⟩ | ⟨h1, rfl, h2⟩)
      · exact ⟨_, rfl, Did.err (by unfold oBid; simp only [runOm_bind, run_there S0.out.1 S0.out.2, decide_eq_false (HC.out ce0 S0.out.1), run_deny_no, run_look S1.out, run_look S2.out, decide_eq_false (show ¬ q.n < ce1.vA by have := H1.out ce1 S1.out; omega), I2.out, decide_eq_false (show ¬ q.n ≤ ce2.vA by have := H3.out ce2 S2.out; omega), Bool.true_and, Bool.or_self, run_deny_no, run_there S3.out.1 S3.out.2, if_true, if_pos (H4.out ce2 S2.out), run_look S4.out, run_more C10.out, run_less_great h]) h2⟩
      · exact ⟨_, rfl, Did.err (by unfold oBid; simp only [runOm_bind, run_there S0.out.1 S0.out.2, decide_eq_false (HC.out ce0 S0.out.1), run_deny_no, run_look S1.out, run_look S2.out, decide_eq_false (show ¬ q.n < ce1.vA by have := H1.out ce1 S1.out; omega), I2.out, decide_eq_false (show ¬ q.n ≤ ce2.vA by have := H3.out ce2 S2.out; omega), Bool.true_and, Bool.or_self, run_deny_no, run_there S3.out.1 S3.out.2, if_true, if_pos (H4.out ce2 S2.out), run_look S4.out, run_more C10.out, run_less_low h h3]) h2⟩
      · first | exact sq h2 rfl ⟨rfl, h1⟩ | exact ⟨_, rfl, sq h2 rfl ⟨rfl, h1⟩⟩
    case o10_15 => have PRE := hC.pre hk; have q0 : W.cell? ⟨gm, 0, none⟩ = some (.int .u64 ce3.A) := PRE.bx.1.out.cell 0; have r0 := PRE.bx.1.out.frozen 0; have P := Lib.hid PRE; clear PRE; clear hL hC hk hw; refine spD rfl ?_; go_simp; exact ks (ksP SS.out P.out BEG.out 0 rfl) rfl ⟨rfl, trivial⟩
    all_goals (have c := kn7 hC; clear hL hC hk hw; refine spD rfl ?_; go_simp; first | exact sv rfl ⟨rfl, trivial⟩ | exact ⟨_, rfl, sv rfl ⟨rfl, trivial⟩⟩)
  have C11 : Hid (Ls ce3.A q.n) := Lib.hid (vsP_c (hall.get 11))
  simp only [allF, vsP, pw, true_and, and_true, Nat.reduceAdd] at hall
  simp only [TL, Act.put, qA, qC, qZ, hall]
  replace SS := Lib.hid hB.st
  clear hall vals hB
  go_wp2
  refine wp_loop_rounds 3 ?_
  obtain ⟨y0, y1, y2, y3, y4, y5⟩ := pile6 SS.out.bx.1.out 0 1 2 3 4 5 rfl rfl rfl rfl rfl rfl
  rw [rounds_succ]
  obtain ⟨W12, hWn⟩ : ∃ W12, W11.alloc (.cells #[.int .u64 (ce3.A - q.n), .int .u64 ce3.B, .int .u8 1, .int .u32 q.wh, .int .u32 0, .bool true] 69) = W12 := ⟨_, rfl⟩
  obtain ⟨gq0, hgn⟩ : ∃ gq0, W11.heap.size = gq0 := ⟨_, rfl⟩
  have TT := SS.out.alloc BEG.out #[.int .u64 (ce3.A - q.n), .int .u64 ce3.B, .int .u8 1, .int .u32 q.wh, .int .u32 0, .bool true] 69
  rw [hgn, hWn] at TT
  replace TT := Lib.hid TT
  have HWN := Lib.hid hWn
  have HGN := Lib.hid hgn
  clear hWn hgn
  go_wp2_with fail
  clear y0 y1 y2 y3 y4 y5
  try rw [HWN.out]
  try rw [HGN.out]
  clear HWN HGN SS
  have SS := TT
  clear TT
  have CALL := Lib.hid (amount_S SS.out BEG.out (by have := HL.out; (try simp only [List.length_append, List.length_cons, List.length_nil]); omega) 1 q.wh 0 (ce3.A - q.n) (show _ = l ++ [amt 1 q.wh 0 (ce3.A - q.n)] by simp))
  (with_reducible refine CALL.out.mono ?_)
  rintro e W13 ⟨rfl, hf, p13, hs⟩
  replace SS := Lib.hid hs
  clear CALL hf hs
  go_wp2
  replace SS := Lib.hid SS.out.drop
  obtain ⟨y0, y1, y2, y3, y4, y5⟩ := pile6 SS.out.bx.1.out 6 7 8 9 10 11 rfl rfl rfl rfl rfl rfl
  rw [rounds_succ]
  obtain ⟨W14, hWn⟩ : ∃ W14, W13.alloc (.cells #[.int .u64 (ce4.vA + ce2.vA), .int .u64 ce4.vB, .int .u8 1, .int .u32 (lo32 ce2.vB), .int .u32 0, .bool ce4.is] 69) = W14 := ⟨_, rfl⟩
  obtain ⟨gq1, hgn⟩ : ∃ gq1, W13.heap.size = gq1 := ⟨_, rfl⟩
  have TT := SS.out.alloc BEG.out #[.int .u64 (ce4.vA + ce2.vA), .int .u64 ce4.vB, .int .u8 1, .int .u32 (lo32 ce2.vB), .int .u32 0, .bool ce4.is] 69
  rw [hgn, hWn] at TT
  replace TT := Lib.hid TT
  have HWN := Lib.hid hWn
  have HGN := Lib.hid hgn
  clear hWn hgn
  go_wp2_with fail
  clear y0 y1 y2 y3 y4 y5
  try rw [HWN.out]
  try rw [HGN.out]
  clear HWN HGN SS
  have SS := TT
  clear TT
  have CALL := Lib.hid (amount_S SS.out BEG.out (by have := HL.out; (try simp only [List.length_append, List.length_cons, List.length_nil]); omega) 1 (lo32 ce2.vB) 0 (ce4.vA + ce2.vA) (show _ = l ++ [amt 1 q.wh 0 (ce3.A - q.n), amt 1 (lo32 ce2.vB) 0 (ce4.vA + ce2.vA)] by simp))
  (with_reducible refine CALL.out.mono ?_)
  rintro e W15 ⟨rfl, hf, p15, hs⟩
  replace SS := Lib.hid hs
  clear CALL hf hs
  go_wp2
  replace SS := Lib.hid SS.out.drop
  rw [rounds_succ]
  go_upto_region 20 with fail
  refine wp_SA (D := DP w g q v base i p l seen (oBid q) Rp.enc) 15 16 17 True True (i + 1 + 1 + 1 + 1 + 1) (l ++ [amt 1 q.wh 0 (ce3.A - q.n), amt 1 (lo32 ce2.vB) 0 (ce4.vA + ce2.vA), Pu.mk 7 q.id 0 q.n q.wh false]) [pw g 0, some (.pointer (some ⟨gt2, 2, none⟩), True), some (.agg #[.int .u8 7, .int .u32 q.id, .int .u32 0], True), pw g 0, pw g 0, pw g 0, pw g 5, some (.int .u64 q.n, True), pw g 0, pw g 0, pw g 0, pw g 1, some (.int .u32 q.wh, True), some (.int .u64 q.wh, True), some (.agg #[.int .u64 q.n, .int .u64 q.wh], True), some (.tuple #[], True)] SS.out (fun vals => ?_) (fun vals W16 hB hall => ?_)
  · simp only [ObD, Act.put, qA, qC, qZ]
    refine ⟨?_, ?_, ?o15_2, ?_, ?_, ?_, ?_, ?_, ?_, ?_, ?_, ?_, ?_, ?o15_13, ?_, ?o15_15, trivial⟩
    all_goals (intro L W hL hk hC hw; have f := deps hw rfl rfl; simp only [depF, vsP, pw, qS, qD, and_true, true_and] at f)
    case' o15_2 => have k2 : W.cell? ⟨gt2, 2, none⟩ = some (.int .u8 7) := (cw_bx hC).2.1.out.cell 2; have k3 : W.cell? ⟨gt2, 3, none⟩ = some (.int .u32 q.id) := (cw_bx hC).2.1.out.cell 3; have k4 : W.cell? ⟨gt2, 4, none⟩ = some (.int .u32 0) := (cw_bx hC).2.1.out.cell 4
    case' o15_13 => have hcv : IntKind.u64.wrap q.wh = q.wh := wrap_u64 (HQ.out.wh).1 (by have := (HQ.out.wh).2; omega)
    case o15_15 => have CL := Lib.hid (pk SS.out BEG.out (put_S (hC.pre hk) BEG.out (by have := HL.out; (try simp only [List.length_append, List.length_cons, List.length_nil]); omega) 7 q.id 0 q.n q.wh (show _ = l ++ [amt 1 q.wh 0 (ce3.A - q.n), amt 1 (lo32 ce2.vB) 0 (ce4.vA + ce2.vA), Pu.mk 7 q.id 0 q.n q.wh false] by simp))); clear hL hC hk hw; refine spD rfl ?_; go_simp; (with_reducible refine CL.out.mono ?_); rintro e w8 ⟨rfl, hf, H⟩; first | exact kv hf H rfl ⟨rfl, trivial⟩ | exact ⟨_, rfl, kv hf H rfl ⟨rfl, trivial⟩⟩
    all_goals (have c := kn7 hC; clear hL hC hk hw; refine spD rfl ?_; go_simp; first | exact sv rfl ⟨rfl, trivial⟩ | exact ⟨_, rfl, sv rfl ⟨rfl, trivial⟩⟩)
  simp only [allF, vsP, pw, true_and, and_true, Nat.reduceAdd] at hall
  simp only [TL, Act.put, qA, qC, qZ, hall]
  obtain ⟨p16, hB⟩ := hB.put
  replace SS := Lib.hid hB
  clear hall vals hB
  have y0 : W16.cell? ⟨g, 5, none⟩ = some (.int .u64 q.n) := SS.out.kn.c5
  obtain ⟨⟨z0, z1, z2, z3⟩, x0, x1, x2, x3⟩ := four_cells SS.out.bx.2.2.2.2.1.out
  go_wp2
  generalize hW : (World.setCell _ (⟨w.heap.size, 3, none⟩ : Addr) _) = WZ
  have b9 : Box WZ w.heap.size #[.int .u16 0, .int .u64 q.n, .int .u64 0, .int .u64 0] 41 := by
    rw [← hW]
    exact four_box SS.out.bx.2.2.2.2.1.out
  have F9 : Hid (Fr (fun x => x = w.heap.size) W16 WZ) := Lib.hid (by
    rw [← hW]
    exact four_fr)
  obtain ⟨⟨v0, v1, v2, v3⟩, -⟩ := four_cells b9
  clear hW b9 z0 z1 z2 z3 x0 x1 x2 x3 y0
  refine bodyPost_ret (v := .agg #[.int .u16 0, .int .u64 q.n, .int .u64 0, .int .u64 0]) (by simp [results, Try.results48, go_sem, v0, v1, v2, v3]; try rfl) rfl ?_
  refine (SS.out.wr BEG.out 4 rfl F9.out).did (y := (⟨q.n, 0, 0⟩, l ++ [amt 1 q.wh 0 (ce3.A - q.n), amt 1 (lo32 ce2.vB) 0 (ce4.vA + ce2.vA), Pu.mk 7 q.id 0 q.n q.wh false])) ?_ rfl
  unfold oBid
  simp only [runOm_bind, runOm_pure, run_there S0.out.1 S0.out.2, decide_eq_false (HC.out ce0 S0.out.1), run_deny_no, run_look S1.out, run_look S2.out, decide_eq_false (show ¬ q.n < ce1.vA by have := H1.out ce1 S1.out; omega), I2.out, decide_eq_false (show ¬ q.n ≤ ce2.vA by have := H3.out ce2 S2.out; omega), Bool.true_and, Bool.or_self, run_deny_no, run_there S3.out.1 S3.out.2, if_true, if_pos (H4.out ce2 S2.out), run_look S4.out, run_more C10.out, run_less C11.out.1 C11.out.2, oAmount, run_put, oAmount, run_put, run_put, List.append_assoc, List.cons_append, List.nil_append]
  try rfl
end Go.Proofs.Ytneaehimdmachaa.Rule
