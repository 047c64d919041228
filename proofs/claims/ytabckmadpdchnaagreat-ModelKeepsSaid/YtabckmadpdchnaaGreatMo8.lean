import Derived.Test.YtabckmadpdchnaaGreatMo1
import Derived.Test.YtabckmadpdchnaaGreatMo6
import Derived.Test.YtabckmadpdchnaaGreatMo7
import Derived.Lib.SliceRun
set_option linter.unusedVariables false
set_option linter.deprecated false
set_option linter.unusedSimpArgs false
set_option linter.unnecessarySimpa false
set_option maxRecDepth 100000
set_option maxHeartbeats 8000000
namespace Go.Proofs.YtabckmadpdchnaaGreat.Rule
open Go.ChangeShapes Go.WideShapes Go.ChangeAt Go.RowKit Go.IntWalk Go.Proofs.Mem Go.Proofs.Each
theorem bid_same (w:World) (g:Nat) (q:Ot) (v:Value) (base i:Nat) (p:Value) (l:List Pu) (seen:List Ce) (hst:St w g q v base i p l) (hs:SeenAt w g v seen) (hg:g < base) (hbase:base≤w.heap.size) (hl:l.length≤700) (hi:i≤700000) (hq:q.Ok) (hok:∀ c∈seen,c.Ok) (hc:∀ c,seen[i]?=some c→hi32 c.A≠q.wh) (h1:∀ c,seen[i + 1]?=some c→¬ q.n < c.vA) (h2:∀ c,seen[i + 1 + 1]?=some c→c.is=true) (h3:∀ c,seen[i + 1 + 1]?=some c→¬ q.n≤c.vA) (h4:∀ c,seen[i + 1 + 1]?=some c→lo32 c.vB=q.wh) :
    Calls Tryz.prog 74 #[.pointer (some ⟨g,0,none⟩)] w (Did w g q v base i p l seen (oBid q) Rp.enc):=by
  have BEG:=Lib.hid (Begin.mk hs hg hbase hq hok (fun x hx=>hst.own.lt x hx))
  obtain ⟨W0,hW0⟩:∃ W0,w.alloc (.cells #[.int .u16 0,.int .u64 0,.int .u64 0,.int .u64 0] 35)=W0:=⟨_,rfl⟩
  have SS:Hid (ST w g q v base p i p l [.box w.heap.size #[.int .u16 0,.int .u64 0,.int .u64 0,.int .u64 0] 35] W0):=Lib.hid (by rw [← hW0];exact ST.start hst BEG.out _ _)
  have HI:=Lib.hid hi
  have HQ:=Lib.hid hq
  have HOK:=Lib.hid hok
  have HL:=Lib.hid hl
  have HC:=Lib.hid hc
  have H1:=Lib.hid h1
  have H2:=Lib.hid h2
  have H3:=Lib.hid h3
  have H4:=Lib.hid h4
  obtain ⟨ce0,hce0⟩:=the_cell seen (i)
  have CE0:=Lib.hid hce0
  obtain ⟨ce1,hce1⟩:=the_cell seen (i + 1)
  have CE1:=Lib.hid hce1
  obtain ⟨ce2,hce2⟩:=the_cell seen (i + 1 + 1)
  have CE2:=Lib.hid hce2
  obtain ⟨ce3,hce3⟩:=the_cell seen (i + 1 + 1 + 1)
  have CE3:=Lib.hid hce3
  clear hst hs hg hbase hl hi hq hok hc h1 h2 h3 h4 hce0 hce1 hce2 hce3
  go_enter Tryz.func74,Tryz.ntmps74
  go_upto_region 1 with fail
  try rw [hW0]
  clear hW0
  refine wp_SK (D:=DP w g q v base i p l seen (oBid q) Rp.enc) 9 10 11 (seen[i]?=some ce0∧ce0.is=true) (i + 1) #[.int .u64 ce0.A,.int .u64 ce0.B,.int .u8 6,.int .u32 q.id,.int .u32 0,.bool true] [pw g 0,pw g 0,pw g 7,pw g 0,pw g 0,pw g 0,pw g 4,some (.int .u32 q.id,True),some (.agg #[.int .u8 6,.int .u32 q.id,.int .u32 0],True),some (.agg (thing ce0.A ce0.B 6 q.id 0 true),True),none,none] SS.out (fun vals=>?_) (fun vals W1 hB hfin hall=>?_) (ea 10 rfl)
  · simp only [ObD,Act.put,qA,qC,qZ]
    refine ⟨?_,?_,?_,?_,?_,?_,?_,?_,?o0_8,?o0_9,?o0_10,?o0_11,trivial⟩
    all_goals (intro L W hL hk hC hw;have f:=deps hw rfl rfl;simp only [depF,vsP,pw,qS,qD,and_true,true_and] at f)
    case o0_8=>have CL:=Lib.hid (auction_any q.id W);clear hL hC hk hw;refine spD rfl ?_;go_simp;(with_reducible refine CL.out.mono ?_);rintro e w8 ⟨rfl,h2⟩;first | exact sq h2 rfl ⟨rfl,trivial⟩ | exact ⟨_,rfl,sq h2 rfl ⟨rfl,trivial⟩⟩
    case o0_9=>
      have CL:=Lib.hid (there_K SS.out (hC.pre hk) BEG.out (by have:=HI.out;omega) CE0.out 6 q.id 0);clear hL hC hk hw;refine spD rfl ?_;go_simp;(with_reducible refine CL.out.mono ?_);rintro e w8 (⟨h,rfl,h2⟩ | ⟨h,h3,rfl,h2⟩ | ⟨rfl,hf,H⟩)
      · exact ⟨_,rfl,Did.miss (by unfold oBid;simp only [runOm_bind,run_there_no h]) h2⟩
      · exact ⟨_,rfl,Did.err (by unfold oBid;simp only [runOm_bind,run_there_not h h3]) h2⟩
      · first | exact kv hf H rfl ⟨rfl,trivial⟩ | exact ⟨_,rfl,kv hf H rfl ⟨rfl,trivial⟩⟩
    case o0_10=>have ZZ:=hC.fr.size;clear hL hC hk hw;refine spD rfl ?_;go_simp;exact am ZZ
    case o0_11=>obtain ⟨gt,C,fa,hgt,bx0,hc⟩:=Fw.geta (hw ⟨10,.data⟩ (by simp) rfl) (by decide);obtain ⟨c0,c1,c2,c3,c4,c5,rfl⟩:=arr6 hc;have q:=six_cells bx0;have BXX:=Lib.hid bx0;have FA:=Lib.hid fa;clear bx0 hc;unfold thing at f;clear hL hC hk hw;refine spD rfl ?_;go_simp;exact sm SS.out BEG.out BXX.out hgt FA.out
    all_goals (have c:=kn7 hC;clear hL hC hk hw;refine spD rfl ?_;go_simp;first | exact sv rfl ⟨rfl,trivial⟩ | exact ⟨_,rfl,sv rfl ⟨rfl,trivial⟩⟩)
  have S0:=Lib.hid hB.1
  simp only [allF,vsP,pw,true_and,and_true,Nat.reduceAdd] at hall
  obtain ⟨gt0,fa,hgt,bx⟩:=hfin
  simp only [TL,Act.put,qA,qC,qZ,hall,fa]
  replace SS:=Lib.hid (SS.out.push BEG.out hB.st SS.out.lt hgt bx)
  clear hall vals hB fa hgt bx
  have y0:W1.cell? ⟨gt0,0,none⟩=some (.int .u64 ce0.A):=SS.out.bx.1.out.cell 0
  go_wp2_with fail
  (with_reducible refine (unpair_any ce0.A (A_ok HOK.out S0.out.1) _).mono ?_)
  rintro e W2 ⟨rfl,hbl⟩
  clear y0
  replace SS:=Lib.hid (SS.out.later hbl)
  clear hbl
  have d1:(hi32 ce0.A == q.wh)=false:=by have:=HC.out ce0 S0.out.1;simpa using this
  have y0:W2.cell? ⟨g,1,none⟩=some (.int .u32 q.wh):=SS.out.kn.c1
  go_wp2_with fail
  (with_reducible refine (deny_no 213 _).mono ?_)
  rintro e W3 ⟨rfl,rfl⟩
  clear d1 y0
  go_upto_region 4 with fail
  refine wp_SK (D:=DP w g q v base i p l seen (oBid q) Rp.enc) 9 10 11 (seen[i + 1]?=some ce1) (i + 1 + 1) #[.int .u64 ce1.vA,.int .u64 ce1.vB,.int .u8 7,.int .u32 q.id,.int .u32 1,.bool ce1.is] [pw g 0,pw g 0,pw g 7,pw g 0,pw g 0,pw g 0,pw g 4,some (.int .u32 q.id,True),some (.agg #[.int .u8 7,.int .u32 q.id,.int .u32 1],True),some (.agg (thing ce1.vA ce1.vB 7 q.id 1 ce1.is),True),none,none] SS.out (fun vals=>?_) (fun vals W4 hB hfin hall=>?_) (ea 10 rfl)
  · simp only [ObD,Act.put,qA,qC,qZ]
    refine ⟨?_,?_,?_,?_,?_,?_,?_,?_,?o3_8,?o3_9,?o3_10,?o3_11,trivial⟩
    all_goals (intro L W hL hk hC hw;have f:=deps hw rfl rfl;simp only [depF,vsP,pw,qS,qD,and_true,true_and] at f)
    case o3_8=>have CL:=Lib.hid (price_any q.id W);clear hL hC hk hw;refine spD rfl ?_;go_simp;(with_reducible refine CL.out.mono ?_);rintro e w8 ⟨rfl,h2⟩;first | exact sq h2 rfl ⟨rfl,trivial⟩ | exact ⟨_,rfl,sq h2 rfl ⟨rfl,trivial⟩⟩
    case o3_9=>
      have CL:=Lib.hid (look_K SS.out (hC.pre hk) BEG.out (by have:=HI.out;omega) CE1.out 7 q.id 1);clear hL hC hk hw;refine spD rfl ?_;go_simp;(with_reducible refine CL.out.mono ?_);rintro e w8 (⟨h,rfl,h2⟩ | ⟨h1,rfl,hf,H⟩)
      · exact ⟨_,rfl,Did.miss (by unfold oBid;simp only [runOm_bind,run_there S0.out.1 S0.out.2,decide_eq_false (HC.out ce0 S0.out.1),run_deny_no,run_look_no h]) h2⟩
      · first | exact kv hf H rfl ⟨rfl,trivial⟩ | exact ⟨_,rfl,kv hf H rfl ⟨rfl,trivial⟩⟩
    case o3_10=>have ZZ:=hC.fr.size;clear hL hC hk hw;refine spD rfl ?_;go_simp;exact am ZZ
    case o3_11=>obtain ⟨gt,C,fa,hgt,bx0,hc⟩:=Fw.geta (hw ⟨10,.data⟩ (by simp) rfl) (by decide);obtain ⟨c0,c1,c2,c3,c4,c5,rfl⟩:=arr6 hc;have q:=six_cells bx0;have BXX:=Lib.hid bx0;have FA:=Lib.hid fa;clear bx0 hc;unfold thing at f;clear hL hC hk hw;refine spD rfl ?_;go_simp;exact sm SS.out BEG.out BXX.out hgt FA.out
    all_goals (have c:=kn7 hC;clear hL hC hk hw;refine spD rfl ?_;go_simp;first | exact sv rfl ⟨rfl,trivial⟩ | exact ⟨_,rfl,sv rfl ⟨rfl,trivial⟩⟩)
  have S1:=Lib.hid hB.1
  simp only [allF,vsP,pw,true_and,and_true,Nat.reduceAdd] at hall
  obtain ⟨gt1,fa,hgt,bx⟩:=hfin
  simp only [TL,Act.put,qA,qC,qZ,hall,fa]
  replace SS:=Lib.hid (SS.out.push BEG.out hB.st SS.out.lt hgt bx)
  clear hall vals hB fa hgt bx
  go_upto_region 5 with fail
  refine wp_SK (D:=DP w g q v base i p l seen (oBid q) Rp.enc) 9 10 11 (seen[i + 1 + 1]?=some ce2) (i + 1 + 1 + 1) #[.int .u64 ce2.vA,.int .u64 ce2.vB,.int .u8 7,.int .u32 q.id,.int .u32 0,.bool ce2.is] [pw g 0,pw g 0,pw g 7,pw g 0,pw g 0,pw g 0,pw g 4,some (.int .u32 q.id,True),some (.agg #[.int .u8 7,.int .u32 q.id,.int .u32 0],True),some (.agg (thing ce2.vA ce2.vB 7 q.id 0 ce2.is),True),none,none] SS.out (fun vals=>?_) (fun vals W5 hB hfin hall=>?_) (ea 10 rfl)
  · simp only [ObD,Act.put,qA,qC,qZ]
    refine ⟨?_,?_,?_,?_,?_,?_,?_,?_,?o4_8,?o4_9,?o4_10,?o4_11,trivial⟩
    all_goals (intro L W hL hk hC hw;have f:=deps hw rfl rfl;simp only [depF,vsP,pw,qS,qD,and_true,true_and] at f)
    case o4_8=>have CL:=Lib.hid (bid_any q.id W);clear hL hC hk hw;refine spD rfl ?_;go_simp;(with_reducible refine CL.out.mono ?_);rintro e w8 ⟨rfl,h2⟩;first | exact sq h2 rfl ⟨rfl,trivial⟩ | exact ⟨_,rfl,sq h2 rfl ⟨rfl,trivial⟩⟩
    case o4_9=>
      have CL:=Lib.hid (look_K SS.out (hC.pre hk) BEG.out (by have:=HI.out;omega) CE2.out 7 q.id 0);clear hL hC hk hw;refine spD rfl ?_;go_simp;(with_reducible refine CL.out.mono ?_);rintro e w8 (⟨h,rfl,h2⟩ | ⟨h1,rfl,hf,H⟩)
      · exact ⟨_,rfl,Did.miss (by unfold oBid;simp only [runOm_bind,run_there S0.out.1 S0.out.2,decide_eq_false (HC.out ce0 S0.out.1),run_deny_no,run_look S1.out,run_look_no h]) h2⟩
      · first | exact kv hf H rfl ⟨rfl,trivial⟩ | exact ⟨_,rfl,kv hf H rfl ⟨rfl,trivial⟩⟩
    case o4_10=>have ZZ:=hC.fr.size;clear hL hC hk hw;refine spD rfl ?_;go_simp;exact am ZZ
    case o4_11=>obtain ⟨gt,C,fa,hgt,bx0,hc⟩:=Fw.geta (hw ⟨10,.data⟩ (by simp) rfl) (by decide);obtain ⟨c0,c1,c2,c3,c4,c5,rfl⟩:=arr6 hc;have q:=six_cells bx0;have BXX:=Lib.hid bx0;have FA:=Lib.hid fa;clear bx0 hc;unfold thing at f;clear hL hC hk hw;refine spD rfl ?_;go_simp;exact sm SS.out BEG.out BXX.out hgt FA.out
    all_goals (have c:=kn7 hC;clear hL hC hk hw;refine spD rfl ?_;go_simp;first | exact sv rfl ⟨rfl,trivial⟩ | exact ⟨_,rfl,sv rfl ⟨rfl,trivial⟩⟩)
  have S2:=Lib.hid hB.1
  simp only [allF,vsP,pw,true_and,and_true,Nat.reduceAdd] at hall
  obtain ⟨gt2,fa,hgt,bx⟩:=hfin
  simp only [TL,Act.put,qA,qC,qZ,hall,fa]
  replace SS:=Lib.hid (SS.out.push BEG.out hB.st SS.out.lt hgt bx)
  clear hall vals hB fa hgt bx
  have I2:=Lib.hid (H2.out ce2 S2.out)
  have SX:=SS.out
  rw [I2.out] at SX
  replace SS:=Lib.hid SX
  clear SX
  go_upto_region 6 with fail
  have LT0:=Lib.hid ((decide_eq_false (show ¬ q.n < ce1.vA by have:=H1.out ce1 S1.out;omega):decide (q.n < ce1.vA)=false))
  have LT1:=Lib.hid ((decide_eq_false (show ¬ q.n≤ce2.vA by have:=H3.out ce2 S2.out;omega):decide (q.n≤ce2.vA)=false))
  refine wp_SA (D:=DP w g q v base i p l seen (oBid q) Rp.enc) 24 25 26 True False (i + 1 + 1 + 1) l [pw g 0,pw g 0,pw g 0,pw g 5,some (.int .u64 q.n,True),some (.pointer (some ⟨gt1,0,none⟩),True),some (.pointer (some ⟨gt1,0,none⟩),True),some (.int .u64 ce1.vA,True),some (.bool false,True),some (.bool false,True),some (.pointer (some ⟨gt2,5,none⟩),True),some (.bool true,True),some (.bool true,True),some (.pointer (some ⟨gt2,0,none⟩),True),some (.pointer (some ⟨gt2,0,none⟩),True),some (.int .u64 ce2.vA,True),pw g 0,pw g 0,pw g 0,pw g 5,some (.int .u64 q.n,True),some (.bool false,True),some (.bool false,True),some (.bool false,True),some (.tuple #[],True)] SS.out (fun vals=>?_) (fun vals W6 hB hall=>?_)
  · simp only [ObD,Act.put,qA,qC,qZ]
    refine ⟨?_,?_,?_,?_,?_,?_,?_,?o5_7,?o5_8,?_,?o5_10,?o5_11,?o5_12,?o5_13,?o5_14,?o5_15,?o5_16,?o5_17,?o5_18,?o5_19,?o5_20,?o5_21,?o5_22,?o5_23,?o5_24,trivial⟩
    all_goals (intro L W hL hk hC hw;have f:=deps hw rfl rfl;simp only [depF,vsP,pw,qS,qD,and_true,true_and] at f)
    case' o5_7=>have k0:W.cell? ⟨gt1,0,none⟩=some (.int .u64 ce1.vA):=(cw_bx hC).2.1.out.cell 0
    case' o5_8=>have lt0:=LT0.out;have lt1:=LT1.out
    case' o5_23=>have lt0:=LT0.out;have lt1:=LT1.out
    case o5_10=>have fg:vals 9=.bool false:=(Fw.get (f:=vsP (some (.bool false,True))) (hw ⟨9,.guard⟩ (by simp) rfl) (by decide) (by decide) rfl).1;have c:=kn7 hC;clear hL hC hk hw;refine step_guardD rfl (yielded_of rfl fg) ?_;go_simp;first | exact sv rfl ⟨rfl,trivial⟩ | exact ⟨_,rfl,sv rfl ⟨rfl,trivial⟩⟩
    case o5_11=>have fg:vals 9=.bool false:=(Fw.get (f:=vsP (some (.bool false,True))) (hw ⟨9,.guard⟩ (by simp) rfl) (by decide) (by decide) rfl).1;have k5:W.cell? ⟨gt2,5,none⟩=some (.bool true):=(cw_bx hC).1.out.cell 5;have c:=kn7 hC;clear hL hC hk hw;refine step_guardD rfl (yielded_of rfl fg) ?_;go_simp;first | exact sv rfl ⟨rfl,trivial⟩ | exact ⟨_,rfl,sv rfl ⟨rfl,trivial⟩⟩
    case o5_12=>have fg:vals 9=.bool false:=(Fw.get (f:=vsP (some (.bool false,True))) (hw ⟨9,.chain⟩ (by simp) rfl) (by decide) (by decide) rfl).1;have c:=kn7 hC;clear hL hC hk hw;refine step_guardD rfl (yielded_of rfl fg) ?_;go_simp;first | exact sv rfl ⟨rfl,trivial⟩ | exact ⟨_,rfl,sv rfl ⟨rfl,trivial⟩⟩
    case o5_13=>have fg:vals 12=.bool true:=(Fw.get (f:=vsP (some (.bool true,True))) (hw ⟨12,.guard⟩ (by simp) rfl) (by decide) (by decide) rfl).1;have c:=kn7 hC;clear hL hC hk hw;refine step_guardD rfl (yielded_of rfl fg) ?_;go_simp;first | exact sv rfl ⟨rfl,trivial⟩ | exact ⟨_,rfl,sv rfl ⟨rfl,trivial⟩⟩
    case o5_14=>have fg:vals 12=.bool true:=(Fw.get (f:=vsP (some (.bool true,True))) (hw ⟨12,.guard⟩ (by simp) rfl) (by decide) (by decide) rfl).1;have c:=kn7 hC;clear hL hC hk hw;refine step_guardD rfl (yielded_of rfl fg) ?_;go_simp;first | exact sv rfl ⟨rfl,trivial⟩ | exact ⟨_,rfl,sv rfl ⟨rfl,trivial⟩⟩
    case o5_15=>have fg:vals 12=.bool true:=(Fw.get (f:=vsP (some (.bool true,True))) (hw ⟨12,.guard⟩ (by simp) rfl) (by decide) (by decide) rfl).1;have k0:W.cell? ⟨gt2,0,none⟩=some (.int .u64 ce2.vA):=(cw_bx hC).1.out.cell 0;have c:=kn7 hC;clear hL hC hk hw;refine step_guardD rfl (yielded_of rfl fg) ?_;go_simp;first | exact sv rfl ⟨rfl,trivial⟩ | exact ⟨_,rfl,sv rfl ⟨rfl,trivial⟩⟩
    case o5_16=>have fg:vals 12=.bool true:=(Fw.get (f:=vsP (some (.bool true,True))) (hw ⟨12,.guard⟩ (by simp) rfl) (by decide) (by decide) rfl).1;have c:=kn7 hC;clear hL hC hk hw;refine step_guardD rfl (yielded_of rfl fg) ?_;go_simp;first | exact sv rfl ⟨rfl,trivial⟩ | exact ⟨_,rfl,sv rfl ⟨rfl,trivial⟩⟩
    case o5_17=>have fg:vals 12=.bool true:=(Fw.get (f:=vsP (some (.bool true,True))) (hw ⟨12,.guard⟩ (by simp) rfl) (by decide) (by decide) rfl).1;have c:=kn7 hC;clear hL hC hk hw;refine step_guardD rfl (yielded_of rfl fg) ?_;go_simp;first | exact sv rfl ⟨rfl,trivial⟩ | exact ⟨_,rfl,sv rfl ⟨rfl,trivial⟩⟩
    case o5_18=>have fg:vals 12=.bool true:=(Fw.get (f:=vsP (some (.bool true,True))) (hw ⟨12,.guard⟩ (by simp) rfl) (by decide) (by decide) rfl).1;have c:=kn7 hC;clear hL hC hk hw;refine step_guardD rfl (yielded_of rfl fg) ?_;go_simp;first | exact sv rfl ⟨rfl,trivial⟩ | exact ⟨_,rfl,sv rfl ⟨rfl,trivial⟩⟩
    case o5_19=>have fg:vals 12=.bool true:=(Fw.get (f:=vsP (some (.bool true,True))) (hw ⟨12,.guard⟩ (by simp) rfl) (by decide) (by decide) rfl).1;have c:=kn7 hC;clear hL hC hk hw;refine step_guardD rfl (yielded_of rfl fg) ?_;go_simp;first | exact sv rfl ⟨rfl,trivial⟩ | exact ⟨_,rfl,sv rfl ⟨rfl,trivial⟩⟩
    case o5_20=>have fg:vals 12=.bool true:=(Fw.get (f:=vsP (some (.bool true,True))) (hw ⟨12,.guard⟩ (by simp) rfl) (by decide) (by decide) rfl).1;have c:=kn7 hC;clear hL hC hk hw;refine step_guardD rfl (yielded_of rfl fg) ?_;go_simp;first | exact sv rfl ⟨rfl,trivial⟩ | exact ⟨_,rfl,sv rfl ⟨rfl,trivial⟩⟩
    case o5_21=>have fg:vals 12=.bool true:=(Fw.get (f:=vsP (some (.bool true,True))) (hw ⟨12,.guard⟩ (by simp) rfl) (by decide) (by decide) rfl).1;have lt0:=LT0.out;have lt1:=LT1.out;have c:=kn7 hC;clear hL hC hk hw;refine step_guardD rfl (yielded_of rfl fg) ?_;go_simp;first | exact sv rfl ⟨rfl,trivial⟩ | exact ⟨_,rfl,sv rfl ⟨rfl,trivial⟩⟩
    case o5_22=>have fg:vals 9=.bool false:=(Fw.get (f:=vsP (some (.bool false,True))) (hw ⟨9,.guard⟩ (by simp) rfl) (by decide) (by decide) rfl).1;have lt0:=LT0.out;have lt1:=LT1.out;have c:=kn7 hC;clear hL hC hk hw;refine step_guardD rfl (yielded_of rfl fg) ?_;go_simp;first | exact sv rfl ⟨rfl,trivial⟩ | exact ⟨_,rfl,sv rfl ⟨rfl,trivial⟩⟩
    case o5_24=>have AX:=Lib.hid (hC.pre hk);clear hL hC hk hw;refine spD rfl ?_;go_simp;(with_reducible refine (deny_no 214 _).mono ?_);rintro e w8 ⟨rfl,rfl⟩;first | exact kv (Fr.refl _ _) AX.out.sb rfl ⟨rfl,trivial⟩ | exact ⟨_,rfl,kv (Fr.refl _ _) AX.out.sb rfl ⟨rfl,trivial⟩⟩
    all_goals (have c:=kn7 hC;clear hL hC hk hw;refine spD rfl ?_;go_simp;first | exact sv rfl ⟨rfl,trivial⟩ | exact ⟨_,rfl,sv rfl ⟨rfl,trivial⟩⟩)
  simp only [allF,vsP,pw,true_and,and_true,Nat.reduceAdd] at hall
  simp only [TL,Act.put,qA,qC,qZ,hall]
  replace SS:=Lib.hid hB.st
  clear hall vals hB LT0 LT1
  go_upto_region 7 with fail
  refine wp_SG0 (D:=DP w g q v base i p l seen (oBid q) Rp.enc) 9 12 10 11 (seen[i + 1 + 1 + 1]?=some ce3∧ce3.is=true) (i + 1 + 1 + 1 + 1) #[.int .u64 ce3.A,.int .u64 ce3.B,.int .u8 1,.int .u32 q.wh,.int .u32 0,.bool true] [pw g 0,pw g 0,pw g 7,pw g 0,pw g 0,pw g 0,pw g 1,some (.int .u32 q.wh,True),some (.agg #[.int .u8 1,.int .u32 q.wh,.int .u32 0],True),some (.agg (thing ce3.A ce3.B 1 q.wh 0 true),True),none,none] SS.out BEG.out (fun vals=>?_) (fun vals W7 hB hfin htold hall=>?_) (ea 10 rfl)
  · simp only [ObD,Act.put,qA,qC,qZ]
    refine ⟨?_,?_,?_,?_,?_,?_,?_,?_,?o6_8,?o6_9,?o6_10,?o6_11,trivial⟩
    all_goals (intro L W hL hk hC hw;have f:=depsG hw rfl rfl rfl;simp only [depF,vsP,pw,qS,qD,and_true,true_and] at f)
    case o6_8=>have CL:=Lib.hid (purse_any q.wh W);clear hL hC hk hw;refine spD rfl ?_;go_simp;(with_reducible refine CL.out.mono ?_);rintro e w8 ⟨rfl,h2⟩;first | exact gq h2 rfl ⟨rfl,trivial⟩ | exact ⟨_,rfl,gq h2 rfl ⟨rfl,trivial⟩⟩
    case o6_9=>
      have CL:=Lib.hid (there_KG (hC.pre hk) BEG.out (by have:=HI.out;omega) CE3.out 1 q.wh 0);clear hL hC hk hw;refine spD rfl ?_;go_simp;(with_reducible refine CL.out.mono ?_);rintro e w8 (⟨h,rfl,h2⟩ | ⟨h,h3,rfl,h2⟩ | ⟨rfl,hf,H⟩)
      · exact ⟨_,rfl,Did.miss (by unfold oBid;simp only [runOm_bind,run_there S0.out.1 S0.out.2,decide_eq_false (HC.out ce0 S0.out.1),run_deny_no,run_look S1.out,run_look S2.out,decide_eq_false (show ¬ q.n < ce1.vA by have:=H1.out ce1 S1.out;omega),I2.out,decide_eq_false (show ¬ q.n≤ce2.vA by have:=H3.out ce2 S2.out;omega),Bool.true_and,Bool.or_self,run_deny_no,run_there_no h]) h2⟩
      · exact ⟨_,rfl,Did.err (by unfold oBid;simp only [runOm_bind,run_there S0.out.1 S0.out.2,decide_eq_false (HC.out ce0 S0.out.1),run_deny_no,run_look S1.out,run_look S2.out,decide_eq_false (show ¬ q.n < ce1.vA by have:=H1.out ce1 S1.out;omega),I2.out,decide_eq_false (show ¬ q.n≤ce2.vA by have:=H3.out ce2 S2.out;omega),Bool.true_and,Bool.or_self,run_deny_no,run_there_not h h3]) h2⟩
      · first | exact gk hf H rfl ⟨rfl,trivial⟩ | exact ⟨_,rfl,gk hf H rfl ⟨rfl,trivial⟩⟩
    case o6_10=>have ZZ:=hC.fr.size;unfold thing at f;clear hL hC hk hw;refine spD rfl ?_;go_simp;first | exact gm0 ZZ | exact ⟨_,rfl,gm0 ZZ⟩
    case o6_11=>clear hL hC hk hw;refine spD rfl ?_;go_simp;first | exact gt_ | exact ⟨_,rfl,gt_⟩
    all_goals (have c:=kg7 hC;clear hL hC hk hw;refine spD rfl ?_;go_simp;first | exact gv rfl ⟨rfl,trivial⟩ | exact ⟨_,rfl,gv rfl ⟨rfl,trivial⟩⟩)
  have S3:=Lib.hid hB.1
  simp only [allF,vsP,pw,true_and,and_true,Nat.reduceAdd] at hall
  obtain ⟨gl,fs,hor,bx⟩:=hfin
  rw [fs] at htold
  simp only [TL,Act.put,qA,qC,qZ,hall,htold,fs]
  replace SS:=Lib.hid (SS.out.pushP BEG.out hB.st SS.out.lt hor (Pile.of_box (n:=1) bx rfl (by decide)))
  clear hall vals hB htold fs hor bx
  have y0:W7.cell? ⟨gt2,5,none⟩=some (.bool true):=SS.out.bx.2.1.out.cell 5
  go_upto_region 10 with fail
  clear y0
  have y0:W7.cell? ⟨g,1,none⟩=some (.int .u32 q.wh):=SS.out.kn.c1
  have y1:W7.cell? ⟨gt2,1,none⟩=some (.int .u64 ce2.vB):=SS.out.bx.2.1.out.cell 1
  have cw:IntKind.u32.wrap ce2.vB=lo32 ce2.vB:=wrap_u32 _
  have d1:(lo32 ce2.vB == q.wh)=true:=by have:=H4.out ce2 S2.out;simpa using this
  have d2:(lo32 ce2.vB != q.wh)=false:=by have:=H4.out ce2 S2.out;simpa using this
  go_quiet (fail)
  have hbl:Below W7.heap.size W7 (W7.drewN nq):=below_drewN (Below.refl _ _) nq
  generalize W7.drewN nq=W8 at hbl ⊢
  clear cw d1 d2 y0 y1
  replace SS:=Lib.hid (SS.out.later hbl)
  clear hbl
  go_upto_region 13 with fail
  refine wp_S (D:=DP w g q v base i p l seen (oBid q) Rp.enc) 15 16 17 (SB True False w g q v base p (i + 1 + 1 + 1 + 1) p l [.pile gl 1 1 #[.int .u64 (ce3.A + ce2.vA),.int .u64 ce3.B,.int .u8 1,.int .u32 q.wh,.int .u32 0,.bool true],.box gt2 #[.int .u64 ce2.vA,.int .u64 ce2.vB,.int .u8 7,.int .u32 q.id,.int .u32 0,.bool true] 130,.box gt1 #[.int .u64 ce1.vA,.int .u64 ce1.vB,.int .u8 7,.int .u32 q.id,.int .u32 1,.bool ce1.is] 130,.box gt0 #[.int .u64 ce0.A,.int .u64 ce0.B,.int .u8 6,.int .u32 q.id,.int .u32 0,.bool true] 130,.box w.heap.size #[.int .u16 0,.int .u64 0,.int .u64 0,.int .u64 0] 35]) [some (.slice (some ⟨gl,0,none⟩) 1 1,True),some (.int .i64 0,True),some (.slice (some ⟨gl,0,none⟩) 1 1,True),some (.int .i64 0,True),some (.pointer (some ⟨gl,0,none⟩),True),some (.pointer (some ⟨gl,0,none⟩),True),some (.pointer (some ⟨gl,0,none⟩),True),some (.int .u64 ce3.A,True),some (.pointer (some ⟨gt2,0,none⟩),True),some (.pointer (some ⟨gt2,0,none⟩),True),some (.int .u64 ce2.vA,True),some (.int .u64 (ce3.A + ce2.vA),Mr ce3.A ce2.vA),some (.pointer (some ⟨gl,0,none⟩),True),some (.pointer (some ⟨gl,0,none⟩),True),some (.pointer (some ⟨gl,0,none⟩),True),some (undef,True)] SS.out (fun vals=>?_) (fun vals W9 hB hall=>?_)
  · simp only [ObD,Act.put,qA,qC,qZ]
    refine ⟨?_,?_,?_,?_,?_,?_,?_,?o8_7,?_,?_,?o8_10,?o8_11,?_,?_,?_,?o8_15,trivial⟩
    all_goals (intro L W hL hk hC hw;have f:=deps hw rfl rfl;simp only [depF,vsP,pw,qS,qD,and_true,true_and] at f)
    case' o8_7=>have k0:W.cell? ⟨gl,0,none⟩=some (.int .u64 ce3.A):=(hC.pre (hL.not_yet hk 15 16 (by decide +kernel))).bx.1.out.cell 0
    case' o8_10=>have k0:W.cell? ⟨gt2,0,none⟩=some (.int .u64 ce2.vA):=(hC.pre (hL.not_yet hk 15 16 (by decide +kernel))).bx.2.1.out.cell 0
    case o8_11=>
      have CL:=Lib.hid (more_C (A_ok HOK.out S3.out.1) (vA_ok HOK.out S2.out) hC SS.out BEG.out);clear hL hC hk hw;refine spD rfl ?_;go_simp;(with_reducible refine CL.out.mono ?_)
      rintro e w8 (⟨h,rfl,h2⟩ | ⟨h1,rfl,h2⟩)
      · exact ⟨_,rfl,Did.err (by unfold oBid;simp only [runOm_bind,run_there S0.out.1 S0.out.2,decide_eq_false (HC.out ce0 S0.out.1),run_deny_no,run_look S1.out,run_look S2.out,decide_eq_false (show ¬ q.n < ce1.vA by have:=H1.out ce1 S1.out;omega),I2.out,decide_eq_false (show ¬ q.n≤ce2.vA by have:=H3.out ce2 S2.out;omega),Bool.true_and,Bool.or_self,run_deny_no,run_there S3.out.1 S3.out.2,if_true,if_neg (show ¬ lo32 ce2.vB≠q.wh from fun h=>h (H4.out ce2 S2.out)),run_more_no h]) h2⟩
      · first | exact sq h2 rfl ⟨rfl,h1⟩ | exact ⟨_,rfl,sq h2 rfl ⟨rfl,h1⟩⟩
    case o8_15=>have PRE:=hC.pre hk;have q0:W.cell? ⟨gl,0,none⟩=some (.int .u64 ce3.A):=PRE.bx.1.out.cell 0;have r0:=PRE.bx.1.out.frozen 0;have P:=Lib.hid PRE;clear PRE;clear hL hC hk hw;refine spD rfl ?_;go_simp;exact ks (ksP SS.out P.out BEG.out 0 rfl) rfl ⟨rfl,trivial⟩
    all_goals (have c:=kn7 hC;clear hL hC hk hw;refine spD rfl ?_;go_simp;first | exact sv rfl ⟨rfl,trivial⟩ | exact ⟨_,rfl,sv rfl ⟨rfl,trivial⟩⟩)
  have C9:Hid (Mr ce3.A ce2.vA):=Lib.hid (vsP_c (hall.get 11))
  simp only [allF,vsP,pw,true_and,and_true,Nat.reduceAdd] at hall
  simp only [TL,Act.put,qA,qC,qZ,hall]
  replace SS:=Lib.hid hB.st
  clear hall vals hB
  go_upto_region 14 with fail
  refine wp_S (D:=DP w g q v base i p l seen (oBid q) Rp.enc) 15 16 17 (SB True False w g q v base p (i + 1 + 1 + 1 + 1) p l [.pile gl 1 1 #[.int .u64 ((ce3.A + ce2.vA) - q.n),.int .u64 ce3.B,.int .u8 1,.int .u32 q.wh,.int .u32 0,.bool true],.box gt2 #[.int .u64 ce2.vA,.int .u64 ce2.vB,.int .u8 7,.int .u32 q.id,.int .u32 0,.bool true] 130,.box gt1 #[.int .u64 ce1.vA,.int .u64 ce1.vB,.int .u8 7,.int .u32 q.id,.int .u32 1,.bool ce1.is] 130,.box gt0 #[.int .u64 ce0.A,.int .u64 ce0.B,.int .u8 6,.int .u32 q.id,.int .u32 0,.bool true] 130,.box w.heap.size #[.int .u16 0,.int .u64 0,.int .u64 0,.int .u64 0] 35]) [some (.slice (some ⟨gl,0,none⟩) 1 1,True),some (.slice (some ⟨gl,0,none⟩) 1 1,True),some (.pointer (some ⟨gl,0,none⟩),True),some (.pointer (some ⟨gl,0,none⟩),True),some (.pointer (some ⟨gl,0,none⟩),True),some (.int .u64 (ce3.A + ce2.vA),True),pw g 0,pw g 0,pw g 0,pw g 5,some (.int .u64 q.n,True),some (.int .u64 ((ce3.A + ce2.vA) - q.n),Ls (ce3.A + ce2.vA) q.n),some (.pointer (some ⟨gl,0,none⟩),True),some (.pointer (some ⟨gl,0,none⟩),True),some (.pointer (some ⟨gl,0,none⟩),True),some (undef,True)] SS.out (fun vals=>?_) (fun vals W10 hB hall=>?_)
  · simp only [ObD,Act.put,qA,qC,qZ]
    refine ⟨?_,?_,?_,?_,?_,?o9_5,?_,?_,?_,?_,?_,?o9_11,?_,?_,?_,?o9_15,trivial⟩
    all_goals (intro L W hL hk hC hw;have f:=deps hw rfl rfl;simp only [depF,vsP,pw,qS,qD,and_true,true_and] at f)
    case' o9_5=>have k0:W.cell? ⟨gl,0,none⟩=some (.int .u64 (ce3.A + ce2.vA)):=(hC.pre (hL.not_yet hk 15 16 (by decide +kernel))).bx.1.out.cell 0
    case o9_11=>
      have CL:=Lib.hid (less_C (show 0≤ce3.A + ce2.vA∧ce3.A + ce2.vA≤18446744073709551615 by have:=(A_ok HOK.out S3.out.1).1;have:=(vA_ok HOK.out S2.out).1;have:=C9.out;unfold Mr at this;omega) HQ.out.n hC SS.out BEG.out);clear hL hC hk hw;refine spD rfl ?_;go_simp;(with_reducible refine CL.out.mono ?_)
      rintro e w8 (⟨h,rfl,h2⟩ | ⟨⟨h,h3⟩,rfl,h2⟩ | ⟨h1,rfl,h2⟩)
      · exact ⟨_,rfl,Did.err (by unfold oBid;simp only [runOm_bind,run_there S0.out.1 S0.out.2,decide_eq_false (HC.out ce0 S0.out.1),run_deny_no,run_look S1.out,run_look S2.out,decide_eq_false (show ¬ q.n < ce1.vA by have:=H1.out ce1 S1.out;omega),I2.out,decide_eq_false (show ¬ q.n≤ce2.vA by have:=H3.out ce2 S2.out;omega),Bool.true_and,Bool.or_self,run_deny_no,run_there S3.out.1 S3.out.2,if_true,if_neg (show ¬ lo32 ce2.vB≠q.wh from fun h=>h (H4.out ce2 S2.out)),run_more C9.out,run_less_great h]) h2⟩
      · exact ⟨_,rfl,Did.err (by unfold oBid;simp only [runOm_bind,run_there S0.out.1 S0.out.2,decide_eq_false (HC.out ce0 S0.out.1),run_deny_no,run_look S1.out,run_look S2.out,decide_eq_false (show ¬ q.n < ce1.vA by have:=H1.out ce1 S1.out;omega),I2.out,decide_eq_false (show ¬ q.n≤ce2.vA by have:=H3.out ce2 S2.out;omega),Bool.true_and,Bool.or_self,run_deny_no,run_there S3.out.1 S3.out.2,if_true,if_neg (show ¬ lo32 ce2.vB≠q.wh from fun h=>h (H4.out ce2 S2.out)),run_more C9.out,run_less_low h h3]) h2⟩
      · first | exact sq h2 rfl ⟨rfl,h1⟩ | exact ⟨_,rfl,sq h2 rfl ⟨rfl,h1⟩⟩
    case o9_15=>have PRE:=hC.pre hk;have q0:W.cell? ⟨gl,0,none⟩=some (.int .u64 (ce3.A + ce2.vA)):=PRE.bx.1.out.cell 0;have r0:=PRE.bx.1.out.frozen 0;have P:=Lib.hid PRE;clear PRE;clear hL hC hk hw;refine spD rfl ?_;go_simp;exact ks (ksP SS.out P.out BEG.out 0 rfl) rfl ⟨rfl,trivial⟩
    all_goals (have c:=kn7 hC;clear hL hC hk hw;refine spD rfl ?_;go_simp;first | exact sv rfl ⟨rfl,trivial⟩ | exact ⟨_,rfl,sv rfl ⟨rfl,trivial⟩⟩)
  have C10:Hid (Ls (ce3.A + ce2.vA) q.n):=Lib.hid (vsP_c (hall.get 11))
  simp only [allF,vsP,pw,true_and,and_true,Nat.reduceAdd] at hall
  simp only [TL,Act.put,qA,qC,qZ,hall]
  replace SS:=Lib.hid hB.st
  clear hall vals hB
  go_wp2
  refine wp_loop_rounds 2 ?_
  obtain ⟨y0,y1,y2,y3,y4,y5⟩:=pile6 SS.out.bx.1.out 0 1 2 3 4 5 rfl rfl rfl rfl rfl rfl
  rw [rounds_succ]
  obtain ⟨W11,hWn⟩:∃ W11,W10.alloc (.cells #[.int .u64 ((ce3.A + ce2.vA) - q.n),.int .u64 ce3.B,.int .u8 1,.int .u32 q.wh,.int .u32 0,.bool true] 130)=W11:=⟨_,rfl⟩
  obtain ⟨gq0,hgn⟩:∃ gq0,W10.heap.size=gq0:=⟨_,rfl⟩
  have TT:=SS.out.alloc BEG.out #[.int .u64 ((ce3.A + ce2.vA) - q.n),.int .u64 ce3.B,.int .u8 1,.int .u32 q.wh,.int .u32 0,.bool true] 130
  rw [hgn,hWn] at TT
  replace TT:=Lib.hid TT
  have HWN:=Lib.hid hWn
  have HGN:=Lib.hid hgn
  clear hWn hgn
  go_wp2_with fail
  clear y0 y1 y2 y3 y4 y5
  try rw [HWN.out]
  try rw [HGN.out]
  clear HWN HGN SS
  have SS:=TT
  clear TT
  have CALL:=Lib.hid (amount_S SS.out BEG.out (by have:=HL.out;(try simp only [List.length_append,List.length_cons,List.length_nil]);omega) 1 q.wh 0 ((ce3.A + ce2.vA) - q.n) (show _=l++[amt 1 q.wh 0 ((ce3.A + ce2.vA) - q.n)] by simp))
  (with_reducible refine CALL.out.mono ?_)
  rintro e W12 ⟨rfl,hf,p12,hs⟩
  replace SS:=Lib.hid hs
  clear CALL hf hs
  go_wp2
  replace SS:=Lib.hid SS.out.drop
  rw [rounds_succ]
  go_upto_region 20 with fail
  refine wp_SA (D:=DP w g q v base i p l seen (oBid q) Rp.enc) 15 16 17 True True (i + 1 + 1 + 1 + 1) (l++[amt 1 q.wh 0 ((ce3.A + ce2.vA) - q.n),Pu.mk 7 q.id 0 q.n q.wh false]) [pw g 0,some (.pointer (some ⟨gt2,2,none⟩),True),some (.agg #[.int .u8 7,.int .u32 q.id,.int .u32 0],True),pw g 0,pw g 0,pw g 0,pw g 5,some (.int .u64 q.n,True),pw g 0,pw g 0,pw g 0,pw g 1,some (.int .u32 q.wh,True),some (.int .u64 q.wh,True),some (.agg #[.int .u64 q.n,.int .u64 q.wh],True),some (.tuple #[],True)] SS.out (fun vals=>?_) (fun vals W13 hB hall=>?_)
  · simp only [ObD,Act.put,qA,qC,qZ]
    refine ⟨?_,?_,?o12_2,?_,?_,?_,?_,?_,?_,?_,?_,?_,?_,?o12_13,?_,?o12_15,trivial⟩
    all_goals (intro L W hL hk hC hw;have f:=deps hw rfl rfl;simp only [depF,vsP,pw,qS,qD,and_true,true_and] at f)
    case' o12_2=>have k2:W.cell? ⟨gt2,2,none⟩=some (.int .u8 7):=(cw_bx hC).2.1.out.cell 2;have k3:W.cell? ⟨gt2,3,none⟩=some (.int .u32 q.id):=(cw_bx hC).2.1.out.cell 3;have k4:W.cell? ⟨gt2,4,none⟩=some (.int .u32 0):=(cw_bx hC).2.1.out.cell 4
    case' o12_13=>have hcv:IntKind.u64.wrap q.wh=q.wh:=wrap_u64 (HQ.out.wh).1 (by have:=(HQ.out.wh).2;omega)
    case o12_15=>have CL:=Lib.hid (pk SS.out BEG.out (put_S (hC.pre hk) BEG.out (by have:=HL.out;(try simp only [List.length_append,List.length_cons,List.length_nil]);omega) 7 q.id 0 q.n q.wh (show _=l++[amt 1 q.wh 0 ((ce3.A + ce2.vA) - q.n),Pu.mk 7 q.id 0 q.n q.wh false] by simp)));clear hL hC hk hw;refine spD rfl ?_;go_simp;(with_reducible refine CL.out.mono ?_);rintro e w8 ⟨rfl,hf,H⟩;first | exact kv hf H rfl ⟨rfl,trivial⟩ | exact ⟨_,rfl,kv hf H rfl ⟨rfl,trivial⟩⟩
    all_goals (have c:=kn7 hC;clear hL hC hk hw;refine spD rfl ?_;go_simp;first | exact sv rfl ⟨rfl,trivial⟩ | exact ⟨_,rfl,sv rfl ⟨rfl,trivial⟩⟩)
  simp only [allF,vsP,pw,true_and,and_true,Nat.reduceAdd] at hall
  simp only [TL,Act.put,qA,qC,qZ,hall]
  obtain ⟨p13,hB⟩:=hB.put
  replace SS:=Lib.hid hB
  clear hall vals hB
  have y0:W13.cell? ⟨g,5,none⟩=some (.int .u64 q.n):=SS.out.kn.c5
  obtain ⟨⟨z0,z1,z2,z3⟩,x0,x1,x2,x3⟩:=four_cells SS.out.bx.2.2.2.2.1.out
  go_wp2
  generalize hW:(World.setCell _ (⟨w.heap.size,3,none⟩:Addr) _)=WZ
  have b9:Box WZ w.heap.size #[.int .u16 0,.int .u64 q.n,.int .u64 0,.int .u64 0] 35:=by
    rw [← hW]
    exact four_box SS.out.bx.2.2.2.2.1.out
  have F9:Hid (Fr (fun x=>x=w.heap.size) W13 WZ):=Lib.hid (by
    rw [← hW]
    exact four_fr)
  obtain ⟨⟨v0,v1,v2,v3⟩,-⟩:=four_cells b9
  clear hW b9 z0 z1 z2 z3 x0 x1 x2 x3 y0
  refine bodyPost_ret (v:=.agg #[.int .u16 0,.int .u64 q.n,.int .u64 0,.int .u64 0]) (by simp [results,Tryz.results74,go_sem,v0,v1,v2,v3];try rfl) rfl ?_
  refine (SS.out.wr BEG.out 4 rfl F9.out).did (y:=(⟨q.n,0,0⟩,l++[amt 1 q.wh 0 ((ce3.A + ce2.vA) - q.n),Pu.mk 7 q.id 0 q.n q.wh false])) ?_ rfl
  unfold oBid
  simp only [runOm_bind,runOm_pure,run_there S0.out.1 S0.out.2,decide_eq_false (HC.out ce0 S0.out.1),run_deny_no,run_look S1.out,run_look S2.out,decide_eq_false (show ¬ q.n < ce1.vA by have:=H1.out ce1 S1.out;omega),I2.out,decide_eq_false (show ¬ q.n≤ce2.vA by have:=H3.out ce2 S2.out;omega),Bool.true_and,Bool.or_self,run_deny_no,run_there S3.out.1 S3.out.2,if_true,if_neg (show ¬ lo32 ce2.vB≠q.wh from fun h=>h (H4.out ce2 S2.out)),run_more C9.out,run_less C10.out.1 C10.out.2,oAmount,run_put,run_put,List.append_assoc,List.cons_append,List.nil_append]
  try rfl
end Go.Proofs.YtabckmadpdchnaaGreat.Rule
namespace Go.Proofs.YtabckmadpdchnaaGreat.Rule
open Go.ChangeShapes Go.WideShapes Go.ChangeAt Go.RowKit Go.IntWalk Go.Proofs.Mem Go.Proofs.Each
theorem bid_other (w:World) (g:Nat) (q:Ot) (v:Value) (base i:Nat) (p:Value) (l:List Pu) (seen:List Ce) (hst:St w g q v base i p l) (hs:SeenAt w g v seen) (hg:g < base) (hbase:base≤w.heap.size) (hl:l.length≤700) (hi:i≤700000) (hq:q.Ok) (hok:∀ c∈seen,c.Ok) (hc:∀ c,seen[i]?=some c→hi32 c.A≠q.wh) (h1:∀ c,seen[i + 1]?=some c→¬ q.n < c.vA) (h2:∀ c,seen[i + 1 + 1]?=some c→c.is=true) (h3:∀ c,seen[i + 1 + 1]?=some c→¬ q.n≤c.vA) (h4:∀ c,seen[i + 1 + 1]?=some c→lo32 c.vB≠q.wh) :
    Calls Tryz.prog 74 #[.pointer (some ⟨g,0,none⟩)] w (Did w g q v base i p l seen (oBid q) Rp.enc):=by
  have BEG:=Lib.hid (Begin.mk hs hg hbase hq hok (fun x hx=>hst.own.lt x hx))
  obtain ⟨W0,hW0⟩:∃ W0,w.alloc (.cells #[.int .u16 0,.int .u64 0,.int .u64 0,.int .u64 0] 35)=W0:=⟨_,rfl⟩
  have SS:Hid (ST w g q v base p i p l [.box w.heap.size #[.int .u16 0,.int .u64 0,.int .u64 0,.int .u64 0] 35] W0):=Lib.hid (by rw [← hW0];exact ST.start hst BEG.out _ _)
  have HI:=Lib.hid hi
  have HQ:=Lib.hid hq
  have HOK:=Lib.hid hok
  have HL:=Lib.hid hl
  have HC:=Lib.hid hc
  have H1:=Lib.hid h1
  have H2:=Lib.hid h2
  have H3:=Lib.hid h3
  have H4:=Lib.hid h4
  obtain ⟨ce0,hce0⟩:=the_cell seen (i)
  have CE0:=Lib.hid hce0
  obtain ⟨ce1,hce1⟩:=the_cell seen (i + 1)
  have CE1:=Lib.hid hce1
  obtain ⟨ce2,hce2⟩:=the_cell seen (i + 1 + 1)
  have CE2:=Lib.hid hce2
  obtain ⟨ce3,hce3⟩:=the_cell seen (i + 1 + 1 + 1)
  have CE3:=Lib.hid hce3
  obtain ⟨ce4,hce4⟩:=the_cell seen (i + 1 + 1 + 1 + 1)
  have CE4:=Lib.hid hce4
  clear hst hs hg hbase hl hi hq hok hc h1 h2 h3 h4 hce0 hce1 hce2 hce3 hce4
  go_enter Tryz.func74,Tryz.ntmps74
  go_upto_region 1 with fail
  try rw [hW0]
  clear hW0
  refine wp_SK (D:=DP w g q v base i p l seen (oBid q) Rp.enc) 9 10 11 (seen[i]?=some ce0∧ce0.is=true) (i + 1) #[.int .u64 ce0.A,.int .u64 ce0.B,.int .u8 6,.int .u32 q.id,.int .u32 0,.bool true] [pw g 0,pw g 0,pw g 7,pw g 0,pw g 0,pw g 0,pw g 4,some (.int .u32 q.id,True),some (.agg #[.int .u8 6,.int .u32 q.id,.int .u32 0],True),some (.agg (thing ce0.A ce0.B 6 q.id 0 true),True),none,none] SS.out (fun vals=>?_) (fun vals W1 hB hfin hall=>?_) (ea 10 rfl)
  · simp only [ObD,Act.put,qA,qC,qZ]
    refine ⟨?_,?_,?_,?_,?_,?_,?_,?_,?o0_8,?o0_9,?o0_10,?o0_11,trivial⟩
    all_goals (intro L W hL hk hC hw;have f:=deps hw rfl rfl;simp only [depF,vsP,pw,qS,qD,and_true,true_and] at f)
    case o0_8=>have CL:=Lib.hid (auction_any q.id W);clear hL hC hk hw;refine spD rfl ?_;go_simp;(with_reducible refine CL.out.mono ?_);rintro e w8 ⟨rfl,h2⟩;first | exact sq h2 rfl ⟨rfl,trivial⟩ | exact ⟨_,rfl,sq h2 rfl ⟨rfl,trivial⟩⟩
    case o0_9=>
      have CL:=Lib.hid (there_K SS.out (hC.pre hk) BEG.out (by have:=HI.out;omega) CE0.out 6 q.id 0);clear hL hC hk hw;refine spD rfl ?_;go_simp;(with_reducible refine CL.out.mono ?_);rintro e w8 (⟨h,rfl,h2⟩ | ⟨h,h3,rfl,h2⟩ | ⟨rfl,hf,H⟩)
      · exact ⟨_,rfl,Did.miss (by unfold oBid;simp only [runOm_bind,run_there_no h]) h2⟩
      · exact ⟨_,rfl,Did.err (by unfold oBid;simp only [runOm_bind,run_there_not h h3]) h2⟩
      · first | exact kv hf H rfl ⟨rfl,trivial⟩ | exact ⟨_,rfl,kv hf H rfl ⟨rfl,trivial⟩⟩
    case o0_10=>have ZZ:=hC.fr.size;clear hL hC hk hw;refine spD rfl ?_;go_simp;exact am ZZ
    case o0_11=>obtain ⟨gt,C,fa,hgt,bx0,hc⟩:=Fw.geta (hw ⟨10,.data⟩ (by simp) rfl) (by decide);obtain ⟨c0,c1,c2,c3,c4,c5,rfl⟩:=arr6 hc;have q:=six_cells bx0;have BXX:=Lib.hid bx0;have FA:=Lib.hid fa;clear bx0 hc;unfold thing at f;clear hL hC hk hw;refine spD rfl ?_;go_simp;exact sm SS.out BEG.out BXX.out hgt FA.out
    all_goals (have c:=kn7 hC;clear hL hC hk hw;refine spD rfl ?_;go_simp;first | exact sv rfl ⟨rfl,trivial⟩ | exact ⟨_,rfl,sv rfl ⟨rfl,trivial⟩⟩)
  have S0:=Lib.hid hB.1
  simp only [allF,vsP,pw,true_and,and_true,Nat.reduceAdd] at hall
  obtain ⟨gt0,fa,hgt,bx⟩:=hfin
  simp only [TL,Act.put,qA,qC,qZ,hall,fa]
  replace SS:=Lib.hid (SS.out.push BEG.out hB.st SS.out.lt hgt bx)
  clear hall vals hB fa hgt bx
  have y0:W1.cell? ⟨gt0,0,none⟩=some (.int .u64 ce0.A):=SS.out.bx.1.out.cell 0
  go_wp2_with fail
  (with_reducible refine (unpair_any ce0.A (A_ok HOK.out S0.out.1) _).mono ?_)
  rintro e W2 ⟨rfl,hbl⟩
  clear y0
  replace SS:=Lib.hid (SS.out.later hbl)
  clear hbl
  have d1:(hi32 ce0.A == q.wh)=false:=by have:=HC.out ce0 S0.out.1;simpa using this
  have y0:W2.cell? ⟨g,1,none⟩=some (.int .u32 q.wh):=SS.out.kn.c1
  go_wp2_with fail
  (with_reducible refine (deny_no 213 _).mono ?_)
  rintro e W3 ⟨rfl,rfl⟩
  clear d1 y0
  go_upto_region 4 with fail
  refine wp_SK (D:=DP w g q v base i p l seen (oBid q) Rp.enc) 9 10 11 (seen[i + 1]?=some ce1) (i + 1 + 1) #[.int .u64 ce1.vA,.int .u64 ce1.vB,.int .u8 7,.int .u32 q.id,.int .u32 1,.bool ce1.is] [pw g 0,pw g 0,pw g 7,pw g 0,pw g 0,pw g 0,pw g 4,some (.int .u32 q.id,True),some (.agg #[.int .u8 7,.int .u32 q.id,.int .u32 1],True),some (.agg (thing ce1.vA ce1.vB 7 q.id 1 ce1.is),True),none,none] SS.out (fun vals=>?_) (fun vals W4 hB hfin hall=>?_) (ea 10 rfl)
  · simp only [ObD,Act.put,qA,qC,qZ]
    refine ⟨?_,?_,?_,?_,?_,?_,?_,?_,?o3_8,?o3_9,?o3_10,?o3_11,trivial⟩
    all_goals (intro L W hL hk hC hw;have f:=deps hw rfl rfl;simp only [depF,vsP,pw,qS,qD,and_true,true_and] at f)
    case o3_8=>have CL:=Lib.hid (price_any q.id W);clear hL hC hk hw;refine spD rfl ?_;go_simp;(with_reducible refine CL.out.mono ?_);rintro e w8 ⟨rfl,h2⟩;first | exact sq h2 rfl ⟨rfl,trivial⟩ | exact ⟨_,rfl,sq h2 rfl ⟨rfl,trivial⟩⟩
    case o3_9=>
      have CL:=Lib.hid (look_K SS.out (hC.pre hk) BEG.out (by have:=HI.out;omega) CE1.out 7 q.id 1);clear hL hC hk hw;refine spD rfl ?_;go_simp;(with_reducible refine CL.out.mono ?_);rintro e w8 (⟨h,rfl,h2⟩ | ⟨h1,rfl,hf,H⟩)
      · exact ⟨_,rfl,Did.miss (by unfold oBid;simp only [runOm_bind,run_there S0.out.1 S0.out.2,decide_eq_false (HC.out ce0 S0.out.1),run_deny_no,run_look_no h]) h2⟩
      · first | exact kv hf H rfl ⟨rfl,trivial⟩ | exact ⟨_,rfl,kv hf H rfl ⟨rfl,trivial⟩⟩
    case o3_10=>have ZZ:=hC.fr.size;clear hL hC hk hw;refine spD rfl ?_;go_simp;exact am ZZ
    case o3_11=>obtain ⟨gt,C,fa,hgt,bx0,hc⟩:=Fw.geta (hw ⟨10,.data⟩ (by simp) rfl) (by decide);obtain ⟨c0,c1,c2,c3,c4,c5,rfl⟩:=arr6 hc;have q:=six_cells bx0;have BXX:=Lib.hid bx0;have FA:=Lib.hid fa;clear bx0 hc;unfold thing at f;clear hL hC hk hw;refine spD rfl ?_;go_simp;exact sm SS.out BEG.out BXX.out hgt FA.out
    all_goals (have c:=kn7 hC;clear hL hC hk hw;refine spD rfl ?_;go_simp;first | exact sv rfl ⟨rfl,trivial⟩ | exact ⟨_,rfl,sv rfl ⟨rfl,trivial⟩⟩)
  have S1:=Lib.hid hB.1
  simp only [allF,vsP,pw,true_and,and_true,Nat.reduceAdd] at hall
  obtain ⟨gt1,fa,hgt,bx⟩:=hfin
  simp only [TL,Act.put,qA,qC,qZ,hall,fa]
  replace SS:=Lib.hid (SS.out.push BEG.out hB.st SS.out.lt hgt bx)
  clear hall vals hB fa hgt bx
  go_upto_region 5 with fail
  refine wp_SK (D:=DP w g q v base i p l seen (oBid q) Rp.enc) 9 10 11 (seen[i + 1 + 1]?=some ce2) (i + 1 + 1 + 1) #[.int .u64 ce2.vA,.int .u64 ce2.vB,.int .u8 7,.int .u32 q.id,.int .u32 0,.bool ce2.is] [pw g 0,pw g 0,pw g 7,pw g 0,pw g 0,pw g 0,pw g 4,some (.int .u32 q.id,True),some (.agg #[.int .u8 7,.int .u32 q.id,.int .u32 0],True),some (.agg (thing ce2.vA ce2.vB 7 q.id 0 ce2.is),True),none,none] SS.out (fun vals=>?_) (fun vals W5 hB hfin hall=>?_) (ea 10 rfl)
  · simp only [ObD,Act.put,qA,qC,qZ]
    refine ⟨?_,?_,?_,?_,?_,?_,?_,?_,?o4_8,?o4_9,?o4_10,?o4_11,trivial⟩
    all_goals (intro L W hL hk hC hw;have f:=deps hw rfl rfl;simp only [depF,vsP,pw,qS,qD,and_true,true_and] at f)
    case o4_8=>have CL:=Lib.hid (bid_any q.id W);clear hL hC hk hw;refine spD rfl ?_;go_simp;(with_reducible refine CL.out.mono ?_);rintro e w8 ⟨rfl,h2⟩;first | exact sq h2 rfl ⟨rfl,trivial⟩ | exact ⟨_,rfl,sq h2 rfl ⟨rfl,trivial⟩⟩
    case o4_9=>
      have CL:=Lib.hid (look_K SS.out (hC.pre hk) BEG.out (by have:=HI.out;omega) CE2.out 7 q.id 0);clear hL hC hk hw;refine spD rfl ?_;go_simp;(with_reducible refine CL.out.mono ?_);rintro e w8 (⟨h,rfl,h2⟩ | ⟨h1,rfl,hf,H⟩)
      · exact ⟨_,rfl,Did.miss (by unfold oBid;simp only [runOm_bind,run_there S0.out.1 S0.out.2,decide_eq_false (HC.out ce0 S0.out.1),run_deny_no,run_look S1.out,run_look_no h]) h2⟩
      · first | exact kv hf H rfl ⟨rfl,trivial⟩ | exact ⟨_,rfl,kv hf H rfl ⟨rfl,trivial⟩⟩
    case o4_10=>have ZZ:=hC.fr.size;clear hL hC hk hw;refine spD rfl ?_;go_simp;exact am ZZ
    case o4_11=>obtain ⟨gt,C,fa,hgt,bx0,hc⟩:=Fw.geta (hw ⟨10,.data⟩ (by simp) rfl) (by decide);obtain ⟨c0,c1,c2,c3,c4,c5,rfl⟩:=arr6 hc;have q:=six_cells bx0;have BXX:=Lib.hid bx0;have FA:=Lib.hid fa;clear bx0 hc;unfold thing at f;clear hL hC hk hw;refine spD rfl ?_;go_simp;exact sm SS.out BEG.out BXX.out hgt FA.out
    all_goals (have c:=kn7 hC;clear hL hC hk hw;refine spD rfl ?_;go_simp;first | exact sv rfl ⟨rfl,trivial⟩ | exact ⟨_,rfl,sv rfl ⟨rfl,trivial⟩⟩)
  have S2:=Lib.hid hB.1
  simp only [allF,vsP,pw,true_and,and_true,Nat.reduceAdd] at hall
  obtain ⟨gt2,fa,hgt,bx⟩:=hfin
  simp only [TL,Act.put,qA,qC,qZ,hall,fa]
  replace SS:=Lib.hid (SS.out.push BEG.out hB.st SS.out.lt hgt bx)
  clear hall vals hB fa hgt bx
  have I2:=Lib.hid (H2.out ce2 S2.out)
  have SX:=SS.out
  rw [I2.out] at SX
  replace SS:=Lib.hid SX
  clear SX
  go_upto_region 6 with fail
  have LT0:=Lib.hid ((decide_eq_false (show ¬ q.n < ce1.vA by have:=H1.out ce1 S1.out;omega):decide (q.n < ce1.vA)=false))
  have LT1:=Lib.hid ((decide_eq_false (show ¬ q.n≤ce2.vA by have:=H3.out ce2 S2.out;omega):decide (q.n≤ce2.vA)=false))
  refine wp_SA (D:=DP w g q v base i p l seen (oBid q) Rp.enc) 24 25 26 True False (i + 1 + 1 + 1) l [pw g 0,pw g 0,pw g 0,pw g 5,some (.int .u64 q.n,True),some (.pointer (some ⟨gt1,0,none⟩),True),some (.pointer (some ⟨gt1,0,none⟩),True),some (.int .u64 ce1.vA,True),some (.bool false,True),some (.bool false,True),some (.pointer (some ⟨gt2,5,none⟩),True),some (.bool true,True),some (.bool true,True),some (.pointer (some ⟨gt2,0,none⟩),True),some (.pointer (some ⟨gt2,0,none⟩),True),some (.int .u64 ce2.vA,True),pw g 0,pw g 0,pw g 0,pw g 5,some (.int .u64 q.n,True),some (.bool false,True),some (.bool false,True),some (.bool false,True),some (.tuple #[],True)] SS.out (fun vals=>?_) (fun vals W6 hB hall=>?_)
  · simp only [ObD,Act.put,qA,qC,qZ]
    refine ⟨?_,?_,?_,?_,?_,?_,?_,?o5_7,?o5_8,?_,?o5_10,?o5_11,?o5_12,?o5_13,?o5_14,?o5_15,?o5_16,?o5_17,?o5_18,?o5_19,?o5_20,?o5_21,?o5_22,?o5_23,?o5_24,trivial⟩
    all_goals (intro L W hL hk hC hw;have f:=deps hw rfl rfl;simp only [depF,vsP,pw,qS,qD,and_true,true_and] at f)
    case' o5_7=>have k0:W.cell? ⟨gt1,0,none⟩=some (.int .u64 ce1.vA):=(cw_bx hC).2.1.out.cell 0
    case' o5_8=>have lt0:=LT0.out;have lt1:=LT1.out
    case' o5_23=>have lt0:=LT0.out;have lt1:=LT1.out
    case o5_10=>have fg:vals 9=.bool false:=(Fw.get (f:=vsP (some (.bool false,True))) (hw ⟨9,.guard⟩ (by simp) rfl) (by decide) (by decide) rfl).1;have c:=kn7 hC;clear hL hC hk hw;refine step_guardD rfl (yielded_of rfl fg) ?_;go_simp;first | exact sv rfl ⟨rfl,trivial⟩ | exact ⟨_,rfl,sv rfl ⟨rfl,trivial⟩⟩
    case o5_11=>have fg:vals 9=.bool false:=(Fw.get (f:=vsP (some (.bool false,True))) (hw ⟨9,.guard⟩ (by simp) rfl) (by decide) (by decide) rfl).1;have k5:W.cell? ⟨gt2,5,none⟩=some (.bool true):=(cw_bx hC).1.out.cell 5;have c:=kn7 hC;clear hL hC hk hw;refine step_guardD rfl (yielded_of rfl fg) ?_;go_simp;first | exact sv rfl ⟨rfl,trivial⟩ | exact ⟨_,rfl,sv rfl ⟨rfl,trivial⟩⟩
    case o5_12=>have fg:vals 9=.bool false:=(Fw.get (f:=vsP (some (.bool false,True))) (hw ⟨9,.chain⟩ (by simp) rfl) (by decide) (by decide) rfl).1;have c:=kn7 hC;clear hL hC hk hw;refine step_guardD rfl (yielded_of rfl fg) ?_;go_simp;first | exact sv rfl ⟨rfl,trivial⟩ | exact ⟨_,rfl,sv rfl ⟨rfl,trivial⟩⟩
    case o5_13=>have fg:vals 12=.bool true:=(Fw.get (f:=vsP (some (.bool true,True))) (hw ⟨12,.guard⟩ (by simp) rfl) (by decide) (by decide) rfl).1;have c:=kn7 hC;clear hL hC hk hw;refine step_guardD rfl (yielded_of rfl fg) ?_;go_simp;first | exact sv rfl ⟨rfl,trivial⟩ | exact ⟨_,rfl,sv rfl ⟨rfl,trivial⟩⟩
    case o5_14=>have fg:vals 12=.bool true:=(Fw.get (f:=vsP (some (.bool true,True))) (hw ⟨12,.guard⟩ (by simp) rfl) (by decide) (by decide) rfl).1;have c:=kn7 hC;clear hL hC hk hw;refine step_guardD rfl (yielded_of rfl fg) ?_;go_simp;first | exact sv rfl ⟨rfl,trivial⟩ | exact ⟨_,rfl,sv rfl ⟨rfl,trivial⟩⟩
    case o5_15=>have fg:vals 12=.bool true:=(Fw.get (f:=vsP (some (.bool true,True))) (hw ⟨12,.guard⟩ (by simp) rfl) (by decide) (by decide) rfl).1;have k0:W.cell? ⟨gt2,0,none⟩=some (.int .u64 ce2.vA):=(cw_bx hC).1.out.cell 0;have c:=kn7 hC;clear hL hC hk hw;refine step_guardD rfl (yielded_of rfl fg) ?_;go_simp;first | exact sv rfl ⟨rfl,trivial⟩ | exact ⟨_,rfl,sv rfl ⟨rfl,trivial⟩⟩
    case o5_16=>have fg:vals 12=.bool true:=(Fw.get (f:=vsP (some (.bool true,True))) (hw ⟨12,.guard⟩ (by simp) rfl) (by decide) (by decide) rfl).1;have c:=kn7 hC;clear hL hC hk hw;refine step_guardD rfl (yielded_of rfl fg) ?_;go_simp;first | exact sv rfl ⟨rfl,trivial⟩ | exact ⟨_,rfl,sv rfl ⟨rfl,trivial⟩⟩
    case o5_17=>have fg:vals 12=.bool true:=(Fw.get (f:=vsP (some (.bool true,True))) (hw ⟨12,.guard⟩ (by simp) rfl) (by decide) (by decide) rfl).1;have c:=kn7 hC;clear hL hC hk hw;refine step_guardD rfl (yielded_of rfl fg) ?_;go_simp;first | exact sv rfl ⟨rfl,trivial⟩ | exact ⟨_,rfl,sv rfl ⟨rfl,trivial⟩⟩
    case o5_18=>have fg:vals 12=.bool true:=(Fw.get (f:=vsP (some (.bool true,True))) (hw ⟨12,.guard⟩ (by simp) rfl) (by decide) (by decide) rfl).1;have c:=kn7 hC;clear hL hC hk hw;refine step_guardD rfl (yielded_of rfl fg) ?_;go_simp;first | exact sv rfl ⟨rfl,trivial⟩ | exact ⟨_,rfl,sv rfl ⟨rfl,trivial⟩⟩
    case o5_19=>have fg:vals 12=.bool true:=(Fw.get (f:=vsP (some (.bool true,True))) (hw ⟨12,.guard⟩ (by simp) rfl) (by decide) (by decide) rfl).1;have c:=kn7 hC;clear hL hC hk hw;refine step_guardD rfl (yielded_of rfl fg) ?_;go_simp;first | exact sv rfl ⟨rfl,trivial⟩ | exact ⟨_,rfl,sv rfl ⟨rfl,trivial⟩⟩
    case o5_20=>have fg:vals 12=.bool true:=(Fw.get (f:=vsP (some (.bool true,True))) (hw ⟨12,.guard⟩ (by simp) rfl) (by decide) (by decide) rfl).1;have c:=kn7 hC;clear hL hC hk hw;refine step_guardD rfl (yielded_of rfl fg) ?_;go_simp;first | exact sv rfl ⟨rfl,trivial⟩ | exact ⟨_,rfl,sv rfl ⟨rfl,trivial⟩⟩
    case o5_21=>have fg:vals 12=.bool true:=(Fw.get (f:=vsP (some (.bool true,True))) (hw ⟨12,.guard⟩ (by simp) rfl) (by decide) (by decide) rfl).1;have lt0:=LT0.out;have lt1:=LT1.out;have c:=kn7 hC;clear hL hC hk hw;refine step_guardD rfl (yielded_of rfl fg) ?_;go_simp;first | exact sv rfl ⟨rfl,trivial⟩ | exact ⟨_,rfl,sv rfl ⟨rfl,trivial⟩⟩
    case o5_22=>have fg:vals 9=.bool false:=(Fw.get (f:=vsP (some (.bool false,True))) (hw ⟨9,.guard⟩ (by simp) rfl) (by decide) (by decide) rfl).1;have lt0:=LT0.out;have lt1:=LT1.out;have c:=kn7 hC;clear hL hC hk hw;refine step_guardD rfl (yielded_of rfl fg) ?_;go_simp;first | exact sv rfl ⟨rfl,trivial⟩ | exact ⟨_,rfl,sv rfl ⟨rfl,trivial⟩⟩
    case o5_24=>have AX:=Lib.hid (hC.pre hk);clear hL hC hk hw;refine spD rfl ?_;go_simp;(with_reducible refine (deny_no 214 _).mono ?_);rintro e w8 ⟨rfl,rfl⟩;first | exact kv (Fr.refl _ _) AX.out.sb rfl ⟨rfl,trivial⟩ | exact ⟨_,rfl,kv (Fr.refl _ _) AX.out.sb rfl ⟨rfl,trivial⟩⟩
    all_goals (have c:=kn7 hC;clear hL hC hk hw;refine spD rfl ?_;go_simp;first | exact sv rfl ⟨rfl,trivial⟩ | exact ⟨_,rfl,sv rfl ⟨rfl,trivial⟩⟩)
  simp only [allF,vsP,pw,true_and,and_true,Nat.reduceAdd] at hall
  simp only [TL,Act.put,qA,qC,qZ,hall]
  replace SS:=Lib.hid hB.st
  clear hall vals hB LT0 LT1
  go_upto_region 7 with fail
  refine wp_SG0 (D:=DP w g q v base i p l seen (oBid q) Rp.enc) 9 12 10 11 (seen[i + 1 + 1 + 1]?=some ce3∧ce3.is=true) (i + 1 + 1 + 1 + 1) #[.int .u64 ce3.A,.int .u64 ce3.B,.int .u8 1,.int .u32 q.wh,.int .u32 0,.bool true] [pw g 0,pw g 0,pw g 7,pw g 0,pw g 0,pw g 0,pw g 1,some (.int .u32 q.wh,True),some (.agg #[.int .u8 1,.int .u32 q.wh,.int .u32 0],True),some (.agg (thing ce3.A ce3.B 1 q.wh 0 true),True),none,none] SS.out BEG.out (fun vals=>?_) (fun vals W7 hB hfin htold hall=>?_) (ea 10 rfl)
  · simp only [ObD,Act.put,qA,qC,qZ]
    refine ⟨?_,?_,?_,?_,?_,?_,?_,?_,?o6_8,?o6_9,?o6_10,?o6_11,trivial⟩
    all_goals (intro L W hL hk hC hw;have f:=depsG hw rfl rfl rfl;simp only [depF,vsP,pw,qS,qD,and_true,true_and] at f)
    case o6_8=>have CL:=Lib.hid (purse_any q.wh W);clear hL hC hk hw;refine spD rfl ?_;go_simp;(with_reducible refine CL.out.mono ?_);rintro e w8 ⟨rfl,h2⟩;first | exact gq h2 rfl ⟨rfl,trivial⟩ | exact ⟨_,rfl,gq h2 rfl ⟨rfl,trivial⟩⟩
    case o6_9=>
      have CL:=Lib.hid (there_KG (hC.pre hk) BEG.out (by have:=HI.out;omega) CE3.out 1 q.wh 0);clear hL hC hk hw;refine spD rfl ?_;go_simp;(with_reducible refine CL.out.mono ?_);rintro e w8 (⟨h,rfl,h2⟩ | ⟨h,h3,rfl,h2⟩ | ⟨rfl,hf,H⟩)
      · exact ⟨_,rfl,Did.miss (by unfold oBid;simp only [runOm_bind,run_there S0.out.1 S0.out.2,decide_eq_false (HC.out ce0 S0.out.1),run_deny_no,run_look S1.out,run_look S2.out,decide_eq_false (show ¬ q.n < ce1.vA by have:=H1.out ce1 S1.out;omega),I2.out,decide_eq_false (show ¬ q.n≤ce2.vA by have:=H3.out ce2 S2.out;omega),Bool.true_and,Bool.or_self,run_deny_no,run_there_no h]) h2⟩
      · exact ⟨_,rfl,Did.err (by unfold oBid;simp only [runOm_bind,run_there S0.out.1 S0.out.2,decide_eq_false (HC.out ce0 S0.out.1),run_deny_no,run_look S1.out,run_look S2.out,decide_eq_false (show ¬ q.n < ce1.vA by have:=H1.out ce1 S1.out;omega),I2.out,decide_eq_false (show ¬ q.n≤ce2.vA by have:=H3.out ce2 S2.out;omega),Bool.true_and,Bool.or_self,run_deny_no,run_there_not h h3]) h2⟩
      · first | exact gk hf H rfl ⟨rfl,trivial⟩ | exact ⟨_,rfl,gk hf H rfl ⟨rfl,trivial⟩⟩
    case o6_10=>have ZZ:=hC.fr.size;unfold thing at f;clear hL hC hk hw;refine spD rfl ?_;go_simp;first | exact gm0 ZZ | exact ⟨_,rfl,gm0 ZZ⟩
    case o6_11=>clear hL hC hk hw;refine spD rfl ?_;go_simp;first | exact gt_ | exact ⟨_,rfl,gt_⟩
    all_goals (have c:=kg7 hC;clear hL hC hk hw;refine spD rfl ?_;go_simp;first | exact gv rfl ⟨rfl,trivial⟩ | exact ⟨_,rfl,gv rfl ⟨rfl,trivial⟩⟩)
  have S3:=Lib.hid hB.1
  simp only [allF,vsP,pw,true_and,and_true,Nat.reduceAdd] at hall
  obtain ⟨gl,fs,hor,bx⟩:=hfin
  rw [fs] at htold
  simp only [TL,Act.put,qA,qC,qZ,hall,htold,fs]
  replace SS:=Lib.hid (SS.out.pushP BEG.out hB.st SS.out.lt hor (Pile.of_box (n:=1) bx rfl (by decide)))
  clear hall vals hB htold fs hor bx
  have y0:W7.cell? ⟨gt2,5,none⟩=some (.bool true):=SS.out.bx.2.1.out.cell 5
  go_upto_region 10 with fail
  clear y0
  have y0:W7.cell? ⟨g,1,none⟩=some (.int .u32 q.wh):=SS.out.kn.c1
  have y1:W7.cell? ⟨gt2,1,none⟩=some (.int .u64 ce2.vB):=SS.out.bx.2.1.out.cell 1
  have cw:IntKind.u32.wrap ce2.vB=lo32 ce2.vB:=wrap_u32 _
  have d1:(lo32 ce2.vB == q.wh)=false:=by have:=H4.out ce2 S2.out;simpa using this
  have d2:(lo32 ce2.vB != q.wh)=true:=by have:=H4.out ce2 S2.out;simpa using this
  go_quiet (fail)
  have hbl:Below W7.heap.size W7 (W7.drewN nq):=below_drewN (Below.refl _ _) nq
  generalize W7.drewN nq=W8 at hbl ⊢
  clear cw d1 d2 y0 y1
  replace SS:=Lib.hid (SS.out.later hbl)
  clear hbl
  go_upto_region 12 with fail
  refine wp_SGO (D:=DP w g q v base i p l seen (oBid q) Rp.enc) 9 10 11 12 2 (SB (seen[i + 1 + 1 + 1 + 1]?=some ce4) False w g q v base p (i + 1 + 1 + 1 + 1 + 1) p l [.box gt2 #[.int .u64 ce2.vA,.int .u64 ce2.vB,.int .u8 7,.int .u32 q.id,.int .u32 0,.bool true] 130,.box gt1 #[.int .u64 ce1.vA,.int .u64 ce1.vB,.int .u8 7,.int .u32 q.id,.int .u32 1,.bool ce1.is] 130,.box gt0 #[.int .u64 ce0.A,.int .u64 ce0.B,.int .u8 6,.int .u32 q.id,.int .u32 0,.bool true] 130,.box w.heap.size #[.int .u16 0,.int .u64 0,.int .u64 0,.int .u64 0] 35]) #[.int .u64 ce4.vA,.int .u64 ce4.vB,.int .u8 1,.int .u32 (lo32 ce2.vB),.int .u32 0,.bool ce4.is] #[.int .u64 ce3.A,.int .u64 ce3.B,.int .u8 1,.int .u32 q.wh,.int .u32 0,.bool true,.int .u64 ce4.vA,.int .u64 ce4.vB,.int .u8 1,.int .u32 (lo32 ce2.vB),.int .u32 0,.bool ce4.is] [some (.slice (some ⟨gl,0,none⟩) 1 1,True),pw g 0,pw g 0,pw g 7,some (.pointer (some ⟨gt2,0,none⟩),True),some (.pointer (some ⟨gt2,1,none⟩),True),some (.int .u64 ce2.vB,True),some (.int .u32 (lo32 ce2.vB),True),some (.agg #[.int .u8 1,.int .u32 (lo32 ce2.vB),.int .u32 0],True),some (.agg (thing ce4.vA ce4.vB 1 (lo32 ce2.vB) 0 ce4.is),True),none,none,none] 0 SS.out BEG.out rfl rfl (fun vals=>?_) (fun vals W9 hB hfin htold hall=>?_) (ea 10 rfl) (ea 11 rfl)
  · simp only [ObD,Act.put,qA,qC,qZ]
    refine ⟨?_,?_,?_,?_,?_,?_,?o8_6,?o8_7,?o8_8,?o8_9,?o8_10,?o8_11,?o8_12,trivial⟩
    all_goals (intro L W hL hk hC hw;have f:=depsG hw rfl rfl rfl;simp only [depF,vsP,pw,qS,qD,and_true,true_and] at f)
    case' o8_6=>have k1:W.cell? ⟨gt2,1,none⟩=some (.int .u64 ce2.vB):=(cg_bx hC).1.out.cell 1
    case' o8_7=>have hcv:IntKind.u32.wrap ce2.vB=(lo32 ce2.vB):=rfl
    case o8_8=>have CL:=Lib.hid (purse_any (lo32 ce2.vB) W);clear hL hC hk hw;refine spD rfl ?_;go_simp;(with_reducible refine CL.out.mono ?_);rintro e w8 ⟨rfl,h2⟩;first | exact gq h2 rfl ⟨rfl,trivial⟩ | exact ⟨_,rfl,gq h2 rfl ⟨rfl,trivial⟩⟩
    case o8_9=>
      have CL:=Lib.hid (look_KG (hC.pre hk) BEG.out (by have:=HI.out;omega) CE4.out 1 (lo32 ce2.vB) 0);clear hL hC hk hw;refine spD rfl ?_;go_simp;(with_reducible refine CL.out.mono ?_);rintro e w8 (⟨h,rfl,h2⟩ | ⟨h1,rfl,hf,H⟩)
      · exact ⟨_,rfl,Did.miss (by unfold oBid;simp only [runOm_bind,run_there S0.out.1 S0.out.2,decide_eq_false (HC.out ce0 S0.out.1),run_deny_no,run_look S1.out,run_look S2.out,decide_eq_false (show ¬ q.n < ce1.vA by have:=H1.out ce1 S1.out;omega),I2.out,decide_eq_false (show ¬ q.n≤ce2.vA by have:=H3.out ce2 S2.out;omega),Bool.true_and,Bool.or_self,run_deny_no,run_there S3.out.1 S3.out.2,if_true,if_pos (H4.out ce2 S2.out),run_look_no h]) h2⟩
      · first | exact gk hf H rfl ⟨rfl,trivial⟩ | exact ⟨_,rfl,gk hf H rfl ⟨rfl,trivial⟩⟩
    case o8_10=>have ZZ:=hC.fr.size;unfold thing at f;clear hL hC hk hw;refine spD rfl ?_;go_simp;first | exact gm1 ZZ | exact ⟨_,rfl,gm1 ZZ⟩
    case o8_11=>
      have GZ:=hC.fr.size;have fm:vals 0=.slice (some ⟨gl,0,none⟩) 1 1:=(Fg.get (f:=vsP (some (.slice (some ⟨gl,0,none⟩) 1 1,True))) (hw ⟨0,.data⟩ (by simp) rfl) (by decide) (by decide) (by decide) rfl).1;obtain ⟨gb,fa,hgb,bxb⟩:=Fg.geta (hw ⟨10,.data⟩ (by simp) rfl) (by decide) (by decide);have FA:=Lib.hid fa;have BXB:=Lib.hid bxb;obtain ⟨i0,hi0,hz0,hz1,hz2⟩:=info_parts thing_info;have GR:=Lib.hid (hC.row hk)
      clear hL hC hk hw
      refine step_append_lies _ (by rfl) _ _ _ (by rfl) gl 130 i0 _ 6 32 Tryz.underlying140 hi0 hz0 hz1 hz2 rfl (by omega) (.slice (some ⟨gl,0,none⟩) 1 1) 1 _ (Eq.trans (by rfl) fm) GR.out ⟨gb,0,none⟩ 1 1 [.int .u64 ce4.vA,.int .u64 ce4.vB,.int .u8 1,.int .u32 (lo32 ce2.vB),.int .u32 0,.bool ce4.is] (Eq.trans (by rfl) FA.out) rfl (World.news_of_block (cs:=#[.int .u64 ce4.vA,.int .u64 ce4.vB,.int .u8 1,.int .u32 (lo32 ce2.vB),.int .u32 0,.bool ce4.is]) (t:=130) (fr:=(0,0)) BXB.out) (by simp [Value.oneCell']) (by omega) (by unfold maxLen;omega) (by omega) (Nat.le_of_lt GR.out.lt) W.heap.size rfl ?_
      intro gg cc WQ hown1 hgrow hat hlt1
      exact ⟨_,rfl,ga SS.out BEG.out (n:=0) rfl rfl GR.out GZ (by simpa using hown1) hgrow hat⟩
    case o8_12=>clear hL hC hk hw;refine spD rfl ?_;go_simp;first | exact gt_ | exact ⟨_,rfl,gt_⟩
    all_goals (have c:=kg7 hC;clear hL hC hk hw;refine spD rfl ?_;go_simp;first | exact gv rfl ⟨rfl,trivial⟩ | exact ⟨_,rfl,gv rfl ⟨rfl,trivial⟩⟩)
  have S4:=Lib.hid hB.1
  simp only [allF,vsP,pw,true_and,and_true,Nat.reduceAdd] at hall
  obtain ⟨gm,cap_gm,fs,hor,bx⟩:=hfin
  rw [fs] at htold
  simp only [TL,Act.put,qA,qC,qZ,hall,htold,fs]
  generalize vals 10=vz8
  replace SS:=Lib.hid (SS.out.regrow BEG.out 0 rfl rfl hB.st hor bx)
  clear hall vals hB htold fs hor bx
  go_upto_region 13 with fail
  refine wp_S (D:=DP w g q v base i p l seen (oBid q) Rp.enc) 15 16 17 (SB True False w g q v base p (i + 1 + 1 + 1 + 1 + 1) p l [.pile gm 2 cap_gm #[.int .u64 ce3.A,.int .u64 ce3.B,.int .u8 1,.int .u32 q.wh,.int .u32 0,.bool true,.int .u64 (ce4.vA + ce2.vA),.int .u64 ce4.vB,.int .u8 1,.int .u32 (lo32 ce2.vB),.int .u32 0,.bool ce4.is],.box gt2 #[.int .u64 ce2.vA,.int .u64 ce2.vB,.int .u8 7,.int .u32 q.id,.int .u32 0,.bool true] 130,.box gt1 #[.int .u64 ce1.vA,.int .u64 ce1.vB,.int .u8 7,.int .u32 q.id,.int .u32 1,.bool ce1.is] 130,.box gt0 #[.int .u64 ce0.A,.int .u64 ce0.B,.int .u8 6,.int .u32 q.id,.int .u32 0,.bool true] 130,.box w.heap.size #[.int .u16 0,.int .u64 0,.int .u64 0,.int .u64 0] 35]) [some (.slice (some ⟨gm,0,none⟩) 2 cap_gm,True),some (.int .i64 1,True),some (.slice (some ⟨gm,0,none⟩) 2 cap_gm,True),some (.int .i64 1,True),some (.pointer (some ⟨gm,6,none⟩),True),some (.pointer (some ⟨gm,6,none⟩),True),some (.pointer (some ⟨gm,6,none⟩),True),some (.int .u64 ce4.vA,True),some (.pointer (some ⟨gt2,0,none⟩),True),some (.pointer (some ⟨gt2,0,none⟩),True),some (.int .u64 ce2.vA,True),some (.int .u64 (ce4.vA + ce2.vA),Mr ce4.vA ce2.vA),some (.pointer (some ⟨gm,6,none⟩),True),some (.pointer (some ⟨gm,6,none⟩),True),some (.pointer (some ⟨gm,6,none⟩),True),some (undef,True)] SS.out (fun vals=>?_) (fun vals W10 hB hall=>?_)
  · simp only [ObD,Act.put,qA,qC,qZ]
    refine ⟨?_,?_,?_,?_,?_,?_,?_,?o9_7,?_,?_,?o9_10,?o9_11,?_,?_,?_,?o9_15,trivial⟩
    all_goals (intro L W hL hk hC hw;have f:=deps hw rfl rfl;simp only [depF,vsP,pw,qS,qD,and_true,true_and] at f)
    case' o9_7=>have k6:W.cell? ⟨gm,6,none⟩=some (.int .u64 ce4.vA):=(hC.pre (hL.not_yet hk 15 16 (by decide +kernel))).bx.1.out.cell 6
    case' o9_10=>have k0:W.cell? ⟨gt2,0,none⟩=some (.int .u64 ce2.vA):=(hC.pre (hL.not_yet hk 15 16 (by decide +kernel))).bx.2.1.out.cell 0
    case o9_11=>
      have CL:=Lib.hid (more_C (vA_ok HOK.out S4.out) (vA_ok HOK.out S2.out) hC SS.out BEG.out);clear hL hC hk hw;refine spD rfl ?_;go_simp;(with_reducible refine CL.out.mono ?_)
      rintro e w8 (⟨h,rfl,h2⟩ | ⟨h1,rfl,h2⟩)
      · exact ⟨_,rfl,Did.err (by unfold oBid;simp only [runOm_bind,run_there S0.out.1 S0.out.2,decide_eq_false (HC.out ce0 S0.out.1),run_deny_no,run_look S1.out,run_look S2.out,decide_eq_false (show ¬ q.n < ce1.vA by have:=H1.out ce1 S1.out;omega),I2.out,decide_eq_false (show ¬ q.n≤ce2.vA by have:=H3.out ce2 S2.out;omega),Bool.true_and,Bool.or_self,run_deny_no,run_there S3.out.1 S3.out.2,if_true,if_pos (H4.out ce2 S2.out),run_look S4.out,run_more_no h]) h2⟩
      · first | exact sq h2 rfl ⟨rfl,h1⟩ | exact ⟨_,rfl,sq h2 rfl ⟨rfl,h1⟩⟩
    case o9_15=>have PRE:=hC.pre hk;have q0:W.cell? ⟨gm,6,none⟩=some (.int .u64 ce4.vA):=PRE.bx.1.out.cell 6;have r0:=PRE.bx.1.out.frozen 6;have P:=Lib.hid PRE;clear PRE;clear hL hC hk hw;refine spD rfl ?_;go_simp;exact ks (ksP SS.out P.out BEG.out 0 rfl) rfl ⟨rfl,trivial⟩
    all_goals (have c:=kn7 hC;clear hL hC hk hw;refine spD rfl ?_;go_simp;first | exact sv rfl ⟨rfl,trivial⟩ | exact ⟨_,rfl,sv rfl ⟨rfl,trivial⟩⟩)
  have C10:Hid (Mr ce4.vA ce2.vA):=Lib.hid (vsP_c (hall.get 11))
  simp only [allF,vsP,pw,true_and,and_true,Nat.reduceAdd] at hall
  simp only [TL,Act.put,qA,qC,qZ,hall]
  replace SS:=Lib.hid hB.st
  clear hall vals hB
  go_upto_region 14 with fail
  refine wp_S (D:=DP w g q v base i p l seen (oBid q) Rp.enc) 15 16 17 (SB True False w g q v base p (i + 1 + 1 + 1 + 1 + 1) p l [.pile gm 2 cap_gm #[.int .u64 (ce3.A - q.n),.int .u64 ce3.B,.int .u8 1,.int .u32 q.wh,.int .u32 0,.bool true,.int .u64 (ce4.vA + ce2.vA),.int .u64 ce4.vB,.int .u8 1,.int .u32 (lo32 ce2.vB),.int .u32 0,.bool ce4.is],.box gt2 #[.int .u64 ce2.vA,.int .u64 ce2.vB,.int .u8 7,.int .u32 q.id,.int .u32 0,.bool true] 130,.box gt1 #[.int .u64 ce1.vA,.int .u64 ce1.vB,.int .u8 7,.int .u32 q.id,.int .u32 1,.bool ce1.is] 130,.box gt0 #[.int .u64 ce0.A,.int .u64 ce0.B,.int .u8 6,.int .u32 q.id,.int .u32 0,.bool true] 130,.box w.heap.size #[.int .u16 0,.int .u64 0,.int .u64 0,.int .u64 0] 35]) [some (.slice (some ⟨gm,0,none⟩) 2 cap_gm,True),some (.slice (some ⟨gm,0,none⟩) 2 cap_gm,True),some (.pointer (some ⟨gm,0,none⟩),True),some (.pointer (some ⟨gm,0,none⟩),True),some (.pointer (some ⟨gm,0,none⟩),True),some (.int .u64 ce3.A,True),pw g 0,pw g 0,pw g 0,pw g 5,some (.int .u64 q.n,True),some (.int .u64 (ce3.A - q.n),Ls ce3.A q.n),some (.pointer (some ⟨gm,0,none⟩),True),some (.pointer (some ⟨gm,0,none⟩),True),some (.pointer (some ⟨gm,0,none⟩),True),some (undef,True)] SS.out (fun vals=>?_) (fun vals W11 hB hall=>?_)
  · simp only [ObD,Act.put,qA,qC,qZ]
    refine ⟨?_,?_,?_,?_,?_,?o10_5,?_,?_,?_,?_,?_,?o10_11,?_,?_,?_,?o10_15,trivial⟩
    all_goals (intro L W hL hk hC hw;have f:=deps hw rfl rfl;simp only [depF,vsP,pw,qS,qD,and_true,true_and] at f)
    case' o10_5=>have k0:W.cell? ⟨gm,0,none⟩=some (.int .u64 ce3.A):=(hC.pre (hL.not_yet hk 15 16 (by decide +kernel))).bx.1.out.cell 0
    case o10_11=>
      have CL:=Lib.hid (less_C (A_ok HOK.out S3.out.1) HQ.out.n hC SS.out BEG.out);clear hL hC hk hw;refine spD rfl ?_;go_simp;(with_reducible refine CL.out.mono ?_)
      rintro e w8 (⟨h,rfl,h2⟩ | ⟨⟨h,h3⟩,rfl,h2⟩ | ⟨h1,rfl,h2⟩)
      · exact ⟨_,rfl,Did.err (by unfold oBid;simp only [runOm_bind,run_there S0.out.1 S0.out.2,decide_eq_false (HC.out ce0 S0.out.1),run_deny_no,run_look S1.out,run_look S2.out,decide_eq_false (show ¬ q.n < ce1.vA by have:=H1.out ce1 S1.out;omega),I2.out,decide_eq_false (show ¬ q.n≤ce2.vA by have:=H3.out ce2 S2.out;omega),Bool.true_and,Bool.or_self,run_deny_no,run_there S3.out.1 S3.out.2,if_true,if_pos (H4.out ce2 S2.out),run_look S4.out,run_more C10.out,run_less_great h]) h2⟩
      · exact ⟨_,rfl,Did.err (by unfold oBid;simp only [runOm_bind,run_there S0.out.1 S0.out.2,decide_eq_false (HC.out ce0 S0.out.1),run_deny_no,run_look S1.out,run_look S2.out,decide_eq_false (show ¬ q.n < ce1.vA by have:=H1.out ce1 S1.out;omega),I2.out,decide_eq_false (show ¬ q.n≤ce2.vA by have:=H3.out ce2 S2.out;omega),Bool.true_and,Bool.or_self,run_deny_no,run_there S3.out.1 S3.out.2,if_true,if_pos (H4.out ce2 S2.out),run_look S4.out,run_more C10.out,run_less_low h h3]) h2⟩
      · first | exact sq h2 rfl ⟨rfl,h1⟩ | exact ⟨_,rfl,sq h2 rfl ⟨rfl,h1⟩⟩
    case o10_15=>have PRE:=hC.pre hk;have q0:W.cell? ⟨gm,0,none⟩=some (.int .u64 ce3.A):=PRE.bx.1.out.cell 0;have r0:=PRE.bx.1.out.frozen 0;have P:=Lib.hid PRE;clear PRE;clear hL hC hk hw;refine spD rfl ?_;go_simp;exact ks (ksP SS.out P.out BEG.out 0 rfl) rfl ⟨rfl,trivial⟩
    all_goals (have c:=kn7 hC;clear hL hC hk hw;refine spD rfl ?_;go_simp;first | exact sv rfl ⟨rfl,trivial⟩ | exact ⟨_,rfl,sv rfl ⟨rfl,trivial⟩⟩)
  have C11:Hid (Ls ce3.A q.n):=Lib.hid (vsP_c (hall.get 11))
  simp only [allF,vsP,pw,true_and,and_true,Nat.reduceAdd] at hall
  simp only [TL,Act.put,qA,qC,qZ,hall]
  replace SS:=Lib.hid hB.st
  clear hall vals hB
  go_wp2
  refine wp_loop_rounds 3 ?_
  obtain ⟨y0,y1,y2,y3,y4,y5⟩:=pile6 SS.out.bx.1.out 0 1 2 3 4 5 rfl rfl rfl rfl rfl rfl
  rw [rounds_succ]
  obtain ⟨W12,hWn⟩:∃ W12,W11.alloc (.cells #[.int .u64 (ce3.A - q.n),.int .u64 ce3.B,.int .u8 1,.int .u32 q.wh,.int .u32 0,.bool true] 130)=W12:=⟨_,rfl⟩
  obtain ⟨gq0,hgn⟩:∃ gq0,W11.heap.size=gq0:=⟨_,rfl⟩
  have TT:=SS.out.alloc BEG.out #[.int .u64 (ce3.A - q.n),.int .u64 ce3.B,.int .u8 1,.int .u32 q.wh,.int .u32 0,.bool true] 130
  rw [hgn,hWn] at TT
  replace TT:=Lib.hid TT
  have HWN:=Lib.hid hWn
  have HGN:=Lib.hid hgn
  clear hWn hgn
  go_wp2_with fail
  clear y0 y1 y2 y3 y4 y5
  try rw [HWN.out]
  try rw [HGN.out]
  clear HWN HGN SS
  have SS:=TT
  clear TT
  have CALL:=Lib.hid (amount_S SS.out BEG.out (by have:=HL.out;(try simp only [List.length_append,List.length_cons,List.length_nil]);omega) 1 q.wh 0 (ce3.A - q.n) (show _=l++[amt 1 q.wh 0 (ce3.A - q.n)] by simp))
  (with_reducible refine CALL.out.mono ?_)
  rintro e W13 ⟨rfl,hf,p13,hs⟩
  replace SS:=Lib.hid hs
  clear CALL hf hs
  go_wp2
  replace SS:=Lib.hid SS.out.drop
  obtain ⟨y0,y1,y2,y3,y4,y5⟩:=pile6 SS.out.bx.1.out 6 7 8 9 10 11 rfl rfl rfl rfl rfl rfl
  rw [rounds_succ]
  obtain ⟨W14,hWn⟩:∃ W14,W13.alloc (.cells #[.int .u64 (ce4.vA + ce2.vA),.int .u64 ce4.vB,.int .u8 1,.int .u32 (lo32 ce2.vB),.int .u32 0,.bool ce4.is] 130)=W14:=⟨_,rfl⟩
  obtain ⟨gq1,hgn⟩:∃ gq1,W13.heap.size=gq1:=⟨_,rfl⟩
  have TT:=SS.out.alloc BEG.out #[.int .u64 (ce4.vA + ce2.vA),.int .u64 ce4.vB,.int .u8 1,.int .u32 (lo32 ce2.vB),.int .u32 0,.bool ce4.is] 130
  rw [hgn,hWn] at TT
  replace TT:=Lib.hid TT
  have HWN:=Lib.hid hWn
  have HGN:=Lib.hid hgn
  clear hWn hgn
  go_wp2_with fail
  clear y0 y1 y2 y3 y4 y5
  try rw [HWN.out]
  try rw [HGN.out]
  clear HWN HGN SS
  have SS:=TT
  clear TT
  have CALL:=Lib.hid (amount_S SS.out BEG.out (by have:=HL.out;(try simp only [List.length_append,List.length_cons,List.length_nil]);omega) 1 (lo32 ce2.vB) 0 (ce4.vA + ce2.vA) (show _=l++[amt 1 q.wh 0 (ce3.A - q.n),amt 1 (lo32 ce2.vB) 0 (ce4.vA + ce2.vA)] by simp))
  (with_reducible refine CALL.out.mono ?_)
  rintro e W15 ⟨rfl,hf,p15,hs⟩
  replace SS:=Lib.hid hs
  clear CALL hf hs
  go_wp2
  replace SS:=Lib.hid SS.out.drop
  rw [rounds_succ]
  go_upto_region 20 with fail
  refine wp_SA (D:=DP w g q v base i p l seen (oBid q) Rp.enc) 15 16 17 True True (i + 1 + 1 + 1 + 1 + 1) (l++[amt 1 q.wh 0 (ce3.A - q.n),amt 1 (lo32 ce2.vB) 0 (ce4.vA + ce2.vA),Pu.mk 7 q.id 0 q.n q.wh false]) [pw g 0,some (.pointer (some ⟨gt2,2,none⟩),True),some (.agg #[.int .u8 7,.int .u32 q.id,.int .u32 0],True),pw g 0,pw g 0,pw g 0,pw g 5,some (.int .u64 q.n,True),pw g 0,pw g 0,pw g 0,pw g 1,some (.int .u32 q.wh,True),some (.int .u64 q.wh,True),some (.agg #[.int .u64 q.n,.int .u64 q.wh],True),some (.tuple #[],True)] SS.out (fun vals=>?_) (fun vals W16 hB hall=>?_)
  · simp only [ObD,Act.put,qA,qC,qZ]
    refine ⟨?_,?_,?o15_2,?_,?_,?_,?_,?_,?_,?_,?_,?_,?_,?o15_13,?_,?o15_15,trivial⟩
    all_goals (intro L W hL hk hC hw;have f:=deps hw rfl rfl;simp only [depF,vsP,pw,qS,qD,and_true,true_and] at f)
    case' o15_2=>have k2:W.cell? ⟨gt2,2,none⟩=some (.int .u8 7):=(cw_bx hC).2.1.out.cell 2;have k3:W.cell? ⟨gt2,3,none⟩=some (.int .u32 q.id):=(cw_bx hC).2.1.out.cell 3;have k4:W.cell? ⟨gt2,4,none⟩=some (.int .u32 0):=(cw_bx hC).2.1.out.cell 4
    case' o15_13=>have hcv:IntKind.u64.wrap q.wh=q.wh:=wrap_u64 (HQ.out.wh).1 (by have:=(HQ.out.wh).2;omega)
    case o15_15=>have CL:=Lib.hid (pk SS.out BEG.out (put_S (hC.pre hk) BEG.out (by have:=HL.out;(try simp only [List.length_append,List.length_cons,List.length_nil]);omega) 7 q.id 0 q.n q.wh (show _=l++[amt 1 q.wh 0 (ce3.A - q.n),amt 1 (lo32 ce2.vB) 0 (ce4.vA + ce2.vA),Pu.mk 7 q.id 0 q.n q.wh false] by simp)));clear hL hC hk hw;refine spD rfl ?_;go_simp;(with_reducible refine CL.out.mono ?_);rintro e w8 ⟨rfl,hf,H⟩;first | exact kv hf H rfl ⟨rfl,trivial⟩ | exact ⟨_,rfl,kv hf H rfl ⟨rfl,trivial⟩⟩
    all_goals (have c:=kn7 hC;clear hL hC hk hw;refine spD rfl ?_;go_simp;first | exact sv rfl ⟨rfl,trivial⟩ | exact ⟨_,rfl,sv rfl ⟨rfl,trivial⟩⟩)
  simp only [allF,vsP,pw,true_and,and_true,Nat.reduceAdd] at hall
  simp only [TL,Act.put,qA,qC,qZ,hall]
  obtain ⟨p16,hB⟩:=hB.put
  replace SS:=Lib.hid hB
  clear hall vals hB
  have y0:W16.cell? ⟨g,5,none⟩=some (.int .u64 q.n):=SS.out.kn.c5
  obtain ⟨⟨z0,z1,z2,z3⟩,x0,x1,x2,x3⟩:=four_cells SS.out.bx.2.2.2.2.1.out
  go_wp2
  generalize hW:(World.setCell _ (⟨w.heap.size,3,none⟩:Addr) _)=WZ
  have b9:Box WZ w.heap.size #[.int .u16 0,.int .u64 q.n,.int .u64 0,.int .u64 0] 35:=by
    rw [← hW]
    exact four_box SS.out.bx.2.2.2.2.1.out
  have F9:Hid (Fr (fun x=>x=w.heap.size) W16 WZ):=Lib.hid (by
    rw [← hW]
    exact four_fr)
  obtain ⟨⟨v0,v1,v2,v3⟩,-⟩:=four_cells b9
  clear hW b9 z0 z1 z2 z3 x0 x1 x2 x3 y0
  refine bodyPost_ret (v:=.agg #[.int .u16 0,.int .u64 q.n,.int .u64 0,.int .u64 0]) (by simp [results,Tryz.results74,go_sem,v0,v1,v2,v3];try rfl) rfl ?_
  refine (SS.out.wr BEG.out 4 rfl F9.out).did (y:=(⟨q.n,0,0⟩,l++[amt 1 q.wh 0 (ce3.A - q.n),amt 1 (lo32 ce2.vB) 0 (ce4.vA + ce2.vA),Pu.mk 7 q.id 0 q.n q.wh false])) ?_ rfl
  unfold oBid
  simp only [runOm_bind,runOm_pure,run_there S0.out.1 S0.out.2,decide_eq_false (HC.out ce0 S0.out.1),run_deny_no,run_look S1.out,run_look S2.out,decide_eq_false (show ¬ q.n < ce1.vA by have:=H1.out ce1 S1.out;omega),I2.out,decide_eq_false (show ¬ q.n≤ce2.vA by have:=H3.out ce2 S2.out;omega),Bool.true_and,Bool.or_self,run_deny_no,run_there S3.out.1 S3.out.2,if_true,if_pos (H4.out ce2 S2.out),run_look S4.out,run_more C10.out,run_less C11.out.1 C11.out.2,oAmount,run_put,oAmount,run_put,run_put,List.append_assoc,List.cons_append,List.nil_append]
  try rfl
end Go.Proofs.YtabckmadpdchnaaGreat.Rule
namespace Go.Proofs.YtabckmadpdchnaaGreat.Rule
open Go.ChangeShapes Go.WideShapes Go.ChangeAt Go.RowKit Go.IntWalk Go.Proofs.Mem Go.Proofs.Each
theorem bid_all (w:World) (g:Nat) (q:Ot) (v:Value) (base i:Nat) (p:Value) (l:List Pu) (seen:List Ce) (hst:St w g q v base i p l) (hs:SeenAt w g v seen) (hg:g < base) (hbase:base≤w.heap.size) (hl:l.length≤700) (hi:i≤700000) (hq:q.Ok) (hok:∀ c∈seen,c.Ok) :
    Calls Tryz.prog 74 #[.pointer (some ⟨g,0,none⟩)] w (Did w g q v base i p l seen (oBid q) Rp.enc):=by
  obtain ⟨c0,e0⟩:=the_cell seen i
  obtain ⟨c1,e1⟩:=the_cell seen (i + 1)
  obtain ⟨c2,e2⟩:=the_cell seen (i + 1 + 1)
  by_cases h:hi32 c0.A=q.wh
  · exact bid_own w g q v base i p l seen hst hs hg hbase hl hi hq hok (fun c hc=>by rw [e0 c hc];exact h)
  have hc:∀ c,seen[i]?=some c→hi32 c.A≠q.wh:=fun c hc=>by rw [e0 c hc];exact h
  by_cases h1:q.n < c1.vA
  · exact bid_lowp w g q v base i p l seen hst hs hg hbase hl hi hq hok hc (fun c hc=>by rw [e1 c hc];exact h1)
  have hd:∀ c,seen[i + 1]?=some c→¬ q.n < c.vA:=fun c hc=>by rw [e1 c hc];exact h1
  cases h2:c2.is with
  | false=>exact bid_none w g q v base i p l seen hst hs hg hbase hl hi hq hok hc hd (fun c hc=>by rw [e2 c hc];exact h2)
  | true=>
    have hi2:∀ c,seen[i + 1 + 1]?=some c→c.is=true:=fun c hc=>by rw [e2 c hc];exact h2
    by_cases h3:q.n≤c2.vA
    · exact bid_lowb w g q v base i p l seen hst hs hg hbase hl hi hq hok hc hd hi2 (fun c hc=>by rw [e2 c hc];exact h3)
    have hl3:∀ c,seen[i + 1 + 1]?=some c→¬ q.n≤c.vA:=fun c hc=>by rw [e2 c hc];exact h3
    by_cases h4:lo32 c2.vB=q.wh
    · exact bid_same w g q v base i p l seen hst hs hg hbase hl hi hq hok hc hd hi2 hl3 (fun c hc=>by rw [e2 c hc];exact h4)
    · exact bid_other w g q v base i p l seen hst hs hg hbase hl hi hq hok hc hd hi2 hl3 (fun c hc=>by rw [e2 c hc];exact h4)
end Go.Proofs.YtabckmadpdchnaaGreat.Rule
namespace Go.Proofs.YtabckmadpdchnaaGreat.Rule
open Go.ChangeShapes Go.WideShapes Go.ChangeAt Go.RowKit Go.IntWalk Go.Proofs.Mem Go.Proofs.Stk
theorem compact_same (w:World) (gg n cap:Nat) (xs:List Int) (h:Row32 w gg n cap xs) (h1:2≤n) (hn:n≤12) (hd:∀ j,j + 1 < n→xs.getD (j + 1) 0≠xs.getD j 0) :
    Calls Tryz.prog 109 #[.slice (some ⟨gg,0,none⟩) n cap] w fun e w'=>e=.returned (.slice (some ⟨gg,0,none⟩) n cap)∧Below w.heap.size w w':=by
  have HR:=Lib.hid h
  have HC:=Lib.hid (show n≤cap by obtain ⟨cur,_,_,hc,_⟩:=h.box;exact hc)
  have HD:=Lib.hid hd
  have H1:=Lib.hid h1
  have hlen:=h.len
  have d0:decide ((n:Int) < 2)=false:=by simp;omega
  clear h h1 hd
  go_enter Tryz.func109,Tryz.ntmps109
  go_wp2
  go_loopw [3] (fun s wr=>∃ k:Nat,1≤k∧k≤n∧s=.int .i64 k∧Hid (Below w.heap.size w wr)) (fun s _=>n - (intOf s).toNat)
  case atStart=>exact ⟨1,by omega,by have:=H1.out;omega,rfl,Lib.hid (Below.refl _ _)⟩
  case round=>
    obtain ⟨k,hk1,hk,rfl,HX⟩:=hrel
    have HY:Hid (Row32 wr gg n cap xs):=Lib.hid (HR.out.later HX.out)
    by_cases hl:k < n
    · have d1:decide ((k:Int) < (n:Int))=true:=by simp;omega
      obtain ⟨j,rfl⟩:∃ j,k=j + 1:=⟨k - 1,by omega⟩
      obtain ⟨a,ha⟩:∃ a,xs[j + 1]?=some a:=⟨_,List.getElem?_eq_getElem (by omega)⟩
      obtain ⟨b,hb⟩:∃ b,xs[j]?=some b:=⟨_,List.getElem?_eq_getElem (by omega)⟩
      have ca:=fun e=>(HY.out.drewN e).cell (j + 1) ha
      have cb:=fun e=>(HY.out.drewN e).cell j hb
      have hne:a≠b:=by
        have:=HD.out j hl
        simpa only [List.getD_eq_getElem?_getD,ha,hb,Option.getD_some] using this
      have d2:(a == b)=false:=by simpa using hne
      have s2:((j + 1:Nat):Int) - 1=(j:Int):=by omega
      obtain ⟨k',hk'⟩:∃ k',k'=j + 1 + 1:=⟨_,rfl⟩
      have hks:((j + 1:Nat):Int) + 1=(k':Int):=by omega
      have hk12:(k':Int)≤13:=by omega
      have HK:=Lib.hid hk'
      clear hk' hne
      go_upto_region 6 with fail
      go_quiet (fail)
      go_wp2
      go_roundw
      case rel=>exact ⟨k',by have:=HK.out;omega,by have:=HK.out;omega,(by have e:((j:Int) + 1 + 1)=(k':Int):=(by have:=HK.out;omega);rw [e]),Lib.hid (below_drewN HX.out nq)⟩
      case measure=>simp [intOf];have:=HK.out;omega
    · have d1:decide ((k:Int) < (n:Int))=false:=by simp;omega
      go_wp2
      go_ret
      exact ⟨rfl,HX.out⟩
end Go.Proofs.YtabckmadpdchnaaGreat.Rule
namespace Go.Proofs.YtabckmadpdchnaaGreat.Rule
open Go.ChangeShapes Go.WideShapes Go.ChangeAt Go.RowKit Go.IntWalk Go.Proofs.Mem Go.Proofs.Stk
theorem Row32.front {W:World} {gg cap:Nat} {a b c:Int} (h:Row32 W gg 3 cap [a,b,c]):Row32 W gg 2 cap [a,b]:=by
  obtain ⟨cur,hb,hs,hn,hc,hl,ht⟩:=h.box
  refine ⟨by simp,.inr ⟨gg,cap,cur,rfl,Nat.le_refl _,hb,by omega,hc,by simpa using hs,?_⟩⟩
  have h2:cur.toList.take 2=(cur.toList.take 3).take 2:=by rw [List.take_take];rfl
  rw [Nat.mul_one,h2,ht]
  rfl
theorem compact_556 (w:World) (gg cap:Nat) (h:Row32 w gg 3 cap [5,5,6]) :
    Calls Tryz.prog 109 #[.slice (some ⟨gg,0,none⟩) 3 cap] w fun e w'=>e=.returned (.slice (some ⟨gg,0,none⟩) 2 cap)∧Row32 w' gg 2 cap [5,6]∧Fr (fun x=>x=gg) w w':=by
  have HR:=Lib.hid h
  have hc:3≤cap:=by obtain ⟨cur,_,_,hc,_⟩:=h.box;exact hc
  have hm:cap≤9223372036854775807:=by obtain ⟨cur,_,_,_,hc,_⟩:=h.box;unfold maxLen at hc;omega
  have HC:=Lib.hid hc
  have c0:=fun d=>(HR.out.drewN d).cell 0 (x:=5) rfl
  have c1:=fun d=>(HR.out.drewN d).cell 1 (x:=5) rfl
  have c2:=fun d=>(HR.out.drewN d).cell 2 (x:=6) rfl
  clear h
  go_enter Tryz.func109,Tryz.ntmps109
  go_wp2
  refine wp_loop_rounds 1 ?_
  rw [rounds_succ]
  go_upto_region 6 with fail
  go_quiet (fail)
  go_wp2
  refine wp_loop_rounds 2 ?_
  rw [rounds_succ]
  go_upto_region 11 with fail
  have HR1:=Lib.hid (HR.out.drewN nq)
  have F1:=Lib.hid ((Fr.refl (fun x=>x=gg) w).drewN nq)
  generalize w.drewN nq=w1 at HR1 F1 ⊢
  clear c0 c1 c2
  have c1:=fun d=>(HR1.out.drewN d).cell 1 (x:=5) rfl
  have c2:=fun d=>(HR1.out.drewN d).cell 2 (x:=6) rfl
  have f1:=fun d=>(HR1.out.drewN d).frozen 1
  have f2:=fun d=>(HR1.out.drewN d).frozen 2
  go_quiet (fail)
  go_wp2
  generalize hW2:(World.setCell _ (⟨gg,1,none⟩:Addr) _)=W2
  have HR2:Hid (Row32 W2 gg 3 cap [5,6,6]):=Lib.hid (by rw [← hW2];exact (HR1.out.drewN _).set_ 1 6 (by decide))
  have F2:Hid (Fr (fun x=>x=gg) w W2):=Lib.hid (by rw [← hW2];exact (F1.out.drewN _).setCell (p:=⟨gg,1,none⟩) (.inl rfl) _)
  clear hW2 c1 c2 f1 f2
  have c2:=HR2.out.cell 2 (x:=6) rfl
  have f2:=HR2.out.frozen 2
  have g1:∀ j,j < 1→(W2.cell? ⟨gg,2 + j,none⟩).isSome=true:=fun j hj=>by
    have e:j=0:=by omega
    subst e
    rw [show W2.cell? ⟨gg,2 + 0,none⟩=some (.int .u32 6) from c2]
    rfl
  have g2:∀ j,j < 1→W2.frozen? ⟨gg,2 + j,none⟩=false:=fun j hj=>by
    have e:j=0:=by omega
    subst e
    exact f2
  have hcl:∀ (ty:TypeId) (c:Nat),(Builtin.clear_ #[141] ty #[.slice (some ⟨gg,2,none⟩) 1 c]).run Tryz.prog W2=.ok (.tuple #[]) (W2.setCells gg 2 (List.replicate 1 (.int .u32 0))):=fun ty c=>
    Lib.run_clear_slice W2 _ 23 ty (.int .u32 0) Tryz.underlying141 (fun _=>by kernel_rfl) rfl rfl gg 2 1 c (by omega) g1 g2
  clear g1 g2
  rw [rounds_succ]
  go_wp2
  go_ret
  exact ⟨rfl,(HR2.out.set_ 2 0 (by decide)).front,F2.out.setCell (p:=⟨gg,2,none⟩) (.inl rfl) _⟩
end Go.Proofs.YtabckmadpdchnaaGreat.Rule
namespace Go.Proofs.YtabckmadpdchnaaGreat.Rule
open Go.Proofs.Stk
def rawItems (id:Int):List Int:=((lineS id).1++(lineS id).2).map (·.1)
theorem raw_sorted (id:Int) (h:id=1∨id=2∨id=3∨id=5∨id=6):isortTo (rawItems id).length (rawItems id)=craftItems id:=by
  rcases h with rfl | rfl | rfl | rfl | rfl <;> decide
theorem raw_four:isortTo (rawItems 4).length (rawItems 4)=[5,5,6]:=by decide
theorem raw_len (id:Int) (h:1≤id∧id≤6):2≤(rawItems id).length∧(rawItems id).length≤4:=by
  have:id=1∨id=2∨id=3∨id=4∨id=5∨id=6:=by omega
  rcases this with rfl | rfl | rfl | rfl | rfl | rfl <;> decide
theorem times_fst (n:Int) (l:List Pr):(times n l).map (·.1)=l.map (·.1):=by simp [times]
theorem craft_apart (id:Int) (h:1≤id∧id≤6):∀ j,j + 1 < (craftItems id).length→(craftItems id).getD (j + 1) 0≠(craftItems id).getD j 0:=by
  have key:∀ j,j < 4→j + 1 < (craftItems id).length→(craftItems id).getD (j + 1) 0≠(craftItems id).getD j 0:=by
    have:id=1∨id=2∨id=3∨id=4∨id=5∨id=6:=by omega
    rcases this with rfl | rfl | rfl | rfl | rfl | rfl <;> decide
  exact fun j hj=>key j (by have:=craftItems_len id;omega) hj
end Go.Proofs.YtabckmadpdchnaaGreat.Rule
namespace Go.Proofs.YtabckmadpdchnaaGreat.Rule
open Go.ChangeShapes Go.WideShapes Go.ChangeAt Go.RowKit Go.IntWalk Go.Proofs.Mem Go.Proofs.Stk
open Go.Proofs.YtabckmadpdchnaaGreat.Stk (rv)
theorem u32_info:(Tryz.prog.info? 23).map (fun i=>(i.zero,i.size,i.bytes))=some (some (.int .u32 0),1,4):=by kernel_rfl
theorem Row32.of_own {W:World} {base n:Nat} {v:Value} {xs:List Int} (h:W.ownsRow base 23 1 v n (xs.map (.int .u32))) (hn:0 < n):∃ gg cap,v=.slice (some ⟨gg,0,none⟩) n cap∧base≤gg∧Row32 W gg n cap xs:=by
  obtain ⟨h1,h2 | ⟨g,cap,cur,e,hb,rest⟩⟩:=h
  · omega
  · exact ⟨g,cap,e,hb,by simpa using h1,.inr ⟨g,cap,cur,rfl,Nat.le_refl _,rest⟩⟩
theorem raw_at {l1 l2:List Pr} {id:Int} (e:l1.map (·.1)++l2.map (·.1)=rawItems id) (j:Nat) (h:j < l1.length + l2.length):(rawItems id)[j]?=some ((l1++l2).getD j (0,0)).1:=by
  rw [← e,← List.map_append,List.getElem?_map,List.getD_eq_getElem?_getD,List.getElem?_eq_getElem (by simpa using h)]
  rfl
theorem items_raw (id:Int) (w:World) (g1 g2:Nat) (l1 l2:List Pr) (e1:l1.map (·.1)++l2.map (·.1)=rawItems id) (p1:0 < l1.length∧l1.length≤6) (p2:0 < l2.length∧l2.length≤6) (h6:1≤id∧id≤6)
    (k1:KR w w.heap.size (.slice (some ⟨g1,0,none⟩) l1.length l1.length) l1) (k2:KR w w.heap.size (.slice (some ⟨g2,0,none⟩) l2.length l2.length) l2) :
    Calls Tryz.prog 89 #[rv g1 g2 l1.length l2.length] w fun e w'=>∃ gg k cap,e=.returned (.slice (some ⟨gg,0,none⟩) k cap)∧Row32 w' gg k cap (craftItems id)∧w.heap.size≤gg∧Below w.heap.size w w':=by
  obtain ⟨i0,hi0,hz0,hz1,hz2⟩:=info_parts u32_info
  obtain ⟨N,hN⟩:∃ N,N=l1.length + l2.length:=⟨_,rfl⟩
  have hlen:(rawItems id).length=N:=by rw [← e1,hN];simp
  have hraw:=raw_len id h6
  obtain ⟨W1,hW1⟩:∃ W1,(w.alloc (.cells #[.slice (some ⟨g1,0,none⟩) l1.length l1.length,.slice (some ⟨g2,0,none⟩) l2.length l2.length] 85)).alloc (.cells #[.slice (some ⟨g1,0,none⟩) l1.length l1.length,.slice (some ⟨g2,0,none⟩) l2.length l2.length] 83)=W1:=⟨_,rfl⟩
  have hb1:Below w.heap.size w W1:=by rw [← hW1];exact new_ (new_ (Below.refl _ _) _) _
  have bx:Box W1 (w.heap.size + 1) #[.slice (some ⟨g1,0,none⟩) l1.length l1.length,.slice (some ⟨g2,0,none⟩) l2.length l2.length] 83:=by
    rw [← hW1]
    have:=Box.new (w.alloc (.cells #[.slice (some ⟨g1,0,none⟩) l1.length l1.length,.slice (some ⟨g2,0,none⟩) l2.length l2.length] 85)) #[.slice (some ⟨g1,0,none⟩) l1.length l1.length,.slice (some ⟨g2,0,none⟩) l2.length l2.length] 83
    rwa [World.size_alloc] at this
  have CC:=Lib.hid (concat_two (w.heap.size + 1) g1 0 g2 0 l1.length l2.length l1.length l2.length l1 l2 W1 rfl rfl (bx.cell 0) (bx.cell 1) ((k1.below hb1).more hb1.size) ((k2.below hb1).more hb1.size) ⟨p1.1,by omega⟩ ⟨p2.1,by omega⟩)
  have B1:=Lib.hid hb1
  have HR:=Lib.hid (raw_at e1)
  have HN:=Lib.hid hN
  have HL:=Lib.hid hlen
  have H2:=Lib.hid (show 2≤N∧N≤4 by rw [← hlen];exact hraw)
  have H6:=Lib.hid h6
  have HW:=Lib.hid hW1
  clear e1 p1 p2 k1 k2 hb1 bx hN hlen hraw h6 hW1
  unfold rv
  go_enter Tryz.func89,Tryz.ntmps89
  go_wp2_with fail
  rw [HW.out]
  (with_reducible refine CC.out.mono ?_)
  rintro e w2 ⟨u,rfl,hu,hb2⟩
  rw [← HN.out] at hu
  have ku:=KR.of_own hu (by rw [List.length_append,HN.out])
  obtain ⟨A,cu,rfl,hcu,hcm⟩:=ku.form
  rw [List.length_append,← HN.out] at ku hcu ⊢
  unfold maxLen at hcm
  have KU:=Lib.hid ku
  have B2:=Lib.hid (show Below w.heap.size w w2 from B1.out.trans (hb2.mono B1.out.size))
  clear hu ku hb2 CC HW
  go_wp2
  go_loopw [3,13] (fun v c wr=>∃ j:Nat,j≤N∧c=.int .i64 j∧Hid (wr.ownsRow w2.heap.size 23 1 v j (((rawItems id).take j).map (.int .u32)))∧Hid (Below w2.heap.size w2 wr)) (fun _ c _=>N - (intOf c).toNat)
  case atStart=>exact ⟨0,by omega,rfl,Lib.hid (World.ownsRow_nil _ _ _ _),Lib.hid (Below.refl _ _)⟩
  case round=>
    obtain ⟨j,hj,rfl,HO,HX⟩:=hrel
    by_cases hl:j < N
    · have d1:decide ((j:Int) < (N:Int))=true:=by simp;omega
      obtain ⟨b,off,rfl,hb,hc1,hc2⟩:=(KU.out.below HX.out).index j hl
      have hrj:=HR.out j (by rw [← HN.out];exact hl)
      generalize (l1++l2).getD j (0,0)=pp at hc1 hc2 hrj
      have HRJ:=Lib.hid hrj
      have hj4:(j:Int)≤4:=by have:=H2.out;omega
      obtain ⟨j',hj'⟩:∃ j',j'=j + 1:=⟨_,rfl⟩
      have hjs:(j:Int) + 1=(j':Int):=by omega
      have HJ:=Lib.hid hj'
      have HBW:=Lib.hid hb
      clear hj' hrj
      go_wp2_with (at_builtin;refine wpList_push _ rfl _ _ _ rfl w2.heap.size 23 i0 .u32 4 Tryz.underlying141 hi0 hz0 hz1 hz2 _ j ((rawItems id).take j) rfl ((HO.out.alloc _).alloc _) (wr.heap.size + 1) pp.1 rfl (by have:=cell_new (wr.alloc (.cells #[.int .u32 pp.1,.int .u64 pp.2] 116)) #[.int .u32 pp.1] 23 0;rwa [World.size_alloc] at this) (by simp only [maxLen];omega) (by omega) (by have:=HX.out.size;simp;omega) ?_;intro v5 w5 hown5 hb5)
      go_roundw
      case rel=>
        refine ⟨j',by have:=HJ.out;omega,rfl,Lib.hid ?_,Lib.hid ?_⟩
        · rw [HJ.out,List.take_succ,HRJ.out];exact hown5
        · exact (new_ (new_ HX.out _) _).trans hb5
      case measure=>simp [intOf];have:=HJ.out;omega
    · have d1:decide ((j:Int) < (N:Int))=false:=by simp;omega
      have hjN:j=N:=by omega
      subst hjN
      have ho:=HO.out
      rw [List.take_of_length_le (by rw [HL.out];exact Nat.le_refl _)] at ho
      obtain ⟨gg,cap,rfl,hgg,hrow⟩:=Row32.of_own ho (by have:=H2.out;omega)
      have HROW:=Lib.hid hrow
      have HGG:=Lib.hid (show w.heap.size≤gg by have:=B2.out.size;omega)
      have HB:=Lib.hid (show Below w.heap.size w wr from B2.out.trans (HX.out.mono B2.out.size))
      clear ho hrow hgg HO
      have CS:=Lib.hid (sort_small wr gg j cap (rawItems id) HROW.out (by have:=H2.out;omega) (by have:=H2.out;omega))
      go_wp2_with fail
      (with_reducible refine CS.out.mono ?_)
      rintro e w3 ⟨rfl,h3,f3⟩
      have H3:=Lib.hid h3
      have HB3:=Lib.hid (HB.out.trans (f3.to_below (B:=w.heap.size) (fun x hx=>by rw [hx];exact HGG.out) HB.out.size))
      clear h3 f3 CS
      by_cases h4:id=4
      · subst h4
        have hj3:j=3:=HL.out.symm.trans (by decide)
        subst hj3
        have h3:=H3.out
        rw [show isortTo 3 (rawItems 4)=[5,5,6] from raw_four] at h3
        have CQ:=Lib.hid (compact_556 w3 gg cap h3)
        clear h3
        go_wp2_with fail
        (with_reducible refine CQ.out.mono ?_)
        rintro e w4 ⟨rfl,h5,f5⟩
        have H5:=Lib.hid h5
        have F5:=Lib.hid f5
        clear h5 f5
        go_wp2
        go_ret
        exact ⟨gg,2,cap,rfl,H5.out,HGG.out,HB3.out.trans (F5.out.to_below (B:=w.heap.size) (fun x hx=>by rw [hx];exact HGG.out) HB3.out.size)⟩
      · have hs:isortTo j (rawItems id)=craftItems id:=by
          have:=HL.out
          have h0:=raw_sorted id (by have:=H6.out;omega)
          rwa [this] at h0
        have h3:=H3.out
        rw [hs] at h3
        have hlc:=h3.len
        have CQ:=Lib.hid (compact_same w3 gg j cap (craftItems id) h3 (by have:=H2.out;omega) (by have:=H2.out;omega) (fun i hi=>craft_apart id H6.out i (by omega)))
        have HC3:=Lib.hid h3
        clear h3 hs hlc
        go_wp2_with fail
        (with_reducible refine CQ.out.mono ?_)
        rintro e w4 ⟨rfl,h5⟩
        have H5:=Lib.hid h5
        clear h5
        go_wp2
        go_ret
        exact ⟨gg,j,cap,rfl,HC3.out.later H5.out,HGG.out,HB3.out.trans (H5.out.mono HB3.out.size)⟩
end Go.Proofs.YtabckmadpdchnaaGreat.Rule
namespace Go.Proofs.YtabckmadpdchnaaGreat.Rule
open Go.ChangeShapes Go.WideShapes Go.ChangeAt Go.RowKit Go.IntWalk Go.Proofs.Mem Go.Proofs.Each
def Rn_ (w0:World) (t:TypeId) (s:Nat) (i:Nat) (W W':World):Prop:=(i≠s→Below W.heap.size W W')∧(i=s→∃ gb C u1 u2,w0.heap.size≤gb∧Box W gb C t∧Box W' gb #[u1,u2] t∧Fr (fun x=>x=gb) W W')
def Fn0 (w0:World) (t:TypeId) (k m x a s:Nat) (err:Int) (X:Value→World→Prop) (vs:Vs) (j:Nat) (vals:Nat→Value) (W:World):Prop:=
  if j=s then ∃ gb u1 u2,vals a=.pointer (some ⟨gb,0,none⟩)∧w0.heap.size≤gb∧Box W gb #[u1,u2] t∧X (.agg #[u1,u2]) W
  else if j=a then ∃ gb u1 u2,vals a=.pointer (some ⟨gb,0,none⟩)∧w0.heap.size≤gb∧Box W gb #[u1,u2] t
  else if j=k∨j=m then ∃ u,vals j=.tuple #[u,.int .u16 err]∧X u W
  else if j=x then X (vals j) W
  else vsP (vs.getD j none) (vals j)
section
variable {w0 W W':World} {t:TypeId} {k m x a s j i:Nat} {err:Int} {X:Value→World→Prop} {vs:Vs} {vals:Nat→Value} {u:Value}
theorem fn_v (hs:j≠s) (ha:j≠a) (hk:¬ (j=k∨j=m)) (hx:j≠x) (h:vsP (vs.getD j none) u):Fn0 w0 t k m x a s err X vs j (upd vals j u) W:=by
  unfold Fn0;rw [if_neg hs,if_neg ha,if_neg hk,if_neg hx,upd_same];exact h
theorem fn_k (hs:j≠s) (ha:j≠a) (hk:j=k∨j=m) (h:X u W):Fn0 w0 t k m x a s err X vs j (upd vals j (.tuple #[u,.int .u16 err])) W:=by
  unfold Fn0;rw [if_neg hs,if_neg ha,if_pos hk,upd_same];exact ⟨u,rfl,h⟩
theorem fn_x (hs:x≠s) (ha:x≠a) (hk:¬ (x=k∨x=m)) (h:X u W):Fn0 w0 t k m x a s err X vs x (upd vals x u) W:=by
  unfold Fn0;rw [if_neg hs,if_neg ha,if_neg hk,if_pos rfl,upd_same];exact h
theorem fn_gk (h:Fn0 w0 t k m x a s err X vs j vals W) (hs:j≠s) (ha:j≠a) (hk:j=k∨j=m):∃ u,vals j=.tuple #[u,.int .u16 err]∧X u W:=by
  unfold Fn0 at h;rw [if_neg hs,if_neg ha,if_pos hk] at h;exact h
theorem fn_gx (h:Fn0 w0 t k m x a s err X vs x vals W) (hs:x≠s) (ha:x≠a) (hk:¬ (x=k∨x=m)):X (vals x) W:=by
  unfold Fn0 at h;rw [if_neg hs,if_neg ha,if_neg hk,if_pos rfl] at h;exact h
theorem fn_ga (h:Fn0 w0 t k m x a s err X vs a vals W) (hs:a≠s):∃ gb u1 u2,vals a=.pointer (some ⟨gb,0,none⟩)∧w0.heap.size≤gb∧Box W gb #[u1,u2] t:=by
  unfold Fn0 at h;rw [if_neg hs,if_pos rfl] at h;exact h
theorem fn_gv (h:Fn0 w0 t k m x a s err X vs j vals W) (hs:j≠s) (ha:j≠a) (hk:¬ (j=k∨j=m)) (hx:j≠x):vsP (vs.getD j none) (vals j):=by
  unfold Fn0 at h;rw [if_neg hs,if_neg ha,if_neg hk,if_neg hx] at h;exact h
theorem rn_same (hs:i≠s):Rn_ w0 t s i W W:=⟨fun _=>Below.refl _ _,fun e=>absurd e hs⟩
theorem rn_b (hs:i≠s) (h:Below W.heap.size W W'):Rn_ w0 t s i W W':=⟨fun _=>h,fun e=>absurd e hs⟩
theorem depsN {o:Oper} (hw:∀ e∈o.after,Region.binds .any e=true→Fn0 w0 t k m x a s err X vs e.on vals W) (h:vs.getD k none=none∧vs.getD m none=none∧vs.getD x none=none∧vs.getD a none=none∧vs.getD s none=none):depF vs vals o.after.toList:=by
  have key:∀ es:List Edge,(∀ e∈es,e∈o.after)→depF vs vals es:=by
    intro es
    induction es with
    | nil=>intro _;trivial
    | cons e r ih=>
      intro h'
      refine ⟨?_,ih fun y hy=>h' y (by simp [hy])⟩
      cases he:e.ground with
      | data=>
        have h1:=hw e (h' e (by simp)) (by simp [Region.binds,he])
        show vsP (vs.getD e.on none) _
        by_cases e1:e.on=s
        · rw [e1,h.2.2.2.2];trivial
        · by_cases e2:e.on=a
          · rw [e2,h.2.2.2.1];trivial
          · by_cases e3:e.on=k∨e.on=m
            · rcases e3 with e3 | e3
              · rw [e3,h.1];trivial
              · rw [e3,h.2.1];trivial
            · by_cases e4:e.on=x
              · rw [e4,h.2.2.1];trivial
              · exact fn_gv h1 e1 e2 e3 e4
      | _=>trivial
  exact key _ fun e he=>by simpa using he
end
theorem wp_SN {P:Program} {ops:List Oper} {a0:Act} {id:Nat} {Q:Exit→Act→World→Prop} {w0:World} {w:World} {g base j:Nat} {q:Ot} {v p p':Value} {l:List Pu} {bs:List Bx} {seen:List Ce} (t:TypeId) (ht:t≠69) (k m x a s:Nat) (err:Int) (X:Value→World→Prop) (vs:Vs) (h0:ST w g q v base p j p' l bs w0) (hb:Begin w g q v base p seen)
    (hX1:∀ u W W',Below W.heap.size W W'→X u W→X u W') (hX2:∀ u W W' gb C,Box W gb C t→Fr (fun x=>x=gb) W W'→X u W→X u W')
    (hob:∀ vals:Nat→Value,ObD (fun _ _=>False) P ops.toArray (fun _ W=>ST w g q v base p j p' l bs W∧w0.heap.size≤W.heap.size) (Rn_ w0 t s) (Fn0 w0 t k m x a s err X vs) vals 0 ops a0)
    (hend:∀ (vals:Nat→Value) W gb u1 u2,ST w g q v base p j p' l bs W→vals a=.pointer (some ⟨gb,0,none⟩)→w0.heap.size≤gb→Box W gb #[u1,u2] t→X (.agg #[u1,u2]) W→allF vals 0 vs→Q .normal (TL vals 0 ops a0) W)
    (hda:∀ o,ops[s]?=some o→∃ e∈o.after,Region.binds .any e=true∧e.on=a)
    (hv:vs.getD k none=none∧vs.getD m none=none∧vs.getD x none=none∧vs.getD a none=none∧vs.getD s none=none)
    (hm:P.follows .mixedOrders=true:=by kernel_rfl) (hB:fitB ops.toArray=true:=by kernel_rfl) (has:a≠s:=by decide) (hsl:s < ops.length:=by decide) (hl:vs.length=ops.length:=by rfl):(Code.region id ops.toArray true).wp P Q a0 w0:=by
  refine wp_region_obD (D:=fun _ _=>False) (fun _ _ _ _ h=>h.elim) hm hB (fun _ W=>ST w g q v base p j p' l bs W∧w0.heap.size≤W.heap.size) (Rn_ w0 t s) (Fn0 w0 t k m x a s err X vs) (fun _ _=>⟨h0.drew,Nat.le_refl _⟩) ?_ ?_ ?_ hob ?_
  · intro i L L' W W' hi hLL ⟨h,hz⟩ hr
    by_cases his:i=s
    · obtain ⟨gb,C,u1,u2,h1,h2,h3,h4⟩:=hr.2 his
      exact ⟨h.else_ hb h2 ht (by have:=h0.run.out.size;omega) (fun y hy=>by have:=h0.lt y hy;omega) h4,by have:=h4.size;omega⟩
    · exact ⟨h.later (hr.1 his),by have:=(hr.1 his).size;omega⟩
  · intro i j L vals W W' hji hc hr hf
    unfold Fn0 at hf ⊢
    by_cases h1:j=s
    · rw [if_pos h1] at hf ⊢
      have hbl:=hr.1 (fun e=>hji (h1.trans e.symm))
      obtain ⟨gb,u1,u2,e1,e2,e3,e4⟩:=hf
      exact ⟨gb,u1,u2,e1,e2,e3.later hbl,hX1 _ _ _ hbl e4⟩
    · rw [if_neg h1] at hf ⊢
      have st:∀ u,X u W→X u W':=fun u hx=>by
        by_cases his:i=s
        · obtain ⟨gb,C,u1,u2,h1,h2,h3,h4⟩:=hr.2 his
          exact hX2 _ _ _ gb C h2 h4 hx
        · exact hX1 _ _ _ (hr.1 his) hx
      by_cases h2:j=a
      · rw [if_pos h2] at hf ⊢
        obtain ⟨gb,u1,u2,e1,e2,e3⟩:=hf
        by_cases his:i=s
        · obtain ⟨gb',C,u1',u2',f1,f2,f3,f4⟩:=hr.2 his
          by_cases hg:gb=gb'
          · subst hg;exact ⟨gb,u1',u2',e1,e2,f3⟩
          · exact ⟨gb,u1,u2,e1,e2,e3.fr f4 hg⟩
        · exact ⟨gb,u1,u2,e1,e2,e3.later (hr.1 his)⟩
      · rw [if_neg h2] at hf ⊢
        by_cases h3:j=k∨j=m
        · rw [if_pos h3] at hf ⊢
          obtain ⟨u,e1,e2⟩:=hf
          exact ⟨u,e1,st u e2⟩
        · rw [if_neg h3] at hf ⊢
          by_cases h4:j=x
          · rw [if_pos h4] at hf ⊢;exact st _ hf
          · rw [if_neg h4] at hf ⊢;exact hf
  · intro j oj vals vals' hj hv' hw W hf
    unfold Fn0 at hf ⊢
    by_cases h1:j=s
    · rw [if_pos h1] at hf ⊢
      subst h1
      obtain ⟨e,he,hbd,e2⟩:=hda oj hj
      have:=hw e he hbd
      rw [e2] at this
      rw [← this];exact hf
    · rw [if_neg h1] at hf ⊢
      by_cases h2:j=a
      · rw [if_pos h2] at hf ⊢
        rw [← h2,← hv',h2];exact hf
      · rw [if_neg h2] at hf ⊢
        rw [← hv'];exact hf
  · intro L vals W hc h
    have hs:=h s hsl
    unfold Fn0 at hs
    rw [if_pos rfl] at hs
    obtain ⟨gb,u1,u2,e1,e2,e3,e4⟩:=hs
    refine hend vals W gb u1 u2 hc.1 e1 e2 e3 e4 (all_of (s:=s) (a:=a) (fun i hi h1 h2=>?_) hv.2.2.2.1 hv.2.2.2.2)
    rw [vs_getD]
    by_cases h3:i=k∨i=m
    · rcases h3 with h3 | h3
      · rw [h3,hv.1];trivial
      · rw [h3,hv.2.1];trivial
    · by_cases h4:i=x
      · rw [h4,hv.2.2.1];trivial
      · exact fn_gv (h i (by omega)) h1 h2 h3 h4
section
variable {w w0 W W':World} {g base j j2:Nat} {q:Ot} {v p p' p2:Value} {l l2:List Pu} {bs bs2:List Bx} {seen:List Ce}
theorem ST.add {b:Nat} {C:Array Value} {t:TypeId} (h:ST w g q v base p j p' l bs W) (hx:Box W b C t) (hg:b≠g) (hlo:w.heap.size≤b) (ht:t≠69) (hne:∀ y∈bs,y.blk≠b):ST w g q v base p j p' l (.box b C t :: bs) W:=
  ⟨h.run,⟨Lib.hid hx,h.bx⟩,fun x hx=>by
    rcases List.mem_cons.1 hx with e | e
    · subst e;exact ⟨hg,hlo,ht⟩
    · exact h.ok x e,⟨hne,h.ap⟩⟩
end
section
variable {w w0 W W':World} {g base j i k m x a s:Nat} {q:Ot} {v p p':Value} {l:List Pu} {bs:List Bx} {seen:List Ce} {t:TypeId} {err:Int} {X:Value→World→Prop} {vs:Vs} {vals:Nat→Value} {u:Value}
theorem st7 (h:ST w g q v base p j p' l bs W):W.cell? ⟨g,0,none⟩=some (.int .u8 q.kd)∧W.cell? ⟨g,1,none⟩=some (.int .u32 q.wh)∧W.cell? ⟨g,2,none⟩=some (.int .u32 q.wm)∧W.cell? ⟨g,3,none⟩=some (.int .u32 q.wt)∧W.cell? ⟨g,4,none⟩=some (.int .u32 q.id)∧W.cell? ⟨g,5,none⟩=some (.int .u64 q.n)∧W.cell? ⟨g,6,none⟩=some (.int .u64 q.pr):=
  have c:=h.kn
  ⟨c.c0,c.c1,c.c2,c.c3,c.c4,c.c5,c.c6⟩
theorem pn {y:Value} {C:Prop} (hE:vs.getD i none=some (y,C)) (hf:u=y∧C) (hs:i≠s:=by decide) (ha:i≠a:=by decide) (hk:¬ (i=k∨i=m):=by decide) (hx:i≠x:=by decide):Rn_ w0 t s i W W∧Fn0 w0 t k m x a s err X vs i (upd vals i u) W:=
  ⟨rn_same hs,fn_v hs ha hk hx (by rw [hE];exact hf)⟩
theorem fn_a {u1 u2:Value} (hz:w0.heap.size≤W.heap.size) (has:a≠s:=by decide):Rn_ w0 t s a W (W.alloc (.cells #[u1,u2] t))∧Fn0 w0 t k m x a s err X vs a (upd vals a (.pointer (some ⟨W.heap.size,0,none⟩))) (W.alloc (.cells #[u1,u2] t)):=by
  refine ⟨rn_b has (new_ (Below.refl W.heap.size W) _),?_⟩
  unfold Fn0;rw [if_neg has,if_pos rfl,upd_same]
  exact ⟨W.heap.size,_,_,rfl,hz,Box.new _ _ _⟩
theorem fn_s {gb:Nat} {c1 c2 u1 u2:Value} (hX2:∀ u W W' gb C,Box W gb C t→Fr (fun x=>x=gb) W W'→X u W→X u W') (bx:Box W gb #[c1,c2] t) (hgb:w0.heap.size≤gb) (fa:vals a=.pointer (some ⟨gb,0,none⟩)) (hx:X (.agg #[u1,u2]) W) (has:a≠s:=by decide) :
    Rn_ w0 t s s W ((W.setCell ⟨gb,0,none⟩ u1).setCell ⟨gb,1,none⟩ u2)∧∃ z,Fn0 w0 t k m x a s err X vs s (upd vals s z) ((W.setCell ⟨gb,0,none⟩ u1).setCell ⟨gb,1,none⟩ u2):=by
  have hf:Fr (fun x=>x=gb) W ((W.setCell ⟨gb,0,none⟩ u1).setCell ⟨gb,1,none⟩ u2):=((Fr.refl (fun x=>x=gb) W).setCell (p:=⟨gb,0,none⟩) (.inl rfl) u1).setCell (p:=⟨gb,1,none⟩) (.inl rfl) u2
  refine ⟨⟨fun e=>absurd rfl e,fun _=>⟨gb,_,u1,u2,hgb,bx,(bx.set_ 0 u1).set_ 1 u2,hf⟩⟩,undef,?_⟩
  unfold Fn0;rw [if_pos rfl,upd_other _ _ _ _ has]
  exact ⟨gb,u1,u2,fa,hgb,(bx.set_ 0 u1).set_ 1 u2,hX2 _ _ _ gb _ bx hf hx⟩
theorem Box.ne_of {a b:Nat} {C C':Array Value} {t t':TypeId} (h:Box W a C t) (h':Box W b C' t') (ht:t≠t'):a≠b:=by
  rintro rfl
  unfold Box at h h'
  rw [h] at h'
  injection h' with h'
  injection h' with _ h'
  exact ht h'
def Xg (B n1 n2:Nat) (l1 l2:List Stk.Pr) (u:Value) (W:World):Prop:=∃ g1 g2,u=.agg #[.slice (some ⟨g1,0,none⟩) n1 n1,.slice (some ⟨g2,0,none⟩) n2 n2]∧g1≠g2∧B≤g1∧B≤g2∧Box W g1 (Stk.flat l1).toArray 116∧Box W g2 (Stk.flat l2).toArray 116
def Xb (u:Value) (W:World):Prop:=∃ A1 n1 c1 A2 n2 c2,u=.agg #[.slice A1 n1 c1,.slice A2 n2 c2]
theorem Xg.b {B n1 n2:Nat} {l1 l2:List Stk.Pr} (h:Xg B n1 n2 l1 l2 u W):Xb u W:=by
  obtain ⟨g1,g2,e,_⟩:=h
  exact ⟨_,_,_,_,_,_,e⟩
theorem Xg.later {B n1 n2:Nat} {l1 l2:List Stk.Pr} (h:Xg B n1 n2 l1 l2 u W) (hb:Below W.heap.size W W'):Xg B n1 n2 l1 l2 u W':=by
  obtain ⟨g1,g2,e,h1,h2,h3,h4,h5⟩:=h
  exact ⟨g1,g2,e,h1,h2,h3,h4.later hb,h5.later hb⟩
theorem Xg.fr {B n1 n2 gb:Nat} {l1 l2:List Stk.Pr} {C:Array Value} (h:Xg B n1 n2 l1 l2 u W) (hx:Box W gb C 85) (hf:Fr (fun x=>x=gb) W W'):Xg B n1 n2 l1 l2 u W':=by
  obtain ⟨g1,g2,e,h1,h2,h3,h4,h5⟩:=h
  exact ⟨g1,g2,e,h1,h2,h3,h4.fr hf (Box.ne_of h4 hx (by decide)),h5.fr hf (Box.ne_of h5 hx (by decide))⟩
theorem needs_g (id n:Int) (h:Stk.errN id n=0) (B:Nat) (W:World) (hB:B≤W.heap.size):Calls Tryz.prog 88 #[.int .u32 id,.int .u64 n] W fun e W'=>∃ u,e=.returned (.tuple #[u,.int .u16 0])∧Xg B (Stk.inN id n).length (Stk.outN id n).length (Stk.inN id n) (Stk.outN id n) u W'∧Below W.heap.size W W':=by
  have hs:Stk.isS id=true:=by
    unfold Stk.errN at h
    cases e:Stk.isS id with
    | true=>rfl
    | false=>rw [e] at h;simp at h
  have hn:¬ (n < 1∨1000 < n):=fun e=>by unfold Stk.errN at h;rw [hs] at h;simp [e] at h
  have e1:Stk.inN id n=Stk.times n (Stk.lineS id).1:=by unfold Stk.inN;rw [if_pos h]
  have e2:Stk.outN id n=Stk.times n (Stk.lineS id).2:=by unfold Stk.outN;rw [if_pos h]
  rw [e1,e2]
  refine (Stk.needs_some id n hs (by omega) (by omega) W).mono fun e W' ⟨g1,g2,h1,h2,h3,h4,h5,h6,h7⟩=>⟨_,h1,⟨g1,g2,rfl,h2,by omega,by omega,h5,h6⟩,h7⟩
theorem needs_b (id n:Int) (hn:0≤n∧n≤18446744073709551615) (W:World):Calls Tryz.prog 88 #[.int .u32 id,.int .u64 n] W fun e W'=>∃ u,e=.returned (.tuple #[u,.int .u16 (Stk.errN id n)])∧Xb u W'∧Below W.heap.size W W':=
  (Stk.needs_any id n hn W).mono fun e W' ⟨u,h1,⟨A1,c1,A2,c2,e,_⟩,h3⟩=>⟨u,h1,⟨_,_,_,_,_,_,e⟩,h3⟩
theorem cnt_bound (x id n:Int):(0≤Stk.cnt x (Stk.inN id n)∧Stk.cnt x (Stk.inN id n)≤18446744073709551615)∧0≤Stk.cnt x (Stk.outN id n)∧Stk.cnt x (Stk.outN id n)≤18446744073709551615:=by
  have key:∀ (L:List Stk.Pr),Stk.small L→0≤Stk.cnt x L∧Stk.cnt x L≤10:=by
    intro L hL
    have:∀ L:List Stk.Pr,(∀ p∈L,0≤p.2∧p.2≤10)→0≤Stk.cnt x L∧Stk.cnt x L≤10:=by
      intro L
      induction L with
      | nil=>intro _;simp [Stk.cnt]
      | cons p r ih=>
        intro h
        unfold Stk.cnt
        split
        · exact h p (by simp)
        · exact ih fun y hy=>h y (by simp [hy])
    exact this L fun p hp=>by have:=hL.2 p hp;omega
  have two:∀ (L:List Stk.Pr),Stk.small L→Stk.errN id n=0→0≤Stk.cnt x (Stk.times n L)∧Stk.cnt x (Stk.times n L)≤18446744073709551615:=by
    intro L hL h
    have h1:=key L hL
    have hn:1≤n∧n≤1000:=by
      unfold Stk.errN at h
      split at h
      · cases h
      · split at h
        · cases h
        · omega
    rw [Stk.cnt_times]
    have h2:0≤Stk.cnt x L * n:=Int.mul_nonneg h1.1 (by omega)
    have h3:Stk.cnt x L * n≤10 * 1000:=Int.mul_le_mul h1.2 hn.2 (by omega) (by omega)
    omega
  by_cases h:Stk.errN id n=0
  · have e1:Stk.inN id n=Stk.times n (Stk.lineS id).1:=by unfold Stk.inN;rw [if_pos h]
    have e2:Stk.outN id n=Stk.times n (Stk.lineS id).2:=by unfold Stk.outN;rw [if_pos h]
    rw [e1,e2]
    exact ⟨two _ (Stk.lineS_small id).1 h,two _ (Stk.lineS_small id).2 h⟩
  · have e1:Stk.inN id n=[]:=by unfold Stk.inN;rw [if_neg h]
    have e2:Stk.outN id n=[]:=by unfold Stk.outN;rw [if_neg h]
    rw [e1,e2]
    simp [Stk.cnt]
end
end Go.Proofs.YtabckmadpdchnaaGreat.Rule
