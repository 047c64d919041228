import Derived.Test.YtabckmadpdchnaaGreatBox
import Derived.Test.YtabckmadpdchnaaGreatMo0
import Derived.Test.YtabckmadpdchnaaGreatMo3
import Derived.Test.YtabckmadpdchnaaGreatMo7
import Derived.Test.YtabckmadpdchnaaGreatMo9
import Derived.Sort.Grow
set_option linter.unusedVariables false
set_option linter.unusedSimpArgs false
set_option linter.unnecessarySimpa false
set_option maxRecDepth 100000
set_option maxHeartbeats 8000000
namespace Go.Proofs.YtabckmadpdchnaaGreat.Rule
open Go.ChangeShapes Go.WideShapes Go.ChangeAt Go.RowKit Go.IntWalk Go.Proofs.Mem Go.Proofs.Each
theorem offer_coin_zero (w:World) (g:Nat) (q:Ot) (v:Value) (base i:Nat) (p:Value) (l:List Pu) (seen:List Ce) (hst:St w g q v base i p l) (hs:SeenAt w g v seen) (hg:g < base) (hbase:base≤w.heap.size) (hl:l.length≤700) (hi:i≤700000) (hq:q.Ok) (hok:∀ c∈seen,c.Ok) (n:Int) (hc:∀ c,seen[i]?=some c→(q.wh=hi32 c.A∧n=0)∨(q.wh≠hi32 c.A∧q.wh=lo32 c.A∧n=1)) (h1:∀ c,seen[i + 1]?=some c→c.is=true) (h2:∀ c,seen[i + 1]?=some c→c.vB=0) (hn:q.n=0) :
    Calls Tryz.prog 70 #[.pointer (some ⟨g,0,none⟩)] w (Did w g q v base i p l seen (oOffer q) Rp.enc):=by
  have BEG:=Lib.hid (Begin.mk hs hg hbase hq hok (fun x hx=>hst.own.lt x hx))
  obtain ⟨W0,hW0⟩:∃ W0,w.alloc (.cells #[.int .u16 0,.int .u64 0,.int .u64 0,.int .u64 0] 35)=W0:=⟨_,rfl⟩
  have SS:Hid (ST w g q v base p i p l [.box w.heap.size #[.int .u16 0,.int .u64 0,.int .u64 0,.int .u64 0] 35] W0):=Lib.hid (by rw [← hW0];exact ST.start hst BEG.out _ _)
  have HI:=Lib.hid hi
  have HQ:=Lib.hid hq
  have HOK:=Lib.hid hok
  have HL:=Lib.hid hl
  have HC:=Lib.hid hc
  have H1:=Lib.hid h1
  have H2:=Lib.hid h2
  have HN:=Lib.hid hn
  obtain ⟨ce0,hce0⟩:=the_cell seen (i)
  have CE0:=Lib.hid hce0
  obtain ⟨ce1,hce1⟩:=the_cell seen (i + 1)
  have CE1:=Lib.hid hce1
  obtain ⟨ce2,hce2⟩:=the_cell seen (i + 1 + 1)
  have CE2:=Lib.hid hce2
  clear hst hs hg hbase hl hi hq hok hc h1 h2 hn hce0 hce1 hce2
  go_enter Tryz.func70,Tryz.ntmps70
  go_upto_region 1 with fail
  try rw [hW0]
  clear hW0
  refine wp_SK (D:=DP w g q v base i p l seen (oOffer q) Rp.enc) 9 10 11 (seen[i]?=some ce0∧ce0.is=true) (i + 1) #[.int .u64 ce0.A,.int .u64 ce0.B,.int .u8 4,.int .u32 q.id,.int .u32 0,.bool true] [pw g 0,pw g 0,pw g 7,pw g 0,pw g 0,pw g 0,pw g 4,some (.int .u32 q.id,True),some (.agg #[.int .u8 4,.int .u32 q.id,.int .u32 0],True),some (.agg (thing ce0.A ce0.B 4 q.id 0 true),True),none,none] SS.out (fun vals=>?_) (fun vals W1 hB hfin hall=>?_) (ea 10 rfl)
  · simp only [ObD,Act.put,qA,qC,qZ]
    refine ⟨?_,?_,?_,?_,?_,?_,?_,?_,?o0_8,?o0_9,?o0_10,?o0_11,trivial⟩
    all_goals (intro L W hL hk hC hw;have f:=deps hw rfl rfl;simp only [depF,vsP,pw,qS,qD,and_true,true_and] at f)
    case o0_8=>have CL:=Lib.hid (trade_any q.id W);clear hL hC hk hw;refine spD rfl ?_;go_simp;(with_reducible refine CL.out.mono ?_);rintro e w8 ⟨rfl,h2⟩;first | exact sq h2 rfl ⟨rfl,trivial⟩ | exact ⟨_,rfl,sq h2 rfl ⟨rfl,trivial⟩⟩
    case o0_9=>
      have CL:=Lib.hid (there_K SS.out (hC.pre hk) BEG.out (by have:=HI.out;omega) CE0.out 4 q.id 0);clear hL hC hk hw;refine spD rfl ?_;go_simp;(with_reducible refine CL.out.mono ?_);rintro e w8 (⟨h,rfl,h2⟩ | ⟨h,h3,rfl,h2⟩ | ⟨rfl,hf,H⟩)
      · exact ⟨_,rfl,Did.miss (by unfold oOffer;simp only [runOm_bind,run_there_no h]) h2⟩
      · exact ⟨_,rfl,Did.err (by unfold oOffer;simp only [runOm_bind,run_there_not h h3]) h2⟩
      · first | exact kv hf H rfl ⟨rfl,trivial⟩ | exact ⟨_,rfl,kv hf H rfl ⟨rfl,trivial⟩⟩
    case o0_10=>have ZZ:=hC.fr.size;clear hL hC hk hw;refine spD rfl ?_;go_simp;exact am ZZ
    case o0_11=>obtain ⟨gt,C,fa,hgt,bx0,hc⟩:=Fw.geta (hw ⟨10,.data⟩ (by simp) rfl) (by decide);obtain ⟨c0,c1,c2,c3,c4,c5,rfl⟩:=arr6 hc;have q:=six_cells bx0;have BXX:=Lib.hid bx0;have FA:=Lib.hid fa;clear bx0 hc;unfold thing at f;clear hL hC hk hw;refine spD rfl ?_;go_simp;exact sm SS.out BEG.out BXX.out hgt FA.out
    all_goals (have c:=kn7 hC;clear hL hC hk hw;refine spD rfl ?_;go_simp;first | exact sv rfl ⟨rfl,trivial⟩ | exact ⟨_,rfl,sv rfl ⟨rfl,trivial⟩⟩)
  have S0:=Lib.hid hB.1
  simp only [allF,vsP,pw,true_and,and_true,Nat.reduceAdd] at hall
  obtain ⟨gt0,fa,hgt,bx⟩:=hfin
  simp only [TL,Act.put,qA,qC,qZ,hall,fa]
  replace SS:=Lib.hid (SS.out.push BEG.out hB.st SS.out.lt hgt bx)
  clear hall vals hB fa hgt bx
  obtain ⟨⟨y0,y1,y2,y3,y4,y5⟩,-⟩:=six_cells SS.out.bx.1.out
  have CALL:=Lib.hid (side_n W1 g q v (i + 1:Nat) p SS.out.run.out.st.wb ce0.A ce0.B 4 q.id 0 true (A_ok HOK.out S0.out.1) n (HC.out ce0 S0.out.1))
  unfold thing at CALL
  go_wp2_with fail
  (with_reducible refine CALL.out.mono ?_)
  rintro e W2 ⟨rfl,hbl⟩
  clear CALL y0 y1 y2 y3 y4 y5
  replace SS:=Lib.hid (SS.out.later hbl)
  clear hbl
  go_upto_region 3 with fail
  refine wp_SK (D:=DP w g q v base i p l seen (oOffer q) Rp.enc) 10 11 12 (seen[i + 1]?=some ce1) (i + 1 + 1) #[.int .u64 ce1.vA,.int .u64 ce1.vB,.int .u8 5,.int .u32 q.id,.int .u32 n,.bool ce1.is] [pw g 0,pw g 0,pw g 7,pw g 0,pw g 0,pw g 0,pw g 4,some (.int .u32 q.id,True),some (.int .u32 n,True),some (.agg #[.int .u8 5,.int .u32 q.id,.int .u32 n],True),some (.agg (thing ce1.vA ce1.vB 5 q.id n ce1.is),True),none,none] SS.out (fun vals=>?_) (fun vals W3 hB hfin hall=>?_) (ea 11 rfl)
  · simp only [ObD,Act.put,qA,qC,qZ]
    refine ⟨?_,?_,?_,?_,?_,?_,?_,?_,?_,?o2_9,?o2_10,?o2_11,?o2_12,trivial⟩
    all_goals (intro L W hL hk hC hw;have f:=deps hw rfl rfl;simp only [depF,vsP,pw,qS,qD,and_true,true_and] at f)
    case o2_9=>have CL:=Lib.hid (offer_any q.id n W);clear hL hC hk hw;refine spD rfl ?_;go_simp;(with_reducible refine CL.out.mono ?_);rintro e w8 ⟨rfl,h2⟩;first | exact sq h2 rfl ⟨rfl,trivial⟩ | exact ⟨_,rfl,sq h2 rfl ⟨rfl,trivial⟩⟩
    case o2_10=>
      have CL:=Lib.hid (look_K SS.out (hC.pre hk) BEG.out (by have:=HI.out;omega) CE1.out 5 q.id n);clear hL hC hk hw;refine spD rfl ?_;go_simp;(with_reducible refine CL.out.mono ?_);rintro e w8 (⟨h,rfl,h2⟩ | ⟨h1,rfl,hf,H⟩)
      · exact ⟨_,rfl,Did.miss (by unfold oOffer;simp only [runOm_bind,run_there S0.out.1 S0.out.2,oSide_n (HC.out ce0 S0.out.1),runOm_pure,run_look_no h]) h2⟩
      · first | exact kv hf H rfl ⟨rfl,trivial⟩ | exact ⟨_,rfl,kv hf H rfl ⟨rfl,trivial⟩⟩
    case o2_11=>have ZZ:=hC.fr.size;clear hL hC hk hw;refine spD rfl ?_;go_simp;exact am ZZ
    case o2_12=>obtain ⟨gt,C,fa,hgt,bx0,hc⟩:=Fw.geta (hw ⟨11,.data⟩ (by simp) rfl) (by decide);obtain ⟨c0,c1,c2,c3,c4,c5,rfl⟩:=arr6 hc;have q:=six_cells bx0;have BXX:=Lib.hid bx0;have FA:=Lib.hid fa;clear bx0 hc;unfold thing at f;clear hL hC hk hw;refine spD rfl ?_;go_simp;exact sm SS.out BEG.out BXX.out hgt FA.out
    all_goals (have c:=kn7 hC;clear hL hC hk hw;refine spD rfl ?_;go_simp;first | exact sv rfl ⟨rfl,trivial⟩ | exact ⟨_,rfl,sv rfl ⟨rfl,trivial⟩⟩)
  have S1:=Lib.hid hB.1
  simp only [allF,vsP,pw,true_and,and_true,Nat.reduceAdd] at hall
  obtain ⟨gt1,fa,hgt,bx⟩:=hfin
  simp only [TL,Act.put,qA,qC,qZ,hall,fa]
  replace SS:=Lib.hid (SS.out.push BEG.out hB.st SS.out.lt hgt bx)
  clear hall vals hB fa hgt bx
  have I1:=Lib.hid (H1.out ce1 S1.out)
  have SX:=SS.out
  rw [I1.out] at SX
  replace SS:=Lib.hid SX
  clear SX
  have EB:=Lib.hid (show (ce1.vB=0)=True from eq_true (H2.out ce1 S1.out))
  have EN:=Lib.hid (show (q.n=0)=True from eq_true HN.out)
  go_upto_region 4 with fail
  refine wp_SG0 (D:=DP w g q v base i p l seen (oOffer q) Rp.enc) 9 12 10 11 (seen[i + 1 + 1]?=some ce2) (i + 1 + 1 + 1) #[.int .u64 ce2.vA,.int .u64 ce2.vB,.int .u8 1,.int .u32 q.wh,.int .u32 0,.bool ce2.is] [pw g 0,pw g 0,pw g 7,pw g 0,pw g 0,pw g 0,pw g 1,some (.int .u32 q.wh,True),some (.agg #[.int .u8 1,.int .u32 q.wh,.int .u32 0],True),some (.agg (thing ce2.vA ce2.vB 1 q.wh 0 ce2.is),True),none,none] SS.out BEG.out (fun vals=>?_) (fun vals W4 hB hfin htold hall=>?_) (ea 10 rfl)
  · simp only [ObD,Act.put,qA,qC,qZ]
    refine ⟨?_,?_,?_,?_,?_,?_,?_,?_,?o3_8,?o3_9,?o3_10,?o3_11,trivial⟩
    all_goals (intro L W hL hk hC hw;have f:=depsG hw rfl rfl rfl;simp only [depF,vsP,pw,qS,qD,and_true,true_and] at f)
    case o3_8=>have CL:=Lib.hid (purse_any q.wh W);clear hL hC hk hw;refine spD rfl ?_;go_simp;(with_reducible refine CL.out.mono ?_);rintro e w8 ⟨rfl,h2⟩;first | exact gq h2 rfl ⟨rfl,trivial⟩ | exact ⟨_,rfl,gq h2 rfl ⟨rfl,trivial⟩⟩
    case o3_9=>
      have CL:=Lib.hid (look_KG (hC.pre hk) BEG.out (by have:=HI.out;omega) CE2.out 1 q.wh 0);clear hL hC hk hw;refine spD rfl ?_;go_simp;(with_reducible refine CL.out.mono ?_);rintro e w8 (⟨h,rfl,h2⟩ | ⟨h1,rfl,hf,H⟩)
      · exact ⟨_,rfl,Did.miss (by unfold oOffer;simp only [runOm_bind,run_there S0.out.1 S0.out.2,oSide_n (HC.out ce0 S0.out.1),runOm_pure,run_look S1.out,I1.out,EB.out,EN.out,and_true,true_and,and_false,false_and,or_true,true_or,or_false,false_or,not_true_eq_false,not_false_eq_true,ne_eq,if_true,if_false,Bool.false_eq_true,run_look_no h]) h2⟩
      · first | exact gk hf H rfl ⟨rfl,trivial⟩ | exact ⟨_,rfl,gk hf H rfl ⟨rfl,trivial⟩⟩
    case o3_10=>have ZZ:=hC.fr.size;unfold thing at f;clear hL hC hk hw;refine spD rfl ?_;go_simp;first | exact gm0 ZZ | exact ⟨_,rfl,gm0 ZZ⟩
    case o3_11=>clear hL hC hk hw;refine spD rfl ?_;go_simp;first | exact gt_ | exact ⟨_,rfl,gt_⟩
    all_goals (have c:=kg7 hC;clear hL hC hk hw;refine spD rfl ?_;go_simp;first | exact gv rfl ⟨rfl,trivial⟩ | exact ⟨_,rfl,gv rfl ⟨rfl,trivial⟩⟩)
  have S2:=Lib.hid hB.1
  simp only [allF,vsP,pw,true_and,and_true,Nat.reduceAdd] at hall
  obtain ⟨gl,fs,hor,bx⟩:=hfin
  rw [fs] at htold
  simp only [TL,Act.put,qA,qC,qZ,hall,htold,fs]
  replace SS:=Lib.hid (SS.out.pushP BEG.out hB.st SS.out.lt hor (Pile.of_box (n:=1) bx rfl (by decide)))
  clear hall vals hB htold fs hor bx
  have y0:W4.cell? ⟨g,3,none⟩=some (.int .u32 q.wt):=SS.out.kn.c3
  have y1:W4.cell? ⟨g,5,none⟩=some (.int .u64 q.n):=SS.out.kn.c5
  have y2:W4.cell? ⟨gt1,1,none⟩=some (.int .u64 ce1.vB):=SS.out.bx.2.1.out.cell 1
  have y3:W4.cell? ⟨gt1,5,none⟩=some (.bool true):=SS.out.bx.2.1.out.cell 5
  have b0:(ce1.vB == 0)=true:=by have:=H2.out ce1 S1.out;simpa using this
  have b1:(ce1.vB != 0)=false:=by have:=H2.out ce1 S1.out;simpa using this
  have b2:(q.n == 0)=true:=by have:=HN.out;simpa using this
  have b3:(q.n != 0)=false:=by have:=HN.out;simpa using this
  have cv0:IntKind.u64.wrap q.wt=q.wt:=wrap_u64 HQ.out.wt.1 (by have:=HQ.out.wt;omega)
  go_upto_region 15 with fail
  clear cv0 y0 y1 y2 y3 b0 b1 b2 b3
  refine wp_S (D:=DP w g q v base i p l seen (oOffer q) Rp.enc) 15 16 17 (SB True False w g q v base p (i + 1 + 1 + 1) p l [.pile gl 1 1 #[.int .u64 (ce2.vA + ce1.vA),.int .u64 ce2.vB,.int .u8 1,.int .u32 q.wh,.int .u32 0,.bool ce2.is],.box gt1 #[.int .u64 ce1.vA,.int .u64 ce1.vB,.int .u8 5,.int .u32 q.id,.int .u32 n,.bool true] 130,.box gt0 #[.int .u64 ce0.A,.int .u64 ce0.B,.int .u8 4,.int .u32 q.id,.int .u32 0,.bool true] 130,.box w.heap.size #[.int .u16 0,.int .u64 0,.int .u64 0,.int .u64 0] 35]) [some (.slice (some ⟨gl,0,none⟩) 1 1,True),some (.int .i64 0,True),some (.slice (some ⟨gl,0,none⟩) 1 1,True),some (.int .i64 0,True),some (.pointer (some ⟨gl,0,none⟩),True),some (.pointer (some ⟨gl,0,none⟩),True),some (.pointer (some ⟨gl,0,none⟩),True),some (.int .u64 ce2.vA,True),some (.pointer (some ⟨gt1,0,none⟩),True),some (.pointer (some ⟨gt1,0,none⟩),True),some (.int .u64 ce1.vA,True),some (.int .u64 (ce2.vA + ce1.vA),Mr ce2.vA ce1.vA),some (.pointer (some ⟨gl,0,none⟩),True),some (.pointer (some ⟨gl,0,none⟩),True),some (.pointer (some ⟨gl,0,none⟩),True),some (undef,True)] SS.out (fun vals=>?_) (fun vals W5 hB hall=>?_)
  · simp only [ObD,Act.put,qA,qC,qZ]
    refine ⟨?_,?_,?_,?_,?_,?_,?_,?o4_7,?_,?_,?o4_10,?o4_11,?_,?_,?_,?o4_15,trivial⟩
    all_goals (intro L W hL hk hC hw;have f:=deps hw rfl rfl;simp only [depF,vsP,pw,qS,qD,and_true,true_and] at f)
    case' o4_7=>have k0:W.cell? ⟨gl,0,none⟩=some (.int .u64 ce2.vA):=(hC.pre (hL.not_yet hk 15 16 (by decide +kernel))).bx.1.out.cell 0
    case' o4_10=>have k0:W.cell? ⟨gt1,0,none⟩=some (.int .u64 ce1.vA):=(hC.pre (hL.not_yet hk 15 16 (by decide +kernel))).bx.2.1.out.cell 0
    case o4_11=>
      have CL:=Lib.hid (more_C (vA_ok HOK.out S2.out) (vA_ok HOK.out S1.out) hC SS.out BEG.out);clear hL hC hk hw;refine spD rfl ?_;go_simp;(with_reducible refine CL.out.mono ?_)
      rintro e w8 (⟨h,rfl,h2⟩ | ⟨h1,rfl,h2⟩)
      · exact ⟨_,rfl,Did.err (by unfold oOffer;simp only [runOm_bind,run_there S0.out.1 S0.out.2,oSide_n (HC.out ce0 S0.out.1),runOm_pure,run_look S1.out,I1.out,EB.out,EN.out,and_true,true_and,and_false,false_and,or_true,true_or,or_false,false_or,not_true_eq_false,not_false_eq_true,ne_eq,if_true,if_false,Bool.false_eq_true,run_look S2.out,run_more_no h]) h2⟩
      · first | exact sq h2 rfl ⟨rfl,h1⟩ | exact ⟨_,rfl,sq h2 rfl ⟨rfl,h1⟩⟩
    case o4_15=>have PRE:=hC.pre hk;have q0:W.cell? ⟨gl,0,none⟩=some (.int .u64 ce2.vA):=PRE.bx.1.out.cell 0;have r0:=PRE.bx.1.out.frozen 0;have P:=Lib.hid PRE;clear PRE;clear hL hC hk hw;refine spD rfl ?_;go_simp;exact ks (ksP SS.out P.out BEG.out 0 rfl) rfl ⟨rfl,trivial⟩
    all_goals (have c:=kn7 hC;clear hL hC hk hw;refine spD rfl ?_;go_simp;first | exact sv rfl ⟨rfl,trivial⟩ | exact ⟨_,rfl,sv rfl ⟨rfl,trivial⟩⟩)
  have C5:Hid (Mr ce2.vA ce1.vA):=Lib.hid (vsP_c (hall.get 11))
  simp only [allF,vsP,pw,true_and,and_true,Nat.reduceAdd] at hall
  simp only [TL,Act.put,qA,qC,qZ,hall]
  replace SS:=Lib.hid hB.st
  clear hall vals hB
  have y0:W5.cell? ⟨g,5,none⟩=some (.int .u64 q.n):=SS.out.kn.c5
  have b0:(ce1.vB == 0)=true:=by have:=H2.out ce1 S1.out;simpa using this
  have b1:(ce1.vB != 0)=false:=by have:=H2.out ce1 S1.out;simpa using this
  have b2:(q.n == 0)=true:=by have:=HN.out;simpa using this
  have b3:(q.n != 0)=false:=by have:=HN.out;simpa using this
  have cv0:IntKind.u64.wrap q.wt=q.wt:=wrap_u64 HQ.out.wt.1 (by have:=HQ.out.wt;omega)
  go_wp2
  clear cv0 y0 b0 b1 b2 b3
  refine wp_loop_rounds 2 ?_
  obtain ⟨y0,y1,y2,y3,y4,y5⟩:=pile6 SS.out.bx.1.out 0 1 2 3 4 5 rfl rfl rfl rfl rfl rfl
  rw [rounds_succ]
  obtain ⟨W6,hWn⟩:∃ W6,W5.alloc (.cells #[.int .u64 (ce2.vA + ce1.vA),.int .u64 ce2.vB,.int .u8 1,.int .u32 q.wh,.int .u32 0,.bool ce2.is] 130)=W6:=⟨_,rfl⟩
  obtain ⟨gq0,hgn⟩:∃ gq0,W5.heap.size=gq0:=⟨_,rfl⟩
  have TT:=SS.out.alloc BEG.out #[.int .u64 (ce2.vA + ce1.vA),.int .u64 ce2.vB,.int .u8 1,.int .u32 q.wh,.int .u32 0,.bool ce2.is] 130
  rw [hgn,hWn] at TT
  replace TT:=Lib.hid TT
  have HWN:=Lib.hid hWn
  have HGN:=Lib.hid hgn
  clear hWn hgn
  go_wp2_with fail
  clear y0 y1 y2 y3 y4 y5
  try rw [HWN.out]
  try rw [HGN.out]
  clear HWN HGN SS
  have SS:=TT
  clear TT
  have CALL:=Lib.hid (amount_S SS.out BEG.out (by have:=HL.out;(try simp only [List.length_append,List.length_cons,List.length_nil]);omega) 1 q.wh 0 (ce2.vA + ce1.vA) (show _=l++[amt 1 q.wh 0 (ce2.vA + ce1.vA)] by simp))
  (with_reducible refine CALL.out.mono ?_)
  rintro e W7 ⟨rfl,hf,p7,hs⟩
  replace SS:=Lib.hid hs
  clear CALL hf hs
  go_wp2
  replace SS:=Lib.hid SS.out.drop
  replace SS:=Lib.hid SS.out.drop
  rw [rounds_succ]
  have y0:W7.cell? ⟨g,5,none⟩=some (.int .u64 q.n):=SS.out.kn.c5
  have b0:(ce1.vB == 0)=true:=by have:=H2.out ce1 S1.out;simpa using this
  have b1:(ce1.vB != 0)=false:=by have:=H2.out ce1 S1.out;simpa using this
  have b2:(q.n == 0)=true:=by have:=HN.out;simpa using this
  have b3:(q.n != 0)=false:=by have:=HN.out;simpa using this
  obtain ⟨⟨y0,y1,y2,y3,y4,y5⟩,-⟩:=six_cells SS.out.bx.1.out
  have CALL:=Lib.hid (gone_S SS.out BEG.out (by have:=HL.out;(try simp only [List.length_append,List.length_cons,List.length_nil]);omega) 5 q.id n (show _=l++[amt 1 q.wh 0 (ce2.vA + ce1.vA),Pu.mk 5 q.id n 0 0 true] by simp))
  go_wp2_with fail
  (with_reducible refine CALL.out.mono ?_)
  rintro e W8 ⟨rfl,hf,p8,hs⟩
  replace SS:=Lib.hid hs
  clear CALL hf hs y0 y1 y2 y3 y4 y5
  obtain ⟨⟨y0,y1,y2,y3,y4,y5⟩,-⟩:=six_cells SS.out.bx.2.1.out
  have CALL:=Lib.hid (put_S SS.out BEG.out (by have:=HL.out;(try simp only [List.length_append,List.length_cons,List.length_nil]);omega) 4 q.id 0 ce0.A 0 (show _=l++[amt 1 q.wh 0 (ce2.vA + ce1.vA),Pu.mk 5 q.id n 0 0 true,Pu.mk 4 q.id 0 ce0.A 0 false] by simp))
  go_wp2_with fail
  (with_reducible refine CALL.out.mono ?_)
  rintro e W9 ⟨rfl,hf,p9,hs⟩
  replace SS:=Lib.hid hs
  clear CALL hf hs y0 y1 y2 y3 y4 y5
  have y0:W9.cell? ⟨g,5,none⟩=some (.int .u64 q.n):=SS.out.kn.c5
  obtain ⟨⟨z0,z1,z2,z3⟩,x0,x1,x2,x3⟩:=four_cells SS.out.bx.2.2.1.out
  go_wp2
  generalize hW:(World.setCell _ (⟨w.heap.size,3,none⟩:Addr) _)=WZ
  have b9:Box WZ w.heap.size #[.int .u16 0,.int .u64 q.n,.int .u64 0,.int .u64 0] 35:=by
    rw [← hW]
    exact four_box SS.out.bx.2.2.1.out
  have F9:Hid (Fr (fun x=>x=w.heap.size) W9 WZ):=Lib.hid (by
    rw [← hW]
    exact four_fr)
  obtain ⟨⟨v0,v1,v2,v3⟩,-⟩:=four_cells b9
  clear hW b9 z0 z1 z2 z3 x0 x1 x2 x3 y0
  refine bodyPost_ret (v:=.agg #[.int .u16 0,.int .u64 q.n,.int .u64 0,.int .u64 0]) (by simp [results,Tryz.results70,go_sem,v0,v1,v2,v3];try rfl) rfl ?_
  refine (SS.out.wr BEG.out 2 rfl F9.out).did (y:=(⟨q.n,0,0⟩,l++[amt 1 q.wh 0 (ce2.vA + ce1.vA),Pu.mk 5 q.id n 0 0 true,Pu.mk 4 q.id 0 ce0.A 0 false])) ?_ rfl
  unfold oOffer
  simp only [runOm_bind,runOm_pure,run_there S0.out.1 S0.out.2,oSide_n (HC.out ce0 S0.out.1),runOm_pure,run_look S1.out,I1.out,EB.out,EN.out,and_true,true_and,and_false,false_and,or_true,true_or,or_false,false_or,not_true_eq_false,not_false_eq_true,ne_eq,if_true,if_false,Bool.false_eq_true,run_look S2.out,run_more C5.out,oAmount,run_put,oGone,run_put,run_put,List.append_assoc,List.cons_append,List.nil_append]
  try rfl
theorem offer_coin_coin (w:World) (g:Nat) (q:Ot) (v:Value) (base i:Nat) (p:Value) (l:List Pu) (seen:List Ce) (hst:St w g q v base i p l) (hs:SeenAt w g v seen) (hg:g < base) (hbase:base≤w.heap.size) (hl:l.length≤700) (hi:i≤700000) (hq:q.Ok) (hok:∀ c∈seen,c.Ok) (n:Int) (hc:∀ c,seen[i]?=some c→(q.wh=hi32 c.A∧n=0)∨(q.wh≠hi32 c.A∧q.wh=lo32 c.A∧n=1)) (h1:∀ c,seen[i + 1]?=some c→c.is=true) (h2:∀ c,seen[i + 1]?=some c→c.vB=0) (hn:q.n≠0) (hw:q.wt=0) :
    Calls Tryz.prog 70 #[.pointer (some ⟨g,0,none⟩)] w (Did w g q v base i p l seen (oOffer q) Rp.enc):=by
  have BEG:=Lib.hid (Begin.mk hs hg hbase hq hok (fun x hx=>hst.own.lt x hx))
  obtain ⟨W0,hW0⟩:∃ W0,w.alloc (.cells #[.int .u16 0,.int .u64 0,.int .u64 0,.int .u64 0] 35)=W0:=⟨_,rfl⟩
  have SS:Hid (ST w g q v base p i p l [.box w.heap.size #[.int .u16 0,.int .u64 0,.int .u64 0,.int .u64 0] 35] W0):=Lib.hid (by rw [← hW0];exact ST.start hst BEG.out _ _)
  have HI:=Lib.hid hi
  have HQ:=Lib.hid hq
  have HOK:=Lib.hid hok
  have HL:=Lib.hid hl
  have HC:=Lib.hid hc
  have H1:=Lib.hid h1
  have H2:=Lib.hid h2
  have HN:=Lib.hid hn
  have HW:=Lib.hid hw
  obtain ⟨ce0,hce0⟩:=the_cell seen (i)
  have CE0:=Lib.hid hce0
  obtain ⟨ce1,hce1⟩:=the_cell seen (i + 1)
  have CE1:=Lib.hid hce1
  obtain ⟨ce2,hce2⟩:=the_cell seen (i + 1 + 1)
  have CE2:=Lib.hid hce2
  clear hst hs hg hbase hl hi hq hok hc h1 h2 hn hw hce0 hce1 hce2
  go_enter Tryz.func70,Tryz.ntmps70
  go_upto_region 1 with fail
  try rw [hW0]
  clear hW0
  refine wp_SK (D:=DP w g q v base i p l seen (oOffer q) Rp.enc) 9 10 11 (seen[i]?=some ce0∧ce0.is=true) (i + 1) #[.int .u64 ce0.A,.int .u64 ce0.B,.int .u8 4,.int .u32 q.id,.int .u32 0,.bool true] [pw g 0,pw g 0,pw g 7,pw g 0,pw g 0,pw g 0,pw g 4,some (.int .u32 q.id,True),some (.agg #[.int .u8 4,.int .u32 q.id,.int .u32 0],True),some (.agg (thing ce0.A ce0.B 4 q.id 0 true),True),none,none] SS.out (fun vals=>?_) (fun vals W1 hB hfin hall=>?_) (ea 10 rfl)
  · simp only [ObD,Act.put,qA,qC,qZ]
    refine ⟨?_,?_,?_,?_,?_,?_,?_,?_,?o0_8,?o0_9,?o0_10,?o0_11,trivial⟩
    all_goals (intro L W hL hk hC hw;have f:=deps hw rfl rfl;simp only [depF,vsP,pw,qS,qD,and_true,true_and] at f)
    case o0_8=>have CL:=Lib.hid (trade_any q.id W);clear hL hC hk hw;refine spD rfl ?_;go_simp;(with_reducible refine CL.out.mono ?_);rintro e w8 ⟨rfl,h2⟩;first | exact sq h2 rfl ⟨rfl,trivial⟩ | exact ⟨_,rfl,sq h2 rfl ⟨rfl,trivial⟩⟩
    case o0_9=>
      have CL:=Lib.hid (there_K SS.out (hC.pre hk) BEG.out (by have:=HI.out;omega) CE0.out 4 q.id 0);clear hL hC hk hw;refine spD rfl ?_;go_simp;(with_reducible refine CL.out.mono ?_);rintro e w8 (⟨h,rfl,h2⟩ | ⟨h,h3,rfl,h2⟩ | ⟨rfl,hf,H⟩)
      · exact ⟨_,rfl,Did.miss (by unfold oOffer;simp only [runOm_bind,run_there_no h]) h2⟩
      · exact ⟨_,rfl,Did.err (by unfold oOffer;simp only [runOm_bind,run_there_not h h3]) h2⟩
      · first | exact kv hf H rfl ⟨rfl,trivial⟩ | exact ⟨_,rfl,kv hf H rfl ⟨rfl,trivial⟩⟩
    case o0_10=>have ZZ:=hC.fr.size;clear hL hC hk hw;refine spD rfl ?_;go_simp;exact am ZZ
    case o0_11=>obtain ⟨gt,C,fa,hgt,bx0,hc⟩:=Fw.geta (hw ⟨10,.data⟩ (by simp) rfl) (by decide);obtain ⟨c0,c1,c2,c3,c4,c5,rfl⟩:=arr6 hc;have q:=six_cells bx0;have BXX:=Lib.hid bx0;have FA:=Lib.hid fa;clear bx0 hc;unfold thing at f;clear hL hC hk hw;refine spD rfl ?_;go_simp;exact sm SS.out BEG.out BXX.out hgt FA.out
    all_goals (have c:=kn7 hC;clear hL hC hk hw;refine spD rfl ?_;go_simp;first | exact sv rfl ⟨rfl,trivial⟩ | exact ⟨_,rfl,sv rfl ⟨rfl,trivial⟩⟩)
  have S0:=Lib.hid hB.1
  simp only [allF,vsP,pw,true_and,and_true,Nat.reduceAdd] at hall
  obtain ⟨gt0,fa,hgt,bx⟩:=hfin
  simp only [TL,Act.put,qA,qC,qZ,hall,fa]
  replace SS:=Lib.hid (SS.out.push BEG.out hB.st SS.out.lt hgt bx)
  clear hall vals hB fa hgt bx
  obtain ⟨⟨y0,y1,y2,y3,y4,y5⟩,-⟩:=six_cells SS.out.bx.1.out
  have CALL:=Lib.hid (side_n W1 g q v (i + 1:Nat) p SS.out.run.out.st.wb ce0.A ce0.B 4 q.id 0 true (A_ok HOK.out S0.out.1) n (HC.out ce0 S0.out.1))
  unfold thing at CALL
  go_wp2_with fail
  (with_reducible refine CALL.out.mono ?_)
  rintro e W2 ⟨rfl,hbl⟩
  clear CALL y0 y1 y2 y3 y4 y5
  replace SS:=Lib.hid (SS.out.later hbl)
  clear hbl
  go_upto_region 3 with fail
  refine wp_SK (D:=DP w g q v base i p l seen (oOffer q) Rp.enc) 10 11 12 (seen[i + 1]?=some ce1) (i + 1 + 1) #[.int .u64 ce1.vA,.int .u64 ce1.vB,.int .u8 5,.int .u32 q.id,.int .u32 n,.bool ce1.is] [pw g 0,pw g 0,pw g 7,pw g 0,pw g 0,pw g 0,pw g 4,some (.int .u32 q.id,True),some (.int .u32 n,True),some (.agg #[.int .u8 5,.int .u32 q.id,.int .u32 n],True),some (.agg (thing ce1.vA ce1.vB 5 q.id n ce1.is),True),none,none] SS.out (fun vals=>?_) (fun vals W3 hB hfin hall=>?_) (ea 11 rfl)
  · simp only [ObD,Act.put,qA,qC,qZ]
    refine ⟨?_,?_,?_,?_,?_,?_,?_,?_,?_,?o2_9,?o2_10,?o2_11,?o2_12,trivial⟩
    all_goals (intro L W hL hk hC hw;have f:=deps hw rfl rfl;simp only [depF,vsP,pw,qS,qD,and_true,true_and] at f)
    case o2_9=>have CL:=Lib.hid (offer_any q.id n W);clear hL hC hk hw;refine spD rfl ?_;go_simp;(with_reducible refine CL.out.mono ?_);rintro e w8 ⟨rfl,h2⟩;first | exact sq h2 rfl ⟨rfl,trivial⟩ | exact ⟨_,rfl,sq h2 rfl ⟨rfl,trivial⟩⟩
    case o2_10=>
      have CL:=Lib.hid (look_K SS.out (hC.pre hk) BEG.out (by have:=HI.out;omega) CE1.out 5 q.id n);clear hL hC hk hw;refine spD rfl ?_;go_simp;(with_reducible refine CL.out.mono ?_);rintro e w8 (⟨h,rfl,h2⟩ | ⟨h1,rfl,hf,H⟩)
      · exact ⟨_,rfl,Did.miss (by unfold oOffer;simp only [runOm_bind,run_there S0.out.1 S0.out.2,oSide_n (HC.out ce0 S0.out.1),runOm_pure,run_look_no h]) h2⟩
      · first | exact kv hf H rfl ⟨rfl,trivial⟩ | exact ⟨_,rfl,kv hf H rfl ⟨rfl,trivial⟩⟩
    case o2_11=>have ZZ:=hC.fr.size;clear hL hC hk hw;refine spD rfl ?_;go_simp;exact am ZZ
    case o2_12=>obtain ⟨gt,C,fa,hgt,bx0,hc⟩:=Fw.geta (hw ⟨11,.data⟩ (by simp) rfl) (by decide);obtain ⟨c0,c1,c2,c3,c4,c5,rfl⟩:=arr6 hc;have q:=six_cells bx0;have BXX:=Lib.hid bx0;have FA:=Lib.hid fa;clear bx0 hc;unfold thing at f;clear hL hC hk hw;refine spD rfl ?_;go_simp;exact sm SS.out BEG.out BXX.out hgt FA.out
    all_goals (have c:=kn7 hC;clear hL hC hk hw;refine spD rfl ?_;go_simp;first | exact sv rfl ⟨rfl,trivial⟩ | exact ⟨_,rfl,sv rfl ⟨rfl,trivial⟩⟩)
  have S1:=Lib.hid hB.1
  simp only [allF,vsP,pw,true_and,and_true,Nat.reduceAdd] at hall
  obtain ⟨gt1,fa,hgt,bx⟩:=hfin
  simp only [TL,Act.put,qA,qC,qZ,hall,fa]
  replace SS:=Lib.hid (SS.out.push BEG.out hB.st SS.out.lt hgt bx)
  clear hall vals hB fa hgt bx
  have I1:=Lib.hid (H1.out ce1 S1.out)
  have SX:=SS.out
  rw [I1.out] at SX
  replace SS:=Lib.hid SX
  clear SX
  have EB:=Lib.hid (show (ce1.vB=0)=True from eq_true (H2.out ce1 S1.out))
  have EN:=Lib.hid (show (q.n=0)=False from eq_false HN.out)
  have EW:=Lib.hid (show (q.wt=0)=True from eq_true HW.out)
  go_upto_region 4 with fail
  refine wp_SG0 (D:=DP w g q v base i p l seen (oOffer q) Rp.enc) 9 12 10 11 (seen[i + 1 + 1]?=some ce2) (i + 1 + 1 + 1) #[.int .u64 ce2.vA,.int .u64 ce2.vB,.int .u8 1,.int .u32 q.wh,.int .u32 0,.bool ce2.is] [pw g 0,pw g 0,pw g 7,pw g 0,pw g 0,pw g 0,pw g 1,some (.int .u32 q.wh,True),some (.agg #[.int .u8 1,.int .u32 q.wh,.int .u32 0],True),some (.agg (thing ce2.vA ce2.vB 1 q.wh 0 ce2.is),True),none,none] SS.out BEG.out (fun vals=>?_) (fun vals W4 hB hfin htold hall=>?_) (ea 10 rfl)
  · simp only [ObD,Act.put,qA,qC,qZ]
    refine ⟨?_,?_,?_,?_,?_,?_,?_,?_,?o3_8,?o3_9,?o3_10,?o3_11,trivial⟩
    all_goals (intro L W hL hk hC hw;have f:=depsG hw rfl rfl rfl;simp only [depF,vsP,pw,qS,qD,and_true,true_and] at f)
    case o3_8=>have CL:=Lib.hid (purse_any q.wh W);clear hL hC hk hw;refine spD rfl ?_;go_simp;(with_reducible refine CL.out.mono ?_);rintro e w8 ⟨rfl,h2⟩;first | exact gq h2 rfl ⟨rfl,trivial⟩ | exact ⟨_,rfl,gq h2 rfl ⟨rfl,trivial⟩⟩
    case o3_9=>
      have CL:=Lib.hid (look_KG (hC.pre hk) BEG.out (by have:=HI.out;omega) CE2.out 1 q.wh 0);clear hL hC hk hw;refine spD rfl ?_;go_simp;(with_reducible refine CL.out.mono ?_);rintro e w8 (⟨h,rfl,h2⟩ | ⟨h1,rfl,hf,H⟩)
      · exact ⟨_,rfl,Did.miss (by unfold oOffer;simp only [runOm_bind,run_there S0.out.1 S0.out.2,oSide_n (HC.out ce0 S0.out.1),runOm_pure,run_look S1.out,I1.out,EB.out,EN.out,EW.out,and_true,true_and,and_false,false_and,or_true,true_or,or_false,false_or,not_true_eq_false,not_false_eq_true,ne_eq,if_true,if_false,Bool.false_eq_true,run_look_no h]) h2⟩
      · first | exact gk hf H rfl ⟨rfl,trivial⟩ | exact ⟨_,rfl,gk hf H rfl ⟨rfl,trivial⟩⟩
    case o3_10=>have ZZ:=hC.fr.size;unfold thing at f;clear hL hC hk hw;refine spD rfl ?_;go_simp;first | exact gm0 ZZ | exact ⟨_,rfl,gm0 ZZ⟩
    case o3_11=>clear hL hC hk hw;refine spD rfl ?_;go_simp;first | exact gt_ | exact ⟨_,rfl,gt_⟩
    all_goals (have c:=kg7 hC;clear hL hC hk hw;refine spD rfl ?_;go_simp;first | exact gv rfl ⟨rfl,trivial⟩ | exact ⟨_,rfl,gv rfl ⟨rfl,trivial⟩⟩)
  have S2:=Lib.hid hB.1
  simp only [allF,vsP,pw,true_and,and_true,Nat.reduceAdd] at hall
  obtain ⟨gl,fs,hor,bx⟩:=hfin
  rw [fs] at htold
  simp only [TL,Act.put,qA,qC,qZ,hall,htold,fs]
  replace SS:=Lib.hid (SS.out.pushP BEG.out hB.st SS.out.lt hor (Pile.of_box (n:=1) bx rfl (by decide)))
  clear hall vals hB htold fs hor bx
  have y0:W4.cell? ⟨g,3,none⟩=some (.int .u32 q.wt):=SS.out.kn.c3
  have y1:W4.cell? ⟨g,5,none⟩=some (.int .u64 q.n):=SS.out.kn.c5
  have y2:W4.cell? ⟨gt1,1,none⟩=some (.int .u64 ce1.vB):=SS.out.bx.2.1.out.cell 1
  have y3:W4.cell? ⟨gt1,5,none⟩=some (.bool true):=SS.out.bx.2.1.out.cell 5
  have b0:(ce1.vB == 0)=true:=by have:=H2.out ce1 S1.out;simpa using this
  have b1:(ce1.vB != 0)=false:=by have:=H2.out ce1 S1.out;simpa using this
  have b2:(q.n == 0)=false:=by have:=HN.out;simpa using this
  have b3:(q.n != 0)=true:=by have:=HN.out;simpa using this
  have b4:(q.wt == 0)=true:=by have:=HW.out;simpa using this
  have b5:(q.wt != 0)=false:=by have:=HW.out;simpa using this
  have cv0:IntKind.u64.wrap q.wt=q.wt:=wrap_u64 HQ.out.wt.1 (by have:=HQ.out.wt;omega)
  go_upto_region 15 with fail
  clear cv0 y0 y1 y2 y3 b0 b1 b2 b3 b4 b5
  refine wp_S (D:=DP w g q v base i p l seen (oOffer q) Rp.enc) 15 16 17 (SB True False w g q v base p (i + 1 + 1 + 1) p l [.pile gl 1 1 #[.int .u64 (ce2.vA + ce1.vA),.int .u64 ce2.vB,.int .u8 1,.int .u32 q.wh,.int .u32 0,.bool ce2.is],.box gt1 #[.int .u64 ce1.vA,.int .u64 ce1.vB,.int .u8 5,.int .u32 q.id,.int .u32 n,.bool true] 130,.box gt0 #[.int .u64 ce0.A,.int .u64 ce0.B,.int .u8 4,.int .u32 q.id,.int .u32 0,.bool true] 130,.box w.heap.size #[.int .u16 0,.int .u64 0,.int .u64 0,.int .u64 0] 35]) [some (.slice (some ⟨gl,0,none⟩) 1 1,True),some (.int .i64 0,True),some (.slice (some ⟨gl,0,none⟩) 1 1,True),some (.int .i64 0,True),some (.pointer (some ⟨gl,0,none⟩),True),some (.pointer (some ⟨gl,0,none⟩),True),some (.pointer (some ⟨gl,0,none⟩),True),some (.int .u64 ce2.vA,True),some (.pointer (some ⟨gt1,0,none⟩),True),some (.pointer (some ⟨gt1,0,none⟩),True),some (.int .u64 ce1.vA,True),some (.int .u64 (ce2.vA + ce1.vA),Mr ce2.vA ce1.vA),some (.pointer (some ⟨gl,0,none⟩),True),some (.pointer (some ⟨gl,0,none⟩),True),some (.pointer (some ⟨gl,0,none⟩),True),some (undef,True)] SS.out (fun vals=>?_) (fun vals W5 hB hall=>?_)
  · simp only [ObD,Act.put,qA,qC,qZ]
    refine ⟨?_,?_,?_,?_,?_,?_,?_,?o4_7,?_,?_,?o4_10,?o4_11,?_,?_,?_,?o4_15,trivial⟩
    all_goals (intro L W hL hk hC hw;have f:=deps hw rfl rfl;simp only [depF,vsP,pw,qS,qD,and_true,true_and] at f)
    case' o4_7=>have k0:W.cell? ⟨gl,0,none⟩=some (.int .u64 ce2.vA):=(hC.pre (hL.not_yet hk 15 16 (by decide +kernel))).bx.1.out.cell 0
    case' o4_10=>have k0:W.cell? ⟨gt1,0,none⟩=some (.int .u64 ce1.vA):=(hC.pre (hL.not_yet hk 15 16 (by decide +kernel))).bx.2.1.out.cell 0
    case o4_11=>
      have CL:=Lib.hid (more_C (vA_ok HOK.out S2.out) (vA_ok HOK.out S1.out) hC SS.out BEG.out);clear hL hC hk hw;refine spD rfl ?_;go_simp;(with_reducible refine CL.out.mono ?_)
      rintro e w8 (⟨h,rfl,h2⟩ | ⟨h1,rfl,h2⟩)
      · exact ⟨_,rfl,Did.err (by unfold oOffer;simp only [runOm_bind,run_there S0.out.1 S0.out.2,oSide_n (HC.out ce0 S0.out.1),runOm_pure,run_look S1.out,I1.out,EB.out,EN.out,EW.out,and_true,true_and,and_false,false_and,or_true,true_or,or_false,false_or,not_true_eq_false,not_false_eq_true,ne_eq,if_true,if_false,Bool.false_eq_true,run_look S2.out,run_more_no h]) h2⟩
      · first | exact sq h2 rfl ⟨rfl,h1⟩ | exact ⟨_,rfl,sq h2 rfl ⟨rfl,h1⟩⟩
    case o4_15=>have PRE:=hC.pre hk;have q0:W.cell? ⟨gl,0,none⟩=some (.int .u64 ce2.vA):=PRE.bx.1.out.cell 0;have r0:=PRE.bx.1.out.frozen 0;have P:=Lib.hid PRE;clear PRE;clear hL hC hk hw;refine spD rfl ?_;go_simp;exact ks (ksP SS.out P.out BEG.out 0 rfl) rfl ⟨rfl,trivial⟩
    all_goals (have c:=kn7 hC;clear hL hC hk hw;refine spD rfl ?_;go_simp;first | exact sv rfl ⟨rfl,trivial⟩ | exact ⟨_,rfl,sv rfl ⟨rfl,trivial⟩⟩)
  have C5:Hid (Mr ce2.vA ce1.vA):=Lib.hid (vsP_c (hall.get 11))
  simp only [allF,vsP,pw,true_and,and_true,Nat.reduceAdd] at hall
  simp only [TL,Act.put,qA,qC,qZ,hall]
  replace SS:=Lib.hid hB.st
  clear hall vals hB
  have y0:W5.cell? ⟨g,5,none⟩=some (.int .u64 q.n):=SS.out.kn.c5
  have b0:(ce1.vB == 0)=true:=by have:=H2.out ce1 S1.out;simpa using this
  have b1:(ce1.vB != 0)=false:=by have:=H2.out ce1 S1.out;simpa using this
  have b2:(q.n == 0)=false:=by have:=HN.out;simpa using this
  have b3:(q.n != 0)=true:=by have:=HN.out;simpa using this
  have b4:(q.wt == 0)=true:=by have:=HW.out;simpa using this
  have b5:(q.wt != 0)=false:=by have:=HW.out;simpa using this
  have cv0:IntKind.u64.wrap q.wt=q.wt:=wrap_u64 HQ.out.wt.1 (by have:=HQ.out.wt;omega)
  go_upto_region 17 with fail
  clear cv0 y0 b0 b1 b2 b3 b4 b5
  refine wp_S (D:=DP w g q v base i p l seen (oOffer q) Rp.enc) 17 18 19 (SB True False w g q v base p (i + 1 + 1 + 1) p l [.pile gl 1 1 #[.int .u64 ((ce2.vA + ce1.vA) - q.n),.int .u64 ce2.vB,.int .u8 1,.int .u32 q.wh,.int .u32 0,.bool ce2.is],.box gt1 #[.int .u64 ce1.vA,.int .u64 ce1.vB,.int .u8 5,.int .u32 q.id,.int .u32 n,.bool true] 130,.box gt0 #[.int .u64 ce0.A,.int .u64 ce0.B,.int .u8 4,.int .u32 q.id,.int .u32 0,.bool true] 130,.box w.heap.size #[.int .u16 0,.int .u64 0,.int .u64 0,.int .u64 0] 35]) [some (.slice (some ⟨gl,0,none⟩) 1 1,True),some (.int .i64 0,True),some (.slice (some ⟨gl,0,none⟩) 1 1,True),some (.int .i64 0,True),some (.pointer (some ⟨gl,0,none⟩),True),some (.pointer (some ⟨gl,0,none⟩),True),some (.pointer (some ⟨gl,0,none⟩),True),some (.int .u64 (ce2.vA + ce1.vA),True),pw g 0,pw g 0,pw g 0,pw g 5,some (.int .u64 q.n,True),some (.int .u64 ((ce2.vA + ce1.vA) - q.n),Ls (ce2.vA + ce1.vA) q.n),some (.pointer (some ⟨gl,0,none⟩),True),some (.pointer (some ⟨gl,0,none⟩),True),some (.pointer (some ⟨gl,0,none⟩),True),some (undef,True)] SS.out (fun vals=>?_) (fun vals W6 hB hall=>?_)
  · simp only [ObD,Act.put,qA,qC,qZ]
    refine ⟨?_,?_,?_,?_,?_,?_,?_,?o5_7,?_,?_,?_,?_,?_,?o5_13,?_,?_,?_,?o5_17,trivial⟩
    all_goals (intro L W hL hk hC hw;have f:=deps hw rfl rfl;simp only [depF,vsP,pw,qS,qD,and_true,true_and] at f)
    case' o5_7=>have k0:W.cell? ⟨gl,0,none⟩=some (.int .u64 (ce2.vA + ce1.vA)):=(hC.pre (hL.not_yet hk 17 16 (by decide +kernel))).bx.1.out.cell 0
    case o5_13=>
      have CL:=Lib.hid (less_C (show 0≤ce2.vA + ce1.vA∧ce2.vA + ce1.vA≤18446744073709551615 by have:=(vA_ok HOK.out S2.out).1;have:=(vA_ok HOK.out S1.out).1;have:=C5.out;unfold Mr at this;omega) HQ.out.n hC SS.out BEG.out);clear hL hC hk hw;refine spD rfl ?_;go_simp;(with_reducible refine CL.out.mono ?_)
      rintro e w8 (⟨h,rfl,h2⟩ | ⟨⟨h,h3⟩,rfl,h2⟩ | ⟨h1,rfl,h2⟩)
      · exact ⟨_,rfl,Did.err (by unfold oOffer;simp only [runOm_bind,run_there S0.out.1 S0.out.2,oSide_n (HC.out ce0 S0.out.1),runOm_pure,run_look S1.out,I1.out,EB.out,EN.out,EW.out,and_true,true_and,and_false,false_and,or_true,true_or,or_false,false_or,not_true_eq_false,not_false_eq_true,ne_eq,if_true,if_false,Bool.false_eq_true,run_look S2.out,run_more C5.out,run_less_great h]) h2⟩
      · exact ⟨_,rfl,Did.err (by unfold oOffer;simp only [runOm_bind,run_there S0.out.1 S0.out.2,oSide_n (HC.out ce0 S0.out.1),runOm_pure,run_look S1.out,I1.out,EB.out,EN.out,EW.out,and_true,true_and,and_false,false_and,or_true,true_or,or_false,false_or,not_true_eq_false,not_false_eq_true,ne_eq,if_true,if_false,Bool.false_eq_true,run_look S2.out,run_more C5.out,run_less_low h h3]) h2⟩
      · first | exact sq h2 rfl ⟨rfl,h1⟩ | exact ⟨_,rfl,sq h2 rfl ⟨rfl,h1⟩⟩
    case o5_17=>have PRE:=hC.pre hk;have q0:W.cell? ⟨gl,0,none⟩=some (.int .u64 (ce2.vA + ce1.vA)):=PRE.bx.1.out.cell 0;have r0:=PRE.bx.1.out.frozen 0;have P:=Lib.hid PRE;clear PRE;clear hL hC hk hw;refine spD rfl ?_;go_simp;exact ks (ksP SS.out P.out BEG.out 0 rfl) rfl ⟨rfl,trivial⟩
    all_goals (have c:=kn7 hC;clear hL hC hk hw;refine spD rfl ?_;go_simp;first | exact sv rfl ⟨rfl,trivial⟩ | exact ⟨_,rfl,sv rfl ⟨rfl,trivial⟩⟩)
  have C6:Hid (Ls (ce2.vA + ce1.vA) q.n):=Lib.hid (vsP_c (hall.get 13))
  simp only [allF,vsP,pw,true_and,and_true,Nat.reduceAdd] at hall
  simp only [TL,Act.put,qA,qC,qZ,hall]
  replace SS:=Lib.hid hB.st
  clear hall vals hB
  have b0:(ce1.vB == 0)=true:=by have:=H2.out ce1 S1.out;simpa using this
  have b1:(ce1.vB != 0)=false:=by have:=H2.out ce1 S1.out;simpa using this
  have b2:(q.n == 0)=false:=by have:=HN.out;simpa using this
  have b3:(q.n != 0)=true:=by have:=HN.out;simpa using this
  have b4:(q.wt == 0)=true:=by have:=HW.out;simpa using this
  have b5:(q.wt != 0)=false:=by have:=HW.out;simpa using this
  have cv0:IntKind.u64.wrap q.wt=q.wt:=wrap_u64 HQ.out.wt.1 (by have:=HQ.out.wt;omega)
  go_wp2
  clear cv0 b0 b1 b2 b3 b4 b5
  refine wp_loop_rounds 2 ?_
  obtain ⟨y0,y1,y2,y3,y4,y5⟩:=pile6 SS.out.bx.1.out 0 1 2 3 4 5 rfl rfl rfl rfl rfl rfl
  rw [rounds_succ]
  obtain ⟨W7,hWn⟩:∃ W7,W6.alloc (.cells #[.int .u64 ((ce2.vA + ce1.vA) - q.n),.int .u64 ce2.vB,.int .u8 1,.int .u32 q.wh,.int .u32 0,.bool ce2.is] 130)=W7:=⟨_,rfl⟩
  obtain ⟨gq0,hgn⟩:∃ gq0,W6.heap.size=gq0:=⟨_,rfl⟩
  have TT:=SS.out.alloc BEG.out #[.int .u64 ((ce2.vA + ce1.vA) - q.n),.int .u64 ce2.vB,.int .u8 1,.int .u32 q.wh,.int .u32 0,.bool ce2.is] 130
  rw [hgn,hWn] at TT
  replace TT:=Lib.hid TT
  have HWN:=Lib.hid hWn
  have HGN:=Lib.hid hgn
  clear hWn hgn
  go_wp2_with fail
  clear y0 y1 y2 y3 y4 y5
  try rw [HWN.out]
  try rw [HGN.out]
  clear HWN HGN SS
  have SS:=TT
  clear TT
  have CALL:=Lib.hid (amount_S SS.out BEG.out (by have:=HL.out;(try simp only [List.length_append,List.length_cons,List.length_nil]);omega) 1 q.wh 0 ((ce2.vA + ce1.vA) - q.n) (show _=l++[amt 1 q.wh 0 ((ce2.vA + ce1.vA) - q.n)] by simp))
  (with_reducible refine CALL.out.mono ?_)
  rintro e W8 ⟨rfl,hf,p8,hs⟩
  replace SS:=Lib.hid hs
  clear CALL hf hs
  go_wp2
  replace SS:=Lib.hid SS.out.drop
  replace SS:=Lib.hid SS.out.drop
  rw [rounds_succ]
  have y0:W8.cell? ⟨g,5,none⟩=some (.int .u64 q.n):=SS.out.kn.c5
  have b0:(ce1.vB == 0)=true:=by have:=H2.out ce1 S1.out;simpa using this
  have b1:(ce1.vB != 0)=false:=by have:=H2.out ce1 S1.out;simpa using this
  have b2:(q.n == 0)=false:=by have:=HN.out;simpa using this
  have b3:(q.n != 0)=true:=by have:=HN.out;simpa using this
  have b4:(q.wt == 0)=true:=by have:=HW.out;simpa using this
  have b5:(q.wt != 0)=false:=by have:=HW.out;simpa using this
  have cv0:IntKind.u64.wrap q.wt=q.wt:=wrap_u64 HQ.out.wt.1 (by have:=HQ.out.wt;omega)
  go_upto_region 25 with fail
  clear cv0 y0 b0 b1 b2 b3 b4 b5
  refine wp_SA (D:=DP w g q v base i p l seen (oOffer q) Rp.enc) 15 16 17 True True (i + 1 + 1 + 1) (l++[amt 1 q.wh 0 ((ce2.vA + ce1.vA) - q.n),Pu.mk 5 q.id n q.n q.wt false]) [pw g 0,some (.pointer (some ⟨gt1,2,none⟩),True),some (.agg #[.int .u8 5,.int .u32 q.id,.int .u32 n],True),pw g 0,pw g 0,pw g 0,pw g 5,some (.int .u64 q.n,True),pw g 0,pw g 0,pw g 0,pw g 3,some (.int .u32 q.wt,True),some (.int .u64 q.wt,True),some (.agg #[.int .u64 q.n,.int .u64 q.wt],True),some (.tuple #[],True)] SS.out (fun vals=>?_) (fun vals W9 hB hall=>?_)
  · simp only [ObD,Act.put,qA,qC,qZ]
    refine ⟨?_,?_,?o8_2,?_,?_,?_,?_,?_,?_,?_,?_,?_,?_,?o8_13,?_,?o8_15,trivial⟩
    all_goals (intro L W hL hk hC hw;have f:=deps hw rfl rfl;simp only [depF,vsP,pw,qS,qD,and_true,true_and] at f)
    case' o8_2=>have k2:W.cell? ⟨gt1,2,none⟩=some (.int .u8 5):=(cw_bx hC).1.out.cell 2;have k3:W.cell? ⟨gt1,3,none⟩=some (.int .u32 q.id):=(cw_bx hC).1.out.cell 3;have k4:W.cell? ⟨gt1,4,none⟩=some (.int .u32 n):=(cw_bx hC).1.out.cell 4
    case' o8_13=>have hcv:IntKind.u64.wrap q.wt=q.wt:=wrap_u64 (HQ.out.wt).1 (by have:=(HQ.out.wt).2;omega)
    case o8_15=>have CL:=Lib.hid (pk SS.out BEG.out (put_S (hC.pre hk) BEG.out (by have:=HL.out;(try simp only [List.length_append,List.length_cons,List.length_nil]);omega) 5 q.id n q.n q.wt (show _=l++[amt 1 q.wh 0 ((ce2.vA + ce1.vA) - q.n),Pu.mk 5 q.id n q.n q.wt false] by simp)));clear hL hC hk hw;refine spD rfl ?_;go_simp;(with_reducible refine CL.out.mono ?_);rintro e w8 ⟨rfl,hf,H⟩;first | exact kv hf H rfl ⟨rfl,trivial⟩ | exact ⟨_,rfl,kv hf H rfl ⟨rfl,trivial⟩⟩
    all_goals (have c:=kn7 hC;clear hL hC hk hw;refine spD rfl ?_;go_simp;first | exact sv rfl ⟨rfl,trivial⟩ | exact ⟨_,rfl,sv rfl ⟨rfl,trivial⟩⟩)
  simp only [allF,vsP,pw,true_and,and_true,Nat.reduceAdd] at hall
  simp only [TL,Act.put,qA,qC,qZ,hall]
  obtain ⟨p9,hB⟩:=hB.put
  replace SS:=Lib.hid hB
  clear hall vals hB
  obtain ⟨⟨y0,y1,y2,y3,y4,y5⟩,-⟩:=six_cells SS.out.bx.2.1.out
  have CALL:=Lib.hid (put_S SS.out BEG.out (by have:=HL.out;(try simp only [List.length_append,List.length_cons,List.length_nil]);omega) 4 q.id 0 ce0.A 0 (show _=l++[amt 1 q.wh 0 ((ce2.vA + ce1.vA) - q.n),Pu.mk 5 q.id n q.n q.wt false,Pu.mk 4 q.id 0 ce0.A 0 false] by simp))
  go_wp2_with fail
  (with_reducible refine CALL.out.mono ?_)
  rintro e W10 ⟨rfl,hf,p10,hs⟩
  replace SS:=Lib.hid hs
  clear CALL hf hs y0 y1 y2 y3 y4 y5
  have y0:W10.cell? ⟨g,5,none⟩=some (.int .u64 q.n):=SS.out.kn.c5
  obtain ⟨⟨z0,z1,z2,z3⟩,x0,x1,x2,x3⟩:=four_cells SS.out.bx.2.2.1.out
  go_wp2
  generalize hW:(World.setCell _ (⟨w.heap.size,3,none⟩:Addr) _)=WZ
  have b9:Box WZ w.heap.size #[.int .u16 0,.int .u64 q.n,.int .u64 0,.int .u64 0] 35:=by
    rw [← hW]
    exact four_box SS.out.bx.2.2.1.out
  have F9:Hid (Fr (fun x=>x=w.heap.size) W10 WZ):=Lib.hid (by
    rw [← hW]
    exact four_fr)
  obtain ⟨⟨v0,v1,v2,v3⟩,-⟩:=four_cells b9
  clear hW b9 z0 z1 z2 z3 x0 x1 x2 x3 y0
  refine bodyPost_ret (v:=.agg #[.int .u16 0,.int .u64 q.n,.int .u64 0,.int .u64 0]) (by simp [results,Tryz.results70,go_sem,v0,v1,v2,v3];try rfl) rfl ?_
  refine (SS.out.wr BEG.out 2 rfl F9.out).did (y:=(⟨q.n,0,0⟩,l++[amt 1 q.wh 0 ((ce2.vA + ce1.vA) - q.n),Pu.mk 5 q.id n q.n q.wt false,Pu.mk 4 q.id 0 ce0.A 0 false])) ?_ rfl
  unfold oOffer
  simp only [runOm_bind,runOm_pure,run_there S0.out.1 S0.out.2,oSide_n (HC.out ce0 S0.out.1),runOm_pure,run_look S1.out,I1.out,EB.out,EN.out,EW.out,and_true,true_and,and_false,false_and,or_true,true_or,or_false,false_or,not_true_eq_false,not_false_eq_true,ne_eq,if_true,if_false,Bool.false_eq_true,run_look S2.out,run_more C5.out,run_less C6.out.1 C6.out.2,oAmount,run_put,run_put,run_put,List.append_assoc,List.cons_append,List.nil_append]
  try rfl
theorem offer_coin_item (w:World) (g:Nat) (q:Ot) (v:Value) (base i:Nat) (p:Value) (l:List Pu) (seen:List Ce) (hst:St w g q v base i p l) (hs:SeenAt w g v seen) (hg:g < base) (hbase:base≤w.heap.size) (hl:l.length≤700) (hi:i≤700000) (hq:q.Ok) (hok:∀ c∈seen,c.Ok) (n:Int) (hc:∀ c,seen[i]?=some c→(q.wh=hi32 c.A∧n=0)∨(q.wh≠hi32 c.A∧q.wh=lo32 c.A∧n=1)) (h1:∀ c,seen[i + 1]?=some c→c.is=true) (h2:∀ c,seen[i + 1]?=some c→c.vB=0) (hn:q.n≠0) (hw:q.wt≠0) :
    Calls Tryz.prog 70 #[.pointer (some ⟨g,0,none⟩)] w (Did w g q v base i p l seen (oOffer q) Rp.enc):=by
  have BEG:=Lib.hid (Begin.mk hs hg hbase hq hok (fun x hx=>hst.own.lt x hx))
  obtain ⟨W0,hW0⟩:∃ W0,w.alloc (.cells #[.int .u16 0,.int .u64 0,.int .u64 0,.int .u64 0] 35)=W0:=⟨_,rfl⟩
  have SS:Hid (ST w g q v base p i p l [.box w.heap.size #[.int .u16 0,.int .u64 0,.int .u64 0,.int .u64 0] 35] W0):=Lib.hid (by rw [← hW0];exact ST.start hst BEG.out _ _)
  have HI:=Lib.hid hi
  have HQ:=Lib.hid hq
  have HOK:=Lib.hid hok
  have HL:=Lib.hid hl
  have HC:=Lib.hid hc
  have H1:=Lib.hid h1
  have H2:=Lib.hid h2
  have HN:=Lib.hid hn
  have HW:=Lib.hid hw
  obtain ⟨ce0,hce0⟩:=the_cell seen (i)
  have CE0:=Lib.hid hce0
  obtain ⟨ce1,hce1⟩:=the_cell seen (i + 1)
  have CE1:=Lib.hid hce1
  obtain ⟨ce2,hce2⟩:=the_cell seen (i + 1 + 1)
  have CE2:=Lib.hid hce2
  obtain ⟨ce3,hce3⟩:=the_cell seen (i + 1 + 1 + 1)
  have CE3:=Lib.hid hce3
  clear hst hs hg hbase hl hi hq hok hc h1 h2 hn hw hce0 hce1 hce2 hce3
  go_enter Tryz.func70,Tryz.ntmps70
  go_upto_region 1 with fail
  try rw [hW0]
  clear hW0
  refine wp_SK (D:=DP w g q v base i p l seen (oOffer q) Rp.enc) 9 10 11 (seen[i]?=some ce0∧ce0.is=true) (i + 1) #[.int .u64 ce0.A,.int .u64 ce0.B,.int .u8 4,.int .u32 q.id,.int .u32 0,.bool true] [pw g 0,pw g 0,pw g 7,pw g 0,pw g 0,pw g 0,pw g 4,some (.int .u32 q.id,True),some (.agg #[.int .u8 4,.int .u32 q.id,.int .u32 0],True),some (.agg (thing ce0.A ce0.B 4 q.id 0 true),True),none,none] SS.out (fun vals=>?_) (fun vals W1 hB hfin hall=>?_) (ea 10 rfl)
  · simp only [ObD,Act.put,qA,qC,qZ]
    refine ⟨?_,?_,?_,?_,?_,?_,?_,?_,?o0_8,?o0_9,?o0_10,?o0_11,trivial⟩
    all_goals (intro L W hL hk hC hw;have f:=deps hw rfl rfl;simp only [depF,vsP,pw,qS,qD,and_true,true_and] at f)
    case o0_8=>have CL:=Lib.hid (trade_any q.id W);clear hL hC hk hw;refine spD rfl ?_;go_simp;(with_reducible refine CL.out.mono ?_);rintro e w8 ⟨rfl,h2⟩;first | exact sq h2 rfl ⟨rfl,trivial⟩ | exact ⟨_,rfl,sq h2 rfl ⟨rfl,trivial⟩⟩
    case o0_9=>
      have CL:=Lib.hid (there_K SS.out (hC.pre hk) BEG.out (by have:=HI.out;omega) CE0.out 4 q.id 0);clear hL hC hk hw;refine spD rfl ?_;go_simp;(with_reducible refine CL.out.mono ?_);rintro e w8 (⟨h,rfl,h2⟩ | ⟨h,h3,rfl,h2⟩ | ⟨rfl,hf,H⟩)
      · exact ⟨_,rfl,Did.miss (by unfold oOffer;simp only [runOm_bind,run_there_no h]) h2⟩
      · exact ⟨_,rfl,Did.err (by unfold oOffer;simp only [runOm_bind,run_there_not h h3]) h2⟩
      · first | exact kv hf H rfl ⟨rfl,trivial⟩ | exact ⟨_,rfl,kv hf H rfl ⟨rfl,trivial⟩⟩
    case o0_10=>have ZZ:=hC.fr.size;clear hL hC hk hw;refine spD rfl ?_;go_simp;exact am ZZ
    case o0_11=>obtain ⟨gt,C,fa,hgt,bx0,hc⟩:=Fw.geta (hw ⟨10,.data⟩ (by simp) rfl) (by decide);obtain ⟨c0,c1,c2,c3,c4,c5,rfl⟩:=arr6 hc;have q:=six_cells bx0;have BXX:=Lib.hid bx0;have FA:=Lib.hid fa;clear bx0 hc;unfold thing at f;clear hL hC hk hw;refine spD rfl ?_;go_simp;exact sm SS.out BEG.out BXX.out hgt FA.out
    all_goals (have c:=kn7 hC;clear hL hC hk hw;refine spD rfl ?_;go_simp;first | exact sv rfl ⟨rfl,trivial⟩ | exact ⟨_,rfl,sv rfl ⟨rfl,trivial⟩⟩)
  have S0:=Lib.hid hB.1
  simp only [allF,vsP,pw,true_and,and_true,Nat.reduceAdd] at hall
  obtain ⟨gt0,fa,hgt,bx⟩:=hfin
  simp only [TL,Act.put,qA,qC,qZ,hall,fa]
  replace SS:=Lib.hid (SS.out.push BEG.out hB.st SS.out.lt hgt bx)
  clear hall vals hB fa hgt bx
  obtain ⟨⟨y0,y1,y2,y3,y4,y5⟩,-⟩:=six_cells SS.out.bx.1.out
  have CALL:=Lib.hid (side_n W1 g q v (i + 1:Nat) p SS.out.run.out.st.wb ce0.A ce0.B 4 q.id 0 true (A_ok HOK.out S0.out.1) n (HC.out ce0 S0.out.1))
  unfold thing at CALL
  go_wp2_with fail
  (with_reducible refine CALL.out.mono ?_)
  rintro e W2 ⟨rfl,hbl⟩
  clear CALL y0 y1 y2 y3 y4 y5
  replace SS:=Lib.hid (SS.out.later hbl)
  clear hbl
  go_upto_region 3 with fail
  refine wp_SK (D:=DP w g q v base i p l seen (oOffer q) Rp.enc) 10 11 12 (seen[i + 1]?=some ce1) (i + 1 + 1) #[.int .u64 ce1.vA,.int .u64 ce1.vB,.int .u8 5,.int .u32 q.id,.int .u32 n,.bool ce1.is] [pw g 0,pw g 0,pw g 7,pw g 0,pw g 0,pw g 0,pw g 4,some (.int .u32 q.id,True),some (.int .u32 n,True),some (.agg #[.int .u8 5,.int .u32 q.id,.int .u32 n],True),some (.agg (thing ce1.vA ce1.vB 5 q.id n ce1.is),True),none,none] SS.out (fun vals=>?_) (fun vals W3 hB hfin hall=>?_) (ea 11 rfl)
  · simp only [ObD,Act.put,qA,qC,qZ]
    refine ⟨?_,?_,?_,?_,?_,?_,?_,?_,?_,?o2_9,?o2_10,?o2_11,?o2_12,trivial⟩
    all_goals (intro L W hL hk hC hw;have f:=deps hw rfl rfl;simp only [depF,vsP,pw,qS,qD,and_true,true_and] at f)
    case o2_9=>have CL:=Lib.hid (offer_any q.id n W);clear hL hC hk hw;refine spD rfl ?_;go_simp;(with_reducible refine CL.out.mono ?_);rintro e w8 ⟨rfl,h2⟩;first | exact sq h2 rfl ⟨rfl,trivial⟩ | exact ⟨_,rfl,sq h2 rfl ⟨rfl,trivial⟩⟩
    case o2_10=>
      have CL:=Lib.hid (look_K SS.out (hC.pre hk) BEG.out (by have:=HI.out;omega) CE1.out 5 q.id n);clear hL hC hk hw;refine spD rfl ?_;go_simp;(with_reducible refine CL.out.mono ?_);rintro e w8 (⟨h,rfl,h2⟩ | ⟨h1,rfl,hf,H⟩)
      · exact ⟨_,rfl,Did.miss (by unfold oOffer;simp only [runOm_bind,run_there S0.out.1 S0.out.2,oSide_n (HC.out ce0 S0.out.1),runOm_pure,run_look_no h]) h2⟩
      · first | exact kv hf H rfl ⟨rfl,trivial⟩ | exact ⟨_,rfl,kv hf H rfl ⟨rfl,trivial⟩⟩
    case o2_11=>have ZZ:=hC.fr.size;clear hL hC hk hw;refine spD rfl ?_;go_simp;exact am ZZ
    case o2_12=>obtain ⟨gt,C,fa,hgt,bx0,hc⟩:=Fw.geta (hw ⟨11,.data⟩ (by simp) rfl) (by decide);obtain ⟨c0,c1,c2,c3,c4,c5,rfl⟩:=arr6 hc;have q:=six_cells bx0;have BXX:=Lib.hid bx0;have FA:=Lib.hid fa;clear bx0 hc;unfold thing at f;clear hL hC hk hw;refine spD rfl ?_;go_simp;exact sm SS.out BEG.out BXX.out hgt FA.out
    all_goals (have c:=kn7 hC;clear hL hC hk hw;refine spD rfl ?_;go_simp;first | exact sv rfl ⟨rfl,trivial⟩ | exact ⟨_,rfl,sv rfl ⟨rfl,trivial⟩⟩)
  have S1:=Lib.hid hB.1
  simp only [allF,vsP,pw,true_and,and_true,Nat.reduceAdd] at hall
  obtain ⟨gt1,fa,hgt,bx⟩:=hfin
  simp only [TL,Act.put,qA,qC,qZ,hall,fa]
  replace SS:=Lib.hid (SS.out.push BEG.out hB.st SS.out.lt hgt bx)
  clear hall vals hB fa hgt bx
  have I1:=Lib.hid (H1.out ce1 S1.out)
  have SX:=SS.out
  rw [I1.out] at SX
  replace SS:=Lib.hid SX
  clear SX
  have EB:=Lib.hid (show (ce1.vB=0)=True from eq_true (H2.out ce1 S1.out))
  have EN:=Lib.hid (show (q.n=0)=False from eq_false HN.out)
  have EW:=Lib.hid (show (q.wt=0)=False from eq_false HW.out)
  go_upto_region 4 with fail
  refine wp_SG0 (D:=DP w g q v base i p l seen (oOffer q) Rp.enc) 9 12 10 11 (seen[i + 1 + 1]?=some ce2) (i + 1 + 1 + 1) #[.int .u64 ce2.vA,.int .u64 ce2.vB,.int .u8 1,.int .u32 q.wh,.int .u32 0,.bool ce2.is] [pw g 0,pw g 0,pw g 7,pw g 0,pw g 0,pw g 0,pw g 1,some (.int .u32 q.wh,True),some (.agg #[.int .u8 1,.int .u32 q.wh,.int .u32 0],True),some (.agg (thing ce2.vA ce2.vB 1 q.wh 0 ce2.is),True),none,none] SS.out BEG.out (fun vals=>?_) (fun vals W4 hB hfin htold hall=>?_) (ea 10 rfl)
  · simp only [ObD,Act.put,qA,qC,qZ]
    refine ⟨?_,?_,?_,?_,?_,?_,?_,?_,?o3_8,?o3_9,?o3_10,?o3_11,trivial⟩
    all_goals (intro L W hL hk hC hw;have f:=depsG hw rfl rfl rfl;simp only [depF,vsP,pw,qS,qD,and_true,true_and] at f)
    case o3_8=>have CL:=Lib.hid (purse_any q.wh W);clear hL hC hk hw;refine spD rfl ?_;go_simp;(with_reducible refine CL.out.mono ?_);rintro e w8 ⟨rfl,h2⟩;first | exact gq h2 rfl ⟨rfl,trivial⟩ | exact ⟨_,rfl,gq h2 rfl ⟨rfl,trivial⟩⟩
    case o3_9=>
      have CL:=Lib.hid (look_KG (hC.pre hk) BEG.out (by have:=HI.out;omega) CE2.out 1 q.wh 0);clear hL hC hk hw;refine spD rfl ?_;go_simp;(with_reducible refine CL.out.mono ?_);rintro e w8 (⟨h,rfl,h2⟩ | ⟨h1,rfl,hf,H⟩)
      · exact ⟨_,rfl,Did.miss (by unfold oOffer;simp only [runOm_bind,run_there S0.out.1 S0.out.2,oSide_n (HC.out ce0 S0.out.1),runOm_pure,run_look S1.out,I1.out,EB.out,EN.out,EW.out,and_true,true_and,and_false,false_and,or_true,true_or,or_false,false_or,not_true_eq_false,not_false_eq_true,ne_eq,if_true,if_false,Bool.false_eq_true,run_look_no h]) h2⟩
      · first | exact gk hf H rfl ⟨rfl,trivial⟩ | exact ⟨_,rfl,gk hf H rfl ⟨rfl,trivial⟩⟩
    case o3_10=>have ZZ:=hC.fr.size;unfold thing at f;clear hL hC hk hw;refine spD rfl ?_;go_simp;first | exact gm0 ZZ | exact ⟨_,rfl,gm0 ZZ⟩
    case o3_11=>clear hL hC hk hw;refine spD rfl ?_;go_simp;first | exact gt_ | exact ⟨_,rfl,gt_⟩
    all_goals (have c:=kg7 hC;clear hL hC hk hw;refine spD rfl ?_;go_simp;first | exact gv rfl ⟨rfl,trivial⟩ | exact ⟨_,rfl,gv rfl ⟨rfl,trivial⟩⟩)
  have S2:=Lib.hid hB.1
  simp only [allF,vsP,pw,true_and,and_true,Nat.reduceAdd] at hall
  obtain ⟨gl,fs,hor,bx⟩:=hfin
  rw [fs] at htold
  simp only [TL,Act.put,qA,qC,qZ,hall,htold,fs]
  replace SS:=Lib.hid (SS.out.pushP BEG.out hB.st SS.out.lt hor (Pile.of_box (n:=1) bx rfl (by decide)))
  clear hall vals hB htold fs hor bx
  have y0:W4.cell? ⟨g,3,none⟩=some (.int .u32 q.wt):=SS.out.kn.c3
  have y1:W4.cell? ⟨g,5,none⟩=some (.int .u64 q.n):=SS.out.kn.c5
  have y2:W4.cell? ⟨gt1,1,none⟩=some (.int .u64 ce1.vB):=SS.out.bx.2.1.out.cell 1
  have y3:W4.cell? ⟨gt1,5,none⟩=some (.bool true):=SS.out.bx.2.1.out.cell 5
  have b0:(ce1.vB == 0)=true:=by have:=H2.out ce1 S1.out;simpa using this
  have b1:(ce1.vB != 0)=false:=by have:=H2.out ce1 S1.out;simpa using this
  have b2:(q.n == 0)=false:=by have:=HN.out;simpa using this
  have b3:(q.n != 0)=true:=by have:=HN.out;simpa using this
  have b4:(q.wt == 0)=false:=by have:=HW.out;simpa using this
  have b5:(q.wt != 0)=true:=by have:=HW.out;simpa using this
  have cv0:IntKind.u64.wrap q.wt=q.wt:=wrap_u64 HQ.out.wt.1 (by have:=HQ.out.wt;omega)
  go_upto_region 12 with fail
  clear cv0 y0 y1 y2 y3 b0 b1 b2 b3 b4 b5
  have y0:W4.cell? ⟨g,3,none⟩=some (.int .u32 q.wt):=SS.out.kn.c3
  have y1:W4.cell? ⟨gt1,1,none⟩=some (.int .u64 ce1.vB):=SS.out.bx.2.1.out.cell 1
  have b0:(ce1.vB == 0)=true:=by have:=H2.out ce1 S1.out;simpa using this
  have b1:(ce1.vB != 0)=false:=by have:=H2.out ce1 S1.out;simpa using this
  have b2:(q.n == 0)=false:=by have:=HN.out;simpa using this
  have b3:(q.n != 0)=true:=by have:=HN.out;simpa using this
  have b4:(q.wt == 0)=false:=by have:=HW.out;simpa using this
  have b5:(q.wt != 0)=true:=by have:=HW.out;simpa using this
  have cv0:IntKind.u64.wrap q.wt=q.wt:=wrap_u64 HQ.out.wt.1 (by have:=HQ.out.wt;omega)
  go_quiet (fail)
  have hbl:Below W4.heap.size W4 (W4.drewN nq):=below_drewN (Below.refl _ _) nq
  generalize W4.drewN nq=W5 at hbl ⊢
  clear cv0 y0 y1 b0 b1 b2 b3 b4 b5
  replace SS:=Lib.hid (SS.out.later hbl)
  clear hbl
  go_upto_region 10 with fail
  refine wp_SGO (D:=DP w g q v base i p l seen (oOffer q) Rp.enc) 15 16 17 18 2 (SB (seen[i + 1 + 1 + 1]?=some ce3) False w g q v base p (i + 1 + 1 + 1 + 1) p l [.box gt1 #[.int .u64 ce1.vA,.int .u64 ce1.vB,.int .u8 5,.int .u32 q.id,.int .u32 n,.bool true] 130,.box gt0 #[.int .u64 ce0.A,.int .u64 ce0.B,.int .u8 4,.int .u32 q.id,.int .u32 0,.bool true] 130,.box w.heap.size #[.int .u16 0,.int .u64 0,.int .u64 0,.int .u64 0] 35]) #[.int .u64 ce3.vA,.int .u64 ce3.vB,.int .u8 3,.int .u32 q.wh,.int .u32 q.wt,.bool ce3.is] #[.int .u64 ce2.vA,.int .u64 ce2.vB,.int .u8 1,.int .u32 q.wh,.int .u32 0,.bool ce2.is,.int .u64 ce3.vA,.int .u64 ce3.vB,.int .u8 3,.int .u32 q.wh,.int .u32 q.wt,.bool ce3.is] [some (.slice (some ⟨gl,0,none⟩) 1 1,True),pw g 0,pw g 0,pw g 7,pw g 0,pw g 0,pw g 0,pw g 1,some (.int .u32 q.wh,True),pw g 0,pw g 0,pw g 0,pw g 3,some (.int .u32 q.wt,True),some (.agg #[.int .u8 3,.int .u32 q.wh,.int .u32 q.wt],True),some (.agg (thing ce3.vA ce3.vB 3 q.wh q.wt ce3.is),True),none,none,none] 0 SS.out BEG.out rfl rfl (fun vals=>?_) (fun vals W6 hB hfin htold hall=>?_) (ea 16 rfl) (ea 17 rfl)
  · simp only [ObD,Act.put,qA,qC,qZ]
    refine ⟨?_,?_,?_,?_,?_,?_,?_,?_,?_,?_,?_,?_,?_,?_,?o5_14,?o5_15,?o5_16,?o5_17,?o5_18,trivial⟩
    all_goals (intro L W hL hk hC hw;have f:=depsG hw rfl rfl rfl;simp only [depF,vsP,pw,qS,qD,and_true,true_and] at f)
    case o5_14=>have CL:=Lib.hid (stack_any q.wh q.wt W);clear hL hC hk hw;refine spD rfl ?_;go_simp;(with_reducible refine CL.out.mono ?_);rintro e w8 ⟨rfl,h2⟩;first | exact gq h2 rfl ⟨rfl,trivial⟩ | exact ⟨_,rfl,gq h2 rfl ⟨rfl,trivial⟩⟩
    case o5_15=>
      have CL:=Lib.hid (look_KG (hC.pre hk) BEG.out (by have:=HI.out;omega) CE3.out 3 q.wh q.wt);clear hL hC hk hw;refine spD rfl ?_;go_simp;(with_reducible refine CL.out.mono ?_);rintro e w8 (⟨h,rfl,h2⟩ | ⟨h1,rfl,hf,H⟩)
      · exact ⟨_,rfl,Did.miss (by unfold oOffer;simp only [runOm_bind,run_there S0.out.1 S0.out.2,oSide_n (HC.out ce0 S0.out.1),runOm_pure,run_look S1.out,I1.out,EB.out,EN.out,EW.out,and_true,true_and,and_false,false_and,or_true,true_or,or_false,false_or,not_true_eq_false,not_false_eq_true,ne_eq,if_true,if_false,Bool.false_eq_true,run_look S2.out,run_look_no h]) h2⟩
      · first | exact gk hf H rfl ⟨rfl,trivial⟩ | exact ⟨_,rfl,gk hf H rfl ⟨rfl,trivial⟩⟩
    case o5_16=>have ZZ:=hC.fr.size;unfold thing at f;clear hL hC hk hw;refine spD rfl ?_;go_simp;first | exact gm1 ZZ | exact ⟨_,rfl,gm1 ZZ⟩
    case o5_17=>
      have GZ:=hC.fr.size;have fm:vals 0=.slice (some ⟨gl,0,none⟩) 1 1:=(Fg.get (f:=vsP (some (.slice (some ⟨gl,0,none⟩) 1 1,True))) (hw ⟨0,.data⟩ (by simp) rfl) (by decide) (by decide) (by decide) rfl).1;obtain ⟨gb,fa,hgb,bxb⟩:=Fg.geta (hw ⟨16,.data⟩ (by simp) rfl) (by decide) (by decide);have FA:=Lib.hid fa;have BXB:=Lib.hid bxb;obtain ⟨i0,hi0,hz0,hz1,hz2⟩:=info_parts thing_info;have GR:=Lib.hid (hC.row hk)
      clear hL hC hk hw
      refine step_append_lies _ (by rfl) _ _ _ (by rfl) gl 130 i0 _ 6 32 Tryz.underlying140 hi0 hz0 hz1 hz2 rfl (by omega) (.slice (some ⟨gl,0,none⟩) 1 1) 1 _ (Eq.trans (by rfl) fm) GR.out ⟨gb,0,none⟩ 1 1 [.int .u64 ce3.vA,.int .u64 ce3.vB,.int .u8 3,.int .u32 q.wh,.int .u32 q.wt,.bool ce3.is] (Eq.trans (by rfl) FA.out) rfl (World.news_of_block (cs:=#[.int .u64 ce3.vA,.int .u64 ce3.vB,.int .u8 3,.int .u32 q.wh,.int .u32 q.wt,.bool ce3.is]) (t:=130) (fr:=(0,0)) BXB.out) (by simp [Value.oneCell']) (by omega) (by unfold maxLen;omega) (by omega) (Nat.le_of_lt GR.out.lt) W.heap.size rfl ?_
      intro gg cc WQ hown1 hgrow hat hlt1
      exact ⟨_,rfl,ga SS.out BEG.out (n:=0) rfl rfl GR.out GZ (by simpa using hown1) hgrow hat⟩
    case o5_18=>clear hL hC hk hw;refine spD rfl ?_;go_simp;first | exact gt_ | exact ⟨_,rfl,gt_⟩
    all_goals (have c:=kg7 hC;clear hL hC hk hw;refine spD rfl ?_;go_simp;first | exact gv rfl ⟨rfl,trivial⟩ | exact ⟨_,rfl,gv rfl ⟨rfl,trivial⟩⟩)
  have S3:=Lib.hid hB.1
  simp only [allF,vsP,pw,true_and,and_true,Nat.reduceAdd] at hall
  obtain ⟨gn,cap_gn,fs,hor,bx⟩:=hfin
  rw [fs] at htold
  simp only [TL,Act.put,qA,qC,qZ,hall,htold,fs]
  generalize vals 16=vz5
  replace SS:=Lib.hid (SS.out.regrow BEG.out 0 rfl rfl hB.st hor bx)
  clear hall vals hB htold fs hor bx
  have y0:W6.cell? ⟨gt1,5,none⟩=some (.bool true):=SS.out.bx.2.1.out.cell 5
  have b0:(ce1.vB == 0)=true:=by have:=H2.out ce1 S1.out;simpa using this
  have b1:(ce1.vB != 0)=false:=by have:=H2.out ce1 S1.out;simpa using this
  have b2:(q.n == 0)=false:=by have:=HN.out;simpa using this
  have b3:(q.n != 0)=true:=by have:=HN.out;simpa using this
  have b4:(q.wt == 0)=false:=by have:=HW.out;simpa using this
  have b5:(q.wt != 0)=true:=by have:=HW.out;simpa using this
  have cv0:IntKind.u64.wrap q.wt=q.wt:=wrap_u64 HQ.out.wt.1 (by have:=HQ.out.wt;omega)
  go_upto_region 15 with fail
  clear cv0 y0 b0 b1 b2 b3 b4 b5
  refine wp_S (D:=DP w g q v base i p l seen (oOffer q) Rp.enc) 15 16 17 (SB True False w g q v base p (i + 1 + 1 + 1 + 1) p l [.pile gn 2 cap_gn #[.int .u64 (ce2.vA + ce1.vA),.int .u64 ce2.vB,.int .u8 1,.int .u32 q.wh,.int .u32 0,.bool ce2.is,.int .u64 ce3.vA,.int .u64 ce3.vB,.int .u8 3,.int .u32 q.wh,.int .u32 q.wt,.bool ce3.is],.box gt1 #[.int .u64 ce1.vA,.int .u64 ce1.vB,.int .u8 5,.int .u32 q.id,.int .u32 n,.bool true] 130,.box gt0 #[.int .u64 ce0.A,.int .u64 ce0.B,.int .u8 4,.int .u32 q.id,.int .u32 0,.bool true] 130,.box w.heap.size #[.int .u16 0,.int .u64 0,.int .u64 0,.int .u64 0] 35]) [some (.slice (some ⟨gn,0,none⟩) 2 cap_gn,True),some (.int .i64 0,True),some (.slice (some ⟨gn,0,none⟩) 2 cap_gn,True),some (.int .i64 0,True),some (.pointer (some ⟨gn,0,none⟩),True),some (.pointer (some ⟨gn,0,none⟩),True),some (.pointer (some ⟨gn,0,none⟩),True),some (.int .u64 ce2.vA,True),some (.pointer (some ⟨gt1,0,none⟩),True),some (.pointer (some ⟨gt1,0,none⟩),True),some (.int .u64 ce1.vA,True),some (.int .u64 (ce2.vA + ce1.vA),Mr ce2.vA ce1.vA),some (.pointer (some ⟨gn,0,none⟩),True),some (.pointer (some ⟨gn,0,none⟩),True),some (.pointer (some ⟨gn,0,none⟩),True),some (undef,True)] SS.out (fun vals=>?_) (fun vals W7 hB hall=>?_)
  · simp only [ObD,Act.put,qA,qC,qZ]
    refine ⟨?_,?_,?_,?_,?_,?_,?_,?o6_7,?_,?_,?o6_10,?o6_11,?_,?_,?_,?o6_15,trivial⟩
    all_goals (intro L W hL hk hC hw;have f:=deps hw rfl rfl;simp only [depF,vsP,pw,qS,qD,and_true,true_and] at f)
    case' o6_7=>have k0:W.cell? ⟨gn,0,none⟩=some (.int .u64 ce2.vA):=(hC.pre (hL.not_yet hk 15 16 (by decide +kernel))).bx.1.out.cell 0
    case' o6_10=>have k0:W.cell? ⟨gt1,0,none⟩=some (.int .u64 ce1.vA):=(hC.pre (hL.not_yet hk 15 16 (by decide +kernel))).bx.2.1.out.cell 0
    case o6_11=>
      have CL:=Lib.hid (more_C (vA_ok HOK.out S2.out) (vA_ok HOK.out S1.out) hC SS.out BEG.out);clear hL hC hk hw;refine spD rfl ?_;go_simp;(with_reducible refine CL.out.mono ?_)
      rintro e w8 (⟨h,rfl,h2⟩ | ⟨h1,rfl,h2⟩)
      · exact ⟨_,rfl,Did.err (by unfold oOffer;simp only [runOm_bind,run_there S0.out.1 S0.out.2,oSide_n (HC.out ce0 S0.out.1),runOm_pure,run_look S1.out,I1.out,EB.out,EN.out,EW.out,and_true,true_and,and_false,false_and,or_true,true_or,or_false,false_or,not_true_eq_false,not_false_eq_true,ne_eq,if_true,if_false,Bool.false_eq_true,run_look S2.out,run_look S3.out,run_more_no h]) h2⟩
      · first | exact sq h2 rfl ⟨rfl,h1⟩ | exact ⟨_,rfl,sq h2 rfl ⟨rfl,h1⟩⟩
    case o6_15=>have PRE:=hC.pre hk;have q0:W.cell? ⟨gn,0,none⟩=some (.int .u64 ce2.vA):=PRE.bx.1.out.cell 0;have r0:=PRE.bx.1.out.frozen 0;have P:=Lib.hid PRE;clear PRE;clear hL hC hk hw;refine spD rfl ?_;go_simp;exact ks (ksP SS.out P.out BEG.out 0 rfl) rfl ⟨rfl,trivial⟩
    all_goals (have c:=kn7 hC;clear hL hC hk hw;refine spD rfl ?_;go_simp;first | exact sv rfl ⟨rfl,trivial⟩ | exact ⟨_,rfl,sv rfl ⟨rfl,trivial⟩⟩)
  have C7:Hid (Mr ce2.vA ce1.vA):=Lib.hid (vsP_c (hall.get 11))
  simp only [allF,vsP,pw,true_and,and_true,Nat.reduceAdd] at hall
  simp only [TL,Act.put,qA,qC,qZ,hall]
  replace SS:=Lib.hid hB.st
  clear hall vals hB
  have y0:W7.cell? ⟨g,5,none⟩=some (.int .u64 q.n):=SS.out.kn.c5
  have b0:(ce1.vB == 0)=true:=by have:=H2.out ce1 S1.out;simpa using this
  have b1:(ce1.vB != 0)=false:=by have:=H2.out ce1 S1.out;simpa using this
  have b2:(q.n == 0)=false:=by have:=HN.out;simpa using this
  have b3:(q.n != 0)=true:=by have:=HN.out;simpa using this
  have b4:(q.wt == 0)=false:=by have:=HW.out;simpa using this
  have b5:(q.wt != 0)=true:=by have:=HW.out;simpa using this
  have cv0:IntKind.u64.wrap q.wt=q.wt:=wrap_u64 HQ.out.wt.1 (by have:=HQ.out.wt;omega)
  go_upto_region 17 with fail
  clear cv0 y0 b0 b1 b2 b3 b4 b5
  refine wp_S (D:=DP w g q v base i p l seen (oOffer q) Rp.enc) 17 18 19 (SB True False w g q v base p (i + 1 + 1 + 1 + 1) p l [.pile gn 2 cap_gn #[.int .u64 (ce2.vA + ce1.vA),.int .u64 ce2.vB,.int .u8 1,.int .u32 q.wh,.int .u32 0,.bool ce2.is,.int .u64 (ce3.vA - q.n),.int .u64 ce3.vB,.int .u8 3,.int .u32 q.wh,.int .u32 q.wt,.bool ce3.is],.box gt1 #[.int .u64 ce1.vA,.int .u64 ce1.vB,.int .u8 5,.int .u32 q.id,.int .u32 n,.bool true] 130,.box gt0 #[.int .u64 ce0.A,.int .u64 ce0.B,.int .u8 4,.int .u32 q.id,.int .u32 0,.bool true] 130,.box w.heap.size #[.int .u16 0,.int .u64 0,.int .u64 0,.int .u64 0] 35]) [some (.slice (some ⟨gn,0,none⟩) 2 cap_gn,True),some (.int .i64 1,True),some (.slice (some ⟨gn,0,none⟩) 2 cap_gn,True),some (.int .i64 1,True),some (.pointer (some ⟨gn,6,none⟩),True),some (.pointer (some ⟨gn,6,none⟩),True),some (.pointer (some ⟨gn,6,none⟩),True),some (.int .u64 ce3.vA,True),pw g 0,pw g 0,pw g 0,pw g 5,some (.int .u64 q.n,True),some (.int .u64 (ce3.vA - q.n),Ls ce3.vA q.n),some (.pointer (some ⟨gn,6,none⟩),True),some (.pointer (some ⟨gn,6,none⟩),True),some (.pointer (some ⟨gn,6,none⟩),True),some (undef,True)] SS.out (fun vals=>?_) (fun vals W8 hB hall=>?_)
  · simp only [ObD,Act.put,qA,qC,qZ]
    refine ⟨?_,?_,?_,?_,?_,?_,?_,?o7_7,?_,?_,?_,?_,?_,?o7_13,?_,?_,?_,?o7_17,trivial⟩
    all_goals (intro L W hL hk hC hw;have f:=deps hw rfl rfl;simp only [depF,vsP,pw,qS,qD,and_true,true_and] at f)
    case' o7_7=>have k6:W.cell? ⟨gn,6,none⟩=some (.int .u64 ce3.vA):=(hC.pre (hL.not_yet hk 17 16 (by decide +kernel))).bx.1.out.cell 6
    case o7_13=>
      have CL:=Lib.hid (less_C (vA_ok HOK.out S3.out) HQ.out.n hC SS.out BEG.out);clear hL hC hk hw;refine spD rfl ?_;go_simp;(with_reducible refine CL.out.mono ?_)
      rintro e w8 (⟨h,rfl,h2⟩ | ⟨⟨h,h3⟩,rfl,h2⟩ | ⟨h1,rfl,h2⟩)
      · exact ⟨_,rfl,Did.err (by unfold oOffer;simp only [runOm_bind,run_there S0.out.1 S0.out.2,oSide_n (HC.out ce0 S0.out.1),runOm_pure,run_look S1.out,I1.out,EB.out,EN.out,EW.out,and_true,true_and,and_false,false_and,or_true,true_or,or_false,false_or,not_true_eq_false,not_false_eq_true,ne_eq,if_true,if_false,Bool.false_eq_true,run_look S2.out,run_look S3.out,run_more C7.out,run_less_great h]) h2⟩
      · exact ⟨_,rfl,Did.err (by unfold oOffer;simp only [runOm_bind,run_there S0.out.1 S0.out.2,oSide_n (HC.out ce0 S0.out.1),runOm_pure,run_look S1.out,I1.out,EB.out,EN.out,EW.out,and_true,true_and,and_false,false_and,or_true,true_or,or_false,false_or,not_true_eq_false,not_false_eq_true,ne_eq,if_true,if_false,Bool.false_eq_true,run_look S2.out,run_look S3.out,run_more C7.out,run_less_low h h3]) h2⟩
      · first | exact sq h2 rfl ⟨rfl,h1⟩ | exact ⟨_,rfl,sq h2 rfl ⟨rfl,h1⟩⟩
    case o7_17=>have PRE:=hC.pre hk;have q0:W.cell? ⟨gn,6,none⟩=some (.int .u64 ce3.vA):=PRE.bx.1.out.cell 6;have r0:=PRE.bx.1.out.frozen 6;have P:=Lib.hid PRE;clear PRE;clear hL hC hk hw;refine spD rfl ?_;go_simp;exact ks (ksP SS.out P.out BEG.out 0 rfl) rfl ⟨rfl,trivial⟩
    all_goals (have c:=kn7 hC;clear hL hC hk hw;refine spD rfl ?_;go_simp;first | exact sv rfl ⟨rfl,trivial⟩ | exact ⟨_,rfl,sv rfl ⟨rfl,trivial⟩⟩)
  have C8:Hid (Ls ce3.vA q.n):=Lib.hid (vsP_c (hall.get 13))
  simp only [allF,vsP,pw,true_and,and_true,Nat.reduceAdd] at hall
  simp only [TL,Act.put,qA,qC,qZ,hall]
  replace SS:=Lib.hid hB.st
  clear hall vals hB
  have b0:(ce1.vB == 0)=true:=by have:=H2.out ce1 S1.out;simpa using this
  have b1:(ce1.vB != 0)=false:=by have:=H2.out ce1 S1.out;simpa using this
  have b2:(q.n == 0)=false:=by have:=HN.out;simpa using this
  have b3:(q.n != 0)=true:=by have:=HN.out;simpa using this
  have b4:(q.wt == 0)=false:=by have:=HW.out;simpa using this
  have b5:(q.wt != 0)=true:=by have:=HW.out;simpa using this
  have cv0:IntKind.u64.wrap q.wt=q.wt:=wrap_u64 HQ.out.wt.1 (by have:=HQ.out.wt;omega)
  go_wp2
  clear cv0 b0 b1 b2 b3 b4 b5
  refine wp_loop_rounds 3 ?_
  obtain ⟨y0,y1,y2,y3,y4,y5⟩:=pile6 SS.out.bx.1.out 0 1 2 3 4 5 rfl rfl rfl rfl rfl rfl
  rw [rounds_succ]
  obtain ⟨W9,hWn⟩:∃ W9,W8.alloc (.cells #[.int .u64 (ce2.vA + ce1.vA),.int .u64 ce2.vB,.int .u8 1,.int .u32 q.wh,.int .u32 0,.bool ce2.is] 130)=W9:=⟨_,rfl⟩
  obtain ⟨gq0,hgn⟩:∃ gq0,W8.heap.size=gq0:=⟨_,rfl⟩
  have TT:=SS.out.alloc BEG.out #[.int .u64 (ce2.vA + ce1.vA),.int .u64 ce2.vB,.int .u8 1,.int .u32 q.wh,.int .u32 0,.bool ce2.is] 130
  rw [hgn,hWn] at TT
  replace TT:=Lib.hid TT
  have HWN:=Lib.hid hWn
  have HGN:=Lib.hid hgn
  clear hWn hgn
  go_wp2_with fail
  clear y0 y1 y2 y3 y4 y5
  try rw [HWN.out]
  try rw [HGN.out]
  clear HWN HGN SS
  have SS:=TT
  clear TT
  have CALL:=Lib.hid (amount_S SS.out BEG.out (by have:=HL.out;(try simp only [List.length_append,List.length_cons,List.length_nil]);omega) 1 q.wh 0 (ce2.vA + ce1.vA) (show _=l++[amt 1 q.wh 0 (ce2.vA + ce1.vA)] by simp))
  (with_reducible refine CALL.out.mono ?_)
  rintro e W10 ⟨rfl,hf,p10,hs⟩
  replace SS:=Lib.hid hs
  clear CALL hf hs
  go_wp2
  replace SS:=Lib.hid SS.out.drop
  obtain ⟨y0,y1,y2,y3,y4,y5⟩:=pile6 SS.out.bx.1.out 6 7 8 9 10 11 rfl rfl rfl rfl rfl rfl
  rw [rounds_succ]
  obtain ⟨W11,hWn⟩:∃ W11,W10.alloc (.cells #[.int .u64 (ce3.vA - q.n),.int .u64 ce3.vB,.int .u8 3,.int .u32 q.wh,.int .u32 q.wt,.bool ce3.is] 130)=W11:=⟨_,rfl⟩
  obtain ⟨gq1,hgn⟩:∃ gq1,W10.heap.size=gq1:=⟨_,rfl⟩
  have TT:=SS.out.alloc BEG.out #[.int .u64 (ce3.vA - q.n),.int .u64 ce3.vB,.int .u8 3,.int .u32 q.wh,.int .u32 q.wt,.bool ce3.is] 130
  rw [hgn,hWn] at TT
  replace TT:=Lib.hid TT
  have HWN:=Lib.hid hWn
  have HGN:=Lib.hid hgn
  clear hWn hgn
  go_wp2_with fail
  clear y0 y1 y2 y3 y4 y5
  try rw [HWN.out]
  try rw [HGN.out]
  clear HWN HGN SS
  have SS:=TT
  clear TT
  have CALL:=Lib.hid (amount_S SS.out BEG.out (by have:=HL.out;(try simp only [List.length_append,List.length_cons,List.length_nil]);omega) 3 q.wh q.wt (ce3.vA - q.n) (show _=l++[amt 1 q.wh 0 (ce2.vA + ce1.vA),amt 3 q.wh q.wt (ce3.vA - q.n)] by simp))
  (with_reducible refine CALL.out.mono ?_)
  rintro e W12 ⟨rfl,hf,p12,hs⟩
  replace SS:=Lib.hid hs
  clear CALL hf hs
  go_wp2
  replace SS:=Lib.hid SS.out.drop
  replace SS:=Lib.hid SS.out.drop
  rw [rounds_succ]
  have y0:W12.cell? ⟨g,5,none⟩=some (.int .u64 q.n):=SS.out.kn.c5
  have b0:(ce1.vB == 0)=true:=by have:=H2.out ce1 S1.out;simpa using this
  have b1:(ce1.vB != 0)=false:=by have:=H2.out ce1 S1.out;simpa using this
  have b2:(q.n == 0)=false:=by have:=HN.out;simpa using this
  have b3:(q.n != 0)=true:=by have:=HN.out;simpa using this
  have b4:(q.wt == 0)=false:=by have:=HW.out;simpa using this
  have b5:(q.wt != 0)=true:=by have:=HW.out;simpa using this
  have cv0:IntKind.u64.wrap q.wt=q.wt:=wrap_u64 HQ.out.wt.1 (by have:=HQ.out.wt;omega)
  go_upto_region 25 with fail
  clear cv0 y0 b0 b1 b2 b3 b4 b5
  refine wp_SA (D:=DP w g q v base i p l seen (oOffer q) Rp.enc) 15 16 17 True True (i + 1 + 1 + 1 + 1) (l++[amt 1 q.wh 0 (ce2.vA + ce1.vA),amt 3 q.wh q.wt (ce3.vA - q.n),Pu.mk 5 q.id n q.n q.wt false]) [pw g 0,some (.pointer (some ⟨gt1,2,none⟩),True),some (.agg #[.int .u8 5,.int .u32 q.id,.int .u32 n],True),pw g 0,pw g 0,pw g 0,pw g 5,some (.int .u64 q.n,True),pw g 0,pw g 0,pw g 0,pw g 3,some (.int .u32 q.wt,True),some (.int .u64 q.wt,True),some (.agg #[.int .u64 q.n,.int .u64 q.wt],True),some (.tuple #[],True)] SS.out (fun vals=>?_) (fun vals W13 hB hall=>?_)
  · simp only [ObD,Act.put,qA,qC,qZ]
    refine ⟨?_,?_,?o12_2,?_,?_,?_,?_,?_,?_,?_,?_,?_,?_,?o12_13,?_,?o12_15,trivial⟩
    all_goals (intro L W hL hk hC hw;have f:=deps hw rfl rfl;simp only [depF,vsP,pw,qS,qD,and_true,true_and] at f)
    case' o12_2=>have k2:W.cell? ⟨gt1,2,none⟩=some (.int .u8 5):=(cw_bx hC).1.out.cell 2;have k3:W.cell? ⟨gt1,3,none⟩=some (.int .u32 q.id):=(cw_bx hC).1.out.cell 3;have k4:W.cell? ⟨gt1,4,none⟩=some (.int .u32 n):=(cw_bx hC).1.out.cell 4
    case' o12_13=>have hcv:IntKind.u64.wrap q.wt=q.wt:=wrap_u64 (HQ.out.wt).1 (by have:=(HQ.out.wt).2;omega)
    case o12_15=>have CL:=Lib.hid (pk SS.out BEG.out (put_S (hC.pre hk) BEG.out (by have:=HL.out;(try simp only [List.length_append,List.length_cons,List.length_nil]);omega) 5 q.id n q.n q.wt (show _=l++[amt 1 q.wh 0 (ce2.vA + ce1.vA),amt 3 q.wh q.wt (ce3.vA - q.n),Pu.mk 5 q.id n q.n q.wt false] by simp)));clear hL hC hk hw;refine spD rfl ?_;go_simp;(with_reducible refine CL.out.mono ?_);rintro e w8 ⟨rfl,hf,H⟩;first | exact kv hf H rfl ⟨rfl,trivial⟩ | exact ⟨_,rfl,kv hf H rfl ⟨rfl,trivial⟩⟩
    all_goals (have c:=kn7 hC;clear hL hC hk hw;refine spD rfl ?_;go_simp;first | exact sv rfl ⟨rfl,trivial⟩ | exact ⟨_,rfl,sv rfl ⟨rfl,trivial⟩⟩)
  simp only [allF,vsP,pw,true_and,and_true,Nat.reduceAdd] at hall
  simp only [TL,Act.put,qA,qC,qZ,hall]
  obtain ⟨p13,hB⟩:=hB.put
  replace SS:=Lib.hid hB
  clear hall vals hB
  obtain ⟨⟨y0,y1,y2,y3,y4,y5⟩,-⟩:=six_cells SS.out.bx.2.1.out
  have CALL:=Lib.hid (put_S SS.out BEG.out (by have:=HL.out;(try simp only [List.length_append,List.length_cons,List.length_nil]);omega) 4 q.id 0 ce0.A 0 (show _=l++[amt 1 q.wh 0 (ce2.vA + ce1.vA),amt 3 q.wh q.wt (ce3.vA - q.n),Pu.mk 5 q.id n q.n q.wt false,Pu.mk 4 q.id 0 ce0.A 0 false] by simp))
  go_wp2_with fail
  (with_reducible refine CALL.out.mono ?_)
  rintro e W14 ⟨rfl,hf,p14,hs⟩
  replace SS:=Lib.hid hs
  clear CALL hf hs y0 y1 y2 y3 y4 y5
  have y0:W14.cell? ⟨g,5,none⟩=some (.int .u64 q.n):=SS.out.kn.c5
  obtain ⟨⟨z0,z1,z2,z3⟩,x0,x1,x2,x3⟩:=four_cells SS.out.bx.2.2.1.out
  go_wp2
  generalize hW:(World.setCell _ (⟨w.heap.size,3,none⟩:Addr) _)=WZ
  have b9:Box WZ w.heap.size #[.int .u16 0,.int .u64 q.n,.int .u64 0,.int .u64 0] 35:=by
    rw [← hW]
    exact four_box SS.out.bx.2.2.1.out
  have F9:Hid (Fr (fun x=>x=w.heap.size) W14 WZ):=Lib.hid (by
    rw [← hW]
    exact four_fr)
  obtain ⟨⟨v0,v1,v2,v3⟩,-⟩:=four_cells b9
  clear hW b9 z0 z1 z2 z3 x0 x1 x2 x3 y0
  refine bodyPost_ret (v:=.agg #[.int .u16 0,.int .u64 q.n,.int .u64 0,.int .u64 0]) (by simp [results,Tryz.results70,go_sem,v0,v1,v2,v3];try rfl) rfl ?_
  refine (SS.out.wr BEG.out 2 rfl F9.out).did (y:=(⟨q.n,0,0⟩,l++[amt 1 q.wh 0 (ce2.vA + ce1.vA),amt 3 q.wh q.wt (ce3.vA - q.n),Pu.mk 5 q.id n q.n q.wt false,Pu.mk 4 q.id 0 ce0.A 0 false])) ?_ rfl
  unfold oOffer
  simp only [runOm_bind,runOm_pure,run_there S0.out.1 S0.out.2,oSide_n (HC.out ce0 S0.out.1),runOm_pure,run_look S1.out,I1.out,EB.out,EN.out,EW.out,and_true,true_and,and_false,false_and,or_true,true_or,or_false,false_or,not_true_eq_false,not_false_eq_true,ne_eq,if_true,if_false,Bool.false_eq_true,run_look S2.out,run_look S3.out,run_more C7.out,run_less C8.out.1 C8.out.2,oAmount,run_put,oAmount,run_put,run_put,run_put,List.append_assoc,List.cons_append,List.nil_append]
  try rfl
end Go.Proofs.YtabckmadpdchnaaGreat.Rule
namespace Go.Proofs.YtabckmadpdchnaaGreat.Rule
open Go.ChangeShapes Go.WideShapes Go.ChangeAt Go.RowKit Go.IntWalk Go.Proofs.Mem
section
variable {w:World} {g:Nat} {wh wm wt id n pr:Int} {v:Value} {i:Int} {p:Value}
theorem ck_8_m {kd:Int} (hk:kd=8∨kd=9) (hb:WorkAt w g ⟨kd,wh,wm,wt,id,n,pr⟩ v i p) (h0:wh≠0) (hn:n≠0) (hm:wm=0):Calls Tryz.prog 50 #[.pointer (some ⟨g,0,none⟩)] w (CkQ (some 1) w):=by
  obtain ⟨c0,c1,c2,c3,c4,c5,c6,c7,c8,c9⟩:=wc_of hb
  dsimp only at c0 c1 c2 c3 c4 c5 c6
  have d0:(wh == 0)=false:=by simpa using h0
  have f0:(n == 0)=false:=by simpa using hn
  have f1:(wm == 0)=true:=by simpa using hm
  clear hb h0 hn hm
  rcases hk with rfl | rfl
  all_goals
    go_enter Tryz.func50,Tryz.ntmps50
    go_wp2_with (first | (go_at_call 60;(with_reducible refine (deny_no 1 _).mono ?_);rintro e w1 ⟨rfl,rfl⟩) | (go_at_call 60;(with_reducible refine (deny_yes 1 _).mono ?_);rintro e w1 ⟨rfl,rfl⟩))
    exact ⟨rfl,rfl,Below.refl _ _⟩
theorem ck_8_s {kd:Int} (hk:kd=8) (hb:WorkAt w g ⟨kd,wh,wm,wt,id,n,pr⟩ v i p) (h0:wh≠0) (hn:n≠0) (hm:wm≠0) (hs:wm=wh):Calls Tryz.prog 50 #[.pointer (some ⟨g,0,none⟩)] w (CkQ (some 212) w):=by
  obtain ⟨c0,c1,c2,c3,c4,c5,c6,c7,c8,c9⟩:=wc_of hb
  dsimp only at c0 c1 c2 c3 c4 c5 c6
  have d0:(wh == 0)=false:=by simpa using h0
  have f0:(n == 0)=false:=by simpa using hn
  have f1:(wm == 0)=false:=by simpa using hm
  have f2:(wm == wh)=true:=by simpa using hs
  clear hb h0 hn hm hs
  rcases hk with rfl
  all_goals
    go_enter Tryz.func50,Tryz.ntmps50
    go_wp2_with (first | (go_at_call 60;(with_reducible refine (deny_no 1 _).mono ?_);rintro e w1 ⟨rfl,rfl⟩))
    go_region_dies
    all_goals
      (with_reducible refine (deny_yes 212 _).mono ?_)
      rintro e w1 ⟨rfl,rfl⟩
      exact ⟨rfl,rfl,Below.drew (Below.refl _ _)⟩
theorem ck_8_ok {kd:Int} (hk:kd=8) (hb:WorkAt w g ⟨kd,wh,wm,wt,id,n,pr⟩ v i p) (h0:wh≠0) (hn:n≠0) (hm:wm≠0) (hs:wm≠wh):Calls Tryz.prog 50 #[.pointer (some ⟨g,0,none⟩)] w (CkQ none w):=by
  obtain ⟨c0,c1,c2,c3,c4,c5,c6,c7,c8,c9⟩:=wc_of hb
  dsimp only at c0 c1 c2 c3 c4 c5 c6
  have d0:(wh == 0)=false:=by simpa using h0
  have f0:(n == 0)=false:=by simpa using hn
  have f1:(wm == 0)=false:=by simpa using hm
  have f2:(wm == wh)=false:=by simpa using hs
  clear hb h0 hn hm hs
  rcases hk with rfl
  all_goals
    go_enter Tryz.func50,Tryz.ntmps50
    go_wp2_with (first | (go_at_call 60;(with_reducible refine (deny_no 1 _).mono ?_);rintro e w1 ⟨rfl,rfl⟩))
    go_region_with (go_at_call 60;(with_reducible refine (deny_no 212 _).mono ?_);rintro e w1 ⟨rfl,rfl⟩)
    all_goals
      go_wp2
      go_end0
      exact ⟨rfl,Below.drew (Below.refl _ _)⟩
theorem ck_9_i {kd:Int} (hk:kd=9) (hb:WorkAt w g ⟨kd,wh,wm,wt,id,n,pr⟩ v i p) (h0:wh≠0) (hn:n≠0) (hm:wm≠0) (hi:itemB wt=false):Calls Tryz.prog 50 #[.pointer (some ⟨g,0,none⟩)] w (CkQ (some 1) w):=by
  obtain ⟨c0,c1,c2,c3,c4,c5,c6,c7,c8,c9⟩:=wc_of hb
  dsimp only at c0 c1 c2 c3 c4 c5 c6
  have d0:(wh == 0)=false:=by simpa using h0
  have f0:(n == 0)=false:=by simpa using hn
  have f1:(wm == 0)=false:=by simpa using hm
  have f2:itemB wt=false:=hi
  clear hb h0 hn hm hi
  rcases hk with rfl
  all_goals
    go_enter Tryz.func50,Tryz.ntmps50
    go_wp2_with (first | (go_at_call 60;(with_reducible refine (deny_no 1 _).mono ?_);rintro e w1 ⟨rfl,rfl⟩) | (go_at_call 60;(with_reducible refine (deny_yes 1 _).mono ?_);rintro e w1 ⟨rfl,rfl⟩) | (go_at_call 61;(with_reducible refine (item_any _ _).mono ?_);rintro e w1 ⟨rfl,rfl⟩))
    exact ⟨rfl,rfl,Below.refl _ _⟩
theorem ck_9_s {kd:Int} (hk:kd=9) (hb:WorkAt w g ⟨kd,wh,wm,wt,id,n,pr⟩ v i p) (h0:wh≠0) (hn:n≠0) (hm:wm≠0) (hi:itemB wt=true) (hs:wm=wh):Calls Tryz.prog 50 #[.pointer (some ⟨g,0,none⟩)] w (CkQ (some 212) w):=by
  obtain ⟨c0,c1,c2,c3,c4,c5,c6,c7,c8,c9⟩:=wc_of hb
  dsimp only at c0 c1 c2 c3 c4 c5 c6
  have d0:(wh == 0)=false:=by simpa using h0
  have f0:(n == 0)=false:=by simpa using hn
  have f1:(wm == 0)=false:=by simpa using hm
  have f2:itemB wt=true:=hi
  have f3:(wm == wh)=true:=by simpa using hs
  clear hb h0 hn hm hi hs
  rcases hk with rfl
  all_goals
    go_enter Tryz.func50,Tryz.ntmps50
    go_wp2_with (first | (go_at_call 60;(with_reducible refine (deny_no 1 _).mono ?_);rintro e w1 ⟨rfl,rfl⟩) | (go_at_call 61;(with_reducible refine (item_any _ _).mono ?_);rintro e w1 ⟨rfl,rfl⟩))
    go_region_dies
    all_goals
      (with_reducible refine (deny_yes 212 _).mono ?_)
      rintro e w1 ⟨rfl,rfl⟩
      exact ⟨rfl,rfl,Below.drew (Below.refl _ _)⟩
theorem ck_9_ok {kd:Int} (hk:kd=9) (hb:WorkAt w g ⟨kd,wh,wm,wt,id,n,pr⟩ v i p) (h0:wh≠0) (hn:n≠0) (hm:wm≠0) (hi:itemB wt=true) (hs:wm≠wh):Calls Tryz.prog 50 #[.pointer (some ⟨g,0,none⟩)] w (CkQ none w):=by
  obtain ⟨c0,c1,c2,c3,c4,c5,c6,c7,c8,c9⟩:=wc_of hb
  dsimp only at c0 c1 c2 c3 c4 c5 c6
  have d0:(wh == 0)=false:=by simpa using h0
  have f0:(n == 0)=false:=by simpa using hn
  have f1:(wm == 0)=false:=by simpa using hm
  have f2:itemB wt=true:=hi
  have f3:(wm == wh)=false:=by simpa using hs
  clear hb h0 hn hm hi hs
  rcases hk with rfl
  all_goals
    go_enter Tryz.func50,Tryz.ntmps50
    go_wp2_with (first | (go_at_call 60;(with_reducible refine (deny_no 1 _).mono ?_);rintro e w1 ⟨rfl,rfl⟩) | (go_at_call 61;(with_reducible refine (item_any _ _).mono ?_);rintro e w1 ⟨rfl,rfl⟩))
    go_region_with (go_at_call 60;(with_reducible refine (deny_no 212 _).mono ?_);rintro e w1 ⟨rfl,rfl⟩)
    all_goals
      go_wp2
      go_end0
      exact ⟨rfl,Below.drew (Below.refl _ _)⟩
theorem ck_11_m {kd:Int} (hk:kd=11) (hb:WorkAt w g ⟨kd,wh,wm,wt,id,n,pr⟩ v i p) (h0:wh≠0) (hm:wm=0):Calls Tryz.prog 50 #[.pointer (some ⟨g,0,none⟩)] w (CkQ (some 1) w):=by
  obtain ⟨c0,c1,c2,c3,c4,c5,c6,c7,c8,c9⟩:=wc_of hb
  dsimp only at c0 c1 c2 c3 c4 c5 c6
  have d0:(wh == 0)=false:=by simpa using h0
  have f0:(wm == 0)=true:=by simpa using hm
  clear hb h0 hm
  rcases hk with rfl
  all_goals
    go_enter Tryz.func50,Tryz.ntmps50
    go_wp2_with (first | (go_at_call 60;(with_reducible refine (deny_no 1 _).mono ?_);rintro e w1 ⟨rfl,rfl⟩) | (go_at_call 60;(with_reducible refine (deny_yes 1 _).mono ?_);rintro e w1 ⟨rfl,rfl⟩))
    exact ⟨rfl,rfl,Below.refl _ _⟩
theorem ck_11_s {kd:Int} (hk:kd=11) (hb:WorkAt w g ⟨kd,wh,wm,wt,id,n,pr⟩ v i p) (h0:wh≠0) (hm:wm≠0) (hs:wm=wh):Calls Tryz.prog 50 #[.pointer (some ⟨g,0,none⟩)] w (CkQ (some 212) w):=by
  obtain ⟨c0,c1,c2,c3,c4,c5,c6,c7,c8,c9⟩:=wc_of hb
  dsimp only at c0 c1 c2 c3 c4 c5 c6
  have d0:(wh == 0)=false:=by simpa using h0
  have f0:(wm == 0)=false:=by simpa using hm
  have f1:(wm == wh)=true:=by simpa using hs
  clear hb h0 hm hs
  rcases hk with rfl
  all_goals
    go_enter Tryz.func50,Tryz.ntmps50
    go_wp2_with (first | (go_at_call 60;(with_reducible refine (deny_no 1 _).mono ?_);rintro e w1 ⟨rfl,rfl⟩))
    go_region_dies
    all_goals
      (with_reducible refine (deny_yes 212 _).mono ?_)
      rintro e w1 ⟨rfl,rfl⟩
      exact ⟨rfl,rfl,Below.drew (Below.refl _ _)⟩
theorem ck_11_ok {kd:Int} (hk:kd=11) (hb:WorkAt w g ⟨kd,wh,wm,wt,id,n,pr⟩ v i p) (h0:wh≠0) (hm:wm≠0) (hs:wm≠wh):Calls Tryz.prog 50 #[.pointer (some ⟨g,0,none⟩)] w (CkQ none w):=by
  obtain ⟨c0,c1,c2,c3,c4,c5,c6,c7,c8,c9⟩:=wc_of hb
  dsimp only at c0 c1 c2 c3 c4 c5 c6
  have d0:(wh == 0)=false:=by simpa using h0
  have f0:(wm == 0)=false:=by simpa using hm
  have f1:(wm == wh)=false:=by simpa using hs
  clear hb h0 hm hs
  rcases hk with rfl
  all_goals
    go_enter Tryz.func50,Tryz.ntmps50
    go_wp2_with (first | (go_at_call 60;(with_reducible refine (deny_no 1 _).mono ?_);rintro e w1 ⟨rfl,rfl⟩))
    go_region_with (go_at_call 60;(with_reducible refine (deny_no 212 _).mono ?_);rintro e w1 ⟨rfl,rfl⟩)
    all_goals
      go_wp2
      go_end0
      exact ⟨rfl,Below.drew (Below.refl _ _)⟩
theorem ck_12_w {kd:Int} (hk:kd=12∨kd=18) (hb:WorkAt w g ⟨kd,wh,wm,wt,id,n,pr⟩ v i p) (h0:wh≠0) (hw:1000 < wt):Calls Tryz.prog 50 #[.pointer (some ⟨g,0,none⟩)] w (CkQ (some 1) w):=by
  obtain ⟨c0,c1,c2,c3,c4,c5,c6,c7,c8,c9⟩:=wc_of hb
  dsimp only at c0 c1 c2 c3 c4 c5 c6
  have d0:(wh == 0)=false:=by simpa using h0
  have f0:decide (1000 < wt)=true:=decide_eq_true hw
  clear hb h0 hw
  rcases hk with rfl | rfl
  all_goals
    go_enter Tryz.func50,Tryz.ntmps50
    go_wp2_with (first | (go_at_call 60;(with_reducible refine (deny_no 1 _).mono ?_);rintro e w1 ⟨rfl,rfl⟩) | (go_at_call 60;(with_reducible refine (deny_yes 1 _).mono ?_);rintro e w1 ⟨rfl,rfl⟩))
    exact ⟨rfl,rfl,Below.refl _ _⟩
theorem ck_12_ok {kd:Int} (hk:kd=12∨kd=18) (hb:WorkAt w g ⟨kd,wh,wm,wt,id,n,pr⟩ v i p) (h0:wh≠0) (hw:¬ 1000 < wt):Calls Tryz.prog 50 #[.pointer (some ⟨g,0,none⟩)] w (CkQ none w):=by
  obtain ⟨c0,c1,c2,c3,c4,c5,c6,c7,c8,c9⟩:=wc_of hb
  dsimp only at c0 c1 c2 c3 c4 c5 c6
  have d0:(wh == 0)=false:=by simpa using h0
  have f0:decide (1000 < wt)=false:=decide_eq_false hw
  clear hb h0 hw
  rcases hk with rfl | rfl
  all_goals
    go_enter Tryz.func50,Tryz.ntmps50
    go_wp2_with (first | (go_at_call 60;(with_reducible refine (deny_no 1 _).mono ?_);rintro e w1 ⟨rfl,rfl⟩))
    go_end0
    exact ⟨rfl,Below.refl _ _⟩
theorem ck_15_p {kd:Int} (hk:kd=15) (hb:WorkAt w g ⟨kd,wh,wm,wt,id,n,pr⟩ v i p) (h0:wh≠0) (hn:n≠0) (hi:itemB wt=true) (hp:4611686018427387904 < pr):Calls Tryz.prog 50 #[.pointer (some ⟨g,0,none⟩)] w (CkQ (some 1) w):=by
  obtain ⟨c0,c1,c2,c3,c4,c5,c6,c7,c8,c9⟩:=wc_of hb
  dsimp only at c0 c1 c2 c3 c4 c5 c6
  have d0:(wh == 0)=false:=by simpa using h0
  have f0:(n == 0)=false:=by simpa using hn
  have f1:itemB wt=true:=hi
  have f2:decide (4611686018427387904 < pr)=true:=decide_eq_true hp
  clear hb h0 hn hi hp
  rcases hk with rfl
  all_goals
    go_enter Tryz.func50,Tryz.ntmps50
    go_wp2_with (first | (go_at_call 60;(with_reducible refine (deny_no 1 _).mono ?_);rintro e w1 ⟨rfl,rfl⟩) | (go_at_call 60;(with_reducible refine (deny_yes 1 _).mono ?_);rintro e w1 ⟨rfl,rfl⟩) | (go_at_call 61;(with_reducible refine (item_any _ _).mono ?_);rintro e w1 ⟨rfl,rfl⟩))
    exact ⟨rfl,rfl,Below.refl _ _⟩
theorem ck_15_ok {kd:Int} (hk:kd=15) (hb:WorkAt w g ⟨kd,wh,wm,wt,id,n,pr⟩ v i p) (h0:wh≠0) (hn:n≠0) (hi:itemB wt=true) (hp:¬ 4611686018427387904 < pr):Calls Tryz.prog 50 #[.pointer (some ⟨g,0,none⟩)] w (CkQ none w):=by
  obtain ⟨c0,c1,c2,c3,c4,c5,c6,c7,c8,c9⟩:=wc_of hb
  dsimp only at c0 c1 c2 c3 c4 c5 c6
  have d0:(wh == 0)=false:=by simpa using h0
  have f0:(n == 0)=false:=by simpa using hn
  have f1:itemB wt=true:=hi
  have f2:decide (4611686018427387904 < pr)=false:=decide_eq_false hp
  clear hb h0 hn hi hp
  rcases hk with rfl
  all_goals
    go_enter Tryz.func50,Tryz.ntmps50
    go_wp2_with (first | (go_at_call 60;(with_reducible refine (deny_no 1 _).mono ?_);rintro e w1 ⟨rfl,rfl⟩) | (go_at_call 61;(with_reducible refine (item_any _ _).mono ?_);rintro e w1 ⟨rfl,rfl⟩))
    go_end0
    exact ⟨rfl,Below.refl _ _⟩
theorem ck_16_b {kd:Int} (hk:kd=16) (hb:WorkAt w g ⟨kd,wh,wm,wt,id,n,pr⟩ v i p) (h0:wh≠0) (hn:n≠0) (hp:4611686018427387904 < n):Calls Tryz.prog 50 #[.pointer (some ⟨g,0,none⟩)] w (CkQ (some 1) w):=by
  obtain ⟨c0,c1,c2,c3,c4,c5,c6,c7,c8,c9⟩:=wc_of hb
  dsimp only at c0 c1 c2 c3 c4 c5 c6
  have d0:(wh == 0)=false:=by simpa using h0
  have f0:(n == 0)=false:=by simpa using hn
  have f1:decide (4611686018427387904 < n)=true:=decide_eq_true hp
  clear hb h0 hn hp
  rcases hk with rfl
  all_goals
    go_enter Tryz.func50,Tryz.ntmps50
    go_wp2_with (first | (go_at_call 60;(with_reducible refine (deny_no 1 _).mono ?_);rintro e w1 ⟨rfl,rfl⟩) | (go_at_call 60;(with_reducible refine (deny_yes 1 _).mono ?_);rintro e w1 ⟨rfl,rfl⟩))
    exact ⟨rfl,rfl,Below.refl _ _⟩
theorem ck_16_ok {kd:Int} (hk:kd=16) (hb:WorkAt w g ⟨kd,wh,wm,wt,id,n,pr⟩ v i p) (h0:wh≠0) (hn:n≠0) (hp:¬ 4611686018427387904 < n):Calls Tryz.prog 50 #[.pointer (some ⟨g,0,none⟩)] w (CkQ none w):=by
  obtain ⟨c0,c1,c2,c3,c4,c5,c6,c7,c8,c9⟩:=wc_of hb
  dsimp only at c0 c1 c2 c3 c4 c5 c6
  have d0:(wh == 0)=false:=by simpa using h0
  have f0:(n == 0)=false:=by simpa using hn
  have f1:decide (4611686018427387904 < n)=false:=decide_eq_false hp
  clear hb h0 hn hp
  rcases hk with rfl
  all_goals
    go_enter Tryz.func50,Tryz.ntmps50
    go_wp2_with (first | (go_at_call 60;(with_reducible refine (deny_no 1 _).mono ?_);rintro e w1 ⟨rfl,rfl⟩))
    go_end0
    exact ⟨rfl,Below.refl _ _⟩
end
end Go.Proofs.YtabckmadpdchnaaGreat.Rule
namespace Go.Proofs.YtabckmadpdchnaaGreat.Rule
open Go.ChangeShapes Go.WideShapes Go.ChangeAt Go.RowKit Go.IntWalk Go.Proofs.Mem
theorem check_any (w:World) (g:Nat) (q:Ot) (hq:q.Ok) (v:Value) (i:Int) (p:Value) (hb:WorkAt w g q v i p) :
    Calls Tryz.prog 50 #[.pointer (some ⟨g,0,none⟩)] w (CkQ (ckE q) w):=by
  have hk:=hq.kd
  obtain ⟨kd,wh,wm,wt,id,n,pr⟩:=q
  dsimp only at hk
  clear hq
  by_cases h0:wh=0
  · rw [show ckE ⟨kd,wh,wm,wt,id,n,pr⟩=some 1 by simp [ckE,h0]]
    exact (chk_who w g kd wh wm wt id n pr v i p hb h0).mono fun e w' ⟨h1,h2⟩=>⟨h1,h2 ▸ Below.refl _ _⟩
  by_cases k1:kd=1
  · subst k1
    rw [show ckE ⟨1,wh,wm,wt,id,n,pr⟩=none by simp [ckE,h0]]
    exact ck_1_ok (by simp) hb h0
  by_cases k10:kd=10
  · subst k10
    rw [show ckE ⟨10,wh,wm,wt,id,n,pr⟩=none by simp [ckE,h0]]
    exact ck_1_ok (by simp) hb h0
  by_cases k13:kd=13
  · subst k13
    rw [show ckE ⟨13,wh,wm,wt,id,n,pr⟩=none by simp [ckE,h0]]
    exact ck_1_ok (by simp) hb h0
  by_cases k14:kd=14
  · subst k14
    rw [show ckE ⟨14,wh,wm,wt,id,n,pr⟩=none by simp [ckE,h0]]
    exact ck_1_ok (by simp) hb h0
  by_cases k17:kd=17
  · subst k17
    rw [show ckE ⟨17,wh,wm,wt,id,n,pr⟩=none by simp [ckE,h0]]
    exact ck_1_ok (by simp) hb h0
  by_cases k2:kd=2
  · subst k2
    by_cases hn:n=0
    · rw [show ckE ⟨2,wh,wm,wt,id,n,pr⟩=some 1 by simp [ckE,h0,hn]]
      exact ck_2_n (by simp) hb h0 hn
    · rw [show ckE ⟨2,wh,wm,wt,id,n,pr⟩=none by simp [ckE,h0,hn]]
      exact ck_2_ok (by simp) hb h0 hn
  by_cases k3:kd=3
  · subst k3
    by_cases hn:n=0
    · rw [show ckE ⟨3,wh,wm,wt,id,n,pr⟩=some 1 by simp [ckE,h0,hn]]
      exact ck_2_n (by simp) hb h0 hn
    · rw [show ckE ⟨3,wh,wm,wt,id,n,pr⟩=none by simp [ckE,h0,hn]]
      exact ck_2_ok (by simp) hb h0 hn
  by_cases k6:kd=6
  · subst k6
    by_cases hn:n=0
    · rw [show ckE ⟨6,wh,wm,wt,id,n,pr⟩=some 1 by simp [ckE,h0,hn]]
      exact ck_2_n (by simp) hb h0 hn
    · rw [show ckE ⟨6,wh,wm,wt,id,n,pr⟩=none by simp [ckE,h0,hn]]
      exact ck_2_ok (by simp) hb h0 hn
  by_cases k7:kd=7
  · subst k7
    by_cases hn:n=0
    · rw [show ckE ⟨7,wh,wm,wt,id,n,pr⟩=some 1 by simp [ckE,h0,hn]]
      exact ck_2_n (by simp) hb h0 hn
    · rw [show ckE ⟨7,wh,wm,wt,id,n,pr⟩=none by simp [ckE,h0,hn]]
      exact ck_2_ok (by simp) hb h0 hn
  by_cases k4:kd=4
  · subst k4
    by_cases hn:n=0
    · rw [show ckE ⟨4,wh,wm,wt,id,n,pr⟩=some 1 by simp [ckE,h0,hn]]
      exact ck_2_n (by simp) hb h0 hn
    · cases hi:itemB wt with
      | false=>
        rw [show ckE ⟨4,wh,wm,wt,id,n,pr⟩=some 1 by simp [ckE,h0,hn,hi]]
        exact ck_4_i (by simp) hb h0 hn hi
      | true=>
        rw [show ckE ⟨4,wh,wm,wt,id,n,pr⟩=none by simp [ckE,h0,hn,hi]]
        exact ck_4_ok (by simp) hb h0 hn hi
  by_cases k5:kd=5
  · subst k5
    by_cases hn:n=0
    · rw [show ckE ⟨5,wh,wm,wt,id,n,pr⟩=some 1 by simp [ckE,h0,hn]]
      exact ck_2_n (by simp) hb h0 hn
    · cases hi:itemB wt with
      | false=>
        rw [show ckE ⟨5,wh,wm,wt,id,n,pr⟩=some 1 by simp [ckE,h0,hn,hi]]
        exact ck_4_i (by simp) hb h0 hn hi
      | true=>
        rw [show ckE ⟨5,wh,wm,wt,id,n,pr⟩=none by simp [ckE,h0,hn,hi]]
        exact ck_4_ok (by simp) hb h0 hn hi
  by_cases k8:kd=8
  · subst k8
    by_cases hn:n=0
    · rw [show ckE ⟨8,wh,wm,wt,id,n,pr⟩=some 1 by simp [ckE,h0,hn]]
      exact ck_2_n (by simp) hb h0 hn
    · by_cases hm:wm=0
      · rw [show ckE ⟨8,wh,wm,wt,id,n,pr⟩=some 1 by simp [ckE,h0,hn,hm]]
        exact ck_8_m (by simp) hb h0 hn hm
      · by_cases hs:wm=wh
        · rw [show ckE ⟨8,wh,wm,wt,id,n,pr⟩=some 212 by simp [ckE,h0,hn,hm,hs]]
          exact ck_8_s (by simp) hb h0 hn hm hs
        · rw [show ckE ⟨8,wh,wm,wt,id,n,pr⟩=none by simp [ckE,h0,hn,hm,hs]]
          exact ck_8_ok (by simp) hb h0 hn hm hs
  by_cases k9:kd=9
  · subst k9
    by_cases hn:n=0
    · rw [show ckE ⟨9,wh,wm,wt,id,n,pr⟩=some 1 by simp [ckE,h0,hn]]
      exact ck_2_n (by simp) hb h0 hn
    · by_cases hm:wm=0
      · rw [show ckE ⟨9,wh,wm,wt,id,n,pr⟩=some 1 by simp [ckE,h0,hn,hm]]
        exact ck_8_m (by simp) hb h0 hn hm
      · cases hi:itemB wt with
        | false=>
          rw [show ckE ⟨9,wh,wm,wt,id,n,pr⟩=some 1 by simp [ckE,h0,hn,hm,hi]]
          exact ck_9_i (by simp) hb h0 hn hm hi
        | true=>
          by_cases hs:wm=wh
          · rw [show ckE ⟨9,wh,wm,wt,id,n,pr⟩=some 212 by simp [ckE,h0,hn,hm,hi,hs]]
            exact ck_9_s (by simp) hb h0 hn hm hi hs
          · rw [show ckE ⟨9,wh,wm,wt,id,n,pr⟩=none by simp [ckE,h0,hn,hm,hi,hs]]
            exact ck_9_ok (by simp) hb h0 hn hm hi hs
  by_cases k11:kd=11
  · subst k11
    by_cases hm:wm=0
    · rw [show ckE ⟨11,wh,wm,wt,id,n,pr⟩=some 1 by simp [ckE,h0,hm]]
      exact ck_11_m (by simp) hb h0 hm
    · by_cases hs:wm=wh
      · rw [show ckE ⟨11,wh,wm,wt,id,n,pr⟩=some 212 by simp [ckE,h0,hm,hs]]
        exact ck_11_s (by simp) hb h0 hm hs
      · rw [show ckE ⟨11,wh,wm,wt,id,n,pr⟩=none by simp [ckE,h0,hm,hs]]
        exact ck_11_ok (by simp) hb h0 hm hs
  by_cases k12:kd=12
  · subst k12
    by_cases hw:1000 < wt
    · rw [show ckE ⟨12,wh,wm,wt,id,n,pr⟩=some 1 by simp [ckE,h0,hw]]
      exact ck_12_w (by simp) hb h0 hw
    · rw [show ckE ⟨12,wh,wm,wt,id,n,pr⟩=none by simp [ckE,h0,hw]]
      exact ck_12_ok (by simp) hb h0 hw
  by_cases k18:kd=18
  · subst k18
    by_cases hw:1000 < wt
    · rw [show ckE ⟨18,wh,wm,wt,id,n,pr⟩=some 1 by simp [ckE,h0,hw]]
      exact ck_12_w (by simp) hb h0 hw
    · rw [show ckE ⟨18,wh,wm,wt,id,n,pr⟩=none by simp [ckE,h0,hw]]
      exact ck_12_ok (by simp) hb h0 hw
  by_cases k15:kd=15
  · subst k15
    by_cases hn:n=0
    · rw [show ckE ⟨15,wh,wm,wt,id,n,pr⟩=some 1 by simp [ckE,h0,hn]]
      exact ck_2_n (by simp) hb h0 hn
    · cases hi:itemB wt with
      | false=>
        rw [show ckE ⟨15,wh,wm,wt,id,n,pr⟩=some 1 by simp [ckE,h0,hn,hi]]
        exact ck_4_i (by simp) hb h0 hn hi
      | true=>
        by_cases hp:4611686018427387904 < pr
        · rw [show ckE ⟨15,wh,wm,wt,id,n,pr⟩=some 1 by simp [ckE,h0,hn,hi,hp]]
          exact ck_15_p (by simp) hb h0 hn hi hp
        · rw [show ckE ⟨15,wh,wm,wt,id,n,pr⟩=none by simp [ckE,h0,hn,hi,hp]]
          exact ck_15_ok (by simp) hb h0 hn hi hp
  by_cases k16:kd=16
  · subst k16
    by_cases hn:n=0
    · rw [show ckE ⟨16,wh,wm,wt,id,n,pr⟩=some 1 by simp [ckE,h0,hn]]
      exact ck_2_n (by simp) hb h0 hn
    · by_cases hp:4611686018427387904 < n
      · rw [show ckE ⟨16,wh,wm,wt,id,n,pr⟩=some 1 by simp [ckE,h0,hn,hp]]
        exact ck_16_b (by simp) hb h0 hn hp
      · rw [show ckE ⟨16,wh,wm,wt,id,n,pr⟩=none by simp [ckE,h0,hn,hp]]
        exact ck_16_ok (by simp) hb h0 hn hp
  rw [show ckE ⟨kd,wh,wm,wt,id,n,pr⟩=none by simp [ckE,h0,k1,k10,k13,k14,k17,k2,k3,k6,k7,k4,k5,k8,k9,k11,k12,k18,k15,k16]]
  exact (chk_kind w g kd wh wm wt id n pr v i p hb h0 (by omega)).mono fun e w' ⟨h1,h2⟩=>⟨h1,h2 ▸ Below.refl _ _⟩
end Go.Proofs.YtabckmadpdchnaaGreat.Rule
namespace Go.Proofs.Each
open Go Go.RowKit Go.Proofs.Mem Go.Sort
def Gr (w w':World):Prop:=∃ q os,w'=grow (w.drewN q) os
theorem Gr.refl (w:World):Gr w w:=⟨0,#[],by rw [grow_empty];rfl⟩
theorem Gr.drewN (w:World) (q:Nat):Gr w (w.drewN q):=⟨q,#[],by rw [grow_empty]⟩
theorem Gr.drew (w:World):Gr w w.drew:=Gr.drewN w 1
theorem Gr.alloc (w:World) (o:Obj):Gr w (w.alloc o):=⟨0,#[o],by rw [alloc_eq_grow];rfl⟩
theorem Gr.trans {a b c:World} (h:Gr a b) (k:Gr b c):Gr a c:=by
  obtain ⟨q,os,rfl⟩:=h
  obtain ⟨q',os',rfl⟩:=k
  refine ⟨q + q',os++os',?_⟩
  rw [← grow_grow]
  have e:(a.drewN q).drewN q'=a.drewN (q + q'):=by simp [World.drewN,Nat.add_assoc]
  show grow (grow ((a.drewN q).drewN q') os) os'=_
  rw [e]
theorem Gr.below {a b:World} (h:Gr a b):Below a.heap.size a b:=by
  obtain ⟨q,os,rfl⟩:=h
  refine ⟨rfl,rfl,rfl,by simp [grow,World.drewN],fun k hk=>?_⟩
  simp only [grow,World.drewN]
  exact Array.getElem?_append_left hk
def Fz (Fs:List (Value→World→Prop)) (j:Nat) (vals:Nat→Value) (W:World):Prop:=(Fs.getD j fun _ _=>True) (vals j) W
theorem Fz.val {Fs:List (Value→World→Prop)} {j:Nat} {vals:Nat→Value} {W:World} {f:Value→World→Prop} {v:Value} (hE:(Fs.getD j fun _ _=>True)=f) (hf:f v W):Fz Fs j (upd vals j v) W:=by
  unfold Fz;rw [upd_same,hE];exact hf
theorem wp_region_gr {P:Program} {l:List Oper} {a0:Act} {id:Nat} {Q:Exit→Act→World→Prop} {w0:World} (hm:P.follows .mixedOrders=true) (hB:fitB l.toArray=true) (Fs:List (Value→World→Prop))
    (hstay:∀ j v W W',Gr W W'→(Fs.getD j fun _ _=>True) v W→(Fs.getD j fun _ _=>True) v W')
    (hob:∀ vals:Nat→Value,ObC P l.toArray (Gr w0) (fun _=>Gr) (Fz Fs) vals 0 l a0)
    (hend:∀ (vals:Nat→Value) W,Gr w0 W→(∀ i,i < l.length→(Fs.getD i fun _ _=>True) (vals i) W)→Q .normal (TL vals 0 l a0) W):(Code.region id l.toArray true).wp P Q a0 w0:=by
  refine wp_region_obC hm hB (Gr w0) (fun _=>Gr) (Fz Fs) (Gr.drew _) (fun i w w' h k=>h.trans k) (fun i j vals w w' _ _ k h=>hstay j _ _ _ k h) (fun j oj vals vals' _ hv _ W hf=>?_) hob hend
  unfold Fz at hf ⊢
  rw [← hv];exact hf
end Go.Proofs.Each
