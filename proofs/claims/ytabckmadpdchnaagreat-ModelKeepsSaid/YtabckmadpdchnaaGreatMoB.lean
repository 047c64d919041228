import Derived.Test.YtabckmadpdchnaaGreatMo7
import Derived.Test.YtabckmadpdchnaaGreatMo9
import Derived.Test.YtabckmadpdchnaaGreatMoA
set_option linter.unusedVariables false
set_option linter.unusedSimpArgs false
set_option linter.unnecessarySimpa false
set_option maxRecDepth 100000
set_option maxHeartbeats 8000000
namespace Go.Proofs.YtabckmadpdchnaaGreat.Rule
open Go.ChangeShapes Go.WideShapes Go.ChangeAt Go.RowKit Go.IntWalk Go.Proofs.Mem Go.Proofs.Each
theorem offer_item_zero (w:World) (g:Nat) (q:Ot) (v:Value) (base i:Nat) (p:Value) (l:List Pu) (seen:List Ce) (hst:St w g q v base i p l) (hs:SeenAt w g v seen) (hg:g < base) (hbase:base≤w.heap.size) (hl:l.length≤700) (hi:i≤700000) (hq:q.Ok) (hok:∀ c∈seen,c.Ok) (n:Int) (hc:∀ c,seen[i]?=some c→(q.wh=hi32 c.A∧n=0)∨(q.wh≠hi32 c.A∧q.wh=lo32 c.A∧n=1)) (h1:∀ c,seen[i + 1]?=some c→c.is=true) (h2:∀ c,seen[i + 1]?=some c→c.vB≠0) (hn:q.n=0) :
    Calls Tryz.prog 70 #[.pointer (some ⟨g,0,none⟩)] w (Did w g q v base i p l seen (oOffer q) Rp.enc):=by
  have BEG:=Lib.hid (Begin.mk hs hg hbase hq hok (fun x hx=>hst.own.lt x hx))
  obtain ⟨W0,hW0⟩:∃ W0,w.alloc (.cells #[.int .u16 0,.int .u64 0,.int .u64 0,.int .u64 0] 35)=W0:=⟨_,rfl⟩
  have SS:Hid (ST w g q v base p i p l [.box w.heap.size #[.int .u16 0,.int .u64 0,.int .u64 0,.int .u64 0] 35] W0):=Lib.hid (by rw [← hW0];exact ST.start hst BEG.out _ _)
  have HI:=Lib.hid hi
  have HQ:=Lib.hid hq
  have HOK:=Lib.hid hok
  have HL:=Lib.hid hl
  have HC:=Lib.hid hc
  have H1:=Lib.hid h1
  have H2:=Lib.hid h2
  have HN:=Lib.hid hn
  obtain ⟨ce0,hce0⟩:=the_cell seen (i)
  have CE0:=Lib.hid hce0
  obtain ⟨ce1,hce1⟩:=the_cell seen (i + 1)
  have CE1:=Lib.hid hce1
  obtain ⟨ce2,hce2⟩:=the_cell seen (i + 1 + 1)
  have CE2:=Lib.hid hce2
  obtain ⟨ce3,hce3⟩:=the_cell seen (i + 1 + 1 + 1)
  have CE3:=Lib.hid hce3
  clear hst hs hg hbase hl hi hq hok hc h1 h2 hn hce0 hce1 hce2 hce3
  go_enter Tryz.func70,Tryz.ntmps70
  go_upto_region 1 with fail
  try rw [hW0]
  clear hW0
  refine wp_SK (D:=DP w g q v base i p l seen (oOffer q) Rp.enc) 9 10 11 (seen[i]?=some ce0∧ce0.is=true) (i + 1) #[.int .u64 ce0.A,.int .u64 ce0.B,.int .u8 4,.int .u32 q.id,.int .u32 0,.bool true] [pw g 0,pw g 0,pw g 7,pw g 0,pw g 0,pw g 0,pw g 4,some (.int .u32 q.id,True),some (.agg #[.int .u8 4,.int .u32 q.id,.int .u32 0],True),some (.agg (thing ce0.A ce0.B 4 q.id 0 true),True),none,none] SS.out (fun vals=>?_) (fun vals W1 hB hfin hall=>?_) (ea 10 rfl)
  · simp only [ObD,Act.put,qA,qC,qZ]
    refine ⟨?_,?_,?_,?_,?_,?_,?_,?_,?o0_8,?o0_9,?o0_10,?o0_11,trivial⟩
    all_goals (intro L W hL hk hC hw;have f:=deps hw rfl rfl;simp only [depF,vsP,pw,qS,qD,and_true,true_and] at f)
    case o0_8=>have CL:=Lib.hid (trade_any q.id W);clear hL hC hk hw;refine spD rfl ?_;go_simp;(with_reducible refine CL.out.mono ?_);rintro e w8 ⟨rfl,h2⟩;first | exact sq h2 rfl ⟨rfl,trivial⟩ | exact ⟨_,rfl,sq h2 rfl ⟨rfl,trivial⟩⟩
    case o0_9=>
      have CL:=Lib.hid (there_K SS.out (hC.pre hk) BEG.out (by have:=HI.out;omega) CE0.out 4 q.id 0);clear hL hC hk hw;refine spD rfl ?_;go_simp;(with_reducible refine CL.out.mono ?_);rintro e w8 (⟨h,rfl,h2⟩ | ⟨h,h3,rfl,h2⟩ | ⟨rfl,hf,H⟩)
      · exact ⟨_,rfl,Did.miss (by unfold oOffer;simp only [runOm_bind,run_there_no h]) h2⟩
      · exact ⟨_,rfl,Did.err (by unfold oOffer;simp only [runOm_bind,run_there_not h h3]) h2⟩
      · first | exact kv hf H rfl ⟨rfl,trivial⟩ | exact ⟨_,rfl,kv hf H rfl ⟨rfl,trivial⟩⟩
    case o0_10=>have ZZ:=hC.fr.size;clear hL hC hk hw;refine spD rfl ?_;go_simp;exact am ZZ
    case o0_11=>obtain ⟨gt,C,fa,hgt,bx0,hc⟩:=Fw.geta (hw ⟨10,.data⟩ (by simp) rfl) (by decide);obtain ⟨c0,c1,c2,c3,c4,c5,rfl⟩:=arr6 hc;have q:=six_cells bx0;have BXX:=Lib.hid bx0;have FA:=Lib.hid fa;clear bx0 hc;unfold thing at f;clear hL hC hk hw;refine spD rfl ?_;go_simp;exact sm SS.out BEG.out BXX.out hgt FA.out
    all_goals (have c:=kn7 hC;clear hL hC hk hw;refine spD rfl ?_;go_simp;first | exact sv rfl ⟨rfl,trivial⟩ | exact ⟨_,rfl,sv rfl ⟨rfl,trivial⟩⟩)
  have S0:=Lib.hid hB.1
  simp only [allF,vsP,pw,true_and,and_true,Nat.reduceAdd] at hall
  obtain ⟨gt0,fa,hgt,bx⟩:=hfin
  simp only [TL,Act.put,qA,qC,qZ,hall,fa]
  replace SS:=Lib.hid (SS.out.push BEG.out hB.st SS.out.lt hgt bx)
  clear hall vals hB fa hgt bx
  obtain ⟨⟨y0,y1,y2,y3,y4,y5⟩,-⟩:=six_cells SS.out.bx.1.out
  have CALL:=Lib.hid (side_n W1 g q v (i + 1:Nat) p SS.out.run.out.st.wb ce0.A ce0.B 4 q.id 0 true (A_ok HOK.out S0.out.1) n (HC.out ce0 S0.out.1))
  unfold thing at CALL
  go_wp2_with fail
  (with_reducible refine CALL.out.mono ?_)
  rintro e W2 ⟨rfl,hbl⟩
  clear CALL y0 y1 y2 y3 y4 y5
  replace SS:=Lib.hid (SS.out.later hbl)
  clear hbl
  go_upto_region 3 with fail
  refine wp_SK (D:=DP w g q v base i p l seen (oOffer q) Rp.enc) 10 11 12 (seen[i + 1]?=some ce1) (i + 1 + 1) #[.int .u64 ce1.vA,.int .u64 ce1.vB,.int .u8 5,.int .u32 q.id,.int .u32 n,.bool ce1.is] [pw g 0,pw g 0,pw g 7,pw g 0,pw g 0,pw g 0,pw g 4,some (.int .u32 q.id,True),some (.int .u32 n,True),some (.agg #[.int .u8 5,.int .u32 q.id,.int .u32 n],True),some (.agg (thing ce1.vA ce1.vB 5 q.id n ce1.is),True),none,none] SS.out (fun vals=>?_) (fun vals W3 hB hfin hall=>?_) (ea 11 rfl)
  · simp only [ObD,Act.put,qA,qC,qZ]
    refine ⟨?_,?_,?_,?_,?_,?_,?_,?_,?_,?o2_9,?o2_10,?o2_11,?o2_12,trivial⟩
    all_goals (intro L W hL hk hC hw;have f:=deps hw rfl rfl;simp only [depF,vsP,pw,qS,qD,and_true,true_and] at f)
    case o2_9=>have CL:=Lib.hid (offer_any q.id n W);clear hL hC hk hw;refine spD rfl ?_;go_simp;(with_reducible refine CL.out.mono ?_);rintro e w8 ⟨rfl,h2⟩;first | exact sq h2 rfl ⟨rfl,trivial⟩ | exact ⟨_,rfl,sq h2 rfl ⟨rfl,trivial⟩⟩
    case o2_10=>
      have CL:=Lib.hid (look_K SS.out (hC.pre hk) BEG.out (by have:=HI.out;omega) CE1.out 5 q.id n);clear hL hC hk hw;refine spD rfl ?_;go_simp;(with_reducible refine CL.out.mono ?_);rintro e w8 (⟨h,rfl,h2⟩ | ⟨h1,rfl,hf,H⟩)
      · exact ⟨_,rfl,Did.miss (by unfold oOffer;simp only [runOm_bind,run_there S0.out.1 S0.out.2,oSide_n (HC.out ce0 S0.out.1),runOm_pure,run_look_no h]) h2⟩
      · first | exact kv hf H rfl ⟨rfl,trivial⟩ | exact ⟨_,rfl,kv hf H rfl ⟨rfl,trivial⟩⟩
    case o2_11=>have ZZ:=hC.fr.size;clear hL hC hk hw;refine spD rfl ?_;go_simp;exact am ZZ
    case o2_12=>obtain ⟨gt,C,fa,hgt,bx0,hc⟩:=Fw.geta (hw ⟨11,.data⟩ (by simp) rfl) (by decide);obtain ⟨c0,c1,c2,c3,c4,c5,rfl⟩:=arr6 hc;have q:=six_cells bx0;have BXX:=Lib.hid bx0;have FA:=Lib.hid fa;clear bx0 hc;unfold thing at f;clear hL hC hk hw;refine spD rfl ?_;go_simp;exact sm SS.out BEG.out BXX.out hgt FA.out
    all_goals (have c:=kn7 hC;clear hL hC hk hw;refine spD rfl ?_;go_simp;first | exact sv rfl ⟨rfl,trivial⟩ | exact ⟨_,rfl,sv rfl ⟨rfl,trivial⟩⟩)
  have S1:=Lib.hid hB.1
  simp only [allF,vsP,pw,true_and,and_true,Nat.reduceAdd] at hall
  obtain ⟨gt1,fa,hgt,bx⟩:=hfin
  simp only [TL,Act.put,qA,qC,qZ,hall,fa]
  replace SS:=Lib.hid (SS.out.push BEG.out hB.st SS.out.lt hgt bx)
  clear hall vals hB fa hgt bx
  have I1:=Lib.hid (H1.out ce1 S1.out)
  have SX:=SS.out
  rw [I1.out] at SX
  replace SS:=Lib.hid SX
  clear SX
  have EB:=Lib.hid (show (ce1.vB=0)=False from eq_false (H2.out ce1 S1.out))
  have EN:=Lib.hid (show (q.n=0)=True from eq_true HN.out)
  go_upto_region 4 with fail
  refine wp_SG0 (D:=DP w g q v base i p l seen (oOffer q) Rp.enc) 9 12 10 11 (seen[i + 1 + 1]?=some ce2) (i + 1 + 1 + 1) #[.int .u64 ce2.vA,.int .u64 ce2.vB,.int .u8 1,.int .u32 q.wh,.int .u32 0,.bool ce2.is] [pw g 0,pw g 0,pw g 7,pw g 0,pw g 0,pw g 0,pw g 1,some (.int .u32 q.wh,True),some (.agg #[.int .u8 1,.int .u32 q.wh,.int .u32 0],True),some (.agg (thing ce2.vA ce2.vB 1 q.wh 0 ce2.is),True),none,none] SS.out BEG.out (fun vals=>?_) (fun vals W4 hB hfin htold hall=>?_) (ea 10 rfl)
  · simp only [ObD,Act.put,qA,qC,qZ]
    refine ⟨?_,?_,?_,?_,?_,?_,?_,?_,?o3_8,?o3_9,?o3_10,?o3_11,trivial⟩
    all_goals (intro L W hL hk hC hw;have f:=depsG hw rfl rfl rfl;simp only [depF,vsP,pw,qS,qD,and_true,true_and] at f)
    case o3_8=>have CL:=Lib.hid (purse_any q.wh W);clear hL hC hk hw;refine spD rfl ?_;go_simp;(with_reducible refine CL.out.mono ?_);rintro e w8 ⟨rfl,h2⟩;first | exact gq h2 rfl ⟨rfl,trivial⟩ | exact ⟨_,rfl,gq h2 rfl ⟨rfl,trivial⟩⟩
    case o3_9=>
      have CL:=Lib.hid (look_KG (hC.pre hk) BEG.out (by have:=HI.out;omega) CE2.out 1 q.wh 0);clear hL hC hk hw;refine spD rfl ?_;go_simp;(with_reducible refine CL.out.mono ?_);rintro e w8 (⟨h,rfl,h2⟩ | ⟨h1,rfl,hf,H⟩)
      · exact ⟨_,rfl,Did.miss (by unfold oOffer;simp only [runOm_bind,run_there S0.out.1 S0.out.2,oSide_n (HC.out ce0 S0.out.1),runOm_pure,run_look S1.out,I1.out,EB.out,EN.out,and_true,true_and,and_false,false_and,or_true,true_or,or_false,false_or,not_true_eq_false,not_false_eq_true,ne_eq,if_true,if_false,Bool.false_eq_true,run_look_no h]) h2⟩
      · first | exact gk hf H rfl ⟨rfl,trivial⟩ | exact ⟨_,rfl,gk hf H rfl ⟨rfl,trivial⟩⟩
    case o3_10=>have ZZ:=hC.fr.size;unfold thing at f;clear hL hC hk hw;refine spD rfl ?_;go_simp;first | exact gm0 ZZ | exact ⟨_,rfl,gm0 ZZ⟩
    case o3_11=>clear hL hC hk hw;refine spD rfl ?_;go_simp;first | exact gt_ | exact ⟨_,rfl,gt_⟩
    all_goals (have c:=kg7 hC;clear hL hC hk hw;refine spD rfl ?_;go_simp;first | exact gv rfl ⟨rfl,trivial⟩ | exact ⟨_,rfl,gv rfl ⟨rfl,trivial⟩⟩)
  have S2:=Lib.hid hB.1
  simp only [allF,vsP,pw,true_and,and_true,Nat.reduceAdd] at hall
  obtain ⟨gl,fs,hor,bx⟩:=hfin
  rw [fs] at htold
  simp only [TL,Act.put,qA,qC,qZ,hall,htold,fs]
  replace SS:=Lib.hid (SS.out.pushP BEG.out hB.st SS.out.lt hor (Pile.of_box (n:=1) bx rfl (by decide)))
  clear hall vals hB htold fs hor bx
  have y0:W4.cell? ⟨gt1,1,none⟩=some (.int .u64 ce1.vB):=SS.out.bx.2.1.out.cell 1
  have y1:W4.cell? ⟨gt1,5,none⟩=some (.bool true):=SS.out.bx.2.1.out.cell 5
  have b0:(ce1.vB == 0)=false:=by have:=H2.out ce1 S1.out;simpa using this
  have b1:(ce1.vB != 0)=true:=by have:=H2.out ce1 S1.out;simpa using this
  have b2:(q.n == 0)=true:=by have:=HN.out;simpa using this
  have b3:(q.n != 0)=false:=by have:=HN.out;simpa using this
  have cv0:IntKind.u64.wrap q.wt=q.wt:=wrap_u64 HQ.out.wt.1 (by have:=HQ.out.wt;omega)
  go_upto_region 8 with fail
  clear cv0 y0 y1 b0 b1 b2 b3
  refine wp_SGO (D:=DP w g q v base i p l seen (oOffer q) Rp.enc) 13 14 15 16 2 (SB (seen[i + 1 + 1 + 1]?=some ce3) False w g q v base p (i + 1 + 1 + 1 + 1) p l [.box gt1 #[.int .u64 ce1.vA,.int .u64 ce1.vB,.int .u8 5,.int .u32 q.id,.int .u32 n,.bool true] 130,.box gt0 #[.int .u64 ce0.A,.int .u64 ce0.B,.int .u8 4,.int .u32 q.id,.int .u32 0,.bool true] 130,.box w.heap.size #[.int .u16 0,.int .u64 0,.int .u64 0,.int .u64 0] 35]) #[.int .u64 ce3.vA,.int .u64 ce3.vB,.int .u8 (holdK ce1.vB),.int .u32 q.wh,.int .u32 (holdW ce1.vB),.bool ce3.is] #[.int .u64 ce2.vA,.int .u64 ce2.vB,.int .u8 1,.int .u32 q.wh,.int .u32 0,.bool ce2.is,.int .u64 ce3.vA,.int .u64 ce3.vB,.int .u8 (holdK ce1.vB),.int .u32 q.wh,.int .u32 (holdW ce1.vB),.bool ce3.is] [some (.slice (some ⟨gl,0,none⟩) 1 1,True),pw g 0,pw g 0,pw g 7,pw g 0,pw g 0,pw g 0,pw g 1,some (.int .u32 q.wh,True),some (.pointer (some ⟨gt1,0,none⟩),True),some (.pointer (some ⟨gt1,1,none⟩),True),some (.int .u64 ce1.vB,True),some (.agg #[.int .u8 (holdK ce1.vB),.int .u32 q.wh,.int .u32 (holdW ce1.vB)],True),some (.agg (thing ce3.vA ce3.vB (holdK ce1.vB) q.wh (holdW ce1.vB) ce3.is),True),none,none,none] 0 SS.out BEG.out rfl rfl (fun vals=>?_) (fun vals W5 hB hfin htold hall=>?_) (ea 14 rfl) (ea 15 rfl)
  · simp only [ObD,Act.put,qA,qC,qZ]
    refine ⟨?_,?_,?_,?_,?_,?_,?_,?_,?_,?_,?_,?o4_11,?o4_12,?o4_13,?o4_14,?o4_15,?o4_16,trivial⟩
    all_goals (intro L W hL hk hC hw;have f:=depsG hw rfl rfl rfl;simp only [depF,vsP,pw,qS,qD,and_true,true_and] at f)
    case' o4_11=>have k1:W.cell? ⟨gt1,1,none⟩=some (.int .u64 ce1.vB):=(cg_bx hC).1.out.cell 1
    case o4_12=>have CL:=Lib.hid (hold_any q.wh ce1.vB W);clear hL hC hk hw;refine spD rfl ?_;go_simp;(with_reducible refine CL.out.mono ?_);rintro e w8 ⟨rfl,h2⟩;first | exact gq h2 rfl ⟨rfl,trivial⟩ | exact ⟨_,rfl,gq h2 rfl ⟨rfl,trivial⟩⟩
    case o4_13=>
      have CL:=Lib.hid (look_KG (hC.pre hk) BEG.out (by have:=HI.out;omega) CE3.out (holdK ce1.vB) q.wh (holdW ce1.vB));clear hL hC hk hw;refine spD rfl ?_;go_simp;(with_reducible refine CL.out.mono ?_);rintro e w8 (⟨h,rfl,h2⟩ | ⟨h1,rfl,hf,H⟩)
      · exact ⟨_,rfl,Did.miss (by unfold oOffer;simp only [runOm_bind,run_there S0.out.1 S0.out.2,oSide_n (HC.out ce0 S0.out.1),runOm_pure,run_look S1.out,I1.out,EB.out,EN.out,and_true,true_and,and_false,false_and,or_true,true_or,or_false,false_or,not_true_eq_false,not_false_eq_true,ne_eq,if_true,if_false,Bool.false_eq_true,run_look S2.out,run_look_no h]) h2⟩
      · first | exact gk hf H rfl ⟨rfl,trivial⟩ | exact ⟨_,rfl,gk hf H rfl ⟨rfl,trivial⟩⟩
    case o4_14=>have ZZ:=hC.fr.size;unfold thing at f;clear hL hC hk hw;refine spD rfl ?_;go_simp;first | exact gm1 ZZ | exact ⟨_,rfl,gm1 ZZ⟩
    case o4_15=>
      have GZ:=hC.fr.size;have fm:vals 0=.slice (some ⟨gl,0,none⟩) 1 1:=(Fg.get (f:=vsP (some (.slice (some ⟨gl,0,none⟩) 1 1,True))) (hw ⟨0,.data⟩ (by simp) rfl) (by decide) (by decide) (by decide) rfl).1;obtain ⟨gb,fa,hgb,bxb⟩:=Fg.geta (hw ⟨14,.data⟩ (by simp) rfl) (by decide) (by decide);have FA:=Lib.hid fa;have BXB:=Lib.hid bxb;obtain ⟨i0,hi0,hz0,hz1,hz2⟩:=info_parts thing_info;have GR:=Lib.hid (hC.row hk)
      clear hL hC hk hw
      refine step_append_lies _ (by rfl) _ _ _ (by rfl) gl 130 i0 _ 6 32 Tryz.underlying140 hi0 hz0 hz1 hz2 rfl (by omega) (.slice (some ⟨gl,0,none⟩) 1 1) 1 _ (Eq.trans (by rfl) fm) GR.out ⟨gb,0,none⟩ 1 1 [.int .u64 ce3.vA,.int .u64 ce3.vB,.int .u8 (holdK ce1.vB),.int .u32 q.wh,.int .u32 (holdW ce1.vB),.bool ce3.is] (Eq.trans (by rfl) FA.out) rfl (World.news_of_block (cs:=#[.int .u64 ce3.vA,.int .u64 ce3.vB,.int .u8 (holdK ce1.vB),.int .u32 q.wh,.int .u32 (holdW ce1.vB),.bool ce3.is]) (t:=130) (fr:=(0,0)) BXB.out) (by simp [Value.oneCell']) (by omega) (by unfold maxLen;omega) (by omega) (Nat.le_of_lt GR.out.lt) W.heap.size rfl ?_
      intro gg cc WQ hown1 hgrow hat hlt1
      exact ⟨_,rfl,ga SS.out BEG.out (n:=0) rfl rfl GR.out GZ (by simpa using hown1) hgrow hat⟩
    case o4_16=>clear hL hC hk hw;refine spD rfl ?_;go_simp;first | exact gt_ | exact ⟨_,rfl,gt_⟩
    all_goals (have c:=kg7 hC;clear hL hC hk hw;refine spD rfl ?_;go_simp;first | exact gv rfl ⟨rfl,trivial⟩ | exact ⟨_,rfl,gv rfl ⟨rfl,trivial⟩⟩)
  have S3:=Lib.hid hB.1
  simp only [allF,vsP,pw,true_and,and_true,Nat.reduceAdd] at hall
  obtain ⟨gm,cap_gm,fs,hor,bx⟩:=hfin
  rw [fs] at htold
  simp only [TL,Act.put,qA,qC,qZ,hall,htold,fs]
  generalize vals 14=vz4
  replace SS:=Lib.hid (SS.out.regrow BEG.out 0 rfl rfl hB.st hor bx)
  clear hall vals hB htold fs hor bx
  have y0:W5.cell? ⟨g,3,none⟩=some (.int .u32 q.wt):=SS.out.kn.c3
  have y1:W5.cell? ⟨g,5,none⟩=some (.int .u64 q.n):=SS.out.kn.c5
  have y2:W5.cell? ⟨gt1,5,none⟩=some (.bool true):=SS.out.bx.2.1.out.cell 5
  have b0:(ce1.vB == 0)=false:=by have:=H2.out ce1 S1.out;simpa using this
  have b1:(ce1.vB != 0)=true:=by have:=H2.out ce1 S1.out;simpa using this
  have b2:(q.n == 0)=true:=by have:=HN.out;simpa using this
  have b3:(q.n != 0)=false:=by have:=HN.out;simpa using this
  have cv0:IntKind.u64.wrap q.wt=q.wt:=wrap_u64 HQ.out.wt.1 (by have:=HQ.out.wt;omega)
  go_upto_region 15 with fail
  clear cv0 y0 y1 y2 b0 b1 b2 b3
  refine wp_S (D:=DP w g q v base i p l seen (oOffer q) Rp.enc) 15 16 17 (SB True False w g q v base p (i + 1 + 1 + 1 + 1) p l [.pile gm 2 cap_gm #[.int .u64 ce2.vA,.int .u64 ce2.vB,.int .u8 1,.int .u32 q.wh,.int .u32 0,.bool ce2.is,.int .u64 (ce3.vA + ce1.vA),.int .u64 ce3.vB,.int .u8 (holdK ce1.vB),.int .u32 q.wh,.int .u32 (holdW ce1.vB),.bool ce3.is],.box gt1 #[.int .u64 ce1.vA,.int .u64 ce1.vB,.int .u8 5,.int .u32 q.id,.int .u32 n,.bool true] 130,.box gt0 #[.int .u64 ce0.A,.int .u64 ce0.B,.int .u8 4,.int .u32 q.id,.int .u32 0,.bool true] 130,.box w.heap.size #[.int .u16 0,.int .u64 0,.int .u64 0,.int .u64 0] 35]) [some (.slice (some ⟨gm,0,none⟩) 2 cap_gm,True),some (.int .i64 1,True),some (.slice (some ⟨gm,0,none⟩) 2 cap_gm,True),some (.int .i64 1,True),some (.pointer (some ⟨gm,6,none⟩),True),some (.pointer (some ⟨gm,6,none⟩),True),some (.pointer (some ⟨gm,6,none⟩),True),some (.int .u64 ce3.vA,True),some (.pointer (some ⟨gt1,0,none⟩),True),some (.pointer (some ⟨gt1,0,none⟩),True),some (.int .u64 ce1.vA,True),some (.int .u64 (ce3.vA + ce1.vA),Mr ce3.vA ce1.vA),some (.pointer (some ⟨gm,6,none⟩),True),some (.pointer (some ⟨gm,6,none⟩),True),some (.pointer (some ⟨gm,6,none⟩),True),some (undef,True)] SS.out (fun vals=>?_) (fun vals W6 hB hall=>?_)
  · simp only [ObD,Act.put,qA,qC,qZ]
    refine ⟨?_,?_,?_,?_,?_,?_,?_,?o5_7,?_,?_,?o5_10,?o5_11,?_,?_,?_,?o5_15,trivial⟩
    all_goals (intro L W hL hk hC hw;have f:=deps hw rfl rfl;simp only [depF,vsP,pw,qS,qD,and_true,true_and] at f)
    case' o5_7=>have k6:W.cell? ⟨gm,6,none⟩=some (.int .u64 ce3.vA):=(hC.pre (hL.not_yet hk 15 16 (by decide +kernel))).bx.1.out.cell 6
    case' o5_10=>have k0:W.cell? ⟨gt1,0,none⟩=some (.int .u64 ce1.vA):=(hC.pre (hL.not_yet hk 15 16 (by decide +kernel))).bx.2.1.out.cell 0
    case o5_11=>
      have CL:=Lib.hid (more_C (vA_ok HOK.out S3.out) (vA_ok HOK.out S1.out) hC SS.out BEG.out);clear hL hC hk hw;refine spD rfl ?_;go_simp;(with_reducible refine CL.out.mono ?_)
      rintro e w8 (⟨h,rfl,h2⟩ | ⟨h1,rfl,h2⟩)
      · exact ⟨_,rfl,Did.err (by unfold oOffer;simp only [runOm_bind,run_there S0.out.1 S0.out.2,oSide_n (HC.out ce0 S0.out.1),runOm_pure,run_look S1.out,I1.out,EB.out,EN.out,and_true,true_and,and_false,false_and,or_true,true_or,or_false,false_or,not_true_eq_false,not_false_eq_true,ne_eq,if_true,if_false,Bool.false_eq_true,run_look S2.out,run_look S3.out,run_more_no h]) h2⟩
      · first | exact sq h2 rfl ⟨rfl,h1⟩ | exact ⟨_,rfl,sq h2 rfl ⟨rfl,h1⟩⟩
    case o5_15=>have PRE:=hC.pre hk;have q0:W.cell? ⟨gm,6,none⟩=some (.int .u64 ce3.vA):=PRE.bx.1.out.cell 6;have r0:=PRE.bx.1.out.frozen 6;have P:=Lib.hid PRE;clear PRE;clear hL hC hk hw;refine spD rfl ?_;go_simp;exact ks (ksP SS.out P.out BEG.out 0 rfl) rfl ⟨rfl,trivial⟩
    all_goals (have c:=kn7 hC;clear hL hC hk hw;refine spD rfl ?_;go_simp;first | exact sv rfl ⟨rfl,trivial⟩ | exact ⟨_,rfl,sv rfl ⟨rfl,trivial⟩⟩)
  have C6:Hid (Mr ce3.vA ce1.vA):=Lib.hid (vsP_c (hall.get 11))
  simp only [allF,vsP,pw,true_and,and_true,Nat.reduceAdd] at hall
  simp only [TL,Act.put,qA,qC,qZ,hall]
  replace SS:=Lib.hid hB.st
  clear hall vals hB
  have y0:W6.cell? ⟨g,5,none⟩=some (.int .u64 q.n):=SS.out.kn.c5
  have b0:(ce1.vB == 0)=false:=by have:=H2.out ce1 S1.out;simpa using this
  have b1:(ce1.vB != 0)=true:=by have:=H2.out ce1 S1.out;simpa using this
  have b2:(q.n == 0)=true:=by have:=HN.out;simpa using this
  have b3:(q.n != 0)=false:=by have:=HN.out;simpa using this
  have cv0:IntKind.u64.wrap q.wt=q.wt:=wrap_u64 HQ.out.wt.1 (by have:=HQ.out.wt;omega)
  go_wp2
  clear cv0 y0 b0 b1 b2 b3
  refine wp_loop_rounds 3 ?_
  obtain ⟨y0,y1,y2,y3,y4,y5⟩:=pile6 SS.out.bx.1.out 0 1 2 3 4 5 rfl rfl rfl rfl rfl rfl
  rw [rounds_succ]
  obtain ⟨W7,hWn⟩:∃ W7,W6.alloc (.cells #[.int .u64 ce2.vA,.int .u64 ce2.vB,.int .u8 1,.int .u32 q.wh,.int .u32 0,.bool ce2.is] 130)=W7:=⟨_,rfl⟩
  obtain ⟨gq0,hgn⟩:∃ gq0,W6.heap.size=gq0:=⟨_,rfl⟩
  have TT:=SS.out.alloc BEG.out #[.int .u64 ce2.vA,.int .u64 ce2.vB,.int .u8 1,.int .u32 q.wh,.int .u32 0,.bool ce2.is] 130
  rw [hgn,hWn] at TT
  replace TT:=Lib.hid TT
  have HWN:=Lib.hid hWn
  have HGN:=Lib.hid hgn
  clear hWn hgn
  go_wp2_with fail
  clear y0 y1 y2 y3 y4 y5
  try rw [HWN.out]
  try rw [HGN.out]
  clear HWN HGN SS
  have SS:=TT
  clear TT
  have CALL:=Lib.hid (amount_S SS.out BEG.out (by have:=HL.out;(try simp only [List.length_append,List.length_cons,List.length_nil]);omega) 1 q.wh 0 ce2.vA (show _=l++[amt 1 q.wh 0 ce2.vA] by simp))
  (with_reducible refine CALL.out.mono ?_)
  rintro e W8 ⟨rfl,hf,p8,hs⟩
  replace SS:=Lib.hid hs
  clear CALL hf hs
  go_wp2
  replace SS:=Lib.hid SS.out.drop
  obtain ⟨y0,y1,y2,y3,y4,y5⟩:=pile6 SS.out.bx.1.out 6 7 8 9 10 11 rfl rfl rfl rfl rfl rfl
  rw [rounds_succ]
  obtain ⟨W9,hWn⟩:∃ W9,W8.alloc (.cells #[.int .u64 (ce3.vA + ce1.vA),.int .u64 ce3.vB,.int .u8 (holdK ce1.vB),.int .u32 q.wh,.int .u32 (holdW ce1.vB),.bool ce3.is] 130)=W9:=⟨_,rfl⟩
  obtain ⟨gq1,hgn⟩:∃ gq1,W8.heap.size=gq1:=⟨_,rfl⟩
  have TT:=SS.out.alloc BEG.out #[.int .u64 (ce3.vA + ce1.vA),.int .u64 ce3.vB,.int .u8 (holdK ce1.vB),.int .u32 q.wh,.int .u32 (holdW ce1.vB),.bool ce3.is] 130
  rw [hgn,hWn] at TT
  replace TT:=Lib.hid TT
  have HWN:=Lib.hid hWn
  have HGN:=Lib.hid hgn
  clear hWn hgn
  go_wp2_with fail
  clear y0 y1 y2 y3 y4 y5
  try rw [HWN.out]
  try rw [HGN.out]
  clear HWN HGN SS
  have SS:=TT
  clear TT
  have CALL:=Lib.hid (amount_S SS.out BEG.out (by have:=HL.out;(try simp only [List.length_append,List.length_cons,List.length_nil]);omega) (holdK ce1.vB) q.wh (holdW ce1.vB) (ce3.vA + ce1.vA) (show _=l++[amt 1 q.wh 0 ce2.vA,amt (holdK ce1.vB) q.wh (holdW ce1.vB) (ce3.vA + ce1.vA)] by simp))
  (with_reducible refine CALL.out.mono ?_)
  rintro e W10 ⟨rfl,hf,p10,hs⟩
  replace SS:=Lib.hid hs
  clear CALL hf hs
  go_wp2
  replace SS:=Lib.hid SS.out.drop
  replace SS:=Lib.hid SS.out.drop
  rw [rounds_succ]
  have y0:W10.cell? ⟨g,5,none⟩=some (.int .u64 q.n):=SS.out.kn.c5
  have b0:(ce1.vB == 0)=false:=by have:=H2.out ce1 S1.out;simpa using this
  have b1:(ce1.vB != 0)=true:=by have:=H2.out ce1 S1.out;simpa using this
  have b2:(q.n == 0)=true:=by have:=HN.out;simpa using this
  have b3:(q.n != 0)=false:=by have:=HN.out;simpa using this
  obtain ⟨⟨y0,y1,y2,y3,y4,y5⟩,-⟩:=six_cells SS.out.bx.1.out
  have CALL:=Lib.hid (gone_S SS.out BEG.out (by have:=HL.out;(try simp only [List.length_append,List.length_cons,List.length_nil]);omega) 5 q.id n (show _=l++[amt 1 q.wh 0 ce2.vA,amt (holdK ce1.vB) q.wh (holdW ce1.vB) (ce3.vA + ce1.vA),Pu.mk 5 q.id n 0 0 true] by simp))
  go_wp2_with fail
  (with_reducible refine CALL.out.mono ?_)
  rintro e W11 ⟨rfl,hf,p11,hs⟩
  replace SS:=Lib.hid hs
  clear CALL hf hs y0 y1 y2 y3 y4 y5
  obtain ⟨⟨y0,y1,y2,y3,y4,y5⟩,-⟩:=six_cells SS.out.bx.2.1.out
  have CALL:=Lib.hid (put_S SS.out BEG.out (by have:=HL.out;(try simp only [List.length_append,List.length_cons,List.length_nil]);omega) 4 q.id 0 ce0.A 0 (show _=l++[amt 1 q.wh 0 ce2.vA,amt (holdK ce1.vB) q.wh (holdW ce1.vB) (ce3.vA + ce1.vA),Pu.mk 5 q.id n 0 0 true,Pu.mk 4 q.id 0 ce0.A 0 false] by simp))
  go_wp2_with fail
  (with_reducible refine CALL.out.mono ?_)
  rintro e W12 ⟨rfl,hf,p12,hs⟩
  replace SS:=Lib.hid hs
  clear CALL hf hs y0 y1 y2 y3 y4 y5
  have y0:W12.cell? ⟨g,5,none⟩=some (.int .u64 q.n):=SS.out.kn.c5
  obtain ⟨⟨z0,z1,z2,z3⟩,x0,x1,x2,x3⟩:=four_cells SS.out.bx.2.2.1.out
  go_wp2
  generalize hW:(World.setCell _ (⟨w.heap.size,3,none⟩:Addr) _)=WZ
  have b9:Box WZ w.heap.size #[.int .u16 0,.int .u64 q.n,.int .u64 0,.int .u64 0] 35:=by
    rw [← hW]
    exact four_box SS.out.bx.2.2.1.out
  have F9:Hid (Fr (fun x=>x=w.heap.size) W12 WZ):=Lib.hid (by
    rw [← hW]
    exact four_fr)
  obtain ⟨⟨v0,v1,v2,v3⟩,-⟩:=four_cells b9
  clear hW b9 z0 z1 z2 z3 x0 x1 x2 x3 y0
  refine bodyPost_ret (v:=.agg #[.int .u16 0,.int .u64 q.n,.int .u64 0,.int .u64 0]) (by simp [results,Tryz.results70,go_sem,v0,v1,v2,v3];try rfl) rfl ?_
  refine (SS.out.wr BEG.out 2 rfl F9.out).did (y:=(⟨q.n,0,0⟩,l++[amt 1 q.wh 0 ce2.vA,amt (holdK ce1.vB) q.wh (holdW ce1.vB) (ce3.vA + ce1.vA),Pu.mk 5 q.id n 0 0 true,Pu.mk 4 q.id 0 ce0.A 0 false])) ?_ rfl
  unfold oOffer
  simp only [runOm_bind,runOm_pure,run_there S0.out.1 S0.out.2,oSide_n (HC.out ce0 S0.out.1),runOm_pure,run_look S1.out,I1.out,EB.out,EN.out,and_true,true_and,and_false,false_and,or_true,true_or,or_false,false_or,not_true_eq_false,not_false_eq_true,ne_eq,if_true,if_false,Bool.false_eq_true,run_look S2.out,run_look S3.out,run_more C6.out,oAmount,run_put,oAmount,run_put,oGone,run_put,run_put,List.append_assoc,List.cons_append,List.nil_append]
  try rfl
theorem offer_item_coin (w:World) (g:Nat) (q:Ot) (v:Value) (base i:Nat) (p:Value) (l:List Pu) (seen:List Ce) (hst:St w g q v base i p l) (hs:SeenAt w g v seen) (hg:g < base) (hbase:base≤w.heap.size) (hl:l.length≤700) (hi:i≤700000) (hq:q.Ok) (hok:∀ c∈seen,c.Ok) (n:Int) (hc:∀ c,seen[i]?=some c→(q.wh=hi32 c.A∧n=0)∨(q.wh≠hi32 c.A∧q.wh=lo32 c.A∧n=1)) (h1:∀ c,seen[i + 1]?=some c→c.is=true) (h2:∀ c,seen[i + 1]?=some c→c.vB≠0) (hn:q.n≠0) (hw:q.wt=0) :
    Calls Tryz.prog 70 #[.pointer (some ⟨g,0,none⟩)] w (Did w g q v base i p l seen (oOffer q) Rp.enc):=by
  have BEG:=Lib.hid (Begin.mk hs hg hbase hq hok (fun x hx=>hst.own.lt x hx))
  obtain ⟨W0,hW0⟩:∃ W0,w.alloc (.cells #[.int .u16 0,.int .u64 0,.int .u64 0,.int .u64 0] 35)=W0:=⟨_,rfl⟩
  have SS:Hid (ST w g q v base p i p l [.box w.heap.size #[.int .u16 0,.int .u64 0,.int .u64 0,.int .u64 0] 35] W0):=Lib.hid (by rw [← hW0];exact ST.start hst BEG.out _ _)
  have HI:=Lib.hid hi
  have HQ:=Lib.hid hq
  have HOK:=Lib.hid hok
  have HL:=Lib.hid hl
  have HC:=Lib.hid hc
  have H1:=Lib.hid h1
  have H2:=Lib.hid h2
  have HN:=Lib.hid hn
  have HW:=Lib.hid hw
  obtain ⟨ce0,hce0⟩:=the_cell seen (i)
  have CE0:=Lib.hid hce0
  obtain ⟨ce1,hce1⟩:=the_cell seen (i + 1)
  have CE1:=Lib.hid hce1
  obtain ⟨ce2,hce2⟩:=the_cell seen (i + 1 + 1)
  have CE2:=Lib.hid hce2
  obtain ⟨ce3,hce3⟩:=the_cell seen (i + 1 + 1 + 1)
  have CE3:=Lib.hid hce3
  clear hst hs hg hbase hl hi hq hok hc h1 h2 hn hw hce0 hce1 hce2 hce3
  go_enter Tryz.func70,Tryz.ntmps70
  go_upto_region 1 with fail
  try rw [hW0]
  clear hW0
  refine wp_SK (D:=DP w g q v base i p l seen (oOffer q) Rp.enc) 9 10 11 (seen[i]?=some ce0∧ce0.is=true) (i + 1) #[.int .u64 ce0.A,.int .u64 ce0.B,.int .u8 4,.int .u32 q.id,.int .u32 0,.bool true] [pw g 0,pw g 0,pw g 7,pw g 0,pw g 0,pw g 0,pw g 4,some (.int .u32 q.id,True),some (.agg #[.int .u8 4,.int .u32 q.id,.int .u32 0],True),some (.agg (thing ce0.A ce0.B 4 q.id 0 true),True),none,none] SS.out (fun vals=>?_) (fun vals W1 hB hfin hall=>?_) (ea 10 rfl)
  · simp only [ObD,Act.put,qA,qC,qZ]
    refine ⟨?_,?_,?_,?_,?_,?_,?_,?_,?o0_8,?o0_9,?o0_10,?o0_11,trivial⟩
    all_goals (intro L W hL hk hC hw;have f:=deps hw rfl rfl;simp only [depF,vsP,pw,qS,qD,and_true,true_and] at f)
    case o0_8=>have CL:=Lib.hid (trade_any q.id W);clear hL hC hk hw;refine spD rfl ?_;go_simp;(with_reducible refine CL.out.mono ?_);rintro e w8 ⟨rfl,h2⟩;first | exact sq h2 rfl ⟨rfl,trivial⟩ | exact ⟨_,rfl,sq h2 rfl ⟨rfl,trivial⟩⟩
    case o0_9=>
      have CL:=Lib.hid (there_K SS.out (hC.pre hk) BEG.out (by have:=HI.out;omega) CE0.out 4 q.id 0);clear hL hC hk hw;refine spD rfl ?_;go_simp;(with_reducible refine CL.out.mono ?_);rintro e w8 (⟨h,rfl,h2⟩ | ⟨h,h3,rfl,h2⟩ | ⟨rfl,hf,H⟩)
      · exact ⟨_,rfl,Did.miss (by unfold oOffer;simp only [runOm_bind,run_there_no h]) h2⟩
      · exact ⟨_,rfl,Did.err (by unfold oOffer;simp only [runOm_bind,run_there_not h h3]) h2⟩
      · first | exact kv hf H rfl ⟨rfl,trivial⟩ | exact ⟨_,rfl,kv hf H rfl ⟨rfl,trivial⟩⟩
    case o0_10=>have ZZ:=hC.fr.size;clear hL hC hk hw;refine spD rfl ?_;go_simp;exact am ZZ
    case o0_11=>obtain ⟨gt,C,fa,hgt,bx0,hc⟩:=Fw.geta (hw ⟨10,.data⟩ (by simp) rfl) (by decide);obtain ⟨c0,c1,c2,c3,c4,c5,rfl⟩:=arr6 hc;have q:=six_cells bx0;have BXX:=Lib.hid bx0;have FA:=Lib.hid fa;clear bx0 hc;unfold thing at f;clear hL hC hk hw;refine spD rfl ?_;go_simp;exact sm SS.out BEG.out BXX.out hgt FA.out
    all_goals (have c:=kn7 hC;clear hL hC hk hw;refine spD rfl ?_;go_simp;first | exact sv rfl ⟨rfl,trivial⟩ | exact ⟨_,rfl,sv rfl ⟨rfl,trivial⟩⟩)
  have S0:=Lib.hid hB.1
  simp only [allF,vsP,pw,true_and,and_true,Nat.reduceAdd] at hall
  obtain ⟨gt0,fa,hgt,bx⟩:=hfin
  simp only [TL,Act.put,qA,qC,qZ,hall,fa]
  replace SS:=Lib.hid (SS.out.push BEG.out hB.st SS.out.lt hgt bx)
  clear hall vals hB fa hgt bx
  obtain ⟨⟨y0,y1,y2,y3,y4,y5⟩,-⟩:=six_cells SS.out.bx.1.out
  have CALL:=Lib.hid (side_n W1 g q v (i + 1:Nat) p SS.out.run.out.st.wb ce0.A ce0.B 4 q.id 0 true (A_ok HOK.out S0.out.1) n (HC.out ce0 S0.out.1))
  unfold thing at CALL
  go_wp2_with fail
  (with_reducible refine CALL.out.mono ?_)
  rintro e W2 ⟨rfl,hbl⟩
  clear CALL y0 y1 y2 y3 y4 y5
  replace SS:=Lib.hid (SS.out.later hbl)
  clear hbl
  go_upto_region 3 with fail
  refine wp_SK (D:=DP w g q v base i p l seen (oOffer q) Rp.enc) 10 11 12 (seen[i + 1]?=some ce1) (i + 1 + 1) #[.int .u64 ce1.vA,.int .u64 ce1.vB,.int .u8 5,.int .u32 q.id,.int .u32 n,.bool ce1.is] [pw g 0,pw g 0,pw g 7,pw g 0,pw g 0,pw g 0,pw g 4,some (.int .u32 q.id,True),some (.int .u32 n,True),some (.agg #[.int .u8 5,.int .u32 q.id,.int .u32 n],True),some (.agg (thing ce1.vA ce1.vB 5 q.id n ce1.is),True),none,none] SS.out (fun vals=>?_) (fun vals W3 hB hfin hall=>?_) (ea 11 rfl)
  · simp only [ObD,Act.put,qA,qC,qZ]
    refine ⟨?_,?_,?_,?_,?_,?_,?_,?_,?_,?o2_9,?o2_10,?o2_11,?o2_12,trivial⟩
    all_goals (intro L W hL hk hC hw;have f:=deps hw rfl rfl;simp only [depF,vsP,pw,qS,qD,and_true,true_and] at f)
    case o2_9=>have CL:=Lib.hid (offer_any q.id n W);clear hL hC hk hw;refine spD rfl ?_;go_simp;(with_reducible refine CL.out.mono ?_);rintro e w8 ⟨rfl,h2⟩;first | exact sq h2 rfl ⟨rfl,trivial⟩ | exact ⟨_,rfl,sq h2 rfl ⟨rfl,trivial⟩⟩
    case o2_10=>
      have CL:=Lib.hid (look_K SS.out (hC.pre hk) BEG.out (by have:=HI.out;omega) CE1.out 5 q.id n);clear hL hC hk hw;refine spD rfl ?_;go_simp;(with_reducible refine CL.out.mono ?_);rintro e w8 (⟨h,rfl,h2⟩ | ⟨h1,rfl,hf,H⟩)
      · exact ⟨_,rfl,Did.miss (by unfold oOffer;simp only [runOm_bind,run_there S0.out.1 S0.out.2,oSide_n (HC.out ce0 S0.out.1),runOm_pure,run_look_no h]) h2⟩
      · first | exact kv hf H rfl ⟨rfl,trivial⟩ | exact ⟨_,rfl,kv hf H rfl ⟨rfl,trivial⟩⟩
    case o2_11=>have ZZ:=hC.fr.size;clear hL hC hk hw;refine spD rfl ?_;go_simp;exact am ZZ
    case o2_12=>obtain ⟨gt,C,fa,hgt,bx0,hc⟩:=Fw.geta (hw ⟨11,.data⟩ (by simp) rfl) (by decide);obtain ⟨c0,c1,c2,c3,c4,c5,rfl⟩:=arr6 hc;have q:=six_cells bx0;have BXX:=Lib.hid bx0;have FA:=Lib.hid fa;clear bx0 hc;unfold thing at f;clear hL hC hk hw;refine spD rfl ?_;go_simp;exact sm SS.out BEG.out BXX.out hgt FA.out
    all_goals (have c:=kn7 hC;clear hL hC hk hw;refine spD rfl ?_;go_simp;first | exact sv rfl ⟨rfl,trivial⟩ | exact ⟨_,rfl,sv rfl ⟨rfl,trivial⟩⟩)
  have S1:=Lib.hid hB.1
  simp only [allF,vsP,pw,true_and,and_true,Nat.reduceAdd] at hall
  obtain ⟨gt1,fa,hgt,bx⟩:=hfin
  simp only [TL,Act.put,qA,qC,qZ,hall,fa]
  replace SS:=Lib.hid (SS.out.push BEG.out hB.st SS.out.lt hgt bx)
  clear hall vals hB fa hgt bx
  have I1:=Lib.hid (H1.out ce1 S1.out)
  have SX:=SS.out
  rw [I1.out] at SX
  replace SS:=Lib.hid SX
  clear SX
  have EB:=Lib.hid (show (ce1.vB=0)=False from eq_false (H2.out ce1 S1.out))
  have EN:=Lib.hid (show (q.n=0)=False from eq_false HN.out)
  have EW:=Lib.hid (show (q.wt=0)=True from eq_true HW.out)
  go_upto_region 4 with fail
  refine wp_SG0 (D:=DP w g q v base i p l seen (oOffer q) Rp.enc) 9 12 10 11 (seen[i + 1 + 1]?=some ce2) (i + 1 + 1 + 1) #[.int .u64 ce2.vA,.int .u64 ce2.vB,.int .u8 1,.int .u32 q.wh,.int .u32 0,.bool ce2.is] [pw g 0,pw g 0,pw g 7,pw g 0,pw g 0,pw g 0,pw g 1,some (.int .u32 q.wh,True),some (.agg #[.int .u8 1,.int .u32 q.wh,.int .u32 0],True),some (.agg (thing ce2.vA ce2.vB 1 q.wh 0 ce2.is),True),none,none] SS.out BEG.out (fun vals=>?_) (fun vals W4 hB hfin htold hall=>?_) (ea 10 rfl)
  · simp only [ObD,Act.put,qA,qC,qZ]
    refine ⟨?_,?_,?_,?_,?_,?_,?_,?_,?o3_8,?o3_9,?o3_10,?o3_11,trivial⟩
    all_goals (intro L W hL hk hC hw;have f:=depsG hw rfl rfl rfl;simp only [depF,vsP,pw,qS,qD,and_true,true_and] at f)
    case o3_8=>have CL:=Lib.hid (purse_any q.wh W);clear hL hC hk hw;refine spD rfl ?_;go_simp;(with_reducible refine CL.out.mono ?_);rintro e w8 ⟨rfl,h2⟩;first | exact gq h2 rfl ⟨rfl,trivial⟩ | exact ⟨_,rfl,gq h2 rfl ⟨rfl,trivial⟩⟩
    case o3_9=>
      have CL:=Lib.hid (look_KG (hC.pre hk) BEG.out (by have:=HI.out;omega) CE2.out 1 q.wh 0);clear hL hC hk hw;refine spD rfl ?_;go_simp;(with_reducible refine CL.out.mono ?_);rintro e w8 (⟨h,rfl,h2⟩ | ⟨h1,rfl,hf,H⟩)
      · exact ⟨_,rfl,Did.miss (by unfold oOffer;simp only [runOm_bind,run_there S0.out.1 S0.out.2,oSide_n (HC.out ce0 S0.out.1),runOm_pure,run_look S1.out,I1.out,EB.out,EN.out,EW.out,and_true,true_and,and_false,false_and,or_true,true_or,or_false,false_or,not_true_eq_false,not_false_eq_true,ne_eq,if_true,if_false,Bool.false_eq_true,run_look_no h]) h2⟩
      · first | exact gk hf H rfl ⟨rfl,trivial⟩ | exact ⟨_,rfl,gk hf H rfl ⟨rfl,trivial⟩⟩
    case o3_10=>have ZZ:=hC.fr.size;unfold thing at f;clear hL hC hk hw;refine spD rfl ?_;go_simp;first | exact gm0 ZZ | exact ⟨_,rfl,gm0 ZZ⟩
    case o3_11=>clear hL hC hk hw;refine spD rfl ?_;go_simp;first | exact gt_ | exact ⟨_,rfl,gt_⟩
    all_goals (have c:=kg7 hC;clear hL hC hk hw;refine spD rfl ?_;go_simp;first | exact gv rfl ⟨rfl,trivial⟩ | exact ⟨_,rfl,gv rfl ⟨rfl,trivial⟩⟩)
  have S2:=Lib.hid hB.1
  simp only [allF,vsP,pw,true_and,and_true,Nat.reduceAdd] at hall
  obtain ⟨gl,fs,hor,bx⟩:=hfin
  rw [fs] at htold
  simp only [TL,Act.put,qA,qC,qZ,hall,htold,fs]
  replace SS:=Lib.hid (SS.out.pushP BEG.out hB.st SS.out.lt hor (Pile.of_box (n:=1) bx rfl (by decide)))
  clear hall vals hB htold fs hor bx
  have y0:W4.cell? ⟨gt1,1,none⟩=some (.int .u64 ce1.vB):=SS.out.bx.2.1.out.cell 1
  have y1:W4.cell? ⟨gt1,5,none⟩=some (.bool true):=SS.out.bx.2.1.out.cell 5
  have b0:(ce1.vB == 0)=false:=by have:=H2.out ce1 S1.out;simpa using this
  have b1:(ce1.vB != 0)=true:=by have:=H2.out ce1 S1.out;simpa using this
  have b2:(q.n == 0)=false:=by have:=HN.out;simpa using this
  have b3:(q.n != 0)=true:=by have:=HN.out;simpa using this
  have b4:(q.wt == 0)=true:=by have:=HW.out;simpa using this
  have b5:(q.wt != 0)=false:=by have:=HW.out;simpa using this
  have cv0:IntKind.u64.wrap q.wt=q.wt:=wrap_u64 HQ.out.wt.1 (by have:=HQ.out.wt;omega)
  go_upto_region 8 with fail
  clear cv0 y0 y1 b0 b1 b2 b3 b4 b5
  refine wp_SGO (D:=DP w g q v base i p l seen (oOffer q) Rp.enc) 13 14 15 16 2 (SB (seen[i + 1 + 1 + 1]?=some ce3) False w g q v base p (i + 1 + 1 + 1 + 1) p l [.box gt1 #[.int .u64 ce1.vA,.int .u64 ce1.vB,.int .u8 5,.int .u32 q.id,.int .u32 n,.bool true] 130,.box gt0 #[.int .u64 ce0.A,.int .u64 ce0.B,.int .u8 4,.int .u32 q.id,.int .u32 0,.bool true] 130,.box w.heap.size #[.int .u16 0,.int .u64 0,.int .u64 0,.int .u64 0] 35]) #[.int .u64 ce3.vA,.int .u64 ce3.vB,.int .u8 (holdK ce1.vB),.int .u32 q.wh,.int .u32 (holdW ce1.vB),.bool ce3.is] #[.int .u64 ce2.vA,.int .u64 ce2.vB,.int .u8 1,.int .u32 q.wh,.int .u32 0,.bool ce2.is,.int .u64 ce3.vA,.int .u64 ce3.vB,.int .u8 (holdK ce1.vB),.int .u32 q.wh,.int .u32 (holdW ce1.vB),.bool ce3.is] [some (.slice (some ⟨gl,0,none⟩) 1 1,True),pw g 0,pw g 0,pw g 7,pw g 0,pw g 0,pw g 0,pw g 1,some (.int .u32 q.wh,True),some (.pointer (some ⟨gt1,0,none⟩),True),some (.pointer (some ⟨gt1,1,none⟩),True),some (.int .u64 ce1.vB,True),some (.agg #[.int .u8 (holdK ce1.vB),.int .u32 q.wh,.int .u32 (holdW ce1.vB)],True),some (.agg (thing ce3.vA ce3.vB (holdK ce1.vB) q.wh (holdW ce1.vB) ce3.is),True),none,none,none] 0 SS.out BEG.out rfl rfl (fun vals=>?_) (fun vals W5 hB hfin htold hall=>?_) (ea 14 rfl) (ea 15 rfl)
  · simp only [ObD,Act.put,qA,qC,qZ]
    refine ⟨?_,?_,?_,?_,?_,?_,?_,?_,?_,?_,?_,?o4_11,?o4_12,?o4_13,?o4_14,?o4_15,?o4_16,trivial⟩
    all_goals (intro L W hL hk hC hw;have f:=depsG hw rfl rfl rfl;simp only [depF,vsP,pw,qS,qD,and_true,true_and] at f)
    case' o4_11=>have k1:W.cell? ⟨gt1,1,none⟩=some (.int .u64 ce1.vB):=(cg_bx hC).1.out.cell 1
    case o4_12=>have CL:=Lib.hid (hold_any q.wh ce1.vB W);clear hL hC hk hw;refine spD rfl ?_;go_simp;(with_reducible refine CL.out.mono ?_);rintro e w8 ⟨rfl,h2⟩;first | exact gq h2 rfl ⟨rfl,trivial⟩ | exact ⟨_,rfl,gq h2 rfl ⟨rfl,trivial⟩⟩
    case o4_13=>
      have CL:=Lib.hid (look_KG (hC.pre hk) BEG.out (by have:=HI.out;omega) CE3.out (holdK ce1.vB) q.wh (holdW ce1.vB));clear hL hC hk hw;refine spD rfl ?_;go_simp;(with_reducible refine CL.out.mono ?_);rintro e w8 (⟨h,rfl,h2⟩ | ⟨h1,rfl,hf,H⟩)
      · exact ⟨_,rfl,Did.miss (by unfold oOffer;simp only [runOm_bind,run_there S0.out.1 S0.out.2,oSide_n (HC.out ce0 S0.out.1),runOm_pure,run_look S1.out,I1.out,EB.out,EN.out,EW.out,and_true,true_and,and_false,false_and,or_true,true_or,or_false,false_or,not_true_eq_false,not_false_eq_true,ne_eq,if_true,if_false,Bool.false_eq_true,run_look S2.out,run_look_no h]) h2⟩
      · first | exact gk hf H rfl ⟨rfl,trivial⟩ | exact ⟨_,rfl,gk hf H rfl ⟨rfl,trivial⟩⟩
    case o4_14=>have ZZ:=hC.fr.size;unfold thing at f;clear hL hC hk hw;refine spD rfl ?_;go_simp;first | exact gm1 ZZ | exact ⟨_,rfl,gm1 ZZ⟩
    case o4_15=>
      have GZ:=hC.fr.size;have fm:vals 0=.slice (some ⟨gl,0,none⟩) 1 1:=(Fg.get (f:=vsP (some (.slice (some ⟨gl,0,none⟩) 1 1,True))) (hw ⟨0,.data⟩ (by simp) rfl) (by decide) (by decide) (by decide) rfl).1;obtain ⟨gb,fa,hgb,bxb⟩:=Fg.geta (hw ⟨14,.data⟩ (by simp) rfl) (by decide) (by decide);have FA:=Lib.hid fa;have BXB:=Lib.hid bxb;obtain ⟨i0,hi0,hz0,hz1,hz2⟩:=info_parts thing_info;have GR:=Lib.hid (hC.row hk)
      clear hL hC hk hw
      refine step_append_lies _ (by rfl) _ _ _ (by rfl) gl 130 i0 _ 6 32 Tryz.underlying140 hi0 hz0 hz1 hz2 rfl (by omega) (.slice (some ⟨gl,0,none⟩) 1 1) 1 _ (Eq.trans (by rfl) fm) GR.out ⟨gb,0,none⟩ 1 1 [.int .u64 ce3.vA,.int .u64 ce3.vB,.int .u8 (holdK ce1.vB),.int .u32 q.wh,.int .u32 (holdW ce1.vB),.bool ce3.is] (Eq.trans (by rfl) FA.out) rfl (World.news_of_block (cs:=#[.int .u64 ce3.vA,.int .u64 ce3.vB,.int .u8 (holdK ce1.vB),.int .u32 q.wh,.int .u32 (holdW ce1.vB),.bool ce3.is]) (t:=130) (fr:=(0,0)) BXB.out) (by simp [Value.oneCell']) (by omega) (by unfold maxLen;omega) (by omega) (Nat.le_of_lt GR.out.lt) W.heap.size rfl ?_
      intro gg cc WQ hown1 hgrow hat hlt1
      exact ⟨_,rfl,ga SS.out BEG.out (n:=0) rfl rfl GR.out GZ (by simpa using hown1) hgrow hat⟩
    case o4_16=>clear hL hC hk hw;refine spD rfl ?_;go_simp;first | exact gt_ | exact ⟨_,rfl,gt_⟩
    all_goals (have c:=kg7 hC;clear hL hC hk hw;refine spD rfl ?_;go_simp;first | exact gv rfl ⟨rfl,trivial⟩ | exact ⟨_,rfl,gv rfl ⟨rfl,trivial⟩⟩)
  have S3:=Lib.hid hB.1
  simp only [allF,vsP,pw,true_and,and_true,Nat.reduceAdd] at hall
  obtain ⟨gm,cap_gm,fs,hor,bx⟩:=hfin
  rw [fs] at htold
  simp only [TL,Act.put,qA,qC,qZ,hall,htold,fs]
  generalize vals 14=vz4
  replace SS:=Lib.hid (SS.out.regrow BEG.out 0 rfl rfl hB.st hor bx)
  clear hall vals hB htold fs hor bx
  have y0:W5.cell? ⟨g,3,none⟩=some (.int .u32 q.wt):=SS.out.kn.c3
  have y1:W5.cell? ⟨g,5,none⟩=some (.int .u64 q.n):=SS.out.kn.c5
  have y2:W5.cell? ⟨gt1,5,none⟩=some (.bool true):=SS.out.bx.2.1.out.cell 5
  have b0:(ce1.vB == 0)=false:=by have:=H2.out ce1 S1.out;simpa using this
  have b1:(ce1.vB != 0)=true:=by have:=H2.out ce1 S1.out;simpa using this
  have b2:(q.n == 0)=false:=by have:=HN.out;simpa using this
  have b3:(q.n != 0)=true:=by have:=HN.out;simpa using this
  have b4:(q.wt == 0)=true:=by have:=HW.out;simpa using this
  have b5:(q.wt != 0)=false:=by have:=HW.out;simpa using this
  have cv0:IntKind.u64.wrap q.wt=q.wt:=wrap_u64 HQ.out.wt.1 (by have:=HQ.out.wt;omega)
  go_upto_region 15 with fail
  clear cv0 y0 y1 y2 b0 b1 b2 b3 b4 b5
  refine wp_S (D:=DP w g q v base i p l seen (oOffer q) Rp.enc) 15 16 17 (SB True False w g q v base p (i + 1 + 1 + 1 + 1) p l [.pile gm 2 cap_gm #[.int .u64 ce2.vA,.int .u64 ce2.vB,.int .u8 1,.int .u32 q.wh,.int .u32 0,.bool ce2.is,.int .u64 (ce3.vA + ce1.vA),.int .u64 ce3.vB,.int .u8 (holdK ce1.vB),.int .u32 q.wh,.int .u32 (holdW ce1.vB),.bool ce3.is],.box gt1 #[.int .u64 ce1.vA,.int .u64 ce1.vB,.int .u8 5,.int .u32 q.id,.int .u32 n,.bool true] 130,.box gt0 #[.int .u64 ce0.A,.int .u64 ce0.B,.int .u8 4,.int .u32 q.id,.int .u32 0,.bool true] 130,.box w.heap.size #[.int .u16 0,.int .u64 0,.int .u64 0,.int .u64 0] 35]) [some (.slice (some ⟨gm,0,none⟩) 2 cap_gm,True),some (.int .i64 1,True),some (.slice (some ⟨gm,0,none⟩) 2 cap_gm,True),some (.int .i64 1,True),some (.pointer (some ⟨gm,6,none⟩),True),some (.pointer (some ⟨gm,6,none⟩),True),some (.pointer (some ⟨gm,6,none⟩),True),some (.int .u64 ce3.vA,True),some (.pointer (some ⟨gt1,0,none⟩),True),some (.pointer (some ⟨gt1,0,none⟩),True),some (.int .u64 ce1.vA,True),some (.int .u64 (ce3.vA + ce1.vA),Mr ce3.vA ce1.vA),some (.pointer (some ⟨gm,6,none⟩),True),some (.pointer (some ⟨gm,6,none⟩),True),some (.pointer (some ⟨gm,6,none⟩),True),some (undef,True)] SS.out (fun vals=>?_) (fun vals W6 hB hall=>?_)
  · simp only [ObD,Act.put,qA,qC,qZ]
    refine ⟨?_,?_,?_,?_,?_,?_,?_,?o5_7,?_,?_,?o5_10,?o5_11,?_,?_,?_,?o5_15,trivial⟩
    all_goals (intro L W hL hk hC hw;have f:=deps hw rfl rfl;simp only [depF,vsP,pw,qS,qD,and_true,true_and] at f)
    case' o5_7=>have k6:W.cell? ⟨gm,6,none⟩=some (.int .u64 ce3.vA):=(hC.pre (hL.not_yet hk 15 16 (by decide +kernel))).bx.1.out.cell 6
    case' o5_10=>have k0:W.cell? ⟨gt1,0,none⟩=some (.int .u64 ce1.vA):=(hC.pre (hL.not_yet hk 15 16 (by decide +kernel))).bx.2.1.out.cell 0
    case o5_11=>
      have CL:=Lib.hid (more_C (vA_ok HOK.out S3.out) (vA_ok HOK.out S1.out) hC SS.out BEG.out);clear hL hC hk hw;refine spD rfl ?_;go_simp;(with_reducible refine CL.out.mono ?_)
      rintro e w8 (⟨h,rfl,h2⟩ | ⟨h1,rfl,h2⟩)
      · exact ⟨_,rfl,Did.err (by unfold oOffer;simp only [runOm_bind,run_there S0.out.1 S0.out.2,oSide_n (HC.out ce0 S0.out.1),runOm_pure,run_look S1.out,I1.out,EB.out,EN.out,EW.out,and_true,true_and,and_false,false_and,or_true,true_or,or_false,false_or,not_true_eq_false,not_false_eq_true,ne_eq,if_true,if_false,Bool.false_eq_true,run_look S2.out,run_look S3.out,run_more_no h]) h2⟩
      · first | exact sq h2 rfl ⟨rfl,h1⟩ | exact ⟨_,rfl,sq h2 rfl ⟨rfl,h1⟩⟩
    case o5_15=>have PRE:=hC.pre hk;have q0:W.cell? ⟨gm,6,none⟩=some (.int .u64 ce3.vA):=PRE.bx.1.out.cell 6;have r0:=PRE.bx.1.out.frozen 6;have P:=Lib.hid PRE;clear PRE;clear hL hC hk hw;refine spD rfl ?_;go_simp;exact ks (ksP SS.out P.out BEG.out 0 rfl) rfl ⟨rfl,trivial⟩
    all_goals (have c:=kn7 hC;clear hL hC hk hw;refine spD rfl ?_;go_simp;first | exact sv rfl ⟨rfl,trivial⟩ | exact ⟨_,rfl,sv rfl ⟨rfl,trivial⟩⟩)
  have C6:Hid (Mr ce3.vA ce1.vA):=Lib.hid (vsP_c (hall.get 11))
  simp only [allF,vsP,pw,true_and,and_true,Nat.reduceAdd] at hall
  simp only [TL,Act.put,qA,qC,qZ,hall]
  replace SS:=Lib.hid hB.st
  clear hall vals hB
  have y0:W6.cell? ⟨g,5,none⟩=some (.int .u64 q.n):=SS.out.kn.c5
  have b0:(ce1.vB == 0)=false:=by have:=H2.out ce1 S1.out;simpa using this
  have b1:(ce1.vB != 0)=true:=by have:=H2.out ce1 S1.out;simpa using this
  have b2:(q.n == 0)=false:=by have:=HN.out;simpa using this
  have b3:(q.n != 0)=true:=by have:=HN.out;simpa using this
  have b4:(q.wt == 0)=true:=by have:=HW.out;simpa using this
  have b5:(q.wt != 0)=false:=by have:=HW.out;simpa using this
  have cv0:IntKind.u64.wrap q.wt=q.wt:=wrap_u64 HQ.out.wt.1 (by have:=HQ.out.wt;omega)
  go_upto_region 17 with fail
  clear cv0 y0 b0 b1 b2 b3 b4 b5
  refine wp_S (D:=DP w g q v base i p l seen (oOffer q) Rp.enc) 17 18 19 (SB True False w g q v base p (i + 1 + 1 + 1 + 1) p l [.pile gm 2 cap_gm #[.int .u64 (ce2.vA - q.n),.int .u64 ce2.vB,.int .u8 1,.int .u32 q.wh,.int .u32 0,.bool ce2.is,.int .u64 (ce3.vA + ce1.vA),.int .u64 ce3.vB,.int .u8 (holdK ce1.vB),.int .u32 q.wh,.int .u32 (holdW ce1.vB),.bool ce3.is],.box gt1 #[.int .u64 ce1.vA,.int .u64 ce1.vB,.int .u8 5,.int .u32 q.id,.int .u32 n,.bool true] 130,.box gt0 #[.int .u64 ce0.A,.int .u64 ce0.B,.int .u8 4,.int .u32 q.id,.int .u32 0,.bool true] 130,.box w.heap.size #[.int .u16 0,.int .u64 0,.int .u64 0,.int .u64 0] 35]) [some (.slice (some ⟨gm,0,none⟩) 2 cap_gm,True),some (.int .i64 0,True),some (.slice (some ⟨gm,0,none⟩) 2 cap_gm,True),some (.int .i64 0,True),some (.pointer (some ⟨gm,0,none⟩),True),some (.pointer (some ⟨gm,0,none⟩),True),some (.pointer (some ⟨gm,0,none⟩),True),some (.int .u64 ce2.vA,True),pw g 0,pw g 0,pw g 0,pw g 5,some (.int .u64 q.n,True),some (.int .u64 (ce2.vA - q.n),Ls ce2.vA q.n),some (.pointer (some ⟨gm,0,none⟩),True),some (.pointer (some ⟨gm,0,none⟩),True),some (.pointer (some ⟨gm,0,none⟩),True),some (undef,True)] SS.out (fun vals=>?_) (fun vals W7 hB hall=>?_)
  · simp only [ObD,Act.put,qA,qC,qZ]
    refine ⟨?_,?_,?_,?_,?_,?_,?_,?o6_7,?_,?_,?_,?_,?_,?o6_13,?_,?_,?_,?o6_17,trivial⟩
    all_goals (intro L W hL hk hC hw;have f:=deps hw rfl rfl;simp only [depF,vsP,pw,qS,qD,and_true,true_and] at f)
    case' o6_7=>have k0:W.cell? ⟨gm,0,none⟩=some (.int .u64 ce2.vA):=(hC.pre (hL.not_yet hk 17 16 (by decide +kernel))).bx.1.out.cell 0
    case o6_13=>
      have CL:=Lib.hid (less_C (vA_ok HOK.out S2.out) HQ.out.n hC SS.out BEG.out);clear hL hC hk hw;refine spD rfl ?_;go_simp;(with_reducible refine CL.out.mono ?_)
      rintro e w8 (⟨h,rfl,h2⟩ | ⟨⟨h,h3⟩,rfl,h2⟩ | ⟨h1,rfl,h2⟩)
      · exact ⟨_,rfl,Did.err (by unfold oOffer;simp only [runOm_bind,run_there S0.out.1 S0.out.2,oSide_n (HC.out ce0 S0.out.1),runOm_pure,run_look S1.out,I1.out,EB.out,EN.out,EW.out,and_true,true_and,and_false,false_and,or_true,true_or,or_false,false_or,not_true_eq_false,not_false_eq_true,ne_eq,if_true,if_false,Bool.false_eq_true,run_look S2.out,run_look S3.out,run_more C6.out,run_less_great h]) h2⟩
      · exact ⟨_,rfl,Did.err (by unfold oOffer;simp only [runOm_bind,run_there S0.out.1 S0.out.2,oSide_n (HC.out ce0 S0.out.1),runOm_pure,run_look S1.out,I1.out,EB.out,EN.out,EW.out,and_true,true_and,and_false,false_and,or_true,true_or,or_false,false_or,not_true_eq_false,not_false_eq_true,ne_eq,if_true,if_false,Bool.false_eq_true,run_look S2.out,run_look S3.out,run_more C6.out,run_less_low h h3]) h2⟩
      · first | exact sq h2 rfl ⟨rfl,h1⟩ | exact ⟨_,rfl,sq h2 rfl ⟨rfl,h1⟩⟩
    case o6_17=>have PRE:=hC.pre hk;have q0:W.cell? ⟨gm,0,none⟩=some (.int .u64 ce2.vA):=PRE.bx.1.out.cell 0;have r0:=PRE.bx.1.out.frozen 0;have P:=Lib.hid PRE;clear PRE;clear hL hC hk hw;refine spD rfl ?_;go_simp;exact ks (ksP SS.out P.out BEG.out 0 rfl) rfl ⟨rfl,trivial⟩
    all_goals (have c:=kn7 hC;clear hL hC hk hw;refine spD rfl ?_;go_simp;first | exact sv rfl ⟨rfl,trivial⟩ | exact ⟨_,rfl,sv rfl ⟨rfl,trivial⟩⟩)
  have C7:Hid (Ls ce2.vA q.n):=Lib.hid (vsP_c (hall.get 13))
  simp only [allF,vsP,pw,true_and,and_true,Nat.reduceAdd] at hall
  simp only [TL,Act.put,qA,qC,qZ,hall]
  replace SS:=Lib.hid hB.st
  clear hall vals hB
  have b0:(ce1.vB == 0)=false:=by have:=H2.out ce1 S1.out;simpa using this
  have b1:(ce1.vB != 0)=true:=by have:=H2.out ce1 S1.out;simpa using this
  have b2:(q.n == 0)=false:=by have:=HN.out;simpa using this
  have b3:(q.n != 0)=true:=by have:=HN.out;simpa using this
  have b4:(q.wt == 0)=true:=by have:=HW.out;simpa using this
  have b5:(q.wt != 0)=false:=by have:=HW.out;simpa using this
  have cv0:IntKind.u64.wrap q.wt=q.wt:=wrap_u64 HQ.out.wt.1 (by have:=HQ.out.wt;omega)
  go_wp2
  clear cv0 b0 b1 b2 b3 b4 b5
  refine wp_loop_rounds 3 ?_
  obtain ⟨y0,y1,y2,y3,y4,y5⟩:=pile6 SS.out.bx.1.out 0 1 2 3 4 5 rfl rfl rfl rfl rfl rfl
  rw [rounds_succ]
  obtain ⟨W8,hWn⟩:∃ W8,W7.alloc (.cells #[.int .u64 (ce2.vA - q.n),.int .u64 ce2.vB,.int .u8 1,.int .u32 q.wh,.int .u32 0,.bool ce2.is] 130)=W8:=⟨_,rfl⟩
  obtain ⟨gq0,hgn⟩:∃ gq0,W7.heap.size=gq0:=⟨_,rfl⟩
  have TT:=SS.out.alloc BEG.out #[.int .u64 (ce2.vA - q.n),.int .u64 ce2.vB,.int .u8 1,.int .u32 q.wh,.int .u32 0,.bool ce2.is] 130
  rw [hgn,hWn] at TT
  replace TT:=Lib.hid TT
  have HWN:=Lib.hid hWn
  have HGN:=Lib.hid hgn
  clear hWn hgn
  go_wp2_with fail
  clear y0 y1 y2 y3 y4 y5
  try rw [HWN.out]
  try rw [HGN.out]
  clear HWN HGN SS
  have SS:=TT
  clear TT
  have CALL:=Lib.hid (amount_S SS.out BEG.out (by have:=HL.out;(try simp only [List.length_append,List.length_cons,List.length_nil]);omega) 1 q.wh 0 (ce2.vA - q.n) (show _=l++[amt 1 q.wh 0 (ce2.vA - q.n)] by simp))
  (with_reducible refine CALL.out.mono ?_)
  rintro e W9 ⟨rfl,hf,p9,hs⟩
  replace SS:=Lib.hid hs
  clear CALL hf hs
  go_wp2
  replace SS:=Lib.hid SS.out.drop
  obtain ⟨y0,y1,y2,y3,y4,y5⟩:=pile6 SS.out.bx.1.out 6 7 8 9 10 11 rfl rfl rfl rfl rfl rfl
  rw [rounds_succ]
  obtain ⟨W10,hWn⟩:∃ W10,W9.alloc (.cells #[.int .u64 (ce3.vA + ce1.vA),.int .u64 ce3.vB,.int .u8 (holdK ce1.vB),.int .u32 q.wh,.int .u32 (holdW ce1.vB),.bool ce3.is] 130)=W10:=⟨_,rfl⟩
  obtain ⟨gq1,hgn⟩:∃ gq1,W9.heap.size=gq1:=⟨_,rfl⟩
  have TT:=SS.out.alloc BEG.out #[.int .u64 (ce3.vA + ce1.vA),.int .u64 ce3.vB,.int .u8 (holdK ce1.vB),.int .u32 q.wh,.int .u32 (holdW ce1.vB),.bool ce3.is] 130
  rw [hgn,hWn] at TT
  replace TT:=Lib.hid TT
  have HWN:=Lib.hid hWn
  have HGN:=Lib.hid hgn
  clear hWn hgn
  go_wp2_with fail
  clear y0 y1 y2 y3 y4 y5
  try rw [HWN.out]
  try rw [HGN.out]
  clear HWN HGN SS
  have SS:=TT
  clear TT
  have CALL:=Lib.hid (amount_S SS.out BEG.out (by have:=HL.out;(try simp only [List.length_append,List.length_cons,List.length_nil]);omega) (holdK ce1.vB) q.wh (holdW ce1.vB) (ce3.vA + ce1.vA) (show _=l++[amt 1 q.wh 0 (ce2.vA - q.n),amt (holdK ce1.vB) q.wh (holdW ce1.vB) (ce3.vA + ce1.vA)] by simp))
  (with_reducible refine CALL.out.mono ?_)
  rintro e W11 ⟨rfl,hf,p11,hs⟩
  replace SS:=Lib.hid hs
  clear CALL hf hs
  go_wp2
  replace SS:=Lib.hid SS.out.drop
  replace SS:=Lib.hid SS.out.drop
  rw [rounds_succ]
  have y0:W11.cell? ⟨g,5,none⟩=some (.int .u64 q.n):=SS.out.kn.c5
  have b0:(ce1.vB == 0)=false:=by have:=H2.out ce1 S1.out;simpa using this
  have b1:(ce1.vB != 0)=true:=by have:=H2.out ce1 S1.out;simpa using this
  have b2:(q.n == 0)=false:=by have:=HN.out;simpa using this
  have b3:(q.n != 0)=true:=by have:=HN.out;simpa using this
  have b4:(q.wt == 0)=true:=by have:=HW.out;simpa using this
  have b5:(q.wt != 0)=false:=by have:=HW.out;simpa using this
  have cv0:IntKind.u64.wrap q.wt=q.wt:=wrap_u64 HQ.out.wt.1 (by have:=HQ.out.wt;omega)
  go_upto_region 25 with fail
  clear cv0 y0 b0 b1 b2 b3 b4 b5
  refine wp_SA (D:=DP w g q v base i p l seen (oOffer q) Rp.enc) 15 16 17 True True (i + 1 + 1 + 1 + 1) (l++[amt 1 q.wh 0 (ce2.vA - q.n),amt (holdK ce1.vB) q.wh (holdW ce1.vB) (ce3.vA + ce1.vA),Pu.mk 5 q.id n q.n q.wt false]) [pw g 0,some (.pointer (some ⟨gt1,2,none⟩),True),some (.agg #[.int .u8 5,.int .u32 q.id,.int .u32 n],True),pw g 0,pw g 0,pw g 0,pw g 5,some (.int .u64 q.n,True),pw g 0,pw g 0,pw g 0,pw g 3,some (.int .u32 q.wt,True),some (.int .u64 q.wt,True),some (.agg #[.int .u64 q.n,.int .u64 q.wt],True),some (.tuple #[],True)] SS.out (fun vals=>?_) (fun vals W12 hB hall=>?_)
  · simp only [ObD,Act.put,qA,qC,qZ]
    refine ⟨?_,?_,?o11_2,?_,?_,?_,?_,?_,?_,?_,?_,?_,?_,?o11_13,?_,?o11_15,trivial⟩
    all_goals (intro L W hL hk hC hw;have f:=deps hw rfl rfl;simp only [depF,vsP,pw,qS,qD,and_true,true_and] at f)
    case' o11_2=>have k2:W.cell? ⟨gt1,2,none⟩=some (.int .u8 5):=(cw_bx hC).1.out.cell 2;have k3:W.cell? ⟨gt1,3,none⟩=some (.int .u32 q.id):=(cw_bx hC).1.out.cell 3;have k4:W.cell? ⟨gt1,4,none⟩=some (.int .u32 n):=(cw_bx hC).1.out.cell 4
    case' o11_13=>have hcv:IntKind.u64.wrap q.wt=q.wt:=wrap_u64 (HQ.out.wt).1 (by have:=(HQ.out.wt).2;omega)
    case o11_15=>have CL:=Lib.hid (pk SS.out BEG.out (put_S (hC.pre hk) BEG.out (by have:=HL.out;(try simp only [List.length_append,List.length_cons,List.length_nil]);omega) 5 q.id n q.n q.wt (show _=l++[amt 1 q.wh 0 (ce2.vA - q.n),amt (holdK ce1.vB) q.wh (holdW ce1.vB) (ce3.vA + ce1.vA),Pu.mk 5 q.id n q.n q.wt false] by simp)));clear hL hC hk hw;refine spD rfl ?_;go_simp;(with_reducible refine CL.out.mono ?_);rintro e w8 ⟨rfl,hf,H⟩;first | exact kv hf H rfl ⟨rfl,trivial⟩ | exact ⟨_,rfl,kv hf H rfl ⟨rfl,trivial⟩⟩
    all_goals (have c:=kn7 hC;clear hL hC hk hw;refine spD rfl ?_;go_simp;first | exact sv rfl ⟨rfl,trivial⟩ | exact ⟨_,rfl,sv rfl ⟨rfl,trivial⟩⟩)
  simp only [allF,vsP,pw,true_and,and_true,Nat.reduceAdd] at hall
  simp only [TL,Act.put,qA,qC,qZ,hall]
  obtain ⟨p12,hB⟩:=hB.put
  replace SS:=Lib.hid hB
  clear hall vals hB
  obtain ⟨⟨y0,y1,y2,y3,y4,y5⟩,-⟩:=six_cells SS.out.bx.2.1.out
  have CALL:=Lib.hid (put_S SS.out BEG.out (by have:=HL.out;(try simp only [List.length_append,List.length_cons,List.length_nil]);omega) 4 q.id 0 ce0.A 0 (show _=l++[amt 1 q.wh 0 (ce2.vA - q.n),amt (holdK ce1.vB) q.wh (holdW ce1.vB) (ce3.vA + ce1.vA),Pu.mk 5 q.id n q.n q.wt false,Pu.mk 4 q.id 0 ce0.A 0 false] by simp))
  go_wp2_with fail
  (with_reducible refine CALL.out.mono ?_)
  rintro e W13 ⟨rfl,hf,p13,hs⟩
  replace SS:=Lib.hid hs
  clear CALL hf hs y0 y1 y2 y3 y4 y5
  have y0:W13.cell? ⟨g,5,none⟩=some (.int .u64 q.n):=SS.out.kn.c5
  obtain ⟨⟨z0,z1,z2,z3⟩,x0,x1,x2,x3⟩:=four_cells SS.out.bx.2.2.1.out
  go_wp2
  generalize hW:(World.setCell _ (⟨w.heap.size,3,none⟩:Addr) _)=WZ
  have b9:Box WZ w.heap.size #[.int .u16 0,.int .u64 q.n,.int .u64 0,.int .u64 0] 35:=by
    rw [← hW]
    exact four_box SS.out.bx.2.2.1.out
  have F9:Hid (Fr (fun x=>x=w.heap.size) W13 WZ):=Lib.hid (by
    rw [← hW]
    exact four_fr)
  obtain ⟨⟨v0,v1,v2,v3⟩,-⟩:=four_cells b9
  clear hW b9 z0 z1 z2 z3 x0 x1 x2 x3 y0
  refine bodyPost_ret (v:=.agg #[.int .u16 0,.int .u64 q.n,.int .u64 0,.int .u64 0]) (by simp [results,Tryz.results70,go_sem,v0,v1,v2,v3];try rfl) rfl ?_
  refine (SS.out.wr BEG.out 2 rfl F9.out).did (y:=(⟨q.n,0,0⟩,l++[amt 1 q.wh 0 (ce2.vA - q.n),amt (holdK ce1.vB) q.wh (holdW ce1.vB) (ce3.vA + ce1.vA),Pu.mk 5 q.id n q.n q.wt false,Pu.mk 4 q.id 0 ce0.A 0 false])) ?_ rfl
  unfold oOffer
  simp only [runOm_bind,runOm_pure,run_there S0.out.1 S0.out.2,oSide_n (HC.out ce0 S0.out.1),runOm_pure,run_look S1.out,I1.out,EB.out,EN.out,EW.out,and_true,true_and,and_false,false_and,or_true,true_or,or_false,false_or,not_true_eq_false,not_false_eq_true,ne_eq,if_true,if_false,Bool.false_eq_true,run_look S2.out,run_look S3.out,run_more C6.out,run_less C7.out.1 C7.out.2,oAmount,run_put,oAmount,run_put,run_put,run_put,List.append_assoc,List.cons_append,List.nil_append]
  try rfl
end Go.Proofs.YtabckmadpdchnaaGreat.Rule
namespace Go.Proofs.YtabckmadpdchnaaGreat.Rule
open Go.ChangeShapes Go.WideShapes Go.ChangeAt Go.RowKit Go.IntWalk Go.Proofs.Mem Go.Proofs.Each
theorem offer_item_item (w:World) (g:Nat) (q:Ot) (v:Value) (base i:Nat) (p:Value) (l:List Pu) (seen:List Ce) (hst:St w g q v base i p l) (hs:SeenAt w g v seen) (hg:g < base) (hbase:base≤w.heap.size) (hl:l.length≤700) (hi:i≤700000) (hq:q.Ok) (hok:∀ c∈seen,c.Ok) (n:Int) (hc:∀ c,seen[i]?=some c→(q.wh=hi32 c.A∧n=0)∨(q.wh≠hi32 c.A∧q.wh=lo32 c.A∧n=1)) (h1:∀ c,seen[i + 1]?=some c→c.is=true) (h2:∀ c,seen[i + 1]?=some c→c.vB≠0) (hn:q.n≠0) (hw:q.wt≠0) (hv:∀ c,seen[i + 1]?=some c→q.wt≠c.vB) :
    Calls Tryz.prog 70 #[.pointer (some ⟨g,0,none⟩)] w (Did w g q v base i p l seen (oOffer q) Rp.enc):=by
  have BEG:=Lib.hid (Begin.mk hs hg hbase hq hok (fun x hx=>hst.own.lt x hx))
  obtain ⟨W0,hW0⟩:∃ W0,w.alloc (.cells #[.int .u16 0,.int .u64 0,.int .u64 0,.int .u64 0] 35)=W0:=⟨_,rfl⟩
  have SS:Hid (ST w g q v base p i p l [.box w.heap.size #[.int .u16 0,.int .u64 0,.int .u64 0,.int .u64 0] 35] W0):=Lib.hid (by rw [← hW0];exact ST.start hst BEG.out _ _)
  have HI:=Lib.hid hi
  have HQ:=Lib.hid hq
  have HOK:=Lib.hid hok
  have HL:=Lib.hid hl
  have HC:=Lib.hid hc
  have H1:=Lib.hid h1
  have H2:=Lib.hid h2
  have HN:=Lib.hid hn
  have HW:=Lib.hid hw
  have HV:=Lib.hid hv
  obtain ⟨ce0,hce0⟩:=the_cell seen (i)
  have CE0:=Lib.hid hce0
  obtain ⟨ce1,hce1⟩:=the_cell seen (i + 1)
  have CE1:=Lib.hid hce1
  obtain ⟨ce2,hce2⟩:=the_cell seen (i + 1 + 1)
  have CE2:=Lib.hid hce2
  obtain ⟨ce3,hce3⟩:=the_cell seen (i + 1 + 1 + 1)
  have CE3:=Lib.hid hce3
  obtain ⟨ce4,hce4⟩:=the_cell seen (i + 1 + 1 + 1 + 1)
  have CE4:=Lib.hid hce4
  clear hst hs hg hbase hl hi hq hok hc h1 h2 hn hw hv hce0 hce1 hce2 hce3 hce4
  go_enter Tryz.func70,Tryz.ntmps70
  go_upto_region 1 with fail
  try rw [hW0]
  clear hW0
  refine wp_SK (D:=DP w g q v base i p l seen (oOffer q) Rp.enc) 9 10 11 (seen[i]?=some ce0∧ce0.is=true) (i + 1) #[.int .u64 ce0.A,.int .u64 ce0.B,.int .u8 4,.int .u32 q.id,.int .u32 0,.bool true] [pw g 0,pw g 0,pw g 7,pw g 0,pw g 0,pw g 0,pw g 4,some (.int .u32 q.id,True),some (.agg #[.int .u8 4,.int .u32 q.id,.int .u32 0],True),some (.agg (thing ce0.A ce0.B 4 q.id 0 true),True),none,none] SS.out (fun vals=>?_) (fun vals W1 hB hfin hall=>?_) (ea 10 rfl)
  · simp only [ObD,Act.put,qA,qC,qZ]
    refine ⟨?_,?_,?_,?_,?_,?_,?_,?_,?o0_8,?o0_9,?o0_10,?o0_11,trivial⟩
    all_goals (intro L W hL hk hC hw;have f:=deps hw rfl rfl;simp only [depF,vsP,pw,qS,qD,and_true,true_and] at f)
    case o0_8=>have CL:=Lib.hid (trade_any q.id W);clear hL hC hk hw;refine spD rfl ?_;go_simp;(with_reducible refine CL.out.mono ?_);rintro e w8 ⟨rfl,h2⟩;first | exact sq h2 rfl ⟨rfl,trivial⟩ | exact ⟨_,rfl,sq h2 rfl ⟨rfl,trivial⟩⟩
    case o0_9=>
      have CL:=Lib.hid (there_K SS.out (hC.pre hk) BEG.out (by have:=HI.out;omega) CE0.out 4 q.id 0);clear hL hC hk hw;refine spD rfl ?_;go_simp;(with_reducible refine CL.out.mono ?_);rintro e w8 (⟨h,rfl,h2⟩ | ⟨h,h3,rfl,h2⟩ | ⟨rfl,hf,H⟩)
      · exact ⟨_,rfl,Did.miss (by unfold oOffer;simp only [runOm_bind,run_there_no h]) h2⟩
      · exact ⟨_,rfl,Did.err (by unfold oOffer;simp only [runOm_bind,run_there_not h h3]) h2⟩
      · first | exact kv hf H rfl ⟨rfl,trivial⟩ | exact ⟨_,rfl,kv hf H rfl ⟨rfl,trivial⟩⟩
    case o0_10=>have ZZ:=hC.fr.size;clear hL hC hk hw;refine spD rfl ?_;go_simp;exact am ZZ
    case o0_11=>obtain ⟨gt,C,fa,hgt,bx0,hc⟩:=Fw.geta (hw ⟨10,.data⟩ (by simp) rfl) (by decide);obtain ⟨c0,c1,c2,c3,c4,c5,rfl⟩:=arr6 hc;have q:=six_cells bx0;have BXX:=Lib.hid bx0;have FA:=Lib.hid fa;clear bx0 hc;unfold thing at f;clear hL hC hk hw;refine spD rfl ?_;go_simp;exact sm SS.out BEG.out BXX.out hgt FA.out
    all_goals (have c:=kn7 hC;clear hL hC hk hw;refine spD rfl ?_;go_simp;first | exact sv rfl ⟨rfl,trivial⟩ | exact ⟨_,rfl,sv rfl ⟨rfl,trivial⟩⟩)
  have S0:=Lib.hid hB.1
  simp only [allF,vsP,pw,true_and,and_true,Nat.reduceAdd] at hall
  obtain ⟨gt0,fa,hgt,bx⟩:=hfin
  simp only [TL,Act.put,qA,qC,qZ,hall,fa]
  replace SS:=Lib.hid (SS.out.push BEG.out hB.st SS.out.lt hgt bx)
  clear hall vals hB fa hgt bx
  obtain ⟨⟨y0,y1,y2,y3,y4,y5⟩,-⟩:=six_cells SS.out.bx.1.out
  have CALL:=Lib.hid (side_n W1 g q v (i + 1:Nat) p SS.out.run.out.st.wb ce0.A ce0.B 4 q.id 0 true (A_ok HOK.out S0.out.1) n (HC.out ce0 S0.out.1))
  unfold thing at CALL
  go_wp2_with fail
  (with_reducible refine CALL.out.mono ?_)
  rintro e W2 ⟨rfl,hbl⟩
  clear CALL y0 y1 y2 y3 y4 y5
  replace SS:=Lib.hid (SS.out.later hbl)
  clear hbl
  go_upto_region 3 with fail
  refine wp_SK (D:=DP w g q v base i p l seen (oOffer q) Rp.enc) 10 11 12 (seen[i + 1]?=some ce1) (i + 1 + 1) #[.int .u64 ce1.vA,.int .u64 ce1.vB,.int .u8 5,.int .u32 q.id,.int .u32 n,.bool ce1.is] [pw g 0,pw g 0,pw g 7,pw g 0,pw g 0,pw g 0,pw g 4,some (.int .u32 q.id,True),some (.int .u32 n,True),some (.agg #[.int .u8 5,.int .u32 q.id,.int .u32 n],True),some (.agg (thing ce1.vA ce1.vB 5 q.id n ce1.is),True),none,none] SS.out (fun vals=>?_) (fun vals W3 hB hfin hall=>?_) (ea 11 rfl)
  · simp only [ObD,Act.put,qA,qC,qZ]
    refine ⟨?_,?_,?_,?_,?_,?_,?_,?_,?_,?o2_9,?o2_10,?o2_11,?o2_12,trivial⟩
    all_goals (intro L W hL hk hC hw;have f:=deps hw rfl rfl;simp only [depF,vsP,pw,qS,qD,and_true,true_and] at f)
    case o2_9=>have CL:=Lib.hid (offer_any q.id n W);clear hL hC hk hw;refine spD rfl ?_;go_simp;(with_reducible refine CL.out.mono ?_);rintro e w8 ⟨rfl,h2⟩;first | exact sq h2 rfl ⟨rfl,trivial⟩ | exact ⟨_,rfl,sq h2 rfl ⟨rfl,trivial⟩⟩
    case o2_10=>
      have CL:=Lib.hid (look_K SS.out (hC.pre hk) BEG.out (by have:=HI.out;omega) CE1.out 5 q.id n);clear hL hC hk hw;refine spD rfl ?_;go_simp;(with_reducible refine CL.out.mono ?_);rintro e w8 (⟨h,rfl,h2⟩ | ⟨h1,rfl,hf,H⟩)
      · exact ⟨_,rfl,Did.miss (by unfold oOffer;simp only [runOm_bind,run_there S0.out.1 S0.out.2,oSide_n (HC.out ce0 S0.out.1),runOm_pure,run_look_no h]) h2⟩
      · first | exact kv hf H rfl ⟨rfl,trivial⟩ | exact ⟨_,rfl,kv hf H rfl ⟨rfl,trivial⟩⟩
    case o2_11=>have ZZ:=hC.fr.size;clear hL hC hk hw;refine spD rfl ?_;go_simp;exact am ZZ
    case o2_12=>obtain ⟨gt,C,fa,hgt,bx0,hc⟩:=Fw.geta (hw ⟨11,.data⟩ (by simp) rfl) (by decide);obtain ⟨c0,c1,c2,c3,c4,c5,rfl⟩:=arr6 hc;have q:=six_cells bx0;have BXX:=Lib.hid bx0;have FA:=Lib.hid fa;clear bx0 hc;unfold thing at f;clear hL hC hk hw;refine spD rfl ?_;go_simp;exact sm SS.out BEG.out BXX.out hgt FA.out
    all_goals (have c:=kn7 hC;clear hL hC hk hw;refine spD rfl ?_;go_simp;first | exact sv rfl ⟨rfl,trivial⟩ | exact ⟨_,rfl,sv rfl ⟨rfl,trivial⟩⟩)
  have S1:=Lib.hid hB.1
  simp only [allF,vsP,pw,true_and,and_true,Nat.reduceAdd] at hall
  obtain ⟨gt1,fa,hgt,bx⟩:=hfin
  simp only [TL,Act.put,qA,qC,qZ,hall,fa]
  replace SS:=Lib.hid (SS.out.push BEG.out hB.st SS.out.lt hgt bx)
  clear hall vals hB fa hgt bx
  have I1:=Lib.hid (H1.out ce1 S1.out)
  have SX:=SS.out
  rw [I1.out] at SX
  replace SS:=Lib.hid SX
  clear SX
  have EB:=Lib.hid (show (ce1.vB=0)=False from eq_false (H2.out ce1 S1.out))
  have EN:=Lib.hid (show (q.n=0)=False from eq_false HN.out)
  have EW:=Lib.hid (show (q.wt=0)=False from eq_false HW.out)
  have ES:=Lib.hid (show (q.wt=ce1.vB)=False from eq_false (HV.out ce1 S1.out))
  go_upto_region 4 with fail
  refine wp_SG0 (D:=DP w g q v base i p l seen (oOffer q) Rp.enc) 9 12 10 11 (seen[i + 1 + 1]?=some ce2) (i + 1 + 1 + 1) #[.int .u64 ce2.vA,.int .u64 ce2.vB,.int .u8 1,.int .u32 q.wh,.int .u32 0,.bool ce2.is] [pw g 0,pw g 0,pw g 7,pw g 0,pw g 0,pw g 0,pw g 1,some (.int .u32 q.wh,True),some (.agg #[.int .u8 1,.int .u32 q.wh,.int .u32 0],True),some (.agg (thing ce2.vA ce2.vB 1 q.wh 0 ce2.is),True),none,none] SS.out BEG.out (fun vals=>?_) (fun vals W4 hB hfin htold hall=>?_) (ea 10 rfl)
  · simp only [ObD,Act.put,qA,qC,qZ]
    refine ⟨?_,?_,?_,?_,?_,?_,?_,?_,?o3_8,?o3_9,?o3_10,?o3_11,trivial⟩
    all_goals (intro L W hL hk hC hw;have f:=depsG hw rfl rfl rfl;simp only [depF,vsP,pw,qS,qD,and_true,true_and] at f)
    case o3_8=>have CL:=Lib.hid (purse_any q.wh W);clear hL hC hk hw;refine spD rfl ?_;go_simp;(with_reducible refine CL.out.mono ?_);rintro e w8 ⟨rfl,h2⟩;first | exact gq h2 rfl ⟨rfl,trivial⟩ | exact ⟨_,rfl,gq h2 rfl ⟨rfl,trivial⟩⟩
    case o3_9=>
      have CL:=Lib.hid (look_KG (hC.pre hk) BEG.out (by have:=HI.out;omega) CE2.out 1 q.wh 0);clear hL hC hk hw;refine spD rfl ?_;go_simp;(with_reducible refine CL.out.mono ?_);rintro e w8 (⟨h,rfl,h2⟩ | ⟨h1,rfl,hf,H⟩)
      · exact ⟨_,rfl,Did.miss (by unfold oOffer;simp only [runOm_bind,run_there S0.out.1 S0.out.2,oSide_n (HC.out ce0 S0.out.1),runOm_pure,run_look S1.out,I1.out,EB.out,EN.out,EW.out,ES.out,and_true,true_and,and_false,false_and,or_true,true_or,or_false,false_or,not_true_eq_false,not_false_eq_true,ne_eq,if_true,if_false,Bool.false_eq_true,run_look_no h]) h2⟩
      · first | exact gk hf H rfl ⟨rfl,trivial⟩ | exact ⟨_,rfl,gk hf H rfl ⟨rfl,trivial⟩⟩
    case o3_10=>have ZZ:=hC.fr.size;unfold thing at f;clear hL hC hk hw;refine spD rfl ?_;go_simp;first | exact gm0 ZZ | exact ⟨_,rfl,gm0 ZZ⟩
    case o3_11=>clear hL hC hk hw;refine spD rfl ?_;go_simp;first | exact gt_ | exact ⟨_,rfl,gt_⟩
    all_goals (have c:=kg7 hC;clear hL hC hk hw;refine spD rfl ?_;go_simp;first | exact gv rfl ⟨rfl,trivial⟩ | exact ⟨_,rfl,gv rfl ⟨rfl,trivial⟩⟩)
  have S2:=Lib.hid hB.1
  simp only [allF,vsP,pw,true_and,and_true,Nat.reduceAdd] at hall
  obtain ⟨gl,fs,hor,bx⟩:=hfin
  rw [fs] at htold
  simp only [TL,Act.put,qA,qC,qZ,hall,htold,fs]
  replace SS:=Lib.hid (SS.out.pushP BEG.out hB.st SS.out.lt hor (Pile.of_box (n:=1) bx rfl (by decide)))
  clear hall vals hB htold fs hor bx
  have y0:W4.cell? ⟨gt1,1,none⟩=some (.int .u64 ce1.vB):=SS.out.bx.2.1.out.cell 1
  have y1:W4.cell? ⟨gt1,5,none⟩=some (.bool true):=SS.out.bx.2.1.out.cell 5
  have b0:(ce1.vB == 0)=false:=by have:=H2.out ce1 S1.out;simpa using this
  have b1:(ce1.vB != 0)=true:=by have:=H2.out ce1 S1.out;simpa using this
  have b2:(q.n == 0)=false:=by have:=HN.out;simpa using this
  have b3:(q.n != 0)=true:=by have:=HN.out;simpa using this
  have b4:(q.wt == 0)=false:=by have:=HW.out;simpa using this
  have b5:(q.wt != 0)=true:=by have:=HW.out;simpa using this
  have b6:(q.wt == ce1.vB)=false:=by have:=HV.out ce1 S1.out;simpa using this
  have b7:(q.wt != ce1.vB)=true:=by have:=HV.out ce1 S1.out;simpa using this
  have cv0:IntKind.u64.wrap q.wt=q.wt:=wrap_u64 HQ.out.wt.1 (by have:=HQ.out.wt;omega)
  go_upto_region 8 with fail
  clear cv0 y0 y1 b0 b1 b2 b3 b4 b5 b6 b7
  refine wp_SGO (D:=DP w g q v base i p l seen (oOffer q) Rp.enc) 13 14 15 16 2 (SB (seen[i + 1 + 1 + 1]?=some ce3) False w g q v base p (i + 1 + 1 + 1 + 1) p l [.box gt1 #[.int .u64 ce1.vA,.int .u64 ce1.vB,.int .u8 5,.int .u32 q.id,.int .u32 n,.bool true] 130,.box gt0 #[.int .u64 ce0.A,.int .u64 ce0.B,.int .u8 4,.int .u32 q.id,.int .u32 0,.bool true] 130,.box w.heap.size #[.int .u16 0,.int .u64 0,.int .u64 0,.int .u64 0] 35]) #[.int .u64 ce3.vA,.int .u64 ce3.vB,.int .u8 (holdK ce1.vB),.int .u32 q.wh,.int .u32 (holdW ce1.vB),.bool ce3.is] #[.int .u64 ce2.vA,.int .u64 ce2.vB,.int .u8 1,.int .u32 q.wh,.int .u32 0,.bool ce2.is,.int .u64 ce3.vA,.int .u64 ce3.vB,.int .u8 (holdK ce1.vB),.int .u32 q.wh,.int .u32 (holdW ce1.vB),.bool ce3.is] [some (.slice (some ⟨gl,0,none⟩) 1 1,True),pw g 0,pw g 0,pw g 7,pw g 0,pw g 0,pw g 0,pw g 1,some (.int .u32 q.wh,True),some (.pointer (some ⟨gt1,0,none⟩),True),some (.pointer (some ⟨gt1,1,none⟩),True),some (.int .u64 ce1.vB,True),some (.agg #[.int .u8 (holdK ce1.vB),.int .u32 q.wh,.int .u32 (holdW ce1.vB)],True),some (.agg (thing ce3.vA ce3.vB (holdK ce1.vB) q.wh (holdW ce1.vB) ce3.is),True),none,none,none] 0 SS.out BEG.out rfl rfl (fun vals=>?_) (fun vals W5 hB hfin htold hall=>?_) (ea 14 rfl) (ea 15 rfl)
  · simp only [ObD,Act.put,qA,qC,qZ]
    refine ⟨?_,?_,?_,?_,?_,?_,?_,?_,?_,?_,?_,?o4_11,?o4_12,?o4_13,?o4_14,?o4_15,?o4_16,trivial⟩
    all_goals (intro L W hL hk hC hw;have f:=depsG hw rfl rfl rfl;simp only [depF,vsP,pw,qS,qD,and_true,true_and] at f)
    case' o4_11=>have k1:W.cell? ⟨gt1,1,none⟩=some (.int .u64 ce1.vB):=(cg_bx hC).1.out.cell 1
    case o4_12=>have CL:=Lib.hid (hold_any q.wh ce1.vB W);clear hL hC hk hw;refine spD rfl ?_;go_simp;(with_reducible refine CL.out.mono ?_);rintro e w8 ⟨rfl,h2⟩;first | exact gq h2 rfl ⟨rfl,trivial⟩ | exact ⟨_,rfl,gq h2 rfl ⟨rfl,trivial⟩⟩
    case o4_13=>
      have CL:=Lib.hid (look_KG (hC.pre hk) BEG.out (by have:=HI.out;omega) CE3.out (holdK ce1.vB) q.wh (holdW ce1.vB));clear hL hC hk hw;refine spD rfl ?_;go_simp;(with_reducible refine CL.out.mono ?_);rintro e w8 (⟨h,rfl,h2⟩ | ⟨h1,rfl,hf,H⟩)
      · exact ⟨_,rfl,Did.miss (by unfold oOffer;simp only [runOm_bind,run_there S0.out.1 S0.out.2,oSide_n (HC.out ce0 S0.out.1),runOm_pure,run_look S1.out,I1.out,EB.out,EN.out,EW.out,ES.out,and_true,true_and,and_false,false_and,or_true,true_or,or_false,false_or,not_true_eq_false,not_false_eq_true,ne_eq,if_true,if_false,Bool.false_eq_true,run_look S2.out,run_look_no h]) h2⟩
      · first | exact gk hf H rfl ⟨rfl,trivial⟩ | exact ⟨_,rfl,gk hf H rfl ⟨rfl,trivial⟩⟩
    case o4_14=>have ZZ:=hC.fr.size;unfold thing at f;clear hL hC hk hw;refine spD rfl ?_;go_simp;first | exact gm1 ZZ | exact ⟨_,rfl,gm1 ZZ⟩
    case o4_15=>
      have GZ:=hC.fr.size;have fm:vals 0=.slice (some ⟨gl,0,none⟩) 1 1:=(Fg.get (f:=vsP (some (.slice (some ⟨gl,0,none⟩) 1 1,True))) (hw ⟨0,.data⟩ (by simp) rfl) (by decide) (by decide) (by decide) rfl).1;obtain ⟨gb,fa,hgb,bxb⟩:=Fg.geta (hw ⟨14,.data⟩ (by simp) rfl) (by decide) (by decide);have FA:=Lib.hid fa;have BXB:=Lib.hid bxb;obtain ⟨i0,hi0,hz0,hz1,hz2⟩:=info_parts thing_info;have GR:=Lib.hid (hC.row hk)
      clear hL hC hk hw
      refine step_append_lies _ (by rfl) _ _ _ (by rfl) gl 130 i0 _ 6 32 Tryz.underlying140 hi0 hz0 hz1 hz2 rfl (by omega) (.slice (some ⟨gl,0,none⟩) 1 1) 1 _ (Eq.trans (by rfl) fm) GR.out ⟨gb,0,none⟩ 1 1 [.int .u64 ce3.vA,.int .u64 ce3.vB,.int .u8 (holdK ce1.vB),.int .u32 q.wh,.int .u32 (holdW ce1.vB),.bool ce3.is] (Eq.trans (by rfl) FA.out) rfl (World.news_of_block (cs:=#[.int .u64 ce3.vA,.int .u64 ce3.vB,.int .u8 (holdK ce1.vB),.int .u32 q.wh,.int .u32 (holdW ce1.vB),.bool ce3.is]) (t:=130) (fr:=(0,0)) BXB.out) (by simp [Value.oneCell']) (by omega) (by unfold maxLen;omega) (by omega) (Nat.le_of_lt GR.out.lt) W.heap.size rfl ?_
      intro gg cc WQ hown1 hgrow hat hlt1
      exact ⟨_,rfl,ga SS.out BEG.out (n:=0) rfl rfl GR.out GZ (by simpa using hown1) hgrow hat⟩
    case o4_16=>clear hL hC hk hw;refine spD rfl ?_;go_simp;first | exact gt_ | exact ⟨_,rfl,gt_⟩
    all_goals (have c:=kg7 hC;clear hL hC hk hw;refine spD rfl ?_;go_simp;first | exact gv rfl ⟨rfl,trivial⟩ | exact ⟨_,rfl,gv rfl ⟨rfl,trivial⟩⟩)
  have S3:=Lib.hid hB.1
  simp only [allF,vsP,pw,true_and,and_true,Nat.reduceAdd] at hall
  obtain ⟨gm,cap_gm,fs,hor,bx⟩:=hfin
  rw [fs] at htold
  simp only [TL,Act.put,qA,qC,qZ,hall,htold,fs]
  generalize vals 14=vz4
  replace SS:=Lib.hid (SS.out.regrow BEG.out 0 rfl rfl hB.st hor bx)
  clear hall vals hB htold fs hor bx
  have y0:W5.cell? ⟨g,3,none⟩=some (.int .u32 q.wt):=SS.out.kn.c3
  have y1:W5.cell? ⟨g,5,none⟩=some (.int .u64 q.n):=SS.out.kn.c5
  have b0:(ce1.vB == 0)=false:=by have:=H2.out ce1 S1.out;simpa using this
  have b1:(ce1.vB != 0)=true:=by have:=H2.out ce1 S1.out;simpa using this
  have b2:(q.n == 0)=false:=by have:=HN.out;simpa using this
  have b3:(q.n != 0)=true:=by have:=HN.out;simpa using this
  have b4:(q.wt == 0)=false:=by have:=HW.out;simpa using this
  have b5:(q.wt != 0)=true:=by have:=HW.out;simpa using this
  have b6:(q.wt == ce1.vB)=false:=by have:=HV.out ce1 S1.out;simpa using this
  have b7:(q.wt != ce1.vB)=true:=by have:=HV.out ce1 S1.out;simpa using this
  have cv0:IntKind.u64.wrap q.wt=q.wt:=wrap_u64 HQ.out.wt.1 (by have:=HQ.out.wt;omega)
  go_upto_region 12 with fail
  clear cv0 y0 y1 b0 b1 b2 b3 b4 b5 b6 b7
  have y0:W5.cell? ⟨g,3,none⟩=some (.int .u32 q.wt):=SS.out.kn.c3
  have y1:W5.cell? ⟨gt1,1,none⟩=some (.int .u64 ce1.vB):=SS.out.bx.2.1.out.cell 1
  have b0:(ce1.vB == 0)=false:=by have:=H2.out ce1 S1.out;simpa using this
  have b1:(ce1.vB != 0)=true:=by have:=H2.out ce1 S1.out;simpa using this
  have b2:(q.n == 0)=false:=by have:=HN.out;simpa using this
  have b3:(q.n != 0)=true:=by have:=HN.out;simpa using this
  have b4:(q.wt == 0)=false:=by have:=HW.out;simpa using this
  have b5:(q.wt != 0)=true:=by have:=HW.out;simpa using this
  have b6:(q.wt == ce1.vB)=false:=by have:=HV.out ce1 S1.out;simpa using this
  have b7:(q.wt != ce1.vB)=true:=by have:=HV.out ce1 S1.out;simpa using this
  have cv0:IntKind.u64.wrap q.wt=q.wt:=wrap_u64 HQ.out.wt.1 (by have:=HQ.out.wt;omega)
  go_quiet (fail)
  have hbl:Below W5.heap.size W5 (W5.drewN nq):=below_drewN (Below.refl _ _) nq
  generalize W5.drewN nq=W6 at hbl ⊢
  clear cv0 y0 y1 b0 b1 b2 b3 b4 b5 b6 b7
  replace SS:=Lib.hid (SS.out.later hbl)
  clear hbl
  go_upto_region 10 with fail
  refine wp_SGO (D:=DP w g q v base i p l seen (oOffer q) Rp.enc) 15 16 17 18 3 (SB (seen[i + 1 + 1 + 1 + 1]?=some ce4) False w g q v base p (i + 1 + 1 + 1 + 1 + 1) p l [.box gt1 #[.int .u64 ce1.vA,.int .u64 ce1.vB,.int .u8 5,.int .u32 q.id,.int .u32 n,.bool true] 130,.box gt0 #[.int .u64 ce0.A,.int .u64 ce0.B,.int .u8 4,.int .u32 q.id,.int .u32 0,.bool true] 130,.box w.heap.size #[.int .u16 0,.int .u64 0,.int .u64 0,.int .u64 0] 35]) #[.int .u64 ce4.vA,.int .u64 ce4.vB,.int .u8 3,.int .u32 q.wh,.int .u32 q.wt,.bool ce4.is] #[.int .u64 ce2.vA,.int .u64 ce2.vB,.int .u8 1,.int .u32 q.wh,.int .u32 0,.bool ce2.is,.int .u64 ce3.vA,.int .u64 ce3.vB,.int .u8 (holdK ce1.vB),.int .u32 q.wh,.int .u32 (holdW ce1.vB),.bool ce3.is,.int .u64 ce4.vA,.int .u64 ce4.vB,.int .u8 3,.int .u32 q.wh,.int .u32 q.wt,.bool ce4.is] [some (.slice (some ⟨gm,0,none⟩) 2 cap_gm,True),pw g 0,pw g 0,pw g 7,pw g 0,pw g 0,pw g 0,pw g 1,some (.int .u32 q.wh,True),pw g 0,pw g 0,pw g 0,pw g 3,some (.int .u32 q.wt,True),some (.agg #[.int .u8 3,.int .u32 q.wh,.int .u32 q.wt],True),some (.agg (thing ce4.vA ce4.vB 3 q.wh q.wt ce4.is),True),none,none,none] 0 SS.out BEG.out rfl rfl (fun vals=>?_) (fun vals W7 hB hfin htold hall=>?_) (ea 16 rfl) (ea 17 rfl)
  · simp only [ObD,Act.put,qA,qC,qZ]
    refine ⟨?_,?_,?_,?_,?_,?_,?_,?_,?_,?_,?_,?_,?_,?_,?o6_14,?o6_15,?o6_16,?o6_17,?o6_18,trivial⟩
    all_goals (intro L W hL hk hC hw;have f:=depsG hw rfl rfl rfl;simp only [depF,vsP,pw,qS,qD,and_true,true_and] at f)
    case o6_14=>have CL:=Lib.hid (stack_any q.wh q.wt W);clear hL hC hk hw;refine spD rfl ?_;go_simp;(with_reducible refine CL.out.mono ?_);rintro e w8 ⟨rfl,h2⟩;first | exact gq h2 rfl ⟨rfl,trivial⟩ | exact ⟨_,rfl,gq h2 rfl ⟨rfl,trivial⟩⟩
    case o6_15=>
      have CL:=Lib.hid (look_KG (hC.pre hk) BEG.out (by have:=HI.out;omega) CE4.out 3 q.wh q.wt);clear hL hC hk hw;refine spD rfl ?_;go_simp;(with_reducible refine CL.out.mono ?_);rintro e w8 (⟨h,rfl,h2⟩ | ⟨h1,rfl,hf,H⟩)
      · exact ⟨_,rfl,Did.miss (by unfold oOffer;simp only [runOm_bind,run_there S0.out.1 S0.out.2,oSide_n (HC.out ce0 S0.out.1),runOm_pure,run_look S1.out,I1.out,EB.out,EN.out,EW.out,ES.out,and_true,true_and,and_false,false_and,or_true,true_or,or_false,false_or,not_true_eq_false,not_false_eq_true,ne_eq,if_true,if_false,Bool.false_eq_true,run_look S2.out,run_look S3.out,run_look_no h]) h2⟩
      · first | exact gk hf H rfl ⟨rfl,trivial⟩ | exact ⟨_,rfl,gk hf H rfl ⟨rfl,trivial⟩⟩
    case o6_16=>have ZZ:=hC.fr.size;unfold thing at f;clear hL hC hk hw;refine spD rfl ?_;go_simp;first | exact gm1 ZZ | exact ⟨_,rfl,gm1 ZZ⟩
    case o6_17=>
      have GZ:=hC.fr.size;have fm:vals 0=.slice (some ⟨gm,0,none⟩) 2 cap_gm:=(Fg.get (f:=vsP (some (.slice (some ⟨gm,0,none⟩) 2 cap_gm,True))) (hw ⟨0,.data⟩ (by simp) rfl) (by decide) (by decide) (by decide) rfl).1;obtain ⟨gb,fa,hgb,bxb⟩:=Fg.geta (hw ⟨16,.data⟩ (by simp) rfl) (by decide) (by decide);have FA:=Lib.hid fa;have BXB:=Lib.hid bxb;obtain ⟨i0,hi0,hz0,hz1,hz2⟩:=info_parts thing_info;have GR:=Lib.hid (hC.row hk)
      clear hL hC hk hw
      refine step_append_lies _ (by rfl) _ _ _ (by rfl) gm 130 i0 _ 6 32 Tryz.underlying140 hi0 hz0 hz1 hz2 rfl (by omega) (.slice (some ⟨gm,0,none⟩) 2 cap_gm) 2 _ (Eq.trans (by rfl) fm) GR.out ⟨gb,0,none⟩ 1 1 [.int .u64 ce4.vA,.int .u64 ce4.vB,.int .u8 3,.int .u32 q.wh,.int .u32 q.wt,.bool ce4.is] (Eq.trans (by rfl) FA.out) rfl (World.news_of_block (cs:=#[.int .u64 ce4.vA,.int .u64 ce4.vB,.int .u8 3,.int .u32 q.wh,.int .u32 q.wt,.bool ce4.is]) (t:=130) (fr:=(0,0)) BXB.out) (by simp [Value.oneCell']) (by omega) (by unfold maxLen;omega) (by omega) (Nat.le_of_lt GR.out.lt) W.heap.size rfl ?_
      intro gg cc WQ hown1 hgrow hat hlt1
      exact ⟨_,rfl,ga SS.out BEG.out (n:=0) rfl rfl GR.out GZ (by simpa using hown1) hgrow hat⟩
    case o6_18=>clear hL hC hk hw;refine spD rfl ?_;go_simp;first | exact gt_ | exact ⟨_,rfl,gt_⟩
    all_goals (have c:=kg7 hC;clear hL hC hk hw;refine spD rfl ?_;go_simp;first | exact gv rfl ⟨rfl,trivial⟩ | exact ⟨_,rfl,gv rfl ⟨rfl,trivial⟩⟩)
  have S4:=Lib.hid hB.1
  simp only [allF,vsP,pw,true_and,and_true,Nat.reduceAdd] at hall
  obtain ⟨gn,cap_gn,fs,hor,bx⟩:=hfin
  rw [fs] at htold
  simp only [TL,Act.put,qA,qC,qZ,hall,htold,fs]
  generalize vals 16=vz6
  replace SS:=Lib.hid (SS.out.regrow BEG.out 0 rfl rfl hB.st hor bx)
  clear hall vals hB htold fs hor bx
  have y0:W7.cell? ⟨gt1,5,none⟩=some (.bool true):=SS.out.bx.2.1.out.cell 5
  have b0:(ce1.vB == 0)=false:=by have:=H2.out ce1 S1.out;simpa using this
  have b1:(ce1.vB != 0)=true:=by have:=H2.out ce1 S1.out;simpa using this
  have b2:(q.n == 0)=false:=by have:=HN.out;simpa using this
  have b3:(q.n != 0)=true:=by have:=HN.out;simpa using this
  have b4:(q.wt == 0)=false:=by have:=HW.out;simpa using this
  have b5:(q.wt != 0)=true:=by have:=HW.out;simpa using this
  have b6:(q.wt == ce1.vB)=false:=by have:=HV.out ce1 S1.out;simpa using this
  have b7:(q.wt != ce1.vB)=true:=by have:=HV.out ce1 S1.out;simpa using this
  have cv0:IntKind.u64.wrap q.wt=q.wt:=wrap_u64 HQ.out.wt.1 (by have:=HQ.out.wt;omega)
  go_upto_region 15 with fail
  clear cv0 y0 b0 b1 b2 b3 b4 b5 b6 b7
  refine wp_S (D:=DP w g q v base i p l seen (oOffer q) Rp.enc) 15 16 17 (SB True False w g q v base p (i + 1 + 1 + 1 + 1 + 1) p l [.pile gn 3 cap_gn #[.int .u64 ce2.vA,.int .u64 ce2.vB,.int .u8 1,.int .u32 q.wh,.int .u32 0,.bool ce2.is,.int .u64 (ce3.vA + ce1.vA),.int .u64 ce3.vB,.int .u8 (holdK ce1.vB),.int .u32 q.wh,.int .u32 (holdW ce1.vB),.bool ce3.is,.int .u64 ce4.vA,.int .u64 ce4.vB,.int .u8 3,.int .u32 q.wh,.int .u32 q.wt,.bool ce4.is],.box gt1 #[.int .u64 ce1.vA,.int .u64 ce1.vB,.int .u8 5,.int .u32 q.id,.int .u32 n,.bool true] 130,.box gt0 #[.int .u64 ce0.A,.int .u64 ce0.B,.int .u8 4,.int .u32 q.id,.int .u32 0,.bool true] 130,.box w.heap.size #[.int .u16 0,.int .u64 0,.int .u64 0,.int .u64 0] 35]) [some (.slice (some ⟨gn,0,none⟩) 3 cap_gn,True),some (.int .i64 1,True),some (.slice (some ⟨gn,0,none⟩) 3 cap_gn,True),some (.int .i64 1,True),some (.pointer (some ⟨gn,6,none⟩),True),some (.pointer (some ⟨gn,6,none⟩),True),some (.pointer (some ⟨gn,6,none⟩),True),some (.int .u64 ce3.vA,True),some (.pointer (some ⟨gt1,0,none⟩),True),some (.pointer (some ⟨gt1,0,none⟩),True),some (.int .u64 ce1.vA,True),some (.int .u64 (ce3.vA + ce1.vA),Mr ce3.vA ce1.vA),some (.pointer (some ⟨gn,6,none⟩),True),some (.pointer (some ⟨gn,6,none⟩),True),some (.pointer (some ⟨gn,6,none⟩),True),some (undef,True)] SS.out (fun vals=>?_) (fun vals W8 hB hall=>?_)
  · simp only [ObD,Act.put,qA,qC,qZ]
    refine ⟨?_,?_,?_,?_,?_,?_,?_,?o7_7,?_,?_,?o7_10,?o7_11,?_,?_,?_,?o7_15,trivial⟩
    all_goals (intro L W hL hk hC hw;have f:=deps hw rfl rfl;simp only [depF,vsP,pw,qS,qD,and_true,true_and] at f)
    case' o7_7=>have k6:W.cell? ⟨gn,6,none⟩=some (.int .u64 ce3.vA):=(hC.pre (hL.not_yet hk 15 16 (by decide +kernel))).bx.1.out.cell 6
    case' o7_10=>have k0:W.cell? ⟨gt1,0,none⟩=some (.int .u64 ce1.vA):=(hC.pre (hL.not_yet hk 15 16 (by decide +kernel))).bx.2.1.out.cell 0
    case o7_11=>
      have CL:=Lib.hid (more_C (vA_ok HOK.out S3.out) (vA_ok HOK.out S1.out) hC SS.out BEG.out);clear hL hC hk hw;refine spD rfl ?_;go_simp;(with_reducible refine CL.out.mono ?_)
      rintro e w8 (⟨h,rfl,h2⟩ | ⟨h1,rfl,h2⟩)
      · exact ⟨_,rfl,Did.err (by unfold oOffer;simp only [runOm_bind,run_there S0.out.1 S0.out.2,oSide_n (HC.out ce0 S0.out.1),runOm_pure,run_look S1.out,I1.out,EB.out,EN.out,EW.out,ES.out,and_true,true_and,and_false,false_and,or_true,true_or,or_false,false_or,not_true_eq_false,not_false_eq_true,ne_eq,if_true,if_false,Bool.false_eq_true,run_look S2.out,run_look S3.out,run_look S4.out,run_more_no h]) h2⟩
      · first | exact sq h2 rfl ⟨rfl,h1⟩ | exact ⟨_,rfl,sq h2 rfl ⟨rfl,h1⟩⟩
    case o7_15=>have PRE:=hC.pre hk;have q0:W.cell? ⟨gn,6,none⟩=some (.int .u64 ce3.vA):=PRE.bx.1.out.cell 6;have r0:=PRE.bx.1.out.frozen 6;have P:=Lib.hid PRE;clear PRE;clear hL hC hk hw;refine spD rfl ?_;go_simp;exact ks (ksP SS.out P.out BEG.out 0 rfl) rfl ⟨rfl,trivial⟩
    all_goals (have c:=kn7 hC;clear hL hC hk hw;refine spD rfl ?_;go_simp;first | exact sv rfl ⟨rfl,trivial⟩ | exact ⟨_,rfl,sv rfl ⟨rfl,trivial⟩⟩)
  have C8:Hid (Mr ce3.vA ce1.vA):=Lib.hid (vsP_c (hall.get 11))
  simp only [allF,vsP,pw,true_and,and_true,Nat.reduceAdd] at hall
  simp only [TL,Act.put,qA,qC,qZ,hall]
  replace SS:=Lib.hid hB.st
  clear hall vals hB
  have y0:W8.cell? ⟨g,5,none⟩=some (.int .u64 q.n):=SS.out.kn.c5
  have b0:(ce1.vB == 0)=false:=by have:=H2.out ce1 S1.out;simpa using this
  have b1:(ce1.vB != 0)=true:=by have:=H2.out ce1 S1.out;simpa using this
  have b2:(q.n == 0)=false:=by have:=HN.out;simpa using this
  have b3:(q.n != 0)=true:=by have:=HN.out;simpa using this
  have b4:(q.wt == 0)=false:=by have:=HW.out;simpa using this
  have b5:(q.wt != 0)=true:=by have:=HW.out;simpa using this
  have b6:(q.wt == ce1.vB)=false:=by have:=HV.out ce1 S1.out;simpa using this
  have b7:(q.wt != ce1.vB)=true:=by have:=HV.out ce1 S1.out;simpa using this
  have cv0:IntKind.u64.wrap q.wt=q.wt:=wrap_u64 HQ.out.wt.1 (by have:=HQ.out.wt;omega)
  go_upto_region 17 with fail
  clear cv0 y0 b0 b1 b2 b3 b4 b5 b6 b7
  refine wp_S (D:=DP w g q v base i p l seen (oOffer q) Rp.enc) 17 18 19 (SB True False w g q v base p (i + 1 + 1 + 1 + 1 + 1) p l [.pile gn 3 cap_gn #[.int .u64 ce2.vA,.int .u64 ce2.vB,.int .u8 1,.int .u32 q.wh,.int .u32 0,.bool ce2.is,.int .u64 (ce3.vA + ce1.vA),.int .u64 ce3.vB,.int .u8 (holdK ce1.vB),.int .u32 q.wh,.int .u32 (holdW ce1.vB),.bool ce3.is,.int .u64 (ce4.vA - q.n),.int .u64 ce4.vB,.int .u8 3,.int .u32 q.wh,.int .u32 q.wt,.bool ce4.is],.box gt1 #[.int .u64 ce1.vA,.int .u64 ce1.vB,.int .u8 5,.int .u32 q.id,.int .u32 n,.bool true] 130,.box gt0 #[.int .u64 ce0.A,.int .u64 ce0.B,.int .u8 4,.int .u32 q.id,.int .u32 0,.bool true] 130,.box w.heap.size #[.int .u16 0,.int .u64 0,.int .u64 0,.int .u64 0] 35]) [some (.slice (some ⟨gn,0,none⟩) 3 cap_gn,True),some (.int .i64 2,True),some (.slice (some ⟨gn,0,none⟩) 3 cap_gn,True),some (.int .i64 2,True),some (.pointer (some ⟨gn,12,none⟩),True),some (.pointer (some ⟨gn,12,none⟩),True),some (.pointer (some ⟨gn,12,none⟩),True),some (.int .u64 ce4.vA,True),pw g 0,pw g 0,pw g 0,pw g 5,some (.int .u64 q.n,True),some (.int .u64 (ce4.vA - q.n),Ls ce4.vA q.n),some (.pointer (some ⟨gn,12,none⟩),True),some (.pointer (some ⟨gn,12,none⟩),True),some (.pointer (some ⟨gn,12,none⟩),True),some (undef,True)] SS.out (fun vals=>?_) (fun vals W9 hB hall=>?_)
  · simp only [ObD,Act.put,qA,qC,qZ]
    refine ⟨?_,?_,?_,?_,?_,?_,?_,?o8_7,?_,?_,?_,?_,?_,?o8_13,?_,?_,?_,?o8_17,trivial⟩
    all_goals (intro L W hL hk hC hw;have f:=deps hw rfl rfl;simp only [depF,vsP,pw,qS,qD,and_true,true_and] at f)
    case' o8_7=>have k12:W.cell? ⟨gn,12,none⟩=some (.int .u64 ce4.vA):=(hC.pre (hL.not_yet hk 17 16 (by decide +kernel))).bx.1.out.cell 12
    case o8_13=>
      have CL:=Lib.hid (less_C (vA_ok HOK.out S4.out) HQ.out.n hC SS.out BEG.out);clear hL hC hk hw;refine spD rfl ?_;go_simp;(with_reducible refine CL.out.mono ?_)
      rintro e w8 (⟨h,rfl,h2⟩ | ⟨⟨h,h3⟩,rfl,h2⟩ | ⟨h1,rfl,h2⟩)
      · exact ⟨_,rfl,Did.err (by unfold oOffer;simp only [runOm_bind,run_there S0.out.1 S0.out.2,oSide_n (HC.out ce0 S0.out.1),runOm_pure,run_look S1.out,I1.out,EB.out,EN.out,EW.out,ES.out,and_true,true_and,and_false,false_and,or_true,true_or,or_false,false_or,not_true_eq_false,not_false_eq_true,ne_eq,if_true,if_false,Bool.false_eq_true,run_look S2.out,run_look S3.out,run_look S4.out,run_more C8.out,run_less_great h]) h2⟩
      · exact ⟨_,rfl,Did.err (by unfold oOffer;simp only [runOm_bind,run_there S0.out.1 S0.out.2,oSide_n (HC.out ce0 S0.out.1),runOm_pure,run_look S1.out,I1.out,EB.out,EN.out,EW.out,ES.out,and_true,true_and,and_false,false_and,or_true,true_or,or_false,false_or,not_true_eq_false,not_false_eq_true,ne_eq,if_true,if_false,Bool.false_eq_true,run_look S2.out,run_look S3.out,run_look S4.out,run_more C8.out,run_less_low h h3]) h2⟩
      · first | exact sq h2 rfl ⟨rfl,h1⟩ | exact ⟨_,rfl,sq h2 rfl ⟨rfl,h1⟩⟩
    case o8_17=>have PRE:=hC.pre hk;have q0:W.cell? ⟨gn,12,none⟩=some (.int .u64 ce4.vA):=PRE.bx.1.out.cell 12;have r0:=PRE.bx.1.out.frozen 12;have P:=Lib.hid PRE;clear PRE;clear hL hC hk hw;refine spD rfl ?_;go_simp;exact ks (ksP SS.out P.out BEG.out 0 rfl) rfl ⟨rfl,trivial⟩
    all_goals (have c:=kn7 hC;clear hL hC hk hw;refine spD rfl ?_;go_simp;first | exact sv rfl ⟨rfl,trivial⟩ | exact ⟨_,rfl,sv rfl ⟨rfl,trivial⟩⟩)
  have C9:Hid (Ls ce4.vA q.n):=Lib.hid (vsP_c (hall.get 13))
  simp only [allF,vsP,pw,true_and,and_true,Nat.reduceAdd] at hall
  simp only [TL,Act.put,qA,qC,qZ,hall]
  replace SS:=Lib.hid hB.st
  clear hall vals hB
  have b0:(ce1.vB == 0)=false:=by have:=H2.out ce1 S1.out;simpa using this
  have b1:(ce1.vB != 0)=true:=by have:=H2.out ce1 S1.out;simpa using this
  have b2:(q.n == 0)=false:=by have:=HN.out;simpa using this
  have b3:(q.n != 0)=true:=by have:=HN.out;simpa using this
  have b4:(q.wt == 0)=false:=by have:=HW.out;simpa using this
  have b5:(q.wt != 0)=true:=by have:=HW.out;simpa using this
  have b6:(q.wt == ce1.vB)=false:=by have:=HV.out ce1 S1.out;simpa using this
  have b7:(q.wt != ce1.vB)=true:=by have:=HV.out ce1 S1.out;simpa using this
  have cv0:IntKind.u64.wrap q.wt=q.wt:=wrap_u64 HQ.out.wt.1 (by have:=HQ.out.wt;omega)
  go_wp2
  clear cv0 b0 b1 b2 b3 b4 b5 b6 b7
  refine wp_loop_rounds 4 ?_
  obtain ⟨y0,y1,y2,y3,y4,y5⟩:=pile6 SS.out.bx.1.out 0 1 2 3 4 5 rfl rfl rfl rfl rfl rfl
  rw [rounds_succ]
  obtain ⟨W10,hWn⟩:∃ W10,W9.alloc (.cells #[.int .u64 ce2.vA,.int .u64 ce2.vB,.int .u8 1,.int .u32 q.wh,.int .u32 0,.bool ce2.is] 130)=W10:=⟨_,rfl⟩
  obtain ⟨gq0,hgn⟩:∃ gq0,W9.heap.size=gq0:=⟨_,rfl⟩
  have TT:=SS.out.alloc BEG.out #[.int .u64 ce2.vA,.int .u64 ce2.vB,.int .u8 1,.int .u32 q.wh,.int .u32 0,.bool ce2.is] 130
  rw [hgn,hWn] at TT
  replace TT:=Lib.hid TT
  have HWN:=Lib.hid hWn
  have HGN:=Lib.hid hgn
  clear hWn hgn
  go_wp2_with fail
  clear y0 y1 y2 y3 y4 y5
  try rw [HWN.out]
  try rw [HGN.out]
  clear HWN HGN SS
  have SS:=TT
  clear TT
  have CALL:=Lib.hid (amount_S SS.out BEG.out (by have:=HL.out;(try simp only [List.length_append,List.length_cons,List.length_nil]);omega) 1 q.wh 0 ce2.vA (show _=l++[amt 1 q.wh 0 ce2.vA] by simp))
  (with_reducible refine CALL.out.mono ?_)
  rintro e W11 ⟨rfl,hf,p11,hs⟩
  replace SS:=Lib.hid hs
  clear CALL hf hs
  go_wp2
  replace SS:=Lib.hid SS.out.drop
  obtain ⟨y0,y1,y2,y3,y4,y5⟩:=pile6 SS.out.bx.1.out 6 7 8 9 10 11 rfl rfl rfl rfl rfl rfl
  rw [rounds_succ]
  obtain ⟨W12,hWn⟩:∃ W12,W11.alloc (.cells #[.int .u64 (ce3.vA + ce1.vA),.int .u64 ce3.vB,.int .u8 (holdK ce1.vB),.int .u32 q.wh,.int .u32 (holdW ce1.vB),.bool ce3.is] 130)=W12:=⟨_,rfl⟩
  obtain ⟨gq1,hgn⟩:∃ gq1,W11.heap.size=gq1:=⟨_,rfl⟩
  have TT:=SS.out.alloc BEG.out #[.int .u64 (ce3.vA + ce1.vA),.int .u64 ce3.vB,.int .u8 (holdK ce1.vB),.int .u32 q.wh,.int .u32 (holdW ce1.vB),.bool ce3.is] 130
  rw [hgn,hWn] at TT
  replace TT:=Lib.hid TT
  have HWN:=Lib.hid hWn
  have HGN:=Lib.hid hgn
  clear hWn hgn
  go_wp2_with fail
  clear y0 y1 y2 y3 y4 y5
  try rw [HWN.out]
  try rw [HGN.out]
  clear HWN HGN SS
  have SS:=TT
  clear TT
  have CALL:=Lib.hid (amount_S SS.out BEG.out (by have:=HL.out;(try simp only [List.length_append,List.length_cons,List.length_nil]);omega) (holdK ce1.vB) q.wh (holdW ce1.vB) (ce3.vA + ce1.vA) (show _=l++[amt 1 q.wh 0 ce2.vA,amt (holdK ce1.vB) q.wh (holdW ce1.vB) (ce3.vA + ce1.vA)] by simp))
  (with_reducible refine CALL.out.mono ?_)
  rintro e W13 ⟨rfl,hf,p13,hs⟩
  replace SS:=Lib.hid hs
  clear CALL hf hs
  go_wp2
  replace SS:=Lib.hid SS.out.drop
  obtain ⟨y0,y1,y2,y3,y4,y5⟩:=pile6 SS.out.bx.1.out 12 13 14 15 16 17 rfl rfl rfl rfl rfl rfl
  rw [rounds_succ]
  obtain ⟨W14,hWn⟩:∃ W14,W13.alloc (.cells #[.int .u64 (ce4.vA - q.n),.int .u64 ce4.vB,.int .u8 3,.int .u32 q.wh,.int .u32 q.wt,.bool ce4.is] 130)=W14:=⟨_,rfl⟩
  obtain ⟨gq2,hgn⟩:∃ gq2,W13.heap.size=gq2:=⟨_,rfl⟩
  have TT:=SS.out.alloc BEG.out #[.int .u64 (ce4.vA - q.n),.int .u64 ce4.vB,.int .u8 3,.int .u32 q.wh,.int .u32 q.wt,.bool ce4.is] 130
  rw [hgn,hWn] at TT
  replace TT:=Lib.hid TT
  have HWN:=Lib.hid hWn
  have HGN:=Lib.hid hgn
  clear hWn hgn
  go_wp2_with fail
  clear y0 y1 y2 y3 y4 y5
  try rw [HWN.out]
  try rw [HGN.out]
  clear HWN HGN SS
  have SS:=TT
  clear TT
  have CALL:=Lib.hid (amount_S SS.out BEG.out (by have:=HL.out;(try simp only [List.length_append,List.length_cons,List.length_nil]);omega) 3 q.wh q.wt (ce4.vA - q.n) (show _=l++[amt 1 q.wh 0 ce2.vA,amt (holdK ce1.vB) q.wh (holdW ce1.vB) (ce3.vA + ce1.vA),amt 3 q.wh q.wt (ce4.vA - q.n)] by simp))
  (with_reducible refine CALL.out.mono ?_)
  rintro e W15 ⟨rfl,hf,p15,hs⟩
  replace SS:=Lib.hid hs
  clear CALL hf hs
  go_wp2
  replace SS:=Lib.hid SS.out.drop
  replace SS:=Lib.hid SS.out.drop
  rw [rounds_succ]
  have y0:W15.cell? ⟨g,5,none⟩=some (.int .u64 q.n):=SS.out.kn.c5
  have b0:(ce1.vB == 0)=false:=by have:=H2.out ce1 S1.out;simpa using this
  have b1:(ce1.vB != 0)=true:=by have:=H2.out ce1 S1.out;simpa using this
  have b2:(q.n == 0)=false:=by have:=HN.out;simpa using this
  have b3:(q.n != 0)=true:=by have:=HN.out;simpa using this
  have b4:(q.wt == 0)=false:=by have:=HW.out;simpa using this
  have b5:(q.wt != 0)=true:=by have:=HW.out;simpa using this
  have b6:(q.wt == ce1.vB)=false:=by have:=HV.out ce1 S1.out;simpa using this
  have b7:(q.wt != ce1.vB)=true:=by have:=HV.out ce1 S1.out;simpa using this
  have cv0:IntKind.u64.wrap q.wt=q.wt:=wrap_u64 HQ.out.wt.1 (by have:=HQ.out.wt;omega)
  go_upto_region 25 with fail
  clear cv0 y0 b0 b1 b2 b3 b4 b5 b6 b7
  refine wp_SA (D:=DP w g q v base i p l seen (oOffer q) Rp.enc) 15 16 17 True True (i + 1 + 1 + 1 + 1 + 1) (l++[amt 1 q.wh 0 ce2.vA,amt (holdK ce1.vB) q.wh (holdW ce1.vB) (ce3.vA + ce1.vA),amt 3 q.wh q.wt (ce4.vA - q.n),Pu.mk 5 q.id n q.n q.wt false]) [pw g 0,some (.pointer (some ⟨gt1,2,none⟩),True),some (.agg #[.int .u8 5,.int .u32 q.id,.int .u32 n],True),pw g 0,pw g 0,pw g 0,pw g 5,some (.int .u64 q.n,True),pw g 0,pw g 0,pw g 0,pw g 3,some (.int .u32 q.wt,True),some (.int .u64 q.wt,True),some (.agg #[.int .u64 q.n,.int .u64 q.wt],True),some (.tuple #[],True)] SS.out (fun vals=>?_) (fun vals W16 hB hall=>?_)
  · simp only [ObD,Act.put,qA,qC,qZ]
    refine ⟨?_,?_,?o15_2,?_,?_,?_,?_,?_,?_,?_,?_,?_,?_,?o15_13,?_,?o15_15,trivial⟩
    all_goals (intro L W hL hk hC hw;have f:=deps hw rfl rfl;simp only [depF,vsP,pw,qS,qD,and_true,true_and] at f)
    case' o15_2=>have k2:W.cell? ⟨gt1,2,none⟩=some (.int .u8 5):=(cw_bx hC).1.out.cell 2;have k3:W.cell? ⟨gt1,3,none⟩=some (.int .u32 q.id):=(cw_bx hC).1.out.cell 3;have k4:W.cell? ⟨gt1,4,none⟩=some (.int .u32 n):=(cw_bx hC).1.out.cell 4
    case' o15_13=>have hcv:IntKind.u64.wrap q.wt=q.wt:=wrap_u64 (HQ.out.wt).1 (by have:=(HQ.out.wt).2;omega)
    case o15_15=>have CL:=Lib.hid (pk SS.out BEG.out (put_S (hC.pre hk) BEG.out (by have:=HL.out;(try simp only [List.length_append,List.length_cons,List.length_nil]);omega) 5 q.id n q.n q.wt (show _=l++[amt 1 q.wh 0 ce2.vA,amt (holdK ce1.vB) q.wh (holdW ce1.vB) (ce3.vA + ce1.vA),amt 3 q.wh q.wt (ce4.vA - q.n),Pu.mk 5 q.id n q.n q.wt false] by simp)));clear hL hC hk hw;refine spD rfl ?_;go_simp;(with_reducible refine CL.out.mono ?_);rintro e w8 ⟨rfl,hf,H⟩;first | exact kv hf H rfl ⟨rfl,trivial⟩ | exact ⟨_,rfl,kv hf H rfl ⟨rfl,trivial⟩⟩
    all_goals (have c:=kn7 hC;clear hL hC hk hw;refine spD rfl ?_;go_simp;first | exact sv rfl ⟨rfl,trivial⟩ | exact ⟨_,rfl,sv rfl ⟨rfl,trivial⟩⟩)
  simp only [allF,vsP,pw,true_and,and_true,Nat.reduceAdd] at hall
  simp only [TL,Act.put,qA,qC,qZ,hall]
  obtain ⟨p16,hB⟩:=hB.put
  replace SS:=Lib.hid hB
  clear hall vals hB
  obtain ⟨⟨y0,y1,y2,y3,y4,y5⟩,-⟩:=six_cells SS.out.bx.2.1.out
  have CALL:=Lib.hid (put_S SS.out BEG.out (by have:=HL.out;(try simp only [List.length_append,List.length_cons,List.length_nil]);omega) 4 q.id 0 ce0.A 0 (show _=l++[amt 1 q.wh 0 ce2.vA,amt (holdK ce1.vB) q.wh (holdW ce1.vB) (ce3.vA + ce1.vA),amt 3 q.wh q.wt (ce4.vA - q.n),Pu.mk 5 q.id n q.n q.wt false,Pu.mk 4 q.id 0 ce0.A 0 false] by simp))
  go_wp2_with fail
  (with_reducible refine CALL.out.mono ?_)
  rintro e W17 ⟨rfl,hf,p17,hs⟩
  replace SS:=Lib.hid hs
  clear CALL hf hs y0 y1 y2 y3 y4 y5
  have y0:W17.cell? ⟨g,5,none⟩=some (.int .u64 q.n):=SS.out.kn.c5
  obtain ⟨⟨z0,z1,z2,z3⟩,x0,x1,x2,x3⟩:=four_cells SS.out.bx.2.2.1.out
  go_wp2
  generalize hW:(World.setCell _ (⟨w.heap.size,3,none⟩:Addr) _)=WZ
  have b9:Box WZ w.heap.size #[.int .u16 0,.int .u64 q.n,.int .u64 0,.int .u64 0] 35:=by
    rw [← hW]
    exact four_box SS.out.bx.2.2.1.out
  have F9:Hid (Fr (fun x=>x=w.heap.size) W17 WZ):=Lib.hid (by
    rw [← hW]
    exact four_fr)
  obtain ⟨⟨v0,v1,v2,v3⟩,-⟩:=four_cells b9
  clear hW b9 z0 z1 z2 z3 x0 x1 x2 x3 y0
  refine bodyPost_ret (v:=.agg #[.int .u16 0,.int .u64 q.n,.int .u64 0,.int .u64 0]) (by simp [results,Tryz.results70,go_sem,v0,v1,v2,v3];try rfl) rfl ?_
  refine (SS.out.wr BEG.out 2 rfl F9.out).did (y:=(⟨q.n,0,0⟩,l++[amt 1 q.wh 0 ce2.vA,amt (holdK ce1.vB) q.wh (holdW ce1.vB) (ce3.vA + ce1.vA),amt 3 q.wh q.wt (ce4.vA - q.n),Pu.mk 5 q.id n q.n q.wt false,Pu.mk 4 q.id 0 ce0.A 0 false])) ?_ rfl
  unfold oOffer
  simp only [runOm_bind,runOm_pure,run_there S0.out.1 S0.out.2,oSide_n (HC.out ce0 S0.out.1),runOm_pure,run_look S1.out,I1.out,EB.out,EN.out,EW.out,ES.out,and_true,true_and,and_false,false_and,or_true,true_or,or_false,false_or,not_true_eq_false,not_false_eq_true,ne_eq,if_true,if_false,Bool.false_eq_true,run_look S2.out,run_look S3.out,run_look S4.out,run_more C8.out,run_less C9.out.1 C9.out.2,oAmount,run_put,oAmount,run_put,oAmount,run_put,run_put,run_put,List.append_assoc,List.cons_append,List.nil_append]
  try rfl
end Go.Proofs.YtabckmadpdchnaaGreat.Rule
namespace Go.Proofs.YtabckmadpdchnaaGreat.Rule
open Go.ChangeShapes Go.WideShapes Go.ChangeAt Go.RowKit Go.IntWalk Go.Proofs.Mem Go.Proofs.Each
theorem offer_all (w:World) (g:Nat) (q:Ot) (v:Value) (base i:Nat) (p:Value) (l:List Pu) (seen:List Ce) (hst:St w g q v base i p l) (hs:SeenAt w g v seen) (hg:g < base) (hbase:base≤w.heap.size) (hl:l.length≤700) (hi:i≤700000) (hq:q.Ok) (hok:∀ c∈seen,c.Ok) :
    Calls Tryz.prog 70 #[.pointer (some ⟨g,0,none⟩)] w (Did w g q v base i p l seen (oOffer q) Rp.enc):=by
  obtain ⟨c1,e1⟩:=the_cell seen (i + 1)
  have key:(∃ n:Int,∀ c:Ce,seen[i]?=some c→(q.wh=hi32 c.A∧n=0)∨(q.wh≠hi32 c.A∧q.wh=lo32 c.A∧n=1))∨(∀ c:Ce,seen[i]?=some c→q.wh≠hi32 c.A∧q.wh≠lo32 c.A):=by
    rcases the_side seen i q with h | h | h
    · exact .inl ⟨0,fun c hc=>.inl ⟨h c hc,rfl⟩⟩
    · exact .inl ⟨1,fun c hc=>.inr ⟨(h c hc).1,(h c hc).2,rfl⟩⟩
    · exact .inr h
  rcases key with ⟨n,hc⟩ | hc
  case inr=>exact offer_none w g q v base i p l seen hst hs hg hbase hl hi hq hok hc
  cases h1:c1.is with
  | false=>
    have k1:∀ c,seen[i + 1]?=some c→c.is=false:=fun c hc=>by rw [e1 c hc];exact h1
    by_cases hn:q.n=0
    · exact offer_no_zero w g q v base i p l seen hst hs hg hbase hl hi hq hok n hc k1 hn
    by_cases hw:q.wt=0
    · exact offer_no_coin w g q v base i p l seen hst hs hg hbase hl hi hq hok n hc k1 hn hw
    · exact offer_no_item w g q v base i p l seen hst hs hg hbase hl hi hq hok n hc k1 hn hw
  | true=>
    have k1:∀ c,seen[i + 1]?=some c→c.is=true:=fun c hc=>by rw [e1 c hc];exact h1
    by_cases h2:c1.vB=0
    · have k2:∀ c,seen[i + 1]?=some c→c.vB=0:=fun c hc=>by rw [e1 c hc];exact h2
      by_cases hn:q.n=0
      · exact offer_coin_zero w g q v base i p l seen hst hs hg hbase hl hi hq hok n hc k1 k2 hn
      by_cases hw:q.wt=0
      · exact offer_coin_coin w g q v base i p l seen hst hs hg hbase hl hi hq hok n hc k1 k2 hn hw
      · exact offer_coin_item w g q v base i p l seen hst hs hg hbase hl hi hq hok n hc k1 k2 hn hw
    · have k2:∀ c,seen[i + 1]?=some c→c.vB≠0:=fun c hc=>by rw [e1 c hc];exact h2
      by_cases hn:q.n=0
      · exact offer_item_zero w g q v base i p l seen hst hs hg hbase hl hi hq hok n hc k1 k2 hn
      by_cases hw:q.wt=0
      · exact offer_item_coin w g q v base i p l seen hst hs hg hbase hl hi hq hok n hc k1 k2 hn hw
      by_cases hv:q.wt=c1.vB
      · exact offer_item_same w g q v base i p l seen hst hs hg hbase hl hi hq hok n hc k1 k2 hn hw (fun c hc=>by rw [e1 c hc];exact hv)
      · exact offer_item_item w g q v base i p l seen hst hs hg hbase hl hi hq hok n hc k1 k2 hn hw (fun c hc=>by rw [e1 c hc];exact hv)
end Go.Proofs.YtabckmadpdchnaaGreat.Rule
