import Derived.Test.YtabckmadpdchnaaGreatMo2
import Derived.Test.YtabckmadpdchnaaGreatMo7
set_option linter.unusedVariables false
set_option linter.unusedSimpArgs false
set_option linter.unnecessarySimpa false
set_option maxRecDepth 100000
set_option maxHeartbeats 8000000
namespace Go.Proofs.YtabckmadpdchnaaGreat.Rule
open Go.ChangeShapes Go.WideShapes Go.ChangeAt Go.RowKit Go.IntWalk Go.Proofs.Mem Go.Proofs.Each
theorem offer_no_zero (w:World) (g:Nat) (q:Ot) (v:Value) (base i:Nat) (p:Value) (l:List Pu) (seen:List Ce) (hst:St w g q v base i p l) (hs:SeenAt w g v seen) (hg:g < base) (hbase:base≤w.heap.size) (hl:l.length≤700) (hi:i≤700000) (hq:q.Ok) (hok:∀ c∈seen,c.Ok) (n:Int) (hc:∀ c,seen[i]?=some c→(q.wh=hi32 c.A∧n=0)∨(q.wh≠hi32 c.A∧q.wh=lo32 c.A∧n=1)) (h1:∀ c,seen[i + 1]?=some c→c.is=false) (hn:q.n=0) :
    Calls Tryz.prog 70 #[.pointer (some ⟨g,0,none⟩)] w (Did w g q v base i p l seen (oOffer q) Rp.enc):=by
  have BEG:=Lib.hid (Begin.mk hs hg hbase hq hok (fun x hx=>hst.own.lt x hx))
  obtain ⟨W0,hW0⟩:∃ W0,w.alloc (.cells #[.int .u16 0,.int .u64 0,.int .u64 0,.int .u64 0] 35)=W0:=⟨_,rfl⟩
  have SS:Hid (ST w g q v base p i p l [.box w.heap.size #[.int .u16 0,.int .u64 0,.int .u64 0,.int .u64 0] 35] W0):=Lib.hid (by rw [← hW0];exact ST.start hst BEG.out _ _)
  have HI:=Lib.hid hi
  have HQ:=Lib.hid hq
  have HOK:=Lib.hid hok
  have HL:=Lib.hid hl
  have HC:=Lib.hid hc
  have H1:=Lib.hid h1
  have HN:=Lib.hid hn
  obtain ⟨ce0,hce0⟩:=the_cell seen (i)
  have CE0:=Lib.hid hce0
  obtain ⟨ce1,hce1⟩:=the_cell seen (i + 1)
  have CE1:=Lib.hid hce1
  obtain ⟨ce2,hce2⟩:=the_cell seen (i + 1 + 1)
  have CE2:=Lib.hid hce2
  clear hst hs hg hbase hl hi hq hok hc h1 hn hce0 hce1 hce2
  go_enter Tryz.func70,Tryz.ntmps70
  go_upto_region 1 with fail
  try rw [hW0]
  clear hW0
  refine wp_SK (D:=DP w g q v base i p l seen (oOffer q) Rp.enc) 9 10 11 (seen[i]?=some ce0∧ce0.is=true) (i + 1) #[.int .u64 ce0.A,.int .u64 ce0.B,.int .u8 4,.int .u32 q.id,.int .u32 0,.bool true] [pw g 0,pw g 0,pw g 7,pw g 0,pw g 0,pw g 0,pw g 4,some (.int .u32 q.id,True),some (.agg #[.int .u8 4,.int .u32 q.id,.int .u32 0],True),some (.agg (thing ce0.A ce0.B 4 q.id 0 true),True),none,none] SS.out (fun vals=>?_) (fun vals W1 hB hfin hall=>?_) (ea 10 rfl)
  · simp only [ObD,Act.put,qA,qC,qZ]
    refine ⟨?_,?_,?_,?_,?_,?_,?_,?_,?o0_8,?o0_9,?o0_10,?o0_11,trivial⟩
    all_goals (intro L W hL hk hC hw;have f:=deps hw rfl rfl;simp only [depF,vsP,pw,qS,qD,and_true,true_and] at f)
    case o0_8=>have CL:=Lib.hid (trade_any q.id W);clear hL hC hk hw;refine spD rfl ?_;go_simp;(with_reducible refine CL.out.mono ?_);rintro e w8 ⟨rfl,h2⟩;first | exact sq h2 rfl ⟨rfl,trivial⟩ | exact ⟨_,rfl,sq h2 rfl ⟨rfl,trivial⟩⟩
    case o0_9=>
      have CL:=Lib.hid (there_K SS.out (hC.pre hk) BEG.out (by have:=HI.out;omega) CE0.out 4 q.id 0);clear hL hC hk hw;refine spD rfl ?_;go_simp;(with_reducible refine CL.out.mono ?_);rintro e w8 (⟨h,rfl,h2⟩ | ⟨h,h3,rfl,h2⟩ | ⟨rfl,hf,H⟩)
      · exact ⟨_,rfl,Did.miss (by unfold oOffer;simp only [runOm_bind,run_there_no h]) h2⟩
      · exact ⟨_,rfl,Did.err (by unfold oOffer;simp only [runOm_bind,run_there_not h h3]) h2⟩
      · first | exact kv hf H rfl ⟨rfl,trivial⟩ | exact ⟨_,rfl,kv hf H rfl ⟨rfl,trivial⟩⟩
    case o0_10=>have ZZ:=hC.fr.size;clear hL hC hk hw;refine spD rfl ?_;go_simp;exact am ZZ
    case o0_11=>obtain ⟨gt,C,fa,hgt,bx0,hc⟩:=Fw.geta (hw ⟨10,.data⟩ (by simp) rfl) (by decide);obtain ⟨c0,c1,c2,c3,c4,c5,rfl⟩:=arr6 hc;have q:=six_cells bx0;have BXX:=Lib.hid bx0;have FA:=Lib.hid fa;clear bx0 hc;unfold thing at f;clear hL hC hk hw;refine spD rfl ?_;go_simp;exact sm SS.out BEG.out BXX.out hgt FA.out
    all_goals (have c:=kn7 hC;clear hL hC hk hw;refine spD rfl ?_;go_simp;first | exact sv rfl ⟨rfl,trivial⟩ | exact ⟨_,rfl,sv rfl ⟨rfl,trivial⟩⟩)
  have S0:=Lib.hid hB.1
  simp only [allF,vsP,pw,true_and,and_true,Nat.reduceAdd] at hall
  obtain ⟨gt0,fa,hgt,bx⟩:=hfin
  simp only [TL,Act.put,qA,qC,qZ,hall,fa]
  replace SS:=Lib.hid (SS.out.push BEG.out hB.st SS.out.lt hgt bx)
  clear hall vals hB fa hgt bx
  obtain ⟨⟨y0,y1,y2,y3,y4,y5⟩,-⟩:=six_cells SS.out.bx.1.out
  have CALL:=Lib.hid (side_n W1 g q v (i + 1:Nat) p SS.out.run.out.st.wb ce0.A ce0.B 4 q.id 0 true (A_ok HOK.out S0.out.1) n (HC.out ce0 S0.out.1))
  unfold thing at CALL
  go_wp2_with fail
  (with_reducible refine CALL.out.mono ?_)
  rintro e W2 ⟨rfl,hbl⟩
  clear CALL y0 y1 y2 y3 y4 y5
  replace SS:=Lib.hid (SS.out.later hbl)
  clear hbl
  go_upto_region 3 with fail
  refine wp_SK (D:=DP w g q v base i p l seen (oOffer q) Rp.enc) 10 11 12 (seen[i + 1]?=some ce1) (i + 1 + 1) #[.int .u64 ce1.vA,.int .u64 ce1.vB,.int .u8 5,.int .u32 q.id,.int .u32 n,.bool ce1.is] [pw g 0,pw g 0,pw g 7,pw g 0,pw g 0,pw g 0,pw g 4,some (.int .u32 q.id,True),some (.int .u32 n,True),some (.agg #[.int .u8 5,.int .u32 q.id,.int .u32 n],True),some (.agg (thing ce1.vA ce1.vB 5 q.id n ce1.is),True),none,none] SS.out (fun vals=>?_) (fun vals W3 hB hfin hall=>?_) (ea 11 rfl)
  · simp only [ObD,Act.put,qA,qC,qZ]
    refine ⟨?_,?_,?_,?_,?_,?_,?_,?_,?_,?o2_9,?o2_10,?o2_11,?o2_12,trivial⟩
    all_goals (intro L W hL hk hC hw;have f:=deps hw rfl rfl;simp only [depF,vsP,pw,qS,qD,and_true,true_and] at f)
    case o2_9=>have CL:=Lib.hid (offer_any q.id n W);clear hL hC hk hw;refine spD rfl ?_;go_simp;(with_reducible refine CL.out.mono ?_);rintro e w8 ⟨rfl,h2⟩;first | exact sq h2 rfl ⟨rfl,trivial⟩ | exact ⟨_,rfl,sq h2 rfl ⟨rfl,trivial⟩⟩
    case o2_10=>
      have CL:=Lib.hid (look_K SS.out (hC.pre hk) BEG.out (by have:=HI.out;omega) CE1.out 5 q.id n);clear hL hC hk hw;refine spD rfl ?_;go_simp;(with_reducible refine CL.out.mono ?_);rintro e w8 (⟨h,rfl,h2⟩ | ⟨h1,rfl,hf,H⟩)
      · exact ⟨_,rfl,Did.miss (by unfold oOffer;simp only [runOm_bind,run_there S0.out.1 S0.out.2,oSide_n (HC.out ce0 S0.out.1),runOm_pure,run_look_no h]) h2⟩
      · first | exact kv hf H rfl ⟨rfl,trivial⟩ | exact ⟨_,rfl,kv hf H rfl ⟨rfl,trivial⟩⟩
    case o2_11=>have ZZ:=hC.fr.size;clear hL hC hk hw;refine spD rfl ?_;go_simp;exact am ZZ
    case o2_12=>obtain ⟨gt,C,fa,hgt,bx0,hc⟩:=Fw.geta (hw ⟨11,.data⟩ (by simp) rfl) (by decide);obtain ⟨c0,c1,c2,c3,c4,c5,rfl⟩:=arr6 hc;have q:=six_cells bx0;have BXX:=Lib.hid bx0;have FA:=Lib.hid fa;clear bx0 hc;unfold thing at f;clear hL hC hk hw;refine spD rfl ?_;go_simp;exact sm SS.out BEG.out BXX.out hgt FA.out
    all_goals (have c:=kn7 hC;clear hL hC hk hw;refine spD rfl ?_;go_simp;first | exact sv rfl ⟨rfl,trivial⟩ | exact ⟨_,rfl,sv rfl ⟨rfl,trivial⟩⟩)
  have S1:=Lib.hid hB.1
  simp only [allF,vsP,pw,true_and,and_true,Nat.reduceAdd] at hall
  obtain ⟨gt1,fa,hgt,bx⟩:=hfin
  simp only [TL,Act.put,qA,qC,qZ,hall,fa]
  replace SS:=Lib.hid (SS.out.push BEG.out hB.st SS.out.lt hgt bx)
  clear hall vals hB fa hgt bx
  have I1:=Lib.hid (H1.out ce1 S1.out)
  have SX:=SS.out
  rw [I1.out] at SX
  replace SS:=Lib.hid SX
  clear SX
  have EN:=Lib.hid (show (q.n=0)=True from eq_true HN.out)
  go_upto_region 4 with fail
  refine wp_SG0 (D:=DP w g q v base i p l seen (oOffer q) Rp.enc) 9 12 10 11 (seen[i + 1 + 1]?=some ce2) (i + 1 + 1 + 1) #[.int .u64 ce2.vA,.int .u64 ce2.vB,.int .u8 1,.int .u32 q.wh,.int .u32 0,.bool ce2.is] [pw g 0,pw g 0,pw g 7,pw g 0,pw g 0,pw g 0,pw g 1,some (.int .u32 q.wh,True),some (.agg #[.int .u8 1,.int .u32 q.wh,.int .u32 0],True),some (.agg (thing ce2.vA ce2.vB 1 q.wh 0 ce2.is),True),none,none] SS.out BEG.out (fun vals=>?_) (fun vals W4 hB hfin htold hall=>?_) (ea 10 rfl)
  · simp only [ObD,Act.put,qA,qC,qZ]
    refine ⟨?_,?_,?_,?_,?_,?_,?_,?_,?o3_8,?o3_9,?o3_10,?o3_11,trivial⟩
    all_goals (intro L W hL hk hC hw;have f:=depsG hw rfl rfl rfl;simp only [depF,vsP,pw,qS,qD,and_true,true_and] at f)
    case o3_8=>have CL:=Lib.hid (purse_any q.wh W);clear hL hC hk hw;refine spD rfl ?_;go_simp;(with_reducible refine CL.out.mono ?_);rintro e w8 ⟨rfl,h2⟩;first | exact gq h2 rfl ⟨rfl,trivial⟩ | exact ⟨_,rfl,gq h2 rfl ⟨rfl,trivial⟩⟩
    case o3_9=>
      have CL:=Lib.hid (look_KG (hC.pre hk) BEG.out (by have:=HI.out;omega) CE2.out 1 q.wh 0);clear hL hC hk hw;refine spD rfl ?_;go_simp;(with_reducible refine CL.out.mono ?_);rintro e w8 (⟨h,rfl,h2⟩ | ⟨h1,rfl,hf,H⟩)
      · exact ⟨_,rfl,Did.miss (by unfold oOffer;simp only [runOm_bind,run_there S0.out.1 S0.out.2,oSide_n (HC.out ce0 S0.out.1),runOm_pure,run_look S1.out,I1.out,EN.out,and_true,true_and,and_false,false_and,or_true,true_or,or_false,false_or,not_true_eq_false,not_false_eq_true,ne_eq,if_true,if_false,Bool.false_eq_true,run_look_no h]) h2⟩
      · first | exact gk hf H rfl ⟨rfl,trivial⟩ | exact ⟨_,rfl,gk hf H rfl ⟨rfl,trivial⟩⟩
    case o3_10=>have ZZ:=hC.fr.size;unfold thing at f;clear hL hC hk hw;refine spD rfl ?_;go_simp;first | exact gm0 ZZ | exact ⟨_,rfl,gm0 ZZ⟩
    case o3_11=>clear hL hC hk hw;refine spD rfl ?_;go_simp;first | exact gt_ | exact ⟨_,rfl,gt_⟩
    all_goals (have c:=kg7 hC;clear hL hC hk hw;refine spD rfl ?_;go_simp;first | exact gv rfl ⟨rfl,trivial⟩ | exact ⟨_,rfl,gv rfl ⟨rfl,trivial⟩⟩)
  have S2:=Lib.hid hB.1
  simp only [allF,vsP,pw,true_and,and_true,Nat.reduceAdd] at hall
  obtain ⟨gl,fs,hor,bx⟩:=hfin
  rw [fs] at htold
  simp only [TL,Act.put,qA,qC,qZ,hall,htold,fs]
  replace SS:=Lib.hid (SS.out.pushP BEG.out hB.st SS.out.lt hor (Pile.of_box (n:=1) bx rfl (by decide)))
  clear hall vals hB htold fs hor bx
  have y0:W4.cell? ⟨g,3,none⟩=some (.int .u32 q.wt):=SS.out.kn.c3
  have y1:W4.cell? ⟨g,5,none⟩=some (.int .u64 q.n):=SS.out.kn.c5
  have y2:W4.cell? ⟨gt1,1,none⟩=some (.int .u64 ce1.vB):=SS.out.bx.2.1.out.cell 1
  have y3:W4.cell? ⟨gt1,5,none⟩=some (.bool false):=SS.out.bx.2.1.out.cell 5
  have b0:(q.n == 0)=true:=by have:=HN.out;simpa using this
  have b1:(q.n != 0)=false:=by have:=HN.out;simpa using this
  have cv0:IntKind.u64.wrap q.wt=q.wt:=wrap_u64 HQ.out.wt.1 (by have:=HQ.out.wt;omega)
  go_wp2
  clear cv0 y0 y1 y2 y3 b0 b1
  refine wp_loop_rounds 2 ?_
  obtain ⟨y0,y1,y2,y3,y4,y5⟩:=pile6 SS.out.bx.1.out 0 1 2 3 4 5 rfl rfl rfl rfl rfl rfl
  rw [rounds_succ]
  obtain ⟨W5,hWn⟩:∃ W5,W4.alloc (.cells #[.int .u64 ce2.vA,.int .u64 ce2.vB,.int .u8 1,.int .u32 q.wh,.int .u32 0,.bool ce2.is] 130)=W5:=⟨_,rfl⟩
  obtain ⟨gq0,hgn⟩:∃ gq0,W4.heap.size=gq0:=⟨_,rfl⟩
  have TT:=SS.out.alloc BEG.out #[.int .u64 ce2.vA,.int .u64 ce2.vB,.int .u8 1,.int .u32 q.wh,.int .u32 0,.bool ce2.is] 130
  rw [hgn,hWn] at TT
  replace TT:=Lib.hid TT
  have HWN:=Lib.hid hWn
  have HGN:=Lib.hid hgn
  clear hWn hgn
  go_wp2_with fail
  clear y0 y1 y2 y3 y4 y5
  try rw [HWN.out]
  try rw [HGN.out]
  clear HWN HGN SS
  have SS:=TT
  clear TT
  have CALL:=Lib.hid (amount_S SS.out BEG.out (by have:=HL.out;(try simp only [List.length_append,List.length_cons,List.length_nil]);omega) 1 q.wh 0 ce2.vA (show _=l++[amt 1 q.wh 0 ce2.vA] by simp))
  (with_reducible refine CALL.out.mono ?_)
  rintro e W6 ⟨rfl,hf,p6,hs⟩
  replace SS:=Lib.hid hs
  clear CALL hf hs
  go_wp2
  replace SS:=Lib.hid SS.out.drop
  replace SS:=Lib.hid SS.out.drop
  rw [rounds_succ]
  have y0:W6.cell? ⟨g,5,none⟩=some (.int .u64 q.n):=SS.out.kn.c5
  have b0:(q.n == 0)=true:=by have:=HN.out;simpa using this
  have b1:(q.n != 0)=false:=by have:=HN.out;simpa using this
  obtain ⟨⟨y0,y1,y2,y3,y4,y5⟩,-⟩:=six_cells SS.out.bx.1.out
  have CALL:=Lib.hid (gone_S SS.out BEG.out (by have:=HL.out;(try simp only [List.length_append,List.length_cons,List.length_nil]);omega) 5 q.id n (show _=l++[amt 1 q.wh 0 ce2.vA,Pu.mk 5 q.id n 0 0 true] by simp))
  go_wp2_with fail
  (with_reducible refine CALL.out.mono ?_)
  rintro e W7 ⟨rfl,hf,p7,hs⟩
  replace SS:=Lib.hid hs
  clear CALL hf hs y0 y1 y2 y3 y4 y5
  obtain ⟨⟨y0,y1,y2,y3,y4,y5⟩,-⟩:=six_cells SS.out.bx.2.1.out
  have CALL:=Lib.hid (put_S SS.out BEG.out (by have:=HL.out;(try simp only [List.length_append,List.length_cons,List.length_nil]);omega) 4 q.id 0 ce0.A 0 (show _=l++[amt 1 q.wh 0 ce2.vA,Pu.mk 5 q.id n 0 0 true,Pu.mk 4 q.id 0 ce0.A 0 false] by simp))
  go_wp2_with fail
  (with_reducible refine CALL.out.mono ?_)
  rintro e W8 ⟨rfl,hf,p8,hs⟩
  replace SS:=Lib.hid hs
  clear CALL hf hs y0 y1 y2 y3 y4 y5
  have y0:W8.cell? ⟨g,5,none⟩=some (.int .u64 q.n):=SS.out.kn.c5
  obtain ⟨⟨z0,z1,z2,z3⟩,x0,x1,x2,x3⟩:=four_cells SS.out.bx.2.2.1.out
  go_wp2
  generalize hW:(World.setCell _ (⟨w.heap.size,3,none⟩:Addr) _)=WZ
  have b9:Box WZ w.heap.size #[.int .u16 0,.int .u64 q.n,.int .u64 0,.int .u64 0] 35:=by
    rw [← hW]
    exact four_box SS.out.bx.2.2.1.out
  have F9:Hid (Fr (fun x=>x=w.heap.size) W8 WZ):=Lib.hid (by
    rw [← hW]
    exact four_fr)
  obtain ⟨⟨v0,v1,v2,v3⟩,-⟩:=four_cells b9
  clear hW b9 z0 z1 z2 z3 x0 x1 x2 x3 y0
  refine bodyPost_ret (v:=.agg #[.int .u16 0,.int .u64 q.n,.int .u64 0,.int .u64 0]) (by simp [results,Tryz.results70,go_sem,v0,v1,v2,v3];try rfl) rfl ?_
  refine (SS.out.wr BEG.out 2 rfl F9.out).did (y:=(⟨q.n,0,0⟩,l++[amt 1 q.wh 0 ce2.vA,Pu.mk 5 q.id n 0 0 true,Pu.mk 4 q.id 0 ce0.A 0 false])) ?_ rfl
  unfold oOffer
  simp only [runOm_bind,runOm_pure,run_there S0.out.1 S0.out.2,oSide_n (HC.out ce0 S0.out.1),runOm_pure,run_look S1.out,I1.out,EN.out,and_true,true_and,and_false,false_and,or_true,true_or,or_false,false_or,not_true_eq_false,not_false_eq_true,ne_eq,if_true,if_false,Bool.false_eq_true,run_look S2.out,oAmount,run_put,oGone,run_put,run_put,List.append_assoc,List.cons_append,List.nil_append]
  try rfl
theorem offer_no_coin (w:World) (g:Nat) (q:Ot) (v:Value) (base i:Nat) (p:Value) (l:List Pu) (seen:List Ce) (hst:St w g q v base i p l) (hs:SeenAt w g v seen) (hg:g < base) (hbase:base≤w.heap.size) (hl:l.length≤700) (hi:i≤700000) (hq:q.Ok) (hok:∀ c∈seen,c.Ok) (n:Int) (hc:∀ c,seen[i]?=some c→(q.wh=hi32 c.A∧n=0)∨(q.wh≠hi32 c.A∧q.wh=lo32 c.A∧n=1)) (h1:∀ c,seen[i + 1]?=some c→c.is=false) (hn:q.n≠0) (hw:q.wt=0) :
    Calls Tryz.prog 70 #[.pointer (some ⟨g,0,none⟩)] w (Did w g q v base i p l seen (oOffer q) Rp.enc):=by
  have BEG:=Lib.hid (Begin.mk hs hg hbase hq hok (fun x hx=>hst.own.lt x hx))
  obtain ⟨W0,hW0⟩:∃ W0,w.alloc (.cells #[.int .u16 0,.int .u64 0,.int .u64 0,.int .u64 0] 35)=W0:=⟨_,rfl⟩
  have SS:Hid (ST w g q v base p i p l [.box w.heap.size #[.int .u16 0,.int .u64 0,.int .u64 0,.int .u64 0] 35] W0):=Lib.hid (by rw [← hW0];exact ST.start hst BEG.out _ _)
  have HI:=Lib.hid hi
  have HQ:=Lib.hid hq
  have HOK:=Lib.hid hok
  have HL:=Lib.hid hl
  have HC:=Lib.hid hc
  have H1:=Lib.hid h1
  have HN:=Lib.hid hn
  have HW:=Lib.hid hw
  obtain ⟨ce0,hce0⟩:=the_cell seen (i)
  have CE0:=Lib.hid hce0
  obtain ⟨ce1,hce1⟩:=the_cell seen (i + 1)
  have CE1:=Lib.hid hce1
  obtain ⟨ce2,hce2⟩:=the_cell seen (i + 1 + 1)
  have CE2:=Lib.hid hce2
  clear hst hs hg hbase hl hi hq hok hc h1 hn hw hce0 hce1 hce2
  go_enter Tryz.func70,Tryz.ntmps70
  go_upto_region 1 with fail
  try rw [hW0]
  clear hW0
  refine wp_SK (D:=DP w g q v base i p l seen (oOffer q) Rp.enc) 9 10 11 (seen[i]?=some ce0∧ce0.is=true) (i + 1) #[.int .u64 ce0.A,.int .u64 ce0.B,.int .u8 4,.int .u32 q.id,.int .u32 0,.bool true] [pw g 0,pw g 0,pw g 7,pw g 0,pw g 0,pw g 0,pw g 4,some (.int .u32 q.id,True),some (.agg #[.int .u8 4,.int .u32 q.id,.int .u32 0],True),some (.agg (thing ce0.A ce0.B 4 q.id 0 true),True),none,none] SS.out (fun vals=>?_) (fun vals W1 hB hfin hall=>?_) (ea 10 rfl)
  · simp only [ObD,Act.put,qA,qC,qZ]
    refine ⟨?_,?_,?_,?_,?_,?_,?_,?_,?o0_8,?o0_9,?o0_10,?o0_11,trivial⟩
    all_goals (intro L W hL hk hC hw;have f:=deps hw rfl rfl;simp only [depF,vsP,pw,qS,qD,and_true,true_and] at f)
    case o0_8=>have CL:=Lib.hid (trade_any q.id W);clear hL hC hk hw;refine spD rfl ?_;go_simp;(with_reducible refine CL.out.mono ?_);rintro e w8 ⟨rfl,h2⟩;first | exact sq h2 rfl ⟨rfl,trivial⟩ | exact ⟨_,rfl,sq h2 rfl ⟨rfl,trivial⟩⟩
    case o0_9=>
      have CL:=Lib.hid (there_K SS.out (hC.pre hk) BEG.out (by have:=HI.out;omega) CE0.out 4 q.id 0);clear hL hC hk hw;refine spD rfl ?_;go_simp;(with_reducible refine CL.out.mono ?_);rintro e w8 (⟨h,rfl,h2⟩ | ⟨h,h3,rfl,h2⟩ | ⟨rfl,hf,H⟩)
      · exact ⟨_,rfl,Did.miss (by unfold oOffer;simp only [runOm_bind,run_there_no h]) h2⟩
      · exact ⟨_,rfl,Did.err (by unfold oOffer;simp only [runOm_bind,run_there_not h h3]) h2⟩
      · first | exact kv hf H rfl ⟨rfl,trivial⟩ | exact ⟨_,rfl,kv hf H rfl ⟨rfl,trivial⟩⟩
    case o0_10=>have ZZ:=hC.fr.size;clear hL hC hk hw;refine spD rfl ?_;go_simp;exact am ZZ
    case o0_11=>obtain ⟨gt,C,fa,hgt,bx0,hc⟩:=Fw.geta (hw ⟨10,.data⟩ (by simp) rfl) (by decide);obtain ⟨c0,c1,c2,c3,c4,c5,rfl⟩:=arr6 hc;have q:=six_cells bx0;have BXX:=Lib.hid bx0;have FA:=Lib.hid fa;clear bx0 hc;unfold thing at f;clear hL hC hk hw;refine spD rfl ?_;go_simp;exact sm SS.out BEG.out BXX.out hgt FA.out
    all_goals (have c:=kn7 hC;clear hL hC hk hw;refine spD rfl ?_;go_simp;first | exact sv rfl ⟨rfl,trivial⟩ | exact ⟨_,rfl,sv rfl ⟨rfl,trivial⟩⟩)
  have S0:=Lib.hid hB.1
  simp only [allF,vsP,pw,true_and,and_true,Nat.reduceAdd] at hall
  obtain ⟨gt0,fa,hgt,bx⟩:=hfin
  simp only [TL,Act.put,qA,qC,qZ,hall,fa]
  replace SS:=Lib.hid (SS.out.push BEG.out hB.st SS.out.lt hgt bx)
  clear hall vals hB fa hgt bx
  obtain ⟨⟨y0,y1,y2,y3,y4,y5⟩,-⟩:=six_cells SS.out.bx.1.out
  have CALL:=Lib.hid (side_n W1 g q v (i + 1:Nat) p SS.out.run.out.st.wb ce0.A ce0.B 4 q.id 0 true (A_ok HOK.out S0.out.1) n (HC.out ce0 S0.out.1))
  unfold thing at CALL
  go_wp2_with fail
  (with_reducible refine CALL.out.mono ?_)
  rintro e W2 ⟨rfl,hbl⟩
  clear CALL y0 y1 y2 y3 y4 y5
  replace SS:=Lib.hid (SS.out.later hbl)
  clear hbl
  go_upto_region 3 with fail
  refine wp_SK (D:=DP w g q v base i p l seen (oOffer q) Rp.enc) 10 11 12 (seen[i + 1]?=some ce1) (i + 1 + 1) #[.int .u64 ce1.vA,.int .u64 ce1.vB,.int .u8 5,.int .u32 q.id,.int .u32 n,.bool ce1.is] [pw g 0,pw g 0,pw g 7,pw g 0,pw g 0,pw g 0,pw g 4,some (.int .u32 q.id,True),some (.int .u32 n,True),some (.agg #[.int .u8 5,.int .u32 q.id,.int .u32 n],True),some (.agg (thing ce1.vA ce1.vB 5 q.id n ce1.is),True),none,none] SS.out (fun vals=>?_) (fun vals W3 hB hfin hall=>?_) (ea 11 rfl)
  · simp only [ObD,Act.put,qA,qC,qZ]
    refine ⟨?_,?_,?_,?_,?_,?_,?_,?_,?_,?o2_9,?o2_10,?o2_11,?o2_12,trivial⟩
    all_goals (intro L W hL hk hC hw;have f:=deps hw rfl rfl;simp only [depF,vsP,pw,qS,qD,and_true,true_and] at f)
    case o2_9=>have CL:=Lib.hid (offer_any q.id n W);clear hL hC hk hw;refine spD rfl ?_;go_simp;(with_reducible refine CL.out.mono ?_);rintro e w8 ⟨rfl,h2⟩;first | exact sq h2 rfl ⟨rfl,trivial⟩ | exact ⟨_,rfl,sq h2 rfl ⟨rfl,trivial⟩⟩
    case o2_10=>
      have CL:=Lib.hid (look_K SS.out (hC.pre hk) BEG.out (by have:=HI.out;omega) CE1.out 5 q.id n);clear hL hC hk hw;refine spD rfl ?_;go_simp;(with_reducible refine CL.out.mono ?_);rintro e w8 (⟨h,rfl,h2⟩ | ⟨h1,rfl,hf,H⟩)
      · exact ⟨_,rfl,Did.miss (by unfold oOffer;simp only [runOm_bind,run_there S0.out.1 S0.out.2,oSide_n (HC.out ce0 S0.out.1),runOm_pure,run_look_no h]) h2⟩
      · first | exact kv hf H rfl ⟨rfl,trivial⟩ | exact ⟨_,rfl,kv hf H rfl ⟨rfl,trivial⟩⟩
    case o2_11=>have ZZ:=hC.fr.size;clear hL hC hk hw;refine spD rfl ?_;go_simp;exact am ZZ
    case o2_12=>obtain ⟨gt,C,fa,hgt,bx0,hc⟩:=Fw.geta (hw ⟨11,.data⟩ (by simp) rfl) (by decide);obtain ⟨c0,c1,c2,c3,c4,c5,rfl⟩:=arr6 hc;have q:=six_cells bx0;have BXX:=Lib.hid bx0;have FA:=Lib.hid fa;clear bx0 hc;unfold thing at f;clear hL hC hk hw;refine spD rfl ?_;go_simp;exact sm SS.out BEG.out BXX.out hgt FA.out
    all_goals (have c:=kn7 hC;clear hL hC hk hw;refine spD rfl ?_;go_simp;first | exact sv rfl ⟨rfl,trivial⟩ | exact ⟨_,rfl,sv rfl ⟨rfl,trivial⟩⟩)
  have S1:=Lib.hid hB.1
  simp only [allF,vsP,pw,true_and,and_true,Nat.reduceAdd] at hall
  obtain ⟨gt1,fa,hgt,bx⟩:=hfin
  simp only [TL,Act.put,qA,qC,qZ,hall,fa]
  replace SS:=Lib.hid (SS.out.push BEG.out hB.st SS.out.lt hgt bx)
  clear hall vals hB fa hgt bx
  have I1:=Lib.hid (H1.out ce1 S1.out)
  have SX:=SS.out
  rw [I1.out] at SX
  replace SS:=Lib.hid SX
  clear SX
  have EN:=Lib.hid (show (q.n=0)=False from eq_false HN.out)
  have EW:=Lib.hid (show (q.wt=0)=True from eq_true HW.out)
  go_upto_region 4 with fail
  refine wp_SG0 (D:=DP w g q v base i p l seen (oOffer q) Rp.enc) 9 12 10 11 (seen[i + 1 + 1]?=some ce2) (i + 1 + 1 + 1) #[.int .u64 ce2.vA,.int .u64 ce2.vB,.int .u8 1,.int .u32 q.wh,.int .u32 0,.bool ce2.is] [pw g 0,pw g 0,pw g 7,pw g 0,pw g 0,pw g 0,pw g 1,some (.int .u32 q.wh,True),some (.agg #[.int .u8 1,.int .u32 q.wh,.int .u32 0],True),some (.agg (thing ce2.vA ce2.vB 1 q.wh 0 ce2.is),True),none,none] SS.out BEG.out (fun vals=>?_) (fun vals W4 hB hfin htold hall=>?_) (ea 10 rfl)
  · simp only [ObD,Act.put,qA,qC,qZ]
    refine ⟨?_,?_,?_,?_,?_,?_,?_,?_,?o3_8,?o3_9,?o3_10,?o3_11,trivial⟩
    all_goals (intro L W hL hk hC hw;have f:=depsG hw rfl rfl rfl;simp only [depF,vsP,pw,qS,qD,and_true,true_and] at f)
    case o3_8=>have CL:=Lib.hid (purse_any q.wh W);clear hL hC hk hw;refine spD rfl ?_;go_simp;(with_reducible refine CL.out.mono ?_);rintro e w8 ⟨rfl,h2⟩;first | exact gq h2 rfl ⟨rfl,trivial⟩ | exact ⟨_,rfl,gq h2 rfl ⟨rfl,trivial⟩⟩
    case o3_9=>
      have CL:=Lib.hid (look_KG (hC.pre hk) BEG.out (by have:=HI.out;omega) CE2.out 1 q.wh 0);clear hL hC hk hw;refine spD rfl ?_;go_simp;(with_reducible refine CL.out.mono ?_);rintro e w8 (⟨h,rfl,h2⟩ | ⟨h1,rfl,hf,H⟩)
      · exact ⟨_,rfl,Did.miss (by unfold oOffer;simp only [runOm_bind,run_there S0.out.1 S0.out.2,oSide_n (HC.out ce0 S0.out.1),runOm_pure,run_look S1.out,I1.out,EN.out,EW.out,and_true,true_and,and_false,false_and,or_true,true_or,or_false,false_or,not_true_eq_false,not_false_eq_true,ne_eq,if_true,if_false,Bool.false_eq_true,run_look_no h]) h2⟩
      · first | exact gk hf H rfl ⟨rfl,trivial⟩ | exact ⟨_,rfl,gk hf H rfl ⟨rfl,trivial⟩⟩
    case o3_10=>have ZZ:=hC.fr.size;unfold thing at f;clear hL hC hk hw;refine spD rfl ?_;go_simp;first | exact gm0 ZZ | exact ⟨_,rfl,gm0 ZZ⟩
    case o3_11=>clear hL hC hk hw;refine spD rfl ?_;go_simp;first | exact gt_ | exact ⟨_,rfl,gt_⟩
    all_goals (have c:=kg7 hC;clear hL hC hk hw;refine spD rfl ?_;go_simp;first | exact gv rfl ⟨rfl,trivial⟩ | exact ⟨_,rfl,gv rfl ⟨rfl,trivial⟩⟩)
  have S2:=Lib.hid hB.1
  simp only [allF,vsP,pw,true_and,and_true,Nat.reduceAdd] at hall
  obtain ⟨gl,fs,hor,bx⟩:=hfin
  rw [fs] at htold
  simp only [TL,Act.put,qA,qC,qZ,hall,htold,fs]
  replace SS:=Lib.hid (SS.out.pushP BEG.out hB.st SS.out.lt hor (Pile.of_box (n:=1) bx rfl (by decide)))
  clear hall vals hB htold fs hor bx
  have y0:W4.cell? ⟨g,3,none⟩=some (.int .u32 q.wt):=SS.out.kn.c3
  have y1:W4.cell? ⟨g,5,none⟩=some (.int .u64 q.n):=SS.out.kn.c5
  have y2:W4.cell? ⟨gt1,1,none⟩=some (.int .u64 ce1.vB):=SS.out.bx.2.1.out.cell 1
  have y3:W4.cell? ⟨gt1,5,none⟩=some (.bool false):=SS.out.bx.2.1.out.cell 5
  have b0:(q.n == 0)=false:=by have:=HN.out;simpa using this
  have b1:(q.n != 0)=true:=by have:=HN.out;simpa using this
  have b2:(q.wt == 0)=true:=by have:=HW.out;simpa using this
  have b3:(q.wt != 0)=false:=by have:=HW.out;simpa using this
  have cv0:IntKind.u64.wrap q.wt=q.wt:=wrap_u64 HQ.out.wt.1 (by have:=HQ.out.wt;omega)
  go_upto_region 17 with fail
  clear cv0 y0 y1 y2 y3 b0 b1 b2 b3
  refine wp_S (D:=DP w g q v base i p l seen (oOffer q) Rp.enc) 17 18 19 (SB True False w g q v base p (i + 1 + 1 + 1) p l [.pile gl 1 1 #[.int .u64 (ce2.vA - q.n),.int .u64 ce2.vB,.int .u8 1,.int .u32 q.wh,.int .u32 0,.bool ce2.is],.box gt1 #[.int .u64 ce1.vA,.int .u64 ce1.vB,.int .u8 5,.int .u32 q.id,.int .u32 n,.bool false] 130,.box gt0 #[.int .u64 ce0.A,.int .u64 ce0.B,.int .u8 4,.int .u32 q.id,.int .u32 0,.bool true] 130,.box w.heap.size #[.int .u16 0,.int .u64 0,.int .u64 0,.int .u64 0] 35]) [some (.slice (some ⟨gl,0,none⟩) 1 1,True),some (.int .i64 0,True),some (.slice (some ⟨gl,0,none⟩) 1 1,True),some (.int .i64 0,True),some (.pointer (some ⟨gl,0,none⟩),True),some (.pointer (some ⟨gl,0,none⟩),True),some (.pointer (some ⟨gl,0,none⟩),True),some (.int .u64 ce2.vA,True),pw g 0,pw g 0,pw g 0,pw g 5,some (.int .u64 q.n,True),some (.int .u64 (ce2.vA - q.n),Ls ce2.vA q.n),some (.pointer (some ⟨gl,0,none⟩),True),some (.pointer (some ⟨gl,0,none⟩),True),some (.pointer (some ⟨gl,0,none⟩),True),some (undef,True)] SS.out (fun vals=>?_) (fun vals W5 hB hall=>?_)
  · simp only [ObD,Act.put,qA,qC,qZ]
    refine ⟨?_,?_,?_,?_,?_,?_,?_,?o4_7,?_,?_,?_,?_,?_,?o4_13,?_,?_,?_,?o4_17,trivial⟩
    all_goals (intro L W hL hk hC hw;have f:=deps hw rfl rfl;simp only [depF,vsP,pw,qS,qD,and_true,true_and] at f)
    case' o4_7=>have k0:W.cell? ⟨gl,0,none⟩=some (.int .u64 ce2.vA):=(hC.pre (hL.not_yet hk 17 16 (by decide +kernel))).bx.1.out.cell 0
    case o4_13=>
      have CL:=Lib.hid (less_C (vA_ok HOK.out S2.out) HQ.out.n hC SS.out BEG.out);clear hL hC hk hw;refine spD rfl ?_;go_simp;(with_reducible refine CL.out.mono ?_)
      rintro e w8 (⟨h,rfl,h2⟩ | ⟨⟨h,h3⟩,rfl,h2⟩ | ⟨h1,rfl,h2⟩)
      · exact ⟨_,rfl,Did.err (by unfold oOffer;simp only [runOm_bind,run_there S0.out.1 S0.out.2,oSide_n (HC.out ce0 S0.out.1),runOm_pure,run_look S1.out,I1.out,EN.out,EW.out,and_true,true_and,and_false,false_and,or_true,true_or,or_false,false_or,not_true_eq_false,not_false_eq_true,ne_eq,if_true,if_false,Bool.false_eq_true,run_look S2.out,run_less_great h]) h2⟩
      · exact ⟨_,rfl,Did.err (by unfold oOffer;simp only [runOm_bind,run_there S0.out.1 S0.out.2,oSide_n (HC.out ce0 S0.out.1),runOm_pure,run_look S1.out,I1.out,EN.out,EW.out,and_true,true_and,and_false,false_and,or_true,true_or,or_false,false_or,not_true_eq_false,not_false_eq_true,ne_eq,if_true,if_false,Bool.false_eq_true,run_look S2.out,run_less_low h h3]) h2⟩
      · first | exact sq h2 rfl ⟨rfl,h1⟩ | exact ⟨_,rfl,sq h2 rfl ⟨rfl,h1⟩⟩
    case o4_17=>have PRE:=hC.pre hk;have q0:W.cell? ⟨gl,0,none⟩=some (.int .u64 ce2.vA):=PRE.bx.1.out.cell 0;have r0:=PRE.bx.1.out.frozen 0;have P:=Lib.hid PRE;clear PRE;clear hL hC hk hw;refine spD rfl ?_;go_simp;exact ks (ksP SS.out P.out BEG.out 0 rfl) rfl ⟨rfl,trivial⟩
    all_goals (have c:=kn7 hC;clear hL hC hk hw;refine spD rfl ?_;go_simp;first | exact sv rfl ⟨rfl,trivial⟩ | exact ⟨_,rfl,sv rfl ⟨rfl,trivial⟩⟩)
  have C5:Hid (Ls ce2.vA q.n):=Lib.hid (vsP_c (hall.get 13))
  simp only [allF,vsP,pw,true_and,and_true,Nat.reduceAdd] at hall
  simp only [TL,Act.put,qA,qC,qZ,hall]
  replace SS:=Lib.hid hB.st
  clear hall vals hB
  have b0:(q.n == 0)=false:=by have:=HN.out;simpa using this
  have b1:(q.n != 0)=true:=by have:=HN.out;simpa using this
  have b2:(q.wt == 0)=true:=by have:=HW.out;simpa using this
  have b3:(q.wt != 0)=false:=by have:=HW.out;simpa using this
  have cv0:IntKind.u64.wrap q.wt=q.wt:=wrap_u64 HQ.out.wt.1 (by have:=HQ.out.wt;omega)
  go_wp2
  clear cv0 b0 b1 b2 b3
  refine wp_loop_rounds 2 ?_
  obtain ⟨y0,y1,y2,y3,y4,y5⟩:=pile6 SS.out.bx.1.out 0 1 2 3 4 5 rfl rfl rfl rfl rfl rfl
  rw [rounds_succ]
  obtain ⟨W6,hWn⟩:∃ W6,W5.alloc (.cells #[.int .u64 (ce2.vA - q.n),.int .u64 ce2.vB,.int .u8 1,.int .u32 q.wh,.int .u32 0,.bool ce2.is] 130)=W6:=⟨_,rfl⟩
  obtain ⟨gq0,hgn⟩:∃ gq0,W5.heap.size=gq0:=⟨_,rfl⟩
  have TT:=SS.out.alloc BEG.out #[.int .u64 (ce2.vA - q.n),.int .u64 ce2.vB,.int .u8 1,.int .u32 q.wh,.int .u32 0,.bool ce2.is] 130
  rw [hgn,hWn] at TT
  replace TT:=Lib.hid TT
  have HWN:=Lib.hid hWn
  have HGN:=Lib.hid hgn
  clear hWn hgn
  go_wp2_with fail
  clear y0 y1 y2 y3 y4 y5
  try rw [HWN.out]
  try rw [HGN.out]
  clear HWN HGN SS
  have SS:=TT
  clear TT
  have CALL:=Lib.hid (amount_S SS.out BEG.out (by have:=HL.out;(try simp only [List.length_append,List.length_cons,List.length_nil]);omega) 1 q.wh 0 (ce2.vA - q.n) (show _=l++[amt 1 q.wh 0 (ce2.vA - q.n)] by simp))
  (with_reducible refine CALL.out.mono ?_)
  rintro e W7 ⟨rfl,hf,p7,hs⟩
  replace SS:=Lib.hid hs
  clear CALL hf hs
  go_wp2
  replace SS:=Lib.hid SS.out.drop
  replace SS:=Lib.hid SS.out.drop
  rw [rounds_succ]
  have y0:W7.cell? ⟨g,5,none⟩=some (.int .u64 q.n):=SS.out.kn.c5
  have b0:(q.n == 0)=false:=by have:=HN.out;simpa using this
  have b1:(q.n != 0)=true:=by have:=HN.out;simpa using this
  have b2:(q.wt == 0)=true:=by have:=HW.out;simpa using this
  have b3:(q.wt != 0)=false:=by have:=HW.out;simpa using this
  have cv0:IntKind.u64.wrap q.wt=q.wt:=wrap_u64 HQ.out.wt.1 (by have:=HQ.out.wt;omega)
  go_upto_region 25 with fail
  clear cv0 y0 b0 b1 b2 b3
  refine wp_SA (D:=DP w g q v base i p l seen (oOffer q) Rp.enc) 15 16 17 True True (i + 1 + 1 + 1) (l++[amt 1 q.wh 0 (ce2.vA - q.n),Pu.mk 5 q.id n q.n q.wt false]) [pw g 0,some (.pointer (some ⟨gt1,2,none⟩),True),some (.agg #[.int .u8 5,.int .u32 q.id,.int .u32 n],True),pw g 0,pw g 0,pw g 0,pw g 5,some (.int .u64 q.n,True),pw g 0,pw g 0,pw g 0,pw g 3,some (.int .u32 q.wt,True),some (.int .u64 q.wt,True),some (.agg #[.int .u64 q.n,.int .u64 q.wt],True),some (.tuple #[],True)] SS.out (fun vals=>?_) (fun vals W8 hB hall=>?_)
  · simp only [ObD,Act.put,qA,qC,qZ]
    refine ⟨?_,?_,?o7_2,?_,?_,?_,?_,?_,?_,?_,?_,?_,?_,?o7_13,?_,?o7_15,trivial⟩
    all_goals (intro L W hL hk hC hw;have f:=deps hw rfl rfl;simp only [depF,vsP,pw,qS,qD,and_true,true_and] at f)
    case' o7_2=>have k2:W.cell? ⟨gt1,2,none⟩=some (.int .u8 5):=(cw_bx hC).1.out.cell 2;have k3:W.cell? ⟨gt1,3,none⟩=some (.int .u32 q.id):=(cw_bx hC).1.out.cell 3;have k4:W.cell? ⟨gt1,4,none⟩=some (.int .u32 n):=(cw_bx hC).1.out.cell 4
    case' o7_13=>have hcv:IntKind.u64.wrap q.wt=q.wt:=wrap_u64 (HQ.out.wt).1 (by have:=(HQ.out.wt).2;omega)
    case o7_15=>have CL:=Lib.hid (pk SS.out BEG.out (put_S (hC.pre hk) BEG.out (by have:=HL.out;(try simp only [List.length_append,List.length_cons,List.length_nil]);omega) 5 q.id n q.n q.wt (show _=l++[amt 1 q.wh 0 (ce2.vA - q.n),Pu.mk 5 q.id n q.n q.wt false] by simp)));clear hL hC hk hw;refine spD rfl ?_;go_simp;(with_reducible refine CL.out.mono ?_);rintro e w8 ⟨rfl,hf,H⟩;first | exact kv hf H rfl ⟨rfl,trivial⟩ | exact ⟨_,rfl,kv hf H rfl ⟨rfl,trivial⟩⟩
    all_goals (have c:=kn7 hC;clear hL hC hk hw;refine spD rfl ?_;go_simp;first | exact sv rfl ⟨rfl,trivial⟩ | exact ⟨_,rfl,sv rfl ⟨rfl,trivial⟩⟩)
  simp only [allF,vsP,pw,true_and,and_true,Nat.reduceAdd] at hall
  simp only [TL,Act.put,qA,qC,qZ,hall]
  obtain ⟨p8,hB⟩:=hB.put
  replace SS:=Lib.hid hB
  clear hall vals hB
  obtain ⟨⟨y0,y1,y2,y3,y4,y5⟩,-⟩:=six_cells SS.out.bx.2.1.out
  have CALL:=Lib.hid (put_S SS.out BEG.out (by have:=HL.out;(try simp only [List.length_append,List.length_cons,List.length_nil]);omega) 4 q.id 0 ce0.A 0 (show _=l++[amt 1 q.wh 0 (ce2.vA - q.n),Pu.mk 5 q.id n q.n q.wt false,Pu.mk 4 q.id 0 ce0.A 0 false] by simp))
  go_wp2_with fail
  (with_reducible refine CALL.out.mono ?_)
  rintro e W9 ⟨rfl,hf,p9,hs⟩
  replace SS:=Lib.hid hs
  clear CALL hf hs y0 y1 y2 y3 y4 y5
  have y0:W9.cell? ⟨g,5,none⟩=some (.int .u64 q.n):=SS.out.kn.c5
  obtain ⟨⟨z0,z1,z2,z3⟩,x0,x1,x2,x3⟩:=four_cells SS.out.bx.2.2.1.out
  go_wp2
  generalize hW:(World.setCell _ (⟨w.heap.size,3,none⟩:Addr) _)=WZ
  have b9:Box WZ w.heap.size #[.int .u16 0,.int .u64 q.n,.int .u64 0,.int .u64 0] 35:=by
    rw [← hW]
    exact four_box SS.out.bx.2.2.1.out
  have F9:Hid (Fr (fun x=>x=w.heap.size) W9 WZ):=Lib.hid (by
    rw [← hW]
    exact four_fr)
  obtain ⟨⟨v0,v1,v2,v3⟩,-⟩:=four_cells b9
  clear hW b9 z0 z1 z2 z3 x0 x1 x2 x3 y0
  refine bodyPost_ret (v:=.agg #[.int .u16 0,.int .u64 q.n,.int .u64 0,.int .u64 0]) (by simp [results,Tryz.results70,go_sem,v0,v1,v2,v3];try rfl) rfl ?_
  refine (SS.out.wr BEG.out 2 rfl F9.out).did (y:=(⟨q.n,0,0⟩,l++[amt 1 q.wh 0 (ce2.vA - q.n),Pu.mk 5 q.id n q.n q.wt false,Pu.mk 4 q.id 0 ce0.A 0 false])) ?_ rfl
  unfold oOffer
  simp only [runOm_bind,runOm_pure,run_there S0.out.1 S0.out.2,oSide_n (HC.out ce0 S0.out.1),runOm_pure,run_look S1.out,I1.out,EN.out,EW.out,and_true,true_and,and_false,false_and,or_true,true_or,or_false,false_or,not_true_eq_false,not_false_eq_true,ne_eq,if_true,if_false,Bool.false_eq_true,run_look S2.out,run_less C5.out.1 C5.out.2,oAmount,run_put,run_put,run_put,List.append_assoc,List.cons_append,List.nil_append]
  try rfl
theorem offer_no_item (w:World) (g:Nat) (q:Ot) (v:Value) (base i:Nat) (p:Value) (l:List Pu) (seen:List Ce) (hst:St w g q v base i p l) (hs:SeenAt w g v seen) (hg:g < base) (hbase:base≤w.heap.size) (hl:l.length≤700) (hi:i≤700000) (hq:q.Ok) (hok:∀ c∈seen,c.Ok) (n:Int) (hc:∀ c,seen[i]?=some c→(q.wh=hi32 c.A∧n=0)∨(q.wh≠hi32 c.A∧q.wh=lo32 c.A∧n=1)) (h1:∀ c,seen[i + 1]?=some c→c.is=false) (hn:q.n≠0) (hw:q.wt≠0) :
    Calls Tryz.prog 70 #[.pointer (some ⟨g,0,none⟩)] w (Did w g q v base i p l seen (oOffer q) Rp.enc):=by
  have BEG:=Lib.hid (Begin.mk hs hg hbase hq hok (fun x hx=>hst.own.lt x hx))
  obtain ⟨W0,hW0⟩:∃ W0,w.alloc (.cells #[.int .u16 0,.int .u64 0,.int .u64 0,.int .u64 0] 35)=W0:=⟨_,rfl⟩
  have SS:Hid (ST w g q v base p i p l [.box w.heap.size #[.int .u16 0,.int .u64 0,.int .u64 0,.int .u64 0] 35] W0):=Lib.hid (by rw [← hW0];exact ST.start hst BEG.out _ _)
  have HI:=Lib.hid hi
  have HQ:=Lib.hid hq
  have HOK:=Lib.hid hok
  have HL:=Lib.hid hl
  have HC:=Lib.hid hc
  have H1:=Lib.hid h1
  have HN:=Lib.hid hn
  have HW:=Lib.hid hw
  obtain ⟨ce0,hce0⟩:=the_cell seen (i)
  have CE0:=Lib.hid hce0
  obtain ⟨ce1,hce1⟩:=the_cell seen (i + 1)
  have CE1:=Lib.hid hce1
  obtain ⟨ce2,hce2⟩:=the_cell seen (i + 1 + 1)
  have CE2:=Lib.hid hce2
  obtain ⟨ce3,hce3⟩:=the_cell seen (i + 1 + 1 + 1)
  have CE3:=Lib.hid hce3
  clear hst hs hg hbase hl hi hq hok hc h1 hn hw hce0 hce1 hce2 hce3
  go_enter Tryz.func70,Tryz.ntmps70
  go_upto_region 1 with fail
  try rw [hW0]
  clear hW0
  refine wp_SK (D:=DP w g q v base i p l seen (oOffer q) Rp.enc) 9 10 11 (seen[i]?=some ce0∧ce0.is=true) (i + 1) #[.int .u64 ce0.A,.int .u64 ce0.B,.int .u8 4,.int .u32 q.id,.int .u32 0,.bool true] [pw g 0,pw g 0,pw g 7,pw g 0,pw g 0,pw g 0,pw g 4,some (.int .u32 q.id,True),some (.agg #[.int .u8 4,.int .u32 q.id,.int .u32 0],True),some (.agg (thing ce0.A ce0.B 4 q.id 0 true),True),none,none] SS.out (fun vals=>?_) (fun vals W1 hB hfin hall=>?_) (ea 10 rfl)
  · simp only [ObD,Act.put,qA,qC,qZ]
    refine ⟨?_,?_,?_,?_,?_,?_,?_,?_,?o0_8,?o0_9,?o0_10,?o0_11,trivial⟩
    all_goals (intro L W hL hk hC hw;have f:=deps hw rfl rfl;simp only [depF,vsP,pw,qS,qD,and_true,true_and] at f)
    case o0_8=>have CL:=Lib.hid (trade_any q.id W);clear hL hC hk hw;refine spD rfl ?_;go_simp;(with_reducible refine CL.out.mono ?_);rintro e w8 ⟨rfl,h2⟩;first | exact sq h2 rfl ⟨rfl,trivial⟩ | exact ⟨_,rfl,sq h2 rfl ⟨rfl,trivial⟩⟩
    case o0_9=>
      have CL:=Lib.hid (there_K SS.out (hC.pre hk) BEG.out (by have:=HI.out;omega) CE0.out 4 q.id 0);clear hL hC hk hw;refine spD rfl ?_;go_simp;(with_reducible refine CL.out.mono ?_);rintro e w8 (⟨h,rfl,h2⟩ | ⟨h,h3,rfl,h2⟩ | ⟨rfl,hf,H⟩)
      · exact ⟨_,rfl,Did.miss (by unfold oOffer;simp only [runOm_bind,run_there_no h]) h2⟩
      · exact ⟨_,rfl,Did.err (by unfold oOffer;simp only [runOm_bind,run_there_not h h3]) h2⟩
      · first | exact kv hf H rfl ⟨rfl,trivial⟩ | exact ⟨_,rfl,kv hf H rfl ⟨rfl,trivial⟩⟩
    case o0_10=>have ZZ:=hC.fr.size;clear hL hC hk hw;refine spD rfl ?_;go_simp;exact am ZZ
    case o0_11=>obtain ⟨gt,C,fa,hgt,bx0,hc⟩:=Fw.geta (hw ⟨10,.data⟩ (by simp) rfl) (by decide);obtain ⟨c0,c1,c2,c3,c4,c5,rfl⟩:=arr6 hc;have q:=six_cells bx0;have BXX:=Lib.hid bx0;have FA:=Lib.hid fa;clear bx0 hc;unfold thing at f;clear hL hC hk hw;refine spD rfl ?_;go_simp;exact sm SS.out BEG.out BXX.out hgt FA.out
    all_goals (have c:=kn7 hC;clear hL hC hk hw;refine spD rfl ?_;go_simp;first | exact sv rfl ⟨rfl,trivial⟩ | exact ⟨_,rfl,sv rfl ⟨rfl,trivial⟩⟩)
  have S0:=Lib.hid hB.1
  simp only [allF,vsP,pw,true_and,and_true,Nat.reduceAdd] at hall
  obtain ⟨gt0,fa,hgt,bx⟩:=hfin
  simp only [TL,Act.put,qA,qC,qZ,hall,fa]
  replace SS:=Lib.hid (SS.out.push BEG.out hB.st SS.out.lt hgt bx)
  clear hall vals hB fa hgt bx
  obtain ⟨⟨y0,y1,y2,y3,y4,y5⟩,-⟩:=six_cells SS.out.bx.1.out
  have CALL:=Lib.hid (side_n W1 g q v (i + 1:Nat) p SS.out.run.out.st.wb ce0.A ce0.B 4 q.id 0 true (A_ok HOK.out S0.out.1) n (HC.out ce0 S0.out.1))
  unfold thing at CALL
  go_wp2_with fail
  (with_reducible refine CALL.out.mono ?_)
  rintro e W2 ⟨rfl,hbl⟩
  clear CALL y0 y1 y2 y3 y4 y5
  replace SS:=Lib.hid (SS.out.later hbl)
  clear hbl
  go_upto_region 3 with fail
  refine wp_SK (D:=DP w g q v base i p l seen (oOffer q) Rp.enc) 10 11 12 (seen[i + 1]?=some ce1) (i + 1 + 1) #[.int .u64 ce1.vA,.int .u64 ce1.vB,.int .u8 5,.int .u32 q.id,.int .u32 n,.bool ce1.is] [pw g 0,pw g 0,pw g 7,pw g 0,pw g 0,pw g 0,pw g 4,some (.int .u32 q.id,True),some (.int .u32 n,True),some (.agg #[.int .u8 5,.int .u32 q.id,.int .u32 n],True),some (.agg (thing ce1.vA ce1.vB 5 q.id n ce1.is),True),none,none] SS.out (fun vals=>?_) (fun vals W3 hB hfin hall=>?_) (ea 11 rfl)
  · simp only [ObD,Act.put,qA,qC,qZ]
    refine ⟨?_,?_,?_,?_,?_,?_,?_,?_,?_,?o2_9,?o2_10,?o2_11,?o2_12,trivial⟩
    all_goals (intro L W hL hk hC hw;have f:=deps hw rfl rfl;simp only [depF,vsP,pw,qS,qD,and_true,true_and] at f)
    case o2_9=>have CL:=Lib.hid (offer_any q.id n W);clear hL hC hk hw;refine spD rfl ?_;go_simp;(with_reducible refine CL.out.mono ?_);rintro e w8 ⟨rfl,h2⟩;first | exact sq h2 rfl ⟨rfl,trivial⟩ | exact ⟨_,rfl,sq h2 rfl ⟨rfl,trivial⟩⟩
    case o2_10=>
      have CL:=Lib.hid (look_K SS.out (hC.pre hk) BEG.out (by have:=HI.out;omega) CE1.out 5 q.id n);clear hL hC hk hw;refine spD rfl ?_;go_simp;(with_reducible refine CL.out.mono ?_);rintro e w8 (⟨h,rfl,h2⟩ | ⟨h1,rfl,hf,H⟩)
      · exact ⟨_,rfl,Did.miss (by unfold oOffer;simp only [runOm_bind,run_there S0.out.1 S0.out.2,oSide_n (HC.out ce0 S0.out.1),runOm_pure,run_look_no h]) h2⟩
      · first | exact kv hf H rfl ⟨rfl,trivial⟩ | exact ⟨_,rfl,kv hf H rfl ⟨rfl,trivial⟩⟩
    case o2_11=>have ZZ:=hC.fr.size;clear hL hC hk hw;refine spD rfl ?_;go_simp;exact am ZZ
    case o2_12=>obtain ⟨gt,C,fa,hgt,bx0,hc⟩:=Fw.geta (hw ⟨11,.data⟩ (by simp) rfl) (by decide);obtain ⟨c0,c1,c2,c3,c4,c5,rfl⟩:=arr6 hc;have q:=six_cells bx0;have BXX:=Lib.hid bx0;have FA:=Lib.hid fa;clear bx0 hc;unfold thing at f;clear hL hC hk hw;refine spD rfl ?_;go_simp;exact sm SS.out BEG.out BXX.out hgt FA.out
    all_goals (have c:=kn7 hC;clear hL hC hk hw;refine spD rfl ?_;go_simp;first | exact sv rfl ⟨rfl,trivial⟩ | exact ⟨_,rfl,sv rfl ⟨rfl,trivial⟩⟩)
  have S1:=Lib.hid hB.1
  simp only [allF,vsP,pw,true_and,and_true,Nat.reduceAdd] at hall
  obtain ⟨gt1,fa,hgt,bx⟩:=hfin
  simp only [TL,Act.put,qA,qC,qZ,hall,fa]
  replace SS:=Lib.hid (SS.out.push BEG.out hB.st SS.out.lt hgt bx)
  clear hall vals hB fa hgt bx
  have I1:=Lib.hid (H1.out ce1 S1.out)
  have SX:=SS.out
  rw [I1.out] at SX
  replace SS:=Lib.hid SX
  clear SX
  have EN:=Lib.hid (show (q.n=0)=False from eq_false HN.out)
  have EW:=Lib.hid (show (q.wt=0)=False from eq_false HW.out)
  go_upto_region 4 with fail
  refine wp_SG0 (D:=DP w g q v base i p l seen (oOffer q) Rp.enc) 9 12 10 11 (seen[i + 1 + 1]?=some ce2) (i + 1 + 1 + 1) #[.int .u64 ce2.vA,.int .u64 ce2.vB,.int .u8 1,.int .u32 q.wh,.int .u32 0,.bool ce2.is] [pw g 0,pw g 0,pw g 7,pw g 0,pw g 0,pw g 0,pw g 1,some (.int .u32 q.wh,True),some (.agg #[.int .u8 1,.int .u32 q.wh,.int .u32 0],True),some (.agg (thing ce2.vA ce2.vB 1 q.wh 0 ce2.is),True),none,none] SS.out BEG.out (fun vals=>?_) (fun vals W4 hB hfin htold hall=>?_) (ea 10 rfl)
  · simp only [ObD,Act.put,qA,qC,qZ]
    refine ⟨?_,?_,?_,?_,?_,?_,?_,?_,?o3_8,?o3_9,?o3_10,?o3_11,trivial⟩
    all_goals (intro L W hL hk hC hw;have f:=depsG hw rfl rfl rfl;simp only [depF,vsP,pw,qS,qD,and_true,true_and] at f)
    case o3_8=>have CL:=Lib.hid (purse_any q.wh W);clear hL hC hk hw;refine spD rfl ?_;go_simp;(with_reducible refine CL.out.mono ?_);rintro e w8 ⟨rfl,h2⟩;first | exact gq h2 rfl ⟨rfl,trivial⟩ | exact ⟨_,rfl,gq h2 rfl ⟨rfl,trivial⟩⟩
    case o3_9=>
      have CL:=Lib.hid (look_KG (hC.pre hk) BEG.out (by have:=HI.out;omega) CE2.out 1 q.wh 0);clear hL hC hk hw;refine spD rfl ?_;go_simp;(with_reducible refine CL.out.mono ?_);rintro e w8 (⟨h,rfl,h2⟩ | ⟨h1,rfl,hf,H⟩)
      · exact ⟨_,rfl,Did.miss (by unfold oOffer;simp only [runOm_bind,run_there S0.out.1 S0.out.2,oSide_n (HC.out ce0 S0.out.1),runOm_pure,run_look S1.out,I1.out,EN.out,EW.out,and_true,true_and,and_false,false_and,or_true,true_or,or_false,false_or,not_true_eq_false,not_false_eq_true,ne_eq,if_true,if_false,Bool.false_eq_true,run_look_no h]) h2⟩
      · first | exact gk hf H rfl ⟨rfl,trivial⟩ | exact ⟨_,rfl,gk hf H rfl ⟨rfl,trivial⟩⟩
    case o3_10=>have ZZ:=hC.fr.size;unfold thing at f;clear hL hC hk hw;refine spD rfl ?_;go_simp;first | exact gm0 ZZ | exact ⟨_,rfl,gm0 ZZ⟩
    case o3_11=>clear hL hC hk hw;refine spD rfl ?_;go_simp;first | exact gt_ | exact ⟨_,rfl,gt_⟩
    all_goals (have c:=kg7 hC;clear hL hC hk hw;refine spD rfl ?_;go_simp;first | exact gv rfl ⟨rfl,trivial⟩ | exact ⟨_,rfl,gv rfl ⟨rfl,trivial⟩⟩)
  have S2:=Lib.hid hB.1
  simp only [allF,vsP,pw,true_and,and_true,Nat.reduceAdd] at hall
  obtain ⟨gl,fs,hor,bx⟩:=hfin
  rw [fs] at htold
  simp only [TL,Act.put,qA,qC,qZ,hall,htold,fs]
  replace SS:=Lib.hid (SS.out.pushP BEG.out hB.st SS.out.lt hor (Pile.of_box (n:=1) bx rfl (by decide)))
  clear hall vals hB htold fs hor bx
  have y0:W4.cell? ⟨g,3,none⟩=some (.int .u32 q.wt):=SS.out.kn.c3
  have y1:W4.cell? ⟨g,5,none⟩=some (.int .u64 q.n):=SS.out.kn.c5
  have y2:W4.cell? ⟨gt1,1,none⟩=some (.int .u64 ce1.vB):=SS.out.bx.2.1.out.cell 1
  have y3:W4.cell? ⟨gt1,5,none⟩=some (.bool false):=SS.out.bx.2.1.out.cell 5
  have b0:(q.n == 0)=false:=by have:=HN.out;simpa using this
  have b1:(q.n != 0)=true:=by have:=HN.out;simpa using this
  have b2:(q.wt == 0)=false:=by have:=HW.out;simpa using this
  have b3:(q.wt != 0)=true:=by have:=HW.out;simpa using this
  have cv0:IntKind.u64.wrap q.wt=q.wt:=wrap_u64 HQ.out.wt.1 (by have:=HQ.out.wt;omega)
  go_upto_region 12 with fail
  clear cv0 y0 y1 y2 y3 b0 b1 b2 b3
  have y0:W4.cell? ⟨g,3,none⟩=some (.int .u32 q.wt):=SS.out.kn.c3
  have y1:W4.cell? ⟨gt1,1,none⟩=some (.int .u64 ce1.vB):=SS.out.bx.2.1.out.cell 1
  have b0:(q.n == 0)=false:=by have:=HN.out;simpa using this
  have b1:(q.n != 0)=true:=by have:=HN.out;simpa using this
  have b2:(q.wt == 0)=false:=by have:=HW.out;simpa using this
  have b3:(q.wt != 0)=true:=by have:=HW.out;simpa using this
  have cv0:IntKind.u64.wrap q.wt=q.wt:=wrap_u64 HQ.out.wt.1 (by have:=HQ.out.wt;omega)
  go_quiet (fail)
  have hbl:Below W4.heap.size W4 (W4.drewN nq):=below_drewN (Below.refl _ _) nq
  generalize W4.drewN nq=W5 at hbl ⊢
  clear cv0 y0 y1 b0 b1 b2 b3
  replace SS:=Lib.hid (SS.out.later hbl)
  clear hbl
  go_upto_region 10 with fail
  refine wp_SGO (D:=DP w g q v base i p l seen (oOffer q) Rp.enc) 15 16 17 18 2 (SB (seen[i + 1 + 1 + 1]?=some ce3) False w g q v base p (i + 1 + 1 + 1 + 1) p l [.box gt1 #[.int .u64 ce1.vA,.int .u64 ce1.vB,.int .u8 5,.int .u32 q.id,.int .u32 n,.bool false] 130,.box gt0 #[.int .u64 ce0.A,.int .u64 ce0.B,.int .u8 4,.int .u32 q.id,.int .u32 0,.bool true] 130,.box w.heap.size #[.int .u16 0,.int .u64 0,.int .u64 0,.int .u64 0] 35]) #[.int .u64 ce3.vA,.int .u64 ce3.vB,.int .u8 3,.int .u32 q.wh,.int .u32 q.wt,.bool ce3.is] #[.int .u64 ce2.vA,.int .u64 ce2.vB,.int .u8 1,.int .u32 q.wh,.int .u32 0,.bool ce2.is,.int .u64 ce3.vA,.int .u64 ce3.vB,.int .u8 3,.int .u32 q.wh,.int .u32 q.wt,.bool ce3.is] [some (.slice (some ⟨gl,0,none⟩) 1 1,True),pw g 0,pw g 0,pw g 7,pw g 0,pw g 0,pw g 0,pw g 1,some (.int .u32 q.wh,True),pw g 0,pw g 0,pw g 0,pw g 3,some (.int .u32 q.wt,True),some (.agg #[.int .u8 3,.int .u32 q.wh,.int .u32 q.wt],True),some (.agg (thing ce3.vA ce3.vB 3 q.wh q.wt ce3.is),True),none,none,none] 0 SS.out BEG.out rfl rfl (fun vals=>?_) (fun vals W6 hB hfin htold hall=>?_) (ea 16 rfl) (ea 17 rfl)
  · simp only [ObD,Act.put,qA,qC,qZ]
    refine ⟨?_,?_,?_,?_,?_,?_,?_,?_,?_,?_,?_,?_,?_,?_,?o5_14,?o5_15,?o5_16,?o5_17,?o5_18,trivial⟩
    all_goals (intro L W hL hk hC hw;have f:=depsG hw rfl rfl rfl;simp only [depF,vsP,pw,qS,qD,and_true,true_and] at f)
    case o5_14=>have CL:=Lib.hid (stack_any q.wh q.wt W);clear hL hC hk hw;refine spD rfl ?_;go_simp;(with_reducible refine CL.out.mono ?_);rintro e w8 ⟨rfl,h2⟩;first | exact gq h2 rfl ⟨rfl,trivial⟩ | exact ⟨_,rfl,gq h2 rfl ⟨rfl,trivial⟩⟩
    case o5_15=>
      have CL:=Lib.hid (look_KG (hC.pre hk) BEG.out (by have:=HI.out;omega) CE3.out 3 q.wh q.wt);clear hL hC hk hw;refine spD rfl ?_;go_simp;(with_reducible refine CL.out.mono ?_);rintro e w8 (⟨h,rfl,h2⟩ | ⟨h1,rfl,hf,H⟩)
      · exact ⟨_,rfl,Did.miss (by unfold oOffer;simp only [runOm_bind,run_there S0.out.1 S0.out.2,oSide_n (HC.out ce0 S0.out.1),runOm_pure,run_look S1.out,I1.out,EN.out,EW.out,and_true,true_and,and_false,false_and,or_true,true_or,or_false,false_or,not_true_eq_false,not_false_eq_true,ne_eq,if_true,if_false,Bool.false_eq_true,run_look S2.out,run_look_no h]) h2⟩
      · first | exact gk hf H rfl ⟨rfl,trivial⟩ | exact ⟨_,rfl,gk hf H rfl ⟨rfl,trivial⟩⟩
    case o5_16=>have ZZ:=hC.fr.size;unfold thing at f;clear hL hC hk hw;refine spD rfl ?_;go_simp;first | exact gm1 ZZ | exact ⟨_,rfl,gm1 ZZ⟩
    case o5_17=>
      have GZ:=hC.fr.size;have fm:vals 0=.slice (some ⟨gl,0,none⟩) 1 1:=(Fg.get (f:=vsP (some (.slice (some ⟨gl,0,none⟩) 1 1,True))) (hw ⟨0,.data⟩ (by simp) rfl) (by decide) (by decide) (by decide) rfl).1;obtain ⟨gb,fa,hgb,bxb⟩:=Fg.geta (hw ⟨16,.data⟩ (by simp) rfl) (by decide) (by decide);have FA:=Lib.hid fa;have BXB:=Lib.hid bxb;obtain ⟨i0,hi0,hz0,hz1,hz2⟩:=info_parts thing_info;have GR:=Lib.hid (hC.row hk)
      clear hL hC hk hw
      refine step_append_lies _ (by rfl) _ _ _ (by rfl) gl 130 i0 _ 6 32 Tryz.underlying140 hi0 hz0 hz1 hz2 rfl (by omega) (.slice (some ⟨gl,0,none⟩) 1 1) 1 _ (Eq.trans (by rfl) fm) GR.out ⟨gb,0,none⟩ 1 1 [.int .u64 ce3.vA,.int .u64 ce3.vB,.int .u8 3,.int .u32 q.wh,.int .u32 q.wt,.bool ce3.is] (Eq.trans (by rfl) FA.out) rfl (World.news_of_block (cs:=#[.int .u64 ce3.vA,.int .u64 ce3.vB,.int .u8 3,.int .u32 q.wh,.int .u32 q.wt,.bool ce3.is]) (t:=130) (fr:=(0,0)) BXB.out) (by simp [Value.oneCell']) (by omega) (by unfold maxLen;omega) (by omega) (Nat.le_of_lt GR.out.lt) W.heap.size rfl ?_
      intro gg cc WQ hown1 hgrow hat hlt1
      exact ⟨_,rfl,ga SS.out BEG.out (n:=0) rfl rfl GR.out GZ (by simpa using hown1) hgrow hat⟩
    case o5_18=>clear hL hC hk hw;refine spD rfl ?_;go_simp;first | exact gt_ | exact ⟨_,rfl,gt_⟩
    all_goals (have c:=kg7 hC;clear hL hC hk hw;refine spD rfl ?_;go_simp;first | exact gv rfl ⟨rfl,trivial⟩ | exact ⟨_,rfl,gv rfl ⟨rfl,trivial⟩⟩)
  have S3:=Lib.hid hB.1
  simp only [allF,vsP,pw,true_and,and_true,Nat.reduceAdd] at hall
  obtain ⟨gn,cap_gn,fs,hor,bx⟩:=hfin
  rw [fs] at htold
  simp only [TL,Act.put,qA,qC,qZ,hall,htold,fs]
  generalize vals 16=vz5
  replace SS:=Lib.hid (SS.out.regrow BEG.out 0 rfl rfl hB.st hor bx)
  clear hall vals hB htold fs hor bx
  have y0:W6.cell? ⟨g,5,none⟩=some (.int .u64 q.n):=SS.out.kn.c5
  have y1:W6.cell? ⟨gt1,5,none⟩=some (.bool false):=SS.out.bx.2.1.out.cell 5
  have b0:(q.n == 0)=false:=by have:=HN.out;simpa using this
  have b1:(q.n != 0)=true:=by have:=HN.out;simpa using this
  have b2:(q.wt == 0)=false:=by have:=HW.out;simpa using this
  have b3:(q.wt != 0)=true:=by have:=HW.out;simpa using this
  have cv0:IntKind.u64.wrap q.wt=q.wt:=wrap_u64 HQ.out.wt.1 (by have:=HQ.out.wt;omega)
  go_upto_region 17 with fail
  clear cv0 y0 y1 b0 b1 b2 b3
  refine wp_S (D:=DP w g q v base i p l seen (oOffer q) Rp.enc) 17 18 19 (SB True False w g q v base p (i + 1 + 1 + 1 + 1) p l [.pile gn 2 cap_gn #[.int .u64 ce2.vA,.int .u64 ce2.vB,.int .u8 1,.int .u32 q.wh,.int .u32 0,.bool ce2.is,.int .u64 (ce3.vA - q.n),.int .u64 ce3.vB,.int .u8 3,.int .u32 q.wh,.int .u32 q.wt,.bool ce3.is],.box gt1 #[.int .u64 ce1.vA,.int .u64 ce1.vB,.int .u8 5,.int .u32 q.id,.int .u32 n,.bool false] 130,.box gt0 #[.int .u64 ce0.A,.int .u64 ce0.B,.int .u8 4,.int .u32 q.id,.int .u32 0,.bool true] 130,.box w.heap.size #[.int .u16 0,.int .u64 0,.int .u64 0,.int .u64 0] 35]) [some (.slice (some ⟨gn,0,none⟩) 2 cap_gn,True),some (.int .i64 1,True),some (.slice (some ⟨gn,0,none⟩) 2 cap_gn,True),some (.int .i64 1,True),some (.pointer (some ⟨gn,6,none⟩),True),some (.pointer (some ⟨gn,6,none⟩),True),some (.pointer (some ⟨gn,6,none⟩),True),some (.int .u64 ce3.vA,True),pw g 0,pw g 0,pw g 0,pw g 5,some (.int .u64 q.n,True),some (.int .u64 (ce3.vA - q.n),Ls ce3.vA q.n),some (.pointer (some ⟨gn,6,none⟩),True),some (.pointer (some ⟨gn,6,none⟩),True),some (.pointer (some ⟨gn,6,none⟩),True),some (undef,True)] SS.out (fun vals=>?_) (fun vals W7 hB hall=>?_)
  · simp only [ObD,Act.put,qA,qC,qZ]
    refine ⟨?_,?_,?_,?_,?_,?_,?_,?o6_7,?_,?_,?_,?_,?_,?o6_13,?_,?_,?_,?o6_17,trivial⟩
    all_goals (intro L W hL hk hC hw;have f:=deps hw rfl rfl;simp only [depF,vsP,pw,qS,qD,and_true,true_and] at f)
    case' o6_7=>have k6:W.cell? ⟨gn,6,none⟩=some (.int .u64 ce3.vA):=(hC.pre (hL.not_yet hk 17 16 (by decide +kernel))).bx.1.out.cell 6
    case o6_13=>
      have CL:=Lib.hid (less_C (vA_ok HOK.out S3.out) HQ.out.n hC SS.out BEG.out);clear hL hC hk hw;refine spD rfl ?_;go_simp;(with_reducible refine CL.out.mono ?_)
      rintro e w8 (⟨h,rfl,h2⟩ | ⟨⟨h,h3⟩,rfl,h2⟩ | ⟨h1,rfl,h2⟩)
      · exact ⟨_,rfl,Did.err (by unfold oOffer;simp only [runOm_bind,run_there S0.out.1 S0.out.2,oSide_n (HC.out ce0 S0.out.1),runOm_pure,run_look S1.out,I1.out,EN.out,EW.out,and_true,true_and,and_false,false_and,or_true,true_or,or_false,false_or,not_true_eq_false,not_false_eq_true,ne_eq,if_true,if_false,Bool.false_eq_true,run_look S2.out,run_look S3.out,run_less_great h]) h2⟩
      · exact ⟨_,rfl,Did.err (by unfold oOffer;simp only [runOm_bind,run_there S0.out.1 S0.out.2,oSide_n (HC.out ce0 S0.out.1),runOm_pure,run_look S1.out,I1.out,EN.out,EW.out,and_true,true_and,and_false,false_and,or_true,true_or,or_false,false_or,not_true_eq_false,not_false_eq_true,ne_eq,if_true,if_false,Bool.false_eq_true,run_look S2.out,run_look S3.out,run_less_low h h3]) h2⟩
      · first | exact sq h2 rfl ⟨rfl,h1⟩ | exact ⟨_,rfl,sq h2 rfl ⟨rfl,h1⟩⟩
    case o6_17=>have PRE:=hC.pre hk;have q0:W.cell? ⟨gn,6,none⟩=some (.int .u64 ce3.vA):=PRE.bx.1.out.cell 6;have r0:=PRE.bx.1.out.frozen 6;have P:=Lib.hid PRE;clear PRE;clear hL hC hk hw;refine spD rfl ?_;go_simp;exact ks (ksP SS.out P.out BEG.out 0 rfl) rfl ⟨rfl,trivial⟩
    all_goals (have c:=kn7 hC;clear hL hC hk hw;refine spD rfl ?_;go_simp;first | exact sv rfl ⟨rfl,trivial⟩ | exact ⟨_,rfl,sv rfl ⟨rfl,trivial⟩⟩)
  have C7:Hid (Ls ce3.vA q.n):=Lib.hid (vsP_c (hall.get 13))
  simp only [allF,vsP,pw,true_and,and_true,Nat.reduceAdd] at hall
  simp only [TL,Act.put,qA,qC,qZ,hall]
  replace SS:=Lib.hid hB.st
  clear hall vals hB
  have b0:(q.n == 0)=false:=by have:=HN.out;simpa using this
  have b1:(q.n != 0)=true:=by have:=HN.out;simpa using this
  have b2:(q.wt == 0)=false:=by have:=HW.out;simpa using this
  have b3:(q.wt != 0)=true:=by have:=HW.out;simpa using this
  have cv0:IntKind.u64.wrap q.wt=q.wt:=wrap_u64 HQ.out.wt.1 (by have:=HQ.out.wt;omega)
  go_wp2
  clear cv0 b0 b1 b2 b3
  refine wp_loop_rounds 3 ?_
  obtain ⟨y0,y1,y2,y3,y4,y5⟩:=pile6 SS.out.bx.1.out 0 1 2 3 4 5 rfl rfl rfl rfl rfl rfl
  rw [rounds_succ]
  obtain ⟨W8,hWn⟩:∃ W8,W7.alloc (.cells #[.int .u64 ce2.vA,.int .u64 ce2.vB,.int .u8 1,.int .u32 q.wh,.int .u32 0,.bool ce2.is] 130)=W8:=⟨_,rfl⟩
  obtain ⟨gq0,hgn⟩:∃ gq0,W7.heap.size=gq0:=⟨_,rfl⟩
  have TT:=SS.out.alloc BEG.out #[.int .u64 ce2.vA,.int .u64 ce2.vB,.int .u8 1,.int .u32 q.wh,.int .u32 0,.bool ce2.is] 130
  rw [hgn,hWn] at TT
  replace TT:=Lib.hid TT
  have HWN:=Lib.hid hWn
  have HGN:=Lib.hid hgn
  clear hWn hgn
  go_wp2_with fail
  clear y0 y1 y2 y3 y4 y5
  try rw [HWN.out]
  try rw [HGN.out]
  clear HWN HGN SS
  have SS:=TT
  clear TT
  have CALL:=Lib.hid (amount_S SS.out BEG.out (by have:=HL.out;(try simp only [List.length_append,List.length_cons,List.length_nil]);omega) 1 q.wh 0 ce2.vA (show _=l++[amt 1 q.wh 0 ce2.vA] by simp))
  (with_reducible refine CALL.out.mono ?_)
  rintro e W9 ⟨rfl,hf,p9,hs⟩
  replace SS:=Lib.hid hs
  clear CALL hf hs
  go_wp2
  replace SS:=Lib.hid SS.out.drop
  obtain ⟨y0,y1,y2,y3,y4,y5⟩:=pile6 SS.out.bx.1.out 6 7 8 9 10 11 rfl rfl rfl rfl rfl rfl
  rw [rounds_succ]
  obtain ⟨W10,hWn⟩:∃ W10,W9.alloc (.cells #[.int .u64 (ce3.vA - q.n),.int .u64 ce3.vB,.int .u8 3,.int .u32 q.wh,.int .u32 q.wt,.bool ce3.is] 130)=W10:=⟨_,rfl⟩
  obtain ⟨gq1,hgn⟩:∃ gq1,W9.heap.size=gq1:=⟨_,rfl⟩
  have TT:=SS.out.alloc BEG.out #[.int .u64 (ce3.vA - q.n),.int .u64 ce3.vB,.int .u8 3,.int .u32 q.wh,.int .u32 q.wt,.bool ce3.is] 130
  rw [hgn,hWn] at TT
  replace TT:=Lib.hid TT
  have HWN:=Lib.hid hWn
  have HGN:=Lib.hid hgn
  clear hWn hgn
  go_wp2_with fail
  clear y0 y1 y2 y3 y4 y5
  try rw [HWN.out]
  try rw [HGN.out]
  clear HWN HGN SS
  have SS:=TT
  clear TT
  have CALL:=Lib.hid (amount_S SS.out BEG.out (by have:=HL.out;(try simp only [List.length_append,List.length_cons,List.length_nil]);omega) 3 q.wh q.wt (ce3.vA - q.n) (show _=l++[amt 1 q.wh 0 ce2.vA,amt 3 q.wh q.wt (ce3.vA - q.n)] by simp))
  (with_reducible refine CALL.out.mono ?_)
  rintro e W11 ⟨rfl,hf,p11,hs⟩
  replace SS:=Lib.hid hs
  clear CALL hf hs
  go_wp2
  replace SS:=Lib.hid SS.out.drop
  replace SS:=Lib.hid SS.out.drop
  rw [rounds_succ]
  have y0:W11.cell? ⟨g,5,none⟩=some (.int .u64 q.n):=SS.out.kn.c5
  have b0:(q.n == 0)=false:=by have:=HN.out;simpa using this
  have b1:(q.n != 0)=true:=by have:=HN.out;simpa using this
  have b2:(q.wt == 0)=false:=by have:=HW.out;simpa using this
  have b3:(q.wt != 0)=true:=by have:=HW.out;simpa using this
  have cv0:IntKind.u64.wrap q.wt=q.wt:=wrap_u64 HQ.out.wt.1 (by have:=HQ.out.wt;omega)
  go_upto_region 25 with fail
  clear cv0 y0 b0 b1 b2 b3
  refine wp_SA (D:=DP w g q v base i p l seen (oOffer q) Rp.enc) 15 16 17 True True (i + 1 + 1 + 1 + 1) (l++[amt 1 q.wh 0 ce2.vA,amt 3 q.wh q.wt (ce3.vA - q.n),Pu.mk 5 q.id n q.n q.wt false]) [pw g 0,some (.pointer (some ⟨gt1,2,none⟩),True),some (.agg #[.int .u8 5,.int .u32 q.id,.int .u32 n],True),pw g 0,pw g 0,pw g 0,pw g 5,some (.int .u64 q.n,True),pw g 0,pw g 0,pw g 0,pw g 3,some (.int .u32 q.wt,True),some (.int .u64 q.wt,True),some (.agg #[.int .u64 q.n,.int .u64 q.wt],True),some (.tuple #[],True)] SS.out (fun vals=>?_) (fun vals W12 hB hall=>?_)
  · simp only [ObD,Act.put,qA,qC,qZ]
    refine ⟨?_,?_,?o11_2,?_,?_,?_,?_,?_,?_,?_,?_,?_,?_,?o11_13,?_,?o11_15,trivial⟩
    all_goals (intro L W hL hk hC hw;have f:=deps hw rfl rfl;simp only [depF,vsP,pw,qS,qD,and_true,true_and] at f)
    case' o11_2=>have k2:W.cell? ⟨gt1,2,none⟩=some (.int .u8 5):=(cw_bx hC).1.out.cell 2;have k3:W.cell? ⟨gt1,3,none⟩=some (.int .u32 q.id):=(cw_bx hC).1.out.cell 3;have k4:W.cell? ⟨gt1,4,none⟩=some (.int .u32 n):=(cw_bx hC).1.out.cell 4
    case' o11_13=>have hcv:IntKind.u64.wrap q.wt=q.wt:=wrap_u64 (HQ.out.wt).1 (by have:=(HQ.out.wt).2;omega)
    case o11_15=>have CL:=Lib.hid (pk SS.out BEG.out (put_S (hC.pre hk) BEG.out (by have:=HL.out;(try simp only [List.length_append,List.length_cons,List.length_nil]);omega) 5 q.id n q.n q.wt (show _=l++[amt 1 q.wh 0 ce2.vA,amt 3 q.wh q.wt (ce3.vA - q.n),Pu.mk 5 q.id n q.n q.wt false] by simp)));clear hL hC hk hw;refine spD rfl ?_;go_simp;(with_reducible refine CL.out.mono ?_);rintro e w8 ⟨rfl,hf,H⟩;first | exact kv hf H rfl ⟨rfl,trivial⟩ | exact ⟨_,rfl,kv hf H rfl ⟨rfl,trivial⟩⟩
    all_goals (have c:=kn7 hC;clear hL hC hk hw;refine spD rfl ?_;go_simp;first | exact sv rfl ⟨rfl,trivial⟩ | exact ⟨_,rfl,sv rfl ⟨rfl,trivial⟩⟩)
  simp only [allF,vsP,pw,true_and,and_true,Nat.reduceAdd] at hall
  simp only [TL,Act.put,qA,qC,qZ,hall]
  obtain ⟨p12,hB⟩:=hB.put
  replace SS:=Lib.hid hB
  clear hall vals hB
  obtain ⟨⟨y0,y1,y2,y3,y4,y5⟩,-⟩:=six_cells SS.out.bx.2.1.out
  have CALL:=Lib.hid (put_S SS.out BEG.out (by have:=HL.out;(try simp only [List.length_append,List.length_cons,List.length_nil]);omega) 4 q.id 0 ce0.A 0 (show _=l++[amt 1 q.wh 0 ce2.vA,amt 3 q.wh q.wt (ce3.vA - q.n),Pu.mk 5 q.id n q.n q.wt false,Pu.mk 4 q.id 0 ce0.A 0 false] by simp))
  go_wp2_with fail
  (with_reducible refine CALL.out.mono ?_)
  rintro e W13 ⟨rfl,hf,p13,hs⟩
  replace SS:=Lib.hid hs
  clear CALL hf hs y0 y1 y2 y3 y4 y5
  have y0:W13.cell? ⟨g,5,none⟩=some (.int .u64 q.n):=SS.out.kn.c5
  obtain ⟨⟨z0,z1,z2,z3⟩,x0,x1,x2,x3⟩:=four_cells SS.out.bx.2.2.1.out
  go_wp2
  generalize hW:(World.setCell _ (⟨w.heap.size,3,none⟩:Addr) _)=WZ
  have b9:Box WZ w.heap.size #[.int .u16 0,.int .u64 q.n,.int .u64 0,.int .u64 0] 35:=by
    rw [← hW]
    exact four_box SS.out.bx.2.2.1.out
  have F9:Hid (Fr (fun x=>x=w.heap.size) W13 WZ):=Lib.hid (by
    rw [← hW]
    exact four_fr)
  obtain ⟨⟨v0,v1,v2,v3⟩,-⟩:=four_cells b9
  clear hW b9 z0 z1 z2 z3 x0 x1 x2 x3 y0
  refine bodyPost_ret (v:=.agg #[.int .u16 0,.int .u64 q.n,.int .u64 0,.int .u64 0]) (by simp [results,Tryz.results70,go_sem,v0,v1,v2,v3];try rfl) rfl ?_
  refine (SS.out.wr BEG.out 2 rfl F9.out).did (y:=(⟨q.n,0,0⟩,l++[amt 1 q.wh 0 ce2.vA,amt 3 q.wh q.wt (ce3.vA - q.n),Pu.mk 5 q.id n q.n q.wt false,Pu.mk 4 q.id 0 ce0.A 0 false])) ?_ rfl
  unfold oOffer
  simp only [runOm_bind,runOm_pure,run_there S0.out.1 S0.out.2,oSide_n (HC.out ce0 S0.out.1),runOm_pure,run_look S1.out,I1.out,EN.out,EW.out,and_true,true_and,and_false,false_and,or_true,true_or,or_false,false_or,not_true_eq_false,not_false_eq_true,ne_eq,if_true,if_false,Bool.false_eq_true,run_look S2.out,run_look S3.out,run_less C7.out.1 C7.out.2,oAmount,run_put,oAmount,run_put,run_put,run_put,List.append_assoc,List.cons_append,List.nil_append]
  try rfl
end Go.Proofs.YtabckmadpdchnaaGreat.Rule
namespace Go.Proofs.YtabckmadpdchnaaGreat.Rule
open Go.ChangeShapes Go.WideShapes Go.ChangeAt Go.RowKit Go.IntWalk Go.Proofs.Mem Go.Proofs.Each
theorem offer_item_same (w:World) (g:Nat) (q:Ot) (v:Value) (base i:Nat) (p:Value) (l:List Pu) (seen:List Ce) (hst:St w g q v base i p l) (hs:SeenAt w g v seen) (hg:g < base) (hbase:base≤w.heap.size) (hl:l.length≤700) (hi:i≤700000) (hq:q.Ok) (hok:∀ c∈seen,c.Ok) (n:Int) (hc:∀ c,seen[i]?=some c→(q.wh=hi32 c.A∧n=0)∨(q.wh≠hi32 c.A∧q.wh=lo32 c.A∧n=1)) (h1:∀ c,seen[i + 1]?=some c→c.is=true) (h2:∀ c,seen[i + 1]?=some c→c.vB≠0) (hn:q.n≠0) (hw:q.wt≠0) (hv:∀ c,seen[i + 1]?=some c→q.wt=c.vB) :
    Calls Tryz.prog 70 #[.pointer (some ⟨g,0,none⟩)] w (Did w g q v base i p l seen (oOffer q) Rp.enc):=by
  have BEG:=Lib.hid (Begin.mk hs hg hbase hq hok (fun x hx=>hst.own.lt x hx))
  obtain ⟨W0,hW0⟩:∃ W0,w.alloc (.cells #[.int .u16 0,.int .u64 0,.int .u64 0,.int .u64 0] 35)=W0:=⟨_,rfl⟩
  have SS:Hid (ST w g q v base p i p l [.box w.heap.size #[.int .u16 0,.int .u64 0,.int .u64 0,.int .u64 0] 35] W0):=Lib.hid (by rw [← hW0];exact ST.start hst BEG.out _ _)
  have HI:=Lib.hid hi
  have HQ:=Lib.hid hq
  have HOK:=Lib.hid hok
  have HL:=Lib.hid hl
  have HC:=Lib.hid hc
  have H1:=Lib.hid h1
  have H2:=Lib.hid h2
  have HN:=Lib.hid hn
  have HW:=Lib.hid hw
  have HV:=Lib.hid hv
  obtain ⟨ce0,hce0⟩:=the_cell seen (i)
  have CE0:=Lib.hid hce0
  obtain ⟨ce1,hce1⟩:=the_cell seen (i + 1)
  have CE1:=Lib.hid hce1
  obtain ⟨ce2,hce2⟩:=the_cell seen (i + 1 + 1)
  have CE2:=Lib.hid hce2
  obtain ⟨ce3,hce3⟩:=the_cell seen (i + 1 + 1 + 1)
  have CE3:=Lib.hid hce3
  clear hst hs hg hbase hl hi hq hok hc h1 h2 hn hw hv hce0 hce1 hce2 hce3
  go_enter Tryz.func70,Tryz.ntmps70
  go_upto_region 1 with fail
  try rw [hW0]
  clear hW0
  refine wp_SK (D:=DP w g q v base i p l seen (oOffer q) Rp.enc) 9 10 11 (seen[i]?=some ce0∧ce0.is=true) (i + 1) #[.int .u64 ce0.A,.int .u64 ce0.B,.int .u8 4,.int .u32 q.id,.int .u32 0,.bool true] [pw g 0,pw g 0,pw g 7,pw g 0,pw g 0,pw g 0,pw g 4,some (.int .u32 q.id,True),some (.agg #[.int .u8 4,.int .u32 q.id,.int .u32 0],True),some (.agg (thing ce0.A ce0.B 4 q.id 0 true),True),none,none] SS.out (fun vals=>?_) (fun vals W1 hB hfin hall=>?_) (ea 10 rfl)
  · simp only [ObD,Act.put,qA,qC,qZ]
    refine ⟨?_,?_,?_,?_,?_,?_,?_,?_,?o0_8,?o0_9,?o0_10,?o0_11,trivial⟩
    all_goals (intro L W hL hk hC hw;have f:=deps hw rfl rfl;simp only [depF,vsP,pw,qS,qD,and_true,true_and] at f)
    case o0_8=>have CL:=Lib.hid (trade_any q.id W);clear hL hC hk hw;refine spD rfl ?_;go_simp;(with_reducible refine CL.out.mono ?_);rintro e w8 ⟨rfl,h2⟩;first | exact sq h2 rfl ⟨rfl,trivial⟩ | exact ⟨_,rfl,sq h2 rfl ⟨rfl,trivial⟩⟩
    case o0_9=>
      have CL:=Lib.hid (there_K SS.out (hC.pre hk) BEG.out (by have:=HI.out;omega) CE0.out 4 q.id 0);clear hL hC hk hw;refine spD rfl ?_;go_simp;(with_reducible refine CL.out.mono ?_);rintro e w8 (⟨h,rfl,h2⟩ | ⟨h,h3,rfl,h2⟩ | ⟨rfl,hf,H⟩)
      · exact ⟨_,rfl,Did.miss (by unfold oOffer;simp only [runOm_bind,run_there_no h]) h2⟩
      · exact ⟨_,rfl,Did.err (by unfold oOffer;simp only [runOm_bind,run_there_not h h3]) h2⟩
      · first | exact kv hf H rfl ⟨rfl,trivial⟩ | exact ⟨_,rfl,kv hf H rfl ⟨rfl,trivial⟩⟩
    case o0_10=>have ZZ:=hC.fr.size;clear hL hC hk hw;refine spD rfl ?_;go_simp;exact am ZZ
    case o0_11=>obtain ⟨gt,C,fa,hgt,bx0,hc⟩:=Fw.geta (hw ⟨10,.data⟩ (by simp) rfl) (by decide);obtain ⟨c0,c1,c2,c3,c4,c5,rfl⟩:=arr6 hc;have q:=six_cells bx0;have BXX:=Lib.hid bx0;have FA:=Lib.hid fa;clear bx0 hc;unfold thing at f;clear hL hC hk hw;refine spD rfl ?_;go_simp;exact sm SS.out BEG.out BXX.out hgt FA.out
    all_goals (have c:=kn7 hC;clear hL hC hk hw;refine spD rfl ?_;go_simp;first | exact sv rfl ⟨rfl,trivial⟩ | exact ⟨_,rfl,sv rfl ⟨rfl,trivial⟩⟩)
  have S0:=Lib.hid hB.1
  simp only [allF,vsP,pw,true_and,and_true,Nat.reduceAdd] at hall
  obtain ⟨gt0,fa,hgt,bx⟩:=hfin
  simp only [TL,Act.put,qA,qC,qZ,hall,fa]
  replace SS:=Lib.hid (SS.out.push BEG.out hB.st SS.out.lt hgt bx)
  clear hall vals hB fa hgt bx
  obtain ⟨⟨y0,y1,y2,y3,y4,y5⟩,-⟩:=six_cells SS.out.bx.1.out
  have CALL:=Lib.hid (side_n W1 g q v (i + 1:Nat) p SS.out.run.out.st.wb ce0.A ce0.B 4 q.id 0 true (A_ok HOK.out S0.out.1) n (HC.out ce0 S0.out.1))
  unfold thing at CALL
  go_wp2_with fail
  (with_reducible refine CALL.out.mono ?_)
  rintro e W2 ⟨rfl,hbl⟩
  clear CALL y0 y1 y2 y3 y4 y5
  replace SS:=Lib.hid (SS.out.later hbl)
  clear hbl
  go_upto_region 3 with fail
  refine wp_SK (D:=DP w g q v base i p l seen (oOffer q) Rp.enc) 10 11 12 (seen[i + 1]?=some ce1) (i + 1 + 1) #[.int .u64 ce1.vA,.int .u64 ce1.vB,.int .u8 5,.int .u32 q.id,.int .u32 n,.bool ce1.is] [pw g 0,pw g 0,pw g 7,pw g 0,pw g 0,pw g 0,pw g 4,some (.int .u32 q.id,True),some (.int .u32 n,True),some (.agg #[.int .u8 5,.int .u32 q.id,.int .u32 n],True),some (.agg (thing ce1.vA ce1.vB 5 q.id n ce1.is),True),none,none] SS.out (fun vals=>?_) (fun vals W3 hB hfin hall=>?_) (ea 11 rfl)
  · simp only [ObD,Act.put,qA,qC,qZ]
    refine ⟨?_,?_,?_,?_,?_,?_,?_,?_,?_,?o2_9,?o2_10,?o2_11,?o2_12,trivial⟩
    all_goals (intro L W hL hk hC hw;have f:=deps hw rfl rfl;simp only [depF,vsP,pw,qS,qD,and_true,true_and] at f)
    case o2_9=>have CL:=Lib.hid (offer_any q.id n W);clear hL hC hk hw;refine spD rfl ?_;go_simp;(with_reducible refine CL.out.mono ?_);rintro e w8 ⟨rfl,h2⟩;first | exact sq h2 rfl ⟨rfl,trivial⟩ | exact ⟨_,rfl,sq h2 rfl ⟨rfl,trivial⟩⟩
    case o2_10=>
      have CL:=Lib.hid (look_K SS.out (hC.pre hk) BEG.out (by have:=HI.out;omega) CE1.out 5 q.id n);clear hL hC hk hw;refine spD rfl ?_;go_simp;(with_reducible refine CL.out.mono ?_);rintro e w8 (⟨h,rfl,h2⟩ | ⟨h1,rfl,hf,H⟩)
      · exact ⟨_,rfl,Did.miss (by unfold oOffer;simp only [runOm_bind,run_there S0.out.1 S0.out.2,oSide_n (HC.out ce0 S0.out.1),runOm_pure,run_look_no h]) h2⟩
      · first | exact kv hf H rfl ⟨rfl,trivial⟩ | exact ⟨_,rfl,kv hf H rfl ⟨rfl,trivial⟩⟩
    case o2_11=>have ZZ:=hC.fr.size;clear hL hC hk hw;refine spD rfl ?_;go_simp;exact am ZZ
    case o2_12=>obtain ⟨gt,C,fa,hgt,bx0,hc⟩:=Fw.geta (hw ⟨11,.data⟩ (by simp) rfl) (by decide);obtain ⟨c0,c1,c2,c3,c4,c5,rfl⟩:=arr6 hc;have q:=six_cells bx0;have BXX:=Lib.hid bx0;have FA:=Lib.hid fa;clear bx0 hc;unfold thing at f;clear hL hC hk hw;refine spD rfl ?_;go_simp;exact sm SS.out BEG.out BXX.out hgt FA.out
    all_goals (have c:=kn7 hC;clear hL hC hk hw;refine spD rfl ?_;go_simp;first | exact sv rfl ⟨rfl,trivial⟩ | exact ⟨_,rfl,sv rfl ⟨rfl,trivial⟩⟩)
  have S1:=Lib.hid hB.1
  simp only [allF,vsP,pw,true_and,and_true,Nat.reduceAdd] at hall
  obtain ⟨gt1,fa,hgt,bx⟩:=hfin
  simp only [TL,Act.put,qA,qC,qZ,hall,fa]
  replace SS:=Lib.hid (SS.out.push BEG.out hB.st SS.out.lt hgt bx)
  clear hall vals hB fa hgt bx
  have I1:=Lib.hid (H1.out ce1 S1.out)
  have SX:=SS.out
  rw [I1.out] at SX
  replace SS:=Lib.hid SX
  clear SX
  have EB:=Lib.hid (show (ce1.vB=0)=False from eq_false (H2.out ce1 S1.out))
  have EN:=Lib.hid (show (q.n=0)=False from eq_false HN.out)
  have EW:=Lib.hid (show (q.wt=0)=False from eq_false HW.out)
  have ES:=Lib.hid (show (q.wt=ce1.vB)=True from eq_true (HV.out ce1 S1.out))
  go_upto_region 4 with fail
  refine wp_SG0 (D:=DP w g q v base i p l seen (oOffer q) Rp.enc) 9 12 10 11 (seen[i + 1 + 1]?=some ce2) (i + 1 + 1 + 1) #[.int .u64 ce2.vA,.int .u64 ce2.vB,.int .u8 1,.int .u32 q.wh,.int .u32 0,.bool ce2.is] [pw g 0,pw g 0,pw g 7,pw g 0,pw g 0,pw g 0,pw g 1,some (.int .u32 q.wh,True),some (.agg #[.int .u8 1,.int .u32 q.wh,.int .u32 0],True),some (.agg (thing ce2.vA ce2.vB 1 q.wh 0 ce2.is),True),none,none] SS.out BEG.out (fun vals=>?_) (fun vals W4 hB hfin htold hall=>?_) (ea 10 rfl)
  · simp only [ObD,Act.put,qA,qC,qZ]
    refine ⟨?_,?_,?_,?_,?_,?_,?_,?_,?o3_8,?o3_9,?o3_10,?o3_11,trivial⟩
    all_goals (intro L W hL hk hC hw;have f:=depsG hw rfl rfl rfl;simp only [depF,vsP,pw,qS,qD,and_true,true_and] at f)
    case o3_8=>have CL:=Lib.hid (purse_any q.wh W);clear hL hC hk hw;refine spD rfl ?_;go_simp;(with_reducible refine CL.out.mono ?_);rintro e w8 ⟨rfl,h2⟩;first | exact gq h2 rfl ⟨rfl,trivial⟩ | exact ⟨_,rfl,gq h2 rfl ⟨rfl,trivial⟩⟩
    case o3_9=>
      have CL:=Lib.hid (look_KG (hC.pre hk) BEG.out (by have:=HI.out;omega) CE2.out 1 q.wh 0);clear hL hC hk hw;refine spD rfl ?_;go_simp;(with_reducible refine CL.out.mono ?_);rintro e w8 (⟨h,rfl,h2⟩ | ⟨h1,rfl,hf,H⟩)
      · exact ⟨_,rfl,Did.miss (by unfold oOffer;simp only [runOm_bind,run_there S0.out.1 S0.out.2,oSide_n (HC.out ce0 S0.out.1),runOm_pure,run_look S1.out,I1.out,EB.out,EN.out,EW.out,ES.out,and_true,true_and,and_false,false_and,or_true,true_or,or_false,false_or,not_true_eq_false,not_false_eq_true,ne_eq,if_true,if_false,Bool.false_eq_true,run_look_no h]) h2⟩
      · first | exact gk hf H rfl ⟨rfl,trivial⟩ | exact ⟨_,rfl,gk hf H rfl ⟨rfl,trivial⟩⟩
    case o3_10=>have ZZ:=hC.fr.size;unfold thing at f;clear hL hC hk hw;refine spD rfl ?_;go_simp;first | exact gm0 ZZ | exact ⟨_,rfl,gm0 ZZ⟩
    case o3_11=>clear hL hC hk hw;refine spD rfl ?_;go_simp;first | exact gt_ | exact ⟨_,rfl,gt_⟩
    all_goals (have c:=kg7 hC;clear hL hC hk hw;refine spD rfl ?_;go_simp;first | exact gv rfl ⟨rfl,trivial⟩ | exact ⟨_,rfl,gv rfl ⟨rfl,trivial⟩⟩)
  have S2:=Lib.hid hB.1
  simp only [allF,vsP,pw,true_and,and_true,Nat.reduceAdd] at hall
  obtain ⟨gl,fs,hor,bx⟩:=hfin
  rw [fs] at htold
  simp only [TL,Act.put,qA,qC,qZ,hall,htold,fs]
  replace SS:=Lib.hid (SS.out.pushP BEG.out hB.st SS.out.lt hor (Pile.of_box (n:=1) bx rfl (by decide)))
  clear hall vals hB htold fs hor bx
  have y0:W4.cell? ⟨gt1,1,none⟩=some (.int .u64 ce1.vB):=SS.out.bx.2.1.out.cell 1
  have y1:W4.cell? ⟨gt1,5,none⟩=some (.bool true):=SS.out.bx.2.1.out.cell 5
  have b0:(ce1.vB == 0)=false:=by have:=H2.out ce1 S1.out;simpa using this
  have b1:(ce1.vB != 0)=true:=by have:=H2.out ce1 S1.out;simpa using this
  have b2:(q.n == 0)=false:=by have:=HN.out;simpa using this
  have b3:(q.n != 0)=true:=by have:=HN.out;simpa using this
  have b4:(q.wt == 0)=false:=by have:=HW.out;simpa using this
  have b5:(q.wt != 0)=true:=by have:=HW.out;simpa using this
  have b6:(q.wt == ce1.vB)=true:=by have:=HV.out ce1 S1.out;simpa using this
  have b7:(q.wt != ce1.vB)=false:=by have:=HV.out ce1 S1.out;simpa using this
  have cv0:IntKind.u64.wrap q.wt=q.wt:=wrap_u64 HQ.out.wt.1 (by have:=HQ.out.wt;omega)
  go_upto_region 8 with fail
  clear cv0 y0 y1 b0 b1 b2 b3 b4 b5 b6 b7
  refine wp_SGO (D:=DP w g q v base i p l seen (oOffer q) Rp.enc) 13 14 15 16 2 (SB (seen[i + 1 + 1 + 1]?=some ce3) False w g q v base p (i + 1 + 1 + 1 + 1) p l [.box gt1 #[.int .u64 ce1.vA,.int .u64 ce1.vB,.int .u8 5,.int .u32 q.id,.int .u32 n,.bool true] 130,.box gt0 #[.int .u64 ce0.A,.int .u64 ce0.B,.int .u8 4,.int .u32 q.id,.int .u32 0,.bool true] 130,.box w.heap.size #[.int .u16 0,.int .u64 0,.int .u64 0,.int .u64 0] 35]) #[.int .u64 ce3.vA,.int .u64 ce3.vB,.int .u8 (holdK ce1.vB),.int .u32 q.wh,.int .u32 (holdW ce1.vB),.bool ce3.is] #[.int .u64 ce2.vA,.int .u64 ce2.vB,.int .u8 1,.int .u32 q.wh,.int .u32 0,.bool ce2.is,.int .u64 ce3.vA,.int .u64 ce3.vB,.int .u8 (holdK ce1.vB),.int .u32 q.wh,.int .u32 (holdW ce1.vB),.bool ce3.is] [some (.slice (some ⟨gl,0,none⟩) 1 1,True),pw g 0,pw g 0,pw g 7,pw g 0,pw g 0,pw g 0,pw g 1,some (.int .u32 q.wh,True),some (.pointer (some ⟨gt1,0,none⟩),True),some (.pointer (some ⟨gt1,1,none⟩),True),some (.int .u64 ce1.vB,True),some (.agg #[.int .u8 (holdK ce1.vB),.int .u32 q.wh,.int .u32 (holdW ce1.vB)],True),some (.agg (thing ce3.vA ce3.vB (holdK ce1.vB) q.wh (holdW ce1.vB) ce3.is),True),none,none,none] 0 SS.out BEG.out rfl rfl (fun vals=>?_) (fun vals W5 hB hfin htold hall=>?_) (ea 14 rfl) (ea 15 rfl)
  · simp only [ObD,Act.put,qA,qC,qZ]
    refine ⟨?_,?_,?_,?_,?_,?_,?_,?_,?_,?_,?_,?o4_11,?o4_12,?o4_13,?o4_14,?o4_15,?o4_16,trivial⟩
    all_goals (intro L W hL hk hC hw;have f:=depsG hw rfl rfl rfl;simp only [depF,vsP,pw,qS,qD,and_true,true_and] at f)
    case' o4_11=>have k1:W.cell? ⟨gt1,1,none⟩=some (.int .u64 ce1.vB):=(cg_bx hC).1.out.cell 1
    case o4_12=>have CL:=Lib.hid (hold_any q.wh ce1.vB W);clear hL hC hk hw;refine spD rfl ?_;go_simp;(with_reducible refine CL.out.mono ?_);rintro e w8 ⟨rfl,h2⟩;first | exact gq h2 rfl ⟨rfl,trivial⟩ | exact ⟨_,rfl,gq h2 rfl ⟨rfl,trivial⟩⟩
    case o4_13=>
      have CL:=Lib.hid (look_KG (hC.pre hk) BEG.out (by have:=HI.out;omega) CE3.out (holdK ce1.vB) q.wh (holdW ce1.vB));clear hL hC hk hw;refine spD rfl ?_;go_simp;(with_reducible refine CL.out.mono ?_);rintro e w8 (⟨h,rfl,h2⟩ | ⟨h1,rfl,hf,H⟩)
      · exact ⟨_,rfl,Did.miss (by unfold oOffer;simp only [runOm_bind,run_there S0.out.1 S0.out.2,oSide_n (HC.out ce0 S0.out.1),runOm_pure,run_look S1.out,I1.out,EB.out,EN.out,EW.out,ES.out,and_true,true_and,and_false,false_and,or_true,true_or,or_false,false_or,not_true_eq_false,not_false_eq_true,ne_eq,if_true,if_false,Bool.false_eq_true,run_look S2.out,run_look_no h]) h2⟩
      · first | exact gk hf H rfl ⟨rfl,trivial⟩ | exact ⟨_,rfl,gk hf H rfl ⟨rfl,trivial⟩⟩
    case o4_14=>have ZZ:=hC.fr.size;unfold thing at f;clear hL hC hk hw;refine spD rfl ?_;go_simp;first | exact gm1 ZZ | exact ⟨_,rfl,gm1 ZZ⟩
    case o4_15=>
      have GZ:=hC.fr.size;have fm:vals 0=.slice (some ⟨gl,0,none⟩) 1 1:=(Fg.get (f:=vsP (some (.slice (some ⟨gl,0,none⟩) 1 1,True))) (hw ⟨0,.data⟩ (by simp) rfl) (by decide) (by decide) (by decide) rfl).1;obtain ⟨gb,fa,hgb,bxb⟩:=Fg.geta (hw ⟨14,.data⟩ (by simp) rfl) (by decide) (by decide);have FA:=Lib.hid fa;have BXB:=Lib.hid bxb;obtain ⟨i0,hi0,hz0,hz1,hz2⟩:=info_parts thing_info;have GR:=Lib.hid (hC.row hk)
      clear hL hC hk hw
      refine step_append_lies _ (by rfl) _ _ _ (by rfl) gl 130 i0 _ 6 32 Tryz.underlying140 hi0 hz0 hz1 hz2 rfl (by omega) (.slice (some ⟨gl,0,none⟩) 1 1) 1 _ (Eq.trans (by rfl) fm) GR.out ⟨gb,0,none⟩ 1 1 [.int .u64 ce3.vA,.int .u64 ce3.vB,.int .u8 (holdK ce1.vB),.int .u32 q.wh,.int .u32 (holdW ce1.vB),.bool ce3.is] (Eq.trans (by rfl) FA.out) rfl (World.news_of_block (cs:=#[.int .u64 ce3.vA,.int .u64 ce3.vB,.int .u8 (holdK ce1.vB),.int .u32 q.wh,.int .u32 (holdW ce1.vB),.bool ce3.is]) (t:=130) (fr:=(0,0)) BXB.out) (by simp [Value.oneCell']) (by omega) (by unfold maxLen;omega) (by omega) (Nat.le_of_lt GR.out.lt) W.heap.size rfl ?_
      intro gg cc WQ hown1 hgrow hat hlt1
      exact ⟨_,rfl,ga SS.out BEG.out (n:=0) rfl rfl GR.out GZ (by simpa using hown1) hgrow hat⟩
    case o4_16=>clear hL hC hk hw;refine spD rfl ?_;go_simp;first | exact gt_ | exact ⟨_,rfl,gt_⟩
    all_goals (have c:=kg7 hC;clear hL hC hk hw;refine spD rfl ?_;go_simp;first | exact gv rfl ⟨rfl,trivial⟩ | exact ⟨_,rfl,gv rfl ⟨rfl,trivial⟩⟩)
  have S3:=Lib.hid hB.1
  simp only [allF,vsP,pw,true_and,and_true,Nat.reduceAdd] at hall
  obtain ⟨gm,cap_gm,fs,hor,bx⟩:=hfin
  rw [fs] at htold
  simp only [TL,Act.put,qA,qC,qZ,hall,htold,fs]
  generalize vals 14=vz4
  replace SS:=Lib.hid (SS.out.regrow BEG.out 0 rfl rfl hB.st hor bx)
  clear hall vals hB htold fs hor bx
  have y0:W5.cell? ⟨g,3,none⟩=some (.int .u32 q.wt):=SS.out.kn.c3
  have y1:W5.cell? ⟨g,5,none⟩=some (.int .u64 q.n):=SS.out.kn.c5
  have b0:(ce1.vB == 0)=false:=by have:=H2.out ce1 S1.out;simpa using this
  have b1:(ce1.vB != 0)=true:=by have:=H2.out ce1 S1.out;simpa using this
  have b2:(q.n == 0)=false:=by have:=HN.out;simpa using this
  have b3:(q.n != 0)=true:=by have:=HN.out;simpa using this
  have b4:(q.wt == 0)=false:=by have:=HW.out;simpa using this
  have b5:(q.wt != 0)=true:=by have:=HW.out;simpa using this
  have b6:(q.wt == ce1.vB)=true:=by have:=HV.out ce1 S1.out;simpa using this
  have b7:(q.wt != ce1.vB)=false:=by have:=HV.out ce1 S1.out;simpa using this
  have cv0:IntKind.u64.wrap q.wt=q.wt:=wrap_u64 HQ.out.wt.1 (by have:=HQ.out.wt;omega)
  go_upto_region 12 with fail
  clear cv0 y0 y1 b0 b1 b2 b3 b4 b5 b6 b7
  have y0:W5.cell? ⟨g,3,none⟩=some (.int .u32 q.wt):=SS.out.kn.c3
  have y1:W5.cell? ⟨gt1,1,none⟩=some (.int .u64 ce1.vB):=SS.out.bx.2.1.out.cell 1
  have b0:(ce1.vB == 0)=false:=by have:=H2.out ce1 S1.out;simpa using this
  have b1:(ce1.vB != 0)=true:=by have:=H2.out ce1 S1.out;simpa using this
  have b2:(q.n == 0)=false:=by have:=HN.out;simpa using this
  have b3:(q.n != 0)=true:=by have:=HN.out;simpa using this
  have b4:(q.wt == 0)=false:=by have:=HW.out;simpa using this
  have b5:(q.wt != 0)=true:=by have:=HW.out;simpa using this
  have b6:(q.wt == ce1.vB)=true:=by have:=HV.out ce1 S1.out;simpa using this
  have b7:(q.wt != ce1.vB)=false:=by have:=HV.out ce1 S1.out;simpa using this
  have cv0:IntKind.u64.wrap q.wt=q.wt:=wrap_u64 HQ.out.wt.1 (by have:=HQ.out.wt;omega)
  go_quiet (fail)
  have hbl:Below W5.heap.size W5 (W5.drewN nq):=below_drewN (Below.refl _ _) nq
  generalize W5.drewN nq=W6 at hbl ⊢
  clear cv0 y0 y1 b0 b1 b2 b3 b4 b5 b6 b7
  replace SS:=Lib.hid (SS.out.later hbl)
  clear hbl
  have y0:W6.cell? ⟨gt1,5,none⟩=some (.bool true):=SS.out.bx.2.1.out.cell 5
  have b0:(ce1.vB == 0)=false:=by have:=H2.out ce1 S1.out;simpa using this
  have b1:(ce1.vB != 0)=true:=by have:=H2.out ce1 S1.out;simpa using this
  have b2:(q.n == 0)=false:=by have:=HN.out;simpa using this
  have b3:(q.n != 0)=true:=by have:=HN.out;simpa using this
  have b4:(q.wt == 0)=false:=by have:=HW.out;simpa using this
  have b5:(q.wt != 0)=true:=by have:=HW.out;simpa using this
  have b6:(q.wt == ce1.vB)=true:=by have:=HV.out ce1 S1.out;simpa using this
  have b7:(q.wt != ce1.vB)=false:=by have:=HV.out ce1 S1.out;simpa using this
  have cv0:IntKind.u64.wrap q.wt=q.wt:=wrap_u64 HQ.out.wt.1 (by have:=HQ.out.wt;omega)
  go_upto_region 15 with fail
  clear cv0 y0 b0 b1 b2 b3 b4 b5 b6 b7
  refine wp_S (D:=DP w g q v base i p l seen (oOffer q) Rp.enc) 15 16 17 (SB True False w g q v base p (i + 1 + 1 + 1 + 1) p l [.pile gm 2 cap_gm #[.int .u64 ce2.vA,.int .u64 ce2.vB,.int .u8 1,.int .u32 q.wh,.int .u32 0,.bool ce2.is,.int .u64 (ce3.vA + ce1.vA),.int .u64 ce3.vB,.int .u8 (holdK ce1.vB),.int .u32 q.wh,.int .u32 (holdW ce1.vB),.bool ce3.is],.box gt1 #[.int .u64 ce1.vA,.int .u64 ce1.vB,.int .u8 5,.int .u32 q.id,.int .u32 n,.bool true] 130,.box gt0 #[.int .u64 ce0.A,.int .u64 ce0.B,.int .u8 4,.int .u32 q.id,.int .u32 0,.bool true] 130,.box w.heap.size #[.int .u16 0,.int .u64 0,.int .u64 0,.int .u64 0] 35]) [some (.slice (some ⟨gm,0,none⟩) 2 cap_gm,True),some (.int .i64 1,True),some (.slice (some ⟨gm,0,none⟩) 2 cap_gm,True),some (.int .i64 1,True),some (.pointer (some ⟨gm,6,none⟩),True),some (.pointer (some ⟨gm,6,none⟩),True),some (.pointer (some ⟨gm,6,none⟩),True),some (.int .u64 ce3.vA,True),some (.pointer (some ⟨gt1,0,none⟩),True),some (.pointer (some ⟨gt1,0,none⟩),True),some (.int .u64 ce1.vA,True),some (.int .u64 (ce3.vA + ce1.vA),Mr ce3.vA ce1.vA),some (.pointer (some ⟨gm,6,none⟩),True),some (.pointer (some ⟨gm,6,none⟩),True),some (.pointer (some ⟨gm,6,none⟩),True),some (undef,True)] SS.out (fun vals=>?_) (fun vals W7 hB hall=>?_)
  · simp only [ObD,Act.put,qA,qC,qZ]
    refine ⟨?_,?_,?_,?_,?_,?_,?_,?o6_7,?_,?_,?o6_10,?o6_11,?_,?_,?_,?o6_15,trivial⟩
    all_goals (intro L W hL hk hC hw;have f:=deps hw rfl rfl;simp only [depF,vsP,pw,qS,qD,and_true,true_and] at f)
    case' o6_7=>have k6:W.cell? ⟨gm,6,none⟩=some (.int .u64 ce3.vA):=(hC.pre (hL.not_yet hk 15 16 (by decide +kernel))).bx.1.out.cell 6
    case' o6_10=>have k0:W.cell? ⟨gt1,0,none⟩=some (.int .u64 ce1.vA):=(hC.pre (hL.not_yet hk 15 16 (by decide +kernel))).bx.2.1.out.cell 0
    case o6_11=>
      have CL:=Lib.hid (more_C (vA_ok HOK.out S3.out) (vA_ok HOK.out S1.out) hC SS.out BEG.out);clear hL hC hk hw;refine spD rfl ?_;go_simp;(with_reducible refine CL.out.mono ?_)
      rintro e w8 (⟨h,rfl,h2⟩ | ⟨h1,rfl,h2⟩)
      · exact ⟨_,rfl,Did.err (by unfold oOffer;simp only [runOm_bind,run_there S0.out.1 S0.out.2,oSide_n (HC.out ce0 S0.out.1),runOm_pure,run_look S1.out,I1.out,EB.out,EN.out,EW.out,ES.out,and_true,true_and,and_false,false_and,or_true,true_or,or_false,false_or,not_true_eq_false,not_false_eq_true,ne_eq,if_true,if_false,Bool.false_eq_true,run_look S2.out,run_look S3.out,run_more_no h]) h2⟩
      · first | exact sq h2 rfl ⟨rfl,h1⟩ | exact ⟨_,rfl,sq h2 rfl ⟨rfl,h1⟩⟩
    case o6_15=>have PRE:=hC.pre hk;have q0:W.cell? ⟨gm,6,none⟩=some (.int .u64 ce3.vA):=PRE.bx.1.out.cell 6;have r0:=PRE.bx.1.out.frozen 6;have P:=Lib.hid PRE;clear PRE;clear hL hC hk hw;refine spD rfl ?_;go_simp;exact ks (ksP SS.out P.out BEG.out 0 rfl) rfl ⟨rfl,trivial⟩
    all_goals (have c:=kn7 hC;clear hL hC hk hw;refine spD rfl ?_;go_simp;first | exact sv rfl ⟨rfl,trivial⟩ | exact ⟨_,rfl,sv rfl ⟨rfl,trivial⟩⟩)
  have C7:Hid (Mr ce3.vA ce1.vA):=Lib.hid (vsP_c (hall.get 11))
  simp only [allF,vsP,pw,true_and,and_true,Nat.reduceAdd] at hall
  simp only [TL,Act.put,qA,qC,qZ,hall]
  replace SS:=Lib.hid hB.st
  clear hall vals hB
  have y0:W7.cell? ⟨g,5,none⟩=some (.int .u64 q.n):=SS.out.kn.c5
  have b0:(ce1.vB == 0)=false:=by have:=H2.out ce1 S1.out;simpa using this
  have b1:(ce1.vB != 0)=true:=by have:=H2.out ce1 S1.out;simpa using this
  have b2:(q.n == 0)=false:=by have:=HN.out;simpa using this
  have b3:(q.n != 0)=true:=by have:=HN.out;simpa using this
  have b4:(q.wt == 0)=false:=by have:=HW.out;simpa using this
  have b5:(q.wt != 0)=true:=by have:=HW.out;simpa using this
  have b6:(q.wt == ce1.vB)=true:=by have:=HV.out ce1 S1.out;simpa using this
  have b7:(q.wt != ce1.vB)=false:=by have:=HV.out ce1 S1.out;simpa using this
  have cv0:IntKind.u64.wrap q.wt=q.wt:=wrap_u64 HQ.out.wt.1 (by have:=HQ.out.wt;omega)
  go_upto_region 17 with fail
  clear cv0 y0 b0 b1 b2 b3 b4 b5 b6 b7
  refine wp_S (D:=DP w g q v base i p l seen (oOffer q) Rp.enc) 17 18 19 (SB True False w g q v base p (i + 1 + 1 + 1 + 1) p l [.pile gm 2 cap_gm #[.int .u64 ce2.vA,.int .u64 ce2.vB,.int .u8 1,.int .u32 q.wh,.int .u32 0,.bool ce2.is,.int .u64 ((ce3.vA + ce1.vA) - q.n),.int .u64 ce3.vB,.int .u8 (holdK ce1.vB),.int .u32 q.wh,.int .u32 (holdW ce1.vB),.bool ce3.is],.box gt1 #[.int .u64 ce1.vA,.int .u64 ce1.vB,.int .u8 5,.int .u32 q.id,.int .u32 n,.bool true] 130,.box gt0 #[.int .u64 ce0.A,.int .u64 ce0.B,.int .u8 4,.int .u32 q.id,.int .u32 0,.bool true] 130,.box w.heap.size #[.int .u16 0,.int .u64 0,.int .u64 0,.int .u64 0] 35]) [some (.slice (some ⟨gm,0,none⟩) 2 cap_gm,True),some (.int .i64 1,True),some (.slice (some ⟨gm,0,none⟩) 2 cap_gm,True),some (.int .i64 1,True),some (.pointer (some ⟨gm,6,none⟩),True),some (.pointer (some ⟨gm,6,none⟩),True),some (.pointer (some ⟨gm,6,none⟩),True),some (.int .u64 (ce3.vA + ce1.vA),True),pw g 0,pw g 0,pw g 0,pw g 5,some (.int .u64 q.n,True),some (.int .u64 ((ce3.vA + ce1.vA) - q.n),Ls (ce3.vA + ce1.vA) q.n),some (.pointer (some ⟨gm,6,none⟩),True),some (.pointer (some ⟨gm,6,none⟩),True),some (.pointer (some ⟨gm,6,none⟩),True),some (undef,True)] SS.out (fun vals=>?_) (fun vals W8 hB hall=>?_)
  · simp only [ObD,Act.put,qA,qC,qZ]
    refine ⟨?_,?_,?_,?_,?_,?_,?_,?o7_7,?_,?_,?_,?_,?_,?o7_13,?_,?_,?_,?o7_17,trivial⟩
    all_goals (intro L W hL hk hC hw;have f:=deps hw rfl rfl;simp only [depF,vsP,pw,qS,qD,and_true,true_and] at f)
    case' o7_7=>have k6:W.cell? ⟨gm,6,none⟩=some (.int .u64 (ce3.vA + ce1.vA)):=(hC.pre (hL.not_yet hk 17 16 (by decide +kernel))).bx.1.out.cell 6
    case o7_13=>
      have CL:=Lib.hid (less_C (show 0≤ce3.vA + ce1.vA∧ce3.vA + ce1.vA≤18446744073709551615 by have:=(vA_ok HOK.out S3.out).1;have:=(vA_ok HOK.out S1.out).1;have:=C7.out;unfold Mr at this;omega) HQ.out.n hC SS.out BEG.out);clear hL hC hk hw;refine spD rfl ?_;go_simp;(with_reducible refine CL.out.mono ?_)
      rintro e w8 (⟨h,rfl,h2⟩ | ⟨⟨h,h3⟩,rfl,h2⟩ | ⟨h1,rfl,h2⟩)
      · exact ⟨_,rfl,Did.err (by unfold oOffer;simp only [runOm_bind,run_there S0.out.1 S0.out.2,oSide_n (HC.out ce0 S0.out.1),runOm_pure,run_look S1.out,I1.out,EB.out,EN.out,EW.out,ES.out,and_true,true_and,and_false,false_and,or_true,true_or,or_false,false_or,not_true_eq_false,not_false_eq_true,ne_eq,if_true,if_false,Bool.false_eq_true,run_look S2.out,run_look S3.out,run_more C7.out,run_less_great h]) h2⟩
      · exact ⟨_,rfl,Did.err (by unfold oOffer;simp only [runOm_bind,run_there S0.out.1 S0.out.2,oSide_n (HC.out ce0 S0.out.1),runOm_pure,run_look S1.out,I1.out,EB.out,EN.out,EW.out,ES.out,and_true,true_and,and_false,false_and,or_true,true_or,or_false,false_or,not_true_eq_false,not_false_eq_true,ne_eq,if_true,if_false,Bool.false_eq_true,run_look S2.out,run_look S3.out,run_more C7.out,run_less_low h h3]) h2⟩
      · first | exact sq h2 rfl ⟨rfl,h1⟩ | exact ⟨_,rfl,sq h2 rfl ⟨rfl,h1⟩⟩
    case o7_17=>have PRE:=hC.pre hk;have q0:W.cell? ⟨gm,6,none⟩=some (.int .u64 (ce3.vA + ce1.vA)):=PRE.bx.1.out.cell 6;have r0:=PRE.bx.1.out.frozen 6;have P:=Lib.hid PRE;clear PRE;clear hL hC hk hw;refine spD rfl ?_;go_simp;exact ks (ksP SS.out P.out BEG.out 0 rfl) rfl ⟨rfl,trivial⟩
    all_goals (have c:=kn7 hC;clear hL hC hk hw;refine spD rfl ?_;go_simp;first | exact sv rfl ⟨rfl,trivial⟩ | exact ⟨_,rfl,sv rfl ⟨rfl,trivial⟩⟩)
  have C8:Hid (Ls (ce3.vA + ce1.vA) q.n):=Lib.hid (vsP_c (hall.get 13))
  simp only [allF,vsP,pw,true_and,and_true,Nat.reduceAdd] at hall
  simp only [TL,Act.put,qA,qC,qZ,hall]
  replace SS:=Lib.hid hB.st
  clear hall vals hB
  have b0:(ce1.vB == 0)=false:=by have:=H2.out ce1 S1.out;simpa using this
  have b1:(ce1.vB != 0)=true:=by have:=H2.out ce1 S1.out;simpa using this
  have b2:(q.n == 0)=false:=by have:=HN.out;simpa using this
  have b3:(q.n != 0)=true:=by have:=HN.out;simpa using this
  have b4:(q.wt == 0)=false:=by have:=HW.out;simpa using this
  have b5:(q.wt != 0)=true:=by have:=HW.out;simpa using this
  have b6:(q.wt == ce1.vB)=true:=by have:=HV.out ce1 S1.out;simpa using this
  have b7:(q.wt != ce1.vB)=false:=by have:=HV.out ce1 S1.out;simpa using this
  have cv0:IntKind.u64.wrap q.wt=q.wt:=wrap_u64 HQ.out.wt.1 (by have:=HQ.out.wt;omega)
  go_wp2
  clear cv0 b0 b1 b2 b3 b4 b5 b6 b7
  refine wp_loop_rounds 3 ?_
  obtain ⟨y0,y1,y2,y3,y4,y5⟩:=pile6 SS.out.bx.1.out 0 1 2 3 4 5 rfl rfl rfl rfl rfl rfl
  rw [rounds_succ]
  obtain ⟨W9,hWn⟩:∃ W9,W8.alloc (.cells #[.int .u64 ce2.vA,.int .u64 ce2.vB,.int .u8 1,.int .u32 q.wh,.int .u32 0,.bool ce2.is] 130)=W9:=⟨_,rfl⟩
  obtain ⟨gq0,hgn⟩:∃ gq0,W8.heap.size=gq0:=⟨_,rfl⟩
  have TT:=SS.out.alloc BEG.out #[.int .u64 ce2.vA,.int .u64 ce2.vB,.int .u8 1,.int .u32 q.wh,.int .u32 0,.bool ce2.is] 130
  rw [hgn,hWn] at TT
  replace TT:=Lib.hid TT
  have HWN:=Lib.hid hWn
  have HGN:=Lib.hid hgn
  clear hWn hgn
  go_wp2_with fail
  clear y0 y1 y2 y3 y4 y5
  try rw [HWN.out]
  try rw [HGN.out]
  clear HWN HGN SS
  have SS:=TT
  clear TT
  have CALL:=Lib.hid (amount_S SS.out BEG.out (by have:=HL.out;(try simp only [List.length_append,List.length_cons,List.length_nil]);omega) 1 q.wh 0 ce2.vA (show _=l++[amt 1 q.wh 0 ce2.vA] by simp))
  (with_reducible refine CALL.out.mono ?_)
  rintro e W10 ⟨rfl,hf,p10,hs⟩
  replace SS:=Lib.hid hs
  clear CALL hf hs
  go_wp2
  replace SS:=Lib.hid SS.out.drop
  obtain ⟨y0,y1,y2,y3,y4,y5⟩:=pile6 SS.out.bx.1.out 6 7 8 9 10 11 rfl rfl rfl rfl rfl rfl
  rw [rounds_succ]
  obtain ⟨W11,hWn⟩:∃ W11,W10.alloc (.cells #[.int .u64 ((ce3.vA + ce1.vA) - q.n),.int .u64 ce3.vB,.int .u8 (holdK ce1.vB),.int .u32 q.wh,.int .u32 (holdW ce1.vB),.bool ce3.is] 130)=W11:=⟨_,rfl⟩
  obtain ⟨gq1,hgn⟩:∃ gq1,W10.heap.size=gq1:=⟨_,rfl⟩
  have TT:=SS.out.alloc BEG.out #[.int .u64 ((ce3.vA + ce1.vA) - q.n),.int .u64 ce3.vB,.int .u8 (holdK ce1.vB),.int .u32 q.wh,.int .u32 (holdW ce1.vB),.bool ce3.is] 130
  rw [hgn,hWn] at TT
  replace TT:=Lib.hid TT
  have HWN:=Lib.hid hWn
  have HGN:=Lib.hid hgn
  clear hWn hgn
  go_wp2_with fail
  clear y0 y1 y2 y3 y4 y5
  try rw [HWN.out]
  try rw [HGN.out]
  clear HWN HGN SS
  have SS:=TT
  clear TT
  have CALL:=Lib.hid (amount_S SS.out BEG.out (by have:=HL.out;(try simp only [List.length_append,List.length_cons,List.length_nil]);omega) (holdK ce1.vB) q.wh (holdW ce1.vB) ((ce3.vA + ce1.vA) - q.n) (show _=l++[amt 1 q.wh 0 ce2.vA,amt (holdK ce1.vB) q.wh (holdW ce1.vB) ((ce3.vA + ce1.vA) - q.n)] by simp))
  (with_reducible refine CALL.out.mono ?_)
  rintro e W12 ⟨rfl,hf,p12,hs⟩
  replace SS:=Lib.hid hs
  clear CALL hf hs
  go_wp2
  replace SS:=Lib.hid SS.out.drop
  replace SS:=Lib.hid SS.out.drop
  rw [rounds_succ]
  have y0:W12.cell? ⟨g,5,none⟩=some (.int .u64 q.n):=SS.out.kn.c5
  have b0:(ce1.vB == 0)=false:=by have:=H2.out ce1 S1.out;simpa using this
  have b1:(ce1.vB != 0)=true:=by have:=H2.out ce1 S1.out;simpa using this
  have b2:(q.n == 0)=false:=by have:=HN.out;simpa using this
  have b3:(q.n != 0)=true:=by have:=HN.out;simpa using this
  have b4:(q.wt == 0)=false:=by have:=HW.out;simpa using this
  have b5:(q.wt != 0)=true:=by have:=HW.out;simpa using this
  have b6:(q.wt == ce1.vB)=true:=by have:=HV.out ce1 S1.out;simpa using this
  have b7:(q.wt != ce1.vB)=false:=by have:=HV.out ce1 S1.out;simpa using this
  have cv0:IntKind.u64.wrap q.wt=q.wt:=wrap_u64 HQ.out.wt.1 (by have:=HQ.out.wt;omega)
  go_upto_region 25 with fail
  clear cv0 y0 b0 b1 b2 b3 b4 b5 b6 b7
  refine wp_SA (D:=DP w g q v base i p l seen (oOffer q) Rp.enc) 15 16 17 True True (i + 1 + 1 + 1 + 1) (l++[amt 1 q.wh 0 ce2.vA,amt (holdK ce1.vB) q.wh (holdW ce1.vB) ((ce3.vA + ce1.vA) - q.n),Pu.mk 5 q.id n q.n q.wt false]) [pw g 0,some (.pointer (some ⟨gt1,2,none⟩),True),some (.agg #[.int .u8 5,.int .u32 q.id,.int .u32 n],True),pw g 0,pw g 0,pw g 0,pw g 5,some (.int .u64 q.n,True),pw g 0,pw g 0,pw g 0,pw g 3,some (.int .u32 q.wt,True),some (.int .u64 q.wt,True),some (.agg #[.int .u64 q.n,.int .u64 q.wt],True),some (.tuple #[],True)] SS.out (fun vals=>?_) (fun vals W13 hB hall=>?_)
  · simp only [ObD,Act.put,qA,qC,qZ]
    refine ⟨?_,?_,?o12_2,?_,?_,?_,?_,?_,?_,?_,?_,?_,?_,?o12_13,?_,?o12_15,trivial⟩
    all_goals (intro L W hL hk hC hw;have f:=deps hw rfl rfl;simp only [depF,vsP,pw,qS,qD,and_true,true_and] at f)
    case' o12_2=>have k2:W.cell? ⟨gt1,2,none⟩=some (.int .u8 5):=(cw_bx hC).1.out.cell 2;have k3:W.cell? ⟨gt1,3,none⟩=some (.int .u32 q.id):=(cw_bx hC).1.out.cell 3;have k4:W.cell? ⟨gt1,4,none⟩=some (.int .u32 n):=(cw_bx hC).1.out.cell 4
    case' o12_13=>have hcv:IntKind.u64.wrap q.wt=q.wt:=wrap_u64 (HQ.out.wt).1 (by have:=(HQ.out.wt).2;omega)
    case o12_15=>have CL:=Lib.hid (pk SS.out BEG.out (put_S (hC.pre hk) BEG.out (by have:=HL.out;(try simp only [List.length_append,List.length_cons,List.length_nil]);omega) 5 q.id n q.n q.wt (show _=l++[amt 1 q.wh 0 ce2.vA,amt (holdK ce1.vB) q.wh (holdW ce1.vB) ((ce3.vA + ce1.vA) - q.n),Pu.mk 5 q.id n q.n q.wt false] by simp)));clear hL hC hk hw;refine spD rfl ?_;go_simp;(with_reducible refine CL.out.mono ?_);rintro e w8 ⟨rfl,hf,H⟩;first | exact kv hf H rfl ⟨rfl,trivial⟩ | exact ⟨_,rfl,kv hf H rfl ⟨rfl,trivial⟩⟩
    all_goals (have c:=kn7 hC;clear hL hC hk hw;refine spD rfl ?_;go_simp;first | exact sv rfl ⟨rfl,trivial⟩ | exact ⟨_,rfl,sv rfl ⟨rfl,trivial⟩⟩)
  simp only [allF,vsP,pw,true_and,and_true,Nat.reduceAdd] at hall
  simp only [TL,Act.put,qA,qC,qZ,hall]
  obtain ⟨p13,hB⟩:=hB.put
  replace SS:=Lib.hid hB
  clear hall vals hB
  obtain ⟨⟨y0,y1,y2,y3,y4,y5⟩,-⟩:=six_cells SS.out.bx.2.1.out
  have CALL:=Lib.hid (put_S SS.out BEG.out (by have:=HL.out;(try simp only [List.length_append,List.length_cons,List.length_nil]);omega) 4 q.id 0 ce0.A 0 (show _=l++[amt 1 q.wh 0 ce2.vA,amt (holdK ce1.vB) q.wh (holdW ce1.vB) ((ce3.vA + ce1.vA) - q.n),Pu.mk 5 q.id n q.n q.wt false,Pu.mk 4 q.id 0 ce0.A 0 false] by simp))
  go_wp2_with fail
  (with_reducible refine CALL.out.mono ?_)
  rintro e W14 ⟨rfl,hf,p14,hs⟩
  replace SS:=Lib.hid hs
  clear CALL hf hs y0 y1 y2 y3 y4 y5
  have y0:W14.cell? ⟨g,5,none⟩=some (.int .u64 q.n):=SS.out.kn.c5
  obtain ⟨⟨z0,z1,z2,z3⟩,x0,x1,x2,x3⟩:=four_cells SS.out.bx.2.2.1.out
  go_wp2
  generalize hW:(World.setCell _ (⟨w.heap.size,3,none⟩:Addr) _)=WZ
  have b9:Box WZ w.heap.size #[.int .u16 0,.int .u64 q.n,.int .u64 0,.int .u64 0] 35:=by
    rw [← hW]
    exact four_box SS.out.bx.2.2.1.out
  have F9:Hid (Fr (fun x=>x=w.heap.size) W14 WZ):=Lib.hid (by
    rw [← hW]
    exact four_fr)
  obtain ⟨⟨v0,v1,v2,v3⟩,-⟩:=four_cells b9
  clear hW b9 z0 z1 z2 z3 x0 x1 x2 x3 y0
  refine bodyPost_ret (v:=.agg #[.int .u16 0,.int .u64 q.n,.int .u64 0,.int .u64 0]) (by simp [results,Tryz.results70,go_sem,v0,v1,v2,v3];try rfl) rfl ?_
  refine (SS.out.wr BEG.out 2 rfl F9.out).did (y:=(⟨q.n,0,0⟩,l++[amt 1 q.wh 0 ce2.vA,amt (holdK ce1.vB) q.wh (holdW ce1.vB) ((ce3.vA + ce1.vA) - q.n),Pu.mk 5 q.id n q.n q.wt false,Pu.mk 4 q.id 0 ce0.A 0 false])) ?_ rfl
  unfold oOffer
  simp only [runOm_bind,runOm_pure,run_there S0.out.1 S0.out.2,oSide_n (HC.out ce0 S0.out.1),runOm_pure,run_look S1.out,I1.out,EB.out,EN.out,EW.out,ES.out,and_true,true_and,and_false,false_and,or_true,true_or,or_false,false_or,not_true_eq_false,not_false_eq_true,ne_eq,if_true,if_false,Bool.false_eq_true,run_look S2.out,run_look S3.out,run_more C7.out,run_less C8.out.1 C8.out.2,oAmount,run_put,oAmount,run_put,run_put,run_put,List.append_assoc,List.cons_append,List.nil_append]
  try rfl
end Go.Proofs.YtabckmadpdchnaaGreat.Rule
namespace Go.Proofs.Each
open Go Go.RowKit
section
variable {P:Program} {ops:Array Oper} {a0:Act} {a t:Act}
theorem wp_region_eachR {id:Nat} {Q:Exit→Act→World→Prop} {w0:World} (hm:P.follows .mixedOrders=true) (hA:Apart ops)
    (hsel:∀ (i:Nat) (o:Oper),ops[i]?=some o→∀ cs b,o.op≠.select cs b)
    (hb:∀ (i:Nat) (o:Oper),ops[i]?=some o→∀ e∈o.after,Region.binds .any e=true→e.on < i)
    (hdep:∀ (i:Nat) (o:Oper),ops[i]?=some o→∀ d∈o.looksAt ops,∀ (j:Nat) (oj:Oper),ops[j]?=some oj→oj.dst=some d→∃ e∈o.after,Region.binds .any e=true∧e.on=j)
    (C:World→Prop) (R:Nat→World→World→Prop) (U:Nat→(Nat→Value)→World→Prop)
    (hC0:C w0.drew) (hCR:∀ i w w',i < ops.size→C w→R i w w'→C w')
    (hUm:∀ i j vals w w',i < ops.size→j≠i→C w→R i w w'→U j vals w→U j vals w')
    (hUc:∀ (j:Nat) (oj:Oper) vals vals',ops[j]?=some oj→vals j=vals' j→(∀ e∈oj.after,Region.binds .any e=true→vals e.on=vals' e.on)→∀ w,U j vals w→U j vals' w)
    (hstep:∀ (i:Nat) (oi:Oper),ops[i]?=some oi→∀ vals w,C w→(∀ e∈oi.after,Region.binds .any e=true→U e.on vals w) →
      wpOp P ops QF i (fun a' w'=>∃ v,a'=(T ops a0 vals i).put oi.dst v∧R i w w'∧U i (upd vals i v) w') (T ops a0 vals i) w)
    (hend:∀ vals w,C w→(∀ i,i < ops.size→U i vals w)→Q .normal (T ops a0 vals ops.size) w):(Code.region id ops true).wp P Q a0 w0:=by
  refine wp_region_inv hm (fun listed a w=>∃ vals,Agree ops a0 (fun j=>listed.getD j false=true) vals a∧C w∧(∀ j,j < ops.size→listed.getD j false=true→U j vals w)∧∀ (j:Nat) (oj:Oper),ops[j]?=some oj→listed.getD j false=true→∀ e∈oj.after,Region.binds .any e=true→listed.getD e.on false=true) ?_ ?_ ?_
  · have hno:∀ j,¬ (Array.replicate ops.size false).getD j false=true:=by
      intro j h
      rw [Array.getD_eq_getD_getElem?,Array.getElem?_replicate] at h
      split at h <;> simp at h
    exact ⟨fun _=>undef,Agree.start hno,hC0,fun j _ h=>absurd h (hno j),fun j _ _ h=>absurd h (hno j)⟩
  · intro listed a w i hs hI hi
    obtain ⟨vals,hag,hC,hU,hcl⟩:=hI
    obtain ⟨o,ho,hlt,hnl,haf⟩:=ready_at hs hi
    have hnl2:¬ listed.getD i false=true:=by
      rw [Array.getD_eq_getD_getElem?,Array.getElem?_eq_getElem (by omega)] at hnl ⊢
      simp only [Option.getD_some] at hnl ⊢
      rw [hnl];decide
    have hT:=agree_T (a0:=a0) hA vals i (Nat.le_of_lt hlt)
    have hlook:∀ d∈o.looksAt ops,a.tmps[d]?=(T ops a0 vals i).tmps[d]?:=fun d hd=>hag.at_ hT d fun j oj hj hjd=>by
      obtain ⟨e,he,hbe,rfl⟩:=hdep i o ho d hd j oj hj hjd
      exact ⟨fun _=>hb i o ho e he hbe,fun _=>haf e he hbe⟩
    have hst:=hstep i o ho vals w hC (fun e he hbe=>hU e.on (Nat.lt_trans (hb i o ho e he hbe) hlt) (haf e he hbe))
    have hfin:∀ v w',(R i w w'∧U i (upd vals i v) w')→∃ vals',Agree ops a0 (fun j=>(listed.setIfInBounds i true).getD j false=true) vals' (a.put o.dst v)∧C w'∧(∀ j,j < ops.size→(listed.setIfInBounds i true).getD j false=true→U j vals' w')∧∀ (j:Nat) (oj:Oper),ops[j]?=some oj→(listed.setIfInBounds i true).getD j false=true→∀ e∈oj.after,Region.binds .any e=true→(listed.setIfInBounds i true).getD e.on false=true:=by
      intro v w' ⟨hR,hUi⟩
      have hLL:∀ j,(listed.setIfInBounds i true).getD j false=true ↔ (listed.getD j false=true∨j=i):=by
        intro j
        rw [Array.getD_eq_getD_getElem?,Array.getD_eq_getD_getElem?,Array.getElem?_setIfInBounds]
        by_cases hij:i=j
        · subst hij;rw [if_pos rfl,if_pos (by omega)];simp
        · rw [if_neg hij]
          exact ⟨.inl,fun h=>h.resolve_right (fun e=>hij e.symm)⟩
      refine ⟨upd vals i v,hag.put hA ho hnl2 v hLL,hCR i _ _ hlt hC hR,fun j hj hl=>?_,fun j oj hj hl e he hbe=>?_⟩
      rcases (hLL j).1 hl with h1 | h1
      · have hji:j≠i:=by rintro rfl;exact hnl2 h1
        have hjo:ops[j]?=some ops[j]:=Array.getElem?_eq_getElem hj
        refine hUc j ops[j] vals (upd vals i v) hjo (upd_other _ _ _ _ hji).symm (fun e he hbe=>?_) w' (hUm i j vals w w' hlt hji hC hR (hU j hj h1))
        have h3:=hcl j ops[j] hjo h1 e he hbe
        exact (upd_other _ _ _ _ (by intro h4;rw [h4] at h3;exact hnl2 h3)).symm
      · subst h1;exact hUi
      · rcases (hLL j).1 hl with h1 | h1
        · exact (hLL e.on).2 (.inl (hcl j oj hj h1 e he hbe))
        · subst h1
          rw [ho] at hj;cases hj
          exact (hLL e.on).2 (.inl (haf e he hbe))
    unfold wpOp at hst ⊢
    simp only [ho] at hst ⊢
    rw [wanted_same o hlook]
    split
    · rename_i hw
      rw [if_pos hw] at hst
      rcases hst with hst | ⟨_,_,_,hst⟩
      · exact .inl (Oper.wp_mono (fun a' w' ⟨v,h1,h2⟩=>h1 ▸ hfin v w' h2) (wp_same (exec_same o (hsel i o ho) hlook) (hag.none hT) hst))
      · exact hst.elim
    · rename_i hw
      rw [if_neg hw] at hst
      obtain ⟨v,h1,h2⟩:=hst
      rw [put_val (hag.none hT) h1]
      exact hfin v w h2
  · intro listed a w hs hI hr
    obtain ⟨vals,hag,hC,hU,hcl⟩:=hI
    have hall:=all_listed hs hb hr
    rw [hag.same (agree_T hA vals ops.size (Nat.le_refl _)) (fun j hj=>⟨fun _=>hj,fun _=>hall j hj⟩)]
    exact hend vals w hC fun i hi=>hU i hi (hall i hi)
end
def StepC (P:Program) (ops:Array Oper) (C:World→Prop) (R:Nat→World→World→Prop) (F:Nat→(Nat→Value)→World→Prop) (vals:Nat→Value) (k:Nat) (o:Oper) (a:Act):Prop:=
  ∀ W,C W→(∀ e∈o.after,Region.binds .any e=true→F e.on vals W) →
    if Region.wanted o (yielded ops a.tmps)=true then o.wp P a W (fun a' W'=>∃ v,a'=a.put o.dst v∧R k W W'∧F k (upd vals k v) W') QF else R k W W∧F k (upd vals k undef) W
def ObC (P:Program) (ops:Array Oper) (C:World→Prop) (R:Nat→World→World→Prop) (F:Nat→(Nat→Value)→World→Prop) (vals:Nat→Value):Nat→List Oper→Act→Prop
  | _,[],_=>True
  | k,o :: r,a=>StepC P ops C R F vals k o a∧ObC P ops C R F vals (k + 1) r (a.put o.dst (vals k))
theorem obC_at {P:Program} {ops:Array Oper} {C:World→Prop} {R:Nat→World→World→Prop} {F:Nat→(Nat→Value)→World→Prop} {vals:Nat→Value} {a0:Act}:∀ (r:List Oper) (k:Nat),(∀ i o,r[i]?=some o→ops[k + i]?=some o)→ObC P ops C R F vals k r (T ops a0 vals k) →
    ∀ i o,r[i]?=some o→StepC P ops C R F vals (k + i) o (T ops a0 vals (k + i))
  | [],k,_,_,i,o,h=>by simp at h
  | x :: r,k,hk,⟨h1,h2⟩,0,o,h=>by simp at h;subst h;exact h1
  | x :: r,k,hk,⟨h1,h2⟩,i + 1,o,h=>by
    have h0:ops[k]?=some x:=hk 0 x rfl
    rw [show (T ops a0 vals k).put x.dst (vals k)=T ops a0 vals (k + 1) by simp only [T,h0,Option.bind_some]] at h2
    have:=obC_at r (k + 1) (fun i y hy=>by rw [show k + 1 + i=k + (i + 1) by omega];exact hk (i + 1) y (by simpa using hy)) h2 i o (by simpa using h)
    rwa [show k + 1 + i=k + (i + 1) by omega] at this
theorem wp_region_obC {P:Program} {l:List Oper} {a0:Act} {id:Nat} {Q:Exit→Act→World→Prop} {w0:World} (hm:P.follows .mixedOrders=true) (hB:fitB l.toArray=true)
    (C:World→Prop) (R:Nat→World→World→Prop) (F:Nat→(Nat→Value)→World→Prop)
    (hC0:C w0.drew) (hCR:∀ i w w',C w→R i w w'→C w') (hFm:∀ i j vals w w',j≠i→C w→R i w w'→F j vals w→F j vals w')
    (hFc:∀ (j:Nat) (oj:Oper) vals vals',l[j]?=some oj→vals j=vals' j→(∀ e∈oj.after,Region.binds .any e=true→vals e.on=vals' e.on)→∀ w,F j vals w→F j vals' w)
    (hob:∀ vals:Nat→Value,ObC P l.toArray C R F vals 0 l a0)
    (hend:∀ (vals:Nat→Value) W,C W→(∀ i,i < l.length→F i vals W)→Q .normal (TL vals 0 l a0) W):(Code.region id l.toArray true).wp P Q a0 w0:=by
  refine wp_region_eachR hm (fun i j oi oj d hi hj hdi hdj=>((fitB_at hB hi).2.2 j oj d hj hdj).2 hdi) (fun i o hi cs b e=>by have:=(fitB_at hB hi).1;rw [e] at this;cases this)
    (fun i o hi=>(fitB_at hB hi).2.1) (fun i o hi d hd j oj hj hjd=>((fitB_at hB hi).2.2 j oj d hj hjd).1 hd)
    C R F hC0 (fun i w w' _ h h'=>hCR i w w' h h') (fun i j vals w w' _ h0 h h'=>hFm i j vals w w' h0 h h') (fun j oj vals vals' hj=>hFc j oj vals vals' (by simpa using hj)) ?_ ?_
  · intro i oi hi vals W hc hw
    have hi':l[i]?=some oi:=by simpa using hi
    have h0:=obC_at l 0 (fun i o h=>by simpa using h) (hob vals) i oi hi'
    rw [Nat.zero_add] at h0
    have h1:=h0 W hc hw
    unfold wpOp
    simp only [hi]
    split
    · rename_i hx;rw [if_pos hx] at h1;exact .inl h1
    · rename_i hx;rw [if_neg hx] at h1;exact ⟨undef,rfl,h1⟩
  · intro vals W hc h
    have:=T_app vals a0 l.toArray l 0 fun i o h=>by simpa using h
    rw [Nat.zero_add] at this
    have h2:=hend vals W hc fun i hi=>h i (by simpa using hi)
    rw [show TL vals 0 l a0=T l.toArray a0 vals l.length from this] at h2
    simpa using h2
end Go.Proofs.Each
