import Derived.Test.YtabckmadpdchnaaGreatMo3
set_option linter.unusedVariables false
set_option linter.unusedSimpArgs false
set_option linter.unnecessarySimpa false
set_option maxRecDepth 100000
set_option maxHeartbeats 8000000
namespace Go.Proofs.YtabckmadpdchnaaGreat.Rule
open Go.ChangeShapes Go.WideShapes Go.ChangeAt Go.RowKit Go.IntWalk Go.Proofs.Mem Go.Proofs.Each
theorem settle_nn (w:World) (g:Nat) (q:Ot) (v:Value) (base i:Nat) (p:Value) (l:List Pu) (seen:List Ce) (hst:St w g q v base i p l) (hs:SeenAt w g v seen) (hg:g < base) (hbase:base≤w.heap.size) (hl:l.length≤800) (hi:i≤800000) (hq:q.Ok) (hok:∀ c∈seen,c.Ok) (t0 t1:Int) (h0:∀ c,seen[i]?=some c→c.is=false) (h1:∀ c,seen[i + 1]?=some c→c.is=false) :
    Calls Tryz.prog 100 #[.pointer (some ⟨g,0,none⟩),.agg #[.int .u32 t0,.int .u32 t1]] w (Did w g q v base i p l seen (oSettle q t0 t1) Rp.enc):=by
  have BEG:=Lib.hid (Begin.mk hs hg hbase hq hok (fun x hx=>hst.own.lt x hx))
  obtain ⟨Wt,hWt⟩:∃ W,w.alloc (.cells #[.int .u32 t0,.int .u32 t1] 153)=W:=⟨_,rfl⟩
  obtain ⟨W0,hW0⟩:∃ W0,Wt.alloc (.cells #[.int .u16 0,.int .u64 0,.int .u64 0,.int .u64 0] 35)=W0:=⟨_,rfl⟩
  obtain ⟨gto,hgto⟩:∃ x,w.heap.size=x:=⟨_,rfl⟩
  obtain ⟨gre,hgre⟩:∃ x,Wt.heap.size=x:=⟨_,rfl⟩
  have HGRE:=Lib.hid hgre
  have HGTO:=Lib.hid hgto
  have SS:Hid (ST w g q v base p i p l [.box gre #[.int .u16 0,.int .u64 0,.int .u64 0,.int .u64 0] 35,.box gto #[.int .u32 t0,.int .u32 t1] 153] W0):=Lib.hid (by rw [← hW0,← hgre,← hgto,← hWt];exact (ST.start hst BEG.out _ _).alloc BEG.out _ _)
  have HI:=Lib.hid hi
  have HQ:=Lib.hid hq
  have HOK:=Lib.hid hok
  have HL:=Lib.hid hl
  have IS0:=Lib.hid h0
  have IS1:=Lib.hid h1
  obtain ⟨ce0,hce0⟩:=the_cell seen (i)
  have CE0:=Lib.hid hce0
  obtain ⟨ce1,hce1⟩:=the_cell seen (i + 1)
  have CE1:=Lib.hid hce1
  clear hst hs hg hbase hl hi hq hok h0 h1 hgto hgre hce0 hce1
  go_enter Tryz.func100,Tryz.ntmps100
  go_upto_region 1 with fail
  try rw [hWt]
  try rw [hW0]
  rw [HGRE.out]
  try rw [HGTO.out]
  clear hW0 hWt HGTO HGRE
  refine wp_SK (D:=DP w g q v base i p l seen (oSettle q t0 t1) Rp.enc) 9 10 11 (seen[i]?=some ce0) (i + 1) #[.int .u64 ce0.vA,.int .u64 ce0.vB,.int .u8 5,.int .u32 q.id,.int .u32 0,.bool ce0.is] [pw g 0,pw g 0,pw g 7,pw g 0,pw g 0,pw g 0,pw g 4,some (.int .u32 q.id,True),some (.agg #[.int .u8 5,.int .u32 q.id,.int .u32 0],True),some (.agg (thing ce0.vA ce0.vB 5 q.id 0 ce0.is),True),none,none] SS.out (fun vals=>?_) (fun vals W1 hB hfin hall=>?_) (ea 10 rfl)
  · simp only [ObD,Act.put,qA,qC,qZ]
    refine ⟨?_,?_,?_,?_,?_,?_,?_,?_,?o0_8,?o0_9,?o0_10,?o0_11,trivial⟩
    all_goals (intro L W hL hk hC hw;have f:=deps hw rfl rfl;simp only [depF,vsP,pw,qS,qD,and_true,true_and] at f)
    case o0_8=>have CL:=Lib.hid (offer_any q.id 0 W);clear hL hC hk hw;refine spD rfl ?_;go_simp;(with_reducible refine CL.out.mono ?_);rintro e w8 ⟨rfl,h2⟩;first | exact sq h2 rfl ⟨rfl,trivial⟩ | exact ⟨_,rfl,sq h2 rfl ⟨rfl,trivial⟩⟩
    case o0_9=>
      have CL:=Lib.hid (look_K SS.out (hC.pre hk) BEG.out (by have:=HI.out;omega) CE0.out 5 q.id 0);clear hL hC hk hw;refine spD rfl ?_;go_simp;(with_reducible refine CL.out.mono ?_);rintro e w8 (⟨h,rfl,h2⟩ | ⟨h1,rfl,hf,H⟩)
      · exact ⟨_,rfl,Did.miss (by unfold oSettle;simp only [runOm_bind,run_look_no h]) h2⟩
      · first | exact kv hf H rfl ⟨rfl,trivial⟩ | exact ⟨_,rfl,kv hf H rfl ⟨rfl,trivial⟩⟩
    case o0_10=>have ZZ:=hC.fr.size;clear hL hC hk hw;refine spD rfl ?_;go_simp;exact am ZZ
    case o0_11=>obtain ⟨gt,C,fa,hgt,bx0,hc⟩:=Fw.geta (hw ⟨10,.data⟩ (by simp) rfl) (by decide);obtain ⟨c0,c1,c2,c3,c4,c5,rfl⟩:=arr6 hc;have q:=six_cells bx0;have BXX:=Lib.hid bx0;have FA:=Lib.hid fa;clear bx0 hc;unfold thing at f;clear hL hC hk hw;refine spD rfl ?_;go_simp;exact sm SS.out BEG.out BXX.out hgt FA.out
    all_goals (have c:=kn7 hC;clear hL hC hk hw;refine spD rfl ?_;go_simp;first | exact sv rfl ⟨rfl,trivial⟩ | exact ⟨_,rfl,sv rfl ⟨rfl,trivial⟩⟩)
  have S0:=Lib.hid hB.1
  simp only [allF,vsP,pw,true_and,and_true,Nat.reduceAdd] at hall
  obtain ⟨gt0,fa,hgt,bx⟩:=hfin
  simp only [TL,Act.put,qA,qC,qZ,hall,fa]
  replace SS:=Lib.hid (SS.out.push BEG.out hB.st SS.out.lt hgt bx)
  clear hall vals hB fa hgt bx
  go_upto_region 2 with fail
  refine wp_SK (D:=DP w g q v base i p l seen (oSettle q t0 t1) Rp.enc) 9 10 11 (seen[i + 1]?=some ce1) (i + 1 + 1) #[.int .u64 ce1.vA,.int .u64 ce1.vB,.int .u8 5,.int .u32 q.id,.int .u32 1,.bool ce1.is] [pw g 0,pw g 0,pw g 7,pw g 0,pw g 0,pw g 0,pw g 4,some (.int .u32 q.id,True),some (.agg #[.int .u8 5,.int .u32 q.id,.int .u32 1],True),some (.agg (thing ce1.vA ce1.vB 5 q.id 1 ce1.is),True),none,none] SS.out (fun vals=>?_) (fun vals W2 hB hfin hall=>?_) (ea 10 rfl)
  · simp only [ObD,Act.put,qA,qC,qZ]
    refine ⟨?_,?_,?_,?_,?_,?_,?_,?_,?o1_8,?o1_9,?o1_10,?o1_11,trivial⟩
    all_goals (intro L W hL hk hC hw;have f:=deps hw rfl rfl;simp only [depF,vsP,pw,qS,qD,and_true,true_and] at f)
    case o1_8=>have CL:=Lib.hid (offer_any q.id 1 W);clear hL hC hk hw;refine spD rfl ?_;go_simp;(with_reducible refine CL.out.mono ?_);rintro e w8 ⟨rfl,h2⟩;first | exact sq h2 rfl ⟨rfl,trivial⟩ | exact ⟨_,rfl,sq h2 rfl ⟨rfl,trivial⟩⟩
    case o1_9=>
      have CL:=Lib.hid (look_K SS.out (hC.pre hk) BEG.out (by have:=HI.out;omega) CE1.out 5 q.id 1);clear hL hC hk hw;refine spD rfl ?_;go_simp;(with_reducible refine CL.out.mono ?_);rintro e w8 (⟨h,rfl,h2⟩ | ⟨h1,rfl,hf,H⟩)
      · exact ⟨_,rfl,Did.miss (by unfold oSettle;simp only [runOm_bind,run_look S0.out,run_look_no h]) h2⟩
      · first | exact kv hf H rfl ⟨rfl,trivial⟩ | exact ⟨_,rfl,kv hf H rfl ⟨rfl,trivial⟩⟩
    case o1_10=>have ZZ:=hC.fr.size;clear hL hC hk hw;refine spD rfl ?_;go_simp;exact am ZZ
    case o1_11=>obtain ⟨gt,C,fa,hgt,bx0,hc⟩:=Fw.geta (hw ⟨10,.data⟩ (by simp) rfl) (by decide);obtain ⟨c0,c1,c2,c3,c4,c5,rfl⟩:=arr6 hc;have q:=six_cells bx0;have BXX:=Lib.hid bx0;have FA:=Lib.hid fa;clear bx0 hc;unfold thing at f;clear hL hC hk hw;refine spD rfl ?_;go_simp;exact sm SS.out BEG.out BXX.out hgt FA.out
    all_goals (have c:=kn7 hC;clear hL hC hk hw;refine spD rfl ?_;go_simp;first | exact sv rfl ⟨rfl,trivial⟩ | exact ⟨_,rfl,sv rfl ⟨rfl,trivial⟩⟩)
  have S1:=Lib.hid hB.1
  simp only [allF,vsP,pw,true_and,and_true,Nat.reduceAdd] at hall
  obtain ⟨gt1,fa,hgt,bx⟩:=hfin
  simp only [TL,Act.put,qA,qC,qZ,hall,fa]
  replace SS:=Lib.hid (SS.out.push BEG.out hB.st SS.out.lt hgt bx)
  clear hall vals hB fa hgt bx
  have I0:=Lib.hid (IS0.out ce0 S0.out)
  have I1:=Lib.hid (IS1.out ce1 S1.out)
  have SX:=SS.out
  rw [I0.out] at SX
  replace SS:=Lib.hid SX
  clear SX
  have SX:=SS.out
  rw [I1.out] at SX
  replace SS:=Lib.hid SX
  clear SX
  have e0:=I0.out
  have e1:=I1.out
  obtain ⟨⟨y0,y1,y2,y3,y4,y5⟩,-⟩:=six_cells SS.out.bx.2.1.out
  obtain ⟨⟨y6,y7,y8,y9,y10,y11⟩,-⟩:=six_cells SS.out.bx.1.out
  obtain ⟨W3,hWn⟩:∃ W3,W2.alloc (.cells #[.int .u64 ce0.vA,.int .u64 ce0.vB,.int .u8 5,.int .u32 q.id,.int .u32 0,.bool false,.int .u64 ce1.vA,.int .u64 ce1.vB,.int .u8 5,.int .u32 q.id,.int .u32 1,.bool false] 162)=W3:=⟨_,rfl⟩
  obtain ⟨ga,hgn⟩:∃ ga,W2.heap.size=ga:=⟨_,rfl⟩
  have TT:=SS.out.alloc BEG.out #[.int .u64 ce0.vA,.int .u64 ce0.vB,.int .u8 5,.int .u32 q.id,.int .u32 0,.bool false,.int .u64 ce1.vA,.int .u64 ce1.vB,.int .u8 5,.int .u32 q.id,.int .u32 1,.bool false] 162
  rw [hgn,hWn] at TT
  replace TT:=Lib.hid TT
  have HWN:=Lib.hid hWn
  have HGN:=Lib.hid hgn
  clear hWn hgn
  go_wp2
  clear e0 e1
  try rw [HWN.out]
  try rw [HGN.out]
  clear HWN HGN SS y0 y1 y2 y3 y4 y5 y6 y7 y8 y9 y10 y11
  have SS:=TT
  clear TT
  replace SS:=Lib.hid SS.out.drop1
  have hx0:∀ W,Sem.run Tryz.prog (Instr.index 162 (.agg #[.int .u64 ce0.vA,.int .u64 ce0.vB,.int .u8 5,.int .u32 q.id,.int .u32 0,.bool false,.int .u64 ce1.vA,.int .u64 ce1.vB,.int .u8 5,.int .u32 q.id,.int .u32 1,.bool false]) (.int .i64 0)) W=.ok (.agg #[.int .u64 ce0.vA,.int .u64 ce0.vB,.int .u8 5,.int .u32 q.id,.int .u32 0,.bool false]) W:=fun W=>by rfl
  have hx1:∀ W,Sem.run Tryz.prog (Instr.index 162 (.agg #[.int .u64 ce0.vA,.int .u64 ce0.vB,.int .u8 5,.int .u32 q.id,.int .u32 0,.bool false,.int .u64 ce1.vA,.int .u64 ce1.vB,.int .u8 5,.int .u32 q.id,.int .u32 1,.bool false]) (.int .i64 1)) W=.ok (.agg #[.int .u64 ce1.vA,.int .u64 ce1.vB,.int .u8 5,.int .u32 q.id,.int .u32 1,.bool false]) W:=fun W=>by rfl
  refine wp_loop_rounds 3 ?_
  rw [rounds_succ]
  obtain ⟨W4,hWn⟩:∃ W4,W3.alloc (.cells #[.int .u64 ce0.vA,.int .u64 ce0.vB,.int .u8 5,.int .u32 q.id,.int .u32 0,.bool false] 130)=W4:=⟨_,rfl⟩
  obtain ⟨go0,hgn⟩:∃ go0,W3.heap.size=go0:=⟨_,rfl⟩
  have TT:=SS.out.alloc BEG.out #[.int .u64 ce0.vA,.int .u64 ce0.vB,.int .u8 5,.int .u32 q.id,.int .u32 0,.bool false] 130
  rw [hgn,hWn] at TT
  replace TT:=Lib.hid TT
  have HWN:=Lib.hid hWn
  have HGN:=Lib.hid hgn
  clear hWn hgn
  go_wp2
  try rw [HWN.out]
  try rw [HGN.out]
  clear HWN HGN SS
  have SS:=TT
  clear TT
  replace SS:=Lib.hid SS.out.drop
  rw [rounds_succ]
  obtain ⟨W5,hWn⟩:∃ W5,W4.alloc (.cells #[.int .u64 ce1.vA,.int .u64 ce1.vB,.int .u8 5,.int .u32 q.id,.int .u32 1,.bool false] 130)=W5:=⟨_,rfl⟩
  obtain ⟨go1,hgn⟩:∃ go1,W4.heap.size=go1:=⟨_,rfl⟩
  have TT:=SS.out.alloc BEG.out #[.int .u64 ce1.vA,.int .u64 ce1.vB,.int .u8 5,.int .u32 q.id,.int .u32 1,.bool false] 130
  rw [hgn,hWn] at TT
  replace TT:=Lib.hid TT
  have HWN:=Lib.hid hWn
  have HGN:=Lib.hid hgn
  clear hWn hgn
  go_wp2
  try rw [HWN.out]
  try rw [HGN.out]
  clear HWN HGN SS
  have SS:=TT
  clear TT
  replace SS:=Lib.hid SS.out.drop
  have y0:W5.cell? ⟨ga,0,none⟩=some (.int .u64 ce0.vA):=SS.out.bx.1.out.cell 0
  have y1:W5.cell? ⟨ga,1,none⟩=some (.int .u64 ce0.vB):=SS.out.bx.1.out.cell 1
  have y2:W5.cell? ⟨ga,2,none⟩=some (.int .u8 5):=SS.out.bx.1.out.cell 2
  have y3:W5.cell? ⟨ga,3,none⟩=some (.int .u32 q.id):=SS.out.bx.1.out.cell 3
  have y4:W5.cell? ⟨ga,4,none⟩=some (.int .u32 0):=SS.out.bx.1.out.cell 4
  have y5:W5.cell? ⟨ga,5,none⟩=some (.bool false):=SS.out.bx.1.out.cell 5
  have y6:W5.cell? ⟨ga,6,none⟩=some (.int .u64 ce1.vA):=SS.out.bx.1.out.cell 6
  have y7:W5.cell? ⟨ga,7,none⟩=some (.int .u64 ce1.vB):=SS.out.bx.1.out.cell 7
  have y8:W5.cell? ⟨ga,8,none⟩=some (.int .u8 5):=SS.out.bx.1.out.cell 8
  have y9:W5.cell? ⟨ga,9,none⟩=some (.int .u32 q.id):=SS.out.bx.1.out.cell 9
  have y10:W5.cell? ⟨ga,10,none⟩=some (.int .u32 1):=SS.out.bx.1.out.cell 10
  have y11:W5.cell? ⟨ga,11,none⟩=some (.bool false):=SS.out.bx.1.out.cell 11
  rw [rounds_succ]
  go_wp2
  refine wp_loop_rounds 3 ?_
  clear y0 y1 y2 y3 y4 y5 y6 y7 y8 y9 y10 y11
  replace SS:=Lib.hid SS.out.drop
  rw [rounds_succ]
  obtain ⟨W6,hWn⟩:∃ W6,W5.alloc (.cells #[.int .u64 ce0.vA,.int .u64 ce0.vB,.int .u8 5,.int .u32 q.id,.int .u32 0,.bool false] 130)=W6:=⟨_,rfl⟩
  obtain ⟨gq0,hgn⟩:∃ gq0,W5.heap.size=gq0:=⟨_,rfl⟩
  have TT:=SS.out.alloc BEG.out #[.int .u64 ce0.vA,.int .u64 ce0.vB,.int .u8 5,.int .u32 q.id,.int .u32 0,.bool false] 130
  rw [hgn,hWn] at TT
  replace TT:=Lib.hid TT
  have HWN:=Lib.hid hWn
  have HGN:=Lib.hid hgn
  clear hWn hgn
  go_wp2
  try rw [HWN.out]
  try rw [HGN.out]
  clear HWN HGN SS
  have SS:=TT
  clear TT
  rw [rounds_succ]
  obtain ⟨W7,hWn⟩:∃ W7,W6.alloc (.cells #[.int .u64 ce1.vA,.int .u64 ce1.vB,.int .u8 5,.int .u32 q.id,.int .u32 1,.bool false] 130)=W7:=⟨_,rfl⟩
  obtain ⟨gq1,hgn⟩:∃ gq1,W6.heap.size=gq1:=⟨_,rfl⟩
  have TT:=SS.out.alloc BEG.out #[.int .u64 ce1.vA,.int .u64 ce1.vB,.int .u8 5,.int .u32 q.id,.int .u32 1,.bool false] 130
  rw [hgn,hWn] at TT
  replace TT:=Lib.hid TT
  have HWN:=Lib.hid hWn
  have HGN:=Lib.hid hgn
  clear hWn hgn
  go_wp2
  try rw [HWN.out]
  try rw [HGN.out]
  clear HWN HGN SS
  have SS:=TT
  clear TT
  rw [rounds_succ]
  have y0:W7.cell? ⟨g,4,none⟩=some (.int .u32 q.id):=SS.out.kn.c4
  go_wp2_with fail
  (with_reducible refine (trade_any q.id _).mono ?_)
  rintro e W8 ⟨rfl,hbl⟩
  clear y0
  replace SS:=Lib.hid (SS.out.later hbl)
  clear hbl
  have y0:W8.cell? ⟨g,4,none⟩=some (.int .u32 q.id):=SS.out.kn.c4
  have CALL:=Lib.hid (gone_S SS.out BEG.out (by have:=HL.out;(try simp only [List.length_append,List.length_cons,List.length_nil]);omega) 4 q.id 0 (show _=l++[Pu.mk 4 q.id 0 0 0 true] by simp))
  go_wp2_with fail
  (with_reducible refine CALL.out.mono ?_)
  rintro e W9 ⟨rfl,hf,p9,hs⟩
  replace SS:=Lib.hid hs
  clear CALL hf hs y0
  obtain ⟨⟨z0,z1,z2,z3⟩,x0,x1,x2,x3⟩:=four_cells SS.out.bx.2.2.2.1.out
  go_wp2
  generalize hW:(World.setCell _ (⟨gre,3,none⟩:Addr) _)=WZ
  have b9:Box WZ gre #[.int .u16 0,.int .u64 1,.int .u64 0,.int .u64 0] 35:=by
    rw [← hW]
    exact four_box SS.out.bx.2.2.2.1.out
  have F9:Hid (Fr (fun x=>x=gre) W9 WZ):=Lib.hid (by
    rw [← hW]
    exact four_fr)
  obtain ⟨⟨v0,v1,v2,v3⟩,-⟩:=four_cells b9
  clear hW b9 z0 z1 z2 z3 x0 x1 x2 x3
  refine bodyPost_ret (v:=.agg #[.int .u16 0,.int .u64 1,.int .u64 0,.int .u64 0]) (by simp [results,Tryz.results100,go_sem,v0,v1,v2,v3];try rfl) rfl ?_
  refine (SS.out.wr BEG.out 3 rfl F9.out).did (y:=(⟨1,0,0⟩,l++[Pu.mk 4 q.id 0 0 0 true])) ?_ rfl
  unfold oSettle
  simp only [runOm_bind,runOm_pure,run_look S0.out,run_look S1.out,I0.out,Bool.false_eq_true,if_false,I1.out,Bool.false_eq_true,if_false,oGone,run_put,oGone]
  try rfl
end Go.Proofs.YtabckmadpdchnaaGreat.Rule
namespace Go.Proofs.YtabckmadpdchnaaGreat.Rule
open Go.ChangeShapes Go.WideShapes Go.ChangeAt Go.RowKit Go.IntWalk Go.Proofs.Mem Go.Proofs.Each
theorem settle_yn (w:World) (g:Nat) (q:Ot) (v:Value) (base i:Nat) (p:Value) (l:List Pu) (seen:List Ce) (hst:St w g q v base i p l) (hs:SeenAt w g v seen) (hg:g < base) (hbase:base≤w.heap.size) (hl:l.length≤800) (hi:i≤800000) (hq:q.Ok) (hok:∀ c∈seen,c.Ok) (t0 t1:Int) (h0:∀ c,seen[i]?=some c→c.is=true) (h1:∀ c,seen[i + 1]?=some c→c.is=false) :
    Calls Tryz.prog 100 #[.pointer (some ⟨g,0,none⟩),.agg #[.int .u32 t0,.int .u32 t1]] w (Did w g q v base i p l seen (oSettle q t0 t1) Rp.enc):=by
  have BEG:=Lib.hid (Begin.mk hs hg hbase hq hok (fun x hx=>hst.own.lt x hx))
  obtain ⟨Wt,hWt⟩:∃ W,w.alloc (.cells #[.int .u32 t0,.int .u32 t1] 153)=W:=⟨_,rfl⟩
  obtain ⟨W0,hW0⟩:∃ W0,Wt.alloc (.cells #[.int .u16 0,.int .u64 0,.int .u64 0,.int .u64 0] 35)=W0:=⟨_,rfl⟩
  obtain ⟨gto,hgto⟩:∃ x,w.heap.size=x:=⟨_,rfl⟩
  obtain ⟨gre,hgre⟩:∃ x,Wt.heap.size=x:=⟨_,rfl⟩
  have HGRE:=Lib.hid hgre
  have HGTO:=Lib.hid hgto
  have SS:Hid (ST w g q v base p i p l [.box gre #[.int .u16 0,.int .u64 0,.int .u64 0,.int .u64 0] 35,.box gto #[.int .u32 t0,.int .u32 t1] 153] W0):=Lib.hid (by rw [← hW0,← hgre,← hgto,← hWt];exact (ST.start hst BEG.out _ _).alloc BEG.out _ _)
  have HI:=Lib.hid hi
  have HQ:=Lib.hid hq
  have HOK:=Lib.hid hok
  have HL:=Lib.hid hl
  have IS0:=Lib.hid h0
  have IS1:=Lib.hid h1
  obtain ⟨ce0,hce0⟩:=the_cell seen (i)
  have CE0:=Lib.hid hce0
  obtain ⟨ce1,hce1⟩:=the_cell seen (i + 1)
  have CE1:=Lib.hid hce1
  obtain ⟨ce2,hce2⟩:=the_cell seen (i + 1 + 1)
  have CE2:=Lib.hid hce2
  clear hst hs hg hbase hl hi hq hok h0 h1 hgto hgre hce0 hce1 hce2
  go_enter Tryz.func100,Tryz.ntmps100
  go_upto_region 1 with fail
  try rw [hWt]
  try rw [hW0]
  rw [HGRE.out]
  try rw [HGTO.out]
  clear hW0 hWt HGTO HGRE
  refine wp_SK (D:=DP w g q v base i p l seen (oSettle q t0 t1) Rp.enc) 9 10 11 (seen[i]?=some ce0) (i + 1) #[.int .u64 ce0.vA,.int .u64 ce0.vB,.int .u8 5,.int .u32 q.id,.int .u32 0,.bool ce0.is] [pw g 0,pw g 0,pw g 7,pw g 0,pw g 0,pw g 0,pw g 4,some (.int .u32 q.id,True),some (.agg #[.int .u8 5,.int .u32 q.id,.int .u32 0],True),some (.agg (thing ce0.vA ce0.vB 5 q.id 0 ce0.is),True),none,none] SS.out (fun vals=>?_) (fun vals W1 hB hfin hall=>?_) (ea 10 rfl)
  · simp only [ObD,Act.put,qA,qC,qZ]
    refine ⟨?_,?_,?_,?_,?_,?_,?_,?_,?o0_8,?o0_9,?o0_10,?o0_11,trivial⟩
    all_goals (intro L W hL hk hC hw;have f:=deps hw rfl rfl;simp only [depF,vsP,pw,qS,qD,and_true,true_and] at f)
    case o0_8=>have CL:=Lib.hid (offer_any q.id 0 W);clear hL hC hk hw;refine spD rfl ?_;go_simp;(with_reducible refine CL.out.mono ?_);rintro e w8 ⟨rfl,h2⟩;first | exact sq h2 rfl ⟨rfl,trivial⟩ | exact ⟨_,rfl,sq h2 rfl ⟨rfl,trivial⟩⟩
    case o0_9=>
      have CL:=Lib.hid (look_K SS.out (hC.pre hk) BEG.out (by have:=HI.out;omega) CE0.out 5 q.id 0);clear hL hC hk hw;refine spD rfl ?_;go_simp;(with_reducible refine CL.out.mono ?_);rintro e w8 (⟨h,rfl,h2⟩ | ⟨h1,rfl,hf,H⟩)
      · exact ⟨_,rfl,Did.miss (by unfold oSettle;simp only [runOm_bind,run_look_no h]) h2⟩
      · first | exact kv hf H rfl ⟨rfl,trivial⟩ | exact ⟨_,rfl,kv hf H rfl ⟨rfl,trivial⟩⟩
    case o0_10=>have ZZ:=hC.fr.size;clear hL hC hk hw;refine spD rfl ?_;go_simp;exact am ZZ
    case o0_11=>obtain ⟨gt,C,fa,hgt,bx0,hc⟩:=Fw.geta (hw ⟨10,.data⟩ (by simp) rfl) (by decide);obtain ⟨c0,c1,c2,c3,c4,c5,rfl⟩:=arr6 hc;have q:=six_cells bx0;have BXX:=Lib.hid bx0;have FA:=Lib.hid fa;clear bx0 hc;unfold thing at f;clear hL hC hk hw;refine spD rfl ?_;go_simp;exact sm SS.out BEG.out BXX.out hgt FA.out
    all_goals (have c:=kn7 hC;clear hL hC hk hw;refine spD rfl ?_;go_simp;first | exact sv rfl ⟨rfl,trivial⟩ | exact ⟨_,rfl,sv rfl ⟨rfl,trivial⟩⟩)
  have S0:=Lib.hid hB.1
  simp only [allF,vsP,pw,true_and,and_true,Nat.reduceAdd] at hall
  obtain ⟨gt0,fa,hgt,bx⟩:=hfin
  simp only [TL,Act.put,qA,qC,qZ,hall,fa]
  replace SS:=Lib.hid (SS.out.push BEG.out hB.st SS.out.lt hgt bx)
  clear hall vals hB fa hgt bx
  go_upto_region 2 with fail
  refine wp_SK (D:=DP w g q v base i p l seen (oSettle q t0 t1) Rp.enc) 9 10 11 (seen[i + 1]?=some ce1) (i + 1 + 1) #[.int .u64 ce1.vA,.int .u64 ce1.vB,.int .u8 5,.int .u32 q.id,.int .u32 1,.bool ce1.is] [pw g 0,pw g 0,pw g 7,pw g 0,pw g 0,pw g 0,pw g 4,some (.int .u32 q.id,True),some (.agg #[.int .u8 5,.int .u32 q.id,.int .u32 1],True),some (.agg (thing ce1.vA ce1.vB 5 q.id 1 ce1.is),True),none,none] SS.out (fun vals=>?_) (fun vals W2 hB hfin hall=>?_) (ea 10 rfl)
  · simp only [ObD,Act.put,qA,qC,qZ]
    refine ⟨?_,?_,?_,?_,?_,?_,?_,?_,?o1_8,?o1_9,?o1_10,?o1_11,trivial⟩
    all_goals (intro L W hL hk hC hw;have f:=deps hw rfl rfl;simp only [depF,vsP,pw,qS,qD,and_true,true_and] at f)
    case o1_8=>have CL:=Lib.hid (offer_any q.id 1 W);clear hL hC hk hw;refine spD rfl ?_;go_simp;(with_reducible refine CL.out.mono ?_);rintro e w8 ⟨rfl,h2⟩;first | exact sq h2 rfl ⟨rfl,trivial⟩ | exact ⟨_,rfl,sq h2 rfl ⟨rfl,trivial⟩⟩
    case o1_9=>
      have CL:=Lib.hid (look_K SS.out (hC.pre hk) BEG.out (by have:=HI.out;omega) CE1.out 5 q.id 1);clear hL hC hk hw;refine spD rfl ?_;go_simp;(with_reducible refine CL.out.mono ?_);rintro e w8 (⟨h,rfl,h2⟩ | ⟨h1,rfl,hf,H⟩)
      · exact ⟨_,rfl,Did.miss (by unfold oSettle;simp only [runOm_bind,run_look S0.out,run_look_no h]) h2⟩
      · first | exact kv hf H rfl ⟨rfl,trivial⟩ | exact ⟨_,rfl,kv hf H rfl ⟨rfl,trivial⟩⟩
    case o1_10=>have ZZ:=hC.fr.size;clear hL hC hk hw;refine spD rfl ?_;go_simp;exact am ZZ
    case o1_11=>obtain ⟨gt,C,fa,hgt,bx0,hc⟩:=Fw.geta (hw ⟨10,.data⟩ (by simp) rfl) (by decide);obtain ⟨c0,c1,c2,c3,c4,c5,rfl⟩:=arr6 hc;have q:=six_cells bx0;have BXX:=Lib.hid bx0;have FA:=Lib.hid fa;clear bx0 hc;unfold thing at f;clear hL hC hk hw;refine spD rfl ?_;go_simp;exact sm SS.out BEG.out BXX.out hgt FA.out
    all_goals (have c:=kn7 hC;clear hL hC hk hw;refine spD rfl ?_;go_simp;first | exact sv rfl ⟨rfl,trivial⟩ | exact ⟨_,rfl,sv rfl ⟨rfl,trivial⟩⟩)
  have S1:=Lib.hid hB.1
  simp only [allF,vsP,pw,true_and,and_true,Nat.reduceAdd] at hall
  obtain ⟨gt1,fa,hgt,bx⟩:=hfin
  simp only [TL,Act.put,qA,qC,qZ,hall,fa]
  replace SS:=Lib.hid (SS.out.push BEG.out hB.st SS.out.lt hgt bx)
  clear hall vals hB fa hgt bx
  have I0:=Lib.hid (IS0.out ce0 S0.out)
  have I1:=Lib.hid (IS1.out ce1 S1.out)
  have SX:=SS.out
  rw [I0.out] at SX
  replace SS:=Lib.hid SX
  clear SX
  have SX:=SS.out
  rw [I1.out] at SX
  replace SS:=Lib.hid SX
  clear SX
  have e0:=I0.out
  have e1:=I1.out
  obtain ⟨⟨y0,y1,y2,y3,y4,y5⟩,-⟩:=six_cells SS.out.bx.2.1.out
  obtain ⟨⟨y6,y7,y8,y9,y10,y11⟩,-⟩:=six_cells SS.out.bx.1.out
  obtain ⟨W3,hWn⟩:∃ W3,W2.alloc (.cells #[.int .u64 ce0.vA,.int .u64 ce0.vB,.int .u8 5,.int .u32 q.id,.int .u32 0,.bool true,.int .u64 ce1.vA,.int .u64 ce1.vB,.int .u8 5,.int .u32 q.id,.int .u32 1,.bool false] 162)=W3:=⟨_,rfl⟩
  obtain ⟨ga,hgn⟩:∃ ga,W2.heap.size=ga:=⟨_,rfl⟩
  have TT:=SS.out.alloc BEG.out #[.int .u64 ce0.vA,.int .u64 ce0.vB,.int .u8 5,.int .u32 q.id,.int .u32 0,.bool true,.int .u64 ce1.vA,.int .u64 ce1.vB,.int .u8 5,.int .u32 q.id,.int .u32 1,.bool false] 162
  rw [hgn,hWn] at TT
  replace TT:=Lib.hid TT
  have HWN:=Lib.hid hWn
  have HGN:=Lib.hid hgn
  clear hWn hgn
  go_wp2
  clear e0 e1
  try rw [HWN.out]
  try rw [HGN.out]
  clear HWN HGN SS y0 y1 y2 y3 y4 y5 y6 y7 y8 y9 y10 y11
  have SS:=TT
  clear TT
  replace SS:=Lib.hid SS.out.drop1
  have hx0:∀ W,Sem.run Tryz.prog (Instr.index 162 (.agg #[.int .u64 ce0.vA,.int .u64 ce0.vB,.int .u8 5,.int .u32 q.id,.int .u32 0,.bool true,.int .u64 ce1.vA,.int .u64 ce1.vB,.int .u8 5,.int .u32 q.id,.int .u32 1,.bool false]) (.int .i64 0)) W=.ok (.agg #[.int .u64 ce0.vA,.int .u64 ce0.vB,.int .u8 5,.int .u32 q.id,.int .u32 0,.bool true]) W:=fun W=>by rfl
  have hx1:∀ W,Sem.run Tryz.prog (Instr.index 162 (.agg #[.int .u64 ce0.vA,.int .u64 ce0.vB,.int .u8 5,.int .u32 q.id,.int .u32 0,.bool true,.int .u64 ce1.vA,.int .u64 ce1.vB,.int .u8 5,.int .u32 q.id,.int .u32 1,.bool false]) (.int .i64 1)) W=.ok (.agg #[.int .u64 ce1.vA,.int .u64 ce1.vB,.int .u8 5,.int .u32 q.id,.int .u32 1,.bool false]) W:=fun W=>by rfl
  refine wp_loop_rounds 3 ?_
  rw [rounds_succ]
  obtain ⟨W4,hWn⟩:∃ W4,W3.alloc (.cells #[.int .u64 ce0.vA,.int .u64 ce0.vB,.int .u8 5,.int .u32 q.id,.int .u32 0,.bool true] 130)=W4:=⟨_,rfl⟩
  obtain ⟨go0,hgn⟩:∃ go0,W3.heap.size=go0:=⟨_,rfl⟩
  have TT:=SS.out.alloc BEG.out #[.int .u64 ce0.vA,.int .u64 ce0.vB,.int .u8 5,.int .u32 q.id,.int .u32 0,.bool true] 130
  rw [hgn,hWn] at TT
  replace TT:=Lib.hid TT
  have HWN:=Lib.hid hWn
  have HGN:=Lib.hid hgn
  clear hWn hgn
  go_upto_region 8 with fail
  try rw [HWN.out]
  try rw [HGN.out]
  clear HWN HGN SS
  have SS:=TT
  clear TT
  refine wp_SK (D:=DP w g q v base i p l seen (oSettle q t0 t1) Rp.enc) 10 11 12 (seen[i + 1 + 1]?=some ce2) (i + 1 + 1 + 1) #[.int .u64 ce2.vA,.int .u64 ce2.vB,.int .u8 (holdK ce0.vB),.int .u32 t0,.int .u32 (holdW ce0.vB),.bool ce2.is] [pw g 0,pw g 0,pw g 7,some (.int .i64 0,True),some (.pointer (some ⟨gto,0,none⟩),True),some (.int .u32 t0,True),some (.pointer (some ⟨go0,0,none⟩),True),some (.pointer (some ⟨go0,1,none⟩),True),some (.int .u64 ce0.vB,True),some (.agg #[.int .u8 (holdK ce0.vB),.int .u32 t0,.int .u32 (holdW ce0.vB)],True),some (.agg (thing ce2.vA ce2.vB (holdK ce0.vB) t0 (holdW ce0.vB) ce2.is),True),none,none] SS.out (fun vals=>?_) (fun vals W5 hB hfin hall=>?_) (ea 11 rfl)
  · simp only [ObD,Act.put,qA,qC,qZ]
    refine ⟨?_,?_,?_,?_,?_,?o4_5,?_,?_,?o4_8,?o4_9,?o4_10,?o4_11,?o4_12,trivial⟩
    all_goals (intro L W hL hk hC hw;have f:=deps hw rfl rfl;simp only [depF,vsP,pw,qS,qD,and_true,true_and] at f)
    case' o4_5=>have k0:W.cell? ⟨gto,0,none⟩=some (.int .u32 t0):=(cw_bx hC).2.2.2.2.1.out.cell 0
    case' o4_8=>have k1:W.cell? ⟨go0,1,none⟩=some (.int .u64 ce0.vB):=(cw_bx hC).1.out.cell 1
    case o4_9=>have CL:=Lib.hid (hold_any t0 ce0.vB W);clear hL hC hk hw;refine spD rfl ?_;go_simp;(with_reducible refine CL.out.mono ?_);rintro e w8 ⟨rfl,h2⟩;first | exact sq h2 rfl ⟨rfl,trivial⟩ | exact ⟨_,rfl,sq h2 rfl ⟨rfl,trivial⟩⟩
    case o4_10=>
      have CL:=Lib.hid (look_K SS.out (hC.pre hk) BEG.out (by have:=HI.out;omega) CE2.out (holdK ce0.vB) t0 (holdW ce0.vB));clear hL hC hk hw;refine spD rfl ?_;go_simp;(with_reducible refine CL.out.mono ?_);rintro e w8 (⟨h,rfl,h2⟩ | ⟨h1,rfl,hf,H⟩)
      · exact ⟨_,rfl,Did.miss (by unfold oSettle;simp only [runOm_bind,run_look S0.out,run_look S1.out,I0.out,if_true,run_look_no h]) h2⟩
      · first | exact kv hf H rfl ⟨rfl,trivial⟩ | exact ⟨_,rfl,kv hf H rfl ⟨rfl,trivial⟩⟩
    case o4_11=>have ZZ:=hC.fr.size;clear hL hC hk hw;refine spD rfl ?_;go_simp;exact am ZZ
    case o4_12=>obtain ⟨gt,C,fa,hgt,bx0,hc⟩:=Fw.geta (hw ⟨11,.data⟩ (by simp) rfl) (by decide);obtain ⟨c0,c1,c2,c3,c4,c5,rfl⟩:=arr6 hc;have q:=six_cells bx0;have BXX:=Lib.hid bx0;have FA:=Lib.hid fa;clear bx0 hc;unfold thing at f;clear hL hC hk hw;refine spD rfl ?_;go_simp;exact sm SS.out BEG.out BXX.out hgt FA.out
    all_goals (have c:=kn7 hC;clear hL hC hk hw;refine spD rfl ?_;go_simp;first | exact sv rfl ⟨rfl,trivial⟩ | exact ⟨_,rfl,sv rfl ⟨rfl,trivial⟩⟩)
  have S2:=Lib.hid hB.1
  simp only [allF,vsP,pw,true_and,and_true,Nat.reduceAdd] at hall
  obtain ⟨gp0,fa,hgt,bx⟩:=hfin
  simp only [TL,Act.put,qA,qC,qZ,hall,fa]
  replace SS:=Lib.hid (SS.out.push BEG.out hB.st SS.out.lt hgt bx)
  clear hall vals hB fa hgt bx
  go_upto_region 9 with fail
  refine wp_SA (D:=DP w g q v base i p l seen (oSettle q t0 t1) Rp.enc) 10 11 12 True True (i + 1 + 1 + 1) (l++[amt (holdK ce0.vB) t0 (holdW ce0.vB) (ce2.vA + ce0.vA)]) [pw g 0,some (.pointer (some ⟨gp0,2,none⟩),True),some (.agg #[.int .u8 (holdK ce0.vB),.int .u32 t0,.int .u32 (holdW ce0.vB)],True),some (.pointer (some ⟨gp0,0,none⟩),True),some (.pointer (some ⟨gp0,0,none⟩),True),some (.int .u64 ce2.vA,True),some (.pointer (some ⟨go0,0,none⟩),True),some (.pointer (some ⟨go0,0,none⟩),True),some (.int .u64 ce0.vA,True),some (.int .u64 (ce2.vA + ce0.vA),Mr ce2.vA ce0.vA),some (.tuple #[],True)] SS.out (fun vals=>?_) (fun vals W6 hB hall=>?_)
  · simp only [ObD,Act.put,qA,qC,qZ]
    refine ⟨?_,?_,?o5_2,?_,?_,?o5_5,?_,?_,?o5_8,?o5_9,?o5_10,trivial⟩
    all_goals (intro L W hL hk hC hw;have f:=deps hw rfl rfl;simp only [depF,vsP,pw,qS,qD,and_true,true_and] at f)
    case' o5_2=>have k2:W.cell? ⟨gp0,2,none⟩=some (.int .u8 (holdK ce0.vB)):=(cw_bx hC).1.out.cell 2;have k3:W.cell? ⟨gp0,3,none⟩=some (.int .u32 t0):=(cw_bx hC).1.out.cell 3;have k4:W.cell? ⟨gp0,4,none⟩=some (.int .u32 (holdW ce0.vB)):=(cw_bx hC).1.out.cell 4
    case' o5_5=>have k0:W.cell? ⟨gp0,0,none⟩=some (.int .u64 ce2.vA):=(cw_bx hC).1.out.cell 0
    case' o5_8=>have k0:W.cell? ⟨go0,0,none⟩=some (.int .u64 ce0.vA):=(cw_bx hC).2.1.out.cell 0
    case o5_9=>
      have CL:=Lib.hid (more_C (vA_ok HOK.out S2.out) (vA_ok HOK.out S0.out) hC SS.out BEG.out);clear hL hC hk hw;refine spD rfl ?_;go_simp;(with_reducible refine CL.out.mono ?_)
      rintro e w8 (⟨h,rfl,h2⟩ | ⟨h1,rfl,h2⟩)
      · exact ⟨_,rfl,Did.err (by unfold oSettle;simp only [runOm_bind,run_look S0.out,run_look S1.out,I0.out,if_true,run_look S2.out,run_more_no h]) h2⟩
      · first | exact sq h2 rfl ⟨rfl,h1⟩ | exact ⟨_,rfl,sq h2 rfl ⟨rfl,h1⟩⟩
    case o5_10=>have CL:=Lib.hid (pk SS.out BEG.out (amount_S (hC.pre hk) BEG.out (by have:=HL.out;(try simp only [List.length_append,List.length_cons,List.length_nil]);omega) (holdK ce0.vB) t0 (holdW ce0.vB) (ce2.vA + ce0.vA) (show _=l++[amt (holdK ce0.vB) t0 (holdW ce0.vB) (ce2.vA + ce0.vA)] by simp)));clear hL hC hk hw;refine spD rfl ?_;go_simp;(with_reducible refine CL.out.mono ?_);rintro e w8 ⟨rfl,hf,H⟩;first | exact kv hf H rfl ⟨rfl,trivial⟩ | exact ⟨_,rfl,kv hf H rfl ⟨rfl,trivial⟩⟩
    all_goals (have c:=kn7 hC;clear hL hC hk hw;refine spD rfl ?_;go_simp;first | exact sv rfl ⟨rfl,trivial⟩ | exact ⟨_,rfl,sv rfl ⟨rfl,trivial⟩⟩)
  have C6:Hid (Mr ce2.vA ce0.vA):=Lib.hid (vsP_c (hall.get 9))
  simp only [allF,vsP,pw,true_and,and_true,Nat.reduceAdd] at hall
  simp only [TL,Act.put,qA,qC,qZ,hall]
  obtain ⟨p6,hB⟩:=hB.put
  replace SS:=Lib.hid hB
  clear hall vals hB
  go_wp2
  replace SS:=Lib.hid SS.out.drop
  replace SS:=Lib.hid SS.out.drop
  rw [rounds_succ]
  obtain ⟨W7,hWn⟩:∃ W7,W6.alloc (.cells #[.int .u64 ce1.vA,.int .u64 ce1.vB,.int .u8 5,.int .u32 q.id,.int .u32 1,.bool false] 130)=W7:=⟨_,rfl⟩
  obtain ⟨go1,hgn⟩:∃ go1,W6.heap.size=go1:=⟨_,rfl⟩
  have TT:=SS.out.alloc BEG.out #[.int .u64 ce1.vA,.int .u64 ce1.vB,.int .u8 5,.int .u32 q.id,.int .u32 1,.bool false] 130
  rw [hgn,hWn] at TT
  replace TT:=Lib.hid TT
  have HWN:=Lib.hid hWn
  have HGN:=Lib.hid hgn
  clear hWn hgn
  go_wp2
  try rw [HWN.out]
  try rw [HGN.out]
  clear HWN HGN SS
  have SS:=TT
  clear TT
  replace SS:=Lib.hid SS.out.drop
  have y0:W7.cell? ⟨ga,0,none⟩=some (.int .u64 ce0.vA):=SS.out.bx.1.out.cell 0
  have y1:W7.cell? ⟨ga,1,none⟩=some (.int .u64 ce0.vB):=SS.out.bx.1.out.cell 1
  have y2:W7.cell? ⟨ga,2,none⟩=some (.int .u8 5):=SS.out.bx.1.out.cell 2
  have y3:W7.cell? ⟨ga,3,none⟩=some (.int .u32 q.id):=SS.out.bx.1.out.cell 3
  have y4:W7.cell? ⟨ga,4,none⟩=some (.int .u32 0):=SS.out.bx.1.out.cell 4
  have y5:W7.cell? ⟨ga,5,none⟩=some (.bool true):=SS.out.bx.1.out.cell 5
  have y6:W7.cell? ⟨ga,6,none⟩=some (.int .u64 ce1.vA):=SS.out.bx.1.out.cell 6
  have y7:W7.cell? ⟨ga,7,none⟩=some (.int .u64 ce1.vB):=SS.out.bx.1.out.cell 7
  have y8:W7.cell? ⟨ga,8,none⟩=some (.int .u8 5):=SS.out.bx.1.out.cell 8
  have y9:W7.cell? ⟨ga,9,none⟩=some (.int .u32 q.id):=SS.out.bx.1.out.cell 9
  have y10:W7.cell? ⟨ga,10,none⟩=some (.int .u32 1):=SS.out.bx.1.out.cell 10
  have y11:W7.cell? ⟨ga,11,none⟩=some (.bool false):=SS.out.bx.1.out.cell 11
  rw [rounds_succ]
  go_wp2
  refine wp_loop_rounds 3 ?_
  clear y0 y1 y2 y3 y4 y5 y6 y7 y8 y9 y10 y11
  replace SS:=Lib.hid SS.out.drop
  rw [rounds_succ]
  obtain ⟨W8,hWn⟩:∃ W8,W7.alloc (.cells #[.int .u64 ce0.vA,.int .u64 ce0.vB,.int .u8 5,.int .u32 q.id,.int .u32 0,.bool true] 130)=W8:=⟨_,rfl⟩
  obtain ⟨gq0,hgn⟩:∃ gq0,W7.heap.size=gq0:=⟨_,rfl⟩
  have TT:=SS.out.alloc BEG.out #[.int .u64 ce0.vA,.int .u64 ce0.vB,.int .u8 5,.int .u32 q.id,.int .u32 0,.bool true] 130
  rw [hgn,hWn] at TT
  replace TT:=Lib.hid TT
  have HWN:=Lib.hid hWn
  have HGN:=Lib.hid hgn
  clear hWn hgn
  go_wp2_with fail
  try rw [HWN.out]
  try rw [HGN.out]
  clear HWN HGN SS
  have SS:=TT
  clear TT
  have CALL:=Lib.hid (gone_S SS.out BEG.out (by have:=HL.out;(try simp only [List.length_append,List.length_cons,List.length_nil]);omega) 5 q.id 0 (show _=l++[amt (holdK ce0.vB) t0 (holdW ce0.vB) (ce2.vA + ce0.vA),Pu.mk 5 q.id 0 0 0 true] by simp))
  (with_reducible refine CALL.out.mono ?_)
  rintro e W9 ⟨rfl,hf,p9,hs⟩
  replace SS:=Lib.hid hs
  clear CALL hf hs
  go_wp2
  rw [rounds_succ]
  obtain ⟨W10,hWn⟩:∃ W10,W9.alloc (.cells #[.int .u64 ce1.vA,.int .u64 ce1.vB,.int .u8 5,.int .u32 q.id,.int .u32 1,.bool false] 130)=W10:=⟨_,rfl⟩
  obtain ⟨gq1,hgn⟩:∃ gq1,W9.heap.size=gq1:=⟨_,rfl⟩
  have TT:=SS.out.alloc BEG.out #[.int .u64 ce1.vA,.int .u64 ce1.vB,.int .u8 5,.int .u32 q.id,.int .u32 1,.bool false] 130
  rw [hgn,hWn] at TT
  replace TT:=Lib.hid TT
  have HWN:=Lib.hid hWn
  have HGN:=Lib.hid hgn
  clear hWn hgn
  go_wp2
  try rw [HWN.out]
  try rw [HGN.out]
  clear HWN HGN SS
  have SS:=TT
  clear TT
  rw [rounds_succ]
  have y0:W10.cell? ⟨g,4,none⟩=some (.int .u32 q.id):=SS.out.kn.c4
  go_wp2_with fail
  (with_reducible refine (trade_any q.id _).mono ?_)
  rintro e W11 ⟨rfl,hbl⟩
  clear y0
  replace SS:=Lib.hid (SS.out.later hbl)
  clear hbl
  have y0:W11.cell? ⟨g,4,none⟩=some (.int .u32 q.id):=SS.out.kn.c4
  have CALL:=Lib.hid (gone_S SS.out BEG.out (by have:=HL.out;(try simp only [List.length_append,List.length_cons,List.length_nil]);omega) 4 q.id 0 (show _=l++[amt (holdK ce0.vB) t0 (holdW ce0.vB) (ce2.vA + ce0.vA),Pu.mk 5 q.id 0 0 0 true,Pu.mk 4 q.id 0 0 0 true] by simp))
  go_wp2_with fail
  (with_reducible refine CALL.out.mono ?_)
  rintro e W12 ⟨rfl,hf,p12,hs⟩
  replace SS:=Lib.hid hs
  clear CALL hf hs y0
  obtain ⟨⟨z0,z1,z2,z3⟩,x0,x1,x2,x3⟩:=four_cells SS.out.bx.2.2.2.1.out
  go_wp2
  generalize hW:(World.setCell _ (⟨gre,3,none⟩:Addr) _)=WZ
  have b9:Box WZ gre #[.int .u16 0,.int .u64 1,.int .u64 0,.int .u64 0] 35:=by
    rw [← hW]
    exact four_box SS.out.bx.2.2.2.1.out
  have F9:Hid (Fr (fun x=>x=gre) W12 WZ):=Lib.hid (by
    rw [← hW]
    exact four_fr)
  obtain ⟨⟨v0,v1,v2,v3⟩,-⟩:=four_cells b9
  clear hW b9 z0 z1 z2 z3 x0 x1 x2 x3
  refine bodyPost_ret (v:=.agg #[.int .u16 0,.int .u64 1,.int .u64 0,.int .u64 0]) (by simp [results,Tryz.results100,go_sem,v0,v1,v2,v3];try rfl) rfl ?_
  refine (SS.out.wr BEG.out 3 rfl F9.out).did (y:=(⟨1,0,0⟩,l++[amt (holdK ce0.vB) t0 (holdW ce0.vB) (ce2.vA + ce0.vA),Pu.mk 5 q.id 0 0 0 true,Pu.mk 4 q.id 0 0 0 true])) ?_ rfl
  unfold oSettle
  simp only [runOm_bind,runOm_pure,run_look S0.out,run_look S1.out,I0.out,if_true,run_look S2.out,run_more C6.out,oAmount,run_put,I1.out,Bool.false_eq_true,if_false,oGone,run_put,oGone,run_put,oGone,List.append_assoc,List.cons_append,List.nil_append]
  try rfl
end Go.Proofs.YtabckmadpdchnaaGreat.Rule
namespace Go.Proofs.YtabckmadpdchnaaGreat.Rule
open Go.ChangeShapes Go.WideShapes Go.ChangeAt Go.RowKit Go.IntWalk Go.Proofs.Mem Go.Proofs.Each
theorem settle_ny (w:World) (g:Nat) (q:Ot) (v:Value) (base i:Nat) (p:Value) (l:List Pu) (seen:List Ce) (hst:St w g q v base i p l) (hs:SeenAt w g v seen) (hg:g < base) (hbase:base≤w.heap.size) (hl:l.length≤800) (hi:i≤800000) (hq:q.Ok) (hok:∀ c∈seen,c.Ok) (t0 t1:Int) (h0:∀ c,seen[i]?=some c→c.is=false) (h1:∀ c,seen[i + 1]?=some c→c.is=true) :
    Calls Tryz.prog 100 #[.pointer (some ⟨g,0,none⟩),.agg #[.int .u32 t0,.int .u32 t1]] w (Did w g q v base i p l seen (oSettle q t0 t1) Rp.enc):=by
  have BEG:=Lib.hid (Begin.mk hs hg hbase hq hok (fun x hx=>hst.own.lt x hx))
  obtain ⟨Wt,hWt⟩:∃ W,w.alloc (.cells #[.int .u32 t0,.int .u32 t1] 153)=W:=⟨_,rfl⟩
  obtain ⟨W0,hW0⟩:∃ W0,Wt.alloc (.cells #[.int .u16 0,.int .u64 0,.int .u64 0,.int .u64 0] 35)=W0:=⟨_,rfl⟩
  obtain ⟨gto,hgto⟩:∃ x,w.heap.size=x:=⟨_,rfl⟩
  obtain ⟨gre,hgre⟩:∃ x,Wt.heap.size=x:=⟨_,rfl⟩
  have HGRE:=Lib.hid hgre
  have HGTO:=Lib.hid hgto
  have SS:Hid (ST w g q v base p i p l [.box gre #[.int .u16 0,.int .u64 0,.int .u64 0,.int .u64 0] 35,.box gto #[.int .u32 t0,.int .u32 t1] 153] W0):=Lib.hid (by rw [← hW0,← hgre,← hgto,← hWt];exact (ST.start hst BEG.out _ _).alloc BEG.out _ _)
  have HI:=Lib.hid hi
  have HQ:=Lib.hid hq
  have HOK:=Lib.hid hok
  have HL:=Lib.hid hl
  have IS0:=Lib.hid h0
  have IS1:=Lib.hid h1
  obtain ⟨ce0,hce0⟩:=the_cell seen (i)
  have CE0:=Lib.hid hce0
  obtain ⟨ce1,hce1⟩:=the_cell seen (i + 1)
  have CE1:=Lib.hid hce1
  obtain ⟨ce2,hce2⟩:=the_cell seen (i + 1 + 1)
  have CE2:=Lib.hid hce2
  clear hst hs hg hbase hl hi hq hok h0 h1 hgto hgre hce0 hce1 hce2
  go_enter Tryz.func100,Tryz.ntmps100
  go_upto_region 1 with fail
  try rw [hWt]
  try rw [hW0]
  rw [HGRE.out]
  try rw [HGTO.out]
  clear hW0 hWt HGTO HGRE
  refine wp_SK (D:=DP w g q v base i p l seen (oSettle q t0 t1) Rp.enc) 9 10 11 (seen[i]?=some ce0) (i + 1) #[.int .u64 ce0.vA,.int .u64 ce0.vB,.int .u8 5,.int .u32 q.id,.int .u32 0,.bool ce0.is] [pw g 0,pw g 0,pw g 7,pw g 0,pw g 0,pw g 0,pw g 4,some (.int .u32 q.id,True),some (.agg #[.int .u8 5,.int .u32 q.id,.int .u32 0],True),some (.agg (thing ce0.vA ce0.vB 5 q.id 0 ce0.is),True),none,none] SS.out (fun vals=>?_) (fun vals W1 hB hfin hall=>?_) (ea 10 rfl)
  · simp only [ObD,Act.put,qA,qC,qZ]
    refine ⟨?_,?_,?_,?_,?_,?_,?_,?_,?o0_8,?o0_9,?o0_10,?o0_11,trivial⟩
    all_goals (intro L W hL hk hC hw;have f:=deps hw rfl rfl;simp only [depF,vsP,pw,qS,qD,and_true,true_and] at f)
    case o0_8=>have CL:=Lib.hid (offer_any q.id 0 W);clear hL hC hk hw;refine spD rfl ?_;go_simp;(with_reducible refine CL.out.mono ?_);rintro e w8 ⟨rfl,h2⟩;first | exact sq h2 rfl ⟨rfl,trivial⟩ | exact ⟨_,rfl,sq h2 rfl ⟨rfl,trivial⟩⟩
    case o0_9=>
      have CL:=Lib.hid (look_K SS.out (hC.pre hk) BEG.out (by have:=HI.out;omega) CE0.out 5 q.id 0);clear hL hC hk hw;refine spD rfl ?_;go_simp;(with_reducible refine CL.out.mono ?_);rintro e w8 (⟨h,rfl,h2⟩ | ⟨h1,rfl,hf,H⟩)
      · exact ⟨_,rfl,Did.miss (by unfold oSettle;simp only [runOm_bind,run_look_no h]) h2⟩
      · first | exact kv hf H rfl ⟨rfl,trivial⟩ | exact ⟨_,rfl,kv hf H rfl ⟨rfl,trivial⟩⟩
    case o0_10=>have ZZ:=hC.fr.size;clear hL hC hk hw;refine spD rfl ?_;go_simp;exact am ZZ
    case o0_11=>obtain ⟨gt,C,fa,hgt,bx0,hc⟩:=Fw.geta (hw ⟨10,.data⟩ (by simp) rfl) (by decide);obtain ⟨c0,c1,c2,c3,c4,c5,rfl⟩:=arr6 hc;have q:=six_cells bx0;have BXX:=Lib.hid bx0;have FA:=Lib.hid fa;clear bx0 hc;unfold thing at f;clear hL hC hk hw;refine spD rfl ?_;go_simp;exact sm SS.out BEG.out BXX.out hgt FA.out
    all_goals (have c:=kn7 hC;clear hL hC hk hw;refine spD rfl ?_;go_simp;first | exact sv rfl ⟨rfl,trivial⟩ | exact ⟨_,rfl,sv rfl ⟨rfl,trivial⟩⟩)
  have S0:=Lib.hid hB.1
  simp only [allF,vsP,pw,true_and,and_true,Nat.reduceAdd] at hall
  obtain ⟨gt0,fa,hgt,bx⟩:=hfin
  simp only [TL,Act.put,qA,qC,qZ,hall,fa]
  replace SS:=Lib.hid (SS.out.push BEG.out hB.st SS.out.lt hgt bx)
  clear hall vals hB fa hgt bx
  go_upto_region 2 with fail
  refine wp_SK (D:=DP w g q v base i p l seen (oSettle q t0 t1) Rp.enc) 9 10 11 (seen[i + 1]?=some ce1) (i + 1 + 1) #[.int .u64 ce1.vA,.int .u64 ce1.vB,.int .u8 5,.int .u32 q.id,.int .u32 1,.bool ce1.is] [pw g 0,pw g 0,pw g 7,pw g 0,pw g 0,pw g 0,pw g 4,some (.int .u32 q.id,True),some (.agg #[.int .u8 5,.int .u32 q.id,.int .u32 1],True),some (.agg (thing ce1.vA ce1.vB 5 q.id 1 ce1.is),True),none,none] SS.out (fun vals=>?_) (fun vals W2 hB hfin hall=>?_) (ea 10 rfl)
  · simp only [ObD,Act.put,qA,qC,qZ]
    refine ⟨?_,?_,?_,?_,?_,?_,?_,?_,?o1_8,?o1_9,?o1_10,?o1_11,trivial⟩
    all_goals (intro L W hL hk hC hw;have f:=deps hw rfl rfl;simp only [depF,vsP,pw,qS,qD,and_true,true_and] at f)
    case o1_8=>have CL:=Lib.hid (offer_any q.id 1 W);clear hL hC hk hw;refine spD rfl ?_;go_simp;(with_reducible refine CL.out.mono ?_);rintro e w8 ⟨rfl,h2⟩;first | exact sq h2 rfl ⟨rfl,trivial⟩ | exact ⟨_,rfl,sq h2 rfl ⟨rfl,trivial⟩⟩
    case o1_9=>
      have CL:=Lib.hid (look_K SS.out (hC.pre hk) BEG.out (by have:=HI.out;omega) CE1.out 5 q.id 1);clear hL hC hk hw;refine spD rfl ?_;go_simp;(with_reducible refine CL.out.mono ?_);rintro e w8 (⟨h,rfl,h2⟩ | ⟨h1,rfl,hf,H⟩)
      · exact ⟨_,rfl,Did.miss (by unfold oSettle;simp only [runOm_bind,run_look S0.out,run_look_no h]) h2⟩
      · first | exact kv hf H rfl ⟨rfl,trivial⟩ | exact ⟨_,rfl,kv hf H rfl ⟨rfl,trivial⟩⟩
    case o1_10=>have ZZ:=hC.fr.size;clear hL hC hk hw;refine spD rfl ?_;go_simp;exact am ZZ
    case o1_11=>obtain ⟨gt,C,fa,hgt,bx0,hc⟩:=Fw.geta (hw ⟨10,.data⟩ (by simp) rfl) (by decide);obtain ⟨c0,c1,c2,c3,c4,c5,rfl⟩:=arr6 hc;have q:=six_cells bx0;have BXX:=Lib.hid bx0;have FA:=Lib.hid fa;clear bx0 hc;unfold thing at f;clear hL hC hk hw;refine spD rfl ?_;go_simp;exact sm SS.out BEG.out BXX.out hgt FA.out
    all_goals (have c:=kn7 hC;clear hL hC hk hw;refine spD rfl ?_;go_simp;first | exact sv rfl ⟨rfl,trivial⟩ | exact ⟨_,rfl,sv rfl ⟨rfl,trivial⟩⟩)
  have S1:=Lib.hid hB.1
  simp only [allF,vsP,pw,true_and,and_true,Nat.reduceAdd] at hall
  obtain ⟨gt1,fa,hgt,bx⟩:=hfin
  simp only [TL,Act.put,qA,qC,qZ,hall,fa]
  replace SS:=Lib.hid (SS.out.push BEG.out hB.st SS.out.lt hgt bx)
  clear hall vals hB fa hgt bx
  have I0:=Lib.hid (IS0.out ce0 S0.out)
  have I1:=Lib.hid (IS1.out ce1 S1.out)
  have SX:=SS.out
  rw [I0.out] at SX
  replace SS:=Lib.hid SX
  clear SX
  have SX:=SS.out
  rw [I1.out] at SX
  replace SS:=Lib.hid SX
  clear SX
  have e0:=I0.out
  have e1:=I1.out
  obtain ⟨⟨y0,y1,y2,y3,y4,y5⟩,-⟩:=six_cells SS.out.bx.2.1.out
  obtain ⟨⟨y6,y7,y8,y9,y10,y11⟩,-⟩:=six_cells SS.out.bx.1.out
  obtain ⟨W3,hWn⟩:∃ W3,W2.alloc (.cells #[.int .u64 ce0.vA,.int .u64 ce0.vB,.int .u8 5,.int .u32 q.id,.int .u32 0,.bool false,.int .u64 ce1.vA,.int .u64 ce1.vB,.int .u8 5,.int .u32 q.id,.int .u32 1,.bool true] 162)=W3:=⟨_,rfl⟩
  obtain ⟨ga,hgn⟩:∃ ga,W2.heap.size=ga:=⟨_,rfl⟩
  have TT:=SS.out.alloc BEG.out #[.int .u64 ce0.vA,.int .u64 ce0.vB,.int .u8 5,.int .u32 q.id,.int .u32 0,.bool false,.int .u64 ce1.vA,.int .u64 ce1.vB,.int .u8 5,.int .u32 q.id,.int .u32 1,.bool true] 162
  rw [hgn,hWn] at TT
  replace TT:=Lib.hid TT
  have HWN:=Lib.hid hWn
  have HGN:=Lib.hid hgn
  clear hWn hgn
  go_wp2
  clear e0 e1
  try rw [HWN.out]
  try rw [HGN.out]
  clear HWN HGN SS y0 y1 y2 y3 y4 y5 y6 y7 y8 y9 y10 y11
  have SS:=TT
  clear TT
  replace SS:=Lib.hid SS.out.drop1
  have hx0:∀ W,Sem.run Tryz.prog (Instr.index 162 (.agg #[.int .u64 ce0.vA,.int .u64 ce0.vB,.int .u8 5,.int .u32 q.id,.int .u32 0,.bool false,.int .u64 ce1.vA,.int .u64 ce1.vB,.int .u8 5,.int .u32 q.id,.int .u32 1,.bool true]) (.int .i64 0)) W=.ok (.agg #[.int .u64 ce0.vA,.int .u64 ce0.vB,.int .u8 5,.int .u32 q.id,.int .u32 0,.bool false]) W:=fun W=>by rfl
  have hx1:∀ W,Sem.run Tryz.prog (Instr.index 162 (.agg #[.int .u64 ce0.vA,.int .u64 ce0.vB,.int .u8 5,.int .u32 q.id,.int .u32 0,.bool false,.int .u64 ce1.vA,.int .u64 ce1.vB,.int .u8 5,.int .u32 q.id,.int .u32 1,.bool true]) (.int .i64 1)) W=.ok (.agg #[.int .u64 ce1.vA,.int .u64 ce1.vB,.int .u8 5,.int .u32 q.id,.int .u32 1,.bool true]) W:=fun W=>by rfl
  refine wp_loop_rounds 3 ?_
  rw [rounds_succ]
  obtain ⟨W4,hWn⟩:∃ W4,W3.alloc (.cells #[.int .u64 ce0.vA,.int .u64 ce0.vB,.int .u8 5,.int .u32 q.id,.int .u32 0,.bool false] 130)=W4:=⟨_,rfl⟩
  obtain ⟨go0,hgn⟩:∃ go0,W3.heap.size=go0:=⟨_,rfl⟩
  have TT:=SS.out.alloc BEG.out #[.int .u64 ce0.vA,.int .u64 ce0.vB,.int .u8 5,.int .u32 q.id,.int .u32 0,.bool false] 130
  rw [hgn,hWn] at TT
  replace TT:=Lib.hid TT
  have HWN:=Lib.hid hWn
  have HGN:=Lib.hid hgn
  clear hWn hgn
  go_wp2
  try rw [HWN.out]
  try rw [HGN.out]
  clear HWN HGN SS
  have SS:=TT
  clear TT
  replace SS:=Lib.hid SS.out.drop
  rw [rounds_succ]
  obtain ⟨W5,hWn⟩:∃ W5,W4.alloc (.cells #[.int .u64 ce1.vA,.int .u64 ce1.vB,.int .u8 5,.int .u32 q.id,.int .u32 1,.bool true] 130)=W5:=⟨_,rfl⟩
  obtain ⟨go1,hgn⟩:∃ go1,W4.heap.size=go1:=⟨_,rfl⟩
  have TT:=SS.out.alloc BEG.out #[.int .u64 ce1.vA,.int .u64 ce1.vB,.int .u8 5,.int .u32 q.id,.int .u32 1,.bool true] 130
  rw [hgn,hWn] at TT
  replace TT:=Lib.hid TT
  have HWN:=Lib.hid hWn
  have HGN:=Lib.hid hgn
  clear hWn hgn
  go_upto_region 8 with fail
  try rw [HWN.out]
  try rw [HGN.out]
  clear HWN HGN SS
  have SS:=TT
  clear TT
  refine wp_SK (D:=DP w g q v base i p l seen (oSettle q t0 t1) Rp.enc) 10 11 12 (seen[i + 1 + 1]?=some ce2) (i + 1 + 1 + 1) #[.int .u64 ce2.vA,.int .u64 ce2.vB,.int .u8 (holdK ce1.vB),.int .u32 t1,.int .u32 (holdW ce1.vB),.bool ce2.is] [pw g 0,pw g 0,pw g 7,some (.int .i64 1,True),some (.pointer (some ⟨gto,1,none⟩),True),some (.int .u32 t1,True),some (.pointer (some ⟨go1,0,none⟩),True),some (.pointer (some ⟨go1,1,none⟩),True),some (.int .u64 ce1.vB,True),some (.agg #[.int .u8 (holdK ce1.vB),.int .u32 t1,.int .u32 (holdW ce1.vB)],True),some (.agg (thing ce2.vA ce2.vB (holdK ce1.vB) t1 (holdW ce1.vB) ce2.is),True),none,none] SS.out (fun vals=>?_) (fun vals W6 hB hfin hall=>?_) (ea 11 rfl)
  · simp only [ObD,Act.put,qA,qC,qZ]
    refine ⟨?_,?_,?_,?_,?_,?o5_5,?_,?_,?o5_8,?o5_9,?o5_10,?o5_11,?o5_12,trivial⟩
    all_goals (intro L W hL hk hC hw;have f:=deps hw rfl rfl;simp only [depF,vsP,pw,qS,qD,and_true,true_and] at f)
    case' o5_5=>have k1:W.cell? ⟨gto,1,none⟩=some (.int .u32 t1):=(cw_bx hC).2.2.2.2.1.out.cell 1
    case' o5_8=>have k1:W.cell? ⟨go1,1,none⟩=some (.int .u64 ce1.vB):=(cw_bx hC).1.out.cell 1
    case o5_9=>have CL:=Lib.hid (hold_any t1 ce1.vB W);clear hL hC hk hw;refine spD rfl ?_;go_simp;(with_reducible refine CL.out.mono ?_);rintro e w8 ⟨rfl,h2⟩;first | exact sq h2 rfl ⟨rfl,trivial⟩ | exact ⟨_,rfl,sq h2 rfl ⟨rfl,trivial⟩⟩
    case o5_10=>
      have CL:=Lib.hid (look_K SS.out (hC.pre hk) BEG.out (by have:=HI.out;omega) CE2.out (holdK ce1.vB) t1 (holdW ce1.vB));clear hL hC hk hw;refine spD rfl ?_;go_simp;(with_reducible refine CL.out.mono ?_);rintro e w8 (⟨h,rfl,h2⟩ | ⟨h1,rfl,hf,H⟩)
      · exact ⟨_,rfl,Did.miss (by unfold oSettle;simp only [runOm_bind,run_look S0.out,run_look S1.out,I0.out,Bool.false_eq_true,if_false,I1.out,if_true,run_look_no h]) h2⟩
      · first | exact kv hf H rfl ⟨rfl,trivial⟩ | exact ⟨_,rfl,kv hf H rfl ⟨rfl,trivial⟩⟩
    case o5_11=>have ZZ:=hC.fr.size;clear hL hC hk hw;refine spD rfl ?_;go_simp;exact am ZZ
    case o5_12=>obtain ⟨gt,C,fa,hgt,bx0,hc⟩:=Fw.geta (hw ⟨11,.data⟩ (by simp) rfl) (by decide);obtain ⟨c0,c1,c2,c3,c4,c5,rfl⟩:=arr6 hc;have q:=six_cells bx0;have BXX:=Lib.hid bx0;have FA:=Lib.hid fa;clear bx0 hc;unfold thing at f;clear hL hC hk hw;refine spD rfl ?_;go_simp;exact sm SS.out BEG.out BXX.out hgt FA.out
    all_goals (have c:=kn7 hC;clear hL hC hk hw;refine spD rfl ?_;go_simp;first | exact sv rfl ⟨rfl,trivial⟩ | exact ⟨_,rfl,sv rfl ⟨rfl,trivial⟩⟩)
  have S2:=Lib.hid hB.1
  simp only [allF,vsP,pw,true_and,and_true,Nat.reduceAdd] at hall
  obtain ⟨gp1,fa,hgt,bx⟩:=hfin
  simp only [TL,Act.put,qA,qC,qZ,hall,fa]
  replace SS:=Lib.hid (SS.out.push BEG.out hB.st SS.out.lt hgt bx)
  clear hall vals hB fa hgt bx
  go_upto_region 9 with fail
  refine wp_SA (D:=DP w g q v base i p l seen (oSettle q t0 t1) Rp.enc) 10 11 12 True True (i + 1 + 1 + 1) (l++[amt (holdK ce1.vB) t1 (holdW ce1.vB) (ce2.vA + ce1.vA)]) [pw g 0,some (.pointer (some ⟨gp1,2,none⟩),True),some (.agg #[.int .u8 (holdK ce1.vB),.int .u32 t1,.int .u32 (holdW ce1.vB)],True),some (.pointer (some ⟨gp1,0,none⟩),True),some (.pointer (some ⟨gp1,0,none⟩),True),some (.int .u64 ce2.vA,True),some (.pointer (some ⟨go1,0,none⟩),True),some (.pointer (some ⟨go1,0,none⟩),True),some (.int .u64 ce1.vA,True),some (.int .u64 (ce2.vA + ce1.vA),Mr ce2.vA ce1.vA),some (.tuple #[],True)] SS.out (fun vals=>?_) (fun vals W7 hB hall=>?_)
  · simp only [ObD,Act.put,qA,qC,qZ]
    refine ⟨?_,?_,?o6_2,?_,?_,?o6_5,?_,?_,?o6_8,?o6_9,?o6_10,trivial⟩
    all_goals (intro L W hL hk hC hw;have f:=deps hw rfl rfl;simp only [depF,vsP,pw,qS,qD,and_true,true_and] at f)
    case' o6_2=>have k2:W.cell? ⟨gp1,2,none⟩=some (.int .u8 (holdK ce1.vB)):=(cw_bx hC).1.out.cell 2;have k3:W.cell? ⟨gp1,3,none⟩=some (.int .u32 t1):=(cw_bx hC).1.out.cell 3;have k4:W.cell? ⟨gp1,4,none⟩=some (.int .u32 (holdW ce1.vB)):=(cw_bx hC).1.out.cell 4
    case' o6_5=>have k0:W.cell? ⟨gp1,0,none⟩=some (.int .u64 ce2.vA):=(cw_bx hC).1.out.cell 0
    case' o6_8=>have k0:W.cell? ⟨go1,0,none⟩=some (.int .u64 ce1.vA):=(cw_bx hC).2.1.out.cell 0
    case o6_9=>
      have CL:=Lib.hid (more_C (vA_ok HOK.out S2.out) (vA_ok HOK.out S1.out) hC SS.out BEG.out);clear hL hC hk hw;refine spD rfl ?_;go_simp;(with_reducible refine CL.out.mono ?_)
      rintro e w8 (⟨h,rfl,h2⟩ | ⟨h1,rfl,h2⟩)
      · exact ⟨_,rfl,Did.err (by unfold oSettle;simp only [runOm_bind,run_look S0.out,run_look S1.out,I0.out,Bool.false_eq_true,if_false,I1.out,if_true,run_look S2.out,run_more_no h]) h2⟩
      · first | exact sq h2 rfl ⟨rfl,h1⟩ | exact ⟨_,rfl,sq h2 rfl ⟨rfl,h1⟩⟩
    case o6_10=>have CL:=Lib.hid (pk SS.out BEG.out (amount_S (hC.pre hk) BEG.out (by have:=HL.out;(try simp only [List.length_append,List.length_cons,List.length_nil]);omega) (holdK ce1.vB) t1 (holdW ce1.vB) (ce2.vA + ce1.vA) (show _=l++[amt (holdK ce1.vB) t1 (holdW ce1.vB) (ce2.vA + ce1.vA)] by simp)));clear hL hC hk hw;refine spD rfl ?_;go_simp;(with_reducible refine CL.out.mono ?_);rintro e w8 ⟨rfl,hf,H⟩;first | exact kv hf H rfl ⟨rfl,trivial⟩ | exact ⟨_,rfl,kv hf H rfl ⟨rfl,trivial⟩⟩
    all_goals (have c:=kn7 hC;clear hL hC hk hw;refine spD rfl ?_;go_simp;first | exact sv rfl ⟨rfl,trivial⟩ | exact ⟨_,rfl,sv rfl ⟨rfl,trivial⟩⟩)
  have C7:Hid (Mr ce2.vA ce1.vA):=Lib.hid (vsP_c (hall.get 9))
  simp only [allF,vsP,pw,true_and,and_true,Nat.reduceAdd] at hall
  simp only [TL,Act.put,qA,qC,qZ,hall]
  obtain ⟨p7,hB⟩:=hB.put
  replace SS:=Lib.hid hB
  clear hall vals hB
  go_wp2
  replace SS:=Lib.hid SS.out.drop
  replace SS:=Lib.hid SS.out.drop
  have y0:W7.cell? ⟨ga,0,none⟩=some (.int .u64 ce0.vA):=SS.out.bx.1.out.cell 0
  have y1:W7.cell? ⟨ga,1,none⟩=some (.int .u64 ce0.vB):=SS.out.bx.1.out.cell 1
  have y2:W7.cell? ⟨ga,2,none⟩=some (.int .u8 5):=SS.out.bx.1.out.cell 2
  have y3:W7.cell? ⟨ga,3,none⟩=some (.int .u32 q.id):=SS.out.bx.1.out.cell 3
  have y4:W7.cell? ⟨ga,4,none⟩=some (.int .u32 0):=SS.out.bx.1.out.cell 4
  have y5:W7.cell? ⟨ga,5,none⟩=some (.bool false):=SS.out.bx.1.out.cell 5
  have y6:W7.cell? ⟨ga,6,none⟩=some (.int .u64 ce1.vA):=SS.out.bx.1.out.cell 6
  have y7:W7.cell? ⟨ga,7,none⟩=some (.int .u64 ce1.vB):=SS.out.bx.1.out.cell 7
  have y8:W7.cell? ⟨ga,8,none⟩=some (.int .u8 5):=SS.out.bx.1.out.cell 8
  have y9:W7.cell? ⟨ga,9,none⟩=some (.int .u32 q.id):=SS.out.bx.1.out.cell 9
  have y10:W7.cell? ⟨ga,10,none⟩=some (.int .u32 1):=SS.out.bx.1.out.cell 10
  have y11:W7.cell? ⟨ga,11,none⟩=some (.bool true):=SS.out.bx.1.out.cell 11
  rw [rounds_succ]
  go_wp2
  refine wp_loop_rounds 3 ?_
  clear y0 y1 y2 y3 y4 y5 y6 y7 y8 y9 y10 y11
  replace SS:=Lib.hid SS.out.drop
  rw [rounds_succ]
  obtain ⟨W8,hWn⟩:∃ W8,W7.alloc (.cells #[.int .u64 ce0.vA,.int .u64 ce0.vB,.int .u8 5,.int .u32 q.id,.int .u32 0,.bool false] 130)=W8:=⟨_,rfl⟩
  obtain ⟨gq0,hgn⟩:∃ gq0,W7.heap.size=gq0:=⟨_,rfl⟩
  have TT:=SS.out.alloc BEG.out #[.int .u64 ce0.vA,.int .u64 ce0.vB,.int .u8 5,.int .u32 q.id,.int .u32 0,.bool false] 130
  rw [hgn,hWn] at TT
  replace TT:=Lib.hid TT
  have HWN:=Lib.hid hWn
  have HGN:=Lib.hid hgn
  clear hWn hgn
  go_wp2
  try rw [HWN.out]
  try rw [HGN.out]
  clear HWN HGN SS
  have SS:=TT
  clear TT
  rw [rounds_succ]
  obtain ⟨W9,hWn⟩:∃ W9,W8.alloc (.cells #[.int .u64 ce1.vA,.int .u64 ce1.vB,.int .u8 5,.int .u32 q.id,.int .u32 1,.bool true] 130)=W9:=⟨_,rfl⟩
  obtain ⟨gq1,hgn⟩:∃ gq1,W8.heap.size=gq1:=⟨_,rfl⟩
  have TT:=SS.out.alloc BEG.out #[.int .u64 ce1.vA,.int .u64 ce1.vB,.int .u8 5,.int .u32 q.id,.int .u32 1,.bool true] 130
  rw [hgn,hWn] at TT
  replace TT:=Lib.hid TT
  have HWN:=Lib.hid hWn
  have HGN:=Lib.hid hgn
  clear hWn hgn
  go_wp2_with fail
  try rw [HWN.out]
  try rw [HGN.out]
  clear HWN HGN SS
  have SS:=TT
  clear TT
  have CALL:=Lib.hid (gone_S SS.out BEG.out (by have:=HL.out;(try simp only [List.length_append,List.length_cons,List.length_nil]);omega) 5 q.id 1 (show _=l++[amt (holdK ce1.vB) t1 (holdW ce1.vB) (ce2.vA + ce1.vA),Pu.mk 5 q.id 1 0 0 true] by simp))
  (with_reducible refine CALL.out.mono ?_)
  rintro e W10 ⟨rfl,hf,p10,hs⟩
  replace SS:=Lib.hid hs
  clear CALL hf hs
  go_wp2
  rw [rounds_succ]
  have y0:W10.cell? ⟨g,4,none⟩=some (.int .u32 q.id):=SS.out.kn.c4
  go_wp2_with fail
  (with_reducible refine (trade_any q.id _).mono ?_)
  rintro e W11 ⟨rfl,hbl⟩
  clear y0
  replace SS:=Lib.hid (SS.out.later hbl)
  clear hbl
  have y0:W11.cell? ⟨g,4,none⟩=some (.int .u32 q.id):=SS.out.kn.c4
  have CALL:=Lib.hid (gone_S SS.out BEG.out (by have:=HL.out;(try simp only [List.length_append,List.length_cons,List.length_nil]);omega) 4 q.id 0 (show _=l++[amt (holdK ce1.vB) t1 (holdW ce1.vB) (ce2.vA + ce1.vA),Pu.mk 5 q.id 1 0 0 true,Pu.mk 4 q.id 0 0 0 true] by simp))
  go_wp2_with fail
  (with_reducible refine CALL.out.mono ?_)
  rintro e W12 ⟨rfl,hf,p12,hs⟩
  replace SS:=Lib.hid hs
  clear CALL hf hs y0
  obtain ⟨⟨z0,z1,z2,z3⟩,x0,x1,x2,x3⟩:=four_cells SS.out.bx.2.2.2.1.out
  go_wp2
  generalize hW:(World.setCell _ (⟨gre,3,none⟩:Addr) _)=WZ
  have b9:Box WZ gre #[.int .u16 0,.int .u64 1,.int .u64 0,.int .u64 0] 35:=by
    rw [← hW]
    exact four_box SS.out.bx.2.2.2.1.out
  have F9:Hid (Fr (fun x=>x=gre) W12 WZ):=Lib.hid (by
    rw [← hW]
    exact four_fr)
  obtain ⟨⟨v0,v1,v2,v3⟩,-⟩:=four_cells b9
  clear hW b9 z0 z1 z2 z3 x0 x1 x2 x3
  refine bodyPost_ret (v:=.agg #[.int .u16 0,.int .u64 1,.int .u64 0,.int .u64 0]) (by simp [results,Tryz.results100,go_sem,v0,v1,v2,v3];try rfl) rfl ?_
  refine (SS.out.wr BEG.out 3 rfl F9.out).did (y:=(⟨1,0,0⟩,l++[amt (holdK ce1.vB) t1 (holdW ce1.vB) (ce2.vA + ce1.vA),Pu.mk 5 q.id 1 0 0 true,Pu.mk 4 q.id 0 0 0 true])) ?_ rfl
  unfold oSettle
  simp only [runOm_bind,runOm_pure,run_look S0.out,run_look S1.out,I0.out,Bool.false_eq_true,if_false,I1.out,if_true,run_look S2.out,run_more C7.out,oAmount,run_put,oGone,run_put,oGone,run_put,oGone,List.append_assoc,List.cons_append,List.nil_append]
  try rfl
end Go.Proofs.YtabckmadpdchnaaGreat.Rule
namespace Go.Proofs.YtabckmadpdchnaaGreat.Rule
open Go.ChangeShapes Go.WideShapes Go.ChangeAt Go.RowKit Go.IntWalk Go.Proofs.Mem Go.Proofs.Each
theorem settle_yy (w:World) (g:Nat) (q:Ot) (v:Value) (base i:Nat) (p:Value) (l:List Pu) (seen:List Ce) (hst:St w g q v base i p l) (hs:SeenAt w g v seen) (hg:g < base) (hbase:base≤w.heap.size) (hl:l.length≤800) (hi:i≤800000) (hq:q.Ok) (hok:∀ c∈seen,c.Ok) (t0 t1:Int) (h0:∀ c,seen[i]?=some c→c.is=true) (h1:∀ c,seen[i + 1]?=some c→c.is=true) :
    Calls Tryz.prog 100 #[.pointer (some ⟨g,0,none⟩),.agg #[.int .u32 t0,.int .u32 t1]] w (Did w g q v base i p l seen (oSettle q t0 t1) Rp.enc):=by
  have BEG:=Lib.hid (Begin.mk hs hg hbase hq hok (fun x hx=>hst.own.lt x hx))
  obtain ⟨Wt,hWt⟩:∃ W,w.alloc (.cells #[.int .u32 t0,.int .u32 t1] 153)=W:=⟨_,rfl⟩
  obtain ⟨W0,hW0⟩:∃ W0,Wt.alloc (.cells #[.int .u16 0,.int .u64 0,.int .u64 0,.int .u64 0] 35)=W0:=⟨_,rfl⟩
  obtain ⟨gto,hgto⟩:∃ x,w.heap.size=x:=⟨_,rfl⟩
  obtain ⟨gre,hgre⟩:∃ x,Wt.heap.size=x:=⟨_,rfl⟩
  have HGRE:=Lib.hid hgre
  have HGTO:=Lib.hid hgto
  have SS:Hid (ST w g q v base p i p l [.box gre #[.int .u16 0,.int .u64 0,.int .u64 0,.int .u64 0] 35,.box gto #[.int .u32 t0,.int .u32 t1] 153] W0):=Lib.hid (by rw [← hW0,← hgre,← hgto,← hWt];exact (ST.start hst BEG.out _ _).alloc BEG.out _ _)
  have HI:=Lib.hid hi
  have HQ:=Lib.hid hq
  have HOK:=Lib.hid hok
  have HL:=Lib.hid hl
  have IS0:=Lib.hid h0
  have IS1:=Lib.hid h1
  obtain ⟨ce0,hce0⟩:=the_cell seen (i)
  have CE0:=Lib.hid hce0
  obtain ⟨ce1,hce1⟩:=the_cell seen (i + 1)
  have CE1:=Lib.hid hce1
  obtain ⟨ce2,hce2⟩:=the_cell seen (i + 1 + 1)
  have CE2:=Lib.hid hce2
  obtain ⟨ce3,hce3⟩:=the_cell seen (i + 1 + 1 + 1)
  have CE3:=Lib.hid hce3
  clear hst hs hg hbase hl hi hq hok h0 h1 hgto hgre hce0 hce1 hce2 hce3
  go_enter Tryz.func100,Tryz.ntmps100
  go_upto_region 1 with fail
  try rw [hWt]
  try rw [hW0]
  rw [HGRE.out]
  try rw [HGTO.out]
  clear hW0 hWt HGTO HGRE
  refine wp_SK (D:=DP w g q v base i p l seen (oSettle q t0 t1) Rp.enc) 9 10 11 (seen[i]?=some ce0) (i + 1) #[.int .u64 ce0.vA,.int .u64 ce0.vB,.int .u8 5,.int .u32 q.id,.int .u32 0,.bool ce0.is] [pw g 0,pw g 0,pw g 7,pw g 0,pw g 0,pw g 0,pw g 4,some (.int .u32 q.id,True),some (.agg #[.int .u8 5,.int .u32 q.id,.int .u32 0],True),some (.agg (thing ce0.vA ce0.vB 5 q.id 0 ce0.is),True),none,none] SS.out (fun vals=>?_) (fun vals W1 hB hfin hall=>?_) (ea 10 rfl)
  · simp only [ObD,Act.put,qA,qC,qZ]
    refine ⟨?_,?_,?_,?_,?_,?_,?_,?_,?o0_8,?o0_9,?o0_10,?o0_11,trivial⟩
    all_goals (intro L W hL hk hC hw;have f:=deps hw rfl rfl;simp only [depF,vsP,pw,qS,qD,and_true,true_and] at f)
    case o0_8=>have CL:=Lib.hid (offer_any q.id 0 W);clear hL hC hk hw;refine spD rfl ?_;go_simp;(with_reducible refine CL.out.mono ?_);rintro e w8 ⟨rfl,h2⟩;first | exact sq h2 rfl ⟨rfl,trivial⟩ | exact ⟨_,rfl,sq h2 rfl ⟨rfl,trivial⟩⟩
    case o0_9=>
      have CL:=Lib.hid (look_K SS.out (hC.pre hk) BEG.out (by have:=HI.out;omega) CE0.out 5 q.id 0);clear hL hC hk hw;refine spD rfl ?_;go_simp;(with_reducible refine CL.out.mono ?_);rintro e w8 (⟨h,rfl,h2⟩ | ⟨h1,rfl,hf,H⟩)
      · exact ⟨_,rfl,Did.miss (by unfold oSettle;simp only [runOm_bind,run_look_no h]) h2⟩
      · first | exact kv hf H rfl ⟨rfl,trivial⟩ | exact ⟨_,rfl,kv hf H rfl ⟨rfl,trivial⟩⟩
    case o0_10=>have ZZ:=hC.fr.size;clear hL hC hk hw;refine spD rfl ?_;go_simp;exact am ZZ
    case o0_11=>obtain ⟨gt,C,fa,hgt,bx0,hc⟩:=Fw.geta (hw ⟨10,.data⟩ (by simp) rfl) (by decide);obtain ⟨c0,c1,c2,c3,c4,c5,rfl⟩:=arr6 hc;have q:=six_cells bx0;have BXX:=Lib.hid bx0;have FA:=Lib.hid fa;clear bx0 hc;unfold thing at f;clear hL hC hk hw;refine spD rfl ?_;go_simp;exact sm SS.out BEG.out BXX.out hgt FA.out
    all_goals (have c:=kn7 hC;clear hL hC hk hw;refine spD rfl ?_;go_simp;first | exact sv rfl ⟨rfl,trivial⟩ | exact ⟨_,rfl,sv rfl ⟨rfl,trivial⟩⟩)
  have S0:=Lib.hid hB.1
  simp only [allF,vsP,pw,true_and,and_true,Nat.reduceAdd] at hall
  obtain ⟨gt0,fa,hgt,bx⟩:=hfin
  simp only [TL,Act.put,qA,qC,qZ,hall,fa]
  replace SS:=Lib.hid (SS.out.push BEG.out hB.st SS.out.lt hgt bx)
  clear hall vals hB fa hgt bx
  go_upto_region 2 with fail
  refine wp_SK (D:=DP w g q v base i p l seen (oSettle q t0 t1) Rp.enc) 9 10 11 (seen[i + 1]?=some ce1) (i + 1 + 1) #[.int .u64 ce1.vA,.int .u64 ce1.vB,.int .u8 5,.int .u32 q.id,.int .u32 1,.bool ce1.is] [pw g 0,pw g 0,pw g 7,pw g 0,pw g 0,pw g 0,pw g 4,some (.int .u32 q.id,True),some (.agg #[.int .u8 5,.int .u32 q.id,.int .u32 1],True),some (.agg (thing ce1.vA ce1.vB 5 q.id 1 ce1.is),True),none,none] SS.out (fun vals=>?_) (fun vals W2 hB hfin hall=>?_) (ea 10 rfl)
  · simp only [ObD,Act.put,qA,qC,qZ]
    refine ⟨?_,?_,?_,?_,?_,?_,?_,?_,?o1_8,?o1_9,?o1_10,?o1_11,trivial⟩
    all_goals (intro L W hL hk hC hw;have f:=deps hw rfl rfl;simp only [depF,vsP,pw,qS,qD,and_true,true_and] at f)
    case o1_8=>have CL:=Lib.hid (offer_any q.id 1 W);clear hL hC hk hw;refine spD rfl ?_;go_simp;(with_reducible refine CL.out.mono ?_);rintro e w8 ⟨rfl,h2⟩;first | exact sq h2 rfl ⟨rfl,trivial⟩ | exact ⟨_,rfl,sq h2 rfl ⟨rfl,trivial⟩⟩
    case o1_9=>
      have CL:=Lib.hid (look_K SS.out (hC.pre hk) BEG.out (by have:=HI.out;omega) CE1.out 5 q.id 1);clear hL hC hk hw;refine spD rfl ?_;go_simp;(with_reducible refine CL.out.mono ?_);rintro e w8 (⟨h,rfl,h2⟩ | ⟨h1,rfl,hf,H⟩)
      · exact ⟨_,rfl,Did.miss (by unfold oSettle;simp only [runOm_bind,run_look S0.out,run_look_no h]) h2⟩
      · first | exact kv hf H rfl ⟨rfl,trivial⟩ | exact ⟨_,rfl,kv hf H rfl ⟨rfl,trivial⟩⟩
    case o1_10=>have ZZ:=hC.fr.size;clear hL hC hk hw;refine spD rfl ?_;go_simp;exact am ZZ
    case o1_11=>obtain ⟨gt,C,fa,hgt,bx0,hc⟩:=Fw.geta (hw ⟨10,.data⟩ (by simp) rfl) (by decide);obtain ⟨c0,c1,c2,c3,c4,c5,rfl⟩:=arr6 hc;have q:=six_cells bx0;have BXX:=Lib.hid bx0;have FA:=Lib.hid fa;clear bx0 hc;unfold thing at f;clear hL hC hk hw;refine spD rfl ?_;go_simp;exact sm SS.out BEG.out BXX.out hgt FA.out
    all_goals (have c:=kn7 hC;clear hL hC hk hw;refine spD rfl ?_;go_simp;first | exact sv rfl ⟨rfl,trivial⟩ | exact ⟨_,rfl,sv rfl ⟨rfl,trivial⟩⟩)
  have S1:=Lib.hid hB.1
  simp only [allF,vsP,pw,true_and,and_true,Nat.reduceAdd] at hall
  obtain ⟨gt1,fa,hgt,bx⟩:=hfin
  simp only [TL,Act.put,qA,qC,qZ,hall,fa]
  replace SS:=Lib.hid (SS.out.push BEG.out hB.st SS.out.lt hgt bx)
  clear hall vals hB fa hgt bx
  have I0:=Lib.hid (IS0.out ce0 S0.out)
  have I1:=Lib.hid (IS1.out ce1 S1.out)
  have SX:=SS.out
  rw [I0.out] at SX
  replace SS:=Lib.hid SX
  clear SX
  have SX:=SS.out
  rw [I1.out] at SX
  replace SS:=Lib.hid SX
  clear SX
  have e0:=I0.out
  have e1:=I1.out
  obtain ⟨⟨y0,y1,y2,y3,y4,y5⟩,-⟩:=six_cells SS.out.bx.2.1.out
  obtain ⟨⟨y6,y7,y8,y9,y10,y11⟩,-⟩:=six_cells SS.out.bx.1.out
  obtain ⟨W3,hWn⟩:∃ W3,W2.alloc (.cells #[.int .u64 ce0.vA,.int .u64 ce0.vB,.int .u8 5,.int .u32 q.id,.int .u32 0,.bool true,.int .u64 ce1.vA,.int .u64 ce1.vB,.int .u8 5,.int .u32 q.id,.int .u32 1,.bool true] 162)=W3:=⟨_,rfl⟩
  obtain ⟨ga,hgn⟩:∃ ga,W2.heap.size=ga:=⟨_,rfl⟩
  have TT:=SS.out.alloc BEG.out #[.int .u64 ce0.vA,.int .u64 ce0.vB,.int .u8 5,.int .u32 q.id,.int .u32 0,.bool true,.int .u64 ce1.vA,.int .u64 ce1.vB,.int .u8 5,.int .u32 q.id,.int .u32 1,.bool true] 162
  rw [hgn,hWn] at TT
  replace TT:=Lib.hid TT
  have HWN:=Lib.hid hWn
  have HGN:=Lib.hid hgn
  clear hWn hgn
  go_wp2
  clear e0 e1
  try rw [HWN.out]
  try rw [HGN.out]
  clear HWN HGN SS y0 y1 y2 y3 y4 y5 y6 y7 y8 y9 y10 y11
  have SS:=TT
  clear TT
  replace SS:=Lib.hid SS.out.drop1
  have hx0:∀ W,Sem.run Tryz.prog (Instr.index 162 (.agg #[.int .u64 ce0.vA,.int .u64 ce0.vB,.int .u8 5,.int .u32 q.id,.int .u32 0,.bool true,.int .u64 ce1.vA,.int .u64 ce1.vB,.int .u8 5,.int .u32 q.id,.int .u32 1,.bool true]) (.int .i64 0)) W=.ok (.agg #[.int .u64 ce0.vA,.int .u64 ce0.vB,.int .u8 5,.int .u32 q.id,.int .u32 0,.bool true]) W:=fun W=>by rfl
  have hx1:∀ W,Sem.run Tryz.prog (Instr.index 162 (.agg #[.int .u64 ce0.vA,.int .u64 ce0.vB,.int .u8 5,.int .u32 q.id,.int .u32 0,.bool true,.int .u64 ce1.vA,.int .u64 ce1.vB,.int .u8 5,.int .u32 q.id,.int .u32 1,.bool true]) (.int .i64 1)) W=.ok (.agg #[.int .u64 ce1.vA,.int .u64 ce1.vB,.int .u8 5,.int .u32 q.id,.int .u32 1,.bool true]) W:=fun W=>by rfl
  refine wp_loop_rounds 3 ?_
  rw [rounds_succ]
  obtain ⟨W4,hWn⟩:∃ W4,W3.alloc (.cells #[.int .u64 ce0.vA,.int .u64 ce0.vB,.int .u8 5,.int .u32 q.id,.int .u32 0,.bool true] 130)=W4:=⟨_,rfl⟩
  obtain ⟨go0,hgn⟩:∃ go0,W3.heap.size=go0:=⟨_,rfl⟩
  have TT:=SS.out.alloc BEG.out #[.int .u64 ce0.vA,.int .u64 ce0.vB,.int .u8 5,.int .u32 q.id,.int .u32 0,.bool true] 130
  rw [hgn,hWn] at TT
  replace TT:=Lib.hid TT
  have HWN:=Lib.hid hWn
  have HGN:=Lib.hid hgn
  clear hWn hgn
  go_upto_region 8 with fail
  try rw [HWN.out]
  try rw [HGN.out]
  clear HWN HGN SS
  have SS:=TT
  clear TT
  refine wp_SK (D:=DP w g q v base i p l seen (oSettle q t0 t1) Rp.enc) 10 11 12 (seen[i + 1 + 1]?=some ce2) (i + 1 + 1 + 1) #[.int .u64 ce2.vA,.int .u64 ce2.vB,.int .u8 (holdK ce0.vB),.int .u32 t0,.int .u32 (holdW ce0.vB),.bool ce2.is] [pw g 0,pw g 0,pw g 7,some (.int .i64 0,True),some (.pointer (some ⟨gto,0,none⟩),True),some (.int .u32 t0,True),some (.pointer (some ⟨go0,0,none⟩),True),some (.pointer (some ⟨go0,1,none⟩),True),some (.int .u64 ce0.vB,True),some (.agg #[.int .u8 (holdK ce0.vB),.int .u32 t0,.int .u32 (holdW ce0.vB)],True),some (.agg (thing ce2.vA ce2.vB (holdK ce0.vB) t0 (holdW ce0.vB) ce2.is),True),none,none] SS.out (fun vals=>?_) (fun vals W5 hB hfin hall=>?_) (ea 11 rfl)
  · simp only [ObD,Act.put,qA,qC,qZ]
    refine ⟨?_,?_,?_,?_,?_,?o4_5,?_,?_,?o4_8,?o4_9,?o4_10,?o4_11,?o4_12,trivial⟩
    all_goals (intro L W hL hk hC hw;have f:=deps hw rfl rfl;simp only [depF,vsP,pw,qS,qD,and_true,true_and] at f)
    case' o4_5=>have k0:W.cell? ⟨gto,0,none⟩=some (.int .u32 t0):=(cw_bx hC).2.2.2.2.1.out.cell 0
    case' o4_8=>have k1:W.cell? ⟨go0,1,none⟩=some (.int .u64 ce0.vB):=(cw_bx hC).1.out.cell 1
    case o4_9=>have CL:=Lib.hid (hold_any t0 ce0.vB W);clear hL hC hk hw;refine spD rfl ?_;go_simp;(with_reducible refine CL.out.mono ?_);rintro e w8 ⟨rfl,h2⟩;first | exact sq h2 rfl ⟨rfl,trivial⟩ | exact ⟨_,rfl,sq h2 rfl ⟨rfl,trivial⟩⟩
    case o4_10=>
      have CL:=Lib.hid (look_K SS.out (hC.pre hk) BEG.out (by have:=HI.out;omega) CE2.out (holdK ce0.vB) t0 (holdW ce0.vB));clear hL hC hk hw;refine spD rfl ?_;go_simp;(with_reducible refine CL.out.mono ?_);rintro e w8 (⟨h,rfl,h2⟩ | ⟨h1,rfl,hf,H⟩)
      · exact ⟨_,rfl,Did.miss (by unfold oSettle;simp only [runOm_bind,run_look S0.out,run_look S1.out,I0.out,if_true,run_look_no h]) h2⟩
      · first | exact kv hf H rfl ⟨rfl,trivial⟩ | exact ⟨_,rfl,kv hf H rfl ⟨rfl,trivial⟩⟩
    case o4_11=>have ZZ:=hC.fr.size;clear hL hC hk hw;refine spD rfl ?_;go_simp;exact am ZZ
    case o4_12=>obtain ⟨gt,C,fa,hgt,bx0,hc⟩:=Fw.geta (hw ⟨11,.data⟩ (by simp) rfl) (by decide);obtain ⟨c0,c1,c2,c3,c4,c5,rfl⟩:=arr6 hc;have q:=six_cells bx0;have BXX:=Lib.hid bx0;have FA:=Lib.hid fa;clear bx0 hc;unfold thing at f;clear hL hC hk hw;refine spD rfl ?_;go_simp;exact sm SS.out BEG.out BXX.out hgt FA.out
    all_goals (have c:=kn7 hC;clear hL hC hk hw;refine spD rfl ?_;go_simp;first | exact sv rfl ⟨rfl,trivial⟩ | exact ⟨_,rfl,sv rfl ⟨rfl,trivial⟩⟩)
  have S2:=Lib.hid hB.1
  simp only [allF,vsP,pw,true_and,and_true,Nat.reduceAdd] at hall
  obtain ⟨gp0,fa,hgt,bx⟩:=hfin
  simp only [TL,Act.put,qA,qC,qZ,hall,fa]
  replace SS:=Lib.hid (SS.out.push BEG.out hB.st SS.out.lt hgt bx)
  clear hall vals hB fa hgt bx
  go_upto_region 9 with fail
  refine wp_SA (D:=DP w g q v base i p l seen (oSettle q t0 t1) Rp.enc) 10 11 12 True True (i + 1 + 1 + 1) (l++[amt (holdK ce0.vB) t0 (holdW ce0.vB) (ce2.vA + ce0.vA)]) [pw g 0,some (.pointer (some ⟨gp0,2,none⟩),True),some (.agg #[.int .u8 (holdK ce0.vB),.int .u32 t0,.int .u32 (holdW ce0.vB)],True),some (.pointer (some ⟨gp0,0,none⟩),True),some (.pointer (some ⟨gp0,0,none⟩),True),some (.int .u64 ce2.vA,True),some (.pointer (some ⟨go0,0,none⟩),True),some (.pointer (some ⟨go0,0,none⟩),True),some (.int .u64 ce0.vA,True),some (.int .u64 (ce2.vA + ce0.vA),Mr ce2.vA ce0.vA),some (.tuple #[],True)] SS.out (fun vals=>?_) (fun vals W6 hB hall=>?_)
  · simp only [ObD,Act.put,qA,qC,qZ]
    refine ⟨?_,?_,?o5_2,?_,?_,?o5_5,?_,?_,?o5_8,?o5_9,?o5_10,trivial⟩
    all_goals (intro L W hL hk hC hw;have f:=deps hw rfl rfl;simp only [depF,vsP,pw,qS,qD,and_true,true_and] at f)
    case' o5_2=>have k2:W.cell? ⟨gp0,2,none⟩=some (.int .u8 (holdK ce0.vB)):=(cw_bx hC).1.out.cell 2;have k3:W.cell? ⟨gp0,3,none⟩=some (.int .u32 t0):=(cw_bx hC).1.out.cell 3;have k4:W.cell? ⟨gp0,4,none⟩=some (.int .u32 (holdW ce0.vB)):=(cw_bx hC).1.out.cell 4
    case' o5_5=>have k0:W.cell? ⟨gp0,0,none⟩=some (.int .u64 ce2.vA):=(cw_bx hC).1.out.cell 0
    case' o5_8=>have k0:W.cell? ⟨go0,0,none⟩=some (.int .u64 ce0.vA):=(cw_bx hC).2.1.out.cell 0
    case o5_9=>
      have CL:=Lib.hid (more_C (vA_ok HOK.out S2.out) (vA_ok HOK.out S0.out) hC SS.out BEG.out);clear hL hC hk hw;refine spD rfl ?_;go_simp;(with_reducible refine CL.out.mono ?_)
      rintro e w8 (⟨h,rfl,h2⟩ | ⟨h1,rfl,h2⟩)
      · exact ⟨_,rfl,Did.err (by unfold oSettle;simp only [runOm_bind,run_look S0.out,run_look S1.out,I0.out,if_true,run_look S2.out,run_more_no h]) h2⟩
      · first | exact sq h2 rfl ⟨rfl,h1⟩ | exact ⟨_,rfl,sq h2 rfl ⟨rfl,h1⟩⟩
    case o5_10=>have CL:=Lib.hid (pk SS.out BEG.out (amount_S (hC.pre hk) BEG.out (by have:=HL.out;(try simp only [List.length_append,List.length_cons,List.length_nil]);omega) (holdK ce0.vB) t0 (holdW ce0.vB) (ce2.vA + ce0.vA) (show _=l++[amt (holdK ce0.vB) t0 (holdW ce0.vB) (ce2.vA + ce0.vA)] by simp)));clear hL hC hk hw;refine spD rfl ?_;go_simp;(with_reducible refine CL.out.mono ?_);rintro e w8 ⟨rfl,hf,H⟩;first | exact kv hf H rfl ⟨rfl,trivial⟩ | exact ⟨_,rfl,kv hf H rfl ⟨rfl,trivial⟩⟩
    all_goals (have c:=kn7 hC;clear hL hC hk hw;refine spD rfl ?_;go_simp;first | exact sv rfl ⟨rfl,trivial⟩ | exact ⟨_,rfl,sv rfl ⟨rfl,trivial⟩⟩)
  have C6:Hid (Mr ce2.vA ce0.vA):=Lib.hid (vsP_c (hall.get 9))
  simp only [allF,vsP,pw,true_and,and_true,Nat.reduceAdd] at hall
  simp only [TL,Act.put,qA,qC,qZ,hall]
  obtain ⟨p6,hB⟩:=hB.put
  replace SS:=Lib.hid hB
  clear hall vals hB
  go_wp2
  replace SS:=Lib.hid SS.out.drop
  replace SS:=Lib.hid SS.out.drop
  rw [rounds_succ]
  obtain ⟨W7,hWn⟩:∃ W7,W6.alloc (.cells #[.int .u64 ce1.vA,.int .u64 ce1.vB,.int .u8 5,.int .u32 q.id,.int .u32 1,.bool true] 130)=W7:=⟨_,rfl⟩
  obtain ⟨go1,hgn⟩:∃ go1,W6.heap.size=go1:=⟨_,rfl⟩
  have TT:=SS.out.alloc BEG.out #[.int .u64 ce1.vA,.int .u64 ce1.vB,.int .u8 5,.int .u32 q.id,.int .u32 1,.bool true] 130
  rw [hgn,hWn] at TT
  replace TT:=Lib.hid TT
  have HWN:=Lib.hid hWn
  have HGN:=Lib.hid hgn
  clear hWn hgn
  go_upto_region 8 with fail
  try rw [HWN.out]
  try rw [HGN.out]
  clear HWN HGN SS
  have SS:=TT
  clear TT
  refine wp_SK (D:=DP w g q v base i p l seen (oSettle q t0 t1) Rp.enc) 10 11 12 (seen[i + 1 + 1 + 1]?=some ce3) (i + 1 + 1 + 1 + 1) #[.int .u64 ce3.vA,.int .u64 ce3.vB,.int .u8 (holdK ce1.vB),.int .u32 t1,.int .u32 (holdW ce1.vB),.bool ce3.is] [pw g 0,pw g 0,pw g 7,some (.int .i64 1,True),some (.pointer (some ⟨gto,1,none⟩),True),some (.int .u32 t1,True),some (.pointer (some ⟨go1,0,none⟩),True),some (.pointer (some ⟨go1,1,none⟩),True),some (.int .u64 ce1.vB,True),some (.agg #[.int .u8 (holdK ce1.vB),.int .u32 t1,.int .u32 (holdW ce1.vB)],True),some (.agg (thing ce3.vA ce3.vB (holdK ce1.vB) t1 (holdW ce1.vB) ce3.is),True),none,none] SS.out (fun vals=>?_) (fun vals W8 hB hfin hall=>?_) (ea 11 rfl)
  · simp only [ObD,Act.put,qA,qC,qZ]
    refine ⟨?_,?_,?_,?_,?_,?o7_5,?_,?_,?o7_8,?o7_9,?o7_10,?o7_11,?o7_12,trivial⟩
    all_goals (intro L W hL hk hC hw;have f:=deps hw rfl rfl;simp only [depF,vsP,pw,qS,qD,and_true,true_and] at f)
    case' o7_5=>have k1:W.cell? ⟨gto,1,none⟩=some (.int .u32 t1):=(cw_bx hC).2.2.2.2.1.out.cell 1
    case' o7_8=>have k1:W.cell? ⟨go1,1,none⟩=some (.int .u64 ce1.vB):=(cw_bx hC).1.out.cell 1
    case o7_9=>have CL:=Lib.hid (hold_any t1 ce1.vB W);clear hL hC hk hw;refine spD rfl ?_;go_simp;(with_reducible refine CL.out.mono ?_);rintro e w8 ⟨rfl,h2⟩;first | exact sq h2 rfl ⟨rfl,trivial⟩ | exact ⟨_,rfl,sq h2 rfl ⟨rfl,trivial⟩⟩
    case o7_10=>
      have CL:=Lib.hid (look_K SS.out (hC.pre hk) BEG.out (by have:=HI.out;omega) CE3.out (holdK ce1.vB) t1 (holdW ce1.vB));clear hL hC hk hw;refine spD rfl ?_;go_simp;(with_reducible refine CL.out.mono ?_);rintro e w8 (⟨h,rfl,h2⟩ | ⟨h1,rfl,hf,H⟩)
      · exact ⟨_,rfl,Did.miss (by unfold oSettle;simp only [runOm_bind,run_look S0.out,run_look S1.out,I0.out,if_true,run_look S2.out,run_more C6.out,oAmount,run_put,I1.out,if_true,run_look_no h]) h2⟩
      · first | exact kv hf H rfl ⟨rfl,trivial⟩ | exact ⟨_,rfl,kv hf H rfl ⟨rfl,trivial⟩⟩
    case o7_11=>have ZZ:=hC.fr.size;clear hL hC hk hw;refine spD rfl ?_;go_simp;exact am ZZ
    case o7_12=>obtain ⟨gt,C,fa,hgt,bx0,hc⟩:=Fw.geta (hw ⟨11,.data⟩ (by simp) rfl) (by decide);obtain ⟨c0,c1,c2,c3,c4,c5,rfl⟩:=arr6 hc;have q:=six_cells bx0;have BXX:=Lib.hid bx0;have FA:=Lib.hid fa;clear bx0 hc;unfold thing at f;clear hL hC hk hw;refine spD rfl ?_;go_simp;exact sm SS.out BEG.out BXX.out hgt FA.out
    all_goals (have c:=kn7 hC;clear hL hC hk hw;refine spD rfl ?_;go_simp;first | exact sv rfl ⟨rfl,trivial⟩ | exact ⟨_,rfl,sv rfl ⟨rfl,trivial⟩⟩)
  have S3:=Lib.hid hB.1
  simp only [allF,vsP,pw,true_and,and_true,Nat.reduceAdd] at hall
  obtain ⟨gp1,fa,hgt,bx⟩:=hfin
  simp only [TL,Act.put,qA,qC,qZ,hall,fa]
  replace SS:=Lib.hid (SS.out.push BEG.out hB.st SS.out.lt hgt bx)
  clear hall vals hB fa hgt bx
  go_upto_region 9 with fail
  refine wp_SA (D:=DP w g q v base i p l seen (oSettle q t0 t1) Rp.enc) 10 11 12 True True (i + 1 + 1 + 1 + 1) (l++[amt (holdK ce0.vB) t0 (holdW ce0.vB) (ce2.vA + ce0.vA),amt (holdK ce1.vB) t1 (holdW ce1.vB) (ce3.vA + ce1.vA)]) [pw g 0,some (.pointer (some ⟨gp1,2,none⟩),True),some (.agg #[.int .u8 (holdK ce1.vB),.int .u32 t1,.int .u32 (holdW ce1.vB)],True),some (.pointer (some ⟨gp1,0,none⟩),True),some (.pointer (some ⟨gp1,0,none⟩),True),some (.int .u64 ce3.vA,True),some (.pointer (some ⟨go1,0,none⟩),True),some (.pointer (some ⟨go1,0,none⟩),True),some (.int .u64 ce1.vA,True),some (.int .u64 (ce3.vA + ce1.vA),Mr ce3.vA ce1.vA),some (.tuple #[],True)] SS.out (fun vals=>?_) (fun vals W9 hB hall=>?_)
  · simp only [ObD,Act.put,qA,qC,qZ]
    refine ⟨?_,?_,?o8_2,?_,?_,?o8_5,?_,?_,?o8_8,?o8_9,?o8_10,trivial⟩
    all_goals (intro L W hL hk hC hw;have f:=deps hw rfl rfl;simp only [depF,vsP,pw,qS,qD,and_true,true_and] at f)
    case' o8_2=>have k2:W.cell? ⟨gp1,2,none⟩=some (.int .u8 (holdK ce1.vB)):=(cw_bx hC).1.out.cell 2;have k3:W.cell? ⟨gp1,3,none⟩=some (.int .u32 t1):=(cw_bx hC).1.out.cell 3;have k4:W.cell? ⟨gp1,4,none⟩=some (.int .u32 (holdW ce1.vB)):=(cw_bx hC).1.out.cell 4
    case' o8_5=>have k0:W.cell? ⟨gp1,0,none⟩=some (.int .u64 ce3.vA):=(cw_bx hC).1.out.cell 0
    case' o8_8=>have k0:W.cell? ⟨go1,0,none⟩=some (.int .u64 ce1.vA):=(cw_bx hC).2.1.out.cell 0
    case o8_9=>
      have CL:=Lib.hid (more_C (vA_ok HOK.out S3.out) (vA_ok HOK.out S1.out) hC SS.out BEG.out);clear hL hC hk hw;refine spD rfl ?_;go_simp;(with_reducible refine CL.out.mono ?_)
      rintro e w8 (⟨h,rfl,h2⟩ | ⟨h1,rfl,h2⟩)
      · exact ⟨_,rfl,Did.err (by unfold oSettle;simp only [runOm_bind,run_look S0.out,run_look S1.out,I0.out,if_true,run_look S2.out,run_more C6.out,oAmount,run_put,I1.out,if_true,run_look S3.out,run_more_no h]) h2⟩
      · first | exact sq h2 rfl ⟨rfl,h1⟩ | exact ⟨_,rfl,sq h2 rfl ⟨rfl,h1⟩⟩
    case o8_10=>have CL:=Lib.hid (pk SS.out BEG.out (amount_S (hC.pre hk) BEG.out (by have:=HL.out;(try simp only [List.length_append,List.length_cons,List.length_nil]);omega) (holdK ce1.vB) t1 (holdW ce1.vB) (ce3.vA + ce1.vA) (show _=l++[amt (holdK ce0.vB) t0 (holdW ce0.vB) (ce2.vA + ce0.vA),amt (holdK ce1.vB) t1 (holdW ce1.vB) (ce3.vA + ce1.vA)] by simp)));clear hL hC hk hw;refine spD rfl ?_;go_simp;(with_reducible refine CL.out.mono ?_);rintro e w8 ⟨rfl,hf,H⟩;first | exact kv hf H rfl ⟨rfl,trivial⟩ | exact ⟨_,rfl,kv hf H rfl ⟨rfl,trivial⟩⟩
    all_goals (have c:=kn7 hC;clear hL hC hk hw;refine spD rfl ?_;go_simp;first | exact sv rfl ⟨rfl,trivial⟩ | exact ⟨_,rfl,sv rfl ⟨rfl,trivial⟩⟩)
  have C9:Hid (Mr ce3.vA ce1.vA):=Lib.hid (vsP_c (hall.get 9))
  simp only [allF,vsP,pw,true_and,and_true,Nat.reduceAdd] at hall
  simp only [TL,Act.put,qA,qC,qZ,hall]
  obtain ⟨p9,hB⟩:=hB.put
  replace SS:=Lib.hid hB
  clear hall vals hB
  go_wp2
  replace SS:=Lib.hid SS.out.drop
  replace SS:=Lib.hid SS.out.drop
  have y0:W9.cell? ⟨ga,0,none⟩=some (.int .u64 ce0.vA):=SS.out.bx.1.out.cell 0
  have y1:W9.cell? ⟨ga,1,none⟩=some (.int .u64 ce0.vB):=SS.out.bx.1.out.cell 1
  have y2:W9.cell? ⟨ga,2,none⟩=some (.int .u8 5):=SS.out.bx.1.out.cell 2
  have y3:W9.cell? ⟨ga,3,none⟩=some (.int .u32 q.id):=SS.out.bx.1.out.cell 3
  have y4:W9.cell? ⟨ga,4,none⟩=some (.int .u32 0):=SS.out.bx.1.out.cell 4
  have y5:W9.cell? ⟨ga,5,none⟩=some (.bool true):=SS.out.bx.1.out.cell 5
  have y6:W9.cell? ⟨ga,6,none⟩=some (.int .u64 ce1.vA):=SS.out.bx.1.out.cell 6
  have y7:W9.cell? ⟨ga,7,none⟩=some (.int .u64 ce1.vB):=SS.out.bx.1.out.cell 7
  have y8:W9.cell? ⟨ga,8,none⟩=some (.int .u8 5):=SS.out.bx.1.out.cell 8
  have y9:W9.cell? ⟨ga,9,none⟩=some (.int .u32 q.id):=SS.out.bx.1.out.cell 9
  have y10:W9.cell? ⟨ga,10,none⟩=some (.int .u32 1):=SS.out.bx.1.out.cell 10
  have y11:W9.cell? ⟨ga,11,none⟩=some (.bool true):=SS.out.bx.1.out.cell 11
  rw [rounds_succ]
  go_wp2
  refine wp_loop_rounds 3 ?_
  clear y0 y1 y2 y3 y4 y5 y6 y7 y8 y9 y10 y11
  replace SS:=Lib.hid SS.out.drop
  rw [rounds_succ]
  obtain ⟨W10,hWn⟩:∃ W10,W9.alloc (.cells #[.int .u64 ce0.vA,.int .u64 ce0.vB,.int .u8 5,.int .u32 q.id,.int .u32 0,.bool true] 130)=W10:=⟨_,rfl⟩
  obtain ⟨gq0,hgn⟩:∃ gq0,W9.heap.size=gq0:=⟨_,rfl⟩
  have TT:=SS.out.alloc BEG.out #[.int .u64 ce0.vA,.int .u64 ce0.vB,.int .u8 5,.int .u32 q.id,.int .u32 0,.bool true] 130
  rw [hgn,hWn] at TT
  replace TT:=Lib.hid TT
  have HWN:=Lib.hid hWn
  have HGN:=Lib.hid hgn
  clear hWn hgn
  go_wp2_with fail
  try rw [HWN.out]
  try rw [HGN.out]
  clear HWN HGN SS
  have SS:=TT
  clear TT
  have CALL:=Lib.hid (gone_S SS.out BEG.out (by have:=HL.out;(try simp only [List.length_append,List.length_cons,List.length_nil]);omega) 5 q.id 0 (show _=l++[amt (holdK ce0.vB) t0 (holdW ce0.vB) (ce2.vA + ce0.vA),amt (holdK ce1.vB) t1 (holdW ce1.vB) (ce3.vA + ce1.vA),Pu.mk 5 q.id 0 0 0 true] by simp))
  (with_reducible refine CALL.out.mono ?_)
  rintro e W11 ⟨rfl,hf,p11,hs⟩
  replace SS:=Lib.hid hs
  clear CALL hf hs
  go_wp2
  rw [rounds_succ]
  obtain ⟨W12,hWn⟩:∃ W12,W11.alloc (.cells #[.int .u64 ce1.vA,.int .u64 ce1.vB,.int .u8 5,.int .u32 q.id,.int .u32 1,.bool true] 130)=W12:=⟨_,rfl⟩
  obtain ⟨gq1,hgn⟩:∃ gq1,W11.heap.size=gq1:=⟨_,rfl⟩
  have TT:=SS.out.alloc BEG.out #[.int .u64 ce1.vA,.int .u64 ce1.vB,.int .u8 5,.int .u32 q.id,.int .u32 1,.bool true] 130
  rw [hgn,hWn] at TT
  replace TT:=Lib.hid TT
  have HWN:=Lib.hid hWn
  have HGN:=Lib.hid hgn
  clear hWn hgn
  go_wp2_with fail
  try rw [HWN.out]
  try rw [HGN.out]
  clear HWN HGN SS
  have SS:=TT
  clear TT
  have CALL:=Lib.hid (gone_S SS.out BEG.out (by have:=HL.out;(try simp only [List.length_append,List.length_cons,List.length_nil]);omega) 5 q.id 1 (show _=l++[amt (holdK ce0.vB) t0 (holdW ce0.vB) (ce2.vA + ce0.vA),amt (holdK ce1.vB) t1 (holdW ce1.vB) (ce3.vA + ce1.vA),Pu.mk 5 q.id 0 0 0 true,Pu.mk 5 q.id 1 0 0 true] by simp))
  (with_reducible refine CALL.out.mono ?_)
  rintro e W13 ⟨rfl,hf,p13,hs⟩
  replace SS:=Lib.hid hs
  clear CALL hf hs
  go_wp2
  rw [rounds_succ]
  have y0:W13.cell? ⟨g,4,none⟩=some (.int .u32 q.id):=SS.out.kn.c4
  go_wp2_with fail
  (with_reducible refine (trade_any q.id _).mono ?_)
  rintro e W14 ⟨rfl,hbl⟩
  clear y0
  replace SS:=Lib.hid (SS.out.later hbl)
  clear hbl
  have y0:W14.cell? ⟨g,4,none⟩=some (.int .u32 q.id):=SS.out.kn.c4
  have CALL:=Lib.hid (gone_S SS.out BEG.out (by have:=HL.out;(try simp only [List.length_append,List.length_cons,List.length_nil]);omega) 4 q.id 0 (show _=l++[amt (holdK ce0.vB) t0 (holdW ce0.vB) (ce2.vA + ce0.vA),amt (holdK ce1.vB) t1 (holdW ce1.vB) (ce3.vA + ce1.vA),Pu.mk 5 q.id 0 0 0 true,Pu.mk 5 q.id 1 0 0 true,Pu.mk 4 q.id 0 0 0 true] by simp))
  go_wp2_with fail
  (with_reducible refine CALL.out.mono ?_)
  rintro e W15 ⟨rfl,hf,p15,hs⟩
  replace SS:=Lib.hid hs
  clear CALL hf hs y0
  obtain ⟨⟨z0,z1,z2,z3⟩,x0,x1,x2,x3⟩:=four_cells SS.out.bx.2.2.2.1.out
  go_wp2
  generalize hW:(World.setCell _ (⟨gre,3,none⟩:Addr) _)=WZ
  have b9:Box WZ gre #[.int .u16 0,.int .u64 1,.int .u64 0,.int .u64 0] 35:=by
    rw [← hW]
    exact four_box SS.out.bx.2.2.2.1.out
  have F9:Hid (Fr (fun x=>x=gre) W15 WZ):=Lib.hid (by
    rw [← hW]
    exact four_fr)
  obtain ⟨⟨v0,v1,v2,v3⟩,-⟩:=four_cells b9
  clear hW b9 z0 z1 z2 z3 x0 x1 x2 x3
  refine bodyPost_ret (v:=.agg #[.int .u16 0,.int .u64 1,.int .u64 0,.int .u64 0]) (by simp [results,Tryz.results100,go_sem,v0,v1,v2,v3];try rfl) rfl ?_
  refine (SS.out.wr BEG.out 3 rfl F9.out).did (y:=(⟨1,0,0⟩,l++[amt (holdK ce0.vB) t0 (holdW ce0.vB) (ce2.vA + ce0.vA),amt (holdK ce1.vB) t1 (holdW ce1.vB) (ce3.vA + ce1.vA),Pu.mk 5 q.id 0 0 0 true,Pu.mk 5 q.id 1 0 0 true,Pu.mk 4 q.id 0 0 0 true])) ?_ rfl
  unfold oSettle
  simp only [runOm_bind,runOm_pure,run_look S0.out,run_look S1.out,I0.out,if_true,run_look S2.out,run_more C6.out,oAmount,run_put,I1.out,if_true,run_look S3.out,run_more C9.out,oAmount,run_put,oGone,run_put,oGone,run_put,oGone,run_put,oGone,List.append_assoc,List.cons_append,List.nil_append]
  try rfl
end Go.Proofs.YtabckmadpdchnaaGreat.Rule
namespace Go.Proofs.YtabckmadpdchnaaGreat.Rule
open Go.ChangeShapes Go.WideShapes Go.ChangeAt Go.RowKit Go.IntWalk Go.Proofs.Mem Go.Proofs.Each
theorem settle_all (w:World) (g:Nat) (q:Ot) (v:Value) (base i:Nat) (p:Value) (l:List Pu) (seen:List Ce) (hst:St w g q v base i p l) (hs:SeenAt w g v seen) (hg:g < base) (hbase:base≤w.heap.size) (hl:l.length≤800) (hi:i≤800000) (hq:q.Ok) (hok:∀ c∈seen,c.Ok) (t0 t1:Int) :
    Calls Tryz.prog 100 #[.pointer (some ⟨g,0,none⟩),.agg #[.int .u32 t0,.int .u32 t1]] w (Did w g q v base i p l seen (oSettle q t0 t1) Rp.enc):=by
  have key:∀ n:Nat,(∀ c:Ce,seen[n]?=some c→c.is=true)∨(∀ c:Ce,seen[n]?=some c→c.is=false):=fun n=>by
    obtain ⟨ce,h⟩:=the_cell seen n
    cases e:ce.is with
    | true=>exact .inl fun c hc=>by rw [h c hc];exact e
    | false=>exact .inr fun c hc=>by rw [h c hc];exact e
  rcases key i with a | a <;> rcases key (i + 1) with b | b
  · exact settle_yy w g q v base i p l seen hst hs hg hbase hl hi hq hok t0 t1 a b
  · exact settle_yn w g q v base i p l seen hst hs hg hbase hl hi hq hok t0 t1 a b
  · exact settle_ny w g q v base i p l seen hst hs hg hbase hl hi hq hok t0 t1 a b
  · exact settle_nn w g q v base i p l seen hst hs hg hbase hl hi hq hok t0 t1 a b
def PartQ (w:World) (g:Nat) (q:Ot) (v:Value) (base:Nat) (p:Value) (W:World) (j:Nat) (p':Value) (l:List Pu) (seen:List Ce) (m:Om Rp) (e:Ending) (w':World):Prop:=
  (∃ k a b,runOm seen m j l=.miss k a b∧e=.panicked (raiseK k a b)∧Below g w w')∨(∃ n,runOm seen m j l=.err n∧e=.panicked (raise_ n)∧Below g w w') ∨
    ∃ y:Rp × List Pu,∃ n p2,runOm seen m j l=.ok y n∧e=.returned (.agg #[.int .u16 0,.int .u64 y.1.A,.int .u64 y.1.B,.int .u64 y.1.C])∧Run w g q v base p w' n p2 y.2∧Fr (fun x=>x=g∨p'.ownBlock=some x) W w'
theorem settle_run {w W:World} {g base j:Nat} {q:Ot} {v p p':Value} {l:List Pu} {seen:List Ce} (h:Run w g q v base p W j p' l) (hb:Begin w g q v base p seen) (hj:j≤800000) (hl:l.length≤800) (t0 t1:Int) :
    Calls Tryz.prog 100 #[.pointer (some ⟨g,0,none⟩),.agg #[.int .u32 t0,.int .u32 t1]] W (PartQ w g q v base p W j p' l seen (oSettle q t0 t1)):=
  (settle_all W g q v base j p' l seen h.st (h.cells_ hb) hb.hg (Nat.le_trans hb.hbase h.size) hl hj hb.hq hb.hok t0 t1).mono fun e w' hd=>h.part hb hd
end Go.Proofs.YtabckmadpdchnaaGreat.Rule
namespace Go.Proofs.YtabckmadpdchnaaGreat.Rule
open Go.ChangeShapes Go.WideShapes Go.ChangeAt Go.RowKit Go.IntWalk Go.Proofs.Mem Go.Proofs.Each
theorem break_first (w:World) (g:Nat) (q:Ot) (v:Value) (base i:Nat) (p:Value) (l:List Pu) (seen:List Ce) (hst:St w g q v base i p l) (hs:SeenAt w g v seen) (hg:g < base) (hbase:base≤w.heap.size) (hl:l.length≤700) (hi:i≤700000) (hq:q.Ok) (hok:∀ c∈seen,c.Ok) (hc:∀ c,seen[i]?=some c→q.wh=hi32 c.A) :
    Calls Tryz.prog 72 #[.pointer (some ⟨g,0,none⟩)] w (Did w g q v base i p l seen (oBreak q) Rp.enc):=by
  have BEG:=Lib.hid (Begin.mk hs hg hbase hq hok (fun x hx=>hst.own.lt x hx))
  obtain ⟨W0,hW0⟩:∃ W0,w.alloc (.cells #[.int .u16 0,.int .u64 0,.int .u64 0,.int .u64 0] 35)=W0:=⟨_,rfl⟩
  have SS:Hid (ST w g q v base p i p l [.box w.heap.size #[.int .u16 0,.int .u64 0,.int .u64 0,.int .u64 0] 35] W0):=Lib.hid (by rw [← hW0];exact ST.start hst BEG.out _ _)
  have HI:=Lib.hid hi
  have HQ:=Lib.hid hq
  have HOK:=Lib.hid hok
  have HL:=Lib.hid hl
  have HC:=Lib.hid hc
  obtain ⟨ce0,hce0⟩:=the_cell seen (i)
  have CE0:=Lib.hid hce0
  clear hst hs hg hbase hl hi hq hok hc hce0
  go_enter Tryz.func72,Tryz.ntmps72
  go_upto_region 1 with fail
  try rw [hW0]
  clear hW0
  refine wp_SK (D:=DP w g q v base i p l seen (oBreak q) Rp.enc) 9 10 11 (seen[i]?=some ce0∧ce0.is=true) (i + 1) #[.int .u64 ce0.A,.int .u64 ce0.B,.int .u8 4,.int .u32 q.id,.int .u32 0,.bool true] [pw g 0,pw g 0,pw g 7,pw g 0,pw g 0,pw g 0,pw g 4,some (.int .u32 q.id,True),some (.agg #[.int .u8 4,.int .u32 q.id,.int .u32 0],True),some (.agg (thing ce0.A ce0.B 4 q.id 0 true),True),none,none] SS.out (fun vals=>?_) (fun vals W1 hB hfin hall=>?_) (ea 10 rfl)
  · simp only [ObD,Act.put,qA,qC,qZ]
    refine ⟨?_,?_,?_,?_,?_,?_,?_,?_,?o0_8,?o0_9,?o0_10,?o0_11,trivial⟩
    all_goals (intro L W hL hk hC hw;have f:=deps hw rfl rfl;simp only [depF,vsP,pw,qS,qD,and_true,true_and] at f)
    case o0_8=>have CL:=Lib.hid (trade_any q.id W);clear hL hC hk hw;refine spD rfl ?_;go_simp;(with_reducible refine CL.out.mono ?_);rintro e w8 ⟨rfl,h2⟩;first | exact sq h2 rfl ⟨rfl,trivial⟩ | exact ⟨_,rfl,sq h2 rfl ⟨rfl,trivial⟩⟩
    case o0_9=>
      have CL:=Lib.hid (there_K SS.out (hC.pre hk) BEG.out (by have:=HI.out;omega) CE0.out 4 q.id 0);clear hL hC hk hw;refine spD rfl ?_;go_simp;(with_reducible refine CL.out.mono ?_);rintro e w8 (⟨h,rfl,h2⟩ | ⟨h,h3,rfl,h2⟩ | ⟨rfl,hf,H⟩)
      · exact ⟨_,rfl,Did.miss (by unfold oBreak;simp only [runOm_bind,run_there_no h]) h2⟩
      · exact ⟨_,rfl,Did.err (by unfold oBreak;simp only [runOm_bind,run_there_not h h3]) h2⟩
      · first | exact kv hf H rfl ⟨rfl,trivial⟩ | exact ⟨_,rfl,kv hf H rfl ⟨rfl,trivial⟩⟩
    case o0_10=>have ZZ:=hC.fr.size;clear hL hC hk hw;refine spD rfl ?_;go_simp;exact am ZZ
    case o0_11=>obtain ⟨gt,C,fa,hgt,bx0,hc⟩:=Fw.geta (hw ⟨10,.data⟩ (by simp) rfl) (by decide);obtain ⟨c0,c1,c2,c3,c4,c5,rfl⟩:=arr6 hc;have q:=six_cells bx0;have BXX:=Lib.hid bx0;have FA:=Lib.hid fa;clear bx0 hc;unfold thing at f;clear hL hC hk hw;refine spD rfl ?_;go_simp;exact sm SS.out BEG.out BXX.out hgt FA.out
    all_goals (have c:=kn7 hC;clear hL hC hk hw;refine spD rfl ?_;go_simp;first | exact sv rfl ⟨rfl,trivial⟩ | exact ⟨_,rfl,sv rfl ⟨rfl,trivial⟩⟩)
  have S0:=Lib.hid hB.1
  simp only [allF,vsP,pw,true_and,and_true,Nat.reduceAdd] at hall
  obtain ⟨gt0,fa,hgt,bx⟩:=hfin
  simp only [TL,Act.put,qA,qC,qZ,hall,fa]
  replace SS:=Lib.hid (SS.out.push BEG.out hB.st SS.out.lt hgt bx)
  clear hall vals hB fa hgt bx
  obtain ⟨⟨y0,y1,y2,y3,y4,y5⟩,-⟩:=six_cells SS.out.bx.1.out
  have CALL:=Lib.hid (side_first W1 g q v (i + 1:Nat) p SS.out.run.out.st.wb ce0.A ce0.B 4 q.id 0 true (A_ok HOK.out S0.out.1) (HC.out ce0 S0.out.1))
  unfold thing at CALL
  go_wp2_with fail
  (with_reducible refine CALL.out.mono ?_)
  rintro e W2 ⟨rfl,hbl⟩
  clear CALL y0 y1 y2 y3 y4 y5
  replace SS:=Lib.hid (SS.out.later hbl)
  clear hbl
  have y0:W2.cell? ⟨gt0,0,none⟩=some (.int .u64 ce0.A):=SS.out.bx.1.out.cell 0
  go_wp2_with fail
  (with_reducible refine (unpair_any ce0.A (A_ok HOK.out S0.out.1) _).mono ?_)
  rintro e W3 ⟨rfl,hbl⟩
  clear y0
  replace SS:=Lib.hid (SS.out.later hbl)
  clear hbl
  have CALL:=Lib.hid (settle_run SS.out.run.out BEG.out (by have:=HI.out;omega) (by have:=HL.out;(try simp only [List.length_append,List.length_cons,List.length_nil]);omega) (hi32 ce0.A) (lo32 ce0.A))
  go_wp2_with fail
  (with_reducible refine CALL.out.mono ?_)
  rintro e WS (⟨k,a,b,h1,rfl,h2⟩ | ⟨m,h1,rfl,h2⟩ | ⟨y,j,pS,h1,rfl,hr,hf⟩)
  · exact ⟨rfl,Did.miss (by unfold oBreak;simp only [runOm_bind,run_there S0.out.1 S0.out.2,oSide,if_pos (HC.out ce0 S0.out.1),runOm_pure,h1]) h2⟩
  · exact ⟨rfl,Did.err (by unfold oBreak;simp only [runOm_bind,run_there S0.out.1 S0.out.2,oSide,if_pos (HC.out ce0 S0.out.1),runOm_pure,h1]) h2⟩
  have DOK:=Lib.hid (show runOm seen (oBreak q) i l=.ok y j by unfold oBreak;simp only [runOm_bind,run_there S0.out.1 S0.out.2,oSide,if_pos (HC.out ce0 S0.out.1),runOm_pure,h1])
  replace SS:=Lib.hid (SS.out.keep hr hf SS.out.put_far)
  clear hr hf h1 CALL
  obtain ⟨⟨z0,z1,z2,z3⟩,x0,x1,x2,x3⟩:=four_cells SS.out.bx.2.1.out
  go_wp2
  generalize hW:(World.setCell _ (⟨w.heap.size,3,none⟩:Addr) _)=WZ
  have b9:Box WZ w.heap.size #[.int .u16 0,.int .u64 y.1.A,.int .u64 y.1.B,.int .u64 y.1.C] 35:=by
    rw [← hW]
    exact four_box SS.out.bx.2.1.out
  have F9:Hid (Fr (fun x=>x=w.heap.size) WS WZ):=Lib.hid (by
    rw [← hW]
    exact four_fr)
  obtain ⟨⟨v0,v1,v2,v3⟩,-⟩:=four_cells b9
  clear hW b9 z0 z1 z2 z3 x0 x1 x2 x3
  refine bodyPost_ret (v:=.agg #[.int .u16 0,.int .u64 y.1.A,.int .u64 y.1.B,.int .u64 y.1.C]) (by simp [results,Tryz.results72,go_sem,v0,v1,v2,v3];try rfl) rfl ?_
  exact (SS.out.wr BEG.out 1 rfl F9.out).did (y:=y) DOK.out rfl
theorem break_second (w:World) (g:Nat) (q:Ot) (v:Value) (base i:Nat) (p:Value) (l:List Pu) (seen:List Ce) (hst:St w g q v base i p l) (hs:SeenAt w g v seen) (hg:g < base) (hbase:base≤w.heap.size) (hl:l.length≤700) (hi:i≤700000) (hq:q.Ok) (hok:∀ c∈seen,c.Ok) (hc:∀ c,seen[i]?=some c→q.wh≠hi32 c.A∧q.wh=lo32 c.A) :
    Calls Tryz.prog 72 #[.pointer (some ⟨g,0,none⟩)] w (Did w g q v base i p l seen (oBreak q) Rp.enc):=by
  have BEG:=Lib.hid (Begin.mk hs hg hbase hq hok (fun x hx=>hst.own.lt x hx))
  obtain ⟨W0,hW0⟩:∃ W0,w.alloc (.cells #[.int .u16 0,.int .u64 0,.int .u64 0,.int .u64 0] 35)=W0:=⟨_,rfl⟩
  have SS:Hid (ST w g q v base p i p l [.box w.heap.size #[.int .u16 0,.int .u64 0,.int .u64 0,.int .u64 0] 35] W0):=Lib.hid (by rw [← hW0];exact ST.start hst BEG.out _ _)
  have HI:=Lib.hid hi
  have HQ:=Lib.hid hq
  have HOK:=Lib.hid hok
  have HL:=Lib.hid hl
  have HC:=Lib.hid hc
  obtain ⟨ce0,hce0⟩:=the_cell seen (i)
  have CE0:=Lib.hid hce0
  clear hst hs hg hbase hl hi hq hok hc hce0
  go_enter Tryz.func72,Tryz.ntmps72
  go_upto_region 1 with fail
  try rw [hW0]
  clear hW0
  refine wp_SK (D:=DP w g q v base i p l seen (oBreak q) Rp.enc) 9 10 11 (seen[i]?=some ce0∧ce0.is=true) (i + 1) #[.int .u64 ce0.A,.int .u64 ce0.B,.int .u8 4,.int .u32 q.id,.int .u32 0,.bool true] [pw g 0,pw g 0,pw g 7,pw g 0,pw g 0,pw g 0,pw g 4,some (.int .u32 q.id,True),some (.agg #[.int .u8 4,.int .u32 q.id,.int .u32 0],True),some (.agg (thing ce0.A ce0.B 4 q.id 0 true),True),none,none] SS.out (fun vals=>?_) (fun vals W1 hB hfin hall=>?_) (ea 10 rfl)
  · simp only [ObD,Act.put,qA,qC,qZ]
    refine ⟨?_,?_,?_,?_,?_,?_,?_,?_,?o0_8,?o0_9,?o0_10,?o0_11,trivial⟩
    all_goals (intro L W hL hk hC hw;have f:=deps hw rfl rfl;simp only [depF,vsP,pw,qS,qD,and_true,true_and] at f)
    case o0_8=>have CL:=Lib.hid (trade_any q.id W);clear hL hC hk hw;refine spD rfl ?_;go_simp;(with_reducible refine CL.out.mono ?_);rintro e w8 ⟨rfl,h2⟩;first | exact sq h2 rfl ⟨rfl,trivial⟩ | exact ⟨_,rfl,sq h2 rfl ⟨rfl,trivial⟩⟩
    case o0_9=>
      have CL:=Lib.hid (there_K SS.out (hC.pre hk) BEG.out (by have:=HI.out;omega) CE0.out 4 q.id 0);clear hL hC hk hw;refine spD rfl ?_;go_simp;(with_reducible refine CL.out.mono ?_);rintro e w8 (⟨h,rfl,h2⟩ | ⟨h,h3,rfl,h2⟩ | ⟨rfl,hf,H⟩)
      · exact ⟨_,rfl,Did.miss (by unfold oBreak;simp only [runOm_bind,run_there_no h]) h2⟩
      · exact ⟨_,rfl,Did.err (by unfold oBreak;simp only [runOm_bind,run_there_not h h3]) h2⟩
      · first | exact kv hf H rfl ⟨rfl,trivial⟩ | exact ⟨_,rfl,kv hf H rfl ⟨rfl,trivial⟩⟩
    case o0_10=>have ZZ:=hC.fr.size;clear hL hC hk hw;refine spD rfl ?_;go_simp;exact am ZZ
    case o0_11=>obtain ⟨gt,C,fa,hgt,bx0,hc⟩:=Fw.geta (hw ⟨10,.data⟩ (by simp) rfl) (by decide);obtain ⟨c0,c1,c2,c3,c4,c5,rfl⟩:=arr6 hc;have q:=six_cells bx0;have BXX:=Lib.hid bx0;have FA:=Lib.hid fa;clear bx0 hc;unfold thing at f;clear hL hC hk hw;refine spD rfl ?_;go_simp;exact sm SS.out BEG.out BXX.out hgt FA.out
    all_goals (have c:=kn7 hC;clear hL hC hk hw;refine spD rfl ?_;go_simp;first | exact sv rfl ⟨rfl,trivial⟩ | exact ⟨_,rfl,sv rfl ⟨rfl,trivial⟩⟩)
  have S0:=Lib.hid hB.1
  simp only [allF,vsP,pw,true_and,and_true,Nat.reduceAdd] at hall
  obtain ⟨gt0,fa,hgt,bx⟩:=hfin
  simp only [TL,Act.put,qA,qC,qZ,hall,fa]
  replace SS:=Lib.hid (SS.out.push BEG.out hB.st SS.out.lt hgt bx)
  clear hall vals hB fa hgt bx
  obtain ⟨⟨y0,y1,y2,y3,y4,y5⟩,-⟩:=six_cells SS.out.bx.1.out
  have CALL:=Lib.hid (side_second W1 g q v (i + 1:Nat) p SS.out.run.out.st.wb ce0.A ce0.B 4 q.id 0 true (A_ok HOK.out S0.out.1) ((HC.out ce0 S0.out.1).1) (HC.out ce0 S0.out.1).2)
  unfold thing at CALL
  go_wp2_with fail
  (with_reducible refine CALL.out.mono ?_)
  rintro e W2 ⟨rfl,hbl⟩
  clear CALL y0 y1 y2 y3 y4 y5
  replace SS:=Lib.hid (SS.out.later hbl)
  clear hbl
  have y0:W2.cell? ⟨gt0,0,none⟩=some (.int .u64 ce0.A):=SS.out.bx.1.out.cell 0
  go_wp2_with fail
  (with_reducible refine (unpair_any ce0.A (A_ok HOK.out S0.out.1) _).mono ?_)
  rintro e W3 ⟨rfl,hbl⟩
  clear y0
  replace SS:=Lib.hid (SS.out.later hbl)
  clear hbl
  have CALL:=Lib.hid (settle_run SS.out.run.out BEG.out (by have:=HI.out;omega) (by have:=HL.out;(try simp only [List.length_append,List.length_cons,List.length_nil]);omega) (hi32 ce0.A) (lo32 ce0.A))
  go_wp2_with fail
  (with_reducible refine CALL.out.mono ?_)
  rintro e WS (⟨k,a,b,h1,rfl,h2⟩ | ⟨m,h1,rfl,h2⟩ | ⟨y,j,pS,h1,rfl,hr,hf⟩)
  · exact ⟨rfl,Did.miss (by unfold oBreak;simp only [runOm_bind,run_there S0.out.1 S0.out.2,oSide,if_neg (HC.out ce0 S0.out.1).1,if_pos (HC.out ce0 S0.out.1).2,runOm_pure,h1]) h2⟩
  · exact ⟨rfl,Did.err (by unfold oBreak;simp only [runOm_bind,run_there S0.out.1 S0.out.2,oSide,if_neg (HC.out ce0 S0.out.1).1,if_pos (HC.out ce0 S0.out.1).2,runOm_pure,h1]) h2⟩
  have DOK:=Lib.hid (show runOm seen (oBreak q) i l=.ok y j by unfold oBreak;simp only [runOm_bind,run_there S0.out.1 S0.out.2,oSide,if_neg (HC.out ce0 S0.out.1).1,if_pos (HC.out ce0 S0.out.1).2,runOm_pure,h1])
  replace SS:=Lib.hid (SS.out.keep hr hf SS.out.put_far)
  clear hr hf h1 CALL
  obtain ⟨⟨z0,z1,z2,z3⟩,x0,x1,x2,x3⟩:=four_cells SS.out.bx.2.1.out
  go_wp2
  generalize hW:(World.setCell _ (⟨w.heap.size,3,none⟩:Addr) _)=WZ
  have b9:Box WZ w.heap.size #[.int .u16 0,.int .u64 y.1.A,.int .u64 y.1.B,.int .u64 y.1.C] 35:=by
    rw [← hW]
    exact four_box SS.out.bx.2.1.out
  have F9:Hid (Fr (fun x=>x=w.heap.size) WS WZ):=Lib.hid (by
    rw [← hW]
    exact four_fr)
  obtain ⟨⟨v0,v1,v2,v3⟩,-⟩:=four_cells b9
  clear hW b9 z0 z1 z2 z3 x0 x1 x2 x3
  refine bodyPost_ret (v:=.agg #[.int .u16 0,.int .u64 y.1.A,.int .u64 y.1.B,.int .u64 y.1.C]) (by simp [results,Tryz.results72,go_sem,v0,v1,v2,v3];try rfl) rfl ?_
  exact (SS.out.wr BEG.out 1 rfl F9.out).did (y:=y) DOK.out rfl
theorem break_none (w:World) (g:Nat) (q:Ot) (v:Value) (base i:Nat) (p:Value) (l:List Pu) (seen:List Ce) (hst:St w g q v base i p l) (hs:SeenAt w g v seen) (hg:g < base) (hbase:base≤w.heap.size) (hl:l.length≤700) (hi:i≤700000) (hq:q.Ok) (hok:∀ c∈seen,c.Ok) (hc:∀ c,seen[i]?=some c→q.wh≠hi32 c.A∧q.wh≠lo32 c.A) :
    Calls Tryz.prog 72 #[.pointer (some ⟨g,0,none⟩)] w (Did w g q v base i p l seen (oBreak q) Rp.enc):=by
  have BEG:=Lib.hid (Begin.mk hs hg hbase hq hok (fun x hx=>hst.own.lt x hx))
  obtain ⟨W0,hW0⟩:∃ W0,w.alloc (.cells #[.int .u16 0,.int .u64 0,.int .u64 0,.int .u64 0] 35)=W0:=⟨_,rfl⟩
  have SS:Hid (ST w g q v base p i p l [.box w.heap.size #[.int .u16 0,.int .u64 0,.int .u64 0,.int .u64 0] 35] W0):=Lib.hid (by rw [← hW0];exact ST.start hst BEG.out _ _)
  have HI:=Lib.hid hi
  have HQ:=Lib.hid hq
  have HOK:=Lib.hid hok
  have HL:=Lib.hid hl
  have HC:=Lib.hid hc
  obtain ⟨ce0,hce0⟩:=the_cell seen (i)
  have CE0:=Lib.hid hce0
  clear hst hs hg hbase hl hi hq hok hc hce0
  go_enter Tryz.func72,Tryz.ntmps72
  go_upto_region 1 with fail
  try rw [hW0]
  clear hW0
  refine wp_SK (D:=DP w g q v base i p l seen (oBreak q) Rp.enc) 9 10 11 (seen[i]?=some ce0∧ce0.is=true) (i + 1) #[.int .u64 ce0.A,.int .u64 ce0.B,.int .u8 4,.int .u32 q.id,.int .u32 0,.bool true] [pw g 0,pw g 0,pw g 7,pw g 0,pw g 0,pw g 0,pw g 4,some (.int .u32 q.id,True),some (.agg #[.int .u8 4,.int .u32 q.id,.int .u32 0],True),some (.agg (thing ce0.A ce0.B 4 q.id 0 true),True),none,none] SS.out (fun vals=>?_) (fun vals W1 hB hfin hall=>?_) (ea 10 rfl)
  · simp only [ObD,Act.put,qA,qC,qZ]
    refine ⟨?_,?_,?_,?_,?_,?_,?_,?_,?o0_8,?o0_9,?o0_10,?o0_11,trivial⟩
    all_goals (intro L W hL hk hC hw;have f:=deps hw rfl rfl;simp only [depF,vsP,pw,qS,qD,and_true,true_and] at f)
    case o0_8=>have CL:=Lib.hid (trade_any q.id W);clear hL hC hk hw;refine spD rfl ?_;go_simp;(with_reducible refine CL.out.mono ?_);rintro e w8 ⟨rfl,h2⟩;first | exact sq h2 rfl ⟨rfl,trivial⟩ | exact ⟨_,rfl,sq h2 rfl ⟨rfl,trivial⟩⟩
    case o0_9=>
      have CL:=Lib.hid (there_K SS.out (hC.pre hk) BEG.out (by have:=HI.out;omega) CE0.out 4 q.id 0);clear hL hC hk hw;refine spD rfl ?_;go_simp;(with_reducible refine CL.out.mono ?_);rintro e w8 (⟨h,rfl,h2⟩ | ⟨h,h3,rfl,h2⟩ | ⟨rfl,hf,H⟩)
      · exact ⟨_,rfl,Did.miss (by unfold oBreak;simp only [runOm_bind,run_there_no h]) h2⟩
      · exact ⟨_,rfl,Did.err (by unfold oBreak;simp only [runOm_bind,run_there_not h h3]) h2⟩
      · first | exact kv hf H rfl ⟨rfl,trivial⟩ | exact ⟨_,rfl,kv hf H rfl ⟨rfl,trivial⟩⟩
    case o0_10=>have ZZ:=hC.fr.size;clear hL hC hk hw;refine spD rfl ?_;go_simp;exact am ZZ
    case o0_11=>obtain ⟨gt,C,fa,hgt,bx0,hc⟩:=Fw.geta (hw ⟨10,.data⟩ (by simp) rfl) (by decide);obtain ⟨c0,c1,c2,c3,c4,c5,rfl⟩:=arr6 hc;have q:=six_cells bx0;have BXX:=Lib.hid bx0;have FA:=Lib.hid fa;clear bx0 hc;unfold thing at f;clear hL hC hk hw;refine spD rfl ?_;go_simp;exact sm SS.out BEG.out BXX.out hgt FA.out
    all_goals (have c:=kn7 hC;clear hL hC hk hw;refine spD rfl ?_;go_simp;first | exact sv rfl ⟨rfl,trivial⟩ | exact ⟨_,rfl,sv rfl ⟨rfl,trivial⟩⟩)
  have S0:=Lib.hid hB.1
  simp only [allF,vsP,pw,true_and,and_true,Nat.reduceAdd] at hall
  obtain ⟨gt0,fa,hgt,bx⟩:=hfin
  simp only [TL,Act.put,qA,qC,qZ,hall,fa]
  replace SS:=Lib.hid (SS.out.push BEG.out hB.st SS.out.lt hgt bx)
  clear hall vals hB fa hgt bx
  obtain ⟨⟨y0,y1,y2,y3,y4,y5⟩,-⟩:=six_cells SS.out.bx.1.out
  have CALL:=Lib.hid (side_none W1 g q v (i + 1:Nat) p SS.out.run.out.st.wb ce0.A ce0.B 4 q.id 0 true (A_ok HOK.out S0.out.1) ((HC.out ce0 S0.out.1).1) (HC.out ce0 S0.out.1).2)
  unfold thing at CALL
  go_wp2_with fail
  (with_reducible refine CALL.out.mono ?_)
  rintro e W2 ⟨rfl,hbl⟩
  exact ⟨rfl,Did.err (by unfold oBreak;simp only [runOm_bind,run_there S0.out.1 S0.out.2,oSide,if_neg (HC.out ce0 S0.out.1).1,if_neg (HC.out ce0 S0.out.1).2,run_err_]) (SS.out.run.out.lowB BEG.out hbl)⟩
theorem the_side (seen:List Ce) (i:Nat) (q:Ot):(∀ c,seen[i]?=some c→q.wh=hi32 c.A)∨(∀ c,seen[i]?=some c→q.wh≠hi32 c.A∧q.wh=lo32 c.A)∨(∀ c,seen[i]?=some c→q.wh≠hi32 c.A∧q.wh≠lo32 c.A):=by
  obtain ⟨ce,h⟩:=the_cell seen i
  by_cases h1:q.wh=hi32 ce.A
  · exact .inl fun c hc=>by rw [h c hc];exact h1
  · by_cases h2:q.wh=lo32 ce.A
    · exact .inr (.inl fun c hc=>by rw [h c hc];exact ⟨h1,h2⟩)
    · exact .inr (.inr fun c hc=>by rw [h c hc];exact ⟨h1,h2⟩)
theorem break_all (w:World) (g:Nat) (q:Ot) (v:Value) (base i:Nat) (p:Value) (l:List Pu) (seen:List Ce) (hst:St w g q v base i p l) (hs:SeenAt w g v seen) (hg:g < base) (hbase:base≤w.heap.size) (hl:l.length≤700) (hi:i≤700000) (hq:q.Ok) (hok:∀ c∈seen,c.Ok) :
    Calls Tryz.prog 72 #[.pointer (some ⟨g,0,none⟩)] w (Did w g q v base i p l seen (oBreak q) Rp.enc):=by
  rcases the_side seen i q with h | h | h
  · exact break_first w g q v base i p l seen hst hs hg hbase hl hi hq hok h
  · exact break_second w g q v base i p l seen hst hs hg hbase hl hi hq hok h
  · exact break_none w g q v base i p l seen hst hs hg hbase hl hi hq hok h
end Go.Proofs.YtabckmadpdchnaaGreat.Rule
