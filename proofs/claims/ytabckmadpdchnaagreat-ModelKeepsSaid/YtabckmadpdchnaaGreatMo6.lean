import Derived.Test.YtabckmadpdchnaaGreatMo1
import Derived.Test.YtabckmadpdchnaaGreatMo2
import Derived.Test.YtabckmadpdchnaaGreatMo3
import Derived.Test.YtabckmadpdchnaaGreatMo5
set_option linter.unusedVariables false
set_option linter.unusedSimpArgs false
set_option linter.unnecessarySimpa false
set_option maxRecDepth 100000
set_option maxHeartbeats 8000000
namespace Go.Proofs.YtabckmadpdchnaaGreat.Rule
open Go.ChangeShapes Go.WideShapes Go.ChangeAt Go.RowKit Go.IntWalk Go.Proofs.Mem Go.Proofs.Each
theorem agree_first_put (w:World) (g:Nat) (q:Ot) (v:Value) (base i:Nat) (p:Value) (l:List Pu) (seen:List Ce) (hst:St w g q v base i p l) (hs:SeenAt w g v seen) (hg:g < base) (hbase:base≤w.heap.size) (hl:l.length≤700) (hi:i≤700000) (hq:q.Ok) (hok:∀ c∈seen,c.Ok) (hc:∀ c,seen[i]?=some c→q.wh=hi32 c.A) (hd:∀ c,seen[i]?=some c→c.B≠2∧c.B≠3) :
    Calls Tryz.prog 71 #[.pointer (some ⟨g,0,none⟩)] w (Did w g q v base i p l seen (oAgree q) Rp.enc):=by
  have BEG:=Lib.hid (Begin.mk hs hg hbase hq hok (fun x hx=>hst.own.lt x hx))
  obtain ⟨W0,hW0⟩:∃ W0,w.alloc (.cells #[.int .u16 0,.int .u64 0,.int .u64 0,.int .u64 0] 35)=W0:=⟨_,rfl⟩
  have SS:Hid (ST w g q v base p i p l [.box w.heap.size #[.int .u16 0,.int .u64 0,.int .u64 0,.int .u64 0] 35] W0):=Lib.hid (by rw [← hW0];exact ST.start hst BEG.out _ _)
  have HI:=Lib.hid hi
  have HQ:=Lib.hid hq
  have HOK:=Lib.hid hok
  have HL:=Lib.hid hl
  have HC:=Lib.hid hc
  have HD:=Lib.hid hd
  obtain ⟨ce0,hce0⟩:=the_cell seen (i)
  have CE0:=Lib.hid hce0
  clear hst hs hg hbase hl hi hq hok hc hd hce0
  go_enter Tryz.func71,Tryz.ntmps71
  go_upto_region 1 with fail
  try rw [hW0]
  clear hW0
  refine wp_SK (D:=DP w g q v base i p l seen (oAgree q) Rp.enc) 9 10 11 (seen[i]?=some ce0∧ce0.is=true) (i + 1) #[.int .u64 ce0.A,.int .u64 ce0.B,.int .u8 4,.int .u32 q.id,.int .u32 0,.bool true] [pw g 0,pw g 0,pw g 7,pw g 0,pw g 0,pw g 0,pw g 4,some (.int .u32 q.id,True),some (.agg #[.int .u8 4,.int .u32 q.id,.int .u32 0],True),some (.agg (thing ce0.A ce0.B 4 q.id 0 true),True),none,none] SS.out (fun vals=>?_) (fun vals W1 hB hfin hall=>?_) (ea 10 rfl)
  · simp only [ObD,Act.put,qA,qC,qZ]
    refine ⟨?_,?_,?_,?_,?_,?_,?_,?_,?o0_8,?o0_9,?o0_10,?o0_11,trivial⟩
    all_goals (intro L W hL hk hC hw;have f:=deps hw rfl rfl;simp only [depF,vsP,pw,qS,qD,and_true,true_and] at f)
    case o0_8=>have CL:=Lib.hid (trade_any q.id W);clear hL hC hk hw;refine spD rfl ?_;go_simp;(with_reducible refine CL.out.mono ?_);rintro e w8 ⟨rfl,h2⟩;first | exact sq h2 rfl ⟨rfl,trivial⟩ | exact ⟨_,rfl,sq h2 rfl ⟨rfl,trivial⟩⟩
    case o0_9=>
      have CL:=Lib.hid (there_K SS.out (hC.pre hk) BEG.out (by have:=HI.out;omega) CE0.out 4 q.id 0);clear hL hC hk hw;refine spD rfl ?_;go_simp;(with_reducible refine CL.out.mono ?_);rintro e w8 (⟨h,rfl,h2⟩ | ⟨h,h3,rfl,h2⟩ | ⟨rfl,hf,H⟩)
      · exact ⟨_,rfl,Did.miss (by unfold oAgree;simp only [runOm_bind,run_there_no h]) h2⟩
      · exact ⟨_,rfl,Did.err (by unfold oAgree;simp only [runOm_bind,run_there_not h h3]) h2⟩
      · first | exact kv hf H rfl ⟨rfl,trivial⟩ | exact ⟨_,rfl,kv hf H rfl ⟨rfl,trivial⟩⟩
    case o0_10=>have ZZ:=hC.fr.size;clear hL hC hk hw;refine spD rfl ?_;go_simp;exact am ZZ
    case o0_11=>obtain ⟨gt,C,fa,hgt,bx0,hc⟩:=Fw.geta (hw ⟨10,.data⟩ (by simp) rfl) (by decide);obtain ⟨c0,c1,c2,c3,c4,c5,rfl⟩:=arr6 hc;have q:=six_cells bx0;have BXX:=Lib.hid bx0;have FA:=Lib.hid fa;clear bx0 hc;unfold thing at f;clear hL hC hk hw;refine spD rfl ?_;go_simp;exact sm SS.out BEG.out BXX.out hgt FA.out
    all_goals (have c:=kn7 hC;clear hL hC hk hw;refine spD rfl ?_;go_simp;first | exact sv rfl ⟨rfl,trivial⟩ | exact ⟨_,rfl,sv rfl ⟨rfl,trivial⟩⟩)
  have S0:=Lib.hid hB.1
  simp only [allF,vsP,pw,true_and,and_true,Nat.reduceAdd] at hall
  obtain ⟨gt0,fa,hgt,bx⟩:=hfin
  simp only [TL,Act.put,qA,qC,qZ,hall,fa]
  replace SS:=Lib.hid (SS.out.push BEG.out hB.st SS.out.lt hgt bx)
  clear hall vals hB fa hgt bx
  obtain ⟨⟨y0,y1,y2,y3,y4,y5⟩,-⟩:=six_cells SS.out.bx.1.out
  have CALL:=Lib.hid (side_first W1 g q v (i + 1:Nat) p SS.out.run.out.st.wb ce0.A ce0.B 4 q.id 0 true (A_ok HOK.out S0.out.1) (HC.out ce0 S0.out.1))
  unfold thing at CALL
  go_wp2_with fail
  (with_reducible refine CALL.out.mono ?_)
  rintro e W2 ⟨rfl,hbl⟩
  clear CALL y0 y1 y2 y3 y4 y5
  replace SS:=Lib.hid (SS.out.later hbl)
  clear hbl
  have d1:(ce0.B == 2)=false:=by simpa using (HD.out ce0 S0.out.1).1
  have d2:(ce0.B == 3)=false:=by simpa using (HD.out ce0 S0.out.1).2
  have d3:(ce0.B != 2)=true:=by simpa using (HD.out ce0 S0.out.1).1
  have d4:(ce0.B != 3)=true:=by simpa using (HD.out ce0 S0.out.1).2
  obtain ⟨⟨y0,y1,y2,y3,y4,y5⟩,-⟩:=six_cells SS.out.bx.1.out
  obtain ⟨⟨y0,y1,y2,y3,y4,y5⟩,-⟩:=six_cells SS.out.bx.1.out
  have CALL:=Lib.hid (put_S SS.out BEG.out (by have:=HL.out;(try simp only [List.length_append,List.length_cons,List.length_nil]);omega) 4 q.id 0 ce0.A 1 (show _=l++[Pu.mk 4 q.id 0 ce0.A 1 false] by simp))
  go_wp2_with fail
  (with_reducible refine CALL.out.mono ?_)
  rintro e W3 ⟨rfl,hf,p3,hs⟩
  replace SS:=Lib.hid hs
  clear CALL hf hs y0 y1 y2 y3 y4 y5
  obtain ⟨⟨z0,z1,z2,z3⟩,x0,x1,x2,x3⟩:=four_cells SS.out.bx.2.1.out
  go_wp2
  generalize hW:(World.setCell _ (⟨w.heap.size,3,none⟩:Addr) _)=WZ
  have b9:Box WZ w.heap.size #[.int .u16 0,.int .u64 0,.int .u64 0,.int .u64 0] 35:=by
    rw [← hW]
    exact four_box SS.out.bx.2.1.out
  have F9:Hid (Fr (fun x=>x=w.heap.size) W3 WZ):=Lib.hid (by
    rw [← hW]
    exact four_fr)
  obtain ⟨⟨v0,v1,v2,v3⟩,-⟩:=four_cells b9
  clear hW b9 z0 z1 z2 z3 x0 x1 x2 x3
  refine bodyPost_ret (v:=.agg #[.int .u16 0,.int .u64 0,.int .u64 0,.int .u64 0]) (by simp [results,Tryz.results71,go_sem,v0,v1,v2,v3];try rfl) rfl ?_
  refine (SS.out.wr BEG.out 1 rfl F9.out).did (y:=(⟨0,0,0⟩,l++[Pu.mk 4 q.id 0 ce0.A 1 false])) ?_ rfl
  unfold oAgree
  simp only [runOm_bind,runOm_pure,run_there S0.out.1 S0.out.2,oSide,if_pos (HC.out ce0 S0.out.1),runOm_pure,if_pos (show ce0.B≠2 - 0∧ce0.B≠3 from ⟨by have:=(HD.out ce0 S0.out.1).1;omega,(HD.out ce0 S0.out.1).2⟩),run_put]
  try rfl
theorem agree_first_other (w:World) (g:Nat) (q:Ot) (v:Value) (base i:Nat) (p:Value) (l:List Pu) (seen:List Ce) (hst:St w g q v base i p l) (hs:SeenAt w g v seen) (hg:g < base) (hbase:base≤w.heap.size) (hl:l.length≤700) (hi:i≤700000) (hq:q.Ok) (hok:∀ c∈seen,c.Ok) (hc:∀ c,seen[i]?=some c→q.wh=hi32 c.A) (hd:∀ c,seen[i]?=some c→c.B=2) :
    Calls Tryz.prog 71 #[.pointer (some ⟨g,0,none⟩)] w (Did w g q v base i p l seen (oAgree q) Rp.enc):=by
  have BEG:=Lib.hid (Begin.mk hs hg hbase hq hok (fun x hx=>hst.own.lt x hx))
  obtain ⟨W0,hW0⟩:∃ W0,w.alloc (.cells #[.int .u16 0,.int .u64 0,.int .u64 0,.int .u64 0] 35)=W0:=⟨_,rfl⟩
  have SS:Hid (ST w g q v base p i p l [.box w.heap.size #[.int .u16 0,.int .u64 0,.int .u64 0,.int .u64 0] 35] W0):=Lib.hid (by rw [← hW0];exact ST.start hst BEG.out _ _)
  have HI:=Lib.hid hi
  have HQ:=Lib.hid hq
  have HOK:=Lib.hid hok
  have HL:=Lib.hid hl
  have HC:=Lib.hid hc
  have HD:=Lib.hid hd
  obtain ⟨ce0,hce0⟩:=the_cell seen (i)
  have CE0:=Lib.hid hce0
  clear hst hs hg hbase hl hi hq hok hc hd hce0
  go_enter Tryz.func71,Tryz.ntmps71
  go_upto_region 1 with fail
  try rw [hW0]
  clear hW0
  refine wp_SK (D:=DP w g q v base i p l seen (oAgree q) Rp.enc) 9 10 11 (seen[i]?=some ce0∧ce0.is=true) (i + 1) #[.int .u64 ce0.A,.int .u64 ce0.B,.int .u8 4,.int .u32 q.id,.int .u32 0,.bool true] [pw g 0,pw g 0,pw g 7,pw g 0,pw g 0,pw g 0,pw g 4,some (.int .u32 q.id,True),some (.agg #[.int .u8 4,.int .u32 q.id,.int .u32 0],True),some (.agg (thing ce0.A ce0.B 4 q.id 0 true),True),none,none] SS.out (fun vals=>?_) (fun vals W1 hB hfin hall=>?_) (ea 10 rfl)
  · simp only [ObD,Act.put,qA,qC,qZ]
    refine ⟨?_,?_,?_,?_,?_,?_,?_,?_,?o0_8,?o0_9,?o0_10,?o0_11,trivial⟩
    all_goals (intro L W hL hk hC hw;have f:=deps hw rfl rfl;simp only [depF,vsP,pw,qS,qD,and_true,true_and] at f)
    case o0_8=>have CL:=Lib.hid (trade_any q.id W);clear hL hC hk hw;refine spD rfl ?_;go_simp;(with_reducible refine CL.out.mono ?_);rintro e w8 ⟨rfl,h2⟩;first | exact sq h2 rfl ⟨rfl,trivial⟩ | exact ⟨_,rfl,sq h2 rfl ⟨rfl,trivial⟩⟩
    case o0_9=>
      have CL:=Lib.hid (there_K SS.out (hC.pre hk) BEG.out (by have:=HI.out;omega) CE0.out 4 q.id 0);clear hL hC hk hw;refine spD rfl ?_;go_simp;(with_reducible refine CL.out.mono ?_);rintro e w8 (⟨h,rfl,h2⟩ | ⟨h,h3,rfl,h2⟩ | ⟨rfl,hf,H⟩)
      · exact ⟨_,rfl,Did.miss (by unfold oAgree;simp only [runOm_bind,run_there_no h]) h2⟩
      · exact ⟨_,rfl,Did.err (by unfold oAgree;simp only [runOm_bind,run_there_not h h3]) h2⟩
      · first | exact kv hf H rfl ⟨rfl,trivial⟩ | exact ⟨_,rfl,kv hf H rfl ⟨rfl,trivial⟩⟩
    case o0_10=>have ZZ:=hC.fr.size;clear hL hC hk hw;refine spD rfl ?_;go_simp;exact am ZZ
    case o0_11=>obtain ⟨gt,C,fa,hgt,bx0,hc⟩:=Fw.geta (hw ⟨10,.data⟩ (by simp) rfl) (by decide);obtain ⟨c0,c1,c2,c3,c4,c5,rfl⟩:=arr6 hc;have q:=six_cells bx0;have BXX:=Lib.hid bx0;have FA:=Lib.hid fa;clear bx0 hc;unfold thing at f;clear hL hC hk hw;refine spD rfl ?_;go_simp;exact sm SS.out BEG.out BXX.out hgt FA.out
    all_goals (have c:=kn7 hC;clear hL hC hk hw;refine spD rfl ?_;go_simp;first | exact sv rfl ⟨rfl,trivial⟩ | exact ⟨_,rfl,sv rfl ⟨rfl,trivial⟩⟩)
  have S0:=Lib.hid hB.1
  simp only [allF,vsP,pw,true_and,and_true,Nat.reduceAdd] at hall
  obtain ⟨gt0,fa,hgt,bx⟩:=hfin
  simp only [TL,Act.put,qA,qC,qZ,hall,fa]
  replace SS:=Lib.hid (SS.out.push BEG.out hB.st SS.out.lt hgt bx)
  clear hall vals hB fa hgt bx
  obtain ⟨⟨y0,y1,y2,y3,y4,y5⟩,-⟩:=six_cells SS.out.bx.1.out
  have CALL:=Lib.hid (side_first W1 g q v (i + 1:Nat) p SS.out.run.out.st.wb ce0.A ce0.B 4 q.id 0 true (A_ok HOK.out S0.out.1) (HC.out ce0 S0.out.1))
  unfold thing at CALL
  go_wp2_with fail
  (with_reducible refine CALL.out.mono ?_)
  rintro e W2 ⟨rfl,hbl⟩
  clear CALL y0 y1 y2 y3 y4 y5
  replace SS:=Lib.hid (SS.out.later hbl)
  clear hbl
  have d1:(ce0.B == 2)=true:=by simpa using HD.out ce0 S0.out.1
  have d3:(ce0.B != 2)=false:=by simpa using HD.out ce0 S0.out.1
  have y0:W2.cell? ⟨gt0,1,none⟩=some (.int .u64 ce0.B):=SS.out.bx.1.out.cell 1
  have y0:W2.cell? ⟨gt0,0,none⟩=some (.int .u64 ce0.A):=SS.out.bx.1.out.cell 0
  go_wp2_with fail
  (with_reducible refine (unpair_any ce0.A (A_ok HOK.out S0.out.1) _).mono ?_)
  rintro e W3 ⟨rfl,hbl⟩
  clear y0
  replace SS:=Lib.hid (SS.out.later hbl)
  clear hbl
  have CALL:=Lib.hid (settle_run SS.out.run.out BEG.out (by have:=HI.out;omega) (by have:=HL.out;(try simp only [List.length_append,List.length_cons,List.length_nil]);omega) (lo32 ce0.A) (hi32 ce0.A))
  go_wp2_with fail
  (with_reducible refine CALL.out.mono ?_)
  rintro e WS (⟨k,a,b,h1,rfl,h2⟩ | ⟨m,h1,rfl,h2⟩ | ⟨y,j,pS,h1,rfl,hr,hf⟩)
  · exact ⟨rfl,Did.miss (by unfold oAgree;simp only [runOm_bind,run_there S0.out.1 S0.out.2,oSide,if_pos (HC.out ce0 S0.out.1),runOm_pure,if_neg (show ¬ (ce0.B≠2 - 0∧ce0.B≠3) by have:=HD.out ce0 S0.out.1;omega),h1]) h2⟩
  · exact ⟨rfl,Did.err (by unfold oAgree;simp only [runOm_bind,run_there S0.out.1 S0.out.2,oSide,if_pos (HC.out ce0 S0.out.1),runOm_pure,if_neg (show ¬ (ce0.B≠2 - 0∧ce0.B≠3) by have:=HD.out ce0 S0.out.1;omega),h1]) h2⟩
  have DOK:=Lib.hid (show runOm seen (oAgree q) i l=.ok y j by unfold oAgree;simp only [runOm_bind,run_there S0.out.1 S0.out.2,oSide,if_pos (HC.out ce0 S0.out.1),runOm_pure,if_neg (show ¬ (ce0.B≠2 - 0∧ce0.B≠3) by have:=HD.out ce0 S0.out.1;omega),h1])
  replace SS:=Lib.hid (SS.out.keep hr hf SS.out.put_far)
  clear hr hf h1 CALL
  obtain ⟨⟨z0,z1,z2,z3⟩,x0,x1,x2,x3⟩:=four_cells SS.out.bx.2.1.out
  go_wp2
  generalize hW:(World.setCell _ (⟨w.heap.size,3,none⟩:Addr) _)=WZ
  have b9:Box WZ w.heap.size #[.int .u16 0,.int .u64 y.1.A,.int .u64 y.1.B,.int .u64 y.1.C] 35:=by
    rw [← hW]
    exact four_box SS.out.bx.2.1.out
  have F9:Hid (Fr (fun x=>x=w.heap.size) WS WZ):=Lib.hid (by
    rw [← hW]
    exact four_fr)
  obtain ⟨⟨v0,v1,v2,v3⟩,-⟩:=four_cells b9
  clear hW b9 z0 z1 z2 z3 x0 x1 x2 x3
  refine bodyPost_ret (v:=.agg #[.int .u16 0,.int .u64 y.1.A,.int .u64 y.1.B,.int .u64 y.1.C]) (by simp [results,Tryz.results71,go_sem,v0,v1,v2,v3];try rfl) rfl ?_
  exact (SS.out.wr BEG.out 1 rfl F9.out).did (y:=y) DOK.out rfl
theorem agree_first_both (w:World) (g:Nat) (q:Ot) (v:Value) (base i:Nat) (p:Value) (l:List Pu) (seen:List Ce) (hst:St w g q v base i p l) (hs:SeenAt w g v seen) (hg:g < base) (hbase:base≤w.heap.size) (hl:l.length≤700) (hi:i≤700000) (hq:q.Ok) (hok:∀ c∈seen,c.Ok) (hc:∀ c,seen[i]?=some c→q.wh=hi32 c.A) (hd:∀ c,seen[i]?=some c→c.B≠2∧c.B=3) :
    Calls Tryz.prog 71 #[.pointer (some ⟨g,0,none⟩)] w (Did w g q v base i p l seen (oAgree q) Rp.enc):=by
  have BEG:=Lib.hid (Begin.mk hs hg hbase hq hok (fun x hx=>hst.own.lt x hx))
  obtain ⟨W0,hW0⟩:∃ W0,w.alloc (.cells #[.int .u16 0,.int .u64 0,.int .u64 0,.int .u64 0] 35)=W0:=⟨_,rfl⟩
  have SS:Hid (ST w g q v base p i p l [.box w.heap.size #[.int .u16 0,.int .u64 0,.int .u64 0,.int .u64 0] 35] W0):=Lib.hid (by rw [← hW0];exact ST.start hst BEG.out _ _)
  have HI:=Lib.hid hi
  have HQ:=Lib.hid hq
  have HOK:=Lib.hid hok
  have HL:=Lib.hid hl
  have HC:=Lib.hid hc
  have HD:=Lib.hid hd
  obtain ⟨ce0,hce0⟩:=the_cell seen (i)
  have CE0:=Lib.hid hce0
  clear hst hs hg hbase hl hi hq hok hc hd hce0
  go_enter Tryz.func71,Tryz.ntmps71
  go_upto_region 1 with fail
  try rw [hW0]
  clear hW0
  refine wp_SK (D:=DP w g q v base i p l seen (oAgree q) Rp.enc) 9 10 11 (seen[i]?=some ce0∧ce0.is=true) (i + 1) #[.int .u64 ce0.A,.int .u64 ce0.B,.int .u8 4,.int .u32 q.id,.int .u32 0,.bool true] [pw g 0,pw g 0,pw g 7,pw g 0,pw g 0,pw g 0,pw g 4,some (.int .u32 q.id,True),some (.agg #[.int .u8 4,.int .u32 q.id,.int .u32 0],True),some (.agg (thing ce0.A ce0.B 4 q.id 0 true),True),none,none] SS.out (fun vals=>?_) (fun vals W1 hB hfin hall=>?_) (ea 10 rfl)
  · simp only [ObD,Act.put,qA,qC,qZ]
    refine ⟨?_,?_,?_,?_,?_,?_,?_,?_,?o0_8,?o0_9,?o0_10,?o0_11,trivial⟩
    all_goals (intro L W hL hk hC hw;have f:=deps hw rfl rfl;simp only [depF,vsP,pw,qS,qD,and_true,true_and] at f)
    case o0_8=>have CL:=Lib.hid (trade_any q.id W);clear hL hC hk hw;refine spD rfl ?_;go_simp;(with_reducible refine CL.out.mono ?_);rintro e w8 ⟨rfl,h2⟩;first | exact sq h2 rfl ⟨rfl,trivial⟩ | exact ⟨_,rfl,sq h2 rfl ⟨rfl,trivial⟩⟩
    case o0_9=>
      have CL:=Lib.hid (there_K SS.out (hC.pre hk) BEG.out (by have:=HI.out;omega) CE0.out 4 q.id 0);clear hL hC hk hw;refine spD rfl ?_;go_simp;(with_reducible refine CL.out.mono ?_);rintro e w8 (⟨h,rfl,h2⟩ | ⟨h,h3,rfl,h2⟩ | ⟨rfl,hf,H⟩)
      · exact ⟨_,rfl,Did.miss (by unfold oAgree;simp only [runOm_bind,run_there_no h]) h2⟩
      · exact ⟨_,rfl,Did.err (by unfold oAgree;simp only [runOm_bind,run_there_not h h3]) h2⟩
      · first | exact kv hf H rfl ⟨rfl,trivial⟩ | exact ⟨_,rfl,kv hf H rfl ⟨rfl,trivial⟩⟩
    case o0_10=>have ZZ:=hC.fr.size;clear hL hC hk hw;refine spD rfl ?_;go_simp;exact am ZZ
    case o0_11=>obtain ⟨gt,C,fa,hgt,bx0,hc⟩:=Fw.geta (hw ⟨10,.data⟩ (by simp) rfl) (by decide);obtain ⟨c0,c1,c2,c3,c4,c5,rfl⟩:=arr6 hc;have q:=six_cells bx0;have BXX:=Lib.hid bx0;have FA:=Lib.hid fa;clear bx0 hc;unfold thing at f;clear hL hC hk hw;refine spD rfl ?_;go_simp;exact sm SS.out BEG.out BXX.out hgt FA.out
    all_goals (have c:=kn7 hC;clear hL hC hk hw;refine spD rfl ?_;go_simp;first | exact sv rfl ⟨rfl,trivial⟩ | exact ⟨_,rfl,sv rfl ⟨rfl,trivial⟩⟩)
  have S0:=Lib.hid hB.1
  simp only [allF,vsP,pw,true_and,and_true,Nat.reduceAdd] at hall
  obtain ⟨gt0,fa,hgt,bx⟩:=hfin
  simp only [TL,Act.put,qA,qC,qZ,hall,fa]
  replace SS:=Lib.hid (SS.out.push BEG.out hB.st SS.out.lt hgt bx)
  clear hall vals hB fa hgt bx
  obtain ⟨⟨y0,y1,y2,y3,y4,y5⟩,-⟩:=six_cells SS.out.bx.1.out
  have CALL:=Lib.hid (side_first W1 g q v (i + 1:Nat) p SS.out.run.out.st.wb ce0.A ce0.B 4 q.id 0 true (A_ok HOK.out S0.out.1) (HC.out ce0 S0.out.1))
  unfold thing at CALL
  go_wp2_with fail
  (with_reducible refine CALL.out.mono ?_)
  rintro e W2 ⟨rfl,hbl⟩
  clear CALL y0 y1 y2 y3 y4 y5
  replace SS:=Lib.hid (SS.out.later hbl)
  clear hbl
  have d1:(ce0.B == 2)=false:=by simpa using (HD.out ce0 S0.out.1).1
  have d2:(ce0.B == 3)=true:=by simpa using (HD.out ce0 S0.out.1).2
  have d3:(ce0.B != 2)=true:=by simpa using (HD.out ce0 S0.out.1).1
  have d4:(ce0.B != 3)=false:=by simpa using (HD.out ce0 S0.out.1).2
  have y0:W2.cell? ⟨gt0,1,none⟩=some (.int .u64 ce0.B):=SS.out.bx.1.out.cell 1
  have y0:W2.cell? ⟨gt0,0,none⟩=some (.int .u64 ce0.A):=SS.out.bx.1.out.cell 0
  go_wp2_with fail
  (with_reducible refine (unpair_any ce0.A (A_ok HOK.out S0.out.1) _).mono ?_)
  rintro e W3 ⟨rfl,hbl⟩
  clear y0
  replace SS:=Lib.hid (SS.out.later hbl)
  clear hbl
  have CALL:=Lib.hid (settle_run SS.out.run.out BEG.out (by have:=HI.out;omega) (by have:=HL.out;(try simp only [List.length_append,List.length_cons,List.length_nil]);omega) (lo32 ce0.A) (hi32 ce0.A))
  go_wp2_with fail
  (with_reducible refine CALL.out.mono ?_)
  rintro e WS (⟨k,a,b,h1,rfl,h2⟩ | ⟨m,h1,rfl,h2⟩ | ⟨y,j,pS,h1,rfl,hr,hf⟩)
  · exact ⟨rfl,Did.miss (by unfold oAgree;simp only [runOm_bind,run_there S0.out.1 S0.out.2,oSide,if_pos (HC.out ce0 S0.out.1),runOm_pure,if_neg (show ¬ (ce0.B≠2 - 0∧ce0.B≠3) by have:=HD.out ce0 S0.out.1;omega),h1]) h2⟩
  · exact ⟨rfl,Did.err (by unfold oAgree;simp only [runOm_bind,run_there S0.out.1 S0.out.2,oSide,if_pos (HC.out ce0 S0.out.1),runOm_pure,if_neg (show ¬ (ce0.B≠2 - 0∧ce0.B≠3) by have:=HD.out ce0 S0.out.1;omega),h1]) h2⟩
  have DOK:=Lib.hid (show runOm seen (oAgree q) i l=.ok y j by unfold oAgree;simp only [runOm_bind,run_there S0.out.1 S0.out.2,oSide,if_pos (HC.out ce0 S0.out.1),runOm_pure,if_neg (show ¬ (ce0.B≠2 - 0∧ce0.B≠3) by have:=HD.out ce0 S0.out.1;omega),h1])
  replace SS:=Lib.hid (SS.out.keep hr hf SS.out.put_far)
  clear hr hf h1 CALL
  obtain ⟨⟨z0,z1,z2,z3⟩,x0,x1,x2,x3⟩:=four_cells SS.out.bx.2.1.out
  go_wp2
  generalize hW:(World.setCell _ (⟨w.heap.size,3,none⟩:Addr) _)=WZ
  have b9:Box WZ w.heap.size #[.int .u16 0,.int .u64 y.1.A,.int .u64 y.1.B,.int .u64 y.1.C] 35:=by
    rw [← hW]
    exact four_box SS.out.bx.2.1.out
  have F9:Hid (Fr (fun x=>x=w.heap.size) WS WZ):=Lib.hid (by
    rw [← hW]
    exact four_fr)
  obtain ⟨⟨v0,v1,v2,v3⟩,-⟩:=four_cells b9
  clear hW b9 z0 z1 z2 z3 x0 x1 x2 x3
  refine bodyPost_ret (v:=.agg #[.int .u16 0,.int .u64 y.1.A,.int .u64 y.1.B,.int .u64 y.1.C]) (by simp [results,Tryz.results71,go_sem,v0,v1,v2,v3];try rfl) rfl ?_
  exact (SS.out.wr BEG.out 1 rfl F9.out).did (y:=y) DOK.out rfl
end Go.Proofs.YtabckmadpdchnaaGreat.Rule
namespace Go.Proofs.YtabckmadpdchnaaGreat.Rule
open Go.ChangeShapes Go.WideShapes Go.ChangeAt Go.RowKit Go.IntWalk Go.Proofs.Mem Go.Proofs.Each
theorem agree_second_put (w:World) (g:Nat) (q:Ot) (v:Value) (base i:Nat) (p:Value) (l:List Pu) (seen:List Ce) (hst:St w g q v base i p l) (hs:SeenAt w g v seen) (hg:g < base) (hbase:base≤w.heap.size) (hl:l.length≤700) (hi:i≤700000) (hq:q.Ok) (hok:∀ c∈seen,c.Ok) (hc:∀ c,seen[i]?=some c→q.wh≠hi32 c.A∧q.wh=lo32 c.A) (hd:∀ c,seen[i]?=some c→c.B≠1∧c.B≠3) :
    Calls Tryz.prog 71 #[.pointer (some ⟨g,0,none⟩)] w (Did w g q v base i p l seen (oAgree q) Rp.enc):=by
  have BEG:=Lib.hid (Begin.mk hs hg hbase hq hok (fun x hx=>hst.own.lt x hx))
  obtain ⟨W0,hW0⟩:∃ W0,w.alloc (.cells #[.int .u16 0,.int .u64 0,.int .u64 0,.int .u64 0] 35)=W0:=⟨_,rfl⟩
  have SS:Hid (ST w g q v base p i p l [.box w.heap.size #[.int .u16 0,.int .u64 0,.int .u64 0,.int .u64 0] 35] W0):=Lib.hid (by rw [← hW0];exact ST.start hst BEG.out _ _)
  have HI:=Lib.hid hi
  have HQ:=Lib.hid hq
  have HOK:=Lib.hid hok
  have HL:=Lib.hid hl
  have HC:=Lib.hid hc
  have HD:=Lib.hid hd
  obtain ⟨ce0,hce0⟩:=the_cell seen (i)
  have CE0:=Lib.hid hce0
  clear hst hs hg hbase hl hi hq hok hc hd hce0
  go_enter Tryz.func71,Tryz.ntmps71
  go_upto_region 1 with fail
  try rw [hW0]
  clear hW0
  refine wp_SK (D:=DP w g q v base i p l seen (oAgree q) Rp.enc) 9 10 11 (seen[i]?=some ce0∧ce0.is=true) (i + 1) #[.int .u64 ce0.A,.int .u64 ce0.B,.int .u8 4,.int .u32 q.id,.int .u32 0,.bool true] [pw g 0,pw g 0,pw g 7,pw g 0,pw g 0,pw g 0,pw g 4,some (.int .u32 q.id,True),some (.agg #[.int .u8 4,.int .u32 q.id,.int .u32 0],True),some (.agg (thing ce0.A ce0.B 4 q.id 0 true),True),none,none] SS.out (fun vals=>?_) (fun vals W1 hB hfin hall=>?_) (ea 10 rfl)
  · simp only [ObD,Act.put,qA,qC,qZ]
    refine ⟨?_,?_,?_,?_,?_,?_,?_,?_,?o0_8,?o0_9,?o0_10,?o0_11,trivial⟩
    all_goals (intro L W hL hk hC hw;have f:=deps hw rfl rfl;simp only [depF,vsP,pw,qS,qD,and_true,true_and] at f)
    case o0_8=>have CL:=Lib.hid (trade_any q.id W);clear hL hC hk hw;refine spD rfl ?_;go_simp;(with_reducible refine CL.out.mono ?_);rintro e w8 ⟨rfl,h2⟩;first | exact sq h2 rfl ⟨rfl,trivial⟩ | exact ⟨_,rfl,sq h2 rfl ⟨rfl,trivial⟩⟩
    case o0_9=>
      have CL:=Lib.hid (there_K SS.out (hC.pre hk) BEG.out (by have:=HI.out;omega) CE0.out 4 q.id 0);clear hL hC hk hw;refine spD rfl ?_;go_simp;(with_reducible refine CL.out.mono ?_);rintro e w8 (⟨h,rfl,h2⟩ | ⟨h,h3,rfl,h2⟩ | ⟨rfl,hf,H⟩)
      · exact ⟨_,rfl,Did.miss (by unfold oAgree;simp only [runOm_bind,run_there_no h]) h2⟩
      · exact ⟨_,rfl,Did.err (by unfold oAgree;simp only [runOm_bind,run_there_not h h3]) h2⟩
      · first | exact kv hf H rfl ⟨rfl,trivial⟩ | exact ⟨_,rfl,kv hf H rfl ⟨rfl,trivial⟩⟩
    case o0_10=>have ZZ:=hC.fr.size;clear hL hC hk hw;refine spD rfl ?_;go_simp;exact am ZZ
    case o0_11=>obtain ⟨gt,C,fa,hgt,bx0,hc⟩:=Fw.geta (hw ⟨10,.data⟩ (by simp) rfl) (by decide);obtain ⟨c0,c1,c2,c3,c4,c5,rfl⟩:=arr6 hc;have q:=six_cells bx0;have BXX:=Lib.hid bx0;have FA:=Lib.hid fa;clear bx0 hc;unfold thing at f;clear hL hC hk hw;refine spD rfl ?_;go_simp;exact sm SS.out BEG.out BXX.out hgt FA.out
    all_goals (have c:=kn7 hC;clear hL hC hk hw;refine spD rfl ?_;go_simp;first | exact sv rfl ⟨rfl,trivial⟩ | exact ⟨_,rfl,sv rfl ⟨rfl,trivial⟩⟩)
  have S0:=Lib.hid hB.1
  simp only [allF,vsP,pw,true_and,and_true,Nat.reduceAdd] at hall
  obtain ⟨gt0,fa,hgt,bx⟩:=hfin
  simp only [TL,Act.put,qA,qC,qZ,hall,fa]
  replace SS:=Lib.hid (SS.out.push BEG.out hB.st SS.out.lt hgt bx)
  clear hall vals hB fa hgt bx
  obtain ⟨⟨y0,y1,y2,y3,y4,y5⟩,-⟩:=six_cells SS.out.bx.1.out
  have CALL:=Lib.hid (side_second W1 g q v (i + 1:Nat) p SS.out.run.out.st.wb ce0.A ce0.B 4 q.id 0 true (A_ok HOK.out S0.out.1) ((HC.out ce0 S0.out.1).1) (HC.out ce0 S0.out.1).2)
  unfold thing at CALL
  go_wp2_with fail
  (with_reducible refine CALL.out.mono ?_)
  rintro e W2 ⟨rfl,hbl⟩
  clear CALL y0 y1 y2 y3 y4 y5
  replace SS:=Lib.hid (SS.out.later hbl)
  clear hbl
  have d1:(ce0.B == 1)=false:=by simpa using (HD.out ce0 S0.out.1).1
  have d2:(ce0.B == 3)=false:=by simpa using (HD.out ce0 S0.out.1).2
  have d3:(ce0.B != 1)=true:=by simpa using (HD.out ce0 S0.out.1).1
  have d4:(ce0.B != 3)=true:=by simpa using (HD.out ce0 S0.out.1).2
  obtain ⟨⟨y0,y1,y2,y3,y4,y5⟩,-⟩:=six_cells SS.out.bx.1.out
  obtain ⟨⟨y0,y1,y2,y3,y4,y5⟩,-⟩:=six_cells SS.out.bx.1.out
  have CALL:=Lib.hid (put_S SS.out BEG.out (by have:=HL.out;(try simp only [List.length_append,List.length_cons,List.length_nil]);omega) 4 q.id 0 ce0.A 2 (show _=l++[Pu.mk 4 q.id 0 ce0.A 2 false] by simp))
  go_wp2_with fail
  (with_reducible refine CALL.out.mono ?_)
  rintro e W3 ⟨rfl,hf,p3,hs⟩
  replace SS:=Lib.hid hs
  clear CALL hf hs y0 y1 y2 y3 y4 y5
  obtain ⟨⟨z0,z1,z2,z3⟩,x0,x1,x2,x3⟩:=four_cells SS.out.bx.2.1.out
  go_wp2
  generalize hW:(World.setCell _ (⟨w.heap.size,3,none⟩:Addr) _)=WZ
  have b9:Box WZ w.heap.size #[.int .u16 0,.int .u64 0,.int .u64 0,.int .u64 0] 35:=by
    rw [← hW]
    exact four_box SS.out.bx.2.1.out
  have F9:Hid (Fr (fun x=>x=w.heap.size) W3 WZ):=Lib.hid (by
    rw [← hW]
    exact four_fr)
  obtain ⟨⟨v0,v1,v2,v3⟩,-⟩:=four_cells b9
  clear hW b9 z0 z1 z2 z3 x0 x1 x2 x3
  refine bodyPost_ret (v:=.agg #[.int .u16 0,.int .u64 0,.int .u64 0,.int .u64 0]) (by simp [results,Tryz.results71,go_sem,v0,v1,v2,v3];try rfl) rfl ?_
  refine (SS.out.wr BEG.out 1 rfl F9.out).did (y:=(⟨0,0,0⟩,l++[Pu.mk 4 q.id 0 ce0.A 2 false])) ?_ rfl
  unfold oAgree
  simp only [runOm_bind,runOm_pure,run_there S0.out.1 S0.out.2,oSide,if_neg (HC.out ce0 S0.out.1).1,if_pos (HC.out ce0 S0.out.1).2,runOm_pure,if_pos (show ce0.B≠2 - 1∧ce0.B≠3 from ⟨by have:=(HD.out ce0 S0.out.1).1;omega,(HD.out ce0 S0.out.1).2⟩),run_put]
  try rfl
theorem agree_second_other (w:World) (g:Nat) (q:Ot) (v:Value) (base i:Nat) (p:Value) (l:List Pu) (seen:List Ce) (hst:St w g q v base i p l) (hs:SeenAt w g v seen) (hg:g < base) (hbase:base≤w.heap.size) (hl:l.length≤700) (hi:i≤700000) (hq:q.Ok) (hok:∀ c∈seen,c.Ok) (hc:∀ c,seen[i]?=some c→q.wh≠hi32 c.A∧q.wh=lo32 c.A) (hd:∀ c,seen[i]?=some c→c.B=1) :
    Calls Tryz.prog 71 #[.pointer (some ⟨g,0,none⟩)] w (Did w g q v base i p l seen (oAgree q) Rp.enc):=by
  have BEG:=Lib.hid (Begin.mk hs hg hbase hq hok (fun x hx=>hst.own.lt x hx))
  obtain ⟨W0,hW0⟩:∃ W0,w.alloc (.cells #[.int .u16 0,.int .u64 0,.int .u64 0,.int .u64 0] 35)=W0:=⟨_,rfl⟩
  have SS:Hid (ST w g q v base p i p l [.box w.heap.size #[.int .u16 0,.int .u64 0,.int .u64 0,.int .u64 0] 35] W0):=Lib.hid (by rw [← hW0];exact ST.start hst BEG.out _ _)
  have HI:=Lib.hid hi
  have HQ:=Lib.hid hq
  have HOK:=Lib.hid hok
  have HL:=Lib.hid hl
  have HC:=Lib.hid hc
  have HD:=Lib.hid hd
  obtain ⟨ce0,hce0⟩:=the_cell seen (i)
  have CE0:=Lib.hid hce0
  clear hst hs hg hbase hl hi hq hok hc hd hce0
  go_enter Tryz.func71,Tryz.ntmps71
  go_upto_region 1 with fail
  try rw [hW0]
  clear hW0
  refine wp_SK (D:=DP w g q v base i p l seen (oAgree q) Rp.enc) 9 10 11 (seen[i]?=some ce0∧ce0.is=true) (i + 1) #[.int .u64 ce0.A,.int .u64 ce0.B,.int .u8 4,.int .u32 q.id,.int .u32 0,.bool true] [pw g 0,pw g 0,pw g 7,pw g 0,pw g 0,pw g 0,pw g 4,some (.int .u32 q.id,True),some (.agg #[.int .u8 4,.int .u32 q.id,.int .u32 0],True),some (.agg (thing ce0.A ce0.B 4 q.id 0 true),True),none,none] SS.out (fun vals=>?_) (fun vals W1 hB hfin hall=>?_) (ea 10 rfl)
  · simp only [ObD,Act.put,qA,qC,qZ]
    refine ⟨?_,?_,?_,?_,?_,?_,?_,?_,?o0_8,?o0_9,?o0_10,?o0_11,trivial⟩
    all_goals (intro L W hL hk hC hw;have f:=deps hw rfl rfl;simp only [depF,vsP,pw,qS,qD,and_true,true_and] at f)
    case o0_8=>have CL:=Lib.hid (trade_any q.id W);clear hL hC hk hw;refine spD rfl ?_;go_simp;(with_reducible refine CL.out.mono ?_);rintro e w8 ⟨rfl,h2⟩;first | exact sq h2 rfl ⟨rfl,trivial⟩ | exact ⟨_,rfl,sq h2 rfl ⟨rfl,trivial⟩⟩
    case o0_9=>
      have CL:=Lib.hid (there_K SS.out (hC.pre hk) BEG.out (by have:=HI.out;omega) CE0.out 4 q.id 0);clear hL hC hk hw;refine spD rfl ?_;go_simp;(with_reducible refine CL.out.mono ?_);rintro e w8 (⟨h,rfl,h2⟩ | ⟨h,h3,rfl,h2⟩ | ⟨rfl,hf,H⟩)
      · exact ⟨_,rfl,Did.miss (by unfold oAgree;simp only [runOm_bind,run_there_no h]) h2⟩
      · exact ⟨_,rfl,Did.err (by unfold oAgree;simp only [runOm_bind,run_there_not h h3]) h2⟩
      · first | exact kv hf H rfl ⟨rfl,trivial⟩ | exact ⟨_,rfl,kv hf H rfl ⟨rfl,trivial⟩⟩
    case o0_10=>have ZZ:=hC.fr.size;clear hL hC hk hw;refine spD rfl ?_;go_simp;exact am ZZ
    case o0_11=>obtain ⟨gt,C,fa,hgt,bx0,hc⟩:=Fw.geta (hw ⟨10,.data⟩ (by simp) rfl) (by decide);obtain ⟨c0,c1,c2,c3,c4,c5,rfl⟩:=arr6 hc;have q:=six_cells bx0;have BXX:=Lib.hid bx0;have FA:=Lib.hid fa;clear bx0 hc;unfold thing at f;clear hL hC hk hw;refine spD rfl ?_;go_simp;exact sm SS.out BEG.out BXX.out hgt FA.out
    all_goals (have c:=kn7 hC;clear hL hC hk hw;refine spD rfl ?_;go_simp;first | exact sv rfl ⟨rfl,trivial⟩ | exact ⟨_,rfl,sv rfl ⟨rfl,trivial⟩⟩)
  have S0:=Lib.hid hB.1
  simp only [allF,vsP,pw,true_and,and_true,Nat.reduceAdd] at hall
  obtain ⟨gt0,fa,hgt,bx⟩:=hfin
  simp only [TL,Act.put,qA,qC,qZ,hall,fa]
  replace SS:=Lib.hid (SS.out.push BEG.out hB.st SS.out.lt hgt bx)
  clear hall vals hB fa hgt bx
  obtain ⟨⟨y0,y1,y2,y3,y4,y5⟩,-⟩:=six_cells SS.out.bx.1.out
  have CALL:=Lib.hid (side_second W1 g q v (i + 1:Nat) p SS.out.run.out.st.wb ce0.A ce0.B 4 q.id 0 true (A_ok HOK.out S0.out.1) ((HC.out ce0 S0.out.1).1) (HC.out ce0 S0.out.1).2)
  unfold thing at CALL
  go_wp2_with fail
  (with_reducible refine CALL.out.mono ?_)
  rintro e W2 ⟨rfl,hbl⟩
  clear CALL y0 y1 y2 y3 y4 y5
  replace SS:=Lib.hid (SS.out.later hbl)
  clear hbl
  have d1:(ce0.B == 1)=true:=by simpa using HD.out ce0 S0.out.1
  have d3:(ce0.B != 1)=false:=by simpa using HD.out ce0 S0.out.1
  have y0:W2.cell? ⟨gt0,1,none⟩=some (.int .u64 ce0.B):=SS.out.bx.1.out.cell 1
  have y0:W2.cell? ⟨gt0,0,none⟩=some (.int .u64 ce0.A):=SS.out.bx.1.out.cell 0
  go_wp2_with fail
  (with_reducible refine (unpair_any ce0.A (A_ok HOK.out S0.out.1) _).mono ?_)
  rintro e W3 ⟨rfl,hbl⟩
  clear y0
  replace SS:=Lib.hid (SS.out.later hbl)
  clear hbl
  have CALL:=Lib.hid (settle_run SS.out.run.out BEG.out (by have:=HI.out;omega) (by have:=HL.out;(try simp only [List.length_append,List.length_cons,List.length_nil]);omega) (lo32 ce0.A) (hi32 ce0.A))
  go_wp2_with fail
  (with_reducible refine CALL.out.mono ?_)
  rintro e WS (⟨k,a,b,h1,rfl,h2⟩ | ⟨m,h1,rfl,h2⟩ | ⟨y,j,pS,h1,rfl,hr,hf⟩)
  · exact ⟨rfl,Did.miss (by unfold oAgree;simp only [runOm_bind,run_there S0.out.1 S0.out.2,oSide,if_neg (HC.out ce0 S0.out.1).1,if_pos (HC.out ce0 S0.out.1).2,runOm_pure,if_neg (show ¬ (ce0.B≠2 - 1∧ce0.B≠3) by have:=HD.out ce0 S0.out.1;omega),h1]) h2⟩
  · exact ⟨rfl,Did.err (by unfold oAgree;simp only [runOm_bind,run_there S0.out.1 S0.out.2,oSide,if_neg (HC.out ce0 S0.out.1).1,if_pos (HC.out ce0 S0.out.1).2,runOm_pure,if_neg (show ¬ (ce0.B≠2 - 1∧ce0.B≠3) by have:=HD.out ce0 S0.out.1;omega),h1]) h2⟩
  have DOK:=Lib.hid (show runOm seen (oAgree q) i l=.ok y j by unfold oAgree;simp only [runOm_bind,run_there S0.out.1 S0.out.2,oSide,if_neg (HC.out ce0 S0.out.1).1,if_pos (HC.out ce0 S0.out.1).2,runOm_pure,if_neg (show ¬ (ce0.B≠2 - 1∧ce0.B≠3) by have:=HD.out ce0 S0.out.1;omega),h1])
  replace SS:=Lib.hid (SS.out.keep hr hf SS.out.put_far)
  clear hr hf h1 CALL
  obtain ⟨⟨z0,z1,z2,z3⟩,x0,x1,x2,x3⟩:=four_cells SS.out.bx.2.1.out
  go_wp2
  generalize hW:(World.setCell _ (⟨w.heap.size,3,none⟩:Addr) _)=WZ
  have b9:Box WZ w.heap.size #[.int .u16 0,.int .u64 y.1.A,.int .u64 y.1.B,.int .u64 y.1.C] 35:=by
    rw [← hW]
    exact four_box SS.out.bx.2.1.out
  have F9:Hid (Fr (fun x=>x=w.heap.size) WS WZ):=Lib.hid (by
    rw [← hW]
    exact four_fr)
  obtain ⟨⟨v0,v1,v2,v3⟩,-⟩:=four_cells b9
  clear hW b9 z0 z1 z2 z3 x0 x1 x2 x3
  refine bodyPost_ret (v:=.agg #[.int .u16 0,.int .u64 y.1.A,.int .u64 y.1.B,.int .u64 y.1.C]) (by simp [results,Tryz.results71,go_sem,v0,v1,v2,v3];try rfl) rfl ?_
  exact (SS.out.wr BEG.out 1 rfl F9.out).did (y:=y) DOK.out rfl
theorem agree_second_both (w:World) (g:Nat) (q:Ot) (v:Value) (base i:Nat) (p:Value) (l:List Pu) (seen:List Ce) (hst:St w g q v base i p l) (hs:SeenAt w g v seen) (hg:g < base) (hbase:base≤w.heap.size) (hl:l.length≤700) (hi:i≤700000) (hq:q.Ok) (hok:∀ c∈seen,c.Ok) (hc:∀ c,seen[i]?=some c→q.wh≠hi32 c.A∧q.wh=lo32 c.A) (hd:∀ c,seen[i]?=some c→c.B≠1∧c.B=3) :
    Calls Tryz.prog 71 #[.pointer (some ⟨g,0,none⟩)] w (Did w g q v base i p l seen (oAgree q) Rp.enc):=by
  have BEG:=Lib.hid (Begin.mk hs hg hbase hq hok (fun x hx=>hst.own.lt x hx))
  obtain ⟨W0,hW0⟩:∃ W0,w.alloc (.cells #[.int .u16 0,.int .u64 0,.int .u64 0,.int .u64 0] 35)=W0:=⟨_,rfl⟩
  have SS:Hid (ST w g q v base p i p l [.box w.heap.size #[.int .u16 0,.int .u64 0,.int .u64 0,.int .u64 0] 35] W0):=Lib.hid (by rw [← hW0];exact ST.start hst BEG.out _ _)
  have HI:=Lib.hid hi
  have HQ:=Lib.hid hq
  have HOK:=Lib.hid hok
  have HL:=Lib.hid hl
  have HC:=Lib.hid hc
  have HD:=Lib.hid hd
  obtain ⟨ce0,hce0⟩:=the_cell seen (i)
  have CE0:=Lib.hid hce0
  clear hst hs hg hbase hl hi hq hok hc hd hce0
  go_enter Tryz.func71,Tryz.ntmps71
  go_upto_region 1 with fail
  try rw [hW0]
  clear hW0
  refine wp_SK (D:=DP w g q v base i p l seen (oAgree q) Rp.enc) 9 10 11 (seen[i]?=some ce0∧ce0.is=true) (i + 1) #[.int .u64 ce0.A,.int .u64 ce0.B,.int .u8 4,.int .u32 q.id,.int .u32 0,.bool true] [pw g 0,pw g 0,pw g 7,pw g 0,pw g 0,pw g 0,pw g 4,some (.int .u32 q.id,True),some (.agg #[.int .u8 4,.int .u32 q.id,.int .u32 0],True),some (.agg (thing ce0.A ce0.B 4 q.id 0 true),True),none,none] SS.out (fun vals=>?_) (fun vals W1 hB hfin hall=>?_) (ea 10 rfl)
  · simp only [ObD,Act.put,qA,qC,qZ]
    refine ⟨?_,?_,?_,?_,?_,?_,?_,?_,?o0_8,?o0_9,?o0_10,?o0_11,trivial⟩
    all_goals (intro L W hL hk hC hw;have f:=deps hw rfl rfl;simp only [depF,vsP,pw,qS,qD,and_true,true_and] at f)
    case o0_8=>have CL:=Lib.hid (trade_any q.id W);clear hL hC hk hw;refine spD rfl ?_;go_simp;(with_reducible refine CL.out.mono ?_);rintro e w8 ⟨rfl,h2⟩;first | exact sq h2 rfl ⟨rfl,trivial⟩ | exact ⟨_,rfl,sq h2 rfl ⟨rfl,trivial⟩⟩
    case o0_9=>
      have CL:=Lib.hid (there_K SS.out (hC.pre hk) BEG.out (by have:=HI.out;omega) CE0.out 4 q.id 0);clear hL hC hk hw;refine spD rfl ?_;go_simp;(with_reducible refine CL.out.mono ?_);rintro e w8 (⟨h,rfl,h2⟩ | ⟨h,h3,rfl,h2⟩ | ⟨rfl,hf,H⟩)
      · exact ⟨_,rfl,Did.miss (by unfold oAgree;simp only [runOm_bind,run_there_no h]) h2⟩
      · exact ⟨_,rfl,Did.err (by unfold oAgree;simp only [runOm_bind,run_there_not h h3]) h2⟩
      · first | exact kv hf H rfl ⟨rfl,trivial⟩ | exact ⟨_,rfl,kv hf H rfl ⟨rfl,trivial⟩⟩
    case o0_10=>have ZZ:=hC.fr.size;clear hL hC hk hw;refine spD rfl ?_;go_simp;exact am ZZ
    case o0_11=>obtain ⟨gt,C,fa,hgt,bx0,hc⟩:=Fw.geta (hw ⟨10,.data⟩ (by simp) rfl) (by decide);obtain ⟨c0,c1,c2,c3,c4,c5,rfl⟩:=arr6 hc;have q:=six_cells bx0;have BXX:=Lib.hid bx0;have FA:=Lib.hid fa;clear bx0 hc;unfold thing at f;clear hL hC hk hw;refine spD rfl ?_;go_simp;exact sm SS.out BEG.out BXX.out hgt FA.out
    all_goals (have c:=kn7 hC;clear hL hC hk hw;refine spD rfl ?_;go_simp;first | exact sv rfl ⟨rfl,trivial⟩ | exact ⟨_,rfl,sv rfl ⟨rfl,trivial⟩⟩)
  have S0:=Lib.hid hB.1
  simp only [allF,vsP,pw,true_and,and_true,Nat.reduceAdd] at hall
  obtain ⟨gt0,fa,hgt,bx⟩:=hfin
  simp only [TL,Act.put,qA,qC,qZ,hall,fa]
  replace SS:=Lib.hid (SS.out.push BEG.out hB.st SS.out.lt hgt bx)
  clear hall vals hB fa hgt bx
  obtain ⟨⟨y0,y1,y2,y3,y4,y5⟩,-⟩:=six_cells SS.out.bx.1.out
  have CALL:=Lib.hid (side_second W1 g q v (i + 1:Nat) p SS.out.run.out.st.wb ce0.A ce0.B 4 q.id 0 true (A_ok HOK.out S0.out.1) ((HC.out ce0 S0.out.1).1) (HC.out ce0 S0.out.1).2)
  unfold thing at CALL
  go_wp2_with fail
  (with_reducible refine CALL.out.mono ?_)
  rintro e W2 ⟨rfl,hbl⟩
  clear CALL y0 y1 y2 y3 y4 y5
  replace SS:=Lib.hid (SS.out.later hbl)
  clear hbl
  have d1:(ce0.B == 1)=false:=by simpa using (HD.out ce0 S0.out.1).1
  have d2:(ce0.B == 3)=true:=by simpa using (HD.out ce0 S0.out.1).2
  have d3:(ce0.B != 1)=true:=by simpa using (HD.out ce0 S0.out.1).1
  have d4:(ce0.B != 3)=false:=by simpa using (HD.out ce0 S0.out.1).2
  have y0:W2.cell? ⟨gt0,1,none⟩=some (.int .u64 ce0.B):=SS.out.bx.1.out.cell 1
  have y0:W2.cell? ⟨gt0,0,none⟩=some (.int .u64 ce0.A):=SS.out.bx.1.out.cell 0
  go_wp2_with fail
  (with_reducible refine (unpair_any ce0.A (A_ok HOK.out S0.out.1) _).mono ?_)
  rintro e W3 ⟨rfl,hbl⟩
  clear y0
  replace SS:=Lib.hid (SS.out.later hbl)
  clear hbl
  have CALL:=Lib.hid (settle_run SS.out.run.out BEG.out (by have:=HI.out;omega) (by have:=HL.out;(try simp only [List.length_append,List.length_cons,List.length_nil]);omega) (lo32 ce0.A) (hi32 ce0.A))
  go_wp2_with fail
  (with_reducible refine CALL.out.mono ?_)
  rintro e WS (⟨k,a,b,h1,rfl,h2⟩ | ⟨m,h1,rfl,h2⟩ | ⟨y,j,pS,h1,rfl,hr,hf⟩)
  · exact ⟨rfl,Did.miss (by unfold oAgree;simp only [runOm_bind,run_there S0.out.1 S0.out.2,oSide,if_neg (HC.out ce0 S0.out.1).1,if_pos (HC.out ce0 S0.out.1).2,runOm_pure,if_neg (show ¬ (ce0.B≠2 - 1∧ce0.B≠3) by have:=HD.out ce0 S0.out.1;omega),h1]) h2⟩
  · exact ⟨rfl,Did.err (by unfold oAgree;simp only [runOm_bind,run_there S0.out.1 S0.out.2,oSide,if_neg (HC.out ce0 S0.out.1).1,if_pos (HC.out ce0 S0.out.1).2,runOm_pure,if_neg (show ¬ (ce0.B≠2 - 1∧ce0.B≠3) by have:=HD.out ce0 S0.out.1;omega),h1]) h2⟩
  have DOK:=Lib.hid (show runOm seen (oAgree q) i l=.ok y j by unfold oAgree;simp only [runOm_bind,run_there S0.out.1 S0.out.2,oSide,if_neg (HC.out ce0 S0.out.1).1,if_pos (HC.out ce0 S0.out.1).2,runOm_pure,if_neg (show ¬ (ce0.B≠2 - 1∧ce0.B≠3) by have:=HD.out ce0 S0.out.1;omega),h1])
  replace SS:=Lib.hid (SS.out.keep hr hf SS.out.put_far)
  clear hr hf h1 CALL
  obtain ⟨⟨z0,z1,z2,z3⟩,x0,x1,x2,x3⟩:=four_cells SS.out.bx.2.1.out
  go_wp2
  generalize hW:(World.setCell _ (⟨w.heap.size,3,none⟩:Addr) _)=WZ
  have b9:Box WZ w.heap.size #[.int .u16 0,.int .u64 y.1.A,.int .u64 y.1.B,.int .u64 y.1.C] 35:=by
    rw [← hW]
    exact four_box SS.out.bx.2.1.out
  have F9:Hid (Fr (fun x=>x=w.heap.size) WS WZ):=Lib.hid (by
    rw [← hW]
    exact four_fr)
  obtain ⟨⟨v0,v1,v2,v3⟩,-⟩:=four_cells b9
  clear hW b9 z0 z1 z2 z3 x0 x1 x2 x3
  refine bodyPost_ret (v:=.agg #[.int .u16 0,.int .u64 y.1.A,.int .u64 y.1.B,.int .u64 y.1.C]) (by simp [results,Tryz.results71,go_sem,v0,v1,v2,v3];try rfl) rfl ?_
  exact (SS.out.wr BEG.out 1 rfl F9.out).did (y:=y) DOK.out rfl
end Go.Proofs.YtabckmadpdchnaaGreat.Rule
namespace Go.Proofs.YtabckmadpdchnaaGreat.Rule
open Go.ChangeShapes Go.WideShapes Go.ChangeAt Go.RowKit Go.IntWalk Go.Proofs.Mem Go.Proofs.Each
theorem agree_none (w:World) (g:Nat) (q:Ot) (v:Value) (base i:Nat) (p:Value) (l:List Pu) (seen:List Ce) (hst:St w g q v base i p l) (hs:SeenAt w g v seen) (hg:g < base) (hbase:base≤w.heap.size) (hl:l.length≤700) (hi:i≤700000) (hq:q.Ok) (hok:∀ c∈seen,c.Ok) (hc:∀ c,seen[i]?=some c→q.wh≠hi32 c.A∧q.wh≠lo32 c.A) :
    Calls Tryz.prog 71 #[.pointer (some ⟨g,0,none⟩)] w (Did w g q v base i p l seen (oAgree q) Rp.enc):=by
  have BEG:=Lib.hid (Begin.mk hs hg hbase hq hok (fun x hx=>hst.own.lt x hx))
  obtain ⟨W0,hW0⟩:∃ W0,w.alloc (.cells #[.int .u16 0,.int .u64 0,.int .u64 0,.int .u64 0] 35)=W0:=⟨_,rfl⟩
  have SS:Hid (ST w g q v base p i p l [.box w.heap.size #[.int .u16 0,.int .u64 0,.int .u64 0,.int .u64 0] 35] W0):=Lib.hid (by rw [← hW0];exact ST.start hst BEG.out _ _)
  have HI:=Lib.hid hi
  have HQ:=Lib.hid hq
  have HOK:=Lib.hid hok
  have HL:=Lib.hid hl
  have HC:=Lib.hid hc
  obtain ⟨ce0,hce0⟩:=the_cell seen (i)
  have CE0:=Lib.hid hce0
  clear hst hs hg hbase hl hi hq hok hc hce0
  go_enter Tryz.func71,Tryz.ntmps71
  go_upto_region 1 with fail
  try rw [hW0]
  clear hW0
  refine wp_SK (D:=DP w g q v base i p l seen (oAgree q) Rp.enc) 9 10 11 (seen[i]?=some ce0∧ce0.is=true) (i + 1) #[.int .u64 ce0.A,.int .u64 ce0.B,.int .u8 4,.int .u32 q.id,.int .u32 0,.bool true] [pw g 0,pw g 0,pw g 7,pw g 0,pw g 0,pw g 0,pw g 4,some (.int .u32 q.id,True),some (.agg #[.int .u8 4,.int .u32 q.id,.int .u32 0],True),some (.agg (thing ce0.A ce0.B 4 q.id 0 true),True),none,none] SS.out (fun vals=>?_) (fun vals W1 hB hfin hall=>?_) (ea 10 rfl)
  · simp only [ObD,Act.put,qA,qC,qZ]
    refine ⟨?_,?_,?_,?_,?_,?_,?_,?_,?o0_8,?o0_9,?o0_10,?o0_11,trivial⟩
    all_goals (intro L W hL hk hC hw;have f:=deps hw rfl rfl;simp only [depF,vsP,pw,qS,qD,and_true,true_and] at f)
    case o0_8=>have CL:=Lib.hid (trade_any q.id W);clear hL hC hk hw;refine spD rfl ?_;go_simp;(with_reducible refine CL.out.mono ?_);rintro e w8 ⟨rfl,h2⟩;first | exact sq h2 rfl ⟨rfl,trivial⟩ | exact ⟨_,rfl,sq h2 rfl ⟨rfl,trivial⟩⟩
    case o0_9=>
      have CL:=Lib.hid (there_K SS.out (hC.pre hk) BEG.out (by have:=HI.out;omega) CE0.out 4 q.id 0);clear hL hC hk hw;refine spD rfl ?_;go_simp;(with_reducible refine CL.out.mono ?_);rintro e w8 (⟨h,rfl,h2⟩ | ⟨h,h3,rfl,h2⟩ | ⟨rfl,hf,H⟩)
      · exact ⟨_,rfl,Did.miss (by unfold oAgree;simp only [runOm_bind,run_there_no h]) h2⟩
      · exact ⟨_,rfl,Did.err (by unfold oAgree;simp only [runOm_bind,run_there_not h h3]) h2⟩
      · first | exact kv hf H rfl ⟨rfl,trivial⟩ | exact ⟨_,rfl,kv hf H rfl ⟨rfl,trivial⟩⟩
    case o0_10=>have ZZ:=hC.fr.size;clear hL hC hk hw;refine spD rfl ?_;go_simp;exact am ZZ
    case o0_11=>obtain ⟨gt,C,fa,hgt,bx0,hc⟩:=Fw.geta (hw ⟨10,.data⟩ (by simp) rfl) (by decide);obtain ⟨c0,c1,c2,c3,c4,c5,rfl⟩:=arr6 hc;have q:=six_cells bx0;have BXX:=Lib.hid bx0;have FA:=Lib.hid fa;clear bx0 hc;unfold thing at f;clear hL hC hk hw;refine spD rfl ?_;go_simp;exact sm SS.out BEG.out BXX.out hgt FA.out
    all_goals (have c:=kn7 hC;clear hL hC hk hw;refine spD rfl ?_;go_simp;first | exact sv rfl ⟨rfl,trivial⟩ | exact ⟨_,rfl,sv rfl ⟨rfl,trivial⟩⟩)
  have S0:=Lib.hid hB.1
  simp only [allF,vsP,pw,true_and,and_true,Nat.reduceAdd] at hall
  obtain ⟨gt0,fa,hgt,bx⟩:=hfin
  simp only [TL,Act.put,qA,qC,qZ,hall,fa]
  replace SS:=Lib.hid (SS.out.push BEG.out hB.st SS.out.lt hgt bx)
  clear hall vals hB fa hgt bx
  obtain ⟨⟨y0,y1,y2,y3,y4,y5⟩,-⟩:=six_cells SS.out.bx.1.out
  have CALL:=Lib.hid (side_none W1 g q v (i + 1:Nat) p SS.out.run.out.st.wb ce0.A ce0.B 4 q.id 0 true (A_ok HOK.out S0.out.1) ((HC.out ce0 S0.out.1).1) (HC.out ce0 S0.out.1).2)
  unfold thing at CALL
  go_wp2_with fail
  (with_reducible refine CALL.out.mono ?_)
  rintro e W2 ⟨rfl,hbl⟩
  exact ⟨rfl,Did.err (by unfold oAgree;simp only [runOm_bind,run_there S0.out.1 S0.out.2,oSide,if_neg (HC.out ce0 S0.out.1).1,if_neg (HC.out ce0 S0.out.1).2,run_err_]) (SS.out.run.out.lowB BEG.out hbl)⟩
theorem the_state (seen:List Ce) (i:Nat) (n:Int):(∀ c,seen[i]?=some c→c.B≠n∧c.B≠3)∨(∀ c,seen[i]?=some c→c.B=n)∨(∀ c,seen[i]?=some c→c.B≠n∧c.B=3):=by
  obtain ⟨ce,h⟩:=the_cell seen i
  by_cases h1:ce.B=n
  · exact .inr (.inl fun c hc=>by rw [h c hc];exact h1)
  · by_cases h2:ce.B=3
    · exact .inr (.inr fun c hc=>by rw [h c hc];exact ⟨h1,h2⟩)
    · exact .inl fun c hc=>by rw [h c hc];exact ⟨h1,h2⟩
theorem agree_all (w:World) (g:Nat) (q:Ot) (v:Value) (base i:Nat) (p:Value) (l:List Pu) (seen:List Ce) (hst:St w g q v base i p l) (hs:SeenAt w g v seen) (hg:g < base) (hbase:base≤w.heap.size) (hl:l.length≤700) (hi:i≤700000) (hq:q.Ok) (hok:∀ c∈seen,c.Ok) :
    Calls Tryz.prog 71 #[.pointer (some ⟨g,0,none⟩)] w (Did w g q v base i p l seen (oAgree q) Rp.enc):=by
  rcases the_side seen i q with h | h | h
  · rcases the_state seen i 2 with k | k | k
    · exact agree_first_put w g q v base i p l seen hst hs hg hbase hl hi hq hok h k
    · exact agree_first_other w g q v base i p l seen hst hs hg hbase hl hi hq hok h k
    · exact agree_first_both w g q v base i p l seen hst hs hg hbase hl hi hq hok h k
  · rcases the_state seen i 1 with k | k | k
    · exact agree_second_put w g q v base i p l seen hst hs hg hbase hl hi hq hok h k
    · exact agree_second_other w g q v base i p l seen hst hs hg hbase hl hi hq hok h k
    · exact agree_second_both w g q v base i p l seen hst hs hg hbase hl hi hq hok h k
  · exact agree_none w g q v base i p l seen hst hs hg hbase hl hi hq hok h
end Go.Proofs.YtabckmadpdchnaaGreat.Rule
namespace Go.Proofs.YtabckmadpdchnaaGreat.Rule
open Go.ChangeShapes Go.WideShapes Go.ChangeAt Go.RowKit Go.IntWalk Go.Proofs.Mem Go.Proofs.Each
theorem B_ok {seen:List Ce} {i:Nat} {c:Ce} (h:∀ c∈seen,c.Ok) (he:seen[i]?=some c):0≤c.B∧c.B≤18446744073709551615:=(h c (List.mem_of_getElem? he)).B
theorem close_no (w:World) (g:Nat) (q:Ot) (v:Value) (base i:Nat) (p:Value) (l:List Pu) (seen:List Ce) (hst:St w g q v base i p l) (hs:SeenAt w g v seen) (hg:g < base) (hbase:base≤w.heap.size) (hl:l.length≤700) (hi:i≤700000) (hq:q.Ok) (hok:∀ c∈seen,c.Ok) (hc:∀ c,seen[i]?=some c→hi32 c.A≠q.wh) :
    Calls Tryz.prog 75 #[.pointer (some ⟨g,0,none⟩)] w (Did w g q v base i p l seen (oClose q) Rp.enc):=by
  have BEG:=Lib.hid (Begin.mk hs hg hbase hq hok (fun x hx=>hst.own.lt x hx))
  obtain ⟨W0,hW0⟩:∃ W0,w.alloc (.cells #[.int .u16 0,.int .u64 0,.int .u64 0,.int .u64 0] 35)=W0:=⟨_,rfl⟩
  have SS:Hid (ST w g q v base p i p l [.box w.heap.size #[.int .u16 0,.int .u64 0,.int .u64 0,.int .u64 0] 35] W0):=Lib.hid (by rw [← hW0];exact ST.start hst BEG.out _ _)
  have HI:=Lib.hid hi
  have HQ:=Lib.hid hq
  have HOK:=Lib.hid hok
  have HL:=Lib.hid hl
  have HC:=Lib.hid hc
  obtain ⟨ce0,hce0⟩:=the_cell seen (i)
  have CE0:=Lib.hid hce0
  clear hst hs hg hbase hl hi hq hok hc hce0
  go_enter Tryz.func75,Tryz.ntmps75
  go_upto_region 1 with fail
  try rw [hW0]
  clear hW0
  refine wp_SK (D:=DP w g q v base i p l seen (oClose q) Rp.enc) 9 10 11 (seen[i]?=some ce0∧ce0.is=true) (i + 1) #[.int .u64 ce0.A,.int .u64 ce0.B,.int .u8 6,.int .u32 q.id,.int .u32 0,.bool true] [pw g 0,pw g 0,pw g 7,pw g 0,pw g 0,pw g 0,pw g 4,some (.int .u32 q.id,True),some (.agg #[.int .u8 6,.int .u32 q.id,.int .u32 0],True),some (.agg (thing ce0.A ce0.B 6 q.id 0 true),True),none,none] SS.out (fun vals=>?_) (fun vals W1 hB hfin hall=>?_) (ea 10 rfl)
  · simp only [ObD,Act.put,qA,qC,qZ]
    refine ⟨?_,?_,?_,?_,?_,?_,?_,?_,?o0_8,?o0_9,?o0_10,?o0_11,trivial⟩
    all_goals (intro L W hL hk hC hw;have f:=deps hw rfl rfl;simp only [depF,vsP,pw,qS,qD,and_true,true_and] at f)
    case o0_8=>have CL:=Lib.hid (auction_any q.id W);clear hL hC hk hw;refine spD rfl ?_;go_simp;(with_reducible refine CL.out.mono ?_);rintro e w8 ⟨rfl,h2⟩;first | exact sq h2 rfl ⟨rfl,trivial⟩ | exact ⟨_,rfl,sq h2 rfl ⟨rfl,trivial⟩⟩
    case o0_9=>
      have CL:=Lib.hid (there_K SS.out (hC.pre hk) BEG.out (by have:=HI.out;omega) CE0.out 6 q.id 0);clear hL hC hk hw;refine spD rfl ?_;go_simp;(with_reducible refine CL.out.mono ?_);rintro e w8 (⟨h,rfl,h2⟩ | ⟨h,h3,rfl,h2⟩ | ⟨rfl,hf,H⟩)
      · exact ⟨_,rfl,Did.miss (by unfold oClose;simp only [runOm_bind,run_there_no h]) h2⟩
      · exact ⟨_,rfl,Did.err (by unfold oClose;simp only [runOm_bind,run_there_not h h3]) h2⟩
      · first | exact kv hf H rfl ⟨rfl,trivial⟩ | exact ⟨_,rfl,kv hf H rfl ⟨rfl,trivial⟩⟩
    case o0_10=>have ZZ:=hC.fr.size;clear hL hC hk hw;refine spD rfl ?_;go_simp;exact am ZZ
    case o0_11=>obtain ⟨gt,C,fa,hgt,bx0,hc⟩:=Fw.geta (hw ⟨10,.data⟩ (by simp) rfl) (by decide);obtain ⟨c0,c1,c2,c3,c4,c5,rfl⟩:=arr6 hc;have q:=six_cells bx0;have BXX:=Lib.hid bx0;have FA:=Lib.hid fa;clear bx0 hc;unfold thing at f;clear hL hC hk hw;refine spD rfl ?_;go_simp;exact sm SS.out BEG.out BXX.out hgt FA.out
    all_goals (have c:=kn7 hC;clear hL hC hk hw;refine spD rfl ?_;go_simp;first | exact sv rfl ⟨rfl,trivial⟩ | exact ⟨_,rfl,sv rfl ⟨rfl,trivial⟩⟩)
  have S0:=Lib.hid hB.1
  simp only [allF,vsP,pw,true_and,and_true,Nat.reduceAdd] at hall
  obtain ⟨gt0,fa,hgt,bx⟩:=hfin
  simp only [TL,Act.put,qA,qC,qZ,hall,fa]
  replace SS:=Lib.hid (SS.out.push BEG.out hB.st SS.out.lt hgt bx)
  clear hall vals hB fa hgt bx
  have y0:W1.cell? ⟨gt0,0,none⟩=some (.int .u64 ce0.A):=SS.out.bx.1.out.cell 0
  go_wp2_with fail
  (with_reducible refine (unpair_any ce0.A (A_ok HOK.out S0.out.1) _).mono ?_)
  rintro e W2 ⟨rfl,hbl⟩
  clear y0
  replace SS:=Lib.hid (SS.out.later hbl)
  clear hbl
  have d1:(hi32 ce0.A == q.wh)=false:=by have:=HC.out ce0 S0.out.1;simpa using this
  have d2:(hi32 ce0.A != q.wh)=true:=by have:=HC.out ce0 S0.out.1;simpa using this
  have y0:W2.cell? ⟨g,1,none⟩=some (.int .u32 q.wh):=SS.out.kn.c1
  go_wp2_with fail
  (with_reducible refine (deny_yes 213 _).mono ?_)
  rintro e W3 ⟨rfl,rfl⟩
  exact ⟨rfl,Did.err (by unfold oClose;simp only [runOm_bind,run_there S0.out.1 S0.out.2,decide_eq_true (HC.out ce0 S0.out.1),run_deny_yes]) (SS.out.low BEG.out)⟩
theorem close_none (w:World) (g:Nat) (q:Ot) (v:Value) (base i:Nat) (p:Value) (l:List Pu) (seen:List Ce) (hst:St w g q v base i p l) (hs:SeenAt w g v seen) (hg:g < base) (hbase:base≤w.heap.size) (hl:l.length≤700) (hi:i≤700000) (hq:q.Ok) (hok:∀ c∈seen,c.Ok) (hc:∀ c,seen[i]?=some c→hi32 c.A=q.wh) (h1:∀ c,seen[i + 1]?=some c→c.is=false) :
    Calls Tryz.prog 75 #[.pointer (some ⟨g,0,none⟩)] w (Did w g q v base i p l seen (oClose q) Rp.enc):=by
  have BEG:=Lib.hid (Begin.mk hs hg hbase hq hok (fun x hx=>hst.own.lt x hx))
  obtain ⟨W0,hW0⟩:∃ W0,w.alloc (.cells #[.int .u16 0,.int .u64 0,.int .u64 0,.int .u64 0] 35)=W0:=⟨_,rfl⟩
  have SS:Hid (ST w g q v base p i p l [.box w.heap.size #[.int .u16 0,.int .u64 0,.int .u64 0,.int .u64 0] 35] W0):=Lib.hid (by rw [← hW0];exact ST.start hst BEG.out _ _)
  have HI:=Lib.hid hi
  have HQ:=Lib.hid hq
  have HOK:=Lib.hid hok
  have HL:=Lib.hid hl
  have HC:=Lib.hid hc
  have H1:=Lib.hid h1
  obtain ⟨ce0,hce0⟩:=the_cell seen (i)
  have CE0:=Lib.hid hce0
  obtain ⟨ce1,hce1⟩:=the_cell seen (i + 1)
  have CE1:=Lib.hid hce1
  obtain ⟨ce2,hce2⟩:=the_cell seen (i + 1 + 1)
  have CE2:=Lib.hid hce2
  clear hst hs hg hbase hl hi hq hok hc h1 hce0 hce1 hce2
  go_enter Tryz.func75,Tryz.ntmps75
  go_upto_region 1 with fail
  try rw [hW0]
  clear hW0
  refine wp_SK (D:=DP w g q v base i p l seen (oClose q) Rp.enc) 9 10 11 (seen[i]?=some ce0∧ce0.is=true) (i + 1) #[.int .u64 ce0.A,.int .u64 ce0.B,.int .u8 6,.int .u32 q.id,.int .u32 0,.bool true] [pw g 0,pw g 0,pw g 7,pw g 0,pw g 0,pw g 0,pw g 4,some (.int .u32 q.id,True),some (.agg #[.int .u8 6,.int .u32 q.id,.int .u32 0],True),some (.agg (thing ce0.A ce0.B 6 q.id 0 true),True),none,none] SS.out (fun vals=>?_) (fun vals W1 hB hfin hall=>?_) (ea 10 rfl)
  · simp only [ObD,Act.put,qA,qC,qZ]
    refine ⟨?_,?_,?_,?_,?_,?_,?_,?_,?o0_8,?o0_9,?o0_10,?o0_11,trivial⟩
    all_goals (intro L W hL hk hC hw;have f:=deps hw rfl rfl;simp only [depF,vsP,pw,qS,qD,and_true,true_and] at f)
    case o0_8=>have CL:=Lib.hid (auction_any q.id W);clear hL hC hk hw;refine spD rfl ?_;go_simp;(with_reducible refine CL.out.mono ?_);rintro e w8 ⟨rfl,h2⟩;first | exact sq h2 rfl ⟨rfl,trivial⟩ | exact ⟨_,rfl,sq h2 rfl ⟨rfl,trivial⟩⟩
    case o0_9=>
      have CL:=Lib.hid (there_K SS.out (hC.pre hk) BEG.out (by have:=HI.out;omega) CE0.out 6 q.id 0);clear hL hC hk hw;refine spD rfl ?_;go_simp;(with_reducible refine CL.out.mono ?_);rintro e w8 (⟨h,rfl,h2⟩ | ⟨h,h3,rfl,h2⟩ | ⟨rfl,hf,H⟩)
      · exact ⟨_,rfl,Did.miss (by unfold oClose;simp only [runOm_bind,run_there_no h]) h2⟩
      · exact ⟨_,rfl,Did.err (by unfold oClose;simp only [runOm_bind,run_there_not h h3]) h2⟩
      · first | exact kv hf H rfl ⟨rfl,trivial⟩ | exact ⟨_,rfl,kv hf H rfl ⟨rfl,trivial⟩⟩
    case o0_10=>have ZZ:=hC.fr.size;clear hL hC hk hw;refine spD rfl ?_;go_simp;exact am ZZ
    case o0_11=>obtain ⟨gt,C,fa,hgt,bx0,hc⟩:=Fw.geta (hw ⟨10,.data⟩ (by simp) rfl) (by decide);obtain ⟨c0,c1,c2,c3,c4,c5,rfl⟩:=arr6 hc;have q:=six_cells bx0;have BXX:=Lib.hid bx0;have FA:=Lib.hid fa;clear bx0 hc;unfold thing at f;clear hL hC hk hw;refine spD rfl ?_;go_simp;exact sm SS.out BEG.out BXX.out hgt FA.out
    all_goals (have c:=kn7 hC;clear hL hC hk hw;refine spD rfl ?_;go_simp;first | exact sv rfl ⟨rfl,trivial⟩ | exact ⟨_,rfl,sv rfl ⟨rfl,trivial⟩⟩)
  have S0:=Lib.hid hB.1
  simp only [allF,vsP,pw,true_and,and_true,Nat.reduceAdd] at hall
  obtain ⟨gt0,fa,hgt,bx⟩:=hfin
  simp only [TL,Act.put,qA,qC,qZ,hall,fa]
  replace SS:=Lib.hid (SS.out.push BEG.out hB.st SS.out.lt hgt bx)
  clear hall vals hB fa hgt bx
  have y0:W1.cell? ⟨gt0,0,none⟩=some (.int .u64 ce0.A):=SS.out.bx.1.out.cell 0
  go_wp2_with fail
  (with_reducible refine (unpair_any ce0.A (A_ok HOK.out S0.out.1) _).mono ?_)
  rintro e W2 ⟨rfl,hbl⟩
  clear y0
  replace SS:=Lib.hid (SS.out.later hbl)
  clear hbl
  have d1:(hi32 ce0.A == q.wh)=true:=by have:=HC.out ce0 S0.out.1;simpa using this
  have d2:(hi32 ce0.A != q.wh)=false:=by have:=HC.out ce0 S0.out.1;simpa using this
  have y0:W2.cell? ⟨g,1,none⟩=some (.int .u32 q.wh):=SS.out.kn.c1
  go_wp2_with fail
  (with_reducible refine (deny_no 213 _).mono ?_)
  rintro e W3 ⟨rfl,rfl⟩
  clear d1 d2 y0
  go_upto_region 4 with fail
  refine wp_SK (D:=DP w g q v base i p l seen (oClose q) Rp.enc) 9 10 11 (seen[i + 1]?=some ce1) (i + 1 + 1) #[.int .u64 ce1.vA,.int .u64 ce1.vB,.int .u8 7,.int .u32 q.id,.int .u32 0,.bool ce1.is] [pw g 0,pw g 0,pw g 7,pw g 0,pw g 0,pw g 0,pw g 4,some (.int .u32 q.id,True),some (.agg #[.int .u8 7,.int .u32 q.id,.int .u32 0],True),some (.agg (thing ce1.vA ce1.vB 7 q.id 0 ce1.is),True),none,none] SS.out (fun vals=>?_) (fun vals W4 hB hfin hall=>?_) (ea 10 rfl)
  · simp only [ObD,Act.put,qA,qC,qZ]
    refine ⟨?_,?_,?_,?_,?_,?_,?_,?_,?o3_8,?o3_9,?o3_10,?o3_11,trivial⟩
    all_goals (intro L W hL hk hC hw;have f:=deps hw rfl rfl;simp only [depF,vsP,pw,qS,qD,and_true,true_and] at f)
    case o3_8=>have CL:=Lib.hid (bid_any q.id W);clear hL hC hk hw;refine spD rfl ?_;go_simp;(with_reducible refine CL.out.mono ?_);rintro e w8 ⟨rfl,h2⟩;first | exact sq h2 rfl ⟨rfl,trivial⟩ | exact ⟨_,rfl,sq h2 rfl ⟨rfl,trivial⟩⟩
    case o3_9=>
      have CL:=Lib.hid (look_K SS.out (hC.pre hk) BEG.out (by have:=HI.out;omega) CE1.out 7 q.id 0);clear hL hC hk hw;refine spD rfl ?_;go_simp;(with_reducible refine CL.out.mono ?_);rintro e w8 (⟨h,rfl,h2⟩ | ⟨h1,rfl,hf,H⟩)
      · exact ⟨_,rfl,Did.miss (by unfold oClose;simp only [runOm_bind,run_there S0.out.1 S0.out.2,decide_eq_false (show ¬ hi32 ce0.A≠q.wh from fun h=>h (HC.out ce0 S0.out.1)),run_deny_no,run_look_no h]) h2⟩
      · first | exact kv hf H rfl ⟨rfl,trivial⟩ | exact ⟨_,rfl,kv hf H rfl ⟨rfl,trivial⟩⟩
    case o3_10=>have ZZ:=hC.fr.size;clear hL hC hk hw;refine spD rfl ?_;go_simp;exact am ZZ
    case o3_11=>obtain ⟨gt,C,fa,hgt,bx0,hc⟩:=Fw.geta (hw ⟨10,.data⟩ (by simp) rfl) (by decide);obtain ⟨c0,c1,c2,c3,c4,c5,rfl⟩:=arr6 hc;have q:=six_cells bx0;have BXX:=Lib.hid bx0;have FA:=Lib.hid fa;clear bx0 hc;unfold thing at f;clear hL hC hk hw;refine spD rfl ?_;go_simp;exact sm SS.out BEG.out BXX.out hgt FA.out
    all_goals (have c:=kn7 hC;clear hL hC hk hw;refine spD rfl ?_;go_simp;first | exact sv rfl ⟨rfl,trivial⟩ | exact ⟨_,rfl,sv rfl ⟨rfl,trivial⟩⟩)
  have S1:=Lib.hid hB.1
  simp only [allF,vsP,pw,true_and,and_true,Nat.reduceAdd] at hall
  obtain ⟨gt1,fa,hgt,bx⟩:=hfin
  simp only [TL,Act.put,qA,qC,qZ,hall,fa]
  replace SS:=Lib.hid (SS.out.push BEG.out hB.st SS.out.lt hgt bx)
  clear hall vals hB fa hgt bx
  have I1:=Lib.hid (H1.out ce1 S1.out)
  have SX:=SS.out
  rw [I1.out] at SX
  replace SS:=Lib.hid SX
  clear SX
  have y0:W4.cell? ⟨g,1,none⟩=some (.int .u32 q.wh):=SS.out.kn.c1
  have y1:W4.cell? ⟨gt1,5,none⟩=some (.bool false):=SS.out.bx.1.out.cell 5
  go_upto_region 10 with fail
  clear y0 y1
  refine wp_SK (D:=DP w g q v base i p l seen (oClose q) Rp.enc) 6 7 8 (seen[i + 1 + 1]?=some ce2) (i + 1 + 1 + 1) #[.int .u64 ce2.vA,.int .u64 ce2.vB,.int .u8 3,.int .u32 q.wh,.int .u32 (lo32 ce0.A),.bool ce2.is] [pw g 0,pw g 0,pw g 7,some (.int .u32 q.wh,True),some (.int .u32 (lo32 ce0.A),True),some (.agg #[.int .u8 3,.int .u32 q.wh,.int .u32 (lo32 ce0.A)],True),some (.agg (thing ce2.vA ce2.vB 3 q.wh (lo32 ce0.A) ce2.is),True),none,none] SS.out (fun vals=>?_) (fun vals W5 hB hfin hall=>?_) (ea 7 rfl)
  · simp only [ObD,Act.put,qA,qC,qZ]
    refine ⟨?_,?_,?_,?_,?_,?o4_5,?o4_6,?o4_7,?o4_8,trivial⟩
    all_goals (intro L W hL hk hC hw;have f:=deps hw rfl rfl;simp only [depF,vsP,pw,qS,qD,and_true,true_and] at f)
    case o4_5=>have CL:=Lib.hid (stack_any q.wh (lo32 ce0.A) W);clear hL hC hk hw;refine spD rfl ?_;go_simp;(with_reducible refine CL.out.mono ?_);rintro e w8 ⟨rfl,h2⟩;first | exact sq h2 rfl ⟨rfl,trivial⟩ | exact ⟨_,rfl,sq h2 rfl ⟨rfl,trivial⟩⟩
    case o4_6=>
      have CL:=Lib.hid (look_K SS.out (hC.pre hk) BEG.out (by have:=HI.out;omega) CE2.out 3 q.wh (lo32 ce0.A));clear hL hC hk hw;refine spD rfl ?_;go_simp;(with_reducible refine CL.out.mono ?_);rintro e w8 (⟨h,rfl,h2⟩ | ⟨h1,rfl,hf,H⟩)
      · exact ⟨_,rfl,Did.miss (by unfold oClose;simp only [runOm_bind,run_there S0.out.1 S0.out.2,decide_eq_false (show ¬ hi32 ce0.A≠q.wh from fun h=>h (HC.out ce0 S0.out.1)),run_deny_no,run_look S1.out,I1.out,Bool.false_eq_true,if_false,run_look_no h]) h2⟩
      · first | exact kv hf H rfl ⟨rfl,trivial⟩ | exact ⟨_,rfl,kv hf H rfl ⟨rfl,trivial⟩⟩
    case o4_7=>have ZZ:=hC.fr.size;clear hL hC hk hw;refine spD rfl ?_;go_simp;exact am ZZ
    case o4_8=>obtain ⟨gt,C,fa,hgt,bx0,hc⟩:=Fw.geta (hw ⟨7,.data⟩ (by simp) rfl) (by decide);obtain ⟨c0,c1,c2,c3,c4,c5,rfl⟩:=arr6 hc;have q:=six_cells bx0;have BXX:=Lib.hid bx0;have FA:=Lib.hid fa;clear bx0 hc;unfold thing at f;clear hL hC hk hw;refine spD rfl ?_;go_simp;exact sm SS.out BEG.out BXX.out hgt FA.out
    all_goals (have c:=kn7 hC;clear hL hC hk hw;refine spD rfl ?_;go_simp;first | exact sv rfl ⟨rfl,trivial⟩ | exact ⟨_,rfl,sv rfl ⟨rfl,trivial⟩⟩)
  have S2:=Lib.hid hB.1
  simp only [allF,vsP,pw,true_and,and_true,Nat.reduceAdd] at hall
  obtain ⟨gt3,fa,hgt,bx⟩:=hfin
  simp only [TL,Act.put,qA,qC,qZ,hall,fa]
  replace SS:=Lib.hid (SS.out.push BEG.out hB.st SS.out.lt hgt bx)
  clear hall vals hB fa hgt bx
  go_upto_region 11 with fail
  refine wp_SA (D:=DP w g q v base i p l seen (oClose q) Rp.enc) 10 11 12 True True (i + 1 + 1 + 1) (l++[amt 3 q.wh (lo32 ce0.A) (ce2.vA + ce0.B)]) [pw g 0,some (.pointer (some ⟨gt3,2,none⟩),True),some (.agg #[.int .u8 3,.int .u32 q.wh,.int .u32 (lo32 ce0.A)],True),some (.pointer (some ⟨gt3,0,none⟩),True),some (.pointer (some ⟨gt3,0,none⟩),True),some (.int .u64 ce2.vA,True),some (.pointer (some ⟨gt0,0,none⟩),True),some (.pointer (some ⟨gt0,1,none⟩),True),some (.int .u64 ce0.B,True),some (.int .u64 (ce2.vA + ce0.B),Mr ce2.vA ce0.B),some (.tuple #[],True)] SS.out (fun vals=>?_) (fun vals W6 hB hall=>?_)
  · simp only [ObD,Act.put,qA,qC,qZ]
    refine ⟨?_,?_,?o5_2,?_,?_,?o5_5,?_,?_,?o5_8,?o5_9,?o5_10,trivial⟩
    all_goals (intro L W hL hk hC hw;have f:=deps hw rfl rfl;simp only [depF,vsP,pw,qS,qD,and_true,true_and] at f)
    case' o5_2=>have k2:W.cell? ⟨gt3,2,none⟩=some (.int .u8 3):=(cw_bx hC).1.out.cell 2;have k3:W.cell? ⟨gt3,3,none⟩=some (.int .u32 q.wh):=(cw_bx hC).1.out.cell 3;have k4:W.cell? ⟨gt3,4,none⟩=some (.int .u32 (lo32 ce0.A)):=(cw_bx hC).1.out.cell 4
    case' o5_5=>have k0:W.cell? ⟨gt3,0,none⟩=some (.int .u64 ce2.vA):=(cw_bx hC).1.out.cell 0
    case' o5_8=>have k1:W.cell? ⟨gt0,1,none⟩=some (.int .u64 ce0.B):=(cw_bx hC).2.2.1.out.cell 1
    case o5_9=>
      have CL:=Lib.hid (more_C (vA_ok HOK.out S2.out) (B_ok HOK.out S0.out.1) hC SS.out BEG.out);clear hL hC hk hw;refine spD rfl ?_;go_simp;(with_reducible refine CL.out.mono ?_)
      rintro e w8 (⟨h,rfl,h2⟩ | ⟨h1,rfl,h2⟩)
      · exact ⟨_,rfl,Did.err (by unfold oClose;simp only [runOm_bind,run_there S0.out.1 S0.out.2,decide_eq_false (show ¬ hi32 ce0.A≠q.wh from fun h=>h (HC.out ce0 S0.out.1)),run_deny_no,run_look S1.out,I1.out,Bool.false_eq_true,if_false,run_look S2.out,run_more_no h]) h2⟩
      · first | exact sq h2 rfl ⟨rfl,h1⟩ | exact ⟨_,rfl,sq h2 rfl ⟨rfl,h1⟩⟩
    case o5_10=>have CL:=Lib.hid (pk SS.out BEG.out (amount_S (hC.pre hk) BEG.out (by have:=HL.out;(try simp only [List.length_append,List.length_cons,List.length_nil]);omega) 3 q.wh (lo32 ce0.A) (ce2.vA + ce0.B) (show _=l++[amt 3 q.wh (lo32 ce0.A) (ce2.vA + ce0.B)] by simp)));clear hL hC hk hw;refine spD rfl ?_;go_simp;(with_reducible refine CL.out.mono ?_);rintro e w8 ⟨rfl,hf,H⟩;first | exact kv hf H rfl ⟨rfl,trivial⟩ | exact ⟨_,rfl,kv hf H rfl ⟨rfl,trivial⟩⟩
    all_goals (have c:=kn7 hC;clear hL hC hk hw;refine spD rfl ?_;go_simp;first | exact sv rfl ⟨rfl,trivial⟩ | exact ⟨_,rfl,sv rfl ⟨rfl,trivial⟩⟩)
  have C6:Hid (Mr ce2.vA ce0.B):=Lib.hid (vsP_c (hall.get 9))
  simp only [allF,vsP,pw,true_and,and_true,Nat.reduceAdd] at hall
  simp only [TL,Act.put,qA,qC,qZ,hall]
  obtain ⟨p6,hB⟩:=hB.put
  replace SS:=Lib.hid hB
  clear hall vals hB
  replace SS:=Lib.hid SS.out.drop
  obtain ⟨⟨y0,y1,y2,y3,y4,y5⟩,-⟩:=six_cells SS.out.bx.2.1.out
  have CALL:=Lib.hid (gone_S SS.out BEG.out (by have:=HL.out;(try simp only [List.length_append,List.length_cons,List.length_nil]);omega) 6 q.id 0 (show _=l++[amt 3 q.wh (lo32 ce0.A) (ce2.vA + ce0.B),Pu.mk 6 q.id 0 0 0 true] by simp))
  go_wp2_with fail
  (with_reducible refine CALL.out.mono ?_)
  rintro e W7 ⟨rfl,hf,p7,hs⟩
  replace SS:=Lib.hid hs
  clear CALL hf hs y0 y1 y2 y3 y4 y5
  have y0:W7.cell? ⟨g,4,none⟩=some (.int .u32 q.id):=SS.out.kn.c4
  go_wp2_with fail
  (with_reducible refine (price_any q.id _).mono ?_)
  rintro e W8 ⟨rfl,hbl⟩
  clear y0
  replace SS:=Lib.hid (SS.out.later hbl)
  clear hbl
  have y0:W8.cell? ⟨g,4,none⟩=some (.int .u32 q.id):=SS.out.kn.c4
  have CALL:=Lib.hid (gone_S SS.out BEG.out (by have:=HL.out;(try simp only [List.length_append,List.length_cons,List.length_nil]);omega) 7 q.id 1 (show _=l++[amt 3 q.wh (lo32 ce0.A) (ce2.vA + ce0.B),Pu.mk 6 q.id 0 0 0 true,Pu.mk 7 q.id 1 0 0 true] by simp))
  go_wp2_with fail
  (with_reducible refine CALL.out.mono ?_)
  rintro e W9 ⟨rfl,hf,p9,hs⟩
  replace SS:=Lib.hid hs
  clear CALL hf hs y0
  have y0:W9.cell? ⟨gt1,5,none⟩=some (.bool false):=SS.out.bx.1.out.cell 5
  have y0:W9.cell? ⟨gt1,0,none⟩=some (.int .u64 ce1.vA):=SS.out.bx.1.out.cell 0
  have y1:W9.cell? ⟨gt1,5,none⟩=some (.bool false):=SS.out.bx.1.out.cell 5
  obtain ⟨⟨z0,z1,z2,z3⟩,x0,x1,x2,x3⟩:=four_cells SS.out.bx.2.2.1.out
  go_wp2
  generalize hW:(World.setCell _ (⟨w.heap.size,3,none⟩:Addr) _)=WZ
  have b9:Box WZ w.heap.size #[.int .u16 0,.int .u64 ce1.vA,.int .u64 0,.int .u64 0] 35:=by
    rw [← hW]
    exact four_box SS.out.bx.2.2.1.out
  have F9:Hid (Fr (fun x=>x=w.heap.size) W9 WZ):=Lib.hid (by
    rw [← hW]
    exact four_fr)
  obtain ⟨⟨v0,v1,v2,v3⟩,-⟩:=four_cells b9
  clear hW b9 z0 z1 z2 z3 x0 x1 x2 x3 y0 y1
  refine bodyPost_ret (v:=.agg #[.int .u16 0,.int .u64 ce1.vA,.int .u64 0,.int .u64 0]) (by simp [results,Tryz.results75,go_sem,v0,v1,v2,v3];try rfl) rfl ?_
  refine (SS.out.wr BEG.out 2 rfl F9.out).did (y:=(⟨ce1.vA,0,0⟩,l++[amt 3 q.wh (lo32 ce0.A) (ce2.vA + ce0.B),Pu.mk 6 q.id 0 0 0 true,Pu.mk 7 q.id 1 0 0 true])) ?_ rfl
  unfold oClose
  simp only [runOm_bind,runOm_pure,run_there S0.out.1 S0.out.2,decide_eq_false (show ¬ hi32 ce0.A≠q.wh from fun h=>h (HC.out ce0 S0.out.1)),run_deny_no,run_look S1.out,I1.out,Bool.false_eq_true,if_false,run_look S2.out,run_more C6.out,oAmount,run_put,oGone,run_put,oGone,run_put,oGone,List.append_assoc,List.cons_append,List.nil_append]
  try rfl
end Go.Proofs.YtabckmadpdchnaaGreat.Rule
namespace Go.Proofs.YtabckmadpdchnaaGreat.Rule
open Go.ChangeShapes Go.WideShapes Go.ChangeAt Go.RowKit Go.IntWalk Go.Proofs.Mem Go.Proofs.Each
theorem close_bid (w:World) (g:Nat) (q:Ot) (v:Value) (base i:Nat) (p:Value) (l:List Pu) (seen:List Ce) (hst:St w g q v base i p l) (hs:SeenAt w g v seen) (hg:g < base) (hbase:base≤w.heap.size) (hl:l.length≤700) (hi:i≤700000) (hq:q.Ok) (hok:∀ c∈seen,c.Ok) (hc:∀ c,seen[i]?=some c→hi32 c.A=q.wh) (h1:∀ c,seen[i + 1]?=some c→c.is=true) :
    Calls Tryz.prog 75 #[.pointer (some ⟨g,0,none⟩)] w (Did w g q v base i p l seen (oClose q) Rp.enc):=by
  have BEG:=Lib.hid (Begin.mk hs hg hbase hq hok (fun x hx=>hst.own.lt x hx))
  obtain ⟨W0,hW0⟩:∃ W0,w.alloc (.cells #[.int .u16 0,.int .u64 0,.int .u64 0,.int .u64 0] 35)=W0:=⟨_,rfl⟩
  have SS:Hid (ST w g q v base p i p l [.box w.heap.size #[.int .u16 0,.int .u64 0,.int .u64 0,.int .u64 0] 35] W0):=Lib.hid (by rw [← hW0];exact ST.start hst BEG.out _ _)
  have HI:=Lib.hid hi
  have HQ:=Lib.hid hq
  have HOK:=Lib.hid hok
  have HL:=Lib.hid hl
  have HC:=Lib.hid hc
  have H1:=Lib.hid h1
  obtain ⟨ce0,hce0⟩:=the_cell seen (i)
  have CE0:=Lib.hid hce0
  obtain ⟨ce1,hce1⟩:=the_cell seen (i + 1)
  have CE1:=Lib.hid hce1
  obtain ⟨ce2,hce2⟩:=the_cell seen (i + 1 + 1)
  have CE2:=Lib.hid hce2
  obtain ⟨ce3,hce3⟩:=the_cell seen (i + 1 + 1 + 1)
  have CE3:=Lib.hid hce3
  clear hst hs hg hbase hl hi hq hok hc h1 hce0 hce1 hce2 hce3
  go_enter Tryz.func75,Tryz.ntmps75
  go_upto_region 1 with fail
  try rw [hW0]
  clear hW0
  refine wp_SK (D:=DP w g q v base i p l seen (oClose q) Rp.enc) 9 10 11 (seen[i]?=some ce0∧ce0.is=true) (i + 1) #[.int .u64 ce0.A,.int .u64 ce0.B,.int .u8 6,.int .u32 q.id,.int .u32 0,.bool true] [pw g 0,pw g 0,pw g 7,pw g 0,pw g 0,pw g 0,pw g 4,some (.int .u32 q.id,True),some (.agg #[.int .u8 6,.int .u32 q.id,.int .u32 0],True),some (.agg (thing ce0.A ce0.B 6 q.id 0 true),True),none,none] SS.out (fun vals=>?_) (fun vals W1 hB hfin hall=>?_) (ea 10 rfl)
  · simp only [ObD,Act.put,qA,qC,qZ]
    refine ⟨?_,?_,?_,?_,?_,?_,?_,?_,?o0_8,?o0_9,?o0_10,?o0_11,trivial⟩
    all_goals (intro L W hL hk hC hw;have f:=deps hw rfl rfl;simp only [depF,vsP,pw,qS,qD,and_true,true_and] at f)
    case o0_8=>have CL:=Lib.hid (auction_any q.id W);clear hL hC hk hw;refine spD rfl ?_;go_simp;(with_reducible refine CL.out.mono ?_);rintro e w8 ⟨rfl,h2⟩;first | exact sq h2 rfl ⟨rfl,trivial⟩ | exact ⟨_,rfl,sq h2 rfl ⟨rfl,trivial⟩⟩
    case o0_9=>
      have CL:=Lib.hid (there_K SS.out (hC.pre hk) BEG.out (by have:=HI.out;omega) CE0.out 6 q.id 0);clear hL hC hk hw;refine spD rfl ?_;go_simp;(with_reducible refine CL.out.mono ?_);rintro e w8 (⟨h,rfl,h2⟩ | ⟨h,h3,rfl,h2⟩ | ⟨rfl,hf,H⟩)
      · exact ⟨_,rfl,Did.miss (by unfold oClose;simp only [runOm_bind,run_there_no h]) h2⟩
      · exact ⟨_,rfl,Did.err (by unfold oClose;simp only [runOm_bind,run_there_not h h3]) h2⟩
      · first | exact kv hf H rfl ⟨rfl,trivial⟩ | exact ⟨_,rfl,kv hf H rfl ⟨rfl,trivial⟩⟩
    case o0_10=>have ZZ:=hC.fr.size;clear hL hC hk hw;refine spD rfl ?_;go_simp;exact am ZZ
    case o0_11=>obtain ⟨gt,C,fa,hgt,bx0,hc⟩:=Fw.geta (hw ⟨10,.data⟩ (by simp) rfl) (by decide);obtain ⟨c0,c1,c2,c3,c4,c5,rfl⟩:=arr6 hc;have q:=six_cells bx0;have BXX:=Lib.hid bx0;have FA:=Lib.hid fa;clear bx0 hc;unfold thing at f;clear hL hC hk hw;refine spD rfl ?_;go_simp;exact sm SS.out BEG.out BXX.out hgt FA.out
    all_goals (have c:=kn7 hC;clear hL hC hk hw;refine spD rfl ?_;go_simp;first | exact sv rfl ⟨rfl,trivial⟩ | exact ⟨_,rfl,sv rfl ⟨rfl,trivial⟩⟩)
  have S0:=Lib.hid hB.1
  simp only [allF,vsP,pw,true_and,and_true,Nat.reduceAdd] at hall
  obtain ⟨gt0,fa,hgt,bx⟩:=hfin
  simp only [TL,Act.put,qA,qC,qZ,hall,fa]
  replace SS:=Lib.hid (SS.out.push BEG.out hB.st SS.out.lt hgt bx)
  clear hall vals hB fa hgt bx
  have y0:W1.cell? ⟨gt0,0,none⟩=some (.int .u64 ce0.A):=SS.out.bx.1.out.cell 0
  go_wp2_with fail
  (with_reducible refine (unpair_any ce0.A (A_ok HOK.out S0.out.1) _).mono ?_)
  rintro e W2 ⟨rfl,hbl⟩
  clear y0
  replace SS:=Lib.hid (SS.out.later hbl)
  clear hbl
  have d1:(hi32 ce0.A == q.wh)=true:=by have:=HC.out ce0 S0.out.1;simpa using this
  have d2:(hi32 ce0.A != q.wh)=false:=by have:=HC.out ce0 S0.out.1;simpa using this
  have y0:W2.cell? ⟨g,1,none⟩=some (.int .u32 q.wh):=SS.out.kn.c1
  go_wp2_with fail
  (with_reducible refine (deny_no 213 _).mono ?_)
  rintro e W3 ⟨rfl,rfl⟩
  clear d1 d2 y0
  go_upto_region 4 with fail
  refine wp_SK (D:=DP w g q v base i p l seen (oClose q) Rp.enc) 9 10 11 (seen[i + 1]?=some ce1) (i + 1 + 1) #[.int .u64 ce1.vA,.int .u64 ce1.vB,.int .u8 7,.int .u32 q.id,.int .u32 0,.bool ce1.is] [pw g 0,pw g 0,pw g 7,pw g 0,pw g 0,pw g 0,pw g 4,some (.int .u32 q.id,True),some (.agg #[.int .u8 7,.int .u32 q.id,.int .u32 0],True),some (.agg (thing ce1.vA ce1.vB 7 q.id 0 ce1.is),True),none,none] SS.out (fun vals=>?_) (fun vals W4 hB hfin hall=>?_) (ea 10 rfl)
  · simp only [ObD,Act.put,qA,qC,qZ]
    refine ⟨?_,?_,?_,?_,?_,?_,?_,?_,?o3_8,?o3_9,?o3_10,?o3_11,trivial⟩
    all_goals (intro L W hL hk hC hw;have f:=deps hw rfl rfl;simp only [depF,vsP,pw,qS,qD,and_true,true_and] at f)
    case o3_8=>have CL:=Lib.hid (bid_any q.id W);clear hL hC hk hw;refine spD rfl ?_;go_simp;(with_reducible refine CL.out.mono ?_);rintro e w8 ⟨rfl,h2⟩;first | exact sq h2 rfl ⟨rfl,trivial⟩ | exact ⟨_,rfl,sq h2 rfl ⟨rfl,trivial⟩⟩
    case o3_9=>
      have CL:=Lib.hid (look_K SS.out (hC.pre hk) BEG.out (by have:=HI.out;omega) CE1.out 7 q.id 0);clear hL hC hk hw;refine spD rfl ?_;go_simp;(with_reducible refine CL.out.mono ?_);rintro e w8 (⟨h,rfl,h2⟩ | ⟨h1,rfl,hf,H⟩)
      · exact ⟨_,rfl,Did.miss (by unfold oClose;simp only [runOm_bind,run_there S0.out.1 S0.out.2,decide_eq_false (show ¬ hi32 ce0.A≠q.wh from fun h=>h (HC.out ce0 S0.out.1)),run_deny_no,run_look_no h]) h2⟩
      · first | exact kv hf H rfl ⟨rfl,trivial⟩ | exact ⟨_,rfl,kv hf H rfl ⟨rfl,trivial⟩⟩
    case o3_10=>have ZZ:=hC.fr.size;clear hL hC hk hw;refine spD rfl ?_;go_simp;exact am ZZ
    case o3_11=>obtain ⟨gt,C,fa,hgt,bx0,hc⟩:=Fw.geta (hw ⟨10,.data⟩ (by simp) rfl) (by decide);obtain ⟨c0,c1,c2,c3,c4,c5,rfl⟩:=arr6 hc;have q:=six_cells bx0;have BXX:=Lib.hid bx0;have FA:=Lib.hid fa;clear bx0 hc;unfold thing at f;clear hL hC hk hw;refine spD rfl ?_;go_simp;exact sm SS.out BEG.out BXX.out hgt FA.out
    all_goals (have c:=kn7 hC;clear hL hC hk hw;refine spD rfl ?_;go_simp;first | exact sv rfl ⟨rfl,trivial⟩ | exact ⟨_,rfl,sv rfl ⟨rfl,trivial⟩⟩)
  have S1:=Lib.hid hB.1
  simp only [allF,vsP,pw,true_and,and_true,Nat.reduceAdd] at hall
  obtain ⟨gt1,fa,hgt,bx⟩:=hfin
  simp only [TL,Act.put,qA,qC,qZ,hall,fa]
  replace SS:=Lib.hid (SS.out.push BEG.out hB.st SS.out.lt hgt bx)
  clear hall vals hB fa hgt bx
  have I1:=Lib.hid (H1.out ce1 S1.out)
  have SX:=SS.out
  rw [I1.out] at SX
  replace SS:=Lib.hid SX
  clear SX
  have y0:W4.cell? ⟨g,1,none⟩=some (.int .u32 q.wh):=SS.out.kn.c1
  have y1:W4.cell? ⟨gt1,5,none⟩=some (.bool true):=SS.out.bx.1.out.cell 5
  go_upto_region 7 with fail
  clear y0 y1
  refine wp_SK (D:=DP w g q v base i p l seen (oClose q) Rp.enc) 9 10 11 (seen[i + 1 + 1]?=some ce2) (i + 1 + 1 + 1) #[.int .u64 ce2.vA,.int .u64 ce2.vB,.int .u8 1,.int .u32 q.wh,.int .u32 0,.bool ce2.is] [pw g 0,pw g 0,pw g 7,pw g 0,pw g 0,pw g 0,pw g 1,some (.int .u32 q.wh,True),some (.agg #[.int .u8 1,.int .u32 q.wh,.int .u32 0],True),some (.agg (thing ce2.vA ce2.vB 1 q.wh 0 ce2.is),True),none,none] SS.out (fun vals=>?_) (fun vals W5 hB hfin hall=>?_) (ea 10 rfl)
  · simp only [ObD,Act.put,qA,qC,qZ]
    refine ⟨?_,?_,?_,?_,?_,?_,?_,?_,?o4_8,?o4_9,?o4_10,?o4_11,trivial⟩
    all_goals (intro L W hL hk hC hw;have f:=deps hw rfl rfl;simp only [depF,vsP,pw,qS,qD,and_true,true_and] at f)
    case o4_8=>have CL:=Lib.hid (purse_any q.wh W);clear hL hC hk hw;refine spD rfl ?_;go_simp;(with_reducible refine CL.out.mono ?_);rintro e w8 ⟨rfl,h2⟩;first | exact sq h2 rfl ⟨rfl,trivial⟩ | exact ⟨_,rfl,sq h2 rfl ⟨rfl,trivial⟩⟩
    case o4_9=>
      have CL:=Lib.hid (look_K SS.out (hC.pre hk) BEG.out (by have:=HI.out;omega) CE2.out 1 q.wh 0);clear hL hC hk hw;refine spD rfl ?_;go_simp;(with_reducible refine CL.out.mono ?_);rintro e w8 (⟨h,rfl,h2⟩ | ⟨h1,rfl,hf,H⟩)
      · exact ⟨_,rfl,Did.miss (by unfold oClose;simp only [runOm_bind,run_there S0.out.1 S0.out.2,decide_eq_false (show ¬ hi32 ce0.A≠q.wh from fun h=>h (HC.out ce0 S0.out.1)),run_deny_no,run_look S1.out,I1.out,if_true,run_look_no h]) h2⟩
      · first | exact kv hf H rfl ⟨rfl,trivial⟩ | exact ⟨_,rfl,kv hf H rfl ⟨rfl,trivial⟩⟩
    case o4_10=>have ZZ:=hC.fr.size;clear hL hC hk hw;refine spD rfl ?_;go_simp;exact am ZZ
    case o4_11=>obtain ⟨gt,C,fa,hgt,bx0,hc⟩:=Fw.geta (hw ⟨10,.data⟩ (by simp) rfl) (by decide);obtain ⟨c0,c1,c2,c3,c4,c5,rfl⟩:=arr6 hc;have q:=six_cells bx0;have BXX:=Lib.hid bx0;have FA:=Lib.hid fa;clear bx0 hc;unfold thing at f;clear hL hC hk hw;refine spD rfl ?_;go_simp;exact sm SS.out BEG.out BXX.out hgt FA.out
    all_goals (have c:=kn7 hC;clear hL hC hk hw;refine spD rfl ?_;go_simp;first | exact sv rfl ⟨rfl,trivial⟩ | exact ⟨_,rfl,sv rfl ⟨rfl,trivial⟩⟩)
  have S2:=Lib.hid hB.1
  simp only [allF,vsP,pw,true_and,and_true,Nat.reduceAdd] at hall
  obtain ⟨gt2,fa,hgt,bx⟩:=hfin
  simp only [TL,Act.put,qA,qC,qZ,hall,fa]
  replace SS:=Lib.hid (SS.out.push BEG.out hB.st SS.out.lt hgt bx)
  clear hall vals hB fa hgt bx
  go_upto_region 8 with fail
  refine wp_SA (D:=DP w g q v base i p l seen (oClose q) Rp.enc) 10 11 12 True True (i + 1 + 1 + 1) (l++[amt 1 q.wh 0 (ce2.vA + ce1.vA)]) [pw g 0,some (.pointer (some ⟨gt2,2,none⟩),True),some (.agg #[.int .u8 1,.int .u32 q.wh,.int .u32 0],True),some (.pointer (some ⟨gt2,0,none⟩),True),some (.pointer (some ⟨gt2,0,none⟩),True),some (.int .u64 ce2.vA,True),some (.pointer (some ⟨gt1,0,none⟩),True),some (.pointer (some ⟨gt1,0,none⟩),True),some (.int .u64 ce1.vA,True),some (.int .u64 (ce2.vA + ce1.vA),Mr ce2.vA ce1.vA),some (.tuple #[],True)] SS.out (fun vals=>?_) (fun vals W6 hB hall=>?_)
  · simp only [ObD,Act.put,qA,qC,qZ]
    refine ⟨?_,?_,?o5_2,?_,?_,?o5_5,?_,?_,?o5_8,?o5_9,?o5_10,trivial⟩
    all_goals (intro L W hL hk hC hw;have f:=deps hw rfl rfl;simp only [depF,vsP,pw,qS,qD,and_true,true_and] at f)
    case' o5_2=>have k2:W.cell? ⟨gt2,2,none⟩=some (.int .u8 1):=(cw_bx hC).1.out.cell 2;have k3:W.cell? ⟨gt2,3,none⟩=some (.int .u32 q.wh):=(cw_bx hC).1.out.cell 3;have k4:W.cell? ⟨gt2,4,none⟩=some (.int .u32 0):=(cw_bx hC).1.out.cell 4
    case' o5_5=>have k0:W.cell? ⟨gt2,0,none⟩=some (.int .u64 ce2.vA):=(cw_bx hC).1.out.cell 0
    case' o5_8=>have k0:W.cell? ⟨gt1,0,none⟩=some (.int .u64 ce1.vA):=(cw_bx hC).2.1.out.cell 0
    case o5_9=>
      have CL:=Lib.hid (more_C (vA_ok HOK.out S2.out) (vA_ok HOK.out S1.out) hC SS.out BEG.out);clear hL hC hk hw;refine spD rfl ?_;go_simp;(with_reducible refine CL.out.mono ?_)
      rintro e w8 (⟨h,rfl,h2⟩ | ⟨h1,rfl,h2⟩)
      · exact ⟨_,rfl,Did.err (by unfold oClose;simp only [runOm_bind,run_there S0.out.1 S0.out.2,decide_eq_false (show ¬ hi32 ce0.A≠q.wh from fun h=>h (HC.out ce0 S0.out.1)),run_deny_no,run_look S1.out,I1.out,if_true,run_look S2.out,run_more_no h]) h2⟩
      · first | exact sq h2 rfl ⟨rfl,h1⟩ | exact ⟨_,rfl,sq h2 rfl ⟨rfl,h1⟩⟩
    case o5_10=>have CL:=Lib.hid (pk SS.out BEG.out (amount_S (hC.pre hk) BEG.out (by have:=HL.out;(try simp only [List.length_append,List.length_cons,List.length_nil]);omega) 1 q.wh 0 (ce2.vA + ce1.vA) (show _=l++[amt 1 q.wh 0 (ce2.vA + ce1.vA)] by simp)));clear hL hC hk hw;refine spD rfl ?_;go_simp;(with_reducible refine CL.out.mono ?_);rintro e w8 ⟨rfl,hf,H⟩;first | exact kv hf H rfl ⟨rfl,trivial⟩ | exact ⟨_,rfl,kv hf H rfl ⟨rfl,trivial⟩⟩
    all_goals (have c:=kn7 hC;clear hL hC hk hw;refine spD rfl ?_;go_simp;first | exact sv rfl ⟨rfl,trivial⟩ | exact ⟨_,rfl,sv rfl ⟨rfl,trivial⟩⟩)
  have C6:Hid (Mr ce2.vA ce1.vA):=Lib.hid (vsP_c (hall.get 9))
  simp only [allF,vsP,pw,true_and,and_true,Nat.reduceAdd] at hall
  simp only [TL,Act.put,qA,qC,qZ,hall]
  obtain ⟨p6,hB⟩:=hB.put
  replace SS:=Lib.hid hB
  clear hall vals hB
  replace SS:=Lib.hid SS.out.drop
  have y0:W6.cell? ⟨gt1,1,none⟩=some (.int .u64 ce1.vB):=SS.out.bx.1.out.cell 1
  have cw:IntKind.u32.wrap ce1.vB=lo32 ce1.vB:=wrap_u32 _
  go_upto_region 10 with fail
  clear cw y0
  refine wp_SK (D:=DP w g q v base i p l seen (oClose q) Rp.enc) 6 7 8 (seen[i + 1 + 1 + 1]?=some ce3) (i + 1 + 1 + 1 + 1) #[.int .u64 ce3.vA,.int .u64 ce3.vB,.int .u8 3,.int .u32 (lo32 ce1.vB),.int .u32 (lo32 ce0.A),.bool ce3.is] [pw g 0,pw g 0,pw g 7,some (.int .u32 (lo32 ce1.vB),True),some (.int .u32 (lo32 ce0.A),True),some (.agg #[.int .u8 3,.int .u32 (lo32 ce1.vB),.int .u32 (lo32 ce0.A)],True),some (.agg (thing ce3.vA ce3.vB 3 (lo32 ce1.vB) (lo32 ce0.A) ce3.is),True),none,none] SS.out (fun vals=>?_) (fun vals W7 hB hfin hall=>?_) (ea 7 rfl)
  · simp only [ObD,Act.put,qA,qC,qZ]
    refine ⟨?_,?_,?_,?_,?_,?o6_5,?o6_6,?o6_7,?o6_8,trivial⟩
    all_goals (intro L W hL hk hC hw;have f:=deps hw rfl rfl;simp only [depF,vsP,pw,qS,qD,and_true,true_and] at f)
    case o6_5=>have CL:=Lib.hid (stack_any (lo32 ce1.vB) (lo32 ce0.A) W);clear hL hC hk hw;refine spD rfl ?_;go_simp;(with_reducible refine CL.out.mono ?_);rintro e w8 ⟨rfl,h2⟩;first | exact sq h2 rfl ⟨rfl,trivial⟩ | exact ⟨_,rfl,sq h2 rfl ⟨rfl,trivial⟩⟩
    case o6_6=>
      have CL:=Lib.hid (look_K SS.out (hC.pre hk) BEG.out (by have:=HI.out;omega) CE3.out 3 (lo32 ce1.vB) (lo32 ce0.A));clear hL hC hk hw;refine spD rfl ?_;go_simp;(with_reducible refine CL.out.mono ?_);rintro e w8 (⟨h,rfl,h2⟩ | ⟨h1,rfl,hf,H⟩)
      · exact ⟨_,rfl,Did.miss (by unfold oClose;simp only [runOm_bind,run_there S0.out.1 S0.out.2,decide_eq_false (show ¬ hi32 ce0.A≠q.wh from fun h=>h (HC.out ce0 S0.out.1)),run_deny_no,run_look S1.out,I1.out,if_true,run_look S2.out,run_more C6.out,oAmount,run_put,run_look_no h]) h2⟩
      · first | exact kv hf H rfl ⟨rfl,trivial⟩ | exact ⟨_,rfl,kv hf H rfl ⟨rfl,trivial⟩⟩
    case o6_7=>have ZZ:=hC.fr.size;clear hL hC hk hw;refine spD rfl ?_;go_simp;exact am ZZ
    case o6_8=>obtain ⟨gt,C,fa,hgt,bx0,hc⟩:=Fw.geta (hw ⟨7,.data⟩ (by simp) rfl) (by decide);obtain ⟨c0,c1,c2,c3,c4,c5,rfl⟩:=arr6 hc;have q:=six_cells bx0;have BXX:=Lib.hid bx0;have FA:=Lib.hid fa;clear bx0 hc;unfold thing at f;clear hL hC hk hw;refine spD rfl ?_;go_simp;exact sm SS.out BEG.out BXX.out hgt FA.out
    all_goals (have c:=kn7 hC;clear hL hC hk hw;refine spD rfl ?_;go_simp;first | exact sv rfl ⟨rfl,trivial⟩ | exact ⟨_,rfl,sv rfl ⟨rfl,trivial⟩⟩)
  have S3:=Lib.hid hB.1
  simp only [allF,vsP,pw,true_and,and_true,Nat.reduceAdd] at hall
  obtain ⟨gt3,fa,hgt,bx⟩:=hfin
  simp only [TL,Act.put,qA,qC,qZ,hall,fa]
  replace SS:=Lib.hid (SS.out.push BEG.out hB.st SS.out.lt hgt bx)
  clear hall vals hB fa hgt bx
  go_upto_region 11 with fail
  refine wp_SA (D:=DP w g q v base i p l seen (oClose q) Rp.enc) 10 11 12 True True (i + 1 + 1 + 1 + 1) (l++[amt 1 q.wh 0 (ce2.vA + ce1.vA),amt 3 (lo32 ce1.vB) (lo32 ce0.A) (ce3.vA + ce0.B)]) [pw g 0,some (.pointer (some ⟨gt3,2,none⟩),True),some (.agg #[.int .u8 3,.int .u32 (lo32 ce1.vB),.int .u32 (lo32 ce0.A)],True),some (.pointer (some ⟨gt3,0,none⟩),True),some (.pointer (some ⟨gt3,0,none⟩),True),some (.int .u64 ce3.vA,True),some (.pointer (some ⟨gt0,0,none⟩),True),some (.pointer (some ⟨gt0,1,none⟩),True),some (.int .u64 ce0.B,True),some (.int .u64 (ce3.vA + ce0.B),Mr ce3.vA ce0.B),some (.tuple #[],True)] SS.out (fun vals=>?_) (fun vals W8 hB hall=>?_)
  · simp only [ObD,Act.put,qA,qC,qZ]
    refine ⟨?_,?_,?o7_2,?_,?_,?o7_5,?_,?_,?o7_8,?o7_9,?o7_10,trivial⟩
    all_goals (intro L W hL hk hC hw;have f:=deps hw rfl rfl;simp only [depF,vsP,pw,qS,qD,and_true,true_and] at f)
    case' o7_2=>have k2:W.cell? ⟨gt3,2,none⟩=some (.int .u8 3):=(cw_bx hC).1.out.cell 2;have k3:W.cell? ⟨gt3,3,none⟩=some (.int .u32 (lo32 ce1.vB)):=(cw_bx hC).1.out.cell 3;have k4:W.cell? ⟨gt3,4,none⟩=some (.int .u32 (lo32 ce0.A)):=(cw_bx hC).1.out.cell 4
    case' o7_5=>have k0:W.cell? ⟨gt3,0,none⟩=some (.int .u64 ce3.vA):=(cw_bx hC).1.out.cell 0
    case' o7_8=>have k1:W.cell? ⟨gt0,1,none⟩=some (.int .u64 ce0.B):=(cw_bx hC).2.2.1.out.cell 1
    case o7_9=>
      have CL:=Lib.hid (more_C (vA_ok HOK.out S3.out) (B_ok HOK.out S0.out.1) hC SS.out BEG.out);clear hL hC hk hw;refine spD rfl ?_;go_simp;(with_reducible refine CL.out.mono ?_)
      rintro e w8 (⟨h,rfl,h2⟩ | ⟨h1,rfl,h2⟩)
      · exact ⟨_,rfl,Did.err (by unfold oClose;simp only [runOm_bind,run_there S0.out.1 S0.out.2,decide_eq_false (show ¬ hi32 ce0.A≠q.wh from fun h=>h (HC.out ce0 S0.out.1)),run_deny_no,run_look S1.out,I1.out,if_true,run_look S2.out,run_more C6.out,oAmount,run_put,run_look S3.out,run_more_no h]) h2⟩
      · first | exact sq h2 rfl ⟨rfl,h1⟩ | exact ⟨_,rfl,sq h2 rfl ⟨rfl,h1⟩⟩
    case o7_10=>have CL:=Lib.hid (pk SS.out BEG.out (amount_S (hC.pre hk) BEG.out (by have:=HL.out;(try simp only [List.length_append,List.length_cons,List.length_nil]);omega) 3 (lo32 ce1.vB) (lo32 ce0.A) (ce3.vA + ce0.B) (show _=l++[amt 1 q.wh 0 (ce2.vA + ce1.vA),amt 3 (lo32 ce1.vB) (lo32 ce0.A) (ce3.vA + ce0.B)] by simp)));clear hL hC hk hw;refine spD rfl ?_;go_simp;(with_reducible refine CL.out.mono ?_);rintro e w8 ⟨rfl,hf,H⟩;first | exact kv hf H rfl ⟨rfl,trivial⟩ | exact ⟨_,rfl,kv hf H rfl ⟨rfl,trivial⟩⟩
    all_goals (have c:=kn7 hC;clear hL hC hk hw;refine spD rfl ?_;go_simp;first | exact sv rfl ⟨rfl,trivial⟩ | exact ⟨_,rfl,sv rfl ⟨rfl,trivial⟩⟩)
  have C8:Hid (Mr ce3.vA ce0.B):=Lib.hid (vsP_c (hall.get 9))
  simp only [allF,vsP,pw,true_and,and_true,Nat.reduceAdd] at hall
  simp only [TL,Act.put,qA,qC,qZ,hall]
  obtain ⟨p8,hB⟩:=hB.put
  replace SS:=Lib.hid hB
  clear hall vals hB
  replace SS:=Lib.hid SS.out.drop
  obtain ⟨⟨y0,y1,y2,y3,y4,y5⟩,-⟩:=six_cells SS.out.bx.2.1.out
  have CALL:=Lib.hid (gone_S SS.out BEG.out (by have:=HL.out;(try simp only [List.length_append,List.length_cons,List.length_nil]);omega) 6 q.id 0 (show _=l++[amt 1 q.wh 0 (ce2.vA + ce1.vA),amt 3 (lo32 ce1.vB) (lo32 ce0.A) (ce3.vA + ce0.B),Pu.mk 6 q.id 0 0 0 true] by simp))
  go_wp2_with fail
  (with_reducible refine CALL.out.mono ?_)
  rintro e W9 ⟨rfl,hf,p9,hs⟩
  replace SS:=Lib.hid hs
  clear CALL hf hs y0 y1 y2 y3 y4 y5
  have y0:W9.cell? ⟨g,4,none⟩=some (.int .u32 q.id):=SS.out.kn.c4
  go_wp2_with fail
  (with_reducible refine (price_any q.id _).mono ?_)
  rintro e W10 ⟨rfl,hbl⟩
  clear y0
  replace SS:=Lib.hid (SS.out.later hbl)
  clear hbl
  have y0:W10.cell? ⟨g,4,none⟩=some (.int .u32 q.id):=SS.out.kn.c4
  have CALL:=Lib.hid (gone_S SS.out BEG.out (by have:=HL.out;(try simp only [List.length_append,List.length_cons,List.length_nil]);omega) 7 q.id 1 (show _=l++[amt 1 q.wh 0 (ce2.vA + ce1.vA),amt 3 (lo32 ce1.vB) (lo32 ce0.A) (ce3.vA + ce0.B),Pu.mk 6 q.id 0 0 0 true,Pu.mk 7 q.id 1 0 0 true] by simp))
  go_wp2_with fail
  (with_reducible refine CALL.out.mono ?_)
  rintro e W11 ⟨rfl,hf,p11,hs⟩
  replace SS:=Lib.hid hs
  clear CALL hf hs y0
  obtain ⟨⟨y0,y1,y2,y3,y4,y5⟩,-⟩:=six_cells SS.out.bx.1.out
  obtain ⟨⟨y0,y1,y2,y3,y4,y5⟩,-⟩:=six_cells SS.out.bx.1.out
  have CALL:=Lib.hid (gone_S SS.out BEG.out (by have:=HL.out;(try simp only [List.length_append,List.length_cons,List.length_nil]);omega) 7 q.id 0 (show _=l++[amt 1 q.wh 0 (ce2.vA + ce1.vA),amt 3 (lo32 ce1.vB) (lo32 ce0.A) (ce3.vA + ce0.B),Pu.mk 6 q.id 0 0 0 true,Pu.mk 7 q.id 1 0 0 true,Pu.mk 7 q.id 0 0 0 true] by simp))
  go_wp2_with fail
  (with_reducible refine CALL.out.mono ?_)
  rintro e W12 ⟨rfl,hf,p12,hs⟩
  replace SS:=Lib.hid hs
  clear CALL hf hs y0 y1 y2 y3 y4 y5
  have y0:W12.cell? ⟨gt1,0,none⟩=some (.int .u64 ce1.vA):=SS.out.bx.1.out.cell 0
  obtain ⟨⟨z0,z1,z2,z3⟩,x0,x1,x2,x3⟩:=four_cells SS.out.bx.2.2.1.out
  go_wp2
  generalize hW:(World.setCell _ (⟨w.heap.size,3,none⟩:Addr) _)=WZ
  have b9:Box WZ w.heap.size #[.int .u16 0,.int .u64 ce1.vA,.int .u64 0,.int .u64 0] 35:=by
    rw [← hW]
    exact four_box SS.out.bx.2.2.1.out
  have F9:Hid (Fr (fun x=>x=w.heap.size) W12 WZ):=Lib.hid (by
    rw [← hW]
    exact four_fr)
  obtain ⟨⟨v0,v1,v2,v3⟩,-⟩:=four_cells b9
  clear hW b9 z0 z1 z2 z3 x0 x1 x2 x3 y0
  refine bodyPost_ret (v:=.agg #[.int .u16 0,.int .u64 ce1.vA,.int .u64 0,.int .u64 0]) (by simp [results,Tryz.results75,go_sem,v0,v1,v2,v3];try rfl) rfl ?_
  refine (SS.out.wr BEG.out 2 rfl F9.out).did (y:=(⟨ce1.vA,0,0⟩,l++[amt 1 q.wh 0 (ce2.vA + ce1.vA),amt 3 (lo32 ce1.vB) (lo32 ce0.A) (ce3.vA + ce0.B),Pu.mk 6 q.id 0 0 0 true,Pu.mk 7 q.id 1 0 0 true,Pu.mk 7 q.id 0 0 0 true])) ?_ rfl
  unfold oClose
  simp only [runOm_bind,runOm_pure,run_there S0.out.1 S0.out.2,decide_eq_false (show ¬ hi32 ce0.A≠q.wh from fun h=>h (HC.out ce0 S0.out.1)),run_deny_no,run_look S1.out,I1.out,if_true,run_look S2.out,run_more C6.out,oAmount,run_put,run_look S3.out,run_more C8.out,oAmount,run_put,oGone,run_put,oGone,run_put,oGone,run_put,oGone,List.append_assoc,List.cons_append,List.nil_append]
  try rfl
theorem close_all (w:World) (g:Nat) (q:Ot) (v:Value) (base i:Nat) (p:Value) (l:List Pu) (seen:List Ce) (hst:St w g q v base i p l) (hs:SeenAt w g v seen) (hg:g < base) (hbase:base≤w.heap.size) (hl:l.length≤700) (hi:i≤700000) (hq:q.Ok) (hok:∀ c∈seen,c.Ok) :
    Calls Tryz.prog 75 #[.pointer (some ⟨g,0,none⟩)] w (Did w g q v base i p l seen (oClose q) Rp.enc):=by
  obtain ⟨ce,h⟩:=the_cell seen i
  obtain ⟨cf,h'⟩:=the_cell seen (i + 1)
  by_cases h1:hi32 ce.A=q.wh
  · cases e:cf.is with
    | true=>exact close_bid w g q v base i p l seen hst hs hg hbase hl hi hq hok (fun c hc=>by rw [h c hc];exact h1) (fun c hc=>by rw [h' c hc];exact e)
    | false=>exact close_none w g q v base i p l seen hst hs hg hbase hl hi hq hok (fun c hc=>by rw [h c hc];exact h1) (fun c hc=>by rw [h' c hc];exact e)
  · exact close_no w g q v base i p l seen hst hs hg hbase hl hi hq hok (fun c hc=>by rw [h c hc];exact h1)
end Go.Proofs.YtabckmadpdchnaaGreat.Rule
namespace Go.Proofs.YtabckmadpdchnaaGreat.Rule
open Go.ChangeShapes Go.WideShapes Go.ChangeAt Go.RowKit Go.IntWalk Go.Proofs.Mem Go.Proofs.Stk
section
variable {seen:List Ce} {l:List Pu} {wh:Int}
theorem oLooks_ok:∀ (xs:List Int) (cs:List Ce) (j:Nat),cs.length=xs.length→(∀ t c,cs[t]?=some c→seen[j + t]?=some c)→runOm seen (oLooks wh xs) j l=.ok (cs.map Ce.vA,l) (j + xs.length)
  | [],cs,j,h,_=>by
    have:cs=[]:=List.eq_nil_of_length_eq_zero (by simpa using h)
    subst this;rfl
  | x :: r,[],j,h,_=>by simp at h
  | x :: r,c :: cs,j,h,hs=>by
    have h0:seen[j]?=some c:=by simpa using hs 0 c rfl
    have ih:=oLooks_ok r cs (j + 1) (by simpa using h) (fun t d hd=>by have:=hs (t + 1) d (by simpa using hd);rwa [show j + (t + 1)=j + 1 + t by omega] at this)
    unfold oLooks
    rw [runOm_bind,run_look h0]
    simp only [runOm_bind,ih]
    show Re.ok (c.vA :: cs.map Ce.vA,l) (j + 1 + r.length)=_
    rw [show j + (x :: r).length=j + 1 + r.length by simp;omega]
    rfl
theorem oLooks_miss:∀ (xs:List Int) (cs:List Ce) (j:Nat) (x:Int),xs[cs.length]?=some x→(∀ t c,cs[t]?=some c→seen[j + t]?=some c)→seen[j + cs.length]?=none→runOm seen (oLooks wh xs) j l=.miss 3 wh x
  | [],cs,j,x,h,_,_=>by simp at h
  | y :: r,[],j,x,h,_,hn=>by
    have:y=x:=by simpa using h
    subst this
    unfold oLooks
    rw [runOm_bind,run_look_no (by simpa using hn)]
  | y :: r,c :: cs,j,x,h,hs,hn=>by
    have h0:seen[j]?=some c:=by simpa using hs 0 c rfl
    have ih:=oLooks_miss r cs (j + 1) x (by simpa using h) (fun t d hd=>by have:=hs (t + 1) d (by simpa using hd);rwa [show j + (t + 1)=j + 1 + t by omega] at this) (by rw [← hn];congr 1;simp;omega)
    unfold oLooks
    rw [runOm_bind,run_look h0]
    simp only [runOm_bind,ih]
def chg (f:Int→Int→Int):Nat→List Int→List Int→List Int
  | k + 1,x :: xs,a :: ms=>f x a :: chg f k xs ms
  | _,_,ms=>ms
theorem chg_zero (f:Int→Int→Int) (xs ms:List Int):chg f 0 xs ms=ms:=by cases xs <;> cases ms <;> rfl
theorem chg_len (f:Int→Int→Int):∀ (k:Nat) (xs ms:List Int),(chg f k xs ms).length=ms.length
  | 0,xs,ms=>by rw [chg_zero]
  | k + 1,[],ms=>by unfold chg;rfl
  | k + 1,x :: xs,[]=>by unfold chg;rfl
  | k + 1,x :: xs,a :: ms=>by unfold chg;simp [chg_len f k xs ms]
theorem chg_at (f:Int→Int→Int):∀ (k:Nat) (xs ms:List Int) (i:Nat),k≤i→(chg f k xs ms)[i]?=ms[i]?
  | 0,xs,ms,i,_=>by rw [chg_zero]
  | k + 1,[],ms,i,_=>by unfold chg;rfl
  | k + 1,x :: xs,[],i,_=>by unfold chg;rfl
  | k + 1,x :: xs,a :: ms,0,h=>by omega
  | k + 1,x :: xs,a :: ms,i + 1,h=>by unfold chg;simpa using chg_at f k xs ms i (by omega)
theorem chg_set (f:Int→Int→Int):∀ (k:Nat) (xs ms:List Int) (x a:Int),xs[k]?=some x→ms[k]?=some a→(chg f k xs ms).set k (f x a)=chg f (k + 1) xs ms
  | 0,x :: xs,a :: ms,y,b,hx,ha=>by
    have e1:x=y:=by simpa using hx
    have e2:a=b:=by simpa using ha
    subst e1 e2
    rw [chg_zero];unfold chg;rw [chg_zero];rfl
  | k + 1,x :: xs,a :: ms,y,b,hx,ha=>by
    have ih:=chg_set f k xs ms y b (by simpa using hx) (by simpa using ha)
    show f x a :: (chg f k xs ms).set k (f y b)=f x a :: chg f (k + 1) xs ms
    rw [ih]
  | 0,[],ms,y,b,hx,ha=>by simp at hx
  | 0,x :: xs,[],y,b,hx,ha=>by simp at ha
  | k + 1,[],ms,y,b,hx,ha=>by simp at hx
  | k + 1,x :: xs,[],y,b,hx,ha=>by simp at ha
theorem oLesses_ok (f:Int→Int):∀ (xs ms:List Int) (j:Nat),ms.length=xs.length→(∀ (t:Nat) x a,xs[t]?=some x→ms[t]?=some a→Ls a (f x))→runOm seen (oLesses f xs ms) j l=.ok (chg (fun x a=>a - f x) xs.length xs ms,l) j
  | [],ms,j,h,_=>by
    have:ms=[]:=List.eq_nil_of_length_eq_zero (by simpa using h)
    subst this;rfl
  | x :: r,[],j,h,_=>by simp at h
  | x :: r,a :: ms,j,h,hs=>by
    have h0:=hs 0 x a rfl rfl
    have ih:=oLesses_ok f r ms j (by simpa using h) (fun t y b h1 h2=>hs (t + 1) y b (by simpa using h1) (by simpa using h2))
    unfold oLesses
    rw [runOm_bind,run_less h0.1 h0.2]
    simp only [runOm_bind,ih]
    rfl
theorem oLesses_err (f:Int→Int):∀ (xs ms:List Int) (k j:Nat) (x a e:Int),xs[k]?=some x→ms[k]?=some a→(∀ t y b,t < k→xs[t]?=some y→ms[t]?=some b→Ls b (f y))→(∀ l,runOm seen (oLess a (f x)) j l=.err e)→runOm seen (oLesses f xs ms) j l=.err e
  | [],ms,k,j,x,a,e,hx,_,_,_=>by simp at hx
  | y :: r,[],k,j,x,a,e,_,ha,_,_=>by simp at ha
  | y :: r,b :: ms,0,j,x,a,e,hx,ha,_,he=>by
    have e1:y=x:=by simpa using hx
    have e2:b=a:=by simpa using ha
    subst e1 e2
    unfold oLesses
    rw [runOm_bind,he]
  | y :: r,b :: ms,k + 1,j,x,a,e,hx,ha,hs,he=>by
    have h0:=hs 0 y b (by omega) rfl rfl
    have ih:=oLesses_err f r ms k j x a e (by simpa using hx) (by simpa using ha) (fun t z c ht h1 h2=>hs (t + 1) z c (by omega) (by simpa using h1) (by simpa using h2)) he
    unfold oLesses
    rw [runOm_bind,run_less h0.1 h0.2]
    simp only [runOm_bind,ih]
theorem oMores_ok (f:Int→Int):∀ (xs ms:List Int) (j:Nat),ms.length=xs.length→(∀ (t:Nat) x a,xs[t]?=some x→ms[t]?=some a→Mr a (f x))→runOm seen (oMores f xs ms) j l=.ok (chg (fun x a=>a + f x) xs.length xs ms,l) j
  | [],ms,j,h,_=>by
    have:ms=[]:=List.eq_nil_of_length_eq_zero (by simpa using h)
    subst this;rfl
  | x :: r,[],j,h,_=>by simp at h
  | x :: r,a :: ms,j,h,hs=>by
    have h0:=hs 0 x a rfl rfl
    have ih:=oMores_ok f r ms j (by simpa using h) (fun t y b h1 h2=>hs (t + 1) y b (by simpa using h1) (by simpa using h2))
    unfold oMores
    rw [runOm_bind,run_more h0]
    simp only [runOm_bind,ih]
    rfl
theorem oMores_err (f:Int→Int):∀ (xs ms:List Int) (k j:Nat) (x a e:Int),xs[k]?=some x→ms[k]?=some a→(∀ t y b,t < k→xs[t]?=some y→ms[t]?=some b→Mr b (f y))→(∀ l,runOm seen (oMore a (f x)) j l=.err e)→runOm seen (oMores f xs ms) j l=.err e
  | [],ms,k,j,x,a,e,hx,_,_,_=>by simp at hx
  | y :: r,[],k,j,x,a,e,_,ha,_,_=>by simp at ha
  | y :: r,b :: ms,0,j,x,a,e,hx,ha,_,he=>by
    have e1:y=x:=by simpa using hx
    have e2:b=a:=by simpa using ha
    subst e1 e2
    unfold oMores
    rw [runOm_bind,he]
  | y :: r,b :: ms,k + 1,j,x,a,e,hx,ha,hs,he=>by
    have h0:=hs 0 y b (by omega) rfl rfl
    have ih:=oMores_err f r ms k j x a e (by simpa using hx) (by simpa using ha) (fun t z c ht h1 h2=>hs (t + 1) z c (by omega) (by simpa using h1) (by simpa using h2)) he
    unfold oMores
    rw [runOm_bind,run_more h0]
    simp only [runOm_bind,ih]
def amts (wh:Int):List Int→List Int→List Pu
  | x :: xs,a :: ms=>amt 3 wh x a :: amts wh xs ms
  | _,_=>[]
theorem amts_take (wh:Int):∀ (xs ms:List Int) (k:Nat) (x a:Int),xs[k]?=some x→ms[k]?=some a→(amts wh xs ms).take (k + 1)=(amts wh xs ms).take k++[amt 3 wh x a]
  | [],ms,k,x,a,hx,_=>by simp at hx
  | y :: r,[],k,x,a,_,ha=>by simp at ha
  | y :: r,b :: ms,0,x,a,hx,ha=>by
    have e1:y=x:=by simpa using hx
    have e2:b=a:=by simpa using ha
    subst e1 e2
    rfl
  | y :: r,b :: ms,k + 1,x,a,hx,ha=>by
    have ih:=amts_take wh r ms k x a (by simpa using hx) (by simpa using ha)
    show amt 3 wh y b :: (amts wh r ms).take (k + 1)=amt 3 wh y b :: (amts wh r ms).take k++[amt 3 wh x a]
    rw [ih];rfl
theorem amts_len (wh:Int):∀ (xs ms:List Int),ms.length=xs.length→(amts wh xs ms).length=xs.length
  | [],ms,_=>by unfold amts;rfl
  | x :: xs,[],h=>by simp at h
  | x :: xs,a :: ms,h=>by unfold amts;simp [amts_len wh xs ms (by simpa using h)]
theorem oAmounts_ok:∀ (xs ms:List Int) (j:Nat) (l:List Pu),runOm seen (oAmounts wh xs ms) j l=.ok ((),l++amts wh xs ms) j
  | [],ms,j,l=>by unfold oAmounts amts;simp;rfl
  | x :: r,[],j,l=>by unfold oAmounts amts;simp;rfl
  | x :: r,a :: ms,j,l=>by
    unfold oAmounts amts
    rw [runOm_bind]
    simp only [oAmount,run_put]
    rw [oAmounts_ok r ms j (l++[amt 3 wh x a])]
    simp
end
def thC (t:Th):List Value:=[.int .u64 t.A,.int .u64 t.B,.int .u8 t.k,.int .u32 t.a,.int .u32 t.b,.bool t.is]
def pileC (ts:List Th):Array Value:=(ts.flatMap thC).toArray
theorem pileC_size (ts:List Th):(pileC ts).size=ts.length * 6:=by
  induction ts with
  | nil=>rfl
  | cons t r ih=>simp [pileC,thC] at ih ⊢;omega
theorem pileC_at:∀ (ts:List Th) (j:Nat) (t:Th),ts[j]?=some t→(pileC ts)[j * 6]?=some (.int .u64 t.A)∧(pileC ts)[j * 6 + 1]?=some (.int .u64 t.B)∧(pileC ts)[j * 6 + 2]?=some (.int .u8 t.k)∧(pileC ts)[j * 6 + 3]?=some (.int .u32 t.a)∧(pileC ts)[j * 6 + 4]?=some (.int .u32 t.b)∧(pileC ts)[j * 6 + 5]?=some (.bool t.is)
  | [],j,t,h=>by simp at h
  | u :: r,0,t,h=>by
    have:u=t:=by simpa using h
    subst this
    refine ⟨rfl,rfl,rfl,rfl,rfl,rfl⟩
  | u :: r,j + 1,t,h=>by
    have ih:=pileC_at r j t (by simpa using h)
    have key:∀ n,(pileC (u :: r))[(j + 1) * 6 + n]?=(pileC r)[j * 6 + n]?:=fun n=>by
      have e:pileC (u :: r)=(thC u++r.flatMap thC).toArray:=by simp [pileC]
      rw [e,show (j + 1) * 6 + n=j * 6 + n + (thC u).length by simp [thC];omega]
      simp only [List.getElem?_toArray,pileC]
      rw [List.getElem?_append_right (by omega),Nat.add_sub_cancel]
    refine ⟨(key 0).trans ih.1,(key 1).trans ih.2.1,(key 2).trans ih.2.2.1,(key 3).trans ih.2.2.2.1,(key 4).trans ih.2.2.2.2.1,(key 5).trans ih.2.2.2.2.2⟩
theorem pileC_app (ts:List Th) (t:Th):pileC (ts++[t])=(pileC ts)++(thC t).toArray:=by simp [pileC]
theorem pileC_set:∀ (ts:List Th) (j:Nat) (t:Th) (x:Int),ts[j]?=some t→(pileC ts).setIfInBounds (j * 6) (.int .u64 x)=pileC (ts.set j { t with A:=x })
  | [],j,t,x,h=>by simp at h
  | u :: r,0,t,x,h=>by
    have:u=t:=by simpa using h
    subst this
    simp [pileC,thC]
  | u :: r,j + 1,t,x,h=>by
    have ih:=pileC_set r j t x (by simpa using h)
    have e:pileC (u :: r)=(thC u).toArray++pileC r:=by simp [pileC]
    have e2:pileC ((u :: r).set (j + 1) { t with A:=x })=(thC u).toArray++pileC (r.set j { t with A:=x }):=by simp [pileC]
    rw [e,e2,← ih]
    apply Array.ext'
    rw [Array.toList_setIfInBounds]
    simp only [Array.toList_append]
    rw [List.set_append_right _ _ (by simp [thC];omega)]
    rw [Array.toList_setIfInBounds]
    congr 2
    simp [thC];omega
def ths (wh:Int):List Int→List Ce→List Int→List Th
  | x :: xs,c :: cs,a :: ms=>⟨a,c.vB,3,wh,x,c.is⟩ :: ths wh xs cs ms
  | _,_,_=>[]
theorem ths_at (wh:Int):∀ (xs:List Int) (cs:List Ce) (ms:List Int) (k:Nat) (x:Int) (c:Ce) (a:Int),xs[k]?=some x→cs[k]?=some c→ms[k]?=some a→(ths wh xs cs ms)[k]?=some ⟨a,c.vB,3,wh,x,c.is⟩
  | [],cs,ms,k,x,c,a,hx,_,_=>by simp at hx
  | y :: xs,[],ms,k,x,c,a,_,hc,_=>by simp at hc
  | y :: xs,d :: cs,[],k,x,c,a,_,_,ha=>by simp at ha
  | y :: xs,d :: cs,b :: ms,0,x,c,a,hx,hc,ha=>by
    have e1:y=x:=by simpa using hx
    have e2:d=c:=by simpa using hc
    have e3:b=a:=by simpa using ha
    subst e1 e2 e3;rfl
  | y :: xs,d :: cs,b :: ms,k + 1,x,c,a,hx,hc,ha=>by
    have:=ths_at wh xs cs ms k x c a (by simpa using hx) (by simpa using hc) (by simpa using ha)
    simpa [ths] using this
theorem ths_set (wh:Int):∀ (xs:List Int) (cs:List Ce) (ms:List Int) (k:Nat) (x:Int) (c:Ce) (a b:Int),xs[k]?=some x→cs[k]?=some c→ms[k]?=some a→(ths wh xs cs ms).set k ⟨b,c.vB,3,wh,x,c.is⟩=ths wh xs cs (ms.set k b)
  | [],cs,ms,k,x,c,a,b,hx,_,_=>by simp at hx
  | y :: xs,[],ms,k,x,c,a,b,_,hc,_=>by simp at hc
  | y :: xs,d :: cs,[],k,x,c,a,b,_,_,ha=>by simp at ha
  | y :: xs,d :: cs,e :: ms,0,x,c,a,b,hx,hc,ha=>by
    have e1:y=x:=by simpa using hx
    have e2:d=c:=by simpa using hc
    subst e1 e2;rfl
  | y :: xs,d :: cs,e :: ms,k + 1,x,c,a,b,hx,hc,ha=>by
    have:=ths_set wh xs cs ms k x c a b (by simpa using hx) (by simpa using hc) (by simpa using ha)
    simpa [ths] using this
theorem ths_snoc (wh:Int):∀ (xs:List Int) (cs:List Ce) (x:Int) (c:Ce),xs[cs.length]?=some x→ths wh xs (cs++[c]) ((cs++[c]).map Ce.vA)=ths wh xs cs (cs.map Ce.vA)++[⟨c.vA,c.vB,3,wh,x,c.is⟩]
  | [],cs,x,c,h=>by simp at h
  | y :: xs,[],x,c,h=>by
    have e1:y=x:=by simpa using h
    subst e1
    cases xs <;> rfl
  | y :: xs,d :: cs,x,c,h=>by
    have:=ths_snoc wh xs cs x c (by simpa using h)
    simpa [ths] using this
end Go.Proofs.YtabckmadpdchnaaGreat.Rule
