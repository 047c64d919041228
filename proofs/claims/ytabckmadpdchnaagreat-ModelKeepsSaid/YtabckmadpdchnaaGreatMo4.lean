import Derived.Test.YtabckmadpdchnaaGreatLaw
import Derived.Test.YtabckmadpdchnaaGreatMo0
import Derived.Test.YtabckmadpdchnaaGreatMo1
import Derived.Test.YtabckmadpdchnaaGreatMo3
import Derived.ChangeArms
import Derived.Deep.Slices
set_option linter.unusedVariables false
set_option linter.unusedSimpArgs false
set_option linter.unnecessarySimpa false
set_option maxRecDepth 100000
set_option maxHeartbeats 8000000
namespace Go.Proofs.YtabckmadpdchnaaGreat.Rule
open Go.ChangeShapes Go.WideShapes Go.ChangeAt Go.RowKit Go.IntWalk Go.Proofs.Mem Go.Proofs.Each
theorem mint_y (w:World) (g:Nat) (q:Ot) (v:Value) (base i:Nat) (p:Value) (l:List Pu) (seen:List Ce) (hst:St w g q v base i p l) (hs:SeenAt w g v seen) (hg:g < base) (hbase:base≤w.heap.size) (hl:l.length≤800) (hi:i≤800000) (hq:q.Ok) (hok:∀ c∈seen,c.Ok) (hkd:q.kd=2) :
    Calls Tryz.prog 63 #[.pointer (some ⟨g,0,none⟩)] w (Did w g q v base i p l seen (oMint q) Rp.enc):=by
  have BEG:=Lib.hid (Begin.mk hs hg hbase hq hok (fun x hx=>hst.own.lt x hx))
  obtain ⟨W0,hW0⟩:∃ W0,w.alloc (.cells #[.int .u16 0,.int .u64 0,.int .u64 0,.int .u64 0] 35)=W0:=⟨_,rfl⟩
  have SS:Hid (ST w g q v base p i p l [.box w.heap.size #[.int .u16 0,.int .u64 0,.int .u64 0,.int .u64 0] 35] W0):=Lib.hid (by rw [← hW0];exact ST.start hst BEG.out _ _)
  have HI:=Lib.hid hi
  have HQ:=Lib.hid hq
  have HOK:=Lib.hid hok
  have HL:=Lib.hid hl
  have HKD:=Lib.hid hkd
  obtain ⟨ce0,hce0⟩:=the_cell seen (i)
  have CE0:=Lib.hid hce0
  clear hst hs hg hbase hl hi hq hok hkd hce0
  go_enter Tryz.func63,Tryz.ntmps63
  go_upto_region 1 with fail
  try rw [hW0]
  clear hW0
  refine wp_SK (D:=DP w g q v base i p l seen (oMint q) Rp.enc) 9 10 11 (seen[i]?=some ce0∧ce0.is=true) (i + 1) #[.int .u64 ce0.A,.int .u64 ce0.B,.int .u8 1,.int .u32 q.wh,.int .u32 0,.bool true] [pw g 0,pw g 0,pw g 7,pw g 0,pw g 0,pw g 0,pw g 1,some (.int .u32 q.wh,True),some (.agg #[.int .u8 1,.int .u32 q.wh,.int .u32 0],True),some (.agg (thing ce0.A ce0.B 1 q.wh 0 true),True),none,none] SS.out (fun vals=>?_) (fun vals W1 hB hfin hall=>?_) (ea 10 rfl)
  · simp only [ObD,Act.put,qA,qC,qZ]
    refine ⟨?_,?_,?_,?_,?_,?_,?_,?_,?o0_8,?o0_9,?o0_10,?o0_11,trivial⟩
    all_goals (intro L W hL hk hC hw;have f:=deps hw rfl rfl;simp only [depF,vsP,pw,qS,qD,and_true,true_and] at f)
    case o0_8=>have CL:=Lib.hid (purse_any q.wh W);clear hL hC hk hw;refine spD rfl ?_;go_simp;(with_reducible refine CL.out.mono ?_);rintro e w8 ⟨rfl,h2⟩;first | exact sq h2 rfl ⟨rfl,trivial⟩ | exact ⟨_,rfl,sq h2 rfl ⟨rfl,trivial⟩⟩
    case o0_9=>
      have CL:=Lib.hid (there_K SS.out (hC.pre hk) BEG.out (by have:=HI.out;omega) CE0.out 1 q.wh 0);clear hL hC hk hw;refine spD rfl ?_;go_simp;(with_reducible refine CL.out.mono ?_);rintro e w8 (⟨h,rfl,h2⟩ | ⟨h,h3,rfl,h2⟩ | ⟨rfl,hf,H⟩)
      · exact ⟨_,rfl,Did.miss (by unfold oMint;simp only [runOm_bind,run_there_no h]) h2⟩
      · exact ⟨_,rfl,Did.err (by unfold oMint;simp only [runOm_bind,run_there_not h h3]) h2⟩
      · first | exact kv hf H rfl ⟨rfl,trivial⟩ | exact ⟨_,rfl,kv hf H rfl ⟨rfl,trivial⟩⟩
    case o0_10=>have ZZ:=hC.fr.size;clear hL hC hk hw;refine spD rfl ?_;go_simp;exact am ZZ
    case o0_11=>obtain ⟨gt,C,fa,hgt,bx0,hc⟩:=Fw.geta (hw ⟨10,.data⟩ (by simp) rfl) (by decide);obtain ⟨c0,c1,c2,c3,c4,c5,rfl⟩:=arr6 hc;have q:=six_cells bx0;have BXX:=Lib.hid bx0;have FA:=Lib.hid fa;clear bx0 hc;unfold thing at f;clear hL hC hk hw;refine spD rfl ?_;go_simp;exact sm SS.out BEG.out BXX.out hgt FA.out
    all_goals (have c:=kn7 hC;clear hL hC hk hw;refine spD rfl ?_;go_simp;first | exact sv rfl ⟨rfl,trivial⟩ | exact ⟨_,rfl,sv rfl ⟨rfl,trivial⟩⟩)
  have S0:=Lib.hid hB.1
  simp only [allF,vsP,pw,true_and,and_true,Nat.reduceAdd] at hall
  obtain ⟨gt0,fa,hgt,bx⟩:=hfin
  simp only [TL,Act.put,qA,qC,qZ,hall,fa]
  replace SS:=Lib.hid (SS.out.push BEG.out hB.st SS.out.lt hgt bx)
  clear hall vals hB fa hgt bx
  have y0:W1.cell? ⟨g,0,none⟩=some (.int .u8 q.kd):=SS.out.kn.c0
  have dk:(q.kd == 2)=true:=by have:=HKD.out;simpa using this
  go_upto_region 3 with fail
  clear dk y0
  refine wp_S (D:=DP w g q v base i p l seen (oMint q) Rp.enc) 11 12 13 (SB True False w g q v base p (i + 1) p l [.box gt0 #[.int .u64 (ce0.A + q.n),.int .u64 ce0.B,.int .u8 1,.int .u32 q.wh,.int .u32 0,.bool true] 130,.box w.heap.size #[.int .u16 0,.int .u64 0,.int .u64 0,.int .u64 0] 35]) [some (.pointer (some ⟨gt0,0,none⟩),True),some (.pointer (some ⟨gt0,0,none⟩),True),some (.int .u64 ce0.A,True),pw g 0,pw g 0,pw g 0,pw g 5,some (.int .u64 q.n,True),some (.int .u64 (ce0.A + q.n),Mr ce0.A q.n),some (.pointer (some ⟨gt0,0,none⟩),True),some (.pointer (some ⟨gt0,0,none⟩),True),some (undef,True)] SS.out (fun vals=>?_) (fun vals W2 hB hall=>?_)
  · simp only [ObD,Act.put,qA,qC,qZ]
    refine ⟨?_,?_,?o1_2,?_,?_,?_,?_,?_,?o1_8,?_,?_,?o1_11,trivial⟩
    all_goals (intro L W hL hk hC hw;have f:=deps hw rfl rfl;simp only [depF,vsP,pw,qS,qD,and_true,true_and] at f)
    case' o1_2=>have k0:W.cell? ⟨gt0,0,none⟩=some (.int .u64 ce0.A):=(hC.pre (hL.not_yet hk 11 16 (by decide +kernel))).bx.1.out.cell 0
    case o1_8=>
      have CL:=Lib.hid (more_C (A_ok HOK.out S0.out.1) HQ.out.n hC SS.out BEG.out);clear hL hC hk hw;refine spD rfl ?_;go_simp;(with_reducible refine CL.out.mono ?_)
      rintro e w8 (⟨h,rfl,h2⟩ | ⟨h1,rfl,h2⟩)
      · exact ⟨_,rfl,Did.err (by unfold oMint;simp only [runOm_bind,run_there S0.out.1 S0.out.2,if_pos HKD.out,run_more_no h]) h2⟩
      · first | exact sq h2 rfl ⟨rfl,h1⟩ | exact ⟨_,rfl,sq h2 rfl ⟨rfl,h1⟩⟩
    case o1_11=>have PRE:=hC.pre hk;have q0:W.cell? ⟨gt0,0,none⟩=some (.int .u64 ce0.A):=PRE.bx.1.out.cell 0;have r0:=PRE.bx.1.out.frozen 0;have P:=Lib.hid PRE;clear PRE;clear hL hC hk hw;refine spD rfl ?_;go_simp;exact ks (ksB SS.out P.out BEG.out 0 rfl) rfl ⟨rfl,trivial⟩
    all_goals (have c:=kn7 hC;clear hL hC hk hw;refine spD rfl ?_;go_simp;first | exact sv rfl ⟨rfl,trivial⟩ | exact ⟨_,rfl,sv rfl ⟨rfl,trivial⟩⟩)
  have C2:Hid (Mr ce0.A q.n):=Lib.hid (vsP_c (hall.get 8))
  simp only [allF,vsP,pw,true_and,and_true,Nat.reduceAdd] at hall
  simp only [TL,Act.put,qA,qC,qZ,hall]
  replace SS:=Lib.hid hB.st
  clear hall vals hB
  obtain ⟨⟨y0,y1,y2,y3,y4,y5⟩,-⟩:=six_cells SS.out.bx.1.out
  have CALL:=Lib.hid (amount_S SS.out BEG.out (by have:=HL.out;(try simp only [List.length_append,List.length_cons,List.length_nil]);omega) 1 q.wh 0 (ce0.A + q.n) (show _=l++[amt 1 q.wh 0 (ce0.A + q.n)] by simp))
  go_wp2_with fail
  (with_reducible refine CALL.out.mono ?_)
  rintro e W3 ⟨rfl,hf,p3,hs⟩
  replace SS:=Lib.hid hs
  clear CALL hf hs y0 y1 y2 y3 y4 y5
  have y0:W3.cell? ⟨gt0,0,none⟩=some (.int .u64 (ce0.A + q.n)):=SS.out.bx.1.out.cell 0
  obtain ⟨⟨z0,z1,z2,z3⟩,x0,x1,x2,x3⟩:=four_cells SS.out.bx.2.1.out
  go_wp2
  generalize hW:(World.setCell _ (⟨w.heap.size,3,none⟩:Addr) _)=WZ
  have b9:Box WZ w.heap.size #[.int .u16 0,.int .u64 (ce0.A + q.n),.int .u64 0,.int .u64 0] 35:=by
    rw [← hW]
    exact four_box SS.out.bx.2.1.out
  have F9:Hid (Fr (fun x=>x=w.heap.size) W3 WZ):=Lib.hid (by
    rw [← hW]
    exact four_fr)
  obtain ⟨⟨v0,v1,v2,v3⟩,-⟩:=four_cells b9
  clear hW b9 z0 z1 z2 z3 x0 x1 x2 x3 y0
  refine bodyPost_ret (v:=.agg #[.int .u16 0,.int .u64 (ce0.A + q.n),.int .u64 0,.int .u64 0]) (by simp [results,Tryz.results63,go_sem,v0,v1,v2,v3];try rfl) rfl ?_
  refine (SS.out.wr BEG.out 1 rfl F9.out).did (y:=(⟨ce0.A + q.n,0,0⟩,l++[amt 1 q.wh 0 (ce0.A + q.n)])) ?_ rfl
  unfold oMint
  simp only [runOm_bind,runOm_pure,run_there S0.out.1 S0.out.2,if_pos HKD.out,run_more C2.out,oAmount,run_put]
  try rfl
theorem mint_n (w:World) (g:Nat) (q:Ot) (v:Value) (base i:Nat) (p:Value) (l:List Pu) (seen:List Ce) (hst:St w g q v base i p l) (hs:SeenAt w g v seen) (hg:g < base) (hbase:base≤w.heap.size) (hl:l.length≤800) (hi:i≤800000) (hq:q.Ok) (hok:∀ c∈seen,c.Ok) (hkd:q.kd≠2) :
    Calls Tryz.prog 63 #[.pointer (some ⟨g,0,none⟩)] w (Did w g q v base i p l seen (oMint q) Rp.enc):=by
  have BEG:=Lib.hid (Begin.mk hs hg hbase hq hok (fun x hx=>hst.own.lt x hx))
  obtain ⟨W0,hW0⟩:∃ W0,w.alloc (.cells #[.int .u16 0,.int .u64 0,.int .u64 0,.int .u64 0] 35)=W0:=⟨_,rfl⟩
  have SS:Hid (ST w g q v base p i p l [.box w.heap.size #[.int .u16 0,.int .u64 0,.int .u64 0,.int .u64 0] 35] W0):=Lib.hid (by rw [← hW0];exact ST.start hst BEG.out _ _)
  have HI:=Lib.hid hi
  have HQ:=Lib.hid hq
  have HOK:=Lib.hid hok
  have HL:=Lib.hid hl
  have HKD:=Lib.hid hkd
  obtain ⟨ce0,hce0⟩:=the_cell seen (i)
  have CE0:=Lib.hid hce0
  clear hst hs hg hbase hl hi hq hok hkd hce0
  go_enter Tryz.func63,Tryz.ntmps63
  go_upto_region 1 with fail
  try rw [hW0]
  clear hW0
  refine wp_SK (D:=DP w g q v base i p l seen (oMint q) Rp.enc) 9 10 11 (seen[i]?=some ce0∧ce0.is=true) (i + 1) #[.int .u64 ce0.A,.int .u64 ce0.B,.int .u8 1,.int .u32 q.wh,.int .u32 0,.bool true] [pw g 0,pw g 0,pw g 7,pw g 0,pw g 0,pw g 0,pw g 1,some (.int .u32 q.wh,True),some (.agg #[.int .u8 1,.int .u32 q.wh,.int .u32 0],True),some (.agg (thing ce0.A ce0.B 1 q.wh 0 true),True),none,none] SS.out (fun vals=>?_) (fun vals W1 hB hfin hall=>?_) (ea 10 rfl)
  · simp only [ObD,Act.put,qA,qC,qZ]
    refine ⟨?_,?_,?_,?_,?_,?_,?_,?_,?o0_8,?o0_9,?o0_10,?o0_11,trivial⟩
    all_goals (intro L W hL hk hC hw;have f:=deps hw rfl rfl;simp only [depF,vsP,pw,qS,qD,and_true,true_and] at f)
    case o0_8=>have CL:=Lib.hid (purse_any q.wh W);clear hL hC hk hw;refine spD rfl ?_;go_simp;(with_reducible refine CL.out.mono ?_);rintro e w8 ⟨rfl,h2⟩;first | exact sq h2 rfl ⟨rfl,trivial⟩ | exact ⟨_,rfl,sq h2 rfl ⟨rfl,trivial⟩⟩
    case o0_9=>
      have CL:=Lib.hid (there_K SS.out (hC.pre hk) BEG.out (by have:=HI.out;omega) CE0.out 1 q.wh 0);clear hL hC hk hw;refine spD rfl ?_;go_simp;(with_reducible refine CL.out.mono ?_);rintro e w8 (⟨h,rfl,h2⟩ | ⟨h,h3,rfl,h2⟩ | ⟨rfl,hf,H⟩)
      · exact ⟨_,rfl,Did.miss (by unfold oMint;simp only [runOm_bind,run_there_no h]) h2⟩
      · exact ⟨_,rfl,Did.err (by unfold oMint;simp only [runOm_bind,run_there_not h h3]) h2⟩
      · first | exact kv hf H rfl ⟨rfl,trivial⟩ | exact ⟨_,rfl,kv hf H rfl ⟨rfl,trivial⟩⟩
    case o0_10=>have ZZ:=hC.fr.size;clear hL hC hk hw;refine spD rfl ?_;go_simp;exact am ZZ
    case o0_11=>obtain ⟨gt,C,fa,hgt,bx0,hc⟩:=Fw.geta (hw ⟨10,.data⟩ (by simp) rfl) (by decide);obtain ⟨c0,c1,c2,c3,c4,c5,rfl⟩:=arr6 hc;have q:=six_cells bx0;have BXX:=Lib.hid bx0;have FA:=Lib.hid fa;clear bx0 hc;unfold thing at f;clear hL hC hk hw;refine spD rfl ?_;go_simp;exact sm SS.out BEG.out BXX.out hgt FA.out
    all_goals (have c:=kn7 hC;clear hL hC hk hw;refine spD rfl ?_;go_simp;first | exact sv rfl ⟨rfl,trivial⟩ | exact ⟨_,rfl,sv rfl ⟨rfl,trivial⟩⟩)
  have S0:=Lib.hid hB.1
  simp only [allF,vsP,pw,true_and,and_true,Nat.reduceAdd] at hall
  obtain ⟨gt0,fa,hgt,bx⟩:=hfin
  simp only [TL,Act.put,qA,qC,qZ,hall,fa]
  replace SS:=Lib.hid (SS.out.push BEG.out hB.st SS.out.lt hgt bx)
  clear hall vals hB fa hgt bx
  have y0:W1.cell? ⟨g,0,none⟩=some (.int .u8 q.kd):=SS.out.kn.c0
  have dk:(q.kd == 2)=false:=by have:=HKD.out;simpa using this
  go_upto_region 4 with fail
  clear dk y0
  refine wp_S (D:=DP w g q v base i p l seen (oMint q) Rp.enc) 11 12 13 (SB True False w g q v base p (i + 1) p l [.box gt0 #[.int .u64 (ce0.A - q.n),.int .u64 ce0.B,.int .u8 1,.int .u32 q.wh,.int .u32 0,.bool true] 130,.box w.heap.size #[.int .u16 0,.int .u64 0,.int .u64 0,.int .u64 0] 35]) [some (.pointer (some ⟨gt0,0,none⟩),True),some (.pointer (some ⟨gt0,0,none⟩),True),some (.int .u64 ce0.A,True),pw g 0,pw g 0,pw g 0,pw g 5,some (.int .u64 q.n,True),some (.int .u64 (ce0.A - q.n),Ls ce0.A q.n),some (.pointer (some ⟨gt0,0,none⟩),True),some (.pointer (some ⟨gt0,0,none⟩),True),some (undef,True)] SS.out (fun vals=>?_) (fun vals W2 hB hall=>?_)
  · simp only [ObD,Act.put,qA,qC,qZ]
    refine ⟨?_,?_,?o1_2,?_,?_,?_,?_,?_,?o1_8,?_,?_,?o1_11,trivial⟩
    all_goals (intro L W hL hk hC hw;have f:=deps hw rfl rfl;simp only [depF,vsP,pw,qS,qD,and_true,true_and] at f)
    case' o1_2=>have k0:W.cell? ⟨gt0,0,none⟩=some (.int .u64 ce0.A):=(hC.pre (hL.not_yet hk 11 16 (by decide +kernel))).bx.1.out.cell 0
    case o1_8=>
      have CL:=Lib.hid (less_C (A_ok HOK.out S0.out.1) HQ.out.n hC SS.out BEG.out);clear hL hC hk hw;refine spD rfl ?_;go_simp;(with_reducible refine CL.out.mono ?_)
      rintro e w8 (⟨h,rfl,h2⟩ | ⟨⟨h,h3⟩,rfl,h2⟩ | ⟨h1,rfl,h2⟩)
      · exact ⟨_,rfl,Did.err (by unfold oMint;simp only [runOm_bind,run_there S0.out.1 S0.out.2,if_neg HKD.out,run_less_great h]) h2⟩
      · exact ⟨_,rfl,Did.err (by unfold oMint;simp only [runOm_bind,run_there S0.out.1 S0.out.2,if_neg HKD.out,run_less_low h h3]) h2⟩
      · first | exact sq h2 rfl ⟨rfl,h1⟩ | exact ⟨_,rfl,sq h2 rfl ⟨rfl,h1⟩⟩
    case o1_11=>have PRE:=hC.pre hk;have q0:W.cell? ⟨gt0,0,none⟩=some (.int .u64 ce0.A):=PRE.bx.1.out.cell 0;have r0:=PRE.bx.1.out.frozen 0;have P:=Lib.hid PRE;clear PRE;clear hL hC hk hw;refine spD rfl ?_;go_simp;exact ks (ksB SS.out P.out BEG.out 0 rfl) rfl ⟨rfl,trivial⟩
    all_goals (have c:=kn7 hC;clear hL hC hk hw;refine spD rfl ?_;go_simp;first | exact sv rfl ⟨rfl,trivial⟩ | exact ⟨_,rfl,sv rfl ⟨rfl,trivial⟩⟩)
  have C2:Hid (Ls ce0.A q.n):=Lib.hid (vsP_c (hall.get 8))
  simp only [allF,vsP,pw,true_and,and_true,Nat.reduceAdd] at hall
  simp only [TL,Act.put,qA,qC,qZ,hall]
  replace SS:=Lib.hid hB.st
  clear hall vals hB
  obtain ⟨⟨y0,y1,y2,y3,y4,y5⟩,-⟩:=six_cells SS.out.bx.1.out
  have CALL:=Lib.hid (amount_S SS.out BEG.out (by have:=HL.out;(try simp only [List.length_append,List.length_cons,List.length_nil]);omega) 1 q.wh 0 (ce0.A - q.n) (show _=l++[amt 1 q.wh 0 (ce0.A - q.n)] by simp))
  go_wp2_with fail
  (with_reducible refine CALL.out.mono ?_)
  rintro e W3 ⟨rfl,hf,p3,hs⟩
  replace SS:=Lib.hid hs
  clear CALL hf hs y0 y1 y2 y3 y4 y5
  have y0:W3.cell? ⟨gt0,0,none⟩=some (.int .u64 (ce0.A - q.n)):=SS.out.bx.1.out.cell 0
  obtain ⟨⟨z0,z1,z2,z3⟩,x0,x1,x2,x3⟩:=four_cells SS.out.bx.2.1.out
  go_wp2
  generalize hW:(World.setCell _ (⟨w.heap.size,3,none⟩:Addr) _)=WZ
  have b9:Box WZ w.heap.size #[.int .u16 0,.int .u64 (ce0.A - q.n),.int .u64 0,.int .u64 0] 35:=by
    rw [← hW]
    exact four_box SS.out.bx.2.1.out
  have F9:Hid (Fr (fun x=>x=w.heap.size) W3 WZ):=Lib.hid (by
    rw [← hW]
    exact four_fr)
  obtain ⟨⟨v0,v1,v2,v3⟩,-⟩:=four_cells b9
  clear hW b9 z0 z1 z2 z3 x0 x1 x2 x3 y0
  refine bodyPost_ret (v:=.agg #[.int .u16 0,.int .u64 (ce0.A - q.n),.int .u64 0,.int .u64 0]) (by simp [results,Tryz.results63,go_sem,v0,v1,v2,v3];try rfl) rfl ?_
  refine (SS.out.wr BEG.out 1 rfl F9.out).did (y:=(⟨ce0.A - q.n,0,0⟩,l++[amt 1 q.wh 0 (ce0.A - q.n)])) ?_ rfl
  unfold oMint
  simp only [runOm_bind,runOm_pure,run_there S0.out.1 S0.out.2,if_neg HKD.out,run_less C2.out.1 C2.out.2,oAmount,run_put]
  try rfl
theorem mint_all (w:World) (g:Nat) (q:Ot) (v:Value) (base i:Nat) (p:Value) (l:List Pu) (seen:List Ce) (hst:St w g q v base i p l) (hs:SeenAt w g v seen) (hg:g < base) (hbase:base≤w.heap.size) (hl:l.length≤800) (hi:i≤800000) (hq:q.Ok) (hok:∀ c∈seen,c.Ok) :
    Calls Tryz.prog 63 #[.pointer (some ⟨g,0,none⟩)] w (Did w g q v base i p l seen (oMint q) Rp.enc):=by
  by_cases h:q.kd=2
  · exact mint_y w g q v base i p l seen hst hs hg hbase hl hi hq hok h
  · exact mint_n w g q v base i p l seen hst hs hg hbase hl hi hq hok h
theorem create_y (w:World) (g:Nat) (q:Ot) (v:Value) (base i:Nat) (p:Value) (l:List Pu) (seen:List Ce) (hst:St w g q v base i p l) (hs:SeenAt w g v seen) (hg:g < base) (hbase:base≤w.heap.size) (hl:l.length≤800) (hi:i≤800000) (hq:q.Ok) (hok:∀ c∈seen,c.Ok) (hkd:q.kd=4) :
    Calls Tryz.prog 64 #[.pointer (some ⟨g,0,none⟩)] w (Did w g q v base i p l seen (oCreate q) Rp.enc):=by
  have BEG:=Lib.hid (Begin.mk hs hg hbase hq hok (fun x hx=>hst.own.lt x hx))
  obtain ⟨W0,hW0⟩:∃ W0,w.alloc (.cells #[.int .u16 0,.int .u64 0,.int .u64 0,.int .u64 0] 35)=W0:=⟨_,rfl⟩
  have SS:Hid (ST w g q v base p i p l [.box w.heap.size #[.int .u16 0,.int .u64 0,.int .u64 0,.int .u64 0] 35] W0):=Lib.hid (by rw [← hW0];exact ST.start hst BEG.out _ _)
  have HI:=Lib.hid hi
  have HQ:=Lib.hid hq
  have HOK:=Lib.hid hok
  have HL:=Lib.hid hl
  have HKD:=Lib.hid hkd
  obtain ⟨ce0,hce0⟩:=the_cell seen (i)
  have CE0:=Lib.hid hce0
  obtain ⟨ce1,hce1⟩:=the_cell seen (i + 1)
  have CE1:=Lib.hid hce1
  clear hst hs hg hbase hl hi hq hok hkd hce0 hce1
  go_enter Tryz.func64,Tryz.ntmps64
  go_upto_region 1 with fail
  try rw [hW0]
  clear hW0
  refine wp_SA (D:=DP w g q v base i p l seen (oCreate q) Rp.enc) 9 10 11 (seen[i]?=some ce0∧ce0.is=true) False (i + 1) l [pw g 0,pw g 0,pw g 7,pw g 0,pw g 0,pw g 0,pw g 1,some (.int .u32 q.wh,True),some (.agg #[.int .u8 1,.int .u32 q.wh,.int .u32 0],True),some (.agg (thing ce0.A ce0.B 1 q.wh 0 true),True)] SS.out (fun vals=>?_) (fun vals W1 hB hall=>?_)
  · simp only [ObD,Act.put,qA,qC,qZ]
    refine ⟨?_,?_,?_,?_,?_,?_,?_,?_,?o0_8,?o0_9,trivial⟩
    all_goals (intro L W hL hk hC hw;have f:=deps hw rfl rfl;simp only [depF,vsP,pw,qS,qD,and_true,true_and] at f)
    case o0_8=>have CL:=Lib.hid (purse_any q.wh W);clear hL hC hk hw;refine spD rfl ?_;go_simp;(with_reducible refine CL.out.mono ?_);rintro e w8 ⟨rfl,h2⟩;first | exact sq h2 rfl ⟨rfl,trivial⟩ | exact ⟨_,rfl,sq h2 rfl ⟨rfl,trivial⟩⟩
    case o0_9=>
      have CL:=Lib.hid (there_K SS.out (hC.pre hk) BEG.out (by have:=HI.out;omega) CE0.out 1 q.wh 0);clear hL hC hk hw;refine spD rfl ?_;go_simp;(with_reducible refine CL.out.mono ?_);rintro e w8 (⟨h,rfl,h2⟩ | ⟨h,h3,rfl,h2⟩ | ⟨rfl,hf,H⟩)
      · exact ⟨_,rfl,Did.miss (by unfold oCreate;simp only [runOm_bind,run_there_no h]) h2⟩
      · exact ⟨_,rfl,Did.err (by unfold oCreate;simp only [runOm_bind,run_there_not h h3]) h2⟩
      · first | exact kv hf H rfl ⟨rfl,trivial⟩ | exact ⟨_,rfl,kv hf H rfl ⟨rfl,trivial⟩⟩
    all_goals (have c:=kn7 hC;clear hL hC hk hw;refine spD rfl ?_;go_simp;first | exact sv rfl ⟨rfl,trivial⟩ | exact ⟨_,rfl,sv rfl ⟨rfl,trivial⟩⟩)
  have S0:=Lib.hid hB.1
  simp only [allF,vsP,pw,true_and,and_true,Nat.reduceAdd] at hall
  simp only [TL,Act.put,qA,qC,qZ,hall]
  replace SS:=Lib.hid hB.st
  clear hall vals hB
  go_upto_region 2 with fail
  refine wp_SK (D:=DP w g q v base i p l seen (oCreate q) Rp.enc) 14 15 16 (seen[i + 1]?=some ce1) (i + 1 + 1) #[.int .u64 ce1.vA,.int .u64 ce1.vB,.int .u8 3,.int .u32 q.wh,.int .u32 q.wt,.bool ce1.is] [pw g 0,pw g 0,pw g 7,pw g 0,pw g 0,pw g 0,pw g 1,some (.int .u32 q.wh,True),pw g 0,pw g 0,pw g 0,pw g 3,some (.int .u32 q.wt,True),some (.agg #[.int .u8 3,.int .u32 q.wh,.int .u32 q.wt],True),some (.agg (thing ce1.vA ce1.vB 3 q.wh q.wt ce1.is),True),none,none] SS.out (fun vals=>?_) (fun vals W2 hB hfin hall=>?_) (ea 15 rfl)
  · simp only [ObD,Act.put,qA,qC,qZ]
    refine ⟨?_,?_,?_,?_,?_,?_,?_,?_,?_,?_,?_,?_,?_,?o1_13,?o1_14,?o1_15,?o1_16,trivial⟩
    all_goals (intro L W hL hk hC hw;have f:=deps hw rfl rfl;simp only [depF,vsP,pw,qS,qD,and_true,true_and] at f)
    case o1_13=>have CL:=Lib.hid (stack_any q.wh q.wt W);clear hL hC hk hw;refine spD rfl ?_;go_simp;(with_reducible refine CL.out.mono ?_);rintro e w8 ⟨rfl,h2⟩;first | exact sq h2 rfl ⟨rfl,trivial⟩ | exact ⟨_,rfl,sq h2 rfl ⟨rfl,trivial⟩⟩
    case o1_14=>
      have CL:=Lib.hid (look_K SS.out (hC.pre hk) BEG.out (by have:=HI.out;omega) CE1.out 3 q.wh q.wt);clear hL hC hk hw;refine spD rfl ?_;go_simp;(with_reducible refine CL.out.mono ?_);rintro e w8 (⟨h,rfl,h2⟩ | ⟨h1,rfl,hf,H⟩)
      · exact ⟨_,rfl,Did.miss (by unfold oCreate;simp only [runOm_bind,run_there S0.out.1 S0.out.2,run_look_no h]) h2⟩
      · first | exact kv hf H rfl ⟨rfl,trivial⟩ | exact ⟨_,rfl,kv hf H rfl ⟨rfl,trivial⟩⟩
    case o1_15=>have ZZ:=hC.fr.size;clear hL hC hk hw;refine spD rfl ?_;go_simp;exact am ZZ
    case o1_16=>obtain ⟨gt,C,fa,hgt,bx0,hc⟩:=Fw.geta (hw ⟨15,.data⟩ (by simp) rfl) (by decide);obtain ⟨c0,c1,c2,c3,c4,c5,rfl⟩:=arr6 hc;have q:=six_cells bx0;have BXX:=Lib.hid bx0;have FA:=Lib.hid fa;clear bx0 hc;unfold thing at f;clear hL hC hk hw;refine spD rfl ?_;go_simp;exact sm SS.out BEG.out BXX.out hgt FA.out
    all_goals (have c:=kn7 hC;clear hL hC hk hw;refine spD rfl ?_;go_simp;first | exact sv rfl ⟨rfl,trivial⟩ | exact ⟨_,rfl,sv rfl ⟨rfl,trivial⟩⟩)
  have S1:=Lib.hid hB.1
  simp only [allF,vsP,pw,true_and,and_true,Nat.reduceAdd] at hall
  obtain ⟨gt0,fa,hgt,bx⟩:=hfin
  simp only [TL,Act.put,qA,qC,qZ,hall,fa]
  replace SS:=Lib.hid (SS.out.push BEG.out hB.st SS.out.lt hgt bx)
  clear hall vals hB fa hgt bx
  have y0:W2.cell? ⟨g,0,none⟩=some (.int .u8 q.kd):=SS.out.kn.c0
  have dk:(q.kd == 4)=true:=by have:=HKD.out;simpa using this
  go_upto_region 4 with fail
  clear dk y0
  refine wp_S (D:=DP w g q v base i p l seen (oCreate q) Rp.enc) 11 12 13 (SB True False w g q v base p (i + 1 + 1) p l [.box gt0 #[.int .u64 (ce1.vA + q.n),.int .u64 ce1.vB,.int .u8 3,.int .u32 q.wh,.int .u32 q.wt,.bool ce1.is] 130,.box w.heap.size #[.int .u16 0,.int .u64 0,.int .u64 0,.int .u64 0] 35]) [some (.pointer (some ⟨gt0,0,none⟩),True),some (.pointer (some ⟨gt0,0,none⟩),True),some (.int .u64 ce1.vA,True),pw g 0,pw g 0,pw g 0,pw g 5,some (.int .u64 q.n,True),some (.int .u64 (ce1.vA + q.n),Mr ce1.vA q.n),some (.pointer (some ⟨gt0,0,none⟩),True),some (.pointer (some ⟨gt0,0,none⟩),True),some (undef,True)] SS.out (fun vals=>?_) (fun vals W3 hB hall=>?_)
  · simp only [ObD,Act.put,qA,qC,qZ]
    refine ⟨?_,?_,?o2_2,?_,?_,?_,?_,?_,?o2_8,?_,?_,?o2_11,trivial⟩
    all_goals (intro L W hL hk hC hw;have f:=deps hw rfl rfl;simp only [depF,vsP,pw,qS,qD,and_true,true_and] at f)
    case' o2_2=>have k0:W.cell? ⟨gt0,0,none⟩=some (.int .u64 ce1.vA):=(hC.pre (hL.not_yet hk 11 16 (by decide +kernel))).bx.1.out.cell 0
    case o2_8=>
      have CL:=Lib.hid (more_C (vA_ok HOK.out S1.out) HQ.out.n hC SS.out BEG.out);clear hL hC hk hw;refine spD rfl ?_;go_simp;(with_reducible refine CL.out.mono ?_)
      rintro e w8 (⟨h,rfl,h2⟩ | ⟨h1,rfl,h2⟩)
      · exact ⟨_,rfl,Did.err (by unfold oCreate;simp only [runOm_bind,run_there S0.out.1 S0.out.2,run_look S1.out,if_pos HKD.out,run_more_no h]) h2⟩
      · first | exact sq h2 rfl ⟨rfl,h1⟩ | exact ⟨_,rfl,sq h2 rfl ⟨rfl,h1⟩⟩
    case o2_11=>have PRE:=hC.pre hk;have q0:W.cell? ⟨gt0,0,none⟩=some (.int .u64 ce1.vA):=PRE.bx.1.out.cell 0;have r0:=PRE.bx.1.out.frozen 0;have P:=Lib.hid PRE;clear PRE;clear hL hC hk hw;refine spD rfl ?_;go_simp;exact ks (ksB SS.out P.out BEG.out 0 rfl) rfl ⟨rfl,trivial⟩
    all_goals (have c:=kn7 hC;clear hL hC hk hw;refine spD rfl ?_;go_simp;first | exact sv rfl ⟨rfl,trivial⟩ | exact ⟨_,rfl,sv rfl ⟨rfl,trivial⟩⟩)
  have C3:Hid (Mr ce1.vA q.n):=Lib.hid (vsP_c (hall.get 8))
  simp only [allF,vsP,pw,true_and,and_true,Nat.reduceAdd] at hall
  simp only [TL,Act.put,qA,qC,qZ,hall]
  replace SS:=Lib.hid hB.st
  clear hall vals hB
  obtain ⟨⟨y0,y1,y2,y3,y4,y5⟩,-⟩:=six_cells SS.out.bx.1.out
  have CALL:=Lib.hid (amount_S SS.out BEG.out (by have:=HL.out;(try simp only [List.length_append,List.length_cons,List.length_nil]);omega) 3 q.wh q.wt (ce1.vA + q.n) (show _=l++[amt 3 q.wh q.wt (ce1.vA + q.n)] by simp))
  go_wp2_with fail
  (with_reducible refine CALL.out.mono ?_)
  rintro e W4 ⟨rfl,hf,p4,hs⟩
  replace SS:=Lib.hid hs
  clear CALL hf hs y0 y1 y2 y3 y4 y5
  have y0:W4.cell? ⟨gt0,0,none⟩=some (.int .u64 (ce1.vA + q.n)):=SS.out.bx.1.out.cell 0
  obtain ⟨⟨z0,z1,z2,z3⟩,x0,x1,x2,x3⟩:=four_cells SS.out.bx.2.1.out
  go_wp2
  generalize hW:(World.setCell _ (⟨w.heap.size,3,none⟩:Addr) _)=WZ
  have b9:Box WZ w.heap.size #[.int .u16 0,.int .u64 (ce1.vA + q.n),.int .u64 0,.int .u64 0] 35:=by
    rw [← hW]
    exact four_box SS.out.bx.2.1.out
  have F9:Hid (Fr (fun x=>x=w.heap.size) W4 WZ):=Lib.hid (by
    rw [← hW]
    exact four_fr)
  obtain ⟨⟨v0,v1,v2,v3⟩,-⟩:=four_cells b9
  clear hW b9 z0 z1 z2 z3 x0 x1 x2 x3 y0
  refine bodyPost_ret (v:=.agg #[.int .u16 0,.int .u64 (ce1.vA + q.n),.int .u64 0,.int .u64 0]) (by simp [results,Tryz.results64,go_sem,v0,v1,v2,v3];try rfl) rfl ?_
  refine (SS.out.wr BEG.out 1 rfl F9.out).did (y:=(⟨ce1.vA + q.n,0,0⟩,l++[amt 3 q.wh q.wt (ce1.vA + q.n)])) ?_ rfl
  unfold oCreate
  simp only [runOm_bind,runOm_pure,run_there S0.out.1 S0.out.2,run_look S1.out,if_pos HKD.out,run_more C3.out,oAmount,run_put]
  try rfl
theorem create_n (w:World) (g:Nat) (q:Ot) (v:Value) (base i:Nat) (p:Value) (l:List Pu) (seen:List Ce) (hst:St w g q v base i p l) (hs:SeenAt w g v seen) (hg:g < base) (hbase:base≤w.heap.size) (hl:l.length≤800) (hi:i≤800000) (hq:q.Ok) (hok:∀ c∈seen,c.Ok) (hkd:q.kd≠4) :
    Calls Tryz.prog 64 #[.pointer (some ⟨g,0,none⟩)] w (Did w g q v base i p l seen (oCreate q) Rp.enc):=by
  have BEG:=Lib.hid (Begin.mk hs hg hbase hq hok (fun x hx=>hst.own.lt x hx))
  obtain ⟨W0,hW0⟩:∃ W0,w.alloc (.cells #[.int .u16 0,.int .u64 0,.int .u64 0,.int .u64 0] 35)=W0:=⟨_,rfl⟩
  have SS:Hid (ST w g q v base p i p l [.box w.heap.size #[.int .u16 0,.int .u64 0,.int .u64 0,.int .u64 0] 35] W0):=Lib.hid (by rw [← hW0];exact ST.start hst BEG.out _ _)
  have HI:=Lib.hid hi
  have HQ:=Lib.hid hq
  have HOK:=Lib.hid hok
  have HL:=Lib.hid hl
  have HKD:=Lib.hid hkd
  obtain ⟨ce0,hce0⟩:=the_cell seen (i)
  have CE0:=Lib.hid hce0
  obtain ⟨ce1,hce1⟩:=the_cell seen (i + 1)
  have CE1:=Lib.hid hce1
  clear hst hs hg hbase hl hi hq hok hkd hce0 hce1
  go_enter Tryz.func64,Tryz.ntmps64
  go_upto_region 1 with fail
  try rw [hW0]
  clear hW0
  refine wp_SA (D:=DP w g q v base i p l seen (oCreate q) Rp.enc) 9 10 11 (seen[i]?=some ce0∧ce0.is=true) False (i + 1) l [pw g 0,pw g 0,pw g 7,pw g 0,pw g 0,pw g 0,pw g 1,some (.int .u32 q.wh,True),some (.agg #[.int .u8 1,.int .u32 q.wh,.int .u32 0],True),some (.agg (thing ce0.A ce0.B 1 q.wh 0 true),True)] SS.out (fun vals=>?_) (fun vals W1 hB hall=>?_)
  · simp only [ObD,Act.put,qA,qC,qZ]
    refine ⟨?_,?_,?_,?_,?_,?_,?_,?_,?o0_8,?o0_9,trivial⟩
    all_goals (intro L W hL hk hC hw;have f:=deps hw rfl rfl;simp only [depF,vsP,pw,qS,qD,and_true,true_and] at f)
    case o0_8=>have CL:=Lib.hid (purse_any q.wh W);clear hL hC hk hw;refine spD rfl ?_;go_simp;(with_reducible refine CL.out.mono ?_);rintro e w8 ⟨rfl,h2⟩;first | exact sq h2 rfl ⟨rfl,trivial⟩ | exact ⟨_,rfl,sq h2 rfl ⟨rfl,trivial⟩⟩
    case o0_9=>
      have CL:=Lib.hid (there_K SS.out (hC.pre hk) BEG.out (by have:=HI.out;omega) CE0.out 1 q.wh 0);clear hL hC hk hw;refine spD rfl ?_;go_simp;(with_reducible refine CL.out.mono ?_);rintro e w8 (⟨h,rfl,h2⟩ | ⟨h,h3,rfl,h2⟩ | ⟨rfl,hf,H⟩)
      · exact ⟨_,rfl,Did.miss (by unfold oCreate;simp only [runOm_bind,run_there_no h]) h2⟩
      · exact ⟨_,rfl,Did.err (by unfold oCreate;simp only [runOm_bind,run_there_not h h3]) h2⟩
      · first | exact kv hf H rfl ⟨rfl,trivial⟩ | exact ⟨_,rfl,kv hf H rfl ⟨rfl,trivial⟩⟩
    all_goals (have c:=kn7 hC;clear hL hC hk hw;refine spD rfl ?_;go_simp;first | exact sv rfl ⟨rfl,trivial⟩ | exact ⟨_,rfl,sv rfl ⟨rfl,trivial⟩⟩)
  have S0:=Lib.hid hB.1
  simp only [allF,vsP,pw,true_and,and_true,Nat.reduceAdd] at hall
  simp only [TL,Act.put,qA,qC,qZ,hall]
  replace SS:=Lib.hid hB.st
  clear hall vals hB
  go_upto_region 2 with fail
  refine wp_SK (D:=DP w g q v base i p l seen (oCreate q) Rp.enc) 14 15 16 (seen[i + 1]?=some ce1) (i + 1 + 1) #[.int .u64 ce1.vA,.int .u64 ce1.vB,.int .u8 3,.int .u32 q.wh,.int .u32 q.wt,.bool ce1.is] [pw g 0,pw g 0,pw g 7,pw g 0,pw g 0,pw g 0,pw g 1,some (.int .u32 q.wh,True),pw g 0,pw g 0,pw g 0,pw g 3,some (.int .u32 q.wt,True),some (.agg #[.int .u8 3,.int .u32 q.wh,.int .u32 q.wt],True),some (.agg (thing ce1.vA ce1.vB 3 q.wh q.wt ce1.is),True),none,none] SS.out (fun vals=>?_) (fun vals W2 hB hfin hall=>?_) (ea 15 rfl)
  · simp only [ObD,Act.put,qA,qC,qZ]
    refine ⟨?_,?_,?_,?_,?_,?_,?_,?_,?_,?_,?_,?_,?_,?o1_13,?o1_14,?o1_15,?o1_16,trivial⟩
    all_goals (intro L W hL hk hC hw;have f:=deps hw rfl rfl;simp only [depF,vsP,pw,qS,qD,and_true,true_and] at f)
    case o1_13=>have CL:=Lib.hid (stack_any q.wh q.wt W);clear hL hC hk hw;refine spD rfl ?_;go_simp;(with_reducible refine CL.out.mono ?_);rintro e w8 ⟨rfl,h2⟩;first | exact sq h2 rfl ⟨rfl,trivial⟩ | exact ⟨_,rfl,sq h2 rfl ⟨rfl,trivial⟩⟩
    case o1_14=>
      have CL:=Lib.hid (look_K SS.out (hC.pre hk) BEG.out (by have:=HI.out;omega) CE1.out 3 q.wh q.wt);clear hL hC hk hw;refine spD rfl ?_;go_simp;(with_reducible refine CL.out.mono ?_);rintro e w8 (⟨h,rfl,h2⟩ | ⟨h1,rfl,hf,H⟩)
      · exact ⟨_,rfl,Did.miss (by unfold oCreate;simp only [runOm_bind,run_there S0.out.1 S0.out.2,run_look_no h]) h2⟩
      · first | exact kv hf H rfl ⟨rfl,trivial⟩ | exact ⟨_,rfl,kv hf H rfl ⟨rfl,trivial⟩⟩
    case o1_15=>have ZZ:=hC.fr.size;clear hL hC hk hw;refine spD rfl ?_;go_simp;exact am ZZ
    case o1_16=>obtain ⟨gt,C,fa,hgt,bx0,hc⟩:=Fw.geta (hw ⟨15,.data⟩ (by simp) rfl) (by decide);obtain ⟨c0,c1,c2,c3,c4,c5,rfl⟩:=arr6 hc;have q:=six_cells bx0;have BXX:=Lib.hid bx0;have FA:=Lib.hid fa;clear bx0 hc;unfold thing at f;clear hL hC hk hw;refine spD rfl ?_;go_simp;exact sm SS.out BEG.out BXX.out hgt FA.out
    all_goals (have c:=kn7 hC;clear hL hC hk hw;refine spD rfl ?_;go_simp;first | exact sv rfl ⟨rfl,trivial⟩ | exact ⟨_,rfl,sv rfl ⟨rfl,trivial⟩⟩)
  have S1:=Lib.hid hB.1
  simp only [allF,vsP,pw,true_and,and_true,Nat.reduceAdd] at hall
  obtain ⟨gt0,fa,hgt,bx⟩:=hfin
  simp only [TL,Act.put,qA,qC,qZ,hall,fa]
  replace SS:=Lib.hid (SS.out.push BEG.out hB.st SS.out.lt hgt bx)
  clear hall vals hB fa hgt bx
  have y0:W2.cell? ⟨g,0,none⟩=some (.int .u8 q.kd):=SS.out.kn.c0
  have dk:(q.kd == 4)=false:=by have:=HKD.out;simpa using this
  go_upto_region 5 with fail
  clear dk y0
  refine wp_S (D:=DP w g q v base i p l seen (oCreate q) Rp.enc) 11 12 13 (SB True False w g q v base p (i + 1 + 1) p l [.box gt0 #[.int .u64 (ce1.vA - q.n),.int .u64 ce1.vB,.int .u8 3,.int .u32 q.wh,.int .u32 q.wt,.bool ce1.is] 130,.box w.heap.size #[.int .u16 0,.int .u64 0,.int .u64 0,.int .u64 0] 35]) [some (.pointer (some ⟨gt0,0,none⟩),True),some (.pointer (some ⟨gt0,0,none⟩),True),some (.int .u64 ce1.vA,True),pw g 0,pw g 0,pw g 0,pw g 5,some (.int .u64 q.n,True),some (.int .u64 (ce1.vA - q.n),Ls ce1.vA q.n),some (.pointer (some ⟨gt0,0,none⟩),True),some (.pointer (some ⟨gt0,0,none⟩),True),some (undef,True)] SS.out (fun vals=>?_) (fun vals W3 hB hall=>?_)
  · simp only [ObD,Act.put,qA,qC,qZ]
    refine ⟨?_,?_,?o2_2,?_,?_,?_,?_,?_,?o2_8,?_,?_,?o2_11,trivial⟩
    all_goals (intro L W hL hk hC hw;have f:=deps hw rfl rfl;simp only [depF,vsP,pw,qS,qD,and_true,true_and] at f)
    case' o2_2=>have k0:W.cell? ⟨gt0,0,none⟩=some (.int .u64 ce1.vA):=(hC.pre (hL.not_yet hk 11 16 (by decide +kernel))).bx.1.out.cell 0
    case o2_8=>
      have CL:=Lib.hid (less_C (vA_ok HOK.out S1.out) HQ.out.n hC SS.out BEG.out);clear hL hC hk hw;refine spD rfl ?_;go_simp;(with_reducible refine CL.out.mono ?_)
      rintro e w8 (⟨h,rfl,h2⟩ | ⟨⟨h,h3⟩,rfl,h2⟩ | ⟨h1,rfl,h2⟩)
      · exact ⟨_,rfl,Did.err (by unfold oCreate;simp only [runOm_bind,run_there S0.out.1 S0.out.2,run_look S1.out,if_neg HKD.out,run_less_great h]) h2⟩
      · exact ⟨_,rfl,Did.err (by unfold oCreate;simp only [runOm_bind,run_there S0.out.1 S0.out.2,run_look S1.out,if_neg HKD.out,run_less_low h h3]) h2⟩
      · first | exact sq h2 rfl ⟨rfl,h1⟩ | exact ⟨_,rfl,sq h2 rfl ⟨rfl,h1⟩⟩
    case o2_11=>have PRE:=hC.pre hk;have q0:W.cell? ⟨gt0,0,none⟩=some (.int .u64 ce1.vA):=PRE.bx.1.out.cell 0;have r0:=PRE.bx.1.out.frozen 0;have P:=Lib.hid PRE;clear PRE;clear hL hC hk hw;refine spD rfl ?_;go_simp;exact ks (ksB SS.out P.out BEG.out 0 rfl) rfl ⟨rfl,trivial⟩
    all_goals (have c:=kn7 hC;clear hL hC hk hw;refine spD rfl ?_;go_simp;first | exact sv rfl ⟨rfl,trivial⟩ | exact ⟨_,rfl,sv rfl ⟨rfl,trivial⟩⟩)
  have C3:Hid (Ls ce1.vA q.n):=Lib.hid (vsP_c (hall.get 8))
  simp only [allF,vsP,pw,true_and,and_true,Nat.reduceAdd] at hall
  simp only [TL,Act.put,qA,qC,qZ,hall]
  replace SS:=Lib.hid hB.st
  clear hall vals hB
  obtain ⟨⟨y0,y1,y2,y3,y4,y5⟩,-⟩:=six_cells SS.out.bx.1.out
  have CALL:=Lib.hid (amount_S SS.out BEG.out (by have:=HL.out;(try simp only [List.length_append,List.length_cons,List.length_nil]);omega) 3 q.wh q.wt (ce1.vA - q.n) (show _=l++[amt 3 q.wh q.wt (ce1.vA - q.n)] by simp))
  go_wp2_with fail
  (with_reducible refine CALL.out.mono ?_)
  rintro e W4 ⟨rfl,hf,p4,hs⟩
  replace SS:=Lib.hid hs
  clear CALL hf hs y0 y1 y2 y3 y4 y5
  have y0:W4.cell? ⟨gt0,0,none⟩=some (.int .u64 (ce1.vA - q.n)):=SS.out.bx.1.out.cell 0
  obtain ⟨⟨z0,z1,z2,z3⟩,x0,x1,x2,x3⟩:=four_cells SS.out.bx.2.1.out
  go_wp2
  generalize hW:(World.setCell _ (⟨w.heap.size,3,none⟩:Addr) _)=WZ
  have b9:Box WZ w.heap.size #[.int .u16 0,.int .u64 (ce1.vA - q.n),.int .u64 0,.int .u64 0] 35:=by
    rw [← hW]
    exact four_box SS.out.bx.2.1.out
  have F9:Hid (Fr (fun x=>x=w.heap.size) W4 WZ):=Lib.hid (by
    rw [← hW]
    exact four_fr)
  obtain ⟨⟨v0,v1,v2,v3⟩,-⟩:=four_cells b9
  clear hW b9 z0 z1 z2 z3 x0 x1 x2 x3 y0
  refine bodyPost_ret (v:=.agg #[.int .u16 0,.int .u64 (ce1.vA - q.n),.int .u64 0,.int .u64 0]) (by simp [results,Tryz.results64,go_sem,v0,v1,v2,v3];try rfl) rfl ?_
  refine (SS.out.wr BEG.out 1 rfl F9.out).did (y:=(⟨ce1.vA - q.n,0,0⟩,l++[amt 3 q.wh q.wt (ce1.vA - q.n)])) ?_ rfl
  unfold oCreate
  simp only [runOm_bind,runOm_pure,run_there S0.out.1 S0.out.2,run_look S1.out,if_neg HKD.out,run_less C3.out.1 C3.out.2,oAmount,run_put]
  try rfl
theorem create_all (w:World) (g:Nat) (q:Ot) (v:Value) (base i:Nat) (p:Value) (l:List Pu) (seen:List Ce) (hst:St w g q v base i p l) (hs:SeenAt w g v seen) (hg:g < base) (hbase:base≤w.heap.size) (hl:l.length≤800) (hi:i≤800000) (hq:q.Ok) (hok:∀ c∈seen,c.Ok) :
    Calls Tryz.prog 64 #[.pointer (some ⟨g,0,none⟩)] w (Did w g q v base i p l seen (oCreate q) Rp.enc):=by
  by_cases h:q.kd=4
  · exact create_y w g q v base i p l seen hst hs hg hbase hl hi hq hok h
  · exact create_n w g q v base i p l seen hst hs hg hbase hl hi hq hok h
end Go.Proofs.YtabckmadpdchnaaGreat.Rule
namespace Go.Proofs.YtabckmadpdchnaaGreat.Rule
open Go.ChangeShapes Go.WideShapes Go.ChangeAt Go.RowKit Go.IntWalk Go.Proofs.Mem Go.Proofs.Each
theorem deposit_out_ (w:World) (g:Nat) (q:Ot) (v:Value) (base i:Nat) (p:Value) (l:List Pu) (seen:List Ce) (hst:St w g q v base i p l) (hs:SeenAt w g v seen) (hg:g < base) (hbase:base≤w.heap.size) (hl:l.length≤800) (hi:i≤800000) (hq:q.Ok) (hok:∀ c∈seen,c.Ok) (hkd:q.kd≠7) :
    Calls Tryz.prog 65 #[.pointer (some ⟨g,0,none⟩)] w (Did w g q v base i p l seen (oDeposit q) Rp.enc):=by
  have BEG:=Lib.hid (Begin.mk hs hg hbase hq hok (fun x hx=>hst.own.lt x hx))
  obtain ⟨W0,hW0⟩:∃ W0,w.alloc (.cells #[.int .u16 0,.int .u64 0,.int .u64 0,.int .u64 0] 35)=W0:=⟨_,rfl⟩
  have SS:Hid (ST w g q v base p i p l [.box w.heap.size #[.int .u16 0,.int .u64 0,.int .u64 0,.int .u64 0] 35] W0):=Lib.hid (by rw [← hW0];exact ST.start hst BEG.out _ _)
  have HI:=Lib.hid hi
  have HQ:=Lib.hid hq
  have HOK:=Lib.hid hok
  have HL:=Lib.hid hl
  have HKD:=Lib.hid hkd
  obtain ⟨ce0,hce0⟩:=the_cell seen (i)
  have CE0:=Lib.hid hce0
  obtain ⟨ce1,hce1⟩:=the_cell seen (i + 1)
  have CE1:=Lib.hid hce1
  clear hst hs hg hbase hl hi hq hok hkd hce0 hce1
  go_enter Tryz.func65,Tryz.ntmps65
  go_upto_region 1 with fail
  try rw [hW0]
  clear hW0
  refine wp_SK (D:=DP w g q v base i p l seen (oDeposit q) Rp.enc) 9 10 11 (seen[i]?=some ce0∧ce0.is=true) (i + 1) #[.int .u64 ce0.A,.int .u64 ce0.B,.int .u8 1,.int .u32 q.wh,.int .u32 0,.bool true] [pw g 0,pw g 0,pw g 7,pw g 0,pw g 0,pw g 0,pw g 1,some (.int .u32 q.wh,True),some (.agg #[.int .u8 1,.int .u32 q.wh,.int .u32 0],True),some (.agg (thing ce0.A ce0.B 1 q.wh 0 true),True),none,none] SS.out (fun vals=>?_) (fun vals W1 hB hfin hall=>?_) (ea 10 rfl)
  · simp only [ObD,Act.put,qA,qC,qZ]
    refine ⟨?_,?_,?_,?_,?_,?_,?_,?_,?o0_8,?o0_9,?o0_10,?o0_11,trivial⟩
    all_goals (intro L W hL hk hC hw;have f:=deps hw rfl rfl;simp only [depF,vsP,pw,qS,qD,and_true,true_and] at f)
    case o0_8=>have CL:=Lib.hid (purse_any q.wh W);clear hL hC hk hw;refine spD rfl ?_;go_simp;(with_reducible refine CL.out.mono ?_);rintro e w8 ⟨rfl,h2⟩;first | exact sq h2 rfl ⟨rfl,trivial⟩ | exact ⟨_,rfl,sq h2 rfl ⟨rfl,trivial⟩⟩
    case o0_9=>
      have CL:=Lib.hid (there_K SS.out (hC.pre hk) BEG.out (by have:=HI.out;omega) CE0.out 1 q.wh 0);clear hL hC hk hw;refine spD rfl ?_;go_simp;(with_reducible refine CL.out.mono ?_);rintro e w8 (⟨h,rfl,h2⟩ | ⟨h,h3,rfl,h2⟩ | ⟨rfl,hf,H⟩)
      · exact ⟨_,rfl,Did.miss (by unfold oDeposit;simp only [runOm_bind,run_there_no h]) h2⟩
      · exact ⟨_,rfl,Did.err (by unfold oDeposit;simp only [runOm_bind,run_there_not h h3]) h2⟩
      · first | exact kv hf H rfl ⟨rfl,trivial⟩ | exact ⟨_,rfl,kv hf H rfl ⟨rfl,trivial⟩⟩
    case o0_10=>have ZZ:=hC.fr.size;clear hL hC hk hw;refine spD rfl ?_;go_simp;exact am ZZ
    case o0_11=>obtain ⟨gt,C,fa,hgt,bx0,hc⟩:=Fw.geta (hw ⟨10,.data⟩ (by simp) rfl) (by decide);obtain ⟨c0,c1,c2,c3,c4,c5,rfl⟩:=arr6 hc;have q:=six_cells bx0;have BXX:=Lib.hid bx0;have FA:=Lib.hid fa;clear bx0 hc;unfold thing at f;clear hL hC hk hw;refine spD rfl ?_;go_simp;exact sm SS.out BEG.out BXX.out hgt FA.out
    all_goals (have c:=kn7 hC;clear hL hC hk hw;refine spD rfl ?_;go_simp;first | exact sv rfl ⟨rfl,trivial⟩ | exact ⟨_,rfl,sv rfl ⟨rfl,trivial⟩⟩)
  have S0:=Lib.hid hB.1
  simp only [allF,vsP,pw,true_and,and_true,Nat.reduceAdd] at hall
  obtain ⟨gt0,fa,hgt,bx⟩:=hfin
  simp only [TL,Act.put,qA,qC,qZ,hall,fa]
  replace SS:=Lib.hid (SS.out.push BEG.out hB.st SS.out.lt hgt bx)
  clear hall vals hB fa hgt bx
  go_upto_region 2 with fail
  refine wp_SK (D:=DP w g q v base i p l seen (oDeposit q) Rp.enc) 9 10 11 (seen[i + 1]?=some ce1) (i + 1 + 1) #[.int .u64 ce1.vA,.int .u64 ce1.vB,.int .u8 2,.int .u32 q.wh,.int .u32 0,.bool ce1.is] [pw g 0,pw g 0,pw g 7,pw g 0,pw g 0,pw g 0,pw g 1,some (.int .u32 q.wh,True),some (.agg #[.int .u8 2,.int .u32 q.wh,.int .u32 0],True),some (.agg (thing ce1.vA ce1.vB 2 q.wh 0 ce1.is),True),none,none] SS.out (fun vals=>?_) (fun vals W2 hB hfin hall=>?_) (ea 10 rfl)
  · simp only [ObD,Act.put,qA,qC,qZ]
    refine ⟨?_,?_,?_,?_,?_,?_,?_,?_,?o1_8,?o1_9,?o1_10,?o1_11,trivial⟩
    all_goals (intro L W hL hk hC hw;have f:=deps hw rfl rfl;simp only [depF,vsP,pw,qS,qD,and_true,true_and] at f)
    case o1_8=>have CL:=Lib.hid (bank_any q.wh W);clear hL hC hk hw;refine spD rfl ?_;go_simp;(with_reducible refine CL.out.mono ?_);rintro e w8 ⟨rfl,h2⟩;first | exact sq h2 rfl ⟨rfl,trivial⟩ | exact ⟨_,rfl,sq h2 rfl ⟨rfl,trivial⟩⟩
    case o1_9=>
      have CL:=Lib.hid (look_K SS.out (hC.pre hk) BEG.out (by have:=HI.out;omega) CE1.out 2 q.wh 0);clear hL hC hk hw;refine spD rfl ?_;go_simp;(with_reducible refine CL.out.mono ?_);rintro e w8 (⟨h,rfl,h2⟩ | ⟨h1,rfl,hf,H⟩)
      · exact ⟨_,rfl,Did.miss (by unfold oDeposit;simp only [runOm_bind,run_there S0.out.1 S0.out.2,run_look_no h]) h2⟩
      · first | exact kv hf H rfl ⟨rfl,trivial⟩ | exact ⟨_,rfl,kv hf H rfl ⟨rfl,trivial⟩⟩
    case o1_10=>have ZZ:=hC.fr.size;clear hL hC hk hw;refine spD rfl ?_;go_simp;exact am ZZ
    case o1_11=>obtain ⟨gt,C,fa,hgt,bx0,hc⟩:=Fw.geta (hw ⟨10,.data⟩ (by simp) rfl) (by decide);obtain ⟨c0,c1,c2,c3,c4,c5,rfl⟩:=arr6 hc;have q:=six_cells bx0;have BXX:=Lib.hid bx0;have FA:=Lib.hid fa;clear bx0 hc;unfold thing at f;clear hL hC hk hw;refine spD rfl ?_;go_simp;exact sm SS.out BEG.out BXX.out hgt FA.out
    all_goals (have c:=kn7 hC;clear hL hC hk hw;refine spD rfl ?_;go_simp;first | exact sv rfl ⟨rfl,trivial⟩ | exact ⟨_,rfl,sv rfl ⟨rfl,trivial⟩⟩)
  have S1:=Lib.hid hB.1
  simp only [allF,vsP,pw,true_and,and_true,Nat.reduceAdd] at hall
  obtain ⟨gt1,fa,hgt,bx⟩:=hfin
  simp only [TL,Act.put,qA,qC,qZ,hall,fa]
  replace SS:=Lib.hid (SS.out.push BEG.out hB.st SS.out.lt hgt bx)
  clear hall vals hB fa hgt bx
  have y0:W2.cell? ⟨g,0,none⟩=some (.int .u8 q.kd):=SS.out.kn.c0
  have dk:(q.kd == 7)=false:=by have:=HKD.out;simpa using this
  go_upto_region 6 with fail
  clear y0 dk
  refine wp_S (D:=DP w g q v base i p l seen (oDeposit q) Rp.enc) 15 16 17 (SB True False w g q v base p (i + 1 + 1) p l [.box gt1 #[.int .u64 ce1.vA,.int .u64 ce1.vB,.int .u8 2,.int .u32 q.wh,.int .u32 0,.bool ce1.is] 130,.box gt0 #[.int .u64 (ce0.A - q.n),.int .u64 ce0.B,.int .u8 1,.int .u32 q.wh,.int .u32 0,.bool true] 130,.box w.heap.size #[.int .u16 0,.int .u64 0,.int .u64 0,.int .u64 0] 35]) [some (.pointer (some ⟨gt0,0,none⟩),True),some (.pointer (some ⟨gt0,0,none⟩),True),some (.pointer (some ⟨gt0,0,none⟩),True),some (.pointer (some ⟨gt0,0,none⟩),True),some (.pointer (some ⟨gt0,0,none⟩),True),some (.int .u64 ce0.A,True),pw g 0,pw g 0,pw g 0,pw g 5,some (.int .u64 q.n,True),some (.int .u64 (ce0.A - q.n),Ls ce0.A q.n),some (.pointer (some ⟨gt0,0,none⟩),True),some (.pointer (some ⟨gt0,0,none⟩),True),some (.pointer (some ⟨gt0,0,none⟩),True),some (undef,True)] SS.out (fun vals=>?_) (fun vals W3 hB hall=>?_)
  · simp only [ObD,Act.put,qA,qC,qZ]
    refine ⟨?_,?_,?_,?_,?_,?o2_5,?_,?_,?_,?_,?_,?o2_11,?_,?_,?_,?o2_15,trivial⟩
    all_goals (intro L W hL hk hC hw;have f:=deps hw rfl rfl;simp only [depF,vsP,pw,qS,qD,and_true,true_and] at f)
    case' o2_5=>have k0:W.cell? ⟨gt0,0,none⟩=some (.int .u64 ce0.A):=(hC.pre (hL.not_yet hk 15 16 (by decide +kernel))).bx.2.1.out.cell 0
    case o2_11=>
      have CL:=Lib.hid (less_C (A_ok HOK.out S0.out.1) HQ.out.n hC SS.out BEG.out);clear hL hC hk hw;refine spD rfl ?_;go_simp;(with_reducible refine CL.out.mono ?_)
      rintro e w8 (⟨h,rfl,h2⟩ | ⟨⟨h,h3⟩,rfl,h2⟩ | ⟨h1,rfl,h2⟩)
      · exact ⟨_,rfl,Did.err (by unfold oDeposit;simp only [runOm_bind,run_there S0.out.1 S0.out.2,run_look S1.out,if_neg HKD.out,run_less_great h]) h2⟩
      · exact ⟨_,rfl,Did.err (by unfold oDeposit;simp only [runOm_bind,run_there S0.out.1 S0.out.2,run_look S1.out,if_neg HKD.out,run_less_low h h3]) h2⟩
      · first | exact sq h2 rfl ⟨rfl,h1⟩ | exact ⟨_,rfl,sq h2 rfl ⟨rfl,h1⟩⟩
    case o2_15=>have PRE:=hC.pre hk;have q0:W.cell? ⟨gt0,0,none⟩=some (.int .u64 ce0.A):=PRE.bx.2.1.out.cell 0;have r0:=PRE.bx.2.1.out.frozen 0;have P:=Lib.hid PRE;clear PRE;clear hL hC hk hw;refine spD rfl ?_;go_simp;exact ks (ksB SS.out P.out BEG.out 1 rfl) rfl ⟨rfl,trivial⟩
    all_goals (have c:=kn7 hC;clear hL hC hk hw;refine spD rfl ?_;go_simp;first | exact sv rfl ⟨rfl,trivial⟩ | exact ⟨_,rfl,sv rfl ⟨rfl,trivial⟩⟩)
  have C3:Hid (Ls ce0.A q.n):=Lib.hid (vsP_c (hall.get 11))
  simp only [allF,vsP,pw,true_and,and_true,Nat.reduceAdd] at hall
  simp only [TL,Act.put,qA,qC,qZ,hall]
  replace SS:=Lib.hid hB.st
  clear hall vals hB
  go_upto_region 7 with fail
  refine wp_S (D:=DP w g q v base i p l seen (oDeposit q) Rp.enc) 15 16 17 (SB True False w g q v base p (i + 1 + 1) p l [.box gt1 #[.int .u64 (ce1.vA + q.n),.int .u64 ce1.vB,.int .u8 2,.int .u32 q.wh,.int .u32 0,.bool ce1.is] 130,.box gt0 #[.int .u64 (ce0.A - q.n),.int .u64 ce0.B,.int .u8 1,.int .u32 q.wh,.int .u32 0,.bool true] 130,.box w.heap.size #[.int .u16 0,.int .u64 0,.int .u64 0,.int .u64 0] 35]) [some (.pointer (some ⟨gt1,0,none⟩),True),some (.pointer (some ⟨gt1,0,none⟩),True),some (.pointer (some ⟨gt1,0,none⟩),True),some (.pointer (some ⟨gt1,0,none⟩),True),some (.pointer (some ⟨gt1,0,none⟩),True),some (.int .u64 ce1.vA,True),pw g 0,pw g 0,pw g 0,pw g 5,some (.int .u64 q.n,True),some (.int .u64 (ce1.vA + q.n),Mr ce1.vA q.n),some (.pointer (some ⟨gt1,0,none⟩),True),some (.pointer (some ⟨gt1,0,none⟩),True),some (.pointer (some ⟨gt1,0,none⟩),True),some (undef,True)] SS.out (fun vals=>?_) (fun vals W4 hB hall=>?_)
  · simp only [ObD,Act.put,qA,qC,qZ]
    refine ⟨?_,?_,?_,?_,?_,?o3_5,?_,?_,?_,?_,?_,?o3_11,?_,?_,?_,?o3_15,trivial⟩
    all_goals (intro L W hL hk hC hw;have f:=deps hw rfl rfl;simp only [depF,vsP,pw,qS,qD,and_true,true_and] at f)
    case' o3_5=>have k0:W.cell? ⟨gt1,0,none⟩=some (.int .u64 ce1.vA):=(hC.pre (hL.not_yet hk 15 16 (by decide +kernel))).bx.1.out.cell 0
    case o3_11=>
      have CL:=Lib.hid (more_C (vA_ok HOK.out S1.out) HQ.out.n hC SS.out BEG.out);clear hL hC hk hw;refine spD rfl ?_;go_simp;(with_reducible refine CL.out.mono ?_)
      rintro e w8 (⟨h,rfl,h2⟩ | ⟨h1,rfl,h2⟩)
      · exact ⟨_,rfl,Did.err (by unfold oDeposit;simp only [runOm_bind,run_there S0.out.1 S0.out.2,run_look S1.out,if_neg HKD.out,run_less C3.out.1 C3.out.2,run_more_no h]) h2⟩
      · first | exact sq h2 rfl ⟨rfl,h1⟩ | exact ⟨_,rfl,sq h2 rfl ⟨rfl,h1⟩⟩
    case o3_15=>have PRE:=hC.pre hk;have q0:W.cell? ⟨gt1,0,none⟩=some (.int .u64 ce1.vA):=PRE.bx.1.out.cell 0;have r0:=PRE.bx.1.out.frozen 0;have P:=Lib.hid PRE;clear PRE;clear hL hC hk hw;refine spD rfl ?_;go_simp;exact ks (ksB SS.out P.out BEG.out 0 rfl) rfl ⟨rfl,trivial⟩
    all_goals (have c:=kn7 hC;clear hL hC hk hw;refine spD rfl ?_;go_simp;first | exact sv rfl ⟨rfl,trivial⟩ | exact ⟨_,rfl,sv rfl ⟨rfl,trivial⟩⟩)
  have C4:Hid (Mr ce1.vA q.n):=Lib.hid (vsP_c (hall.get 11))
  simp only [allF,vsP,pw,true_and,and_true,Nat.reduceAdd] at hall
  simp only [TL,Act.put,qA,qC,qZ,hall]
  replace SS:=Lib.hid hB.st
  clear hall vals hB
  obtain ⟨⟨y0,y1,y2,y3,y4,y5⟩,-⟩:=six_cells SS.out.bx.2.1.out
  have CALL:=Lib.hid (amount_S SS.out BEG.out (by have:=HL.out;(try simp only [List.length_append,List.length_cons,List.length_nil]);omega) 1 q.wh 0 (ce0.A - q.n) (show _=l++[amt 1 q.wh 0 (ce0.A - q.n)] by simp))
  go_wp2_with fail
  (with_reducible refine CALL.out.mono ?_)
  rintro e W5 ⟨rfl,hf,p5,hs⟩
  replace SS:=Lib.hid hs
  clear CALL hf hs y0 y1 y2 y3 y4 y5
  obtain ⟨⟨y0,y1,y2,y3,y4,y5⟩,-⟩:=six_cells SS.out.bx.1.out
  have CALL:=Lib.hid (amount_S SS.out BEG.out (by have:=HL.out;(try simp only [List.length_append,List.length_cons,List.length_nil]);omega) 2 q.wh 0 (ce1.vA + q.n) (show _=l++[amt 1 q.wh 0 (ce0.A - q.n),amt 2 q.wh 0 (ce1.vA + q.n)] by simp))
  go_wp2_with fail
  (with_reducible refine CALL.out.mono ?_)
  rintro e W6 ⟨rfl,hf,p6,hs⟩
  replace SS:=Lib.hid hs
  clear CALL hf hs y0 y1 y2 y3 y4 y5
  have y0:W6.cell? ⟨gt0,0,none⟩=some (.int .u64 (ce0.A - q.n)):=SS.out.bx.2.1.out.cell 0
  have y1:W6.cell? ⟨gt1,0,none⟩=some (.int .u64 (ce1.vA + q.n)):=SS.out.bx.1.out.cell 0
  obtain ⟨⟨z0,z1,z2,z3⟩,x0,x1,x2,x3⟩:=four_cells SS.out.bx.2.2.1.out
  go_wp2
  generalize hW:(World.setCell _ (⟨w.heap.size,3,none⟩:Addr) _)=WZ
  have b9:Box WZ w.heap.size #[.int .u16 0,.int .u64 (ce0.A - q.n),.int .u64 (ce1.vA + q.n),.int .u64 0] 35:=by
    rw [← hW]
    exact four_box SS.out.bx.2.2.1.out
  have F9:Hid (Fr (fun x=>x=w.heap.size) W6 WZ):=Lib.hid (by
    rw [← hW]
    exact four_fr)
  obtain ⟨⟨v0,v1,v2,v3⟩,-⟩:=four_cells b9
  clear hW b9 z0 z1 z2 z3 x0 x1 x2 x3 y0 y1
  refine bodyPost_ret (v:=.agg #[.int .u16 0,.int .u64 (ce0.A - q.n),.int .u64 (ce1.vA + q.n),.int .u64 0]) (by simp [results,Tryz.results65,go_sem,v0,v1,v2,v3];try rfl) rfl ?_
  refine (SS.out.wr BEG.out 2 rfl F9.out).did (y:=(⟨ce0.A - q.n,ce1.vA + q.n,0⟩,l++[amt 1 q.wh 0 (ce0.A - q.n),amt 2 q.wh 0 (ce1.vA + q.n)])) ?_ rfl
  unfold oDeposit
  simp only [runOm_bind,runOm_pure,run_there S0.out.1 S0.out.2,run_look S1.out,if_neg HKD.out,run_less C3.out.1 C3.out.2,run_more C4.out,oAmount,run_put,oAmount,run_put,List.append_assoc,List.cons_append,List.nil_append]
  try rfl
theorem deposit_in_ (w:World) (g:Nat) (q:Ot) (v:Value) (base i:Nat) (p:Value) (l:List Pu) (seen:List Ce) (hst:St w g q v base i p l) (hs:SeenAt w g v seen) (hg:g < base) (hbase:base≤w.heap.size) (hl:l.length≤800) (hi:i≤800000) (hq:q.Ok) (hok:∀ c∈seen,c.Ok) (hkd:q.kd=7) :
    Calls Tryz.prog 65 #[.pointer (some ⟨g,0,none⟩)] w (Did w g q v base i p l seen (oDeposit q) Rp.enc):=by
  have BEG:=Lib.hid (Begin.mk hs hg hbase hq hok (fun x hx=>hst.own.lt x hx))
  obtain ⟨W0,hW0⟩:∃ W0,w.alloc (.cells #[.int .u16 0,.int .u64 0,.int .u64 0,.int .u64 0] 35)=W0:=⟨_,rfl⟩
  have SS:Hid (ST w g q v base p i p l [.box w.heap.size #[.int .u16 0,.int .u64 0,.int .u64 0,.int .u64 0] 35] W0):=Lib.hid (by rw [← hW0];exact ST.start hst BEG.out _ _)
  have HI:=Lib.hid hi
  have HQ:=Lib.hid hq
  have HOK:=Lib.hid hok
  have HL:=Lib.hid hl
  have HKD:=Lib.hid hkd
  obtain ⟨ce0,hce0⟩:=the_cell seen (i)
  have CE0:=Lib.hid hce0
  obtain ⟨ce1,hce1⟩:=the_cell seen (i + 1)
  have CE1:=Lib.hid hce1
  clear hst hs hg hbase hl hi hq hok hkd hce0 hce1
  go_enter Tryz.func65,Tryz.ntmps65
  go_upto_region 1 with fail
  try rw [hW0]
  clear hW0
  refine wp_SK (D:=DP w g q v base i p l seen (oDeposit q) Rp.enc) 9 10 11 (seen[i]?=some ce0∧ce0.is=true) (i + 1) #[.int .u64 ce0.A,.int .u64 ce0.B,.int .u8 1,.int .u32 q.wh,.int .u32 0,.bool true] [pw g 0,pw g 0,pw g 7,pw g 0,pw g 0,pw g 0,pw g 1,some (.int .u32 q.wh,True),some (.agg #[.int .u8 1,.int .u32 q.wh,.int .u32 0],True),some (.agg (thing ce0.A ce0.B 1 q.wh 0 true),True),none,none] SS.out (fun vals=>?_) (fun vals W1 hB hfin hall=>?_) (ea 10 rfl)
  · simp only [ObD,Act.put,qA,qC,qZ]
    refine ⟨?_,?_,?_,?_,?_,?_,?_,?_,?o0_8,?o0_9,?o0_10,?o0_11,trivial⟩
    all_goals (intro L W hL hk hC hw;have f:=deps hw rfl rfl;simp only [depF,vsP,pw,qS,qD,and_true,true_and] at f)
    case o0_8=>have CL:=Lib.hid (purse_any q.wh W);clear hL hC hk hw;refine spD rfl ?_;go_simp;(with_reducible refine CL.out.mono ?_);rintro e w8 ⟨rfl,h2⟩;first | exact sq h2 rfl ⟨rfl,trivial⟩ | exact ⟨_,rfl,sq h2 rfl ⟨rfl,trivial⟩⟩
    case o0_9=>
      have CL:=Lib.hid (there_K SS.out (hC.pre hk) BEG.out (by have:=HI.out;omega) CE0.out 1 q.wh 0);clear hL hC hk hw;refine spD rfl ?_;go_simp;(with_reducible refine CL.out.mono ?_);rintro e w8 (⟨h,rfl,h2⟩ | ⟨h,h3,rfl,h2⟩ | ⟨rfl,hf,H⟩)
      · exact ⟨_,rfl,Did.miss (by unfold oDeposit;simp only [runOm_bind,run_there_no h]) h2⟩
      · exact ⟨_,rfl,Did.err (by unfold oDeposit;simp only [runOm_bind,run_there_not h h3]) h2⟩
      · first | exact kv hf H rfl ⟨rfl,trivial⟩ | exact ⟨_,rfl,kv hf H rfl ⟨rfl,trivial⟩⟩
    case o0_10=>have ZZ:=hC.fr.size;clear hL hC hk hw;refine spD rfl ?_;go_simp;exact am ZZ
    case o0_11=>obtain ⟨gt,C,fa,hgt,bx0,hc⟩:=Fw.geta (hw ⟨10,.data⟩ (by simp) rfl) (by decide);obtain ⟨c0,c1,c2,c3,c4,c5,rfl⟩:=arr6 hc;have q:=six_cells bx0;have BXX:=Lib.hid bx0;have FA:=Lib.hid fa;clear bx0 hc;unfold thing at f;clear hL hC hk hw;refine spD rfl ?_;go_simp;exact sm SS.out BEG.out BXX.out hgt FA.out
    all_goals (have c:=kn7 hC;clear hL hC hk hw;refine spD rfl ?_;go_simp;first | exact sv rfl ⟨rfl,trivial⟩ | exact ⟨_,rfl,sv rfl ⟨rfl,trivial⟩⟩)
  have S0:=Lib.hid hB.1
  simp only [allF,vsP,pw,true_and,and_true,Nat.reduceAdd] at hall
  obtain ⟨gt0,fa,hgt,bx⟩:=hfin
  simp only [TL,Act.put,qA,qC,qZ,hall,fa]
  replace SS:=Lib.hid (SS.out.push BEG.out hB.st SS.out.lt hgt bx)
  clear hall vals hB fa hgt bx
  go_upto_region 2 with fail
  refine wp_SK (D:=DP w g q v base i p l seen (oDeposit q) Rp.enc) 9 10 11 (seen[i + 1]?=some ce1) (i + 1 + 1) #[.int .u64 ce1.vA,.int .u64 ce1.vB,.int .u8 2,.int .u32 q.wh,.int .u32 0,.bool ce1.is] [pw g 0,pw g 0,pw g 7,pw g 0,pw g 0,pw g 0,pw g 1,some (.int .u32 q.wh,True),some (.agg #[.int .u8 2,.int .u32 q.wh,.int .u32 0],True),some (.agg (thing ce1.vA ce1.vB 2 q.wh 0 ce1.is),True),none,none] SS.out (fun vals=>?_) (fun vals W2 hB hfin hall=>?_) (ea 10 rfl)
  · simp only [ObD,Act.put,qA,qC,qZ]
    refine ⟨?_,?_,?_,?_,?_,?_,?_,?_,?o1_8,?o1_9,?o1_10,?o1_11,trivial⟩
    all_goals (intro L W hL hk hC hw;have f:=deps hw rfl rfl;simp only [depF,vsP,pw,qS,qD,and_true,true_and] at f)
    case o1_8=>have CL:=Lib.hid (bank_any q.wh W);clear hL hC hk hw;refine spD rfl ?_;go_simp;(with_reducible refine CL.out.mono ?_);rintro e w8 ⟨rfl,h2⟩;first | exact sq h2 rfl ⟨rfl,trivial⟩ | exact ⟨_,rfl,sq h2 rfl ⟨rfl,trivial⟩⟩
    case o1_9=>
      have CL:=Lib.hid (look_K SS.out (hC.pre hk) BEG.out (by have:=HI.out;omega) CE1.out 2 q.wh 0);clear hL hC hk hw;refine spD rfl ?_;go_simp;(with_reducible refine CL.out.mono ?_);rintro e w8 (⟨h,rfl,h2⟩ | ⟨h1,rfl,hf,H⟩)
      · exact ⟨_,rfl,Did.miss (by unfold oDeposit;simp only [runOm_bind,run_there S0.out.1 S0.out.2,run_look_no h]) h2⟩
      · first | exact kv hf H rfl ⟨rfl,trivial⟩ | exact ⟨_,rfl,kv hf H rfl ⟨rfl,trivial⟩⟩
    case o1_10=>have ZZ:=hC.fr.size;clear hL hC hk hw;refine spD rfl ?_;go_simp;exact am ZZ
    case o1_11=>obtain ⟨gt,C,fa,hgt,bx0,hc⟩:=Fw.geta (hw ⟨10,.data⟩ (by simp) rfl) (by decide);obtain ⟨c0,c1,c2,c3,c4,c5,rfl⟩:=arr6 hc;have q:=six_cells bx0;have BXX:=Lib.hid bx0;have FA:=Lib.hid fa;clear bx0 hc;unfold thing at f;clear hL hC hk hw;refine spD rfl ?_;go_simp;exact sm SS.out BEG.out BXX.out hgt FA.out
    all_goals (have c:=kn7 hC;clear hL hC hk hw;refine spD rfl ?_;go_simp;first | exact sv rfl ⟨rfl,trivial⟩ | exact ⟨_,rfl,sv rfl ⟨rfl,trivial⟩⟩)
  have S1:=Lib.hid hB.1
  simp only [allF,vsP,pw,true_and,and_true,Nat.reduceAdd] at hall
  obtain ⟨gt1,fa,hgt,bx⟩:=hfin
  simp only [TL,Act.put,qA,qC,qZ,hall,fa]
  replace SS:=Lib.hid (SS.out.push BEG.out hB.st SS.out.lt hgt bx)
  clear hall vals hB fa hgt bx
  have y0:W2.cell? ⟨g,0,none⟩=some (.int .u8 q.kd):=SS.out.kn.c0
  have dk:(q.kd == 7)=true:=by have:=HKD.out;simpa using this
  go_upto_region 6 with fail
  clear y0 dk
  refine wp_S (D:=DP w g q v base i p l seen (oDeposit q) Rp.enc) 15 16 17 (SB True False w g q v base p (i + 1 + 1) p l [.box gt1 #[.int .u64 (ce1.vA - q.n),.int .u64 ce1.vB,.int .u8 2,.int .u32 q.wh,.int .u32 0,.bool ce1.is] 130,.box gt0 #[.int .u64 ce0.A,.int .u64 ce0.B,.int .u8 1,.int .u32 q.wh,.int .u32 0,.bool true] 130,.box w.heap.size #[.int .u16 0,.int .u64 0,.int .u64 0,.int .u64 0] 35]) [some (.pointer (some ⟨gt1,0,none⟩),True),some (.pointer (some ⟨gt1,0,none⟩),True),some (.pointer (some ⟨gt1,0,none⟩),True),some (.pointer (some ⟨gt1,0,none⟩),True),some (.pointer (some ⟨gt1,0,none⟩),True),some (.int .u64 ce1.vA,True),pw g 0,pw g 0,pw g 0,pw g 5,some (.int .u64 q.n,True),some (.int .u64 (ce1.vA - q.n),Ls ce1.vA q.n),some (.pointer (some ⟨gt1,0,none⟩),True),some (.pointer (some ⟨gt1,0,none⟩),True),some (.pointer (some ⟨gt1,0,none⟩),True),some (undef,True)] SS.out (fun vals=>?_) (fun vals W3 hB hall=>?_)
  · simp only [ObD,Act.put,qA,qC,qZ]
    refine ⟨?_,?_,?_,?_,?_,?o2_5,?_,?_,?_,?_,?_,?o2_11,?_,?_,?_,?o2_15,trivial⟩
    all_goals (intro L W hL hk hC hw;have f:=deps hw rfl rfl;simp only [depF,vsP,pw,qS,qD,and_true,true_and] at f)
    case' o2_5=>have k0:W.cell? ⟨gt1,0,none⟩=some (.int .u64 ce1.vA):=(hC.pre (hL.not_yet hk 15 16 (by decide +kernel))).bx.1.out.cell 0
    case o2_11=>
      have CL:=Lib.hid (less_C (vA_ok HOK.out S1.out) HQ.out.n hC SS.out BEG.out);clear hL hC hk hw;refine spD rfl ?_;go_simp;(with_reducible refine CL.out.mono ?_)
      rintro e w8 (⟨h,rfl,h2⟩ | ⟨⟨h,h3⟩,rfl,h2⟩ | ⟨h1,rfl,h2⟩)
      · exact ⟨_,rfl,Did.err (by unfold oDeposit;simp only [runOm_bind,run_there S0.out.1 S0.out.2,run_look S1.out,if_pos HKD.out,run_less_great h]) h2⟩
      · exact ⟨_,rfl,Did.err (by unfold oDeposit;simp only [runOm_bind,run_there S0.out.1 S0.out.2,run_look S1.out,if_pos HKD.out,run_less_low h h3]) h2⟩
      · first | exact sq h2 rfl ⟨rfl,h1⟩ | exact ⟨_,rfl,sq h2 rfl ⟨rfl,h1⟩⟩
    case o2_15=>have PRE:=hC.pre hk;have q0:W.cell? ⟨gt1,0,none⟩=some (.int .u64 ce1.vA):=PRE.bx.1.out.cell 0;have r0:=PRE.bx.1.out.frozen 0;have P:=Lib.hid PRE;clear PRE;clear hL hC hk hw;refine spD rfl ?_;go_simp;exact ks (ksB SS.out P.out BEG.out 0 rfl) rfl ⟨rfl,trivial⟩
    all_goals (have c:=kn7 hC;clear hL hC hk hw;refine spD rfl ?_;go_simp;first | exact sv rfl ⟨rfl,trivial⟩ | exact ⟨_,rfl,sv rfl ⟨rfl,trivial⟩⟩)
  have C3:Hid (Ls ce1.vA q.n):=Lib.hid (vsP_c (hall.get 11))
  simp only [allF,vsP,pw,true_and,and_true,Nat.reduceAdd] at hall
  simp only [TL,Act.put,qA,qC,qZ,hall]
  replace SS:=Lib.hid hB.st
  clear hall vals hB
  go_upto_region 7 with fail
  refine wp_S (D:=DP w g q v base i p l seen (oDeposit q) Rp.enc) 15 16 17 (SB True False w g q v base p (i + 1 + 1) p l [.box gt1 #[.int .u64 (ce1.vA - q.n),.int .u64 ce1.vB,.int .u8 2,.int .u32 q.wh,.int .u32 0,.bool ce1.is] 130,.box gt0 #[.int .u64 (ce0.A + q.n),.int .u64 ce0.B,.int .u8 1,.int .u32 q.wh,.int .u32 0,.bool true] 130,.box w.heap.size #[.int .u16 0,.int .u64 0,.int .u64 0,.int .u64 0] 35]) [some (.pointer (some ⟨gt0,0,none⟩),True),some (.pointer (some ⟨gt0,0,none⟩),True),some (.pointer (some ⟨gt0,0,none⟩),True),some (.pointer (some ⟨gt0,0,none⟩),True),some (.pointer (some ⟨gt0,0,none⟩),True),some (.int .u64 ce0.A,True),pw g 0,pw g 0,pw g 0,pw g 5,some (.int .u64 q.n,True),some (.int .u64 (ce0.A + q.n),Mr ce0.A q.n),some (.pointer (some ⟨gt0,0,none⟩),True),some (.pointer (some ⟨gt0,0,none⟩),True),some (.pointer (some ⟨gt0,0,none⟩),True),some (undef,True)] SS.out (fun vals=>?_) (fun vals W4 hB hall=>?_)
  · simp only [ObD,Act.put,qA,qC,qZ]
    refine ⟨?_,?_,?_,?_,?_,?o3_5,?_,?_,?_,?_,?_,?o3_11,?_,?_,?_,?o3_15,trivial⟩
    all_goals (intro L W hL hk hC hw;have f:=deps hw rfl rfl;simp only [depF,vsP,pw,qS,qD,and_true,true_and] at f)
    case' o3_5=>have k0:W.cell? ⟨gt0,0,none⟩=some (.int .u64 ce0.A):=(hC.pre (hL.not_yet hk 15 16 (by decide +kernel))).bx.2.1.out.cell 0
    case o3_11=>
      have CL:=Lib.hid (more_C (A_ok HOK.out S0.out.1) HQ.out.n hC SS.out BEG.out);clear hL hC hk hw;refine spD rfl ?_;go_simp;(with_reducible refine CL.out.mono ?_)
      rintro e w8 (⟨h,rfl,h2⟩ | ⟨h1,rfl,h2⟩)
      · exact ⟨_,rfl,Did.err (by unfold oDeposit;simp only [runOm_bind,run_there S0.out.1 S0.out.2,run_look S1.out,if_pos HKD.out,run_less C3.out.1 C3.out.2,run_more_no h]) h2⟩
      · first | exact sq h2 rfl ⟨rfl,h1⟩ | exact ⟨_,rfl,sq h2 rfl ⟨rfl,h1⟩⟩
    case o3_15=>have PRE:=hC.pre hk;have q0:W.cell? ⟨gt0,0,none⟩=some (.int .u64 ce0.A):=PRE.bx.2.1.out.cell 0;have r0:=PRE.bx.2.1.out.frozen 0;have P:=Lib.hid PRE;clear PRE;clear hL hC hk hw;refine spD rfl ?_;go_simp;exact ks (ksB SS.out P.out BEG.out 1 rfl) rfl ⟨rfl,trivial⟩
    all_goals (have c:=kn7 hC;clear hL hC hk hw;refine spD rfl ?_;go_simp;first | exact sv rfl ⟨rfl,trivial⟩ | exact ⟨_,rfl,sv rfl ⟨rfl,trivial⟩⟩)
  have C4:Hid (Mr ce0.A q.n):=Lib.hid (vsP_c (hall.get 11))
  simp only [allF,vsP,pw,true_and,and_true,Nat.reduceAdd] at hall
  simp only [TL,Act.put,qA,qC,qZ,hall]
  replace SS:=Lib.hid hB.st
  clear hall vals hB
  obtain ⟨⟨y0,y1,y2,y3,y4,y5⟩,-⟩:=six_cells SS.out.bx.2.1.out
  have CALL:=Lib.hid (amount_S SS.out BEG.out (by have:=HL.out;(try simp only [List.length_append,List.length_cons,List.length_nil]);omega) 1 q.wh 0 (ce0.A + q.n) (show _=l++[amt 1 q.wh 0 (ce0.A + q.n)] by simp))
  go_wp2_with fail
  (with_reducible refine CALL.out.mono ?_)
  rintro e W5 ⟨rfl,hf,p5,hs⟩
  replace SS:=Lib.hid hs
  clear CALL hf hs y0 y1 y2 y3 y4 y5
  obtain ⟨⟨y0,y1,y2,y3,y4,y5⟩,-⟩:=six_cells SS.out.bx.1.out
  have CALL:=Lib.hid (amount_S SS.out BEG.out (by have:=HL.out;(try simp only [List.length_append,List.length_cons,List.length_nil]);omega) 2 q.wh 0 (ce1.vA - q.n) (show _=l++[amt 1 q.wh 0 (ce0.A + q.n),amt 2 q.wh 0 (ce1.vA - q.n)] by simp))
  go_wp2_with fail
  (with_reducible refine CALL.out.mono ?_)
  rintro e W6 ⟨rfl,hf,p6,hs⟩
  replace SS:=Lib.hid hs
  clear CALL hf hs y0 y1 y2 y3 y4 y5
  have y0:W6.cell? ⟨gt0,0,none⟩=some (.int .u64 (ce0.A + q.n)):=SS.out.bx.2.1.out.cell 0
  have y1:W6.cell? ⟨gt1,0,none⟩=some (.int .u64 (ce1.vA - q.n)):=SS.out.bx.1.out.cell 0
  obtain ⟨⟨z0,z1,z2,z3⟩,x0,x1,x2,x3⟩:=four_cells SS.out.bx.2.2.1.out
  go_wp2
  generalize hW:(World.setCell _ (⟨w.heap.size,3,none⟩:Addr) _)=WZ
  have b9:Box WZ w.heap.size #[.int .u16 0,.int .u64 (ce0.A + q.n),.int .u64 (ce1.vA - q.n),.int .u64 0] 35:=by
    rw [← hW]
    exact four_box SS.out.bx.2.2.1.out
  have F9:Hid (Fr (fun x=>x=w.heap.size) W6 WZ):=Lib.hid (by
    rw [← hW]
    exact four_fr)
  obtain ⟨⟨v0,v1,v2,v3⟩,-⟩:=four_cells b9
  clear hW b9 z0 z1 z2 z3 x0 x1 x2 x3 y0 y1
  refine bodyPost_ret (v:=.agg #[.int .u16 0,.int .u64 (ce0.A + q.n),.int .u64 (ce1.vA - q.n),.int .u64 0]) (by simp [results,Tryz.results65,go_sem,v0,v1,v2,v3];try rfl) rfl ?_
  refine (SS.out.wr BEG.out 2 rfl F9.out).did (y:=(⟨ce0.A + q.n,ce1.vA - q.n,0⟩,l++[amt 1 q.wh 0 (ce0.A + q.n),amt 2 q.wh 0 (ce1.vA - q.n)])) ?_ rfl
  unfold oDeposit
  simp only [runOm_bind,runOm_pure,run_there S0.out.1 S0.out.2,run_look S1.out,if_pos HKD.out,run_less C3.out.1 C3.out.2,run_more C4.out,oAmount,run_put,oAmount,run_put,List.append_assoc,List.cons_append,List.nil_append]
  try rfl
theorem deposit_all (w:World) (g:Nat) (q:Ot) (v:Value) (base i:Nat) (p:Value) (l:List Pu) (seen:List Ce) (hst:St w g q v base i p l) (hs:SeenAt w g v seen) (hg:g < base) (hbase:base≤w.heap.size) (hl:l.length≤800) (hi:i≤800000) (hq:q.Ok) (hok:∀ c∈seen,c.Ok) :
    Calls Tryz.prog 65 #[.pointer (some ⟨g,0,none⟩)] w (Did w g q v base i p l seen (oDeposit q) Rp.enc):=by
  by_cases h:q.kd=7
  · exact deposit_in_ w g q v base i p l seen hst hs hg hbase hl hi hq hok h
  · exact deposit_out_ w g q v base i p l seen hst hs hg hbase hl hi hq hok h
end Go.Proofs.YtabckmadpdchnaaGreat.Rule
namespace Go.Proofs.YtabckmadpdchnaaGreat.Rule
open Go.ChangeShapes Go.WideShapes Go.ChangeAt Go.RowKit Go.IntWalk Go.Proofs.Mem Go.Proofs.Each
def oNumberT (kd:Int):Om Th:=do
  let c ← oLook 8 kd 0
  oDeny (decide (4294967295≤c.A)) 3
  return ⟨c.A + 1,c.B,8,kd,0,c.is⟩
theorem oNumber_T (kd:Int) {seen:List Ce} {i:Nat} {l:List Pu}:runOm seen (oNumber kd) i l=match runOm seen (oNumberT kd) i l with
    | .miss k a b=>.miss k a b
    | .err e=>.err e
    | .ok y j=>.ok (y.1.A,y.2) j:=by
  unfold oNumber oNumberT
  simp only [runOm_bind]
  cases runOm seen (oLook 8 kd 0) i l with
  | miss k a b=>rfl
  | err e=>rfl
  | ok y j=>
    simp only
    cases runOm seen (oDeny (decide (4294967295≤y.1.A)) 3) j y.2 with
    | miss k a b=>rfl
    | err e=>rfl
    | ok z n=>rfl
def Th.val (t:Th):Value:=.agg (thing t.A t.B t.k t.a t.b t.is)
def Th.enc (t:Th):Value:=.tuple #[.int .u32 t.A,t.val]
theorem number_any (w:World) (g:Nat) (q:Ot) (v:Value) (base i:Nat) (p:Value) (l:List Pu) (seen:List Ce) (hst:St w g q v base i p l) (hs:SeenAt w g v seen) (hg:g < base) (hbase:base≤w.heap.size) (hi:i≤900000) (hq:q.Ok) (hok:∀ c∈seen,c.Ok) (kd:Int) (hk:0≤kd∧kd≤255) :
    Calls Tryz.prog 91 #[.pointer (some ⟨g,0,none⟩),.int .u8 kd] w (Did w g q v base i p l seen (oNumberT kd) Th.enc):=by
  have BEG:=Lib.hid (Begin.mk hs hg hbase hq hok (fun x hx=>hst.own.lt x hx))
  obtain ⟨W0,hW0⟩:∃ W0,w.alloc (.cells #[.int .u64 0,.int .u64 0,.int .u8 0,.int .u32 0,.int .u32 0,.bool false] 130)=W0:=⟨_,rfl⟩
  have SS:Hid (ST w g q v base p i p l [.box w.heap.size #[.int .u64 0,.int .u64 0,.int .u8 0,.int .u32 0,.int .u32 0,.bool false] 130] W0):=Lib.hid (by rw [← hW0];exact ST.start hst BEG.out _ _)
  have HI:=Lib.hid hi
  have HQ:=Lib.hid hq
  have HOK:=Lib.hid hok
  have HK:=Lib.hid hk
  obtain ⟨ce0,hce0⟩:=the_cell seen (i)
  have CE0:=Lib.hid hce0
  clear hst hs hg hbase hi hq hok hk hce0
  go_enter Tryz.func91,Tryz.ntmps91
  go_upto_region 1 with fail
  try rw [hW0]
  clear hW0
  refine wp_SK (D:=DP w g q v base i p l seen (oNumberT kd) Th.enc) 5 6 7 (seen[i]?=some ce0) (i + 1) #[.int .u64 ce0.vA,.int .u64 ce0.vB,.int .u8 8,.int .u32 kd,.int .u32 0,.bool ce0.is] [pw g 0,pw g 0,pw g 7,some (.int .u8 kd,True),some (.agg #[.int .u8 8,.int .u32 kd,.int .u32 0],True),some (.agg (thing ce0.vA ce0.vB 8 kd 0 ce0.is),True),none,none] SS.out (fun vals=>?_) (fun vals W1 hB hfin hall=>?_) (ea 6 rfl)
  · simp only [ObD,Act.put,qA,qC,qZ]
    refine ⟨?_,?_,?_,?_,?o0_4,?o0_5,?o0_6,?o0_7,trivial⟩
    all_goals (intro L W hL hk hC hw;have f:=deps hw rfl rfl;simp only [depF,vsP,pw,qS,qD,and_true,true_and] at f)
    case o0_4=>have CL:=Lib.hid (count_any kd HK.out W);clear hL hC hk hw;refine spD rfl ?_;go_simp;(with_reducible refine CL.out.mono ?_);rintro e w8 ⟨rfl,h2⟩;first | exact sq h2 rfl ⟨rfl,trivial⟩ | exact ⟨_,rfl,sq h2 rfl ⟨rfl,trivial⟩⟩
    case o0_5=>
      have CL:=Lib.hid (look_K SS.out (hC.pre hk) BEG.out (by have:=HI.out;omega) CE0.out 8 kd 0);clear hL hC hk hw;refine spD rfl ?_;go_simp;(with_reducible refine CL.out.mono ?_);rintro e w8 (⟨h,rfl,h2⟩ | ⟨h1,rfl,hf,H⟩)
      · exact ⟨_,rfl,Did.miss (by unfold oNumberT;simp only [runOm_bind,run_look_no h]) h2⟩
      · first | exact kv hf H rfl ⟨rfl,trivial⟩ | exact ⟨_,rfl,kv hf H rfl ⟨rfl,trivial⟩⟩
    case o0_6=>have ZZ:=hC.fr.size;clear hL hC hk hw;refine spD rfl ?_;go_simp;exact am ZZ
    case o0_7=>obtain ⟨gt,C,fa,hgt,bx0,hc⟩:=Fw.geta (hw ⟨6,.data⟩ (by simp) rfl) (by decide);obtain ⟨c0,c1,c2,c3,c4,c5,rfl⟩:=arr6 hc;have q:=six_cells bx0;have BXX:=Lib.hid bx0;have FA:=Lib.hid fa;clear bx0 hc;unfold thing at f;clear hL hC hk hw;refine spD rfl ?_;go_simp;exact sm SS.out BEG.out BXX.out hgt FA.out
    all_goals (have c:=kn7 hC;clear hL hC hk hw;refine spD rfl ?_;go_simp;first | exact sv rfl ⟨rfl,trivial⟩ | exact ⟨_,rfl,sv rfl ⟨rfl,trivial⟩⟩)
  have S0:=Lib.hid hB.1
  simp only [allF,vsP,pw,true_and,and_true,Nat.reduceAdd] at hall
  obtain ⟨gt0,fa,hgt,bx⟩:=hfin
  simp only [TL,Act.put,qA,qC,qZ,hall,fa]
  replace SS:=Lib.hid (SS.out.push BEG.out hB.st SS.out.lt hgt bx)
  clear hall vals hB fa hgt bx
  have t0:=SS.out.bx.1.out.cell 0
  have x0:=SS.out.bx.1.out.frozen 0
  simp only [List.getElem?_toArray,List.getElem?_cons_zero] at t0
  by_cases hbig:4294967295≤ce0.vA
  · have dk:decide (4294967295≤ce0.vA)=true:=decide_eq_true hbig
    have HB:=Lib.hid hbig
    clear hbig
    go_wp2_with fail
    (with_reducible refine (deny_yes 3 _).mono ?_)
    rintro e w2 ⟨rfl,rfl⟩
    exact ⟨rfl,Did.err (by unfold oNumberT;simp only [runOm_bind,run_look S0.out,decide_eq_true HB.out,run_deny_yes]) (SS.out.low BEG.out)⟩
  · have dk:decide (4294967295≤ce0.vA)=false:=decide_eq_false hbig
    have cw:IntKind.u64.wrap (ce0.vA + 1)=ce0.vA + 1:=wrap_u64 (by have:=(vA_ok HOK.out S0.out).1;omega) (by omega)
    have cv:IntKind.u32.wrap (ce0.vA + 1)=ce0.vA + 1:=by rw [wrap_u32];exact lo32_of ⟨by have:=(vA_ok HOK.out S0.out).1;omega,by omega⟩
    have HB:=Lib.hid hbig
    have CV:=Lib.hid cv
    clear hbig cv
    go_wp2_with fail
    (with_reducible refine (deny_no 3 _).mono ?_)
    rintro e w2 ⟨rfl,rfl⟩
    clear dk
    go_upto_region 4 with fail
    generalize hW2:(World.setCell W1 _ _)=W2
    have SX:Hid (ST w g q v base p (i + 1) p l [.box gt0 #[.int .u64 (ce0.vA + 1),.int .u64 ce0.vB,.int .u8 8,.int .u32 kd,.int .u32 0,.bool ce0.is] 130,.box w.heap.size #[.int .u64 0,.int .u64 0,.int .u8 0,.int .u32 0,.int .u32 0,.bool false] 130] W2):=Lib.hid (by
      rw [← hW2]
      exact SS.out.updB BEG.out (o:=0) (u:=.int .u64 (ce0.vA + 1)) 0)
    replace SS:=SX
    clear hW2 cw SX
    obtain ⟨⟨t0,t1,t2,t3,t4,t5⟩,u0⟩:=six_cells SS.out.bx.1.out
    obtain ⟨⟨z0,z1,z2,z3,z4,z5⟩,x0,x1,x2,x3,x4,x5⟩:=six_cells SS.out.bx.2.1.out
    clear u0
    have cv:=CV.out
    go_region
    go_wp2
    generalize hW:(World.setCell _ (⟨w.heap.size,5,none⟩:Addr) _)=W9
    have b9:Box W9 w.heap.size #[.int .u64 (ce0.vA + 1),.int .u64 ce0.vB,.int .u8 8,.int .u32 kd,.int .u32 0,.bool ce0.is] 130:=by
      rw [← hW]
      exact six_box SS.out.bx.2.1.out
    have F9:Hid (Fr (fun x=>x=w.heap.size) W2 W9):=Lib.hid (by
      rw [← hW]
      exact six_fr)
    obtain ⟨⟨v0,v1,v2,v3,v4,v5⟩,u1⟩:=six_cells b9
    clear hW b9 z0 z1 z2 z3 z4 z5 x0 x1 x2 x3 x4 x5 t0 t1 t2 t3 t4 t5 u1
    refine bodyPost_ret (v:=.tuple #[.int .u32 (ce0.vA + 1),.agg #[.int .u64 (ce0.vA + 1),.int .u64 ce0.vB,.int .u8 8,.int .u32 kd,.int .u32 0,.bool ce0.is]]) (by simp [results,Tryz.results91,go_sem,v0,v1,v2,v3,v4,v5];try rfl) rfl ?_
    refine ((SS.out.wr BEG.out 1 rfl F9.out).drew).did (m:=oNumberT kd) (enc:=Th.enc) (y:=((⟨ce0.vA + 1,ce0.vB,8,kd,0,ce0.is⟩:Th),l)) ?_ rfl
    unfold oNumberT
    simp only [runOm_bind,run_look S0.out,decide_eq_false (show ¬ 4294967295≤ce0.vA by have:=HB.out;omega),run_deny_no]
    rfl
theorem number_ok {seen:List Ce} {j n:Nat} {l:List Pu} {kd:Int} {y:Th × List Pu} (h:runOm seen (oNumberT kd) j l=.ok y n):∃ c,seen[j]?=some c∧¬ 4294967295≤c.vA∧y=(⟨c.vA + 1,c.vB,8,kd,0,c.is⟩,l)∧n=j + 1:=by
  unfold oNumberT at h
  cases hs:seen[j]? with
  | none=>rw [runOm_bind,run_look_no hs] at h;cases h
  | some c=>
    rw [runOm_bind,run_look hs] at h
    by_cases hb:4294967295≤c.vA
    · simp only [runOm_bind,decide_eq_true hb,run_deny_yes] at h
      cases h
    · simp only [runOm_bind,decide_eq_false hb,run_deny_no] at h
      injection h with h1 h2
      exact ⟨c,rfl,hb,h1.symm,h2.symm⟩
def NumQ (w:World) (g:Nat) (q:Ot) (v:Value) (base:Nat) (p:Value) (W:World) (j:Nat) (p':Value) (l:List Pu) (seen:List Ce) (kd:Int) (e:Ending) (w':World):Prop:=
  (∃ k a b,runOm seen (oNumberT kd) j l=.miss k a b∧e=.panicked (raiseK k a b)∧Below g w w') ∨
  (∃ m,runOm seen (oNumberT kd) j l=.err m∧e=.panicked (raise_ m)∧Below g w w') ∨
  ∃ c p2,seen[j]?=some c∧(0≤c.vA∧¬ 4294967295≤c.vA)∧e=.returned (.tuple #[.int .u32 (c.vA + 1),.agg #[.int .u64 (c.vA + 1),.int .u64 c.vB,.int .u8 8,.int .u32 kd,.int .u32 0,.bool c.is]])∧Run w g q v base p w' (j + 1) p2 l∧Fr (fun x=>x=g∨p'.ownBlock=some x) W w'
theorem number_run {w W:World} {g base j:Nat} {q:Ot} {v p p':Value} {l:List Pu} {seen:List Ce} (h:Run w g q v base p W j p' l) (hb:Begin w g q v base p seen) (hj:j≤900000) (kd:Int) (hk:0≤kd∧kd≤255) :
    Calls Tryz.prog 91 #[.pointer (some ⟨g,0,none⟩),.int .u8 kd] W (NumQ w g q v base p W j p' l seen kd):=
  (number_any W g q v base j p' l seen h.st (h.cells_ hb) hb.hg (Nat.le_trans hb.hbase h.size) hj hb.hq hb.hok kd hk).mono fun e w' hd=>by
    rcases h.part hb hd with h1 | h1 | ⟨y,n,p2,h1,rfl,hr,hf⟩
    · exact .inl h1
    · exact .inr (.inl h1)
    · obtain ⟨c,hs,hbig,rfl,rfl⟩:=number_ok h1
      exact .inr (.inr ⟨c,p2,hs,⟨(vA_ok hb.hok hs).1,hbig⟩,rfl,hr,hf⟩)
theorem number_S {w W:World} {g base j:Nat} {q:Ot} {v p p':Value} {l:List Pu} {bs:List Bx} {seen:List Ce} (h:ST w g q v base p j p' l bs W) (hb:Begin w g q v base p seen) (hj:j≤900000) (kd:Int) (hk:0≤kd∧kd≤255) :
    Calls Tryz.prog 91 #[.pointer (some ⟨g,0,none⟩),.int .u8 kd] W fun e w'=>
      (∃ k a b,runOm seen (oNumberT kd) j l=.miss k a b∧e=.panicked (raiseK k a b)∧Below g w w')∨(∃ m,runOm seen (oNumberT kd) j l=.err m∧e=.panicked (raise_ m)∧Below g w w') ∨
      ∃ c p2,seen[j]?=some c∧(0≤c.vA∧¬ 4294967295≤c.vA)∧e=.returned (.tuple #[.int .u32 (c.vA + 1),.agg #[.int .u64 (c.vA + 1),.int .u64 c.vB,.int .u8 8,.int .u32 kd,.int .u32 0,.bool c.is]])∧ST w g q v base p (j + 1) p2 l bs w':=
  (number_run h.run.out hb hj kd hk).mono fun e w' hd=>by
    rcases hd with h1 | h1 | ⟨c,p2,h1,h2,h3,h4,h5⟩
    · exact .inl h1
    · exact .inr (.inl h1)
    · exact .inr (.inr ⟨c,p2,h1,h2,h3,h.keep h4 h5 h.put_far⟩)
end Go.Proofs.YtabckmadpdchnaaGreat.Rule
namespace Go.Proofs.YtabckmadpdchnaaGreat.Rule
open Go.ChangeShapes Go.WideShapes Go.ChangeAt Go.RowKit Go.IntWalk Go.Proofs.Mem Go.Proofs.Each
theorem trade_all (w:World) (g:Nat) (q:Ot) (v:Value) (base i:Nat) (p:Value) (l:List Pu) (seen:List Ce) (hst:St w g q v base i p l) (hs:SeenAt w g v seen) (hg:g < base) (hbase:base≤w.heap.size) (hl:l.length≤800) (hi:i≤800000) (hq:q.Ok) (hok:∀ c∈seen,c.Ok) :
    Calls Tryz.prog 69 #[.pointer (some ⟨g,0,none⟩)] w (Did w g q v base i p l seen (oTrade q) Rp.enc):=by
  have BEG:=Lib.hid (Begin.mk hs hg hbase hq hok (fun x hx=>hst.own.lt x hx))
  obtain ⟨W0,hW0⟩:∃ W0,w.alloc (.cells #[.int .u16 0,.int .u64 0,.int .u64 0,.int .u64 0] 35)=W0:=⟨_,rfl⟩
  have SS:Hid (ST w g q v base p i p l [.box w.heap.size #[.int .u16 0,.int .u64 0,.int .u64 0,.int .u64 0] 35] W0):=Lib.hid (by rw [← hW0];exact ST.start hst BEG.out _ _)
  have HI:=Lib.hid hi
  have HQ:=Lib.hid hq
  have HOK:=Lib.hid hok
  have HL:=Lib.hid hl
  obtain ⟨ce0,hce0⟩:=the_cell seen (i)
  have CE0:=Lib.hid hce0
  obtain ⟨ce1,hce1⟩:=the_cell seen (i + 1)
  have CE1:=Lib.hid hce1
  obtain ⟨ce2,hce2⟩:=the_cell seen (i + 1 + 1)
  have CE2:=Lib.hid hce2
  clear hst hs hg hbase hl hi hq hok hce0 hce1 hce2
  go_enter Tryz.func69,Tryz.ntmps69
  go_upto_region 1 with fail
  try rw [hW0]
  clear hW0
  refine wp_SA (D:=DP w g q v base i p l seen (oTrade q) Rp.enc) 9 10 11 (seen[i]?=some ce0∧ce0.is=true) False (i + 1) l [pw g 0,pw g 0,pw g 7,pw g 0,pw g 0,pw g 0,pw g 1,some (.int .u32 q.wh,True),some (.agg #[.int .u8 1,.int .u32 q.wh,.int .u32 0],True),some (.agg (thing ce0.A ce0.B 1 q.wh 0 true),True)] SS.out (fun vals=>?_) (fun vals W1 hB hall=>?_)
  · simp only [ObD,Act.put,qA,qC,qZ]
    refine ⟨?_,?_,?_,?_,?_,?_,?_,?_,?o0_8,?o0_9,trivial⟩
    all_goals (intro L W hL hk hC hw;have f:=deps hw rfl rfl;simp only [depF,vsP,pw,qS,qD,and_true,true_and] at f)
    case o0_8=>have CL:=Lib.hid (purse_any q.wh W);clear hL hC hk hw;refine spD rfl ?_;go_simp;(with_reducible refine CL.out.mono ?_);rintro e w8 ⟨rfl,h2⟩;first | exact sq h2 rfl ⟨rfl,trivial⟩ | exact ⟨_,rfl,sq h2 rfl ⟨rfl,trivial⟩⟩
    case o0_9=>
      have CL:=Lib.hid (there_K SS.out (hC.pre hk) BEG.out (by have:=HI.out;omega) CE0.out 1 q.wh 0);clear hL hC hk hw;refine spD rfl ?_;go_simp;(with_reducible refine CL.out.mono ?_);rintro e w8 (⟨h,rfl,h2⟩ | ⟨h,h3,rfl,h2⟩ | ⟨rfl,hf,H⟩)
      · exact ⟨_,rfl,Did.miss (by unfold oTrade;simp only [runOm_bind,run_there_no h]) h2⟩
      · exact ⟨_,rfl,Did.err (by unfold oTrade;simp only [runOm_bind,run_there_not h h3]) h2⟩
      · first | exact kv hf H rfl ⟨rfl,trivial⟩ | exact ⟨_,rfl,kv hf H rfl ⟨rfl,trivial⟩⟩
    all_goals (have c:=kn7 hC;clear hL hC hk hw;refine spD rfl ?_;go_simp;first | exact sv rfl ⟨rfl,trivial⟩ | exact ⟨_,rfl,sv rfl ⟨rfl,trivial⟩⟩)
  have S0:=Lib.hid hB.1
  simp only [allF,vsP,pw,true_and,and_true,Nat.reduceAdd] at hall
  simp only [TL,Act.put,qA,qC,qZ,hall]
  replace SS:=Lib.hid hB.st
  clear hall vals hB
  go_upto_region 2 with fail
  refine wp_SA (D:=DP w g q v base i p l seen (oTrade q) Rp.enc) 9 10 11 (seen[i + 1]?=some ce1∧ce1.is=true) False (i + 1 + 1) l [pw g 0,pw g 0,pw g 7,pw g 0,pw g 0,pw g 0,pw g 2,some (.int .u32 q.wm,True),some (.agg #[.int .u8 1,.int .u32 q.wm,.int .u32 0],True),some (.agg (thing ce1.A ce1.B 1 q.wm 0 true),True)] SS.out (fun vals=>?_) (fun vals W2 hB hall=>?_)
  · simp only [ObD,Act.put,qA,qC,qZ]
    refine ⟨?_,?_,?_,?_,?_,?_,?_,?_,?o1_8,?o1_9,trivial⟩
    all_goals (intro L W hL hk hC hw;have f:=deps hw rfl rfl;simp only [depF,vsP,pw,qS,qD,and_true,true_and] at f)
    case o1_8=>have CL:=Lib.hid (purse_any q.wm W);clear hL hC hk hw;refine spD rfl ?_;go_simp;(with_reducible refine CL.out.mono ?_);rintro e w8 ⟨rfl,h2⟩;first | exact sq h2 rfl ⟨rfl,trivial⟩ | exact ⟨_,rfl,sq h2 rfl ⟨rfl,trivial⟩⟩
    case o1_9=>
      have CL:=Lib.hid (there_K SS.out (hC.pre hk) BEG.out (by have:=HI.out;omega) CE1.out 1 q.wm 0);clear hL hC hk hw;refine spD rfl ?_;go_simp;(with_reducible refine CL.out.mono ?_);rintro e w8 (⟨h,rfl,h2⟩ | ⟨h,h3,rfl,h2⟩ | ⟨rfl,hf,H⟩)
      · exact ⟨_,rfl,Did.miss (by unfold oTrade;simp only [runOm_bind,run_there S0.out.1 S0.out.2,run_there_no h]) h2⟩
      · exact ⟨_,rfl,Did.err (by unfold oTrade;simp only [runOm_bind,run_there S0.out.1 S0.out.2,run_there_not h h3]) h2⟩
      · first | exact kv hf H rfl ⟨rfl,trivial⟩ | exact ⟨_,rfl,kv hf H rfl ⟨rfl,trivial⟩⟩
    all_goals (have c:=kn7 hC;clear hL hC hk hw;refine spD rfl ?_;go_simp;first | exact sv rfl ⟨rfl,trivial⟩ | exact ⟨_,rfl,sv rfl ⟨rfl,trivial⟩⟩)
  have S1:=Lib.hid hB.1
  simp only [allF,vsP,pw,true_and,and_true,Nat.reduceAdd] at hall
  simp only [TL,Act.put,qA,qC,qZ,hall]
  replace SS:=Lib.hid hB.st
  clear hall vals hB
  have CALL:=Lib.hid (number_S SS.out BEG.out (by have:=HI.out;omega) 4 (by omega))
  go_wp2_with fail
  (with_reducible refine CALL.out.mono ?_)
  rintro e W3 (⟨k,a,b,h1,rfl,h2⟩ | ⟨m,h1,rfl,h2⟩ | ⟨c,p3,h1,hb,rfl,hs⟩)
  · exact ⟨rfl,Did.miss (by unfold oTrade;simp only [runOm_bind,run_there S0.out.1 S0.out.2,run_there S1.out.1 S1.out.2,oNumber_T,h1]) h2⟩
  · exact ⟨rfl,Did.err (by unfold oTrade;simp only [runOm_bind,run_there S0.out.1 S0.out.2,run_there S1.out.1 S1.out.2,oNumber_T,h1]) h2⟩
  obtain rfl:ce2=c:=(CE2.out c h1).symm
  have S2:=Lib.hid h1
  have B2:=Lib.hid hb
  replace SS:=Lib.hid (hs.alloc BEG.out #[.int .u64 (ce2.vA + 1),.int .u64 ce2.vB,.int .u8 8,.int .u32 4,.int .u32 0,.bool ce2.is] 130)
  clear CALL hs h1 hb
  obtain ⟨⟨y0,y1,y2,y3,y4,y5⟩,-⟩:=six_cells SS.out.bx.1.out
  have CALL:=Lib.hid (amount_S SS.out BEG.out (by have:=HL.out;(try simp only [List.length_append,List.length_cons,List.length_nil]);omega) 8 4 0 (ce2.vA + 1) (show _=l++[amt 8 4 0 (ce2.vA + 1)] by simp))
  go_wp2_with fail
  (with_reducible refine CALL.out.mono ?_)
  rintro e W4 ⟨rfl,hf,p4,hs⟩
  replace SS:=Lib.hid hs
  clear CALL hf hs y0 y1 y2 y3 y4 y5
  go_upto_region 5 with fail
  refine wp_SA (D:=DP w g q v base i p l seen (oTrade q) Rp.enc) 15 16 17 True True (i + 1 + 1 + 1) (l++[amt 8 4 0 (ce2.vA + 1),Pu.mk 4 (ce2.vA + 1) 0 (pair q.wh q.wm) 0 false]) [pw g 0,some (.int .u32 (ce2.vA + 1),True),some (.agg #[.int .u8 4,.int .u32 (ce2.vA + 1),.int .u32 0],True),pw g 0,pw g 0,pw g 0,pw g 1,some (.int .u32 q.wh,True),pw g 0,pw g 0,pw g 0,pw g 2,some (.int .u32 q.wm,True),some (.int .u64 (pair q.wh q.wm),True),some (.agg #[.int .u64 (pair q.wh q.wm),.int .u64 0],True),some (.tuple #[],True)] SS.out (fun vals=>?_) (fun vals W5 hB hall=>?_)
  · simp only [ObD,Act.put,qA,qC,qZ]
    refine ⟨?_,?_,?o4_2,?_,?_,?_,?_,?_,?_,?_,?_,?_,?_,?o4_13,?_,?o4_15,trivial⟩
    all_goals (intro L W hL hk hC hw;have f:=deps hw rfl rfl;simp only [depF,vsP,pw,qS,qD,and_true,true_and] at f)
    case o4_2=>have CL:=Lib.hid (trade_any (ce2.vA + 1) W);clear hL hC hk hw;refine spD rfl ?_;go_simp;(with_reducible refine CL.out.mono ?_);rintro e w8 ⟨rfl,h2⟩;first | exact sq h2 rfl ⟨rfl,trivial⟩ | exact ⟨_,rfl,sq h2 rfl ⟨rfl,trivial⟩⟩
    case o4_13=>have CL:=Lib.hid (pair_any q.wh q.wm (HQ.out.wh) (HQ.out.wm) W);clear hL hC hk hw;refine spD rfl ?_;go_simp;(with_reducible refine CL.out.mono ?_);rintro e w8 ⟨rfl,h2⟩;first | exact sq h2 rfl ⟨rfl,trivial⟩ | exact ⟨_,rfl,sq h2 rfl ⟨rfl,trivial⟩⟩
    case o4_15=>have CL:=Lib.hid (pk SS.out BEG.out (put_S (hC.pre hk) BEG.out (by have:=HL.out;(try simp only [List.length_append,List.length_cons,List.length_nil]);omega) 4 (ce2.vA + 1) 0 (pair q.wh q.wm) 0 (show _=l++[amt 8 4 0 (ce2.vA + 1),Pu.mk 4 (ce2.vA + 1) 0 (pair q.wh q.wm) 0 false] by simp)));clear hL hC hk hw;refine spD rfl ?_;go_simp;(with_reducible refine CL.out.mono ?_);rintro e w8 ⟨rfl,hf,H⟩;first | exact kv hf H rfl ⟨rfl,trivial⟩ | exact ⟨_,rfl,kv hf H rfl ⟨rfl,trivial⟩⟩
    all_goals (have c:=kn7 hC;clear hL hC hk hw;refine spD rfl ?_;go_simp;first | exact sv rfl ⟨rfl,trivial⟩ | exact ⟨_,rfl,sv rfl ⟨rfl,trivial⟩⟩)
  simp only [allF,vsP,pw,true_and,and_true,Nat.reduceAdd] at hall
  simp only [TL,Act.put,qA,qC,qZ,hall]
  obtain ⟨p5,hB⟩:=hB.put
  replace SS:=Lib.hid hB
  clear hall vals hB
  have cv:IntKind.u64.wrap (ce2.vA + 1)=ce2.vA + 1:=wrap_u64 (by have:=B2.out;omega) (by have:=B2.out;omega)
  obtain ⟨⟨z0,z1,z2,z3⟩,x0,x1,x2,x3⟩:=four_cells SS.out.bx.2.1.out
  go_wp2
  generalize hW:(World.setCell _ (⟨w.heap.size,3,none⟩:Addr) _)=WZ
  have b9:Box WZ w.heap.size #[.int .u16 0,.int .u64 (ce2.vA + 1),.int .u64 0,.int .u64 0] 35:=by
    rw [← hW]
    exact four_box SS.out.bx.2.1.out
  have F9:Hid (Fr (fun x=>x=w.heap.size) W5 WZ):=Lib.hid (by
    rw [← hW]
    exact four_fr)
  obtain ⟨⟨v0,v1,v2,v3⟩,-⟩:=four_cells b9
  clear hW b9 z0 z1 z2 z3 x0 x1 x2 x3
  refine bodyPost_ret (v:=.agg #[.int .u16 0,.int .u64 (ce2.vA + 1),.int .u64 0,.int .u64 0]) (by simp [results,Tryz.results69,go_sem,v0,v1,v2,v3];try rfl) rfl ?_
  refine (SS.out.wr BEG.out 1 rfl F9.out).did (y:=(⟨ce2.vA + 1,0,0⟩,l++[amt 8 4 0 (ce2.vA + 1),Pu.mk 4 (ce2.vA + 1) 0 (pair q.wh q.wm) 0 false])) ?_ rfl
  unfold oTrade
  simp only [runOm_bind,runOm_pure,run_there S0.out.1 S0.out.2,run_there S1.out.1 S1.out.2,oNumber,run_look S2.out,decide_eq_false (show ¬ 4294967295≤ce2.vA by have:=B2.out;omega),run_deny_no,oAmount,run_put,run_put,List.append_assoc,List.cons_append,List.nil_append]
  try rfl
end Go.Proofs.YtabckmadpdchnaaGreat.Rule
namespace Go.Proofs.YtabckmadpdchnaaGreat.Rule
open Go.ChangeShapes Go.WideShapes Go.ChangeAt Go.RowKit Go.IntWalk Go.Proofs.Mem Go.Proofs.Each
theorem sell_all (w:World) (g:Nat) (q:Ot) (v:Value) (base i:Nat) (p:Value) (l:List Pu) (seen:List Ce) (hst:St w g q v base i p l) (hs:SeenAt w g v seen) (hg:g < base) (hbase:base≤w.heap.size) (hl:l.length≤800) (hi:i≤800000) (hq:q.Ok) (hok:∀ c∈seen,c.Ok) :
    Calls Tryz.prog 73 #[.pointer (some ⟨g,0,none⟩)] w (Did w g q v base i p l seen (oSell q) Rp.enc):=by
  have BEG:=Lib.hid (Begin.mk hs hg hbase hq hok (fun x hx=>hst.own.lt x hx))
  obtain ⟨W0,hW0⟩:∃ W0,w.alloc (.cells #[.int .u16 0,.int .u64 0,.int .u64 0,.int .u64 0] 35)=W0:=⟨_,rfl⟩
  have SS:Hid (ST w g q v base p i p l [.box w.heap.size #[.int .u16 0,.int .u64 0,.int .u64 0,.int .u64 0] 35] W0):=Lib.hid (by rw [← hW0];exact ST.start hst BEG.out _ _)
  have HI:=Lib.hid hi
  have HQ:=Lib.hid hq
  have HOK:=Lib.hid hok
  have HL:=Lib.hid hl
  obtain ⟨ce0,hce0⟩:=the_cell seen (i)
  have CE0:=Lib.hid hce0
  obtain ⟨ce1,hce1⟩:=the_cell seen (i + 1)
  have CE1:=Lib.hid hce1
  obtain ⟨ce2,hce2⟩:=the_cell seen (i + 1 + 1)
  have CE2:=Lib.hid hce2
  clear hst hs hg hbase hl hi hq hok hce0 hce1 hce2
  go_enter Tryz.func73,Tryz.ntmps73
  go_upto_region 1 with fail
  try rw [hW0]
  clear hW0
  refine wp_SA (D:=DP w g q v base i p l seen (oSell q) Rp.enc) 9 10 11 (seen[i]?=some ce0∧ce0.is=true) False (i + 1) l [pw g 0,pw g 0,pw g 7,pw g 0,pw g 0,pw g 0,pw g 1,some (.int .u32 q.wh,True),some (.agg #[.int .u8 1,.int .u32 q.wh,.int .u32 0],True),some (.agg (thing ce0.A ce0.B 1 q.wh 0 true),True)] SS.out (fun vals=>?_) (fun vals W1 hB hall=>?_)
  · simp only [ObD,Act.put,qA,qC,qZ]
    refine ⟨?_,?_,?_,?_,?_,?_,?_,?_,?o0_8,?o0_9,trivial⟩
    all_goals (intro L W hL hk hC hw;have f:=deps hw rfl rfl;simp only [depF,vsP,pw,qS,qD,and_true,true_and] at f)
    case o0_8=>have CL:=Lib.hid (purse_any q.wh W);clear hL hC hk hw;refine spD rfl ?_;go_simp;(with_reducible refine CL.out.mono ?_);rintro e w8 ⟨rfl,h2⟩;first | exact sq h2 rfl ⟨rfl,trivial⟩ | exact ⟨_,rfl,sq h2 rfl ⟨rfl,trivial⟩⟩
    case o0_9=>
      have CL:=Lib.hid (there_K SS.out (hC.pre hk) BEG.out (by have:=HI.out;omega) CE0.out 1 q.wh 0);clear hL hC hk hw;refine spD rfl ?_;go_simp;(with_reducible refine CL.out.mono ?_);rintro e w8 (⟨h,rfl,h2⟩ | ⟨h,h3,rfl,h2⟩ | ⟨rfl,hf,H⟩)
      · exact ⟨_,rfl,Did.miss (by unfold oSell;simp only [runOm_bind,run_there_no h]) h2⟩
      · exact ⟨_,rfl,Did.err (by unfold oSell;simp only [runOm_bind,run_there_not h h3]) h2⟩
      · first | exact kv hf H rfl ⟨rfl,trivial⟩ | exact ⟨_,rfl,kv hf H rfl ⟨rfl,trivial⟩⟩
    all_goals (have c:=kn7 hC;clear hL hC hk hw;refine spD rfl ?_;go_simp;first | exact sv rfl ⟨rfl,trivial⟩ | exact ⟨_,rfl,sv rfl ⟨rfl,trivial⟩⟩)
  have S0:=Lib.hid hB.1
  simp only [allF,vsP,pw,true_and,and_true,Nat.reduceAdd] at hall
  simp only [TL,Act.put,qA,qC,qZ,hall]
  replace SS:=Lib.hid hB.st
  clear hall vals hB
  go_upto_region 2 with fail
  refine wp_SK (D:=DP w g q v base i p l seen (oSell q) Rp.enc) 14 15 16 (seen[i + 1]?=some ce1) (i + 1 + 1) #[.int .u64 ce1.vA,.int .u64 ce1.vB,.int .u8 3,.int .u32 q.wh,.int .u32 q.wt,.bool ce1.is] [pw g 0,pw g 0,pw g 7,pw g 0,pw g 0,pw g 0,pw g 1,some (.int .u32 q.wh,True),pw g 0,pw g 0,pw g 0,pw g 3,some (.int .u32 q.wt,True),some (.agg #[.int .u8 3,.int .u32 q.wh,.int .u32 q.wt],True),some (.agg (thing ce1.vA ce1.vB 3 q.wh q.wt ce1.is),True),none,none] SS.out (fun vals=>?_) (fun vals W2 hB hfin hall=>?_) (ea 15 rfl)
  · simp only [ObD,Act.put,qA,qC,qZ]
    refine ⟨?_,?_,?_,?_,?_,?_,?_,?_,?_,?_,?_,?_,?_,?o1_13,?o1_14,?o1_15,?o1_16,trivial⟩
    all_goals (intro L W hL hk hC hw;have f:=deps hw rfl rfl;simp only [depF,vsP,pw,qS,qD,and_true,true_and] at f)
    case o1_13=>have CL:=Lib.hid (stack_any q.wh q.wt W);clear hL hC hk hw;refine spD rfl ?_;go_simp;(with_reducible refine CL.out.mono ?_);rintro e w8 ⟨rfl,h2⟩;first | exact sq h2 rfl ⟨rfl,trivial⟩ | exact ⟨_,rfl,sq h2 rfl ⟨rfl,trivial⟩⟩
    case o1_14=>
      have CL:=Lib.hid (look_K SS.out (hC.pre hk) BEG.out (by have:=HI.out;omega) CE1.out 3 q.wh q.wt);clear hL hC hk hw;refine spD rfl ?_;go_simp;(with_reducible refine CL.out.mono ?_);rintro e w8 (⟨h,rfl,h2⟩ | ⟨h1,rfl,hf,H⟩)
      · exact ⟨_,rfl,Did.miss (by unfold oSell;simp only [runOm_bind,run_there S0.out.1 S0.out.2,run_look_no h]) h2⟩
      · first | exact kv hf H rfl ⟨rfl,trivial⟩ | exact ⟨_,rfl,kv hf H rfl ⟨rfl,trivial⟩⟩
    case o1_15=>have ZZ:=hC.fr.size;clear hL hC hk hw;refine spD rfl ?_;go_simp;exact am ZZ
    case o1_16=>obtain ⟨gt,C,fa,hgt,bx0,hc⟩:=Fw.geta (hw ⟨15,.data⟩ (by simp) rfl) (by decide);obtain ⟨c0,c1,c2,c3,c4,c5,rfl⟩:=arr6 hc;have q:=six_cells bx0;have BXX:=Lib.hid bx0;have FA:=Lib.hid fa;clear bx0 hc;unfold thing at f;clear hL hC hk hw;refine spD rfl ?_;go_simp;exact sm SS.out BEG.out BXX.out hgt FA.out
    all_goals (have c:=kn7 hC;clear hL hC hk hw;refine spD rfl ?_;go_simp;first | exact sv rfl ⟨rfl,trivial⟩ | exact ⟨_,rfl,sv rfl ⟨rfl,trivial⟩⟩)
  have S1:=Lib.hid hB.1
  simp only [allF,vsP,pw,true_and,and_true,Nat.reduceAdd] at hall
  obtain ⟨gt0,fa,hgt,bx⟩:=hfin
  simp only [TL,Act.put,qA,qC,qZ,hall,fa]
  replace SS:=Lib.hid (SS.out.push BEG.out hB.st SS.out.lt hgt bx)
  clear hall vals hB fa hgt bx
  go_upto_region 3 with fail
  refine wp_SA (D:=DP w g q v base i p l seen (oSell q) Rp.enc) 8 10 11 True False (i + 1 + 1) l [some (.pointer (some ⟨gt0,0,none⟩),True),some (.pointer (some ⟨gt0,0,none⟩),True),some (.int .u64 ce1.vA,True),pw g 0,pw g 0,pw g 0,pw g 5,some (.int .u64 q.n,True),some (.int .u64 (ce1.vA - q.n),Ls ce1.vA q.n),some (.int .u64 (ce1.vA - q.n),True)] SS.out (fun vals=>?_) (fun vals W3 hB hall=>?_)
  · simp only [ObD,Act.put,qA,qC,qZ]
    refine ⟨?_,?_,?o2_2,?_,?_,?_,?_,?_,?o2_8,?_,trivial⟩
    all_goals (intro L W hL hk hC hw;have f:=deps hw rfl rfl;simp only [depF,vsP,pw,qS,qD,and_true,true_and] at f)
    case' o2_2=>have k0:W.cell? ⟨gt0,0,none⟩=some (.int .u64 ce1.vA):=(cw_bx hC).1.out.cell 0
    case o2_8=>
      have CL:=Lib.hid (less_K (w0:=W2) (vA_ok HOK.out S1.out) HQ.out.n (hC.pre hk) BEG.out);clear hL hC hk hw;refine spD rfl ?_;go_simp;(with_reducible refine CL.out.mono ?_)
      rintro e w8 (⟨h,rfl,h2⟩ | ⟨⟨h,h3⟩,rfl,h2⟩ | ⟨h1,rfl,hf,H⟩)
      · exact ⟨_,rfl,Did.err (by unfold oSell;simp only [runOm_bind,run_there S0.out.1 S0.out.2,run_look S1.out,run_less_great h]) h2⟩
      · exact ⟨_,rfl,Did.err (by unfold oSell;simp only [runOm_bind,run_there S0.out.1 S0.out.2,run_look S1.out,run_less_low h h3]) h2⟩
      · first | exact kv hf H rfl ⟨rfl,h1⟩ | exact ⟨_,rfl,kv hf H rfl ⟨rfl,h1⟩⟩
    all_goals (have c:=kn7 hC;clear hL hC hk hw;refine spD rfl ?_;go_simp;first | exact sv rfl ⟨rfl,trivial⟩ | exact ⟨_,rfl,sv rfl ⟨rfl,trivial⟩⟩)
  have C3:Hid (Ls ce1.vA q.n):=Lib.hid (vsP_c (hall.get 8))
  simp only [allF,vsP,pw,true_and,and_true,Nat.reduceAdd] at hall
  simp only [TL,Act.put,qA,qC,qZ,hall]
  replace SS:=Lib.hid hB.st
  clear hall vals hB
  have CALL:=Lib.hid (number_S SS.out BEG.out (by have:=HI.out;omega) 6 (by omega))
  go_wp2_with fail
  (with_reducible refine CALL.out.mono ?_)
  rintro e W4 (⟨k,a,b,h1,rfl,h2⟩ | ⟨m,h1,rfl,h2⟩ | ⟨c,p4,h1,hb,rfl,hs⟩)
  · exact ⟨rfl,Did.miss (by unfold oSell;simp only [runOm_bind,run_there S0.out.1 S0.out.2,run_look S1.out,run_less C3.out.1 C3.out.2,oNumber_T,h1]) h2⟩
  · exact ⟨rfl,Did.err (by unfold oSell;simp only [runOm_bind,run_there S0.out.1 S0.out.2,run_look S1.out,run_less C3.out.1 C3.out.2,oNumber_T,h1]) h2⟩
  obtain rfl:ce2=c:=(CE2.out c h1).symm
  have S2:=Lib.hid h1
  have B2:=Lib.hid hb
  replace SS:=Lib.hid (hs.alloc BEG.out #[.int .u64 (ce2.vA + 1),.int .u64 ce2.vB,.int .u8 8,.int .u32 6,.int .u32 0,.bool ce2.is] 130)
  clear CALL hs h1 hb
  obtain ⟨⟨y0,y1,y2,y3,y4,y5⟩,-⟩:=six_cells SS.out.bx.2.1.out
  have CALL:=Lib.hid (amount_S SS.out BEG.out (by have:=HL.out;(try simp only [List.length_append,List.length_cons,List.length_nil]);omega) 3 q.wh q.wt (ce1.vA - q.n) (show _=l++[amt 3 q.wh q.wt (ce1.vA - q.n)] by simp))
  go_wp2_with fail
  (with_reducible refine CALL.out.mono ?_)
  rintro e W5 ⟨rfl,hf,p5,hs⟩
  replace SS:=Lib.hid hs
  clear CALL hf hs y0 y1 y2 y3 y4 y5
  obtain ⟨⟨y0,y1,y2,y3,y4,y5⟩,-⟩:=six_cells SS.out.bx.1.out
  have CALL:=Lib.hid (amount_S SS.out BEG.out (by have:=HL.out;(try simp only [List.length_append,List.length_cons,List.length_nil]);omega) 8 6 0 (ce2.vA + 1) (show _=l++[amt 3 q.wh q.wt (ce1.vA - q.n),amt 8 6 0 (ce2.vA + 1)] by simp))
  go_wp2_with fail
  (with_reducible refine CALL.out.mono ?_)
  rintro e W6 ⟨rfl,hf,p6,hs⟩
  replace SS:=Lib.hid hs
  clear CALL hf hs y0 y1 y2 y3 y4 y5
  go_upto_region 7 with fail
  refine wp_SA (D:=DP w g q v base i p l seen (oSell q) Rp.enc) 20 21 22 True True (i + 1 + 1 + 1) (l++[amt 3 q.wh q.wt (ce1.vA - q.n),amt 8 6 0 (ce2.vA + 1),Pu.mk 6 (ce2.vA + 1) 0 (pair q.wh q.wt) q.n false]) [pw g 0,some (.int .u32 (ce2.vA + 1),True),some (.agg #[.int .u8 6,.int .u32 (ce2.vA + 1),.int .u32 0],True),pw g 0,pw g 0,pw g 0,pw g 1,some (.int .u32 q.wh,True),pw g 0,pw g 0,pw g 0,pw g 3,some (.int .u32 q.wt,True),some (.int .u64 (pair q.wh q.wt),True),pw g 0,pw g 0,pw g 0,pw g 5,some (.int .u64 q.n,True),some (.agg #[.int .u64 (pair q.wh q.wt),.int .u64 q.n],True),some (.tuple #[],True)] SS.out (fun vals=>?_) (fun vals W7 hB hall=>?_)
  · simp only [ObD,Act.put,qA,qC,qZ]
    refine ⟨?_,?_,?o6_2,?_,?_,?_,?_,?_,?_,?_,?_,?_,?_,?o6_13,?_,?_,?_,?_,?_,?_,?o6_20,trivial⟩
    all_goals (intro L W hL hk hC hw;have f:=deps hw rfl rfl;simp only [depF,vsP,pw,qS,qD,and_true,true_and] at f)
    case o6_2=>have CL:=Lib.hid (auction_any (ce2.vA + 1) W);clear hL hC hk hw;refine spD rfl ?_;go_simp;(with_reducible refine CL.out.mono ?_);rintro e w8 ⟨rfl,h2⟩;first | exact sq h2 rfl ⟨rfl,trivial⟩ | exact ⟨_,rfl,sq h2 rfl ⟨rfl,trivial⟩⟩
    case o6_13=>have CL:=Lib.hid (pair_any q.wh q.wt (HQ.out.wh) (HQ.out.wt) W);clear hL hC hk hw;refine spD rfl ?_;go_simp;(with_reducible refine CL.out.mono ?_);rintro e w8 ⟨rfl,h2⟩;first | exact sq h2 rfl ⟨rfl,trivial⟩ | exact ⟨_,rfl,sq h2 rfl ⟨rfl,trivial⟩⟩
    case o6_20=>have CL:=Lib.hid (pk SS.out BEG.out (put_S (hC.pre hk) BEG.out (by have:=HL.out;(try simp only [List.length_append,List.length_cons,List.length_nil]);omega) 6 (ce2.vA + 1) 0 (pair q.wh q.wt) q.n (show _=l++[amt 3 q.wh q.wt (ce1.vA - q.n),amt 8 6 0 (ce2.vA + 1),Pu.mk 6 (ce2.vA + 1) 0 (pair q.wh q.wt) q.n false] by simp)));clear hL hC hk hw;refine spD rfl ?_;go_simp;(with_reducible refine CL.out.mono ?_);rintro e w8 ⟨rfl,hf,H⟩;first | exact kv hf H rfl ⟨rfl,trivial⟩ | exact ⟨_,rfl,kv hf H rfl ⟨rfl,trivial⟩⟩
    all_goals (have c:=kn7 hC;clear hL hC hk hw;refine spD rfl ?_;go_simp;first | exact sv rfl ⟨rfl,trivial⟩ | exact ⟨_,rfl,sv rfl ⟨rfl,trivial⟩⟩)
  simp only [allF,vsP,pw,true_and,and_true,Nat.reduceAdd] at hall
  simp only [TL,Act.put,qA,qC,qZ,hall]
  obtain ⟨p7,hB⟩:=hB.put
  replace SS:=Lib.hid hB
  clear hall vals hB
  go_upto_region 8 with fail
  refine wp_SA (D:=DP w g q v base i p l seen (oSell q) Rp.enc) 8 9 10 True True (i + 1 + 1 + 1) (l++[amt 3 q.wh q.wt (ce1.vA - q.n),amt 8 6 0 (ce2.vA + 1),Pu.mk 6 (ce2.vA + 1) 0 (pair q.wh q.wt) q.n false,amt 7 (ce2.vA + 1) 1 q.pr]) [pw g 0,some (.int .u32 (ce2.vA + 1),True),some (.agg #[.int .u8 7,.int .u32 (ce2.vA + 1),.int .u32 1],True),pw g 0,pw g 0,pw g 0,pw g 6,some (.int .u64 q.pr,True),some (.tuple #[],True)] SS.out (fun vals=>?_) (fun vals W8 hB hall=>?_)
  · simp only [ObD,Act.put,qA,qC,qZ]
    refine ⟨?_,?_,?o7_2,?_,?_,?_,?_,?_,?o7_8,trivial⟩
    all_goals (intro L W hL hk hC hw;have f:=deps hw rfl rfl;simp only [depF,vsP,pw,qS,qD,and_true,true_and] at f)
    case o7_2=>have CL:=Lib.hid (price_any (ce2.vA + 1) W);clear hL hC hk hw;refine spD rfl ?_;go_simp;(with_reducible refine CL.out.mono ?_);rintro e w8 ⟨rfl,h2⟩;first | exact sq h2 rfl ⟨rfl,trivial⟩ | exact ⟨_,rfl,sq h2 rfl ⟨rfl,trivial⟩⟩
    case o7_8=>have CL:=Lib.hid (pk SS.out BEG.out (amount_S (hC.pre hk) BEG.out (by have:=HL.out;(try simp only [List.length_append,List.length_cons,List.length_nil]);omega) 7 (ce2.vA + 1) 1 q.pr (show _=l++[amt 3 q.wh q.wt (ce1.vA - q.n),amt 8 6 0 (ce2.vA + 1),Pu.mk 6 (ce2.vA + 1) 0 (pair q.wh q.wt) q.n false,amt 7 (ce2.vA + 1) 1 q.pr] by simp)));clear hL hC hk hw;refine spD rfl ?_;go_simp;(with_reducible refine CL.out.mono ?_);rintro e w8 ⟨rfl,hf,H⟩;first | exact kv hf H rfl ⟨rfl,trivial⟩ | exact ⟨_,rfl,kv hf H rfl ⟨rfl,trivial⟩⟩
    all_goals (have c:=kn7 hC;clear hL hC hk hw;refine spD rfl ?_;go_simp;first | exact sv rfl ⟨rfl,trivial⟩ | exact ⟨_,rfl,sv rfl ⟨rfl,trivial⟩⟩)
  simp only [allF,vsP,pw,true_and,and_true,Nat.reduceAdd] at hall
  simp only [TL,Act.put,qA,qC,qZ,hall]
  obtain ⟨p8,hB⟩:=hB.put
  replace SS:=Lib.hid hB
  clear hall vals hB
  have cv:IntKind.u64.wrap (ce2.vA + 1)=ce2.vA + 1:=wrap_u64 (by have:=B2.out;omega) (by have:=B2.out;omega)
  obtain ⟨⟨z0,z1,z2,z3⟩,x0,x1,x2,x3⟩:=four_cells SS.out.bx.2.2.1.out
  go_wp2
  generalize hW:(World.setCell _ (⟨w.heap.size,3,none⟩:Addr) _)=WZ
  have b9:Box WZ w.heap.size #[.int .u16 0,.int .u64 (ce2.vA + 1),.int .u64 0,.int .u64 0] 35:=by
    rw [← hW]
    exact four_box SS.out.bx.2.2.1.out
  have F9:Hid (Fr (fun x=>x=w.heap.size) W8 WZ):=Lib.hid (by
    rw [← hW]
    exact four_fr)
  obtain ⟨⟨v0,v1,v2,v3⟩,-⟩:=four_cells b9
  clear hW b9 z0 z1 z2 z3 x0 x1 x2 x3
  refine bodyPost_ret (v:=.agg #[.int .u16 0,.int .u64 (ce2.vA + 1),.int .u64 0,.int .u64 0]) (by simp [results,Tryz.results73,go_sem,v0,v1,v2,v3];try rfl) rfl ?_
  refine (SS.out.wr BEG.out 2 rfl F9.out).did (y:=(⟨ce2.vA + 1,0,0⟩,l++[amt 3 q.wh q.wt (ce1.vA - q.n),amt 8 6 0 (ce2.vA + 1),Pu.mk 6 (ce2.vA + 1) 0 (pair q.wh q.wt) q.n false,amt 7 (ce2.vA + 1) 1 q.pr])) ?_ rfl
  unfold oSell
  simp only [runOm_bind,runOm_pure,run_there S0.out.1 S0.out.2,run_look S1.out,run_less C3.out.1 C3.out.2,oNumber,run_look S2.out,decide_eq_false (show ¬ 4294967295≤ce2.vA by have:=B2.out;omega),run_deny_no,oAmount,run_put,oAmount,run_put,run_put,oAmount,run_put,List.append_assoc,List.cons_append,List.nil_append]
  try rfl
end Go.Proofs.YtabckmadpdchnaaGreat.Rule
namespace Go.Proofs.YtabckmadpdchnaaGreat.Rule
open Go.ChangeShapes Go.WideShapes Go.ChangeAt Go.RowKit Go.IntWalk Go.Proofs.Mem
def Ref (kd wh wm wt id n pr e:Int):Prop:=∀ (A:Option Addr) (l c:Nat) (W:World),Calls Tryz.prog 33 #[.agg #[.int .u8 kd,.int .u32 wh,.int .u32 wm,.int .u32 wt,.int .u32 id,.int .u64 n,.int .u64 pr],.slice A l c] W fun en w'=>en=.returned (.agg (outE e))∧Below W.heap.size W w'
theorem c8:Tryz.prog.cellsOf 5=1:=by kernel_rfl
theorem c32:Tryz.prog.cellsOf 23=1:=by kernel_rfl
theorem c64:Tryz.prog.cellsOf 27=1:=by kernel_rfl
theorem cOp:Tryz.prog.cellsOf 29=7:=by kernel_rfl
section
variable {H:Type} {enc:TypeId × Value→H} {W:World} {base:Nat} {spare:Nat→Bool} {held:Bool}
theorem list7 {l:List Value} (h:l.length=7):∃ a b c d e f g,l=[a,b,c,d,e,f,g]:=by
  match l,h with
  | [a,b,c,d,e,f,g],_=>exact ⟨a,b,c,d,e,f,g,rfl⟩
theorem one_int {k:IntKind} {t:TypeId} {n:Nat} {c:Value} {o:Option (DataW H × List MemPlace)} (ht:Tryz.prog.underlying t=some (.int k)) (h:DataW.trod enc Tryz.prog W base spare held n t [c]=o) (ho:o.isSome=true):∃ x,c=.int k x∧(Lit.int k x).wf=true:=by
  cases o with
  | none=>cases ho
  | some y=>
    obtain ⟨x,e,_,hw⟩:=DataW.trod_int ht h
    injection e with e _
    exact ⟨x,e,hw⟩
theorem some_at {α:Type} {l:List α} {i:Nat} (h:i < l.length):(l[i]?).isSome=true:=by simp [h]
end
end Go.Proofs.YtabckmadpdchnaaGreat.Rule
namespace Go.Proofs.YtabckmadpdchnaaGreat.Rule
open Go.ChangeShapes Go.WideShapes Go.ChangeAt Go.RowKit Go.IntWalk Go.Proofs.Mem
theorem cKey:Tryz.prog.cellsOf 49=3:=by kernel_rfl
theorem cVal:Tryz.prog.cellsOf 51=2:=by kernel_rfl
theorem cBool:Tryz.prog.cellsOf 4=1:=by kernel_rfl
theorem cCell:Tryz.prog.cellsOf 53=6:=by kernel_rfl
theorem list6 {l:List Value} (h:l.length=6):∃ a b c d e f,l=[a,b,c,d,e,f]:=by
  match l,h with
  | [a,b,c,d,e,f],_=>exact ⟨a,b,c,d,e,f,rfl⟩
section
variable {H:Type} {enc:TypeId × Value→H} {W:World} {base:Nat} {spare:Nat→Bool} {held:Bool}
theorem one_bool {t:TypeId} {n:Nat} {c:Value} {o:Option (DataW H × List MemPlace)} (ht:Tryz.prog.underlying t=some .bool) (h:DataW.trod enc Tryz.prog W base spare held n t [c]=o) (ho:o.isSome=true):∃ x,c=.bool x:=by
  cases o with
  | none=>cases ho
  | some y=>
    obtain ⟨x,e,_⟩:=DataW.trod_bool ht h
    injection e with e _
    exact ⟨x,e⟩
theorem one_val {n:Nat} {a0 a1:Value} {o:Option (DataW H × List MemPlace)} (h:DataW.trod enc Tryz.prog W base spare held n 51 [a0,a1]=o) (ho:o.isSome=true):∃ A B,a0=.int .u64 A∧a1=.int .u64 B∧(0≤A∧A≤18446744073709551615)∧0≤B∧B≤18446744073709551615:=by
  cases o with
  | none=>cases ho
  | some y=>
    obtain ⟨xs,n',_,_,_,hl,hg⟩:=DataW.trod_struct Tryz.underlying51 h
    have h0:=hg 0 _ rfl
    have h1:=hg 1 _ rfl
    simp [c64] at h0 h1 hl
    obtain ⟨x0,rfl,w0⟩:=one_int Tryz.underlying27 h0 (some_at (by omega))
    obtain ⟨x1,rfl,w1⟩:=one_int Tryz.underlying27 h1 (some_at (by omega))
    exact ⟨x0,x1,rfl,rfl,bounds_u64 w0,bounds_u64 w1⟩
end
end Go.Proofs.YtabckmadpdchnaaGreat.Rule
