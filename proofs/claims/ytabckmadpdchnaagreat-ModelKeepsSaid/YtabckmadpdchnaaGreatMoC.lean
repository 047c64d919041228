import Derived.Test.YtabckmadpdchnaaGreatMo0
import Derived.Test.YtabckmadpdchnaaGreatMo1
import Derived.Test.YtabckmadpdchnaaGreatMo2
import Derived.Test.YtabckmadpdchnaaGreatMo3
import Derived.Test.YtabckmadpdchnaaGreatMo4
import Derived.Test.YtabckmadpdchnaaGreatMo5
import Derived.Test.YtabckmadpdchnaaGreatMo6
import Derived.Test.YtabckmadpdchnaaGreatMo8
import Derived.Test.YtabckmadpdchnaaGreatMoA
import Derived.Test.YtabckmadpdchnaaGreatMoB
import Derived.BigQuiet
set_option linter.unusedVariables false
set_option linter.deprecated false
set_option linter.unusedSimpArgs false
set_option linter.unnecessarySimpa false
set_option maxRecDepth 100000
set_option maxHeartbeats 8000000
namespace Go.Proofs.YtabckmadpdchnaaGreat.Rule
open Go.ChangeShapes Go.WideShapes Go.ChangeAt Go.RowKit Go.IntWalk Go.Proofs.Mem Go.Proofs.Each
theorem pile_lt {ts:List Th} {k:Nat} {t:Th} (h:ts[k]?=some t):k * 6 < (pileC ts).size:=by
  rw [pileC_size];have:=(List.getElem?_eq_some_iff.1 h).1;omega
theorem less_ok {xs ms:List Int} {f:Int→Int} {n:Nat} (hl:ms.length=xs.length) (hn:xs.length≤n) (hm:∀ (t:Nat) a,ms[t]?=some a→0≤a∧a≤18446744073709551615) (hf:∀ x,0≤f x∧f x≤18446744073709551615) (hs:∀ (t:Nat) x a,xs[t]?=some x→ms[t]?=some a→Ls a (f x)) {t:Nat} {b:Int} (h:(chg (fun x a=>a - f x) n xs ms)[t]?=some b):0≤b∧b≤18446744073709551615:=by
  induction n generalizing xs ms t with
  | zero=>rw [chg_zero] at h;exact hm t b h
  | succ n ih=>
    match xs,ms,t,h with
    | [],ms,t,h=>exact hm t b (by cases ms <;> simpa [chg] using h)
    | x :: xs,[],t,h=>simp [chg] at h
    | x :: xs,a :: ms,0,h=>
      have e:a - f x=b:=by simpa [chg] using h
      have h1:=hs 0 x a rfl rfl
      have h2:=hm 0 a rfl
      have h3:=hf x
      have:=h1.2
      omega
    | x :: xs,a :: ms,t + 1,h=>exact ih (by simpa using hl) (by simpa using hn) (fun t a h=>hm (t + 1) a (by simpa using h)) (fun t y b h1 h2=>hs (t + 1) y b (by simpa using h1) (by simpa using h2)) (by simpa [chg] using h)
theorem craft_ok {seen:List Ce} {cs:List Ce} {j:Nat} (h:∀ c∈seen,c.Ok) (hs:∀ (t:Nat) c,cs[t]?=some c→seen[j + t]?=some c) {t:Nat} {a:Int} (ha:(cs.map Ce.vA)[t]?=some a):0≤a∧a≤18446744073709551615:=by
  rw [List.getElem?_map] at ha
  cases hc:cs[t]? with
  | none=>rw [hc] at ha;cases ha
  | some c=>
    rw [hc] at ha
    have e:c.vA=a:=by simpa using ha
    rw [← e];exact vA_ok h (hs t c hc)
def L1 (w:World) (g:Nat) (q:Ot) (v:Value) (base:Nat) (p:Value) (l:List Pu) (seen:List Ce) (i:Nat) (xs:List Int) (B0:List Bx) (k:Nat) (u:Value) (W:World):Prop:=
  ∃ cs:List Ce,cs.length=k∧(∀ (t:Nat) c,cs[t]?=some c→seen[i + 1 + t]?=some c)∧((k=0∧u=.slice none 0 0∧ST w g q v base p (i + 1) p l B0 W)∨(∃ gk cap,u=.slice (some ⟨gk,0,none⟩) k cap∧ST w g q v base p (i + 1 + k) p l (.pile gk k cap (pileC (ths q.wh xs cs (cs.map Ce.vA))) :: B0) W))
theorem pile_one {wh x:Int} {xs:List Int} {c:Ce} (h:xs[0]?=some x):pileC (ths wh xs [c] ([c].map Ce.vA))=#[.int .u64 c.vA,.int .u64 c.vB,.int .u8 3,.int .u32 wh,.int .u32 x,.bool c.is]:=by
  cases xs with
  | nil=>simp at h
  | cons y r=>
    have e:y=x:=by simpa using h
    subst e
    cases r <;> rfl
theorem row_cur {cur:Array Value} {n:Nat} {xs:List Int} (ht:cur.toList.take n=xs.map (.int .u32)) (hl:xs.length=n) {i:Nat} {x:Int} (hx:xs[i]?=some x):cur[i]?=some (.int .u32 x):=by
  have hi:i < xs.length:=(List.getElem?_eq_some_iff.1 hx).1
  have h2:(xs.map (Value.int .u32))[i]?=some (.int .u32 x):=by simp [hx]
  rw [← ht,List.getElem?_take,if_pos (by omega)] at h2
  simpa using h2
theorem craft_two (id:Int) (h:1≤id∧id≤6):2≤(craftItems id).length∧(craftItems id).length≤4:=by
  have:id=1∨id=2∨id=3∨id=4∨id=5∨id=6:=by omega
  rcases this with rfl | rfl | rfl | rfl | rfl | rfl <;> decide
theorem craft_lens (id n:Int) (h:Stk.errN id n=0):(Stk.inN id n).map (·.1)++(Stk.outN id n).map (·.1)=rawItems id∧(0 < (Stk.inN id n).length∧(Stk.inN id n).length≤6)∧(0 < (Stk.outN id n).length∧(Stk.outN id n).length≤6)∧1≤id∧id≤6:=by
  have h6:1≤id∧id≤6:=by
    unfold Stk.errN Stk.isS at h
    by_cases e:1≤id∧id≤6
    · exact e
    · rw [decide_eq_false e] at h;simp at h
  have e1:Stk.inN id n=Stk.times n (Stk.lineS id).1:=by unfold Stk.inN;rw [if_pos h]
  have e2:Stk.outN id n=Stk.times n (Stk.lineS id).2:=by unfold Stk.outN;rw [if_pos h]
  rw [e1,e2,times_fst,times_fst,Stk.times_len,Stk.times_len]
  refine ⟨by unfold rawItems;rw [List.map_append],?_,?_,h6⟩
  all_goals
    have:id=1∨id=2∨id=3∨id=4∨id=5∨id=6:=by omega
    rcases this with rfl | rfl | rfl | rfl | rfl | rfl <;> decide
theorem craft_bad (w:World) (g:Nat) (q:Ot) (v:Value) (base i:Nat) (p:Value) (l:List Pu) (seen:List Ce) (hst:St w g q v base i p l) (hs:SeenAt w g v seen) (hg:g < base) (hbase:base≤w.heap.size) (hl:l.length≤700) (hi:i≤700000) (hq:q.Ok) (hok:∀ c∈seen,c.Ok) (he:Stk.errN q.wt q.n≠0) :
    Calls Tryz.prog 68 #[.pointer (some ⟨g,0,none⟩)] w (Did w g q v base i p l seen (oCraft q) Rp.enc):=by
  have BEG:=Lib.hid (Begin.mk hs hg hbase hq hok (fun x hx=>hst.own.lt x hx))
  obtain ⟨W0,hW0⟩:∃ W0,w.alloc (.cells #[.int .u16 0,.int .u64 0,.int .u64 0,.int .u64 0] 35)=W0:=⟨_,rfl⟩
  have SS:Hid (ST w g q v base p i p l [.box w.heap.size #[.int .u16 0,.int .u64 0,.int .u64 0,.int .u64 0] 35] W0):=Lib.hid (by rw [← hW0];exact ST.start hst BEG.out _ _)
  have HI:=Lib.hid hi
  have HQ:=Lib.hid hq
  have HOK:=Lib.hid hok
  have HL:=Lib.hid hl
  have HE:=Lib.hid he
  obtain ⟨ce0,hce0⟩:=the_cell seen (i)
  have CE0:=Lib.hid hce0
  clear hst hs hg hbase hl hi hq hok he hce0
  go_enter Tryz.func68,Tryz.ntmps68
  go_upto_region 1 with fail
  try rw [hW0]
  clear hW0
  have NEED:=Lib.hid (fun W (hz:W0.heap.size≤W.heap.size)=>needs_b q.wt q.n HQ.out.n W)
  refine wp_SN 85 (by decide) 10 11 12 14 15 (Stk.errN q.wt q.n) Xb [pw g 0,pw g 0,pw g 0,pw g 3,some (.int .u32 q.wt,True),pw g 0,pw g 0,pw g 0,pw g 5,some (.int .u64 q.n,True),none,none,none,some (.int .u16 (Stk.errN q.wt q.n),True),none,none,some (.int .u16 (Stk.errN q.wt q.n),True)] SS.out BEG.out (fun _ _ _ _ h=>h) (fun _ _ _ _ _ _ _ h=>h) (fun vals=>?_) (fun vals W1 gb u1 u2 hS fa hgb bx hX hall=>?_) (ea 14 rfl) ⟨rfl,rfl,rfl,rfl,rfl⟩
  · simp only [ObD,Act.put,List.setIfInBounds_toArray,List.set_cons_succ,List.set_cons_zero]
    refine ⟨?_,?_,?_,?_,?_,?_,?_,?_,?_,?_,?n10,?n11,?n12,?n13,?n14,?n15,?_,trivial⟩
    all_goals (intro L W hL hk hC hw;have f:=depsN hw ⟨rfl,rfl,rfl,rfl,rfl⟩;simp only [depF,vsP,pw,List.getD_cons_succ,List.getD_cons_zero,and_true,true_and] at f)
    case n10=>have CL:=Lib.hid (NEED.out W hC.2);clear hL hC hk hw;refine step_plainD rfl ?_;go_simp;(with_reducible refine CL.out.mono ?_);rintro e w8 ⟨u,rfl,hx,h2⟩;first | exact ⟨rn_b (by decide) h2,fn_k (by decide) (by decide) (.inl rfl) hx⟩ | exact ⟨_,rfl,⟨rn_b (by decide) h2,fn_k (by decide) (by decide) (.inl rfl) hx⟩⟩
    case n11=>obtain ⟨u,fu,hx⟩:=fn_gk (hw ⟨10,.data⟩ (by simp) rfl) (by decide) (by decide) (.inl rfl);have HX:=Lib.hid hx;clear hx;clear hL hC hk hw;refine step_plainD rfl ?_;go_simp;first | exact ⟨rn_same (by decide),fn_k (by decide) (by decide) (.inr rfl) HX.out⟩ | exact ⟨_,rfl,⟨rn_same (by decide),fn_k (by decide) (by decide) (.inr rfl) HX.out⟩⟩
    case n12=>obtain ⟨u,fu,hx⟩:=fn_gk (hw ⟨11,.data⟩ (by simp) rfl) (by decide) (by decide) (.inr rfl);have HX:=Lib.hid hx;clear hx;clear hL hC hk hw;refine step_plainD rfl ?_;go_simp;first | exact ⟨rn_same (by decide),fn_x (by decide) (by decide) (by decide) HX.out⟩ | exact ⟨_,rfl,⟨rn_same (by decide),fn_x (by decide) (by decide) (by decide) HX.out⟩⟩
    case n13=>obtain ⟨u,fu,hx⟩:=fn_gk (hw ⟨11,.data⟩ (by simp) rfl) (by decide) (by decide) (.inr rfl);clear hx;clear hL hC hk hw;refine step_plainD rfl ?_;go_simp;first | exact pn rfl ⟨rfl,trivial⟩ | exact ⟨_,rfl,pn rfl ⟨rfl,trivial⟩⟩
    case n14=>have ZZ:=hC.2;clear hL hC hk hw;refine step_plainD rfl ?_;go_simp;first | exact fn_a ZZ | exact ⟨_,rfl,fn_a ZZ⟩
    case n15=>obtain ⟨gb,u1,u2,fa,hgb,bx⟩:=fn_ga (hw ⟨14,.data⟩ (by simp) rfl) (by decide);have hx:=fn_gx (hw ⟨12,.data⟩ (by simp) rfl) (by decide) (by decide) (by decide);obtain ⟨A1,n1,c1,A2,n2,c2,fv⟩:=id hx;rw [fv] at hx;have q0:=bx.cell 0;have q1:=bx.cell 1;simp only [List.getElem?_toArray,List.getElem?_cons_zero,List.getElem?_cons_succ] at q0 q1;have r0:=bx.frozen 0;have r1:=bx.frozen 1;have HX:=Lib.hid hx;have BXX:=Lib.hid bx;have FA:=Lib.hid fa;clear hx bx;clear hL hC hk hw;refine step_plainD rfl ?_;go_simp;exact fn_s (fun _ _ _ _ _ _ _ h=>h) BXX.out hgb FA.out HX.out
    all_goals (have c:=st7 hC.1;clear hL hC hk hw;refine step_plainD rfl ?_;go_simp;first | exact pn rfl ⟨rfl,trivial⟩ | exact ⟨_,rfl,pn rfl ⟨rfl,trivial⟩⟩)
  simp only [allF,vsP,pw,true_and,and_true,Nat.reduceAdd] at hall
  simp only [TL,Act.put,List.setIfInBounds_toArray,List.set_cons_succ,List.set_cons_zero,hall,fa]
  clear hall fa
  generalize vals 10=z10
  generalize vals 11=z11
  generalize vals 12=z12
  have LOW:=Lib.hid (hS.low BEG.out)
  have dk:(Stk.errN q.wt q.n == 0)=false:=by simpa using HE.out
  have dk2:(Stk.errN q.wt q.n != 0)=true:=by simpa using HE.out
  clear hS hgb bx hX vals SS NEED
  go_wp2_with fail
  (with_reducible refine (deny_yes _ _).mono ?_)
  rintro e W2 ⟨rfl,rfl⟩
  exact ⟨rfl,Did.err (by unfold oCraft;simp only [runOm_bind,decide_eq_true HE.out,run_deny_yes]) LOW.out⟩
theorem craft_good (w:World) (g:Nat) (q:Ot) (v:Value) (base i:Nat) (p:Value) (l:List Pu) (seen:List Ce) (hst:St w g q v base i p l) (hs:SeenAt w g v seen) (hg:g < base) (hbase:base≤w.heap.size) (hl:l.length≤700) (hi:i≤700000) (hq:q.Ok) (hok:∀ c∈seen,c.Ok) (he:Stk.errN q.wt q.n=0) :
    Calls Tryz.prog 68 #[.pointer (some ⟨g,0,none⟩)] w (Did w g q v base i p l seen (oCraft q) Rp.enc):=by
  have BEG:=Lib.hid (Begin.mk hs hg hbase hq hok (fun x hx=>hst.own.lt x hx))
  obtain ⟨W0,hW0⟩:∃ W0,w.alloc (.cells #[.int .u16 0,.int .u64 0,.int .u64 0,.int .u64 0] 35)=W0:=⟨_,rfl⟩
  have SS:Hid (ST w g q v base p i p l [.box w.heap.size #[.int .u16 0,.int .u64 0,.int .u64 0,.int .u64 0] 35] W0):=Lib.hid (by rw [← hW0];exact ST.start hst BEG.out _ _)
  have HI:=Lib.hid hi
  have HQ:=Lib.hid hq
  have HOK:=Lib.hid hok
  have HL:=Lib.hid hl
  have HE:=Lib.hid he
  obtain ⟨ce0,hce0⟩:=the_cell seen (i)
  have CE0:=Lib.hid hce0
  clear hst hs hg hbase hl hi hq hok he hce0
  go_enter Tryz.func68,Tryz.ntmps68
  go_upto_region 1 with fail
  try rw [hW0]
  clear hW0
  have NEED:=Lib.hid (fun W (hz:W0.heap.size≤W.heap.size)=>needs_g q.wt q.n HE.out W0.heap.size W hz)
  have LEN:=Lib.hid (craft_lens q.wt q.n HE.out)
  refine wp_SN 85 (by decide) 10 11 12 14 15 0 (Xg W0.heap.size (Stk.inN q.wt q.n).length (Stk.outN q.wt q.n).length (Stk.inN q.wt q.n) (Stk.outN q.wt q.n)) [pw g 0,pw g 0,pw g 0,pw g 3,some (.int .u32 q.wt,True),pw g 0,pw g 0,pw g 0,pw g 5,some (.int .u64 q.n,True),none,none,none,some (.int .u16 0,True),none,none,some (.int .u16 0,True)] SS.out BEG.out (fun _ _ _ hb h=>h.later hb) (fun _ _ _ _ _ hx hf h=>h.fr hx hf) (fun vals=>?_) (fun vals W1 gb u1 u2 hS fa hgb bx hX hall=>?_) (ea 14 rfl) ⟨rfl,rfl,rfl,rfl,rfl⟩
  · simp only [ObD,Act.put,List.setIfInBounds_toArray,List.set_cons_succ,List.set_cons_zero]
    refine ⟨?_,?_,?_,?_,?_,?_,?_,?_,?_,?_,?n10,?n11,?n12,?n13,?n14,?n15,?_,trivial⟩
    all_goals (intro L W hL hk hC hw;have f:=depsN hw ⟨rfl,rfl,rfl,rfl,rfl⟩;simp only [depF,vsP,pw,List.getD_cons_succ,List.getD_cons_zero,and_true,true_and] at f)
    case n10=>have CL:=Lib.hid (NEED.out W hC.2);clear hL hC hk hw;refine step_plainD rfl ?_;go_simp;(with_reducible refine CL.out.mono ?_);rintro e w8 ⟨u,rfl,hx,h2⟩;first | exact ⟨rn_b (by decide) h2,fn_k (by decide) (by decide) (.inl rfl) hx⟩ | exact ⟨_,rfl,⟨rn_b (by decide) h2,fn_k (by decide) (by decide) (.inl rfl) hx⟩⟩
    case n11=>obtain ⟨u,fu,hx⟩:=fn_gk (hw ⟨10,.data⟩ (by simp) rfl) (by decide) (by decide) (.inl rfl);have HX:=Lib.hid hx;clear hx;clear hL hC hk hw;refine step_plainD rfl ?_;go_simp;first | exact ⟨rn_same (by decide),fn_k (by decide) (by decide) (.inr rfl) HX.out⟩ | exact ⟨_,rfl,⟨rn_same (by decide),fn_k (by decide) (by decide) (.inr rfl) HX.out⟩⟩
    case n12=>obtain ⟨u,fu,hx⟩:=fn_gk (hw ⟨11,.data⟩ (by simp) rfl) (by decide) (by decide) (.inr rfl);have HX:=Lib.hid hx;clear hx;clear hL hC hk hw;refine step_plainD rfl ?_;go_simp;first | exact ⟨rn_same (by decide),fn_x (by decide) (by decide) (by decide) HX.out⟩ | exact ⟨_,rfl,⟨rn_same (by decide),fn_x (by decide) (by decide) (by decide) HX.out⟩⟩
    case n13=>obtain ⟨u,fu,hx⟩:=fn_gk (hw ⟨11,.data⟩ (by simp) rfl) (by decide) (by decide) (.inr rfl);clear hx;clear hL hC hk hw;refine step_plainD rfl ?_;go_simp;first | exact pn rfl ⟨rfl,trivial⟩ | exact ⟨_,rfl,pn rfl ⟨rfl,trivial⟩⟩
    case n14=>have ZZ:=hC.2;clear hL hC hk hw;refine step_plainD rfl ?_;go_simp;first | exact fn_a ZZ | exact ⟨_,rfl,fn_a ZZ⟩
    case n15=>obtain ⟨gb,u1,u2,fa,hgb,bx⟩:=fn_ga (hw ⟨14,.data⟩ (by simp) rfl) (by decide);have hx:=fn_gx (hw ⟨12,.data⟩ (by simp) rfl) (by decide) (by decide) (by decide);obtain ⟨A1,n1,c1,A2,n2,c2,fv⟩:=Xg.b hx;rw [fv] at hx;have q0:=bx.cell 0;have q1:=bx.cell 1;simp only [List.getElem?_toArray,List.getElem?_cons_zero,List.getElem?_cons_succ] at q0 q1;have r0:=bx.frozen 0;have r1:=bx.frozen 1;have HX:=Lib.hid hx;have BXX:=Lib.hid bx;have FA:=Lib.hid fa;clear hx bx;clear hL hC hk hw;refine step_plainD rfl ?_;go_simp;exact fn_s (fun _ _ _ _ _ hx hf h=>h.fr hx hf) BXX.out hgb FA.out HX.out
    all_goals (have c:=st7 hC.1;clear hL hC hk hw;refine step_plainD rfl ?_;go_simp;first | exact pn rfl ⟨rfl,trivial⟩ | exact ⟨_,rfl,pn rfl ⟨rfl,trivial⟩⟩)
  simp only [allF,vsP,pw,true_and,and_true,Nat.reduceAdd] at hall
  simp only [TL,Act.put,List.setIfInBounds_toArray,List.set_cons_succ,List.set_cons_zero,hall,fa]
  clear hall fa
  generalize vals 10=z10
  generalize vals 11=z11
  generalize vals 12=z12
  obtain ⟨g1,g2,e12,hne,hg1,hg2,x1,x2⟩:=hX
  injection e12 with e12
  have e12:u1=.slice (some ⟨g1,0,none⟩) (Stk.inN q.wt q.n).length (Stk.inN q.wt q.n).length∧u2=.slice (some ⟨g2,0,none⟩) (Stk.outN q.wt q.n).length (Stk.outN q.wt q.n).length:=by simpa using e12
  obtain ⟨rfl,rfl⟩:=e12
  generalize hl1:Stk.inN q.wt q.n=l1 at x1 bx LEN ⊢
  generalize hl2:Stk.outN q.wt q.n=l2 at x2 bx LEN ⊢
  have hgl:=SS.out.gl BEG.out
  have hws:=SS.out.run.out.size
  have hlt0:=SS.out.lt
  have SX:=(((hS.add bx (by omega) (by omega) (by decide) (fun y hy=>by have:=hlt0 y hy;omega)).add x1 (by omega) (by omega) (by decide) (fun y hy=>by
    rcases List.mem_cons.1 hy with e | e
    · rw [e];exact Box.ne_of bx x1 (by decide)
    · have:=hlt0 y e;omega)).add x2 (by omega) (by omega) (by decide) (fun y hy=>by
    rcases List.mem_cons.1 hy with e | e
    · rw [e];exact hne
    · rcases List.mem_cons.1 e with e | e
      · rw [e];exact Box.ne_of bx x2 (by decide)
      · have:=hlt0 y e;omega))
  have HL1:=Lib.hid hl1
  have HL2:=Lib.hid hl2
  replace SS:=Lib.hid SX
  clear SX hl1 hl2 hgl hws hlt0 hS hgb bx hne hg1 hg2 x1 x2 vals NEED
  go_wp2_with fail
  (with_reducible refine (deny_no _ _).mono ?_)
  rintro e W2 ⟨rfl,rfl⟩
  go_upto_region 3 with fail
  refine wp_SA (D:=DP w g q v base i p l seen (oCraft q) Rp.enc) 9 10 11 (seen[i]?=some ce0∧ce0.is=true) False (i + 1) l [pw g 0,pw g 0,pw g 7,pw g 0,pw g 0,pw g 0,pw g 1,some (.int .u32 q.wh,True),some (.agg #[.int .u8 1,.int .u32 q.wh,.int .u32 0],True),some (.agg (thing ce0.A ce0.B 1 q.wh 0 true),True)] SS.out (fun vals=>?_) (fun vals W2 hB hall=>?_)
  · simp only [ObD,Act.put,List.setIfInBounds_toArray,List.set_cons_succ,List.set_cons_zero]
    refine ⟨?_,?_,?_,?_,?_,?_,?_,?_,?o1_8,?o1_9,trivial⟩
    all_goals (intro L W hL hk hC hw;have f:=deps hw rfl rfl;simp only [depF,vsP,pw,List.getD_cons_succ,List.getD_cons_zero,and_true,true_and] at f)
    case o1_8=>have CL:=Lib.hid (purse_any q.wh W);clear hL hC hk hw;refine step_plainD rfl ?_;go_simp;(with_reducible refine CL.out.mono ?_);rintro e w8 ⟨rfl,h2⟩;first | exact sq h2 rfl ⟨rfl,trivial⟩ | exact ⟨_,rfl,sq h2 rfl ⟨rfl,trivial⟩⟩
    case o1_9=>
      have CL:=Lib.hid (there_K SS.out (hC.pre hk) BEG.out (by have:=HI.out;omega) CE0.out 1 q.wh 0);clear hL hC hk hw;refine step_plainD rfl ?_;go_simp;(with_reducible refine CL.out.mono ?_);rintro e w8 (⟨h,rfl,h2⟩ | ⟨h,h3,rfl,h2⟩ | ⟨rfl,hf,H⟩)
      · exact ⟨_,rfl,Did.miss (by unfold oCraft;simp only [runOm_bind,decide_eq_false (show ¬ Stk.errN q.wt q.n≠0 from fun h=>h HE.out),run_deny_no,run_there_no h]) h2⟩
      · exact ⟨_,rfl,Did.err (by unfold oCraft;simp only [runOm_bind,decide_eq_false (show ¬ Stk.errN q.wt q.n≠0 from fun h=>h HE.out),run_deny_no,run_there_not h h3]) h2⟩
      · first | exact kv hf H rfl ⟨rfl,trivial⟩ | exact ⟨_,rfl,kv hf H rfl ⟨rfl,trivial⟩⟩
    all_goals (have c:=kn7 hC;clear hL hC hk hw;refine step_plainD rfl ?_;go_simp;first | exact sv rfl ⟨rfl,trivial⟩ | exact ⟨_,rfl,sv rfl ⟨rfl,trivial⟩⟩)
  have S0:=Lib.hid hB.1
  simp only [allF,vsP,pw,true_and,and_true,Nat.reduceAdd] at hall
  simp only [TL,Act.put,List.setIfInBounds_toArray,List.set_cons_succ,List.set_cons_zero,hall]
  replace SS:=Lib.hid hB.st
  clear hall vals hB
  have y0:W2.cell? ⟨gb,0,none⟩=some (.slice (some ⟨g1,0,none⟩) l1.length l1.length):=SS.out.bx.2.2.1.out.cell 0
  have y1:W2.cell? ⟨gb,1,none⟩=some (.slice (some ⟨g2,0,none⟩) l2.length l2.length):=SS.out.bx.2.2.1.out.cell 1
  have CALL:=Lib.hid (items_raw q.wt W2 g1 g2 l1 l2 LEN.out.1 LEN.out.2.1 LEN.out.2.2.1 LEN.out.2.2.2 (Stk.KO.reads (g:=g1) (t:=116) SS.out.bx.2.1.out (by have:=LEN.out.2.1;omega)) (Stk.KO.reads (g:=g2) (t:=116) SS.out.bx.1.out (by have:=LEN.out.2.2.1;omega)))
  unfold Stk.rv at CALL
  go_wp2_with fail
  (with_reducible refine CALL.out.mono ?_)
  rintro e W4 ⟨gg,NN,capx,rfl,hrow,hgg,hbl⟩
  have hlen:=hrow.len
  obtain ⟨cur,bxr,hsz,hkc,hcm,-,htk⟩:=hrow.box
  have HCR:=Lib.hid (fun (i:Nat) (x:Int) (hx:(craftItems q.wt)[i]?=some x)=>row_cur htk hlen hx)
  generalize hxs:craftItems q.wt=xs at hlen HCR
  have HXS:=Lib.hid hxs
  have hN:2≤NN∧NN≤4:=by rw [← hlen,← hxs];exact craft_two q.wt LEN.out.2.2.2
  have SX:=(SS.out.later hbl).drop.drop.drop.add bxr (by have:=SS.out.gl BEG.out;omega) (by have:=SS.out.run.out.size;omega) (by decide) (fun y hy=>by have:=SS.out.lt y (by simp at hy ⊢;simp [hy]);omega)
  have HLEN:=Lib.hid hlen
  have HN:=Lib.hid hN
  have hcap:NN≤capx:=hkc
  unfold maxLen at hcm
  replace SS:=Lib.hid SX
  clear SX hrow bxr hsz hkc htk hxs hlen hN hgg hbl y0 y1 CALL
  go_wp2
  go_loopw [5,51] (fun u c wr=>∃ k:Nat,k≤NN∧c=.int .i64 k∧Hid (L1 w g q v base p l seen i xs [.box gg cur 23,.box w.heap.size #[.int .u16 0,.int .u64 0,.int .u64 0,.int .u64 0] 35] k u wr)) (fun _ c _=>NN - (intOf c).toNat)
  case atStart=>exact ⟨0,by omega,rfl,Lib.hid ⟨[],rfl,fun t c h=>by simp at h,.inl ⟨rfl,rfl,SS.out⟩⟩⟩
  case round=>
    clear SS
    obtain ⟨k,hkN,rfl,HK⟩:=hrel
    have hk4:k≤4:=by have:=HN.out;omega
    by_cases hl:k < NN
    · have d1:decide ((k:Int) < (NN:Int))=true:=by simp;omega
      obtain ⟨x,hx⟩:∃ x,xs[k]?=some x:=⟨_,List.getElem?_eq_getElem (by rw [HLEN.out];exact hl)⟩
      have HXK:=Lib.hid hx
      obtain ⟨ce1,hce1⟩:=the_cell seen (i + 1 + k)
      have CE1:=Lib.hid hce1
      obtain ⟨k',hk'⟩:∃ k',k'=k + 1:=⟨_,rfl⟩
      have hks:(k:Int) + 1=(k':Int):=by omega
      have HK':=Lib.hid hk'
      obtain ⟨cs,hcl,hcs,hst⟩:=HK.out
      have HCS:=Lib.hid hcs
      have HCL:=Lib.hid hcl
      have MISS:=Lib.hid (fun (h:seen[i + 1 + k]?=none)=>(show runOm seen (oCraft q) i l=.miss 3 q.wh x by
        unfold oCraft
        simp only [runOm_bind,decide_eq_false (show ¬ Stk.errN q.wt q.n≠0 from fun h=>h HE.out),run_deny_no,run_there S0.out.1 S0.out.2]
        rw [HXS.out,oLooks_miss xs cs (i + 1) x (by rw [HCL.out];exact HXK.out) HCS.out (by rw [HCL.out];exact h)]))
      clear hcs hce1 hx hk' HK
      rcases hst with ⟨h0,rfl,hst⟩ | ⟨gp,capk,rfl,hst⟩
      · subst h0
        have HCL2:=Lib.hid (List.eq_nil_of_length_eq_zero HCL.out)
        simp only [Nat.add_zero] at CE1 MISS
        have SS:=Lib.hid hst
        clear hst
        have y0:wr.cell? ⟨gg,0,none⟩=some (.int .u32 x):=(SS.out.bx.1.out.cell 0).trans (HCR.out 0 x HXK.out)
        go_upto_region 9 with fail
        clear y0
        refine wp_SGN (D:=DP w g q v base i p l seen (oCraft q) Rp.enc) 11 12 13 14 1 (seen[i + 1]?=some ce1) (i + 1 + 1) #[.int .u64 ce1.vA,.int .u64 ce1.vB,.int .u8 3,.int .u32 q.wh,.int .u32 x,.bool ce1.is] #[.int .u64 ce1.vA,.int .u64 ce1.vB,.int .u8 3,.int .u32 q.wh,.int .u32 x,.bool ce1.is] [some (.slice none 0 0,True),pw g 0,pw g 0,pw g 7,pw g 0,pw g 0,pw g 0,pw g 1,some (.int .u32 q.wh,True),some (.int .u32 x,True),some (.agg #[.int .u8 3,.int .u32 q.wh,.int .u32 x],True),some (.agg (thing ce1.vA ce1.vB 3 q.wh x ce1.is),True),none,none,none] SS.out BEG.out (fun vals=>?_) (fun vals W91 hB hfin htold hall=>?_) (ea 12 rfl) (ea 13 rfl)
        · simp only [ObD,Act.put,List.setIfInBounds_toArray,List.set_cons_succ,List.set_cons_zero]
          refine ⟨?_,?_,?_,?_,?_,?_,?_,?_,?_,?_,?o90_10,?o90_11,?o90_12,?o90_13,?o90_14,trivial⟩
          all_goals (intro L W hL hk hC hw;have f:=depsG hw rfl rfl rfl;simp only [depF,vsP,pw,List.getD_cons_succ,List.getD_cons_zero,and_true,true_and] at f)
          case o90_10=>have CL:=Lib.hid (stack_any q.wh x W);clear hL hC hk hw;refine step_plainD rfl ?_;go_simp;(with_reducible refine CL.out.mono ?_);rintro e w8 ⟨rfl,h2⟩;first | exact gq h2 rfl ⟨rfl,trivial⟩ | exact ⟨_,rfl,gq h2 rfl ⟨rfl,trivial⟩⟩
          case o90_11=>
            have CL:=Lib.hid (look_KG (hC.pre hk) BEG.out (by have:=HI.out;omega) CE1.out 3 q.wh x);clear hL hC hk hw;refine step_plainD rfl ?_;go_simp;(with_reducible refine CL.out.mono ?_);rintro e w8 (⟨h,rfl,h2⟩ | ⟨h1,rfl,hf,H⟩)
            · exact ⟨_,rfl,Did.miss (MISS.out h) h2⟩
            · first | exact gk hf H rfl ⟨rfl,trivial⟩ | exact ⟨_,rfl,gk hf H rfl ⟨rfl,trivial⟩⟩
          case o90_12=>have ZZ:=hC.fr.size;unfold thing at f;clear hL hC hk hw;refine step_plainD rfl ?_;go_simp;first | exact gm1 ZZ | exact ⟨_,rfl,gm1 ZZ⟩
          case o90_13=>
            have GZ:=hC.fr.size;have fm:vals 0=.slice none 0 0:=(Fg.get (f:=vsP (some (.slice none 0 0,True))) (hw ⟨0,.data⟩ (by simp) rfl) (by decide) (by decide) (by decide) rfl).1;obtain ⟨gb,fa,hgb,bxb⟩:=Fg.geta (hw ⟨12,.data⟩ (by simp) rfl) (by decide) (by decide);have FA:=Lib.hid fa;have BXB:=Lib.hid bxb;obtain ⟨i0,hi0,hz0,hz1,hz2⟩:=info_parts thing_info
            clear hL hC hk hw
            refine step_append_lies _ (by rfl) _ _ _ (by rfl) wr.heap.size 130 i0 _ 6 32 Tryz.underlying140 hi0 hz0 hz1 hz2 rfl (by omega) (.slice none 0 0) 0 _ (Eq.trans (by rfl) fm) (World.ownsRow_nil W _ _ 6) ⟨gb,0,none⟩ 1 1 [.int .u64 ce1.vA,.int .u64 ce1.vB,.int .u8 3,.int .u32 q.wh,.int .u32 x,.bool ce1.is] (Eq.trans (by rfl) FA.out) rfl (World.news_of_block (cs:=#[.int .u64 ce1.vA,.int .u64 ce1.vB,.int .u8 3,.int .u32 q.wh,.int .u32 x,.bool ce1.is]) (t:=130) (fr:=(0,0)) BXB.out) (by simp [Value.oneCell']) (by omega) (by unfold maxLen;omega) (by omega) GZ W.heap.size rfl ?_
            intro gg cc WQ hown1 hgrow hat hlt1
            exact ⟨_,rfl,gaN GZ (by simpa using hown1) hgrow hat⟩
          case o90_14=>clear hL hC hk hw;refine step_plainD rfl ?_;go_simp;first | exact gt_ | exact ⟨_,rfl,gt_⟩
          all_goals (have c:=kg7 hC;clear hL hC hk hw;refine step_plainD rfl ?_;go_simp;first | exact gv rfl ⟨rfl,trivial⟩ | exact ⟨_,rfl,gv rfl ⟨rfl,trivial⟩⟩)
        have S1:=Lib.hid hB.1
        simp only [allF,vsP,pw,true_and,and_true,Nat.reduceAdd] at hall
        obtain ⟨gn,cap_gn,fs,hor,bx⟩:=hfin
        rw [fs] at htold
        simp only [TL,Act.put,List.setIfInBounds_toArray,List.set_cons_succ,List.set_cons_zero,hall,htold,fs]
        generalize vals 12=vz90
        replace SS:=Lib.hid (SS.out.pushP BEG.out hB.st SS.out.lt (by rcases hor with e | e <;> omega) bx)
        clear hall vals hB htold fs hor bx
        go_wp2
        go_roundw
        case measure=>simp [intOf];omega
        case rel=>exact ⟨1,by omega,rfl,Lib.hid ⟨[ce1],rfl,fun t c h=>by (have e:=h;cases t with | zero=>(have e:ce1=c:=by simpa using e);rw [← e];exact S1.out | succ t=>simp at e),.inr ⟨gn,cap_gn,rfl,by rw [pile_one HXK.out];exact SS.out⟩⟩⟩
      · have SS:=Lib.hid hst
        clear hst
        have y0:wr.cell? ⟨gg,k,none⟩=some (.int .u32 x):=(SS.out.bx.2.1.out.cell k).trans (HCR.out k x HXK.out)
        go_upto_region 9 with fail
        clear y0
        refine wp_SGO (D:=DP w g q v base i p l seen (oCraft q) Rp.enc) 11 12 13 14 (k + 1) (SB (seen[i + 1 + k]?=some ce1) False w g q v base p (i + 1 + k + 1) p l [.box gg cur 23,.box w.heap.size #[.int .u16 0,.int .u64 0,.int .u64 0,.int .u64 0] 35]) #[.int .u64 ce1.vA,.int .u64 ce1.vB,.int .u8 3,.int .u32 q.wh,.int .u32 x,.bool ce1.is] (pileC (ths q.wh xs cs (cs.map Ce.vA))++#[.int .u64 ce1.vA,.int .u64 ce1.vB,.int .u8 3,.int .u32 q.wh,.int .u32 x,.bool ce1.is]) [some (.slice (some ⟨gp,0,none⟩) k capk,True),pw g 0,pw g 0,pw g 7,pw g 0,pw g 0,pw g 0,pw g 1,some (.int .u32 q.wh,True),some (.int .u32 x,True),some (.agg #[.int .u8 3,.int .u32 q.wh,.int .u32 x],True),some (.agg (thing ce1.vA ce1.vB 3 q.wh x ce1.is),True),none,none,none] 0 SS.out BEG.out rfl rfl (fun vals=>?_) (fun vals W96 hB hfin htold hall=>?_) (ea 12 rfl) (ea 13 rfl)
        · simp only [ObD,Act.put,List.setIfInBounds_toArray,List.set_cons_succ,List.set_cons_zero]
          refine ⟨?_,?_,?_,?_,?_,?_,?_,?_,?_,?_,?o95_10,?o95_11,?o95_12,?o95_13,?o95_14,trivial⟩
          all_goals (intro L W hL hk hC hw;have f:=depsG hw rfl rfl rfl;simp only [depF,vsP,pw,List.getD_cons_succ,List.getD_cons_zero,and_true,true_and] at f)
          case o95_10=>have CL:=Lib.hid (stack_any q.wh x W);clear hL hC hk hw;refine step_plainD rfl ?_;go_simp;(with_reducible refine CL.out.mono ?_);rintro e w8 ⟨rfl,h2⟩;first | exact gq h2 rfl ⟨rfl,trivial⟩ | exact ⟨_,rfl,gq h2 rfl ⟨rfl,trivial⟩⟩
          case o95_11=>
            have CL:=Lib.hid (look_KG (hC.pre hk) BEG.out (by have:=HI.out;omega) CE1.out 3 q.wh x);clear hL hC hk hw;refine step_plainD rfl ?_;go_simp;(with_reducible refine CL.out.mono ?_);rintro e w8 (⟨h,rfl,h2⟩ | ⟨h1,rfl,hf,H⟩)
            · exact ⟨_,rfl,Did.miss (MISS.out h) h2⟩
            · first | exact gk hf H rfl ⟨rfl,trivial⟩ | exact ⟨_,rfl,gk hf H rfl ⟨rfl,trivial⟩⟩
          case o95_12=>have ZZ:=hC.fr.size;unfold thing at f;clear hL hC hk hw;refine step_plainD rfl ?_;go_simp;first | exact gm1 ZZ | exact ⟨_,rfl,gm1 ZZ⟩
          case o95_13=>
            have GZ:=hC.fr.size;have fm:vals 0=.slice (some ⟨gp,0,none⟩) k capk:=(Fg.get (f:=vsP (some (.slice (some ⟨gp,0,none⟩) k capk,True))) (hw ⟨0,.data⟩ (by simp) rfl) (by decide) (by decide) (by decide) rfl).1;obtain ⟨gb,fa,hgb,bxb⟩:=Fg.geta (hw ⟨12,.data⟩ (by simp) rfl) (by decide) (by decide);have FA:=Lib.hid fa;have BXB:=Lib.hid bxb;obtain ⟨i0,hi0,hz0,hz1,hz2⟩:=info_parts thing_info;have GR:=Lib.hid (hC.row hk)
            clear hL hC hk hw
            refine step_append_lies _ (by rfl) _ _ _ (by rfl) gp 130 i0 _ 6 32 Tryz.underlying140 hi0 hz0 hz1 hz2 rfl (by omega) (.slice (some ⟨gp,0,none⟩) k capk) k _ (Eq.trans (by rfl) fm) GR.out ⟨gb,0,none⟩ 1 1 [.int .u64 ce1.vA,.int .u64 ce1.vB,.int .u8 3,.int .u32 q.wh,.int .u32 x,.bool ce1.is] (Eq.trans (by rfl) FA.out) rfl (World.news_of_block (cs:=#[.int .u64 ce1.vA,.int .u64 ce1.vB,.int .u8 3,.int .u32 q.wh,.int .u32 x,.bool ce1.is]) (t:=130) (fr:=(0,0)) BXB.out) (by simp [Value.oneCell']) (by omega) (by unfold maxLen;omega) (by omega) (Nat.le_of_lt GR.out.lt) W.heap.size rfl ?_
            intro gg cc WQ hown1 hgrow hat hlt1
            exact ⟨_,rfl,ga SS.out BEG.out (n:=0) rfl rfl GR.out GZ (by simpa using hown1) hgrow hat⟩
          case o95_14=>clear hL hC hk hw;refine step_plainD rfl ?_;go_simp;first | exact gt_ | exact ⟨_,rfl,gt_⟩
          all_goals (have c:=kg7 hC;clear hL hC hk hw;refine step_plainD rfl ?_;go_simp;first | exact gv rfl ⟨rfl,trivial⟩ | exact ⟨_,rfl,gv rfl ⟨rfl,trivial⟩⟩)
        have S1:=Lib.hid hB.1
        simp only [allF,vsP,pw,true_and,and_true,Nat.reduceAdd] at hall
        obtain ⟨gn,cap_gn,fs,hor,bx⟩:=hfin
        rw [fs] at htold
        simp only [TL,Act.put,List.setIfInBounds_toArray,List.set_cons_succ,List.set_cons_zero,hall,htold,fs]
        generalize vals 12=vz95
        replace SS:=Lib.hid (SS.out.regrow BEG.out 0 rfl rfl hB.st hor bx)
        clear hall vals hB htold fs hor bx
        go_wp2
        go_roundw
        case measure=>simp [intOf];have:=HK'.out;omega
        case rel=>exact ⟨k',by have:=HK'.out;omega,rfl,Lib.hid ⟨cs++[ce1],by rw [HK'.out];simp [HCL.out],fun t c h=>by
            rcases Nat.lt_or_ge t cs.length with ht | ht
            · exact HCS.out t c (by rwa [List.getElem?_append_left ht] at h)
            · rw [List.getElem?_append_right ht] at h
              cases hz:t - cs.length with
              | zero=>
                rw [hz] at h
                have e:ce1=c:=by simpa using h
                rw [← e,show t=k by have:=HCL.out;omega];exact S1.out
              | succ n=>rw [hz] at h;simp at h,.inr ⟨gn,cap_gn,by rw [HK'.out],by rw [HK'.out,ths_snoc q.wh xs cs x ce1 (by rw [HCL.out];exact HXK.out),pileC_app];exact SS.out⟩⟩⟩
    · have d1:decide ((k:Int) < (NN:Int))=false:=by simp;omega
      have hkk:NN=k:=by omega
      subst hkk
      obtain ⟨cs,hcl,hcs,hst⟩:=HK.out
      rcases hst with ⟨h0,-,-⟩ | ⟨gp,capk,rfl,hst⟩
      · exact absurd h0 (by have:=HN.out;omega)
      have HCS:=Lib.hid hcs
      have HCL:=Lib.hid hcl
      have MOK:=Lib.hid (fun (t:Nat) (a:Int) (h:(cs.map Ce.vA)[t]?=some a)=>craft_ok HOK.out hcs h)
      have LOOKS:=Lib.hid (oLooks_ok (seen:=seen) (l:=l) (wh:=q.wh) xs cs (i + 1) (by rw [hcl,HLEN.out]) hcs)
      obtain ⟨fI,hfI⟩:∃ f:Int→Int,(fun n=>Stk.cnt n (Stk.inN q.wt q.n))=f:=⟨_,rfl⟩
      obtain ⟨fO,hfO⟩:∃ f:Int→Int,(fun n=>Stk.cnt n (Stk.outN q.wt q.n))=f:=⟨_,rfl⟩
      have CHG:=Lib.hid (fun (x:Int) (W:World)=>(show Calls Tryz.prog 90 #[.int .u32 q.wt,.int .u64 q.n,.int .u32 x] W fun e w'=>e=.returned (.tuple #[.int .u64 (fI x),.int .u64 (fO x)])∧Below W.heap.size W w' by rw [← hfI,← hfO];exact Stk.change_any q.wt q.n x HQ.out.n W))
      have BND:=Lib.hid (fun (x:Int)=>(show (0≤fI x∧fI x≤18446744073709551615)∧0≤fO x∧fO x≤18446744073709551615 by rw [← hfI,← hfO];exact cnt_bound x q.wt q.n))
      have HFI:=Lib.hid hfI
      have HFO:=Lib.hid hfO
      have hml:(cs.map Ce.vA).length=NN:=by rw [List.length_map,hcl]
      generalize cs.map Ce.vA=ms at hst MOK LOOKS hml
      have HML:=Lib.hid hml
      have SS:=Lib.hid hst
      rw [HLEN.out] at LOOKS
      clear hfI hfO hml hst hcs hcl HK hl d1
      go_wp2
      go_loopw [72] (fun c wr=>∃ k:Nat,k≤NN∧c=.int .i64 k∧Hid (ST w g q v base p (i + 1 + NN) p l (.pile gp NN capk (pileC (ths q.wh xs cs (chg (fun x a=>a - fI x) k xs ms))) :: [.box gg cur 23,.box w.heap.size #[.int .u16 0,.int .u64 0,.int .u64 0,.int .u64 0] 35]) wr)∧Hid (∀ (t:Nat) (x a:Int),t < k→xs[t]?=some x→ms[t]?=some a→Ls a (fI x))) (fun c _=>NN - (intOf c).toNat)
      case atStart=>exact ⟨0,by omega,rfl,Lib.hid (by rw [chg_zero];exact SS.out),Lib.hid (fun t x a h=>by omega)⟩
      case round=>
        clear SS
        obtain ⟨k,hkN,rfl,HS,HLS⟩:=hrel
        by_cases hl:k < NN
        · have d1:decide ((k:Int) < (NN:Int))=true:=by simp;omega
          obtain ⟨x,hx⟩:∃ x,xs[k]?=some x:=⟨_,List.getElem?_eq_getElem (by rw [HLEN.out];exact hl)⟩
          obtain ⟨a,ha⟩:∃ a,ms[k]?=some a:=⟨_,List.getElem?_eq_getElem (by rw [HML.out];exact hl)⟩
          obtain ⟨c,hc⟩:∃ c,cs[k]?=some c:=⟨_,List.getElem?_eq_getElem (by rw [HCL.out];exact hl)⟩
          have HXK:=Lib.hid hx
          have HAK:=Lib.hid ha
          have TH:=Lib.hid (ths_at q.wh xs cs _ k x c a hx hc ((chg_at (fun x a=>a - fI x) k xs ms k (Nat.le_refl _)).trans ha))
          obtain ⟨k',hk'⟩:∃ k',k'=k + 1:=⟨_,rfl⟩
          have hks:(k:Int) + 1=(k':Int):=by omega
          have hk4:k≤4:=by have:=HN.out;omega
          have HK':=Lib.hid hk'
          have PE:=Lib.hid (show (pileC (ths q.wh xs cs (chg (fun x a=>a - fI x) k xs ms))).setIfInBounds (k * 6) (.int .u64 (a - fI x))=pileC (ths q.wh xs cs (chg (fun x a=>a - fI x) k' xs ms)) by
            rw [hk',← chg_set (fun x a=>a - fI x) k xs ms x a hx ha,← ths_set q.wh xs cs _ k x c a _ hx hc ((chg_at (fun x a=>a - fI x) k xs ms k (Nat.le_refl _)).trans ha)]
            exact pileC_set _ k _ _ TH.out)
          have ERR:=Lib.hid (fun (e:Int) (h:∀ l,runOm seen (oLess a (fI x)) (i + 1 + NN) l=.err e)=>(show runOm seen (oCraft q) i l=.err e by
            unfold oCraft
            simp only [runOm_bind,decide_eq_false (show ¬ Stk.errN q.wt q.n≠0 from fun h=>h HE.out),run_deny_no,run_there S0.out.1 S0.out.2]
            rw [HXS.out,LOOKS.out]
            simp only [runOm_bind]
            rw [HFI.out,oLesses_err fI xs ms k _ x a e HXK.out HAK.out HLS.out h]))
          have SS:=HS
          clear hx ha hc hk' HS
          have y0:wr.cell? ⟨gg,k,none⟩=some (.int .u32 x):=(SS.out.bx.2.1.out.cell k).trans (HCR.out k x HXK.out)
          go_upto_region 14 with fail
          clear y0
          refine wp_SA (D:=DP w g q v base i p l seen (oCraft q) Rp.enc) 11 17 18 True False (i + 1 + NN) l [pw g 0,pw g 0,pw g 0,pw g 3,some (.int .u32 q.wt,True),pw g 0,pw g 0,pw g 0,pw g 5,some (.int .u64 q.n,True),some (.int .u32 x,True),some (.tuple #[.int .u64 (fI x),.int .u64 (fO x)],True),some (.tuple #[.int .u64 (fI x),.int .u64 (fO x)],True),some (.int .u64 (fI x),True),some (.int .u64 (fO x),True),some (.int .u64 (fI x),True),some (.int .u64 (fO x),True)] SS.out (fun vals=>?_) (fun vals W201 hB hall=>?_)
          · simp only [ObD,Act.put,List.setIfInBounds_toArray,List.set_cons_succ,List.set_cons_zero]
            refine ⟨?_,?_,?_,?_,?_,?_,?_,?_,?_,?_,?_,?o200_11,?_,?_,?_,?_,?_,trivial⟩
            all_goals (intro L W hL hk hC hw;have f:=deps hw rfl rfl;simp only [depF,vsP,pw,List.getD_cons_succ,List.getD_cons_zero,and_true,true_and] at f)
            case o200_11=>have AX:=Lib.hid (hC.pre hk);have CL:=Lib.hid (CHG.out x W);clear hL hC hk hw;refine step_plainD rfl ?_;go_simp;(with_reducible refine CL.out.mono ?_);rintro e w8 ⟨rfl,h2⟩;first | exact kv (Fr.of_below h2) (AX.out.later h2).sb rfl ⟨rfl,trivial⟩ | exact ⟨_,rfl,kv (Fr.of_below h2) (AX.out.later h2).sb rfl ⟨rfl,trivial⟩⟩
            all_goals (have c:=kn7 hC;clear hL hC hk hw;refine step_plainD rfl ?_;go_simp;first | exact sv rfl ⟨rfl,trivial⟩ | exact ⟨_,rfl,sv rfl ⟨rfl,trivial⟩⟩)
          simp only [allF,vsP,pw,true_and,and_true,Nat.reduceAdd] at hall
          simp only [TL,Act.put,List.setIfInBounds_toArray,List.set_cons_succ,List.set_cons_zero,hall]
          replace SS:=Lib.hid hB.st
          clear hall vals hB
          have yA:W201.cell? ⟨gp,k * 6,none⟩=some (.int .u64 a):=Pile.cell SS.out.bx.1.out (k * 6) (pileC_at _ k _ TH.out).1
          have CALL:=Lib.hid (less_q (MOK.out k a HAK.out) (BND.out x).1 (SS.out.low BEG.out) (Nat.le_of_lt (SS.out.gl BEG.out)))
          go_wp2_with fail
          (with_reducible refine CALL.out.mono ?_)
          rintro e W9 (⟨h,rfl,h2⟩ | ⟨⟨h,h3⟩,rfl,h2⟩ | ⟨h1,rfl,h2⟩)
          · exact ⟨rfl,Did.err (ERR.out 30 (fun l=>run_less_great h)) h2⟩
          · exact ⟨rfl,Did.err (ERR.out 215 (fun l=>run_less_low h h3)) h2⟩
          replace SS:=Lib.hid (SS.out.later h2)
          have HC1:=Lib.hid h1
          clear yA CALL h1 h2 ERR
          have yA:W9.cell? ⟨gp,k * 6,none⟩=some (.int .u64 a):=Pile.cell SS.out.bx.1.out (k * 6) (pileC_at _ k _ TH.out).1
          have zA:W9.frozen? ⟨gp,k * 6,none⟩=false:=Pile.frozen SS.out.bx.1.out _
          go_wp2
          go_roundw
          case rel=>
            refine ⟨k',by have:=HK'.out;omega,rfl,Lib.hid ?_,Lib.hid ?_⟩
            · have h9:=SS.out.updP BEG.out (o:=k * 6) (u:=.int .u64 (a - fI x)) 0 (pile_lt TH.out)
              rw [PE.out] at h9
              exact h9
            · intro t y b ht h1 h2
              rcases Nat.lt_or_ge t k with h3 | h3
              · exact HLS.out t y b h3 h1 h2
              · obtain rfl:t=k:=by have:=HK'.out;omega
                have e1:x=y:=by have:=HXK.out;rw [this] at h1;simpa using h1
                have e2:a=b:=by have:=HAK.out;rw [this] at h2;simpa using h2
                rw [← e1,← e2];exact HC1.out
          case measure=>simp [intOf];have:=HK'.out;omega
        · have d1:decide ((k:Int) < (NN:Int))=false:=by simp;omega
          have hkk:NN=k:=by omega
          subst hkk
          have LESS:=Lib.hid (oLesses_ok (seen:=seen) (l:=l) fI xs ms (i + 1 + NN) (by rw [HML.out,HLEN.out]) (fun t x a h1 h2=>HLS.out t x a (by have:=(List.getElem?_eq_some_iff.1 h1).1;have:=HLEN.out;omega) h1 h2))
          rw [HLEN.out] at LESS
          have hml2:(chg (fun x a=>a - fI x) NN xs ms).length=NN:=by rw [chg_len,HML.out]
          have MOK2:=Lib.hid (fun (t:Nat) (b:Int) (h:(chg (fun x a=>a - fI x) NN xs ms)[t]?=some b)=>less_ok (by rw [HML.out,HLEN.out]) (by rw [HLEN.out];exact Nat.le_refl _) MOK.out (fun x=>(BND.out x).1) (fun t x a h1 h2=>HLS.out t x a (by have:=(List.getElem?_eq_some_iff.1 h1).1;have:=HLEN.out;omega) h1 h2) h)
          generalize chg (fun x a=>a - fI x) NN xs ms=ms2 at HS LESS hml2 MOK2
          have HML2:=Lib.hid hml2
          have SS:=HS
          clear HS HLS hml2 d1 hl
          go_wp2
          go_loopw [108] (fun c wr=>∃ k:Nat,k≤NN∧c=.int .i64 k∧Hid (ST w g q v base p (i + 1 + NN) p l (.pile gp NN capk (pileC (ths q.wh xs cs (chg (fun x a=>a + fO x) k xs ms2))) :: [.box gg cur 23,.box w.heap.size #[.int .u16 0,.int .u64 0,.int .u64 0,.int .u64 0] 35]) wr)∧Hid (∀ (t:Nat) (x a:Int),t < k→xs[t]?=some x→ms2[t]?=some a→Mr a (fO x))) (fun c _=>NN - (intOf c).toNat)
          case atStart=>exact ⟨0,by omega,rfl,Lib.hid (by rw [chg_zero];exact SS.out),Lib.hid (fun t x a h=>by omega)⟩
          case round=>
            clear SS
            obtain ⟨k,hkN,rfl,HS,HLS⟩:=hrel
            by_cases hl:k < NN
            · have d1:decide ((k:Int) < (NN:Int))=true:=by simp;omega
              obtain ⟨x,hx⟩:∃ x,xs[k]?=some x:=⟨_,List.getElem?_eq_getElem (by rw [HLEN.out];exact hl)⟩
              obtain ⟨a,ha⟩:∃ a,ms2[k]?=some a:=⟨_,List.getElem?_eq_getElem (by rw [HML2.out];exact hl)⟩
              obtain ⟨c,hc⟩:∃ c,cs[k]?=some c:=⟨_,List.getElem?_eq_getElem (by rw [HCL.out];exact hl)⟩
              have HXK:=Lib.hid hx
              have HAK:=Lib.hid ha
              have TH:=Lib.hid (ths_at q.wh xs cs _ k x c a hx hc ((chg_at (fun x a=>a + fO x) k xs ms2 k (Nat.le_refl _)).trans ha))
              obtain ⟨k',hk'⟩:∃ k',k'=k + 1:=⟨_,rfl⟩
              have hks:(k:Int) + 1=(k':Int):=by omega
              have hk4:k≤4:=by have:=HN.out;omega
              have HK':=Lib.hid hk'
              have PE:=Lib.hid (show (pileC (ths q.wh xs cs (chg (fun x a=>a + fO x) k xs ms2))).setIfInBounds (k * 6) (.int .u64 (a + fO x))=pileC (ths q.wh xs cs (chg (fun x a=>a + fO x) k' xs ms2)) by
                rw [hk',← chg_set (fun x a=>a + fO x) k xs ms2 x a hx ha,← ths_set q.wh xs cs _ k x c a _ hx hc ((chg_at (fun x a=>a + fO x) k xs ms2 k (Nat.le_refl _)).trans ha)]
                exact pileC_set _ k _ _ TH.out)
              have ERR:=Lib.hid (fun (e:Int) (h:∀ l,runOm seen (oMore a (fO x)) (i + 1 + NN) l=.err e)=>(show runOm seen (oCraft q) i l=.err e by
                unfold oCraft
                simp only [runOm_bind,decide_eq_false (show ¬ Stk.errN q.wt q.n≠0 from fun h=>h HE.out),run_deny_no,run_there S0.out.1 S0.out.2]
                rw [HXS.out,LOOKS.out]
                simp only [runOm_bind]
                rw [HFI.out,LESS.out]
                simp only [runOm_bind]
                rw [HFO.out,oMores_err fO xs ms2 k _ x a e HXK.out HAK.out HLS.out h]))
              have SS:=HS
              clear hx ha hc hk' HS
              have y0:wr.cell? ⟨gg,k,none⟩=some (.int .u32 x):=(SS.out.bx.2.1.out.cell k).trans (HCR.out k x HXK.out)
              go_upto_region 20 with fail
              clear y0
              refine wp_SA (D:=DP w g q v base i p l seen (oCraft q) Rp.enc) 11 17 18 True False (i + 1 + NN) l [pw g 0,pw g 0,pw g 0,pw g 3,some (.int .u32 q.wt,True),pw g 0,pw g 0,pw g 0,pw g 5,some (.int .u64 q.n,True),some (.int .u32 x,True),some (.tuple #[.int .u64 (fI x),.int .u64 (fO x)],True),some (.tuple #[.int .u64 (fI x),.int .u64 (fO x)],True),some (.int .u64 (fI x),True),some (.int .u64 (fO x),True),some (.int .u64 (fI x),True),some (.int .u64 (fO x),True)] SS.out (fun vals=>?_) (fun vals W301 hB hall=>?_)
              · simp only [ObD,Act.put,List.setIfInBounds_toArray,List.set_cons_succ,List.set_cons_zero]
                refine ⟨?_,?_,?_,?_,?_,?_,?_,?_,?_,?_,?_,?o300_11,?_,?_,?_,?_,?_,trivial⟩
                all_goals (intro L W hL hk hC hw;have f:=deps hw rfl rfl;simp only [depF,vsP,pw,List.getD_cons_succ,List.getD_cons_zero,and_true,true_and] at f)
                case o300_11=>have AX:=Lib.hid (hC.pre hk);have CL:=Lib.hid (CHG.out x W);clear hL hC hk hw;refine step_plainD rfl ?_;go_simp;(with_reducible refine CL.out.mono ?_);rintro e w8 ⟨rfl,h2⟩;first | exact kv (Fr.of_below h2) (AX.out.later h2).sb rfl ⟨rfl,trivial⟩ | exact ⟨_,rfl,kv (Fr.of_below h2) (AX.out.later h2).sb rfl ⟨rfl,trivial⟩⟩
                all_goals (have c:=kn7 hC;clear hL hC hk hw;refine step_plainD rfl ?_;go_simp;first | exact sv rfl ⟨rfl,trivial⟩ | exact ⟨_,rfl,sv rfl ⟨rfl,trivial⟩⟩)
              simp only [allF,vsP,pw,true_and,and_true,Nat.reduceAdd] at hall
              simp only [TL,Act.put,List.setIfInBounds_toArray,List.set_cons_succ,List.set_cons_zero,hall]
              replace SS:=Lib.hid hB.st
              clear hall vals hB
              have yA:W301.cell? ⟨gp,k * 6,none⟩=some (.int .u64 a):=Pile.cell SS.out.bx.1.out (k * 6) (pileC_at _ k _ TH.out).1
              have CALL:=Lib.hid (more_q (MOK2.out k a HAK.out) (BND.out x).2 (SS.out.low BEG.out) (Nat.le_of_lt (SS.out.gl BEG.out)))
              go_wp2_with fail
              (with_reducible refine CALL.out.mono ?_)
              rintro e W9 (⟨h,rfl,h2⟩ | ⟨h1,rfl,h2⟩)
              · exact ⟨rfl,Did.err (ERR.out 30 (fun l=>run_more_no h)) h2⟩
              replace SS:=Lib.hid (SS.out.later h2)
              have HC1:=Lib.hid h1
              clear yA CALL h1 h2 ERR
              have yA:W9.cell? ⟨gp,k * 6,none⟩=some (.int .u64 a):=Pile.cell SS.out.bx.1.out (k * 6) (pileC_at _ k _ TH.out).1
              have zA:W9.frozen? ⟨gp,k * 6,none⟩=false:=Pile.frozen SS.out.bx.1.out _
              go_wp2
              go_roundw
              case rel=>
                refine ⟨k',by have:=HK'.out;omega,rfl,Lib.hid ?_,Lib.hid ?_⟩
                · have h9:=SS.out.updP BEG.out (o:=k * 6) (u:=.int .u64 (a + fO x)) 0 (pile_lt TH.out)
                  rw [PE.out] at h9
                  exact h9
                · intro t y b ht h1 h2
                  rcases Nat.lt_or_ge t k with h3 | h3
                  · exact HLS.out t y b h3 h1 h2
                  · obtain rfl:t=k:=by have:=HK'.out;omega
                    have e1:x=y:=by have:=HXK.out;rw [this] at h1;simpa using h1
                    have e2:a=b:=by have:=HAK.out;rw [this] at h2;simpa using h2
                    rw [← e1,← e2];exact HC1.out
              case measure=>simp [intOf];have:=HK'.out;omega
            · have d1:decide ((k:Int) < (NN:Int))=false:=by simp;omega
              have hkk:NN=k:=by omega
              subst hkk
              have MORE:=Lib.hid (oMores_ok (seen:=seen) (l:=l) fO xs ms2 (i + 1 + NN) (by rw [HML2.out,HLEN.out]) (fun t x a h1 h2=>HLS.out t x a (by have:=(List.getElem?_eq_some_iff.1 h1).1;have:=HLEN.out;omega) h1 h2))
              rw [HLEN.out] at MORE
              have hml3:(chg (fun x a=>a + fO x) NN xs ms2).length=NN:=by rw [chg_len,HML2.out]
              generalize chg (fun x a=>a + fO x) NN xs ms2=ms3 at HS MORE hml3
              have HML3:=Lib.hid hml3
              have SS:=HS
              clear HS HLS hml3 d1 hl
              go_wp2
              go_loopw [144] (fun c wr=>∃ k:Nat,k≤NN∧c=.int .i64 k∧Hid (∃ p4,ST w g q v base p (i + 1 + NN) p4 (l++(amts q.wh xs ms3).take k) (.pile gp NN capk (pileC (ths q.wh xs cs ms3)) :: [.box gg cur 23,.box w.heap.size #[.int .u16 0,.int .u64 0,.int .u64 0,.int .u64 0] 35]) wr)) (fun c _=>NN - (intOf c).toNat)
              case atStart=>exact ⟨0,by omega,rfl,Lib.hid ⟨p,by rw [List.take_zero,List.append_nil];exact SS.out⟩⟩
              case round=>
                clear SS
                obtain ⟨k,hkN,rfl,HS⟩:=hrel
                obtain ⟨p4,hst⟩:=HS.out
                have SS:=Lib.hid hst
                clear HS hst
                by_cases hl:k < NN
                · have d1:decide ((k:Int) < (NN:Int))=true:=by simp;omega
                  obtain ⟨x,hx⟩:∃ x,xs[k]?=some x:=⟨_,List.getElem?_eq_getElem (by rw [HLEN.out];exact hl)⟩
                  obtain ⟨a,ha⟩:∃ a,ms3[k]?=some a:=⟨_,List.getElem?_eq_getElem (by rw [HML3.out];exact hl)⟩
                  obtain ⟨c,hc⟩:∃ c,cs[k]?=some c:=⟨_,List.getElem?_eq_getElem (by rw [HCL.out];exact hl)⟩
                  have TH:=Lib.hid (ths_at q.wh xs cs ms3 k x c a hx hc ha)
                  have AT:=Lib.hid (amts_take q.wh xs ms3 k x a hx ha)
                  obtain ⟨k',hk'⟩:∃ k',k'=k + 1:=⟨_,rfl⟩
                  have hks:(k:Int) + 1=(k':Int):=by omega
                  have hk4:k≤4:=by have:=HN.out;omega
                  have HK':=Lib.hid hk'
                  clear hx ha hc hk'
                  obtain ⟨q0,q1,q2,q3,q4,q5⟩:=pileC_at _ k _ TH.out
                  have y0:wr.cell? ⟨gp,k * 6,none⟩=some (.int .u64 a):=Pile.cell SS.out.bx.1.out _ q0
                  have y1:wr.cell? ⟨gp,k * 6 + 1,none⟩=some (.int .u64 c.vB):=Pile.cell SS.out.bx.1.out _ q1
                  have y2:wr.cell? ⟨gp,k * 6 + 2,none⟩=some (.int .u8 3):=Pile.cell SS.out.bx.1.out _ q2
                  have y3:wr.cell? ⟨gp,k * 6 + 3,none⟩=some (.int .u32 q.wh):=Pile.cell SS.out.bx.1.out _ q3
                  have y4:wr.cell? ⟨gp,k * 6 + 4,none⟩=some (.int .u32 x):=Pile.cell SS.out.bx.1.out _ q4
                  have y5:wr.cell? ⟨gp,k * 6 + 5,none⟩=some (.bool c.is):=Pile.cell SS.out.bx.1.out _ q5
                  clear q0 q1 q2 q3 q4 q5
                  obtain ⟨W5,hW5⟩:∃ W5,wr.alloc (.cells #[.int .u64 a,.int .u64 c.vB,.int .u8 3,.int .u32 q.wh,.int .u32 x,.bool c.is] 130)=W5:=⟨_,rfl⟩
                  have SA:=SS.out.later (new_ (Below.refl _ _) (.cells #[.int .u64 a,.int .u64 c.vB,.int .u8 3,.int .u32 q.wh,.int .u32 x,.bool c.is] 130))
                  rw [hW5] at SA
                  replace SS:=Lib.hid SA
                  have CALL:=Lib.hid (amount_S SS.out BEG.out (by have:=HL.out;have:=HN.out;rw [List.length_append,List.length_take];omega) 3 q.wh x a (show _=l++(amts q.wh xs ms3).take (k + 1) by rw [List.append_assoc,AT.out]))
                  have HW5:=Lib.hid hW5
                  clear SA hW5 AT
                  go_wp2_with fail
                  rw [HW5.out]
                  (with_reducible refine CALL.out.mono ?_)
                  rintro e W6 ⟨rfl,hf,p5,hs⟩
                  have SZ:=Lib.hid hs
                  clear CALL hf hs HW5 y0 y1 y2 y3 y4 y5
                  go_wp2
                  go_roundw
                  case rel=>exact ⟨k',by have:=HK'.out;omega,rfl,Lib.hid ⟨p5,by rw [HK'.out];exact SZ.out⟩⟩
                  case measure=>simp [intOf];have:=HK'.out;omega
                · have d1:decide ((k:Int) < (NN:Int))=false:=by simp;omega
                  have hkk:NN=k:=by omega
                  subst hkk
                  have hta:(amts q.wh xs ms3).take NN=amts q.wh xs ms3:=List.take_of_length_le (by rw [amts_len _ _ _ (by rw [HML3.out,HLEN.out]),HLEN.out];exact Nat.le_refl _)
                  have SA:=SS.out
                  rw [hta] at SA
                  replace SS:=Lib.hid SA
                  have RR:=Lib.hid (show runOm seen (oCraft q) i l=.ok ((⟨q.n,0,0⟩:Rp),l++amts q.wh xs ms3) (i + 1 + NN) by
                    unfold oCraft
                    simp only [runOm_bind,decide_eq_false (show ¬ Stk.errN q.wt q.n≠0 from fun h=>h HE.out),run_deny_no,run_there S0.out.1 S0.out.2]
                    rw [HXS.out,LOOKS.out]
                    simp only [runOm_bind]
                    rw [HFI.out,LESS.out]
                    simp only [runOm_bind]
                    rw [HFO.out,MORE.out]
                    simp only [runOm_bind,oAmounts_ok,runOm_pure])
                  clear SA hta
                  have y0:wr.cell? ⟨g,5,none⟩=some (.int .u64 q.n):=SS.out.kn.c5
                  obtain ⟨⟨z0,z1,z2,z3⟩,x0,x1,x2,x3⟩:=four_cells SS.out.bx.2.2.1.out
                  go_wp2
                  generalize hW:(World.setCell _ (⟨w.heap.size,3,none⟩:Addr) _)=WZ
                  have b9:Box WZ w.heap.size #[.int .u16 0,.int .u64 q.n,.int .u64 0,.int .u64 0] 35:=by
                    rw [← hW]
                    exact four_box SS.out.bx.2.2.1.out
                  have F9:Hid (Fr (fun x=>x=w.heap.size) wr WZ):=Lib.hid (by
                    rw [← hW]
                    exact four_fr)
                  obtain ⟨⟨v0,v1,v2,v3⟩,-⟩:=four_cells b9
                  clear hW b9 z0 z1 z2 z3 x0 x1 x2 x3 y0
                  refine bodyPost_ret (v:=.agg #[.int .u16 0,.int .u64 q.n,.int .u64 0,.int .u64 0]) (by simp [results,Tryz.results68,go_sem,v0,v1,v2,v3];try rfl) rfl ?_
                  exact (SS.out.wr BEG.out 2 rfl F9.out).did (y:=(⟨q.n,0,0⟩,l++amts q.wh xs ms3)) RR.out rfl
theorem craft_all (w:World) (g:Nat) (q:Ot) (v:Value) (base i:Nat) (p:Value) (l:List Pu) (seen:List Ce) (hst:St w g q v base i p l) (hs:SeenAt w g v seen) (hg:g < base) (hbase:base≤w.heap.size) (hl:l.length≤700) (hi:i≤700000) (hq:q.Ok) (hok:∀ c∈seen,c.Ok) :
    Calls Tryz.prog 68 #[.pointer (some ⟨g,0,none⟩)] w (Did w g q v base i p l seen (oCraft q) Rp.enc):=by
  by_cases h:Stk.errN q.wt q.n=0
  · exact craft_good w g q v base i p l seen hst hs hg hbase hl hi hq hok h
  · exact craft_bad w g q v base i p l seen hst hs hg hbase hl hi hq hok h
end Go.Proofs.YtabckmadpdchnaaGreat.Rule
namespace Go.Proofs.YtabckmadpdchnaaGreat.Rule
open Go.ChangeShapes Go.WideShapes Go.ChangeAt Go.RowKit Go.IntWalk Go.Proofs.Mem
theorem own_form {W:World} {base n size:Nat} {e:TypeId} {v:Value} {us:List Value} (h:W.ownsRow base e size v n us):∃ A l c,v=.slice A l c:=by
  rcases h.2 with ⟨rfl,_⟩ | ⟨g,cap,cur,rfl,_⟩
  · exact ⟨none,0,0,rfl⟩
  · exact ⟨_,_,_,rfl⟩
abbrev DoIs (w:World) (q:Ot) (v:Value) (m:Om Rp) (seen:List Ce):Prop:=
  ∀ W,WorkAt W (w.heap.size + 1 + 1) q v 0 (.slice none 0 0)→Below w.heap.size w W→w.heap.size + 3≤W.heap.size→Calls Tryz.prog 51 #[.pointer (some ⟨w.heap.size + 1 + 1,0,none⟩)] W (Did W (w.heap.size + 1 + 1) q v (w.heap.size + 3) 0 (.slice none 0 0) [] seen m Rp.enc)
abbrev CkIs (q:Ot) (v:Value) (x:Option Int):Prop:=∀ W g,WorkAt W g q v 0 (.slice none 0 0)→Calls Tryz.prog 50 #[.pointer (some ⟨g,0,none⟩)] W (CkQ x W)
theorem run_do_err (w:World) (kd wh wm wt id n pr:Int) (A:Option Addr) (l c:Nat) (m:Om Rp) (seen:List Ce) (x:Int) (hr:runOm seen m 0 []=.err x) (hck:CkIs ⟨kd,wh,wm,wt,id,n,pr⟩ (.slice A l c) none) (hdo:DoIs w ⟨kd,wh,wm,wt,id,n,pr⟩ (.slice A l c) m seen) :
    RunIs #[.int .u8 kd,.int .u32 wh,.int .u32 wm,.int .u32 wt,.int .u32 id,.int .u64 n,.int .u64 pr] (.slice A l c) w none 0 0 x 0 0 0 0 0 0 false (fun _=>True):=by
  have hmf:∀ (fn:Fn) (first cap:Array Value) (w:World),(Instr.makeFunc fn first cap).run Tryz.prog w=.ok (.func fn first cap) w:=fun _ _ _ _=>rfl
  obtain ⟨hb1,hb2⟩:=work_new w #[.int .u8 kd,.int .u32 wh,.int .u32 wm,.int .u32 wt,.int .u32 id,.int .u64 n,.int .u64 pr] ⟨kd,wh,wm,wt,id,n,pr⟩ (.slice A l c)
  have call1:=hck _ _ hb2
  have DO:=Lib.hid (fun (W:World) (h1:Below (((w.alloc (.cells #[.int .u8 kd,.int .u32 wh,.int .u32 wm,.int .u32 wt,.int .u32 id,.int .u64 n,.int .u64 pr] 29)).alloc (.cells out0 81)).alloc (.cells (wk ⟨kd,wh,wm,wt,id,n,pr⟩ (.slice A l c) 0 (.slice none 0 0)) 109)).heap.size (((w.alloc (.cells #[.int .u8 kd,.int .u32 wh,.int .u32 wm,.int .u32 wt,.int .u32 id,.int .u64 n,.int .u64 pr] 29)).alloc (.cells out0 81)).alloc (.cells (wk ⟨kd,wh,wm,wt,id,n,pr⟩ (.slice A l c) 0 (.slice none 0 0)) 109)) W)=>hdo W (hb2.later h1) ((new_ (new_ (new_ (Below.refl w.heap.size w) _) _) _).trans (h1.mono (by simp;omega))) (by have:=h1.size;simp at this;omega))
  unfold Did at DO
  rw [hr] at DO
  dsimp only [wk,out0] at call1 hb1 DO
  have CALL1:=Lib.hid call1
  have HB1:=Lib.hid hb1
  clear hck hdo hr hb1 hb2 call1
  unfold CkQ at CALL1
  unfold RunIs
  go_enter_defers Tryz.func33,Tryz.ntmps33
  go_wp2_with fail
  (with_reducible refine CALL1.out.mono ?_)
  rintro en w1 ⟨rfl,hk1⟩
  have HK1:=Lib.hid hk1
  have CALL2:=Lib.hid (DO.out w1 hk1)
  clear hk1
  go_wp2_with fail
  (with_reducible refine CALL2.out.mono ?_)
  rintro en w2 ⟨rfl,hk2⟩
  refine leaves_cons (f:=49) (args:=#[.pointer (some ⟨w.heap.size + 1,0,none⟩)]) (by simp) (by simp [go_sem]) ?_
  refine (catch_err (w.heap.size + 1) x _ ((HB1.out.later HK1.out).below hk2 (by omega))).mono ?_
  rintro en u' w'' ⟨rfl,rfl,hbx,hfr⟩
  obtain ⟨k0,k1,k2,k3,k4,k5,k6,k7,k8⟩:=oc_of (hbx:=hbx)
  have HB:=Lib.hid (show Below w.heap.size w w'' from (((new_ (new_ (new_ (Below.refl w.heap.size w) _) _) _).trans (HK1.out.mono (by simp;omega))).trans (hk2.mono (by omega))).trans (hfr.to_below (fun k hk=>by rw [hk];omega) (by have:=HK1.out.size;have:=hk2.size;simp at *;omega)))
  refine ⟨.agg (outE x),?_,rfl,trivial,HB.out⟩
  simp [results,Tryz.results33,go_sem,k0,k1,k2,k3,k4,k5,k6,k7,k8,outE]
theorem run_do_miss (w:World) (kd wh wm wt id n pr:Int) (A:Option Addr) (l c:Nat) (m:Om Rp) (seen:List Ce) (k a b:Int) (hr:runOm seen m 0 []=.miss k a b) (hck:CkIs ⟨kd,wh,wm,wt,id,n,pr⟩ (.slice A l c) none) (hdo:DoIs w ⟨kd,wh,wm,wt,id,n,pr⟩ (.slice A l c) m seen) :
    RunIs #[.int .u8 kd,.int .u32 wh,.int .u32 wm,.int .u32 wt,.int .u32 id,.int .u64 n,.int .u64 pr] (.slice A l c) w none 0 0 0 0 0 0 k a b true (fun _=>True):=by
  have hmf:∀ (fn:Fn) (first cap:Array Value) (w:World),(Instr.makeFunc fn first cap).run Tryz.prog w=.ok (.func fn first cap) w:=fun _ _ _ _=>rfl
  obtain ⟨hb1,hb2⟩:=work_new w #[.int .u8 kd,.int .u32 wh,.int .u32 wm,.int .u32 wt,.int .u32 id,.int .u64 n,.int .u64 pr] ⟨kd,wh,wm,wt,id,n,pr⟩ (.slice A l c)
  have call1:=hck _ _ hb2
  have DO:=Lib.hid (fun (W:World) (h1:Below (((w.alloc (.cells #[.int .u8 kd,.int .u32 wh,.int .u32 wm,.int .u32 wt,.int .u32 id,.int .u64 n,.int .u64 pr] 29)).alloc (.cells out0 81)).alloc (.cells (wk ⟨kd,wh,wm,wt,id,n,pr⟩ (.slice A l c) 0 (.slice none 0 0)) 109)).heap.size (((w.alloc (.cells #[.int .u8 kd,.int .u32 wh,.int .u32 wm,.int .u32 wt,.int .u32 id,.int .u64 n,.int .u64 pr] 29)).alloc (.cells out0 81)).alloc (.cells (wk ⟨kd,wh,wm,wt,id,n,pr⟩ (.slice A l c) 0 (.slice none 0 0)) 109)) W)=>hdo W (hb2.later h1) ((new_ (new_ (new_ (Below.refl w.heap.size w) _) _) _).trans (h1.mono (by simp;omega))) (by have:=h1.size;simp at this;omega))
  unfold Did at DO
  rw [hr] at DO
  dsimp only [wk,out0] at call1 hb1 DO
  have CALL1:=Lib.hid call1
  have HB1:=Lib.hid hb1
  clear hck hdo hr hb1 hb2 call1
  unfold CkQ at CALL1
  unfold RunIs
  go_enter_defers Tryz.func33,Tryz.ntmps33
  go_wp2_with fail
  (with_reducible refine CALL1.out.mono ?_)
  rintro en w1 ⟨rfl,hk1⟩
  have HK1:=Lib.hid hk1
  have CALL2:=Lib.hid (DO.out w1 hk1)
  clear hk1
  go_wp2_with fail
  (with_reducible refine CALL2.out.mono ?_)
  rintro en w2 ⟨rfl,hk2⟩
  refine leaves_cons (f:=49) (args:=#[.pointer (some ⟨w.heap.size + 1,0,none⟩)]) (by simp) (by simp [go_sem]) ?_
  refine (catch_key (w.heap.size + 1) k a b _ ((HB1.out.later HK1.out).below hk2 (by omega))).mono ?_
  rintro en u' w'' ⟨rfl,rfl,hbx,hfr⟩
  obtain ⟨k0,k1,k2,k3,k4,k5,k6,k7,k8⟩:=oc_of (hbx:=hbx)
  have HB:=Lib.hid (show Below w.heap.size w w'' from (((new_ (new_ (new_ (Below.refl w.heap.size w) _) _) _).trans (HK1.out.mono (by simp;omega))).trans (hk2.mono (by omega))).trans (hfr.to_below (fun k hk=>by rw [hk];omega) (by have:=HK1.out.size;have:=hk2.size;simp at *;omega)))
  refine ⟨.agg (outK k a b),?_,rfl,trivial,HB.out⟩
  simp [results,Tryz.results33,go_sem,k0,k1,k2,k3,k4,k5,k6,k7,k8,outK]
theorem run_do_ok (w:World) (kd wh wm wt id n pr:Int) (A:Option Addr) (l c:Nat) (m:Om Rp) (seen:List Ce) (y:Rp × List Pu) (j:Nat) (hr:runOm seen m 0 []=.ok y j) (hck:CkIs ⟨kd,wh,wm,wt,id,n,pr⟩ (.slice A l c) none) (hdo:DoIs w ⟨kd,wh,wm,wt,id,n,pr⟩ (.slice A l c) m seen) :
    RunEx #[.int .u8 kd,.int .u32 wh,.int .u32 wm,.int .u32 wt,.int .u32 id,.int .u64 n,.int .u64 pr] (.slice A l c) w 0 y.1.A y.1.B y.1.C 0 0 0 false (fun p W=>W.ownsRow (w.heap.size + 3) 69 6 p y.2.length (putCells y.2)):=by
  have hmf:∀ (fn:Fn) (first cap:Array Value) (w:World),(Instr.makeFunc fn first cap).run Tryz.prog w=.ok (.func fn first cap) w:=fun _ _ _ _=>rfl
  obtain ⟨hb1,hb2⟩:=work_new w #[.int .u8 kd,.int .u32 wh,.int .u32 wm,.int .u32 wt,.int .u32 id,.int .u64 n,.int .u64 pr] ⟨kd,wh,wm,wt,id,n,pr⟩ (.slice A l c)
  have call1:=hck _ _ hb2
  have DO:=Lib.hid (fun (W:World) (h1:Below (((w.alloc (.cells #[.int .u8 kd,.int .u32 wh,.int .u32 wm,.int .u32 wt,.int .u32 id,.int .u64 n,.int .u64 pr] 29)).alloc (.cells out0 81)).alloc (.cells (wk ⟨kd,wh,wm,wt,id,n,pr⟩ (.slice A l c) 0 (.slice none 0 0)) 109)).heap.size (((w.alloc (.cells #[.int .u8 kd,.int .u32 wh,.int .u32 wm,.int .u32 wt,.int .u32 id,.int .u64 n,.int .u64 pr] 29)).alloc (.cells out0 81)).alloc (.cells (wk ⟨kd,wh,wm,wt,id,n,pr⟩ (.slice A l c) 0 (.slice none 0 0)) 109)) W)=>hdo W (hb2.later h1) ((new_ (new_ (new_ (Below.refl w.heap.size w) _) _) _).trans (h1.mono (by simp;omega))) (by have:=h1.size;simp at this;omega))
  unfold Did at DO
  rw [hr] at DO
  unfold Rp.enc at DO
  dsimp only [wk,out0] at call1 hb1 DO
  have CALL1:=Lib.hid call1
  have HB1:=Lib.hid hb1
  clear hck hdo hr hb1 hb2 call1
  unfold CkQ at CALL1
  unfold RunEx
  go_enter_defers Tryz.func33,Tryz.ntmps33
  go_wp2_with fail
  (with_reducible refine CALL1.out.mono ?_)
  rintro en w1 ⟨rfl,hk1⟩
  have HK1:=Lib.hid hk1
  have CALL2:=Lib.hid (DO.out w1 hk1)
  clear hk1
  go_wp2_with fail
  (with_reducible refine CALL2.out.mono ?_)
  rintro en w2 ⟨rfl,p',hst,hf,hnw⟩
  obtain ⟨Ap,lp,cp,rfl⟩:=own_form hst.own
  have hz2:w.heap.size + 3≤w2.heap.size:=by have:=HK1.out.size;have:=hf.size;simp at *;omega
  have OB:=Lib.hid ((HB1.out.later HK1.out).fr hf (by rintro (e | e);omega;cases e))
  have hbw:Below w.heap.size w w2:=((new_ (new_ (new_ (Below.refl w.heap.size w) _) _) _).trans (HK1.out.mono (by simp;omega))).trans (hf.to_below (fun k hk=>by rcases hk with e | e;omega;cases e) (by have:=HK1.out.size;simp at *;omega))
  have WB:=Lib.hid hst.wb
  have OW:=Lib.hid hst.own
  have HBW:=Lib.hid hbw
  clear hst hf hnw hbw CALL1 CALL2 DO HB1 HK1
  obtain ⟨W2,hW2⟩:∃ W2,w2.alloc (.cells #[.int .u16 0,.int .u64 y.1.A,.int .u64 y.1.B,.int .u64 y.1.C] 35)=W2:=⟨_,rfl⟩
  have bw:=OB.out.alloc (.cells #[.int .u16 0,.int .u64 y.1.A,.int .u64 y.1.B,.int .u64 y.1.C] 35)
  rw [hW2] at bw
  have c9:W2.cell? ⟨w.heap.size + 1 + 1,9,none⟩=some (.slice Ap lp cp):=by
    rw [← hW2];exact (WB.out.alloc _).cell 9
  have rb:Box W2 w2.heap.size #[.int .u16 0,.int .u64 y.1.A,.int .u64 y.1.B,.int .u64 y.1.C] 35:=by rw [← hW2];exact Box.new _ _ _
  have hb3:=Lib.hid (show Below w.heap.size w W2 by rw [← hW2];exact new_ HBW.out _)
  have OW2:=Lib.hid (show W2.ownsRow (w.heap.size + 3) 69 6 (.slice Ap lp cp) y.2.length (putCells y.2) by rw [← hW2];exact own_below OW.out (new_ (Below.refl _ _) _))
  have r0:=rb.cell 0
  have r1:=rb.cell 1
  have r2:=rb.cell 2
  have r3:=rb.cell 3
  have HW2:=Lib.hid hW2
  clear hW2
  go_wp2
  try rw [HW2.out]
  have BW:=Lib.hid bw
  have k0:=bw.cell 0
  have f0:=bw.frozen 0
  have k1:=bw.cell 1
  have f1:=bw.frozen 1
  have k2:=bw.cell 2
  have f2:=bw.frozen 2
  have k3:=bw.cell 3
  have f3:=bw.frozen 3
  have k4:=bw.cell 4
  have f4:=bw.frozen 4
  have k5:=bw.cell 5
  have f5:=bw.frozen 5
  have k6:=bw.cell 6
  have f6:=bw.frozen 6
  have k7:=bw.cell 7
  have f7:=bw.frozen 7
  have k8:=bw.cell 8
  have f8:=bw.frozen 8
  simp only [List.getElem?_toArray,List.getElem?_cons_zero,List.getElem?_cons_succ] at k0 k1 k2 k3 k4 k5 k6 k7 k8 r0 r1 r2 r3
  clear bw rb HW2
  go_region
  all_goals
    go_wp2
    generalize hW:(World.setCell _ (⟨w.heap.size + 1,8,none⟩:Addr) _)=W9
    have hb9:Box W9 (w.heap.size + 1) (outc (.slice Ap lp cp) 0 y.1.A y.1.B y.1.C 0 0 0 false) 81:=by rw [← hW];exact (((((((((BW.out.set_ 0 _).set_ 1 _).set_ 2 _).set_ 3 _).set_ 4 _).set_ 5 _).set_ 6 _).set_ 7 _).set_ 8 _)
    have hf9:Fr (fun k=>k=w.heap.size + 1) W2 W9:=by rw [← hW];exact ((((((((((Fr.refl (fun k=>k=w.heap.size + 1) W2).setCell (p:=⟨w.heap.size + 1,0,none⟩) (.inl rfl) _).setCell (p:=⟨w.heap.size + 1,1,none⟩) (.inl rfl) _).setCell (p:=⟨w.heap.size + 1,2,none⟩) (.inl rfl) _).setCell (p:=⟨w.heap.size + 1,3,none⟩) (.inl rfl) _).setCell (p:=⟨w.heap.size + 1,4,none⟩) (.inl rfl) _).setCell (p:=⟨w.heap.size + 1,5,none⟩) (.inl rfl) _).setCell (p:=⟨w.heap.size + 1,6,none⟩) (.inl rfl) _).setCell (p:=⟨w.heap.size + 1,7,none⟩) (.inl rfl) _).setCell (p:=⟨w.heap.size + 1,8,none⟩) (.inl rfl) _)
    clear hW k0 k1 k2 k3 k4 k5 k6 k7 k8
    refine leaves_cons (f:=49) (args:=#[.pointer (some ⟨w.heap.size + 1,0,none⟩)]) (by simp) (by simp [go_sem]) ?_
    refine (catch_none (w.heap.size + 1) _).mono ?_
    rintro en u' w'' ⟨rfl,rfl,rfl⟩
    obtain ⟨k0,k1,k2,k3,k4,k5,k6,k7,k8⟩:=oc_of (hbx:=hb9)
    refine ⟨.agg (outc (.slice Ap lp cp) 0 y.1.A y.1.B y.1.C 0 0 0 false),?_,_,_,_,rfl,?_,?_⟩
    · simp [results,Tryz.results33,go_sem,k0,k1,k2,k3,k4,k5,k6,k7,k8,outc]
    · exact own_frs (S:=fun k=>k=w.heap.size + 1) OW2.out hf9.drew (fun x hx h=>own_not_box OW2.out BW.out (by decide) (by rw [hx,h]))
    · exact Below.drew (hb3.out.trans (hf9.to_below (fun k hk=>by rw [hk];omega) hb3.out.size))
theorem run_ck_err (w:World) (kd wh wm wt id n pr:Int) (A:Option Addr) (l c:Nat) (e:Int) (hck:CkIs ⟨kd,wh,wm,wt,id,n,pr⟩ (.slice A l c) (some e)):RunIs #[.int .u8 kd,.int .u32 wh,.int .u32 wm,.int .u32 wt,.int .u32 id,.int .u64 n,.int .u64 pr] (.slice A l c) w none 0 0 e 0 0 0 0 0 0 false (fun _=>True):=by
  have hmf:∀ (fn:Fn) (first cap:Array Value) (w:World),(Instr.makeFunc fn first cap).run Tryz.prog w=.ok (.func fn first cap) w:=fun _ _ _ _=>rfl
  obtain ⟨hb1,hb2⟩:=work_new w #[.int .u8 kd,.int .u32 wh,.int .u32 wm,.int .u32 wt,.int .u32 id,.int .u64 n,.int .u64 pr] ⟨kd,wh,wm,wt,id,n,pr⟩ (.slice A l c)
  have call1:=hck _ _ hb2
  dsimp only [wk,out0] at call1 hb1
  have CALL1:=Lib.hid call1
  have HB1:=Lib.hid hb1
  clear hck hb1 hb2 call1
  unfold CkQ at CALL1
  unfold RunIs
  go_enter_defers Tryz.func33,Tryz.ntmps33
  go_wp2_with fail
  (with_reducible refine CALL1.out.mono ?_)
  rintro en w1 ⟨rfl,hk1⟩
  refine leaves_cons (f:=49) (args:=#[.pointer (some ⟨w.heap.size + 1,0,none⟩)]) (by simp) (by simp [go_sem]) ?_
  refine (catch_err (w.heap.size + 1) e _ (HB1.out.later hk1)).mono ?_
  rintro en u' w'' ⟨rfl,rfl,hbx,hfr⟩
  obtain ⟨k0,k1,k2,k3,k4,k5,k6,k7,k8⟩:=oc_of (hbx:=hbx)
  have HB:=Lib.hid (show Below w.heap.size w w'' from ((new_ (new_ (new_ (Below.refl w.heap.size w) _) _) _).trans (hk1.mono (by simp;omega))).trans (hfr.to_below (fun k hk=>by rw [hk];omega) (by have:=hk1.size;simp at *;omega)))
  refine ⟨.agg (outE e),?_,rfl,trivial,HB.out⟩
  simp [results,Tryz.results33,go_sem,k0,k1,k2,k3,k4,k5,k6,k7,k8,outE]
end Go.Proofs.YtabckmadpdchnaaGreat.Rule
namespace Go.Proofs.YtabckmadpdchnaaGreat.Rule
open Go.ChangeShapes Go.WideShapes Go.ChangeAt Go.RowKit Go.IntWalk Go.Proofs.Mem Go.Proofs.Each
theorem do_all (w:World) (g:Nat) (q:Ot) (v:Value) (base i:Nat) (p:Value) (l:List Pu) (seen:List Ce) (hst:St w g q v base i p l) (beg:Begin w g q v base p seen) (hl:l.length≤700) (hi:i≤700000) (hk:1≤q.kd∧q.kd≤18) :
    Calls Tryz.prog 51 #[.pointer (some ⟨g,0,none⟩)] w (Did w g q v base i p l seen (oDo q) Rp.enc):=by
  refine do_of w g q v base i p l seen (oDo q) hst beg hk fun W h1 h2 h3=>?_
  have hkd:q.kd=1∨q.kd=2∨q.kd=3∨q.kd=4∨q.kd=5∨q.kd=6∨q.kd=7∨q.kd=8∨q.kd=9∨q.kd=10∨q.kd=11∨q.kd=12∨q.kd=13∨q.kd=14∨q.kd=15∨q.kd=16∨q.kd=17∨q.kd=18:=by omega
  rcases hkd with hk | hk | hk | hk | hk | hk | hk | hk | hk | hk | hk | hk | hk | hk | hk | hk | hk | hk
  · rw [show oDo q=oOpen q by simp [oDo,hk],show opFn q.kd=62 by rw [hk];rfl];exact open_any W g q v base i p l seen h1 h3 beg.hg (Nat.le_trans beg.hbase h2) (by omega) (by omega) beg.hq beg.hok
  · rw [show oDo q=oMint q by simp [oDo,hk],show opFn q.kd=63 by rw [hk];rfl];exact mint_all W g q v base i p l seen h1 h3 beg.hg (Nat.le_trans beg.hbase h2) (by omega) (by omega) beg.hq beg.hok
  · rw [show oDo q=oMint q by simp [oDo,hk],show opFn q.kd=63 by rw [hk];rfl];exact mint_all W g q v base i p l seen h1 h3 beg.hg (Nat.le_trans beg.hbase h2) (by omega) (by omega) beg.hq beg.hok
  · rw [show oDo q=oCreate q by simp [oDo,hk],show opFn q.kd=64 by rw [hk];rfl];exact create_all W g q v base i p l seen h1 h3 beg.hg (Nat.le_trans beg.hbase h2) (by omega) (by omega) beg.hq beg.hok
  · rw [show oDo q=oCreate q by simp [oDo,hk],show opFn q.kd=64 by rw [hk];rfl];exact create_all W g q v base i p l seen h1 h3 beg.hg (Nat.le_trans beg.hbase h2) (by omega) (by omega) beg.hq beg.hok
  · rw [show oDo q=oDeposit q by simp [oDo,hk],show opFn q.kd=65 by rw [hk];rfl];exact deposit_all W g q v base i p l seen h1 h3 beg.hg (Nat.le_trans beg.hbase h2) (by omega) (by omega) beg.hq beg.hok
  · rw [show oDo q=oDeposit q by simp [oDo,hk],show opFn q.kd=65 by rw [hk];rfl];exact deposit_all W g q v base i p l seen h1 h3 beg.hg (Nat.le_trans beg.hbase h2) (by omega) (by omega) beg.hq beg.hok
  · rw [show oDo q=oPay q by simp [oDo,hk],show opFn q.kd=66 by rw [hk];rfl];exact pay_any W g q v base i p l seen h1 h3 beg.hg (Nat.le_trans beg.hbase h2) (by omega) (by omega) beg.hq beg.hok
  · rw [show oDo q=oGive q by simp [oDo,hk],show opFn q.kd=67 by rw [hk];rfl];exact give_any W g q v base i p l seen h1 h3 beg.hg (Nat.le_trans beg.hbase h2) (by omega) (by omega) beg.hq beg.hok
  · rw [show oDo q=oCraft q by simp [oDo,hk],show opFn q.kd=68 by rw [hk];rfl];exact craft_all W g q v base i p l seen h1 h3 beg.hg (Nat.le_trans beg.hbase h2) (by omega) (by omega) beg.hq beg.hok
  · rw [show oDo q=oTrade q by simp [oDo,hk],show opFn q.kd=69 by rw [hk];rfl];exact trade_all W g q v base i p l seen h1 h3 beg.hg (Nat.le_trans beg.hbase h2) (by omega) (by omega) beg.hq beg.hok
  · rw [show oDo q=oOffer q by simp [oDo,hk],show opFn q.kd=70 by rw [hk];rfl];exact offer_all W g q v base i p l seen h1 h3 beg.hg (Nat.le_trans beg.hbase h2) (by omega) (by omega) beg.hq beg.hok
  · rw [show oDo q=oAgree q by simp [oDo,hk],show opFn q.kd=71 by rw [hk];rfl];exact agree_all W g q v base i p l seen h1 h3 beg.hg (Nat.le_trans beg.hbase h2) (by omega) (by omega) beg.hq beg.hok
  · rw [show oDo q=oBreak q by simp [oDo,hk],show opFn q.kd=72 by rw [hk];rfl];exact break_all W g q v base i p l seen h1 h3 beg.hg (Nat.le_trans beg.hbase h2) (by omega) (by omega) beg.hq beg.hok
  · rw [show oDo q=oSell q by simp [oDo,hk],show opFn q.kd=73 by rw [hk];rfl];exact sell_all W g q v base i p l seen h1 h3 beg.hg (Nat.le_trans beg.hbase h2) (by omega) (by omega) beg.hq beg.hok
  · rw [show oDo q=oBid q by simp [oDo,hk],show opFn q.kd=74 by rw [hk];rfl];exact bid_all W g q v base i p l seen h1 h3 beg.hg (Nat.le_trans beg.hbase h2) (by omega) (by omega) beg.hq beg.hok
  · rw [show oDo q=oClose q by simp [oDo,hk],show opFn q.kd=75 by rw [hk];rfl];exact close_all W g q v base i p l seen h1 h3 beg.hg (Nat.le_trans beg.hbase h2) (by omega) (by omega) beg.hq beg.hok
  · rw [show oDo q=oLookAt q by simp [oDo,hk],show opFn q.kd=76 by rw [hk];rfl];exact lookAt_any W g q v base i p l seen h1 h3 beg.hg (Nat.le_trans beg.hbase h2) (by omega) (by omega) beg.hq beg.hok
end Go.Proofs.YtabckmadpdchnaaGreat.Rule
namespace Go.Proofs.YtabckmadpdchnaaGreat.Rule
open Go.ChangeShapes Go.WideShapes Go.ChangeAt Go.RowKit Go.IntWalk Go.Proofs.Mem
theorem next_ex (w:World) (kd wh wm wt id n pr:Int) (v:Value) (e a b c k x y:Int) (q:Bool) (P:Value→World→Prop)
    (h:∀ W,Below w.heap.size w W→RunEx #[.int .u8 kd,.int .u32 wh,.int .u32 wm,.int .u32 wt,.int .u32 id,.int .u64 n,.int .u64 pr] v W e a b c k x y q P) :
    Calls Tryz.prog 20 #[.agg #[.int .u8 kd,.int .u32 wh,.int .u32 wm,.int .u32 wt,.int .u32 id,.int .u64 n,.int .u64 pr],v] w fun en w'=>en=.returned (.tuple #[.agg #[.int .u8 k,.int .u32 x,.int .u32 y],.bool q])∧Below w.heap.size w w':=by
  unfold RunEx outc at h
  have H:=Lib.hid (h _ (new_ (new_ (Below.refl w.heap.size w) (.cells #[.int .u8 kd,.int .u32 wh,.int .u32 wm,.int .u32 wt,.int .u32 id,.int .u64 n,.int .u64 pr] 29)) (.cells #[.int .u8 0,.int .u32 0,.int .u32 0] 49)))
  clear h
  go_enter Tryz.func20,Tryz.ntmps20
  go_wp2_with (go_at_call 33;(with_reducible refine H.out.mono ?_);rintro en w1 ⟨A,l,cc,rfl,_,hb1⟩;have HB1:=Lib.hid hb1;have hz1:=hb1.size;clear hb1)
  obtain ⟨W2,hW2⟩:∃ W2,w1.alloc (.cells #[.slice A l cc,.int .u16 e,.int .u64 a,.int .u64 b,.int .u64 c,.int .u8 k,.int .u32 x,.int .u32 y,.bool q] 81)=W2:=⟨_,rfl⟩
  have ob:Box W2 w1.heap.size #[.slice A l cc,.int .u16 e,.int .u64 a,.int .u64 b,.int .u64 c,.int .u8 k,.int .u32 x,.int .u32 y,.bool q] 81:=by rw [← hW2];exact Box.new _ _ _
  have rb:Box W2 (w.heap.size + 1) #[.int .u8 0,.int .u32 0,.int .u32 0] 49:=by
    rw [← hW2]
    have:=Box.new (w.alloc (.cells #[.int .u8 kd,.int .u32 wh,.int .u32 wm,.int .u32 wt,.int .u32 id,.int .u64 n,.int .u64 pr] 29)) #[.int .u8 0,.int .u32 0,.int .u32 0] 49
    rw [World.size_alloc] at this
    exact (this.later HB1.out).alloc _
  have hb3:=Lib.hid (show Below w.heap.size w W2 by rw [← hW2];exact new_ ((new_ (new_ (Below.refl w.heap.size w) _) _).trans (HB1.out.mono (by simp;omega))) _)
  obtain ⟨o0,o1,o2,o3,o4,o5,o6,o7,o8⟩:=oc_of (hbx:=ob)
  have r0:=rb.cell 0
  have r1:=rb.cell 1
  have r2:=rb.cell 2
  have f0:=rb.frozen 0
  have f1:=rb.frozen 1
  have f2:=rb.frozen 2
  simp only [List.getElem?_toArray,List.getElem?_cons_zero,List.getElem?_cons_succ] at r0 r1 r2
  have RB:=Lib.hid rb
  rw [hW2]
  clear ob rb hW2 hz1
  go_region
  all_goals
    go_wp2
    generalize hW:(World.setCell _ (⟨w.heap.size + 1,2,none⟩:Addr) _)=W9
    have hb9:Box W9 (w.heap.size + 1) #[.int .u8 k,.int .u32 x,.int .u32 y] 49:=by rw [← hW];exact (((RB.out.set_ 0 _).set_ 1 _).set_ 2 _)
    have hf9:Fr (fun k=>k=w.heap.size + 1) W2 W9:=by rw [← hW];exact ((((Fr.refl (fun k=>k=w.heap.size + 1) W2).setCell (p:=⟨w.heap.size + 1,0,none⟩) (.inl rfl) _).setCell (p:=⟨w.heap.size + 1,1,none⟩) (.inl rfl) _).setCell (p:=⟨w.heap.size + 1,2,none⟩) (.inl rfl) _)
    have t0:=hb9.cell 0
    have t1:=hb9.cell 1
    have t2:=hb9.cell 2
    simp only [List.getElem?_toArray,List.getElem?_cons_zero,List.getElem?_cons_succ] at t0 t1 t2
    clear hW
    refine bodyPost_ret (v:=.tuple #[.agg #[.int .u8 k,.int .u32 x,.int .u32 y],.bool q]) (by simp [results,Tryz.results20,go_sem,t0,t1,t2];try rfl) rfl ?_
    exact ⟨rfl,Below.drew (hb3.out.trans (hf9.to_below (fun k hk=>by rw [hk];omega) hb3.out.size))⟩
theorem do_wait (w:World) (kd wh wm wt id n pr:Int) (v:Value) (e a b c k x y:Int) (P:Value→World→Prop)
    (h:∀ W,Below w.heap.size w W→RunEx #[.int .u8 kd,.int .u32 wh,.int .u32 wm,.int .u32 wt,.int .u32 id,.int .u64 n,.int .u64 pr] v W e a b c k x y true P) :
    Calls Tryz.prog 21 #[.agg #[.int .u8 kd,.int .u32 wh,.int .u32 wm,.int .u32 wt,.int .u32 id,.int .u64 n,.int .u64 pr],v] w fun en w'=>en=.returned (.tuple #[.slice none 0 0,.agg #[.int .u16 1,.int .u64 0,.int .u64 0,.int .u64 0]])∧Below w.heap.size w w':=by
  unfold RunEx outc at h
  have H:=Lib.hid (h _ (new_ (new_ (Below.refl w.heap.size w) (.cells #[.int .u8 kd,.int .u32 wh,.int .u32 wm,.int .u32 wt,.int .u32 id,.int .u64 n,.int .u64 pr] 29)) (.cells #[.int .u16 0,.int .u64 0,.int .u64 0,.int .u64 0] 35)))
  clear h
  go_enter Tryz.func21,Tryz.ntmps21
  go_wp2_with (go_at_call 33;(with_reducible refine H.out.mono ?_);rintro en w1 ⟨A,l,cc,rfl,_,hb1⟩
               have rb:=Box.new (w.alloc (.cells #[.int .u8 kd,.int .u32 wh,.int .u32 wm,.int .u32 wt,.int .u32 id,.int .u64 n,.int .u64 pr] 29)) #[.int .u16 0,.int .u64 0,.int .u64 0,.int .u64 0] 35
               rw [World.size_alloc] at rb
               have rb1:=rb.later hb1
               have RB:=Lib.hid rb1
               have r0:=rb1.cell 0
               have r1:=rb1.cell 1
               have r2:=rb1.cell 2
               have r3:=rb1.cell 3
               have f0:=rb1.frozen 0
               have f1:=rb1.frozen 1
               have f2:=rb1.frozen 2
               have f3:=rb1.frozen 3
               simp only [List.getElem?_toArray,List.getElem?_cons_zero,List.getElem?_cons_succ] at r0 r1 r2 r3
               have HB1:=Lib.hid hb1
               have hz1:w.heap.size + 1 < w1.heap.size:=by have:=hb1.size;simp at this;omega
               clear hb1 rb rb1)
  generalize hW:(World.setCell _ (⟨w.heap.size + 1,3,none⟩:Addr) _)=W9
  have hb9:Box W9 (w.heap.size + 1) #[.int .u16 1,.int .u64 0,.int .u64 0,.int .u64 0] 35:=by rw [← hW];exact ((((RB.out.set_ 0 _).set_ 1 _).set_ 2 _).set_ 3 _)
  have hf9:Fr (fun k=>k=w.heap.size + 1) w1 W9:=by rw [← hW];exact (((((Fr.refl (fun k=>k=w.heap.size + 1) w1).setCell (p:=⟨w.heap.size + 1,0,none⟩) (.inl rfl) _).setCell (p:=⟨w.heap.size + 1,1,none⟩) (.inl rfl) _).setCell (p:=⟨w.heap.size + 1,2,none⟩) (.inl rfl) _).setCell (p:=⟨w.heap.size + 1,3,none⟩) (.inl rfl) _)
  have hb3:=Lib.hid ((new_ (new_ (Below.refl w.heap.size w) _) _).trans (HB1.out.mono (by simp;omega)))
  clear hW
  generalize hX:World.alloc _ _=W10
  have hb10:Box W10 (w.heap.size + 1) #[.int .u16 1,.int .u64 0,.int .u64 0,.int .u64 0] 35:=by rw [← hX];exact hb9.alloc _
  have hf10:Fr (fun k=>k=w.heap.size + 1) w1 W10:=by rw [← hX];exact hf9.alloc _
  have t0:=hb10.cell 0
  have t1:=hb10.cell 1
  have t2:=hb10.cell 2
  have t3:=hb10.cell 3
  simp only [List.getElem?_toArray,List.getElem?_cons_zero,List.getElem?_cons_succ] at t0 t1 t2 t3
  clear hX
  refine bodyPost_ret (v:=.tuple #[.slice none 0 0,.agg #[.int .u16 1,.int .u64 0,.int .u64 0,.int .u64 0]]) (by simp [results,Tryz.results21,go_sem,t0,t1,t2,t3];try rfl) rfl ?_
  exact ⟨rfl,hb3.out.trans (hf10.to_below (fun k hk=>by rw [hk];omega) hb3.out.size)⟩
theorem RunIs.ex {op:Array Value} {v:Value} {w:World} {e a b c k x y:Int} {q:Bool} {P:Value→World→Prop} (h:RunIs op v w none 0 0 e a b c k x y q (fun _=>True)) (hP:∀ W,P (.slice none 0 0) W):RunEx op v w e a b c k x y q P:=
  h.mono fun en w' ⟨h1,_,h3⟩=>⟨none,0,0,h1,hP _,h3⟩
def RunQ (q:Ot) (v:Value) (W:World) (seen:List Ce):Prop:=match runOm seen (oAll q) 0 [] with
  | .miss k a b=>RunEx q.cells v W 0 0 0 0 k a b true (fun p _=>p=.slice none 0 0)
  | .err e=>RunEx q.cells v W e 0 0 0 0 0 0 false (fun p _=>p=.slice none 0 0)
  | .ok y j=>RunEx q.cells v W 0 y.1.A y.1.B y.1.C 0 0 0 false (fun p W'=>W'.ownsRow (W.heap.size + 3) 69 6 p y.2.length (putCells y.2))
theorem run_q (q:Ot) (hq:q.Ok) (W:World) (A:Option Addr) (l c:Nat) (seen:List Ce) (hs:SeenAt W W.heap.size (.slice A l c) seen) (hok:∀ c∈seen,c.Ok):RunQ q (.slice A l c) W seen:=by
  have hck:CkIs q (.slice A l c) (ckE q):=fun W g h=>check_any W g q hq _ 0 _ h
  have hdo:1≤q.kd∧q.kd≤18→DoIs W q (.slice A l c) (oDo q) seen:=fun hk W' hw hb hz=>
    do_all W' (W.heap.size + 1 + 1) q (.slice A l c) (W.heap.size + 3) 0 (.slice none 0 0) [] seen ⟨hw,World.ownsRow_nil _ _ _ _⟩
      ⟨(hs.below hb).more (by omega),by omega,hz,hq,hok,fun x hx=>by cases hx⟩ (by simp) (by omega) hk
  obtain ⟨kd,wh,wm,wt,id,n,pr⟩:=q
  unfold RunQ oAll
  cases hc:ckE ⟨kd,wh,wm,wt,id,n,pr⟩ with
  | some e=>
    rw [hc] at hck
    exact (run_ck_err W kd wh wm wt id n pr A l c e hck).ex (fun _=>rfl)
  | none=>
    rw [hc] at hck
    by_cases hk:1≤kd∧kd≤18
    · have hd:=hdo hk
      cases hr:runOm seen (oDo ⟨kd,wh,wm,wt,id,n,pr⟩) 0 [] with
      | miss k a b=>exact (run_do_miss W kd wh wm wt id n pr A l c _ seen k a b hr hck hd).ex (fun _=>rfl)
      | err e=>exact (run_do_err W kd wh wm wt id n pr A l c _ seen e hr hck hd).ex (fun _=>rfl)
      | ok y j=>exact run_do_ok W kd wh wm wt id n pr A l c _ seen y j hr hck hd
    · have h0:wh≠0:=fun e=>by rw [e] at hc;simp [ckE] at hc
      have hkd:=hq.kd
      dsimp only at hkd
      rw [show oDo ⟨kd,wh,wm,wt,id,n,pr⟩=oErr 1 by
        unfold oDo
        simp only
        repeat (rw [if_neg (by omega)])]
      refine (run_none W kd wh wm wt id n pr A l c h0 (by omega)).mono fun en w' ⟨h1,h2⟩=>⟨none,0,0,h1,rfl,h2⟩
theorem next_op (q:Ot) (hq:q.Ok) (w:World) (A:Option Addr) (l c:Nat) (seen:List Ce) (hs:SeenAt w w.heap.size (.slice A l c) seen) (hok:∀ c∈seen,c.Ok) :
    Calls Tryz.prog 20 #[.agg q.cells,.slice A l c] w fun en w'=>en=.returned (.tuple #[.agg #[.int .u8 (nOut (runOm seen (oAll q) 0 [])).1,.int .u32 (nOut (runOm seen (oAll q) 0 [])).2.1,.int .u32 (nOut (runOm seen (oAll q) 0 [])).2.2.1],.bool (nOut (runOm seen (oAll q) 0 [])).2.2.2])∧Below w.heap.size w w':=by
  have H:∀ W,Below w.heap.size w W→RunQ q (.slice A l c) W seen:=fun W hb=>run_q q hq W A l c seen ((hs.below hb).more hb.size) hok
  unfold RunQ at H
  obtain ⟨kd,wh,wm,wt,id,n,pr⟩:=q
  cases hr:runOm seen (oAll ⟨kd,wh,wm,wt,id,n,pr⟩) 0 [] with
  | miss k a b=>rw [hr] at H;exact next_ex w kd wh wm wt id n pr _ _ _ _ _ _ _ _ _ _ H
  | err e=>rw [hr] at H;exact next_ex w kd wh wm wt id n pr _ _ _ _ _ _ _ _ _ _ H
  | ok y j=>
    rw [hr] at H
    exact next_ex w kd wh wm wt id n pr _ _ _ _ _ _ _ _ _ (fun _ _=>True) (fun W hb=>(H W hb).mono fun en w' ⟨A',l',c',h1,_,h3⟩=>⟨A',l',c',h1,trivial,h3⟩)
theorem do_op (q:Ot) (hq:q.Ok) (w:World) (A:Option Addr) (l c:Nat) (seen:List Ce) (hs:SeenAt w w.heap.size (.slice A l c) seen) (hok:∀ c∈seen,c.Ok) :
    Calls Tryz.prog 21 #[.agg q.cells,.slice A l c] w fun en w'=>∃ A' l' c',en=.returned (.tuple #[.slice A' l' c',.agg #[.int .u16 (dOut (runOm seen (oAll q) 0 [])).2.1,.int .u64 (dOut (runOm seen (oAll q) 0 [])).2.2.A,.int .u64 (dOut (runOm seen (oAll q) 0 [])).2.2.B,.int .u64 (dOut (runOm seen (oAll q) 0 [])).2.2.C]]) ∧
      w'.ownsRow w.heap.size 69 6 (.slice A' l' c') (dOut (runOm seen (oAll q) 0 [])).1.length (putCells (dOut (runOm seen (oAll q) 0 [])).1)∧Below w.heap.size w w':=by
  have H:∀ W,Below w.heap.size w W→RunQ q (.slice A l c) W seen:=fun W hb=>run_q q hq W A l c seen ((hs.below hb).more hb.size) hok
  unfold RunQ at H
  obtain ⟨kd,wh,wm,wt,id,n,pr⟩:=q
  cases hr:runOm seen (oAll ⟨kd,wh,wm,wt,id,n,pr⟩) 0 [] with
  | miss k a b=>
    rw [hr] at H
    exact (do_wait w kd wh wm wt id n pr _ _ _ _ _ _ _ _ _ H).mono fun en w' ⟨h1,h2⟩=>⟨none,0,0,h1,World.ownsRow_nil _ _ _ _,h2⟩
  | err e=>
    rw [hr] at H
    exact (do_done w kd wh wm wt id n pr _ _ _ _ _ _ _ _ _ H).mono fun en w' ⟨A',l',c',h1,h2,w1,h3,_⟩=>by
      rw [h3] at h1
      exact ⟨none,0,0,h1,World.ownsRow_nil _ _ _ _,h2⟩
  | ok y j=>
    rw [hr] at H
    exact (do_done w kd wh wm wt id n pr _ _ _ _ _ _ _ _ (fun p W'=>W'.ownsRow (w.heap.size + 3) 69 6 p y.2.length (putCells y.2)) (fun W hb=>(H W hb).mono fun en w' ⟨A',l',c',h1,h4,h3⟩=>⟨A',l',c',h1,own_lower h4 (by have:=hb.size;omega),h3⟩)).mono fun en w' ⟨A',l',c',h1,h2,w1,h3,_,h5⟩=>
      ⟨A',l',c',h1,own_lower (own_frs h3 h5 (fun g hg e=>by have:=(h3.lt g hg).1;omega)) (by omega),h2⟩
end Go.Proofs.YtabckmadpdchnaaGreat.Rule
namespace Go.Proofs.YtabckmadpdchnaaGreat.Rule
open Go.ChangeShapes Go.WideShapes Go.ChangeAt Go.RowKit Go.IntWalk Go.Proofs.Mem
theorem cell_info:(Tryz.prog.info? 53).map (fun i=>(i.zero,i.size,i.bytes))=some (some (.agg #[.int .u8 0,.int .u32 0,.int .u32 0,.int .u64 0,.int .u64 0,.bool false]),6,40):=by kernel_rfl
def kyC (c:Ce):List Value:=[.int .u8 c.k,.int .u32 c.a,.int .u32 c.b]
theorem Ce.cells_len (c:Ce):c.cells.length=6:=rfl
theorem Ce.cells_one (c:Ce):∀ u∈c.cells,u.oneCell'=true:=fun u hu=>by simp [Ce.cells] at hu;rcases hu with rfl | rfl | rfl | rfl | rfl | rfl <;> rfl
structure LS (w:World) (q:Ot) (ks seen:List Ce) (kv sv:Value) (M:Int) (W:World):Prop where
  bel:Below w.heap.size w W
  op:Box W w.heap.size #[.int .u8 q.kd,.int .u32 q.wh,.int .u32 q.wm,.int .u32 q.wt,.int .u32 q.id,.int .u64 q.n,.int .u64 q.pr] 29
  kr:W.ownsRow (w.heap.size + 1) 49 3 kv ks.length (ks.flatMap kyC)
  sr:W.ownsRow (w.heap.size + 1) 53 6 sv seen.length (seen.flatMap Ce.cells)
  len:ks.length=seen.length
  ok:∀ c∈seen,c.Ok∧c.A≤M
  pre:∀ n,n < seen.length→∃ k a b,opR q (seen.take n)=.miss k a b
section
variable {w W W':World} {q:Ot} {ks seen:List Ce} {kv sv:Value} {M:Int}
theorem LS.short (h:LS w q ks seen kv sv M W):seen.length≤12:=by
  rcases Nat.eq_zero_or_pos seen.length with h0 | h0
  · omega
  · obtain ⟨k,a,b,hm⟩:=h.pre (seen.length - 1) (by omega)
    have:=miss_short hm
    rw [List.length_take] at this
    omega
theorem LS.later (h:LS w q ks seen kv sv M W) (hb:Below W.heap.size W W'):LS w q ks seen kv sv M W':=
  ⟨h.bel.trans (hb.mono h.bel.size),h.op.later hb,own_below h.kr hb,own_below h.sr hb,h.len,h.ok,h.pre⟩
theorem LS.fr {g:Nat} (h:LS w q ks seen kv sv M W) (hf:Fr (fun x=>x=g) W W') (hg:w.heap.size + 1≤g) (hk:kv.ownBlock≠some g) (hs:sv.ownBlock≠some g):LS w q ks seen kv sv M W':=
  ⟨h.bel.trans (hf.to_below (fun k e=>by omega) h.bel.size),h.op.fr hf (by omega),own_frs h.kr hf (fun x e e2=>hk (by rw [e,e2])),own_frs h.sr hf (fun x e e2=>hs (by rw [e,e2])),h.len,h.ok,h.pre⟩
theorem LS.lt (h:LS w q ks seen kv sv M W):w.heap.size < W.heap.size:=h.op.lt
theorem own_apart {w:World} {b b' s s' n n':Nat} {e e':TypeId} {u v:Value} {xs ys:List Value} (h:w.ownsRow b e s u n xs) (h':w.ownsRow b' e' s' v n' ys) (he:e≠e') (k:Nat) (hu:u.ownBlock=some k):v.ownBlock≠some k:=by
  rcases h.2 with ⟨rfl,_⟩ | ⟨g,cap,cur,rfl,_,hg,_⟩
  · cases hu
  · injection hu with hu
    simp only at hu
    subst hu
    exact own_not_box h' (show Box w g cur e from hg) he
theorem LS.push (h:LS w q ks seen kv sv M W) {c d:Ce} {kv' sv':Value} {Wa Wb Wc:World} (hb:Below W.heap.size W Wa) (tk:RowTo Wa Wb kv kv') (hk:Wb.ownsRow (w.heap.size + 1) 49 3 kv' (ks++[d]).length ((ks++[d]).flatMap kyC))
    (hb2:Below Wb.heap.size Wb Wc) (ts:RowTo Wc W' sv sv') (hs:W'.ownsRow (w.heap.size + 1) 53 6 sv' (seen++[c]).length ((seen++[c]).flatMap Ce.cells)) (hc:c.Ok∧c.A≤M) {k a b:Int} (hm:opR q seen=.miss k a b):LS w q (ks++[d]) (seen++[c]) kv' sv' M W':=by
  have h1:=h.later hb
  have z1:=h.lt
  have z2:=hb.size
  have z3:=tk.fr.size
  have z4:=hb2.size
  have kb:∀ x,kv.ownBlock=some x→w.heap.size + 1≤x:=fun x e=>(h.kr.lt x e).1
  have sb:∀ x,sv.ownBlock=some x→w.heap.size + 1≤x:=fun x e=>(h.sr.lt x e).1
  refine ⟨((h1.bel.trans (tk.below (B:=w.heap.size) (fun x e=>by have:=kb x e;omega) h1.bel.size)).trans (hb2.mono (by omega))).trans (ts.below (B:=w.heap.size) (fun x e=>by have:=sb x e;omega) (by omega)),
    ts.box ((tk.box h1.op (fun e=>by have:=kb _ e;omega)).later hb2) (fun e=>by have:=sb _ e;omega),?_,hs,by rw [List.length_append,List.length_append,h.len];rfl,?_,?_⟩
  · refine own_frs (own_below hk hb2) ts.fr (fun x e e2=>?_)
    have h2:=own_frs h1.sr tk.fr (fun y e3 e4=>own_apart h1.kr h1.sr (by decide) y e4 e3)
    exact own_apart hk h2 (by decide) x e e2
  · intro x hx
    rcases List.mem_append.1 hx with hx | hx
    · exact h.ok x hx
    · obtain rfl:x=c:=by simpa using hx
      exact hc
  · intro n hn
    rw [List.length_append] at hn
    rcases Nat.lt_or_ge n seen.length with h3 | h3
    · rw [List.take_append_of_le_length (by omega)]
      exact h.pre n h3
    · obtain rfl:n=seen.length:=by simp at hn;omega
      rw [List.take_left]
      exact ⟨k,a,b,hm⟩
end
structure LI (W:World) (g:Nat) (M:Int) (ce:Ce) (W':World):Prop where
  bx:Box W' g #[.int .u8 ce.k,.int .u32 ce.a,.int .u32 ce.b,.int .u64 ce.A,.int .u64 ce.B,.bool ce.is] 53
  ok:ce.Ok∧ce.A≤M
  fr:Fr (fun x=>x=g) W W'
theorem LI.drewN {W W':World} {g:Nat} {M:Int} {ce:Ce} (h:LI W g M ce W') (n:Nat):LI W g M ce (W'.drewN n):=⟨h.bx.drewN n,h.ok,h.fr.drewN n⟩
theorem LS.drewN {w W:World} {q:Ot} {ks seen:List Ce} {kv sv:Value} {M:Int} (h:LS w q ks seen kv sv M W) (n:Nat):LS w q ks seen kv sv M (W.drewN n):=h.later (below_drewN (Below.refl _ _) n)
theorem LI.over {W W':World} {g:Nat} {M:Int} {ce:Ce} (h:LI W g M ce W') (c:Ce) (hc:c.Ok∧c.A≤M):LI W g M c ((((((W'.setCell ⟨g,0,none⟩ (.int .u8 c.k)).setCell ⟨g,1,none⟩ (.int .u32 c.a)).setCell ⟨g,2,none⟩ (.int .u32 c.b)).setCell ⟨g,3,none⟩ (.int .u64 c.A)).setCell ⟨g,4,none⟩ (.int .u64 c.B)).setCell ⟨g,5,none⟩ (.bool c.is)):=
  ⟨(((((h.bx.set_ 0 _).set_ 1 _).set_ 2 _).set_ 3 _).set_ 4 _).set_ 5 _,hc,(((((h.fr.setCell (p:=⟨g,0,none⟩) (.inl rfl) _).setCell (p:=⟨g,1,none⟩) (.inl rfl) _).setCell (p:=⟨g,2,none⟩) (.inl rfl) _).setCell (p:=⟨g,3,none⟩) (.inl rfl) _).setCell (p:=⟨g,4,none⟩) (.inl rfl) _).setCell (p:=⟨g,5,none⟩) (.inl rfl) _⟩
theorem LS.start (w:World) (q:Ot) (M:Int):LS w q [] [] (.slice none 0 0) (.slice none 0 0) M (w.alloc (.cells #[.int .u8 q.kd,.int .u32 q.wh,.int .u32 q.wm,.int .u32 q.wt,.int .u32 q.id,.int .u64 q.n,.int .u64 q.pr] 29)):=
  ⟨new_ (Below.refl _ _) _,Box.new _ _ _,World.ownsRow_nil _ _ _ _,World.ownsRow_nil _ _ _ _,rfl,fun c hc=>by (cases hc),fun n hn=>by simp at hn⟩
end Go.Proofs.YtabckmadpdchnaaGreat.Rule
