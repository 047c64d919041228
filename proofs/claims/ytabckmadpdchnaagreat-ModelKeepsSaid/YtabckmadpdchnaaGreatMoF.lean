import Derived.Test.YtabckmadpdchnaaGreatMoD
import Derived.BigQuiet
import Derived.Deep.AppendLies
import Derived.Deep.DrawnRows
import Derived.Deep.QuietTactic
import Derived.Deep.RegionHeld3
import Derived.Deep.RegionWith
import Derived.Handy
import Derived.IntWalk
import Derived.Lib.Hide
import Derived.ProofKit
import Derived.WalkKit
set_option linter.unusedVariables false
set_option linter.unusedSimpArgs false
set_option linter.unnecessarySimpa false
set_option linter.deprecated false
set_option maxRecDepth 100000
set_option maxHeartbeats 8000000
/- What the keeping of coins and items wants. -/
namespace Go.Proofs.YtabckmadpdchnaaGreat.Stk
open Go.ChangeShapes Go.WideShapes Go.ChangeAt Go.RowKit Go.IntWalk Go.Proofs.Mem Go.Proofs.Stk
theorem kf_low {w:World} {lo:Nat} {v:Value} {l:List Pr} (h:KF w lo v l) {lo':Nat} (hl:lo'≤lo):KF w lo' v l:=⟨h.1,fun A n c e hn=>by
  obtain ⟨b,off,e2,hb⟩:=h.2 A n c e hn
  exact ⟨b,off,e2,by omega⟩⟩
theorem flatI_len:∀ (l:List Pr),(flatI l).length=2 * l.length
  | []=>rfl
  | p :: l=>by show (p.1 :: p.2 :: flatI l).length=_;simp [flatI_len l];omega
theorem flatI_at:∀ (l:List Pr) (j:Nat),j < l.length→(flatI l).getD (2 * j) 0=(l.getD j (0,0)).1∧(flatI l).getD (2 * j + 1) 0=(l.getD j (0,0)).2
  | [],j,h=>by simp at h
  | p :: l,0,h=>by simp [flatI]
  | p :: l,j + 1,h=>by
    have:=flatI_at l j (by simpa using h)
    show (p.1 :: p.2 :: flatI l).getD _ 0=_∧(p.1 :: p.2 :: flatI l).getD _ 0=_
    rw [show 2 * (j + 1)=2 * j + 1 + 1 by omega,show 2 * j + 1 + 1 + 1=(2 * j + 1) + 1 + 1 by omega]
    simpa using this
theorem line_post (w:World) (l1 l2:List Pr) (t:TypeId) (h1:(flatI l1).length≤1000) (h2:(flatI l2).length≤1000) :
    LinePost l1 l2 w (.returned (.tuple #[.slice (some ⟨w.heap.size,0,none⟩) (flatI l1).length (flatI l1).length,.slice (some ⟨w.heap.size + 1,0,none⟩) (flatI l2).length (flatI l2).length]))
      ((w.alloc (.cells ((flatI l1).map (.int .u64)).toArray t)).alloc (.cells ((flatI l2).map (.int .u64)).toArray t)):=by
  refine ⟨_,_,rfl,?_,?_,((Below.refl _ _).alloc (Nat.le_refl _) _).alloc (by simp) _⟩
  · exact ((IR.lit w .u64 (flatI l1) t h1).alloc (by simp) _).more (by simp)
  · have:=IR.lit' (w.alloc (.cells ((flatI l1).map (.int .u64)).toArray t)) .u64 (flatI l2) t (w.heap.size + 1) (by simp) h2
    exact this.more (by simp)
theorem stk_info:(Tryz.prog.info? 116).map (fun i=>(i.zero,i.size,i.bytes))=some (some (.agg #[.int .u32 0,.int .u64 0]),2,16):=by kernel_rfl
theorem times_succ (n:Int) (l:List Pr) (j:Nat) (h:j < l.length):flat (times n (l.take (j + 1)))=flat (times n (l.take j))++[.int .u32 (l.getD j (0,0)).1,.int .u64 ((l.getD j (0,0)).2 * n)]:=by
  rw [List.take_succ_eq_append_getElem h]
  simp only [times,flat,List.map_append,List.flatMap_append,List.getD,List.getElem?_eq_getElem h]
  rfl
theorem lineS_one {id:Int} (h:isS id=true):1≤(lineS id).1.length:=by
  refine six (id:=id) ?_ ?_ ?_ ?_ ?_ ?_ (fun h0=>by rw [h] at h0;cases h0)
  all_goals intro e;subst e;decide
theorem rd_store {w w3:World} {x y:Value} {t:TypeId} {A1 A2:Option Addr} {n1 n2 c1 c2 lo1 lo2:Nat} {l1 l2:List Pr} (hB:Below (w.heap.size + 1) (w.alloc (.cells #[x,y] t)) w3) (h1:KF w3 lo1 (.slice A1 n1 c1) l1) (h2:KF w3 lo2 (.slice A2 n2 c2) l2) (q1:w.heap.size + 1≤lo1) (q2:w.heap.size + 1≤lo2) :
    Rd l1 l2 ((w3.setCell ⟨w.heap.size,0,none⟩ (.slice A1 n1 c1)).setCell ⟨w.heap.size,1,none⟩ (.slice A2 n2 c2)) (.agg #[.slice A1 n1 c1,.slice A2 n2 c2]) ∧
      Below w.heap.size w ((w3.setCell ⟨w.heap.size,0,none⟩ (.slice A1 n1 c1)).setCell ⟨w.heap.size,1,none⟩ (.slice A2 n2 c2)):=by
  have k1:=fun u v=>((kf_low h1 q1).setCell (p:=⟨w.heap.size,0,none⟩) (Nat.lt_succ_self _) u).setCell (p:=⟨w.heap.size,1,none⟩) (Nat.lt_succ_self _) v
  have k2:=fun u v=>((kf_low h2 q2).setCell (p:=⟨w.heap.size,0,none⟩) (Nat.lt_succ_self _) u).setCell (p:=⟨w.heap.size,1,none⟩) (Nat.lt_succ_self _) v
  obtain ⟨_,_,e1,_,_⟩:=h1.1.form
  obtain ⟨_,_,e2,_,_⟩:=h2.1.form
  injection e1 with _ e1 _
  injection e2 with _ e2 _
  subst e1;subst e2
  exact ⟨⟨_,_,_,_,rfl,(k1 _ _).1,(k2 _ _).1⟩,((((Below.refl _ _).alloc (Nat.le_refl _) _).trans (hB.mono (by omega))).setCell (Nat.le_refl _) _).setCell (Nat.le_refl _) _⟩
theorem count_ref (v:Value) (l:List Pr) (item:Int) (hl:l.length≤1000) (w:World) (B:Nat) (hv:KR w B v l) :
    Calls Tryz.prog 35 #[v,.int .u32 item] w fun e w'=>e=.returned (.int .u64 (cnt item l))∧w=w':=by
  obtain ⟨A,c,rfl,hlc,hcm⟩:=hv.form
  unfold maxLen at hcm
  go_enter Tryz.func35,Tryz.ntmps35
  go_wp2
  go_loop [5] (fun i=>∃ j:Nat,j≤l.length∧i=.int .i64 j∧cnt item (l.drop j)=cnt item l) (fun i=>l.length - (intOf i).toNat)
  case atStart=>exact ⟨0,by omega,rfl,by simp⟩
  case round=>
    obtain ⟨j,hj,rfl,hg⟩:=hrel
    have HG:=Lib.hid hg
    clear hg
    by_cases hlt:j < l.length
    · obtain ⟨b,off,rfl,hb,hc1,hc2⟩:=hv.index j hlt
      have hs:=cnt_drop item l j hlt
      generalize l.getD j (0,0)=p at *
      have HS:=Lib.hid hs
      clear hs
      by_cases he:p.1=item
      · have hd:(p.1 == item)=true:=by simpa using he
        have HE:=Lib.hid he
        clear he
        go_wp2
        go_ret
        exact ⟨ret_int (by rw [← HG.out,HS.out,if_pos HE.out]),rfl⟩
      · have hd:(p.1 == item)=false:=by simpa using he
        have HE:=Lib.hid he
        clear he
        go_wp2
        go_round
        case rel=>exact ⟨j + 1,by omega,by go_num,by rw [← HG.out,HS.out,if_neg HE.out]⟩
        case measure=>simp [intOf];omega
    · go_wp2
      go_ret
      have:=HG.out
      rw [List.drop_eq_nil_of_le (by omega)] at this
      exact ⟨ret_int this,rfl⟩
theorem line_some (id:Int) (h:isS id=true) (w:World):Calls Tryz.prog 52 #[.int .u32 id] w (LinePost (lineS id).1 (lineS id).2 w):=by
  refine six (id:=id) ?_ ?_ ?_ ?_ ?_ ?_ (fun h0=>by rw [h] at h0;cases h0)
  all_goals intro e;subst e;clear h
  · go_enter Tryz.func52,Tryz.ntmps52
    go_wp2
    go_ret2
    exact line_post w [(1,2)] [(2,1)] _ (by decide) (by decide)
  · go_enter Tryz.func52,Tryz.ntmps52
    go_wp2
    go_ret2
    exact line_post w [(2,1),(3,1)] [(4,1)] _ (by decide) (by decide)
  · go_enter Tryz.func52,Tryz.ntmps52
    go_wp2
    go_ret2
    exact line_post w [(4,1)] [(2,1),(5,3)] _ (by decide) (by decide)
  · go_enter Tryz.func52,Tryz.ntmps52
    go_wp2
    go_ret2
    exact line_post w [(5,10)] [(6,1),(5,1)] _ (by decide) (by decide)
  · go_enter Tryz.func52,Tryz.ntmps52
    go_wp2
    go_ret2
    exact line_post w [(6,1),(4,2),(1,5)] [(7,1)] _ (by decide) (by decide)
  · go_enter Tryz.func52,Tryz.ntmps52
    go_wp2
    go_ret2
    exact line_post w [(7,1)] [(6,1),(1,4)] _ (by decide) (by decide)
theorem line_none (id:Int) (h:isS id=false) (w:World):Calls Tryz.prog 52 #[.int .u32 id] w fun e w'=>e=.returned (.tuple #[.slice none 0 0,.slice none 0 0])∧w=w':=by
  unfold isS at h;simp at h
  have a1:(id == 1)=false:=by simp;omega
  have a2:(id == 2)=false:=by simp;omega
  have a3:(id == 3)=false:=by simp;omega
  have a4:(id == 4)=false:=by simp;omega
  have a5:(id == 5)=false:=by simp;omega
  have a6:(id == 6)=false:=by simp;omega
  clear h
  go_enter Tryz.func52,Tryz.ntmps52
  go_wp2
  go_ret2
  exact ⟨rfl,rfl⟩
theorem stacks_any (v:Value) (l:List Pr) (n:Int) (hn:0≤n∧n≤1000) (hl:small l) (w:World) (hv:IR w w.heap.size .u64 v (flatI l)) :
    Calls Tryz.prog 53 #[v,.int .u64 n] w fun e w'=>∃ u,e=.returned u∧KF w' w.heap.size u (times n l)∧Below w.heap.size w w':=by
  obtain ⟨i0,hi0,hz0,hz1,hz2⟩:=info_parts stk_info
  obtain ⟨A,c,rfl,hlc,hcm⟩:=hv.form
  unfold maxLen at hcm
  have hfl:=flatI_len l
  have hll:=hl.1
  have HF:=Lib.hid hfl
  have hfl1:(flatI l).length≤2 * l.length:=by omega
  have hfl2:2 * l.length≤(flatI l).length:=by omega
  clear hfl
  go_enter Tryz.func53,Tryz.ntmps53
  go_wp2
  go_loopw [5,6] (fun o i wr=>∃ K j:Nat,K=2 * j∧j≤l.length∧i=.int .i64 K∧wr.ownsRow w.heap.size 116 2 o j (flat (times n (l.take j)))∧Below w.heap.size w wr) (fun _ i _=>(flatI l).length - (intOf i).toNat)
  case atStart=>exact ⟨0,0,rfl,by omega,rfl,World.ownsRow_nil _ _ _ _,Below.refl _ _⟩
  case round=>
    obtain ⟨K,j,hK,hj,rfl,hown,hbel⟩:=hrel
    have HK:=Lib.hid hK
    have hK1:K≤2 * j:=by omega
    have hK2:2 * j≤K:=by omega
    clear hK
    by_cases hlt:j < l.length
    · have hv':=hv.below hbel
      obtain ⟨b,off,rfl,hb,hc1⟩:=hv'.index K (by omega)
      obtain ⟨b2,off2,e2,hb2,hc2⟩:=hv'.index (K + 1) (by omega)
      injection e2 with e2;injection e2 with e3 e4;subst e3;subst e4
      obtain ⟨f1,f2⟩:=flatI_at l j hlt
      rw [HK.out] at hc1 hc2
      rw [f1] at hc1
      rw [f2] at hc2
      rw [← HK.out] at hc1 hc2
      have hs:=times_succ n l j hlt
      have hp:l.getD j (0,0)∈l:=by simp [List.getD,List.getElem?_eq_getElem hlt]
      have hq:=hl.2 _ hp
      generalize l.getD j (0,0)=p at *
      obtain ⟨x,y⟩:=p
      dsimp only at hq hs hc1 hc2
      obtain ⟨q1,q2,q3,q4⟩:=hq
      have hm0:0≤y * n:=Int.mul_nonneg (by omega) hn.1
      have hm1:y * n≤10000:=by
        have:=Int.mul_le_mul (show y≤10 by omega) hn.2 hn.1 (by omega);omega
      have HS:=Lib.hid hs
      clear hs f1 f2 hp
      have t1:(0:Int)≤(K:Int):=by omega
      have t2:(K:Int) < ((flatI l).length:Int):=by omega
      have t3:(K:Int) + 1 < ((flatI l).length:Int):=by omega
      have hne:u5.ownBlock≠some b:=fun e=>by have:=(hown.lt b e).1;omega
      have hbz:b < wr.heap.size:=by have:=hbel.size;omega
      have t4:(0:Int)≤(K:Int) + 1:=by omega
      have t5:((K:Int) + 1).toNat=K + 1:=by omega
      have t6:IntKind.i64.wrap ((K:Int) + 1)=(K:Int) + 1:=IntWalk.i64_in _ (by omega)
      have t7:IntKind.u64.wrap (y * n)=y * n:=by rw [IntKind.wrap_u64];omega
      have t8:IntKind.u32.wrap x=x:=by rw [IntKind.wrap_u32];omega
      go_wp2
      go_region_held3 (fun w'=>w'.cell? ⟨b,off + K,none⟩=some (.int .u64 x)∧w'.cell? ⟨b,off + (K + 1),none⟩=some (.int .u64 y))
        (first | go_keep | (go_split_ands;refine ⟨?_,?_⟩ <;> (rw [hgrow.cell_far _ (by simp;omega) (Ne.symm hne)];assumption)))
        ((refine step_append_lies _ (by rfl) _ _ _ (by rfl) w.heap.size 116 i0 _ 2 16 Tryz.underlying83 hi0 hz0 hz1 hz2 rfl (by omega) u5 j _ (by rfl) ((hown.alloc _).drew)
              ⟨wr.heap.size,0,none⟩ 1 1 [.int .u32 x,.int .u64 (y * n)] (by rfl) (by rfl) (World.news_of_block (cs:=#[.int .u32 x,.int .u64 (y * n)]) (t:=116) (fr:=(0,0)) (heap_alloc_new wr _)) (by simp [Value.oneCell'])
              (by omega) (by unfold maxLen;omega) (by omega) (by have:=hbel.size;simp;omega) (wr.heap.size + 1) (by simp) ?_;intro gg cap w1 hown1 hgrow hat hlt1))
      clear t4 t5 t6 t7 t8
      go_wp2
      go_roundw
      case rel=>exact ⟨K + 2,j + 1,by omega,by omega,by go_num,by rw [HS.out];exact hown1,((hbel.alloc hbel.size _).drew).trans ((Below.refl _ _).grown hgrow (by have:=hbel.size;simp;omega) (fun b hb=>(hown.lt b hb).1))⟩
      case measure=>simp [intOf];omega
    · go_wp2
      go_ret
      have e:j=l.length:=by omega
      subst e
      rw [List.take_length] at hown
      exact ⟨_,rfl,KF.of_own hown (by rw [times_len]),hbel⟩
theorem needs_ref_bad (id n:Int) (h:isS id=true) (hr:n < 1∨1000 < n) (w:World):Calls Tryz.prog 34 #[.int .u32 id,.int .u64 n] w (RdPost [] [] (.int .i64 1) w):=by
  have HO:=Lib.hid (fun W=>line_some id h W)
  have ho:=lineS_one h
  have hf1:=flatI_len (lineS id).1
  have hne:(((flatI (lineS id).1).length:Int) == 0)=false:=by rw [beq_eq_false_iff_ne];omega
  clear h ho hf1
  rcases (show (decide (n < 1)=true)∨(decide (n < 1)=false∧decide (1000 < n)=true) by
    by_cases h1:n < 1
    · exact .inl (decide_eq_true h1)
    · exact .inr ⟨decide_eq_false h1,decide_eq_true (by omega)⟩) with hd | ⟨hd,hd2⟩
  all_goals
    clear hr
    go_enter Tryz.func34,Tryz.ntmps34
    go_wp2_with fail
    (with_reducible refine (HO.out _).mono ?_)
    rintro e w1 ⟨u,v,rfl,hu,hv,hb1⟩
    obtain ⟨Au,cu,rfl,hu1,hu2⟩:=hu.form
    obtain ⟨c0,c1,f0,f1,z3⟩:=two_kept (w:=w) (by simpa using hb1)
    have hbw:Below w.heap.size w w1:=((Below.refl _ _).alloc (Nat.le_refl _) _).trans (hb1.mono (by simp))
    clear hb1
    go_wp2
    refine bodyPost_ret (v:=.tuple #[.agg #[.slice none 0 0,.slice none 0 0],.int .i64 1]) (by simp [results,Tryz.results34,go_sem,c0,c1];try rfl) rfl ?_
    exact ⟨_,rfl,Rd.none _,(hbw.setCell (Nat.le_refl _) _).setCell (Nat.le_refl _) _⟩
theorem needs_ref_none (id n:Int) (h:isS id=false) (w:World):Calls Tryz.prog 34 #[.int .u32 id,.int .u64 n] w (RdPost [] [] (.int .i64 40) w):=by
  have HO:=Lib.hid (fun W=>line_none id h W)
  clear h
  go_enter Tryz.func34,Tryz.ntmps34
  go_wp2_with fail
  (with_reducible refine (HO.out _).mono ?_)
  rintro e w1 ⟨rfl,rfl⟩
  go_wp2
  refine bodyPost_ret (v:=.tuple #[.agg #[.slice none 0 0,.slice none 0 0],.int .i64 40]) (by simp [results,Tryz.results34,go_sem];try rfl) rfl ?_
  exact ⟨_,rfl,Rd.none _,(Below.refl _ _).alloc (Nat.le_refl _) _⟩
theorem needs_ref_some (id n:Int) (h:isS id=true) (h1:1≤n) (h2:n≤1000) (w:World) :
    Calls Tryz.prog 34 #[.int .u32 id,.int .u64 n] w (RdPost (times n (lineS id).1) (times n (lineS id).2) (.int .i64 0) w):=by
  obtain ⟨s1,s2⟩:=lineS_small id
  have hl:=fun W=>line_some id h W
  have ho:=lineS_one h
  generalize (lineS id).1=l1 at *
  generalize (lineS id).2=l2 at *
  have HO:=Lib.hid hl
  have hf1:=flatI_len l1
  have hne:(((flatI l1).length:Int) == 0)=false:=by rw [beq_eq_false_iff_ne];omega
  clear h hl hf1 ho
  have hd:decide (n < 1)=false:=by simp;omega
  have hd2:decide (1000 < n)=false:=by simp;omega
  go_enter Tryz.func34,Tryz.ntmps34
  go_wp2_with fail
  (with_reducible refine (HO.out _).mono ?_)
  rintro e w1 ⟨u,v,rfl,hu,hv,hb1⟩
  obtain ⟨Au,cu,rfl,hu1,hu2⟩:=hu.form
  go_wp2_with fail
  (with_reducible refine (stacks_any _ l1 n ⟨by omega,by omega⟩ s1 _ hu).mono ?_)
  rintro e w2 ⟨a,rfl,ha,hb2⟩
  go_wp2_with fail
  (with_reducible refine (stacks_any _ l2 n ⟨by omega,by omega⟩ s2 _ ((hv.below hb2).more hb2.size)).mono ?_)
  rintro e w3 ⟨b,rfl,hb,hb3⟩
  have z1:=hb1.size
  have z2:=hb2.size
  simp at z1
  have hB:Below (w.heap.size + 1) (w.alloc (.cells #[.slice none 0 0,.slice none 0 0] 85)) w3:=by
    simp at hb1
    exact (hb1.trans (hb2.mono (by omega))).trans (hb3.mono (by omega))
  obtain ⟨c0,c1,f0,f1,z3⟩:=two_kept hB
  have ha3:=ha.below hb3
  obtain ⟨Aa,ca,rfl,_,_⟩:=ha3.1.form
  obtain ⟨Ab,cb,rfl,_,_⟩:=hb.1.form
  have K:=rd_store hB ha3 hb (by first | omega | simp) (by omega)
  go_wp2
  refine bodyPost_ret (v:=.tuple #[.agg #[.slice Aa (times n l1).length ca,.slice Ab (times n l2).length cb],.int .i64 0]) (by simp [results,Tryz.results34,go_sem,c0,c1];try rfl) rfl ?_
  exact ⟨_,rfl,K⟩
theorem needs_ref (id n:Int) (hn:0≤n∧n≤18446744073709551615) (w:World):Calls Tryz.prog 34 #[.int .u32 id,.int .u64 n] w (RdPost (inN id n) (outN id n) (.int .i64 (errN id n)) w):=by
  by_cases h:isS id=true
  · by_cases hr:n < 1∨1000 < n
    · have he:errN id n=1:=by unfold errN;rw [h];simp [hr]
      have:=needs_ref_bad id n h hr w
      rw [show inN id n=[] by unfold inN;rw [he];rfl,show outN id n=[] by unfold outN;rw [he];rfl,he];exact this
    · have he:errN id n=0:=by unfold errN;rw [h];simp [hr]
      have:=needs_ref_some id n h (by omega) (by omega) w
      rw [show inN id n=times n (lineS id).1 by unfold inN;rw [he];rfl,show outN id n=times n (lineS id).2 by unfold outN;rw [he];rfl,he];exact this
  · have h':isS id=false:=by simpa using h
    have he:errN id n=40:=by unfold errN;rw [h'];rfl
    have:=needs_ref_none id n h' w
    rw [show inN id n=[] by unfold inN;rw [he];rfl,show outN id n=[] by unfold outN;rw [he];rfl,he];exact this
theorem change_ref (id n item:Int) (hn:0≤n∧n≤18446744073709551615) (w:World):Calls Tryz.prog 23 #[.int .u32 id,.int .u64 n,.int .u32 item] w fun e w'=>
    e=.returned (.tuple #[.int .u64 (cnt item (inN id n)),.int .u64 (cnt item (outN id n))])∧Below w.heap.size w w':=by
  have HO:=Lib.hid (fun W=>needs_ref id n hn W)
  obtain ⟨i1,i2⟩:=inN_len id n
  by_cases he:errN id n=0
  · have hd:(errN id n != 0)=false:=by simpa using he
    generalize errN id n=err at *
    generalize inN id n=l1 at *
    generalize outN id n=l2 at *
    clear he
    go_enter Tryz.func23,Tryz.ntmps23
    go_wp2_with fail
    (with_reducible refine (HO.out _).mono ?_)
    rintro e w1 ⟨v,rfl,⟨A1,c1,A2,c2,rfl,k1,k2⟩,hb1⟩
    have k1':=fun o=>(k1.keep (w':=w1.alloc o) fun p hp=>World.cell?_alloc_lt w1 o p hp)
    have k2':=fun o=>(k2.keep (w':=w1.alloc o) fun p hp=>World.cell?_alloc_lt w1 o p hp)
    have K1:=Lib.hid k1'
    have K2:=Lib.hid k2'
    clear k1 k2 k1' k2'
    go_wp2
    go_quiet ((first | (go_at_call 35;exact quiet_l (count_ref _ l1 item i1 _ _ ((K1.out _)))) | (go_at_call 35;exact quiet_l (count_ref _ l2 item i2 _ _ ((K2.out _))))))
    go_wp2
    go_ret2
    exact ⟨rfl,below_drewN (hb1.alloc hb1.size _) _⟩
  · have hd:(errN id n != 0)=true:=by simpa using he
    obtain ⟨e1,e2⟩:=inN_err id n he
    rw [e1,e2] at HO ⊢
    generalize errN id n=err at *
    clear he i1 i2 e1 e2
    go_enter Tryz.func23,Tryz.ntmps23
    go_wp2_with fail
    (with_reducible refine (HO.out _).mono ?_)
    rintro e w1 ⟨v,rfl,⟨A1,c1,A2,c2,rfl,k1,k2⟩,hb1⟩
    clear k1 k2
    go_wp2
    go_ret2
    exact ⟨rfl,hb1.alloc hb1.size _⟩
end Go.Proofs.YtabckmadpdchnaaGreat.Stk
namespace Go.Proofs.YtabckmadpdchnaaGreat.Rule
open Go.RowKit Go.Proofs.Mem in
theorem RowC.keep {base:Nat} {W W':World} {v:Value} {ks:List Ce} (h:RowC base W v ks) (hs:W.heap.size≤W'.heap.size) (hk:∀ k,base≤k→k < W.heap.size→W'.heap[k]?=W.heap[k]?):RowC base W' v ks:=by
  rcases h with h | ⟨g,cap,e,h1,h2,h3,h4⟩
  · exact .inl h
  · refine .inr ⟨g,cap,e,fun j hj=>?_,h2,by omega,h4⟩
    have hb:=hk g h2 h3
    have:=h1 j hj
    unfold World.cell? World.frozen? at *
    rw [hb]
    exact this
open Go.RowKit Go.Proofs.Mem in
theorem RowC.fr {base:Nat} {S:Nat→Prop} {W W':World} {v:Value} {ks:List Ce} (h:RowC base W v ks) (hf:Fr S W W') (hn:∀ k,base≤k→k < W.heap.size→¬ S k):RowC base W' v ks:=h.keep hf.size (fun k h1 h2=>hf.block k h2 (hn k h1 h2))
def Om.post {α:Type} (f:Wm) (m:Om α) (l:List Pu) (R:α→List Pu→Prop):Prop:=(∀ y j,evTr f (m l)=.ok y j→R y.1 y.2)∧∀ e,evTr f (m l)=.err e→e≠0
section
variable {α β:Type} {f:Wm} {l:List Pu}
theorem evTr_bind (f:Wm) (g:α→Tr β):∀ t:Tr α,evTr f (t.bind g)=match evTr f t with
    | .miss k a b=>.miss k a b
    | .err e=>.err e
    | .ok x _=>evTr f (g x)
  | .ret x=>rfl
  | .err e=>rfl
  | .look k a b n=>evTr_bind f g (n _ _ _)
theorem Om.post_bind {m:Om α} {g:α→Om β} {R:β→List Pu→Prop} (h:Om.post f m l (fun x l'=>Om.post f (g x) l' R)):Om.post f (m >>= g) l R:=by
  have e2:evTr f ((m >>= g) l)=evTr f ((m l).bind fun y=>g y.1 y.2):=rfl
  unfold Om.post
  rw [e2,evTr_bind]
  cases e3:evTr f (m l) with
  | miss k a b=>exact ⟨fun y j e=>(by cases e),fun e h=>(by cases h)⟩
  | err e=>exact ⟨fun y j e=>(by cases e),fun e' h'=>(by injection h' with h';rw [← h'];exact h.2 e e3)⟩
  | ok z i=>exact h.1 z i e3
theorem Om.post_mono {m:Om α} {R R':α→List Pu→Prop} (h:Om.post f m l R) (hr:∀ x l',R x l'→R' x l'):Om.post f m l R':=⟨fun y j e=>hr _ _ (h.1 y j e),h.2⟩
theorem Om.post_ok {m:Om α} {R:α→List Pu→Prop} {x:α} {l':List Pu} (e:evTr f (m l)=.ok (x,l') 0) (h:R x l'):Om.post f m l R:=by
  unfold Om.post
  rw [e]
  exact ⟨fun y j e=>(by injection e with e _;rw [← e];exact h),fun e h=>(by cases h)⟩
theorem Om.post_pure {x:α} {R:α→List Pu→Prop} (h:R x l):Om.post f (pure x:Om α) l R:=Om.post_ok rfl h
theorem Om.post_err {e:Int} {R:α→List Pu→Prop} (he:e≠0):Om.post f (oErr e:Om α) l R:=by
  have e2:evTr f ((oErr e:Om α) l)=.err e:=rfl
  unfold Om.post
  rw [e2]
  exact ⟨fun y j e=>(by cases e),fun e' h'=>(by injection h' with h';rw [← h'];exact he)⟩
theorem Om.post_look {k a b:Int} {R:Th→List Pu→Prop} (h:R ⟨(see f k a b).vA,(see f k a b).vB,k,a,b,(see f k a b).is⟩ l):Om.post f (oLook k a b) l R:=Om.post_ok rfl h
theorem Om.post_put {x:Pu} {R:Unit→List Pu→Prop} (h:R () (l++[x])):Om.post f (oPut x) l R:=Om.post_ok rfl h
theorem Om.post_deny {c:Bool} {e:Int} {R:Unit→List Pu→Prop} (he:c=true→e≠0) (h:c=false→R () l):Om.post f (oDeny c e) l R:=by
  unfold oDeny
  split
  · exact Om.post_err (he (by assumption))
  · rename_i hc;exact Om.post_pure (h (by simpa using hc))
theorem Om.post_there {k a b:Int} {R:Th→List Pu→Prop} (h:(see f k a b).is=true→R ⟨(see f k a b).vA,(see f k a b).vB,k,a,b,true⟩ l):Om.post f (oThere k a b) l R:=by
  unfold oThere
  refine Om.post_bind (Om.post_look (Om.post_bind (Om.post_deny (fun _=>(by decide)) (fun hd=>Om.post_pure ?_))))
  have hi:(see f k a b).is=true:=by simpa using hd
  rw [hi]
  exact h hi
theorem Om.post_more {x y:Int} {R:Int→List Pu→Prop} (h:R (x + y) l):Om.post f (oMore x y) l R:=by
  unfold oMore
  split
  · exact Om.post_err (by decide)
  · exact Om.post_pure h
theorem Om.post_less {x y:Int} {R:Int→List Pu→Prop} (h:y≤x→R (x - y) l):Om.post f (oLess x y) l R:=by
  unfold oLess
  split
  · exact Om.post_err (by decide)
  · split
    · exact Om.post_err (by decide)
    · exact Om.post_pure (h (by omega))
theorem Om.post_amount {k a b A:Int} {R:Unit→List Pu→Prop} (h:R () (l++[amt k a b A])):Om.post f (oAmount k a b A) l R:=Om.post_put h
theorem Om.post_gone {k a b:Int} {R:Unit→List Pu→Prop} (h:R () (l++[⟨k,a,b,0,0,true⟩])):Om.post f (oGone k a b) l R:=Om.post_put h
end
def mv (much:Ky→Int→Int→Int) (f:Wm) (y:Ky):Int:=match f y with
  | none=>0
  | some v=>much y v.1 v.2
def nv (much:Ky→Int→Int→Int) (x:Pu):Int:=if x.gone then 0 else much ⟨x.k,x.a,x.b⟩ x.A x.B
theorem mv_put (much:Ky→Int→Int→Int) (f:Wm) (x:Pu) (y:Ky):mv much (putF f x) y=if y=⟨x.k,x.a,x.b⟩ then nv much x else mv much f y:=by
  unfold mv putF nv
  by_cases h:y=⟨x.k,x.a,x.b⟩
  · subst h
    rw [if_pos rfl]
    cases x.gone <;> simp
  · simp [h]
def ds (much:Ky→Int→Int→Int) (f:Wm):List Pu→Int
  | []=>0
  | x :: l=>nv much x - mv much f ⟨x.k,x.a,x.b⟩ + ds much (putF f x) l
def Tot (much:Ky→Int→Int→Int) (f:Wm) (T:Int):Prop:=∃ L,Ents f L∧sumI (L.map fun c=>much c.ky c.A c.B)=T
theorem sumI_append:∀ l m:List Int,sumI (l++m)=sumI l + sumI m
  | [],m=>by show sumI m=0 + sumI m;omega
  | x :: l,m=>by
    show x + sumI (l++m)=x + sumI l + sumI m
    rw [sumI_append l m];omega
theorem ents_far {f:Wm} {L:List Ce} (h:Ents f L) {y:Ky} (hy:f y=none):∀ c∈L,c.ky≠y:=fun c hc e=>by
  have:=((h.mem c).1 hc).2
  rw [e,hy] at this
  cases this
theorem ents_but {f:Wm} {L:List Ce} (h:Ents f L) (much:Ky→Int→Int→Int) (y:Ky):∃ M,Ents (fun z=>if z=y then none else f z) M∧sumI (M.map fun c=>much c.ky c.A c.B)=sumI (L.map fun c=>much c.ky c.A c.B) - mv much f y:=by
  cases e:f y with
  | none=>
    refine ⟨L,⟨fun c=>?_,h.nd⟩,by unfold mv;rw [e];simp⟩
    rw [h.mem c]
    by_cases hc:c.ky=y
    · rw [if_pos hc,hc,e]
    · rw [if_neg hc]
  | some v=>
    have hm:=(h.mem ⟨y.k,y.a,y.b,v.1,v.2,true⟩).2 ⟨rfl,e⟩
    obtain ⟨s,t,rfl⟩:=List.append_of_mem hm
    have hnd:=h.nd
    rw [List.pairwise_append,List.pairwise_cons] at hnd
    refine ⟨s++t,⟨fun c=>?_,?_⟩,?_⟩
    · by_cases hc:c.ky=y
      · rw [if_pos hc]
        constructor
        · intro hin
          rcases List.mem_append.1 hin with h1 | h1
          · exact absurd hc (hnd.2.2 c h1 _ (List.mem_cons_self ..))
          · exact absurd hc.symm (hnd.2.1.1 c h1)
        · rintro ⟨_,h1⟩;cases h1
      · rw [if_neg hc,← h.mem c]
        simp only [List.mem_append,List.mem_cons]
        constructor
        · rintro (h1 | h1)
          · exact .inl h1
          · exact .inr (.inr h1)
        · rintro (h1 | h1 | h1)
          · exact .inl h1
          · exact absurd (by rw [h1];rfl) hc
          · exact .inr h1
    · rw [List.pairwise_append]
      exact ⟨hnd.1,hnd.2.1.2,fun a ha b hb=>hnd.2.2 a ha b (List.mem_cons_of_mem _ hb)⟩
    · simp only [List.map_append,List.map_cons,sumI_append]
      show _=sumI _ + (much y v.1 v.2 + sumI _) - mv much f y
      unfold mv
      rw [e]
      simp only
      omega
theorem Tot.put {much:Ky→Int→Int→Int} {f:Wm} {T:Int} (h:Tot much f T) (x:Pu):Tot much (putF f x) (T + (nv much x - mv much f ⟨x.k,x.a,x.b⟩)):=by
  obtain ⟨L,hL,hs⟩:=h
  obtain ⟨M,hM,hm⟩:=ents_but hL much ⟨x.k,x.a,x.b⟩
  unfold nv putF
  cases hg:x.gone with
  | true=>
    simp only [if_true]
    exact ⟨M,hM,by rw [hm,hs];omega⟩
  | false=>
    simp only [Bool.false_eq_true,if_false]
    refine ⟨⟨x.k,x.a,x.b,x.A,x.B,true⟩ :: M,⟨fun c=>?_,?_⟩,?_⟩
    · by_cases hc:c.ky=⟨x.k,x.a,x.b⟩
      · rw [if_pos hc]
        simp only [List.mem_cons,Option.some.injEq,Prod.mk.injEq]
        constructor
        · rintro (h1 | h1)
          · rw [h1];exact ⟨rfl,rfl,rfl⟩
          · have:=((hM.mem c).1 h1).2
            rw [if_pos hc] at this
            cases this
        · rintro ⟨h1,h2,h3⟩
          obtain ⟨ck,ca,cb,cA,cB,ci⟩:=c
          simp only [Ce.ky,Ky.mk.injEq] at hc h1 h2 h3
          obtain ⟨rfl,rfl,rfl⟩:=hc
          left
          rw [h1,← h2,← h3]
      · rw [if_neg hc]
        simp only [List.mem_cons]
        rw [hM.mem c,if_neg hc]
        constructor
        · rintro (h1 | h1)
          · exact absurd (by rw [h1];rfl) hc
          · exact h1
        · exact .inr
    · rw [List.pairwise_cons]
      exact ⟨fun c hc e=>ents_far hM (y:=⟨x.k,x.a,x.b⟩) (by simp) c hc e.symm,hM.nd⟩
    · show much ⟨x.k,x.a,x.b⟩ x.A x.B + sumI _=_
      rw [hm,hs]
      omega
theorem Tot.puts {much:Ky→Int→Int→Int}:∀ (l:List Pu) {f:Wm} {T:Int},Tot much f T→Tot much (putsF f l) (T + ds much f l)
  | [],f,T,h=>by
    show Tot much f (T + 0)
    rw [Int.add_zero]
    exact h
  | x :: l,f,T,h=>by
    have:=Tot.puts l (h.put x)
    show Tot much (putsF (putF f x) l) (T + (nv much x - mv much f ⟨x.k,x.a,x.b⟩ + ds much (putF f x) l))
    rw [← Int.add_assoc]
    exact this
def cC (q:Ot):Int:=if q.kd=2 then q.n else if q.kd=3 then - q.n else 0
def cI (t:Int) (q:Ot):Int:=if q.kd=4 then (if q.wt=t then q.n else 0) else if q.kd=5 then (if q.wt=t then - q.n else 0) else if q.kd=10 then Stk.cnt t (Stk.outN q.wt q.n) - Stk.cnt t (Stk.inN q.wt q.n) else 0
structure Inv (f:Wm):Prop where
  off:∀ a b v,f ⟨5,a,b⟩=some v→lo32 v.2=v.2
  tr:∀ a v,f ⟨4,a,0⟩=some v→hi32 v.1≠lo32 v.1
  au:∀ a b v,f ⟨6,a,b⟩=some v→a≤(see f 8 6 0).vA
structure PkOk (f:Wm) (x:Pu):Prop where
  off:x.k=5→x.gone=false→lo32 x.B=x.B
  tr:x.k=4→x.gone=false→hi32 x.A≠lo32 x.A
  au:x.k=6→x.gone=false→x.a≤(see f 8 6 0).vA
  ct:x.k=8→x.a=6→x.b=0→x.gone=false∧(see f 8 6 0).vA≤x.A
def PutsOk (f:Wm):List Pu→Prop
  | []=>True
  | x :: l=>PkOk f x∧PutsOk (putF f x) l
theorem see_put (f:Wm) (x:Pu) (k a b:Int) (h:¬ ((⟨k,a,b⟩:Ky)=⟨x.k,x.a,x.b⟩)):see (putF f x) k a b=see f k a b:=by
  unfold see putF
  simp only [if_neg h]
theorem see_same (f:Wm) (k a b A B:Int):(see (putF f ⟨k,a,b,A,B,false⟩) k a b).vA=A:=by
  unfold see putF
  simp [Ce.vA]
theorem Inv.put {f:Wm} (h:Inv f) {x:Pu} (hx:PkOk f x):Inv (putF f x):=by
  refine ⟨fun a b v e=>?_,fun a v e=>?_,fun a b v e=>?_⟩
  · unfold putF at e
    split at e
    · rename_i hk
      simp only [Ky.mk.injEq] at hk
      cases hg:x.gone with
      | true=>rw [hg] at e;cases e
      | false=>
        rw [hg] at e
        injection e with e
        rw [← e]
        exact hx.off hk.1.symm hg
    · exact h.off a b v e
  · unfold putF at e
    split at e
    · rename_i hk
      simp only [Ky.mk.injEq] at hk
      cases hg:x.gone with
      | true=>rw [hg] at e;cases e
      | false=>
        rw [hg] at e
        injection e with e
        rw [← e]
        exact hx.tr hk.1.symm hg
    · exact h.tr a v e
  · have hle:(see f 8 6 0).vA≤(see (putF f x) 8 6 0).vA:=by
      by_cases hk:(⟨8,6,0⟩:Ky)=⟨x.k,x.a,x.b⟩
      · obtain ⟨xk,xa,xb,xA,xB,xg⟩:=x
        simp only [Ky.mk.injEq] at hk
        obtain ⟨rfl,rfl,rfl⟩:=hk
        obtain ⟨h1,h2⟩:=hx.ct rfl rfl rfl
        dsimp only at h1 h2
        subst h1
        rw [see_same]
        exact h2
      · rw [see_put _ _ _ _ _ hk]
        exact Int.le_refl _
    unfold putF at e
    split at e
    · rename_i hk
      simp only [Ky.mk.injEq] at hk
      cases hg:x.gone with
      | true=>rw [hg] at e;cases e
      | false=>
        have:=hx.au hk.1.symm hg
        rw [hk.2.1]
        omega
    · have:=h.au a b v e
      omega
theorem Inv.puts:∀ (l:List Pu) {f:Wm},Inv f→PutsOk f l→Inv (putsF f l)
  | [],_,h,_=>h
  | x :: l,f,h,hp=>Inv.puts l (f:=putF f x) (h.put hp.1) hp.2
theorem Inv.none:Inv (fun _=>none):=⟨fun a b v e=>(by cases e),fun a v e=>(by cases e),fun a b v e=>(by cases e)⟩
theorem amt_k (k a b A:Int):(amt k a b A).k=k:=by unfold amt;split <;> rfl
theorem amt_a (k a b A:Int):(amt k a b A).a=a:=by unfold amt;split <;> rfl
theorem amt_b (k a b A:Int):(amt k a b A).b=b:=by unfold amt;split <;> rfl
theorem nvc_amt (k a b A:Int):nv coinS (amt k a b A)=coinS ⟨k,a,b⟩ A 0:=by
  unfold amt
  split
  · rename_i h;simp [nv,coinS,h.1]
  · rfl
theorem nvi_amt (t k a b A:Int):nv (itemS t) (amt k a b A)=itemS t ⟨k,a,b⟩ A 0:=by
  unfold amt
  split
  · rename_i h;simp [nv,itemS,h.1,h.2]
  · rfl
theorem nvc_put (k a b A B:Int):nv coinS ⟨k,a,b,A,B,false⟩=coinS ⟨k,a,b⟩ A B:=rfl
theorem nvi_put (t k a b A B:Int):nv (itemS t) ⟨k,a,b,A,B,false⟩=itemS t ⟨k,a,b⟩ A B:=rfl
theorem nv_gone (much:Ky→Int→Int→Int) (k a b:Int):nv much ⟨k,a,b,0,0,true⟩=0:=rfl
theorem ds_nil (much:Ky→Int→Int→Int) (f:Wm):ds much f []=0:=rfl
theorem ds_cons (much:Ky→Int→Int→Int) (f:Wm) (x:Pu) (l:List Pu):ds much f (x :: l)=nv much x - mv much f ⟨x.k,x.a,x.b⟩ + ds much (putF f x) l:=rfl
section
variable (f:Wm) (t a b A B:Int)
theorem cs1:coinS ⟨1,a,b⟩ A B=A:=by simp [coinS]
theorem cs2:coinS ⟨2,a,b⟩ A B=A:=by simp [coinS]
theorem cs3:coinS ⟨3,a,b⟩ A B=0:=by simp [coinS]
theorem cs4:coinS ⟨4,a,b⟩ A B=0:=by simp [coinS]
theorem cs5:coinS ⟨5,a,b⟩ A B=if B=0 then A else 0:=by simp [coinS]
theorem cs6:coinS ⟨6,a,b⟩ A B=0:=by simp [coinS]
theorem cs7:coinS ⟨7,a,0⟩ A B=A:=by simp [coinS]
theorem cs71:coinS ⟨7,a,1⟩ A B=0:=by simp [coinS]
theorem cs8:coinS ⟨8,a,b⟩ A B=0:=by simp [coinS]
theorem is1:itemS t ⟨1,a,b⟩ A B=0:=by simp [itemS]
theorem is2:itemS t ⟨2,a,b⟩ A B=0:=by simp [itemS]
theorem is3:itemS t ⟨3,a,b⟩ A B=if b=t then A else 0:=by simp [itemS]
theorem is4:itemS t ⟨4,a,b⟩ A B=0:=by simp [itemS]
theorem is5:itemS t ⟨5,a,b⟩ A B=if B=t then A else 0:=by simp [itemS]
theorem is6:itemS t ⟨6,a,b⟩ A B=if lo32 A=t then B else 0:=by simp [itemS]
theorem is7:itemS t ⟨7,a,b⟩ A B=0:=by simp [itemS]
theorem is8:itemS t ⟨8,a,b⟩ A B=0:=by simp [itemS]
theorem mv_see (much:Ky→Int→Int→Int) (k:Int) (h0:much ⟨k,a,b⟩ 0 0=0):mv much f ⟨k,a,b⟩=much ⟨k,a,b⟩ (see f k a b).vA (see f k a b).vB:=by
  unfold mv see Ce.vA Ce.vB
  cases f ⟨k,a,b⟩ with
  | none=>simp [h0]
  | some v=>simp
theorem mvc (k:Int):mv coinS f ⟨k,a,b⟩=coinS ⟨k,a,b⟩ (see f k a b).vA (see f k a b).vB:=mv_see f a b coinS k (by unfold coinS;simp)
theorem mvi (k:Int):mv (itemS t) f ⟨k,a,b⟩=itemS t ⟨k,a,b⟩ (see f k a b).vA (see f k a b).vB:=mv_see f a b (itemS t) k (by unfold itemS;simp)
end
def Fin (f:Wm) (q:Ot) (t:Int) (l:List Pu):Prop:=ds coinS f l=cC q∧ds (itemS t) f l=cI t q∧PutsOk f l
theorem pk_amt {f:Wm} {k a b A:Int} (h:k=1∨k=2∨k=3∨k=7):PkOk f (amt k a b A):=by
  refine ⟨fun e=>?_,fun e=>?_,fun e=>?_,fun e=>?_⟩ <;> (rw [amt_k] at e;omega)
theorem see_no {f:Wm} {k a b:Int} (h:(see f k a b).is=false):(see f k a b).vA=0∧(see f k a b).vB=0:=by
  unfold Ce.vA Ce.vB
  rw [h]
  exact ⟨rfl,rfl⟩
theorem cons_one (f:Wm) (q:Ot) (t:Int):(q.kd=1→Om.post f (oOpen q) [] (fun _ l=>Fin f q t l))∧(q.kd=2∨q.kd=3→Om.post f (oMint q) [] (fun _ l=>Fin f q t l))∧(q.kd=4∨q.kd=5→Om.post f (oCreate q) [] (fun _ l=>Fin f q t l))∧(q.kd=6∨q.kd=7→Om.post f (oDeposit q) [] (fun _ l=>Fin f q t l))∧(q.kd=8→q.wm≠q.wh→Om.post f (oPay q) [] (fun _ l=>Fin f q t l))∧(q.kd=9→q.wm≠q.wh→Om.post f (oGive q) [] (fun _ l=>Fin f q t l))∧(q.kd=18→Om.post f (oLookAt q) [] (fun _ l=>Fin f q t l)):=by
  refine ⟨fun hk=>?_,fun hk=>?_,fun hk=>?_,fun hk=>?_,fun hk hn=>?_,fun hk hn=>?_,fun hk=>?_⟩
  case' refine_2 | refine_3 | refine_4=>rcases hk with hk | hk
  all_goals
    first | unfold oOpen | unfold oMint | unfold oCreate | unfold oDeposit | unfold oPay | unfold oGive | unfold oLookAt
    try unfold oMove
    repeat' (first
      | with_reducible exact Om.post_err (by decide)
      | with_reducible refine Om.post_bind (Om.post_there (fun _=>?_))
      | with_reducible refine Om.post_bind (Om.post_look ?_)
      | with_reducible refine Om.post_bind (Om.post_more ?_)
      | with_reducible refine Om.post_bind (Om.post_less (fun _=>?_))
      | with_reducible refine Om.post_bind (Om.post_deny (fun _=>(by decide)) (fun _=>?_))
      | with_reducible refine Om.post_bind (Om.post_amount ?_)
      | with_reducible refine Om.post_bind (Om.post_gone ?_)
      | with_reducible refine Om.post_bind (Om.post_put ?_)
      | with_reducible refine Om.post_bind (Om.post_pure ?_)
      | with_reducible refine Om.post_pure ?_
      | split
      | dsimp only)
    all_goals
      try have hz:=see_no (by assumption)
      refine ⟨?_,?_,?_⟩
      · simp only [List.nil_append,List.cons_append,ds_cons,ds_nil,nvc_amt,nvc_put,nv_gone,amt_k,amt_a,amt_b,mv_put,mvc,cs1,cs2,cs3,cs4,cs5,cs6,cs7,cs71,cs8,cC,Ky.mk.injEq]
        try simp [*]
        try omega
      · simp only [List.nil_append,List.cons_append,ds_cons,ds_nil,nvi_amt,nvi_put,nv_gone,amt_k,amt_a,amt_b,mv_put,mvi,is1,is2,is3,is4,is5,is6,is7,is8,cI,Ky.mk.injEq]
        try simp [*]
        try (repeat' split) <;> omega
      · try simp only [List.nil_append,List.cons_append]
        (repeat' (first | exact trivial | refine ⟨pk_amt (by omega),?_⟩))
theorem post_number {f:Wm} {l:List Pu} {kd:Int} {R:Int→List Pu→Prop} (h:R ((see f 8 kd 0).vA + 1) l):Om.post f (oNumber kd) l R:=Om.post_bind (Om.post_look (Om.post_bind (Om.post_deny (fun _=>(by decide)) (fun _=>Om.post_pure h))))
theorem post_side {f:Wm} {l:List Pu} {q:Ot} {A:Int} {R:Int→List Pu→Prop} (h:∀ s,R s l):Om.post f (oSide q A) l R:=by
  unfold oSide
  split
  · exact Om.post_pure (h 0)
  · split
    · exact Om.post_pure (h 1)
    · exact Om.post_err (by decide)
theorem see_some {f:Wm} {k a b:Int} (h:(see f k a b).is=true):∃ v,f ⟨k,a,b⟩=some v∧(see f k a b).vA=v.1∧(see f k a b).vB=v.2:=by
  cases e:f ⟨k,a,b⟩ with
  | none=>unfold see at h;rw [e] at h;cases h
  | some v=>exact ⟨v,rfl,by unfold Ce.vA see;rw [e];rfl,by unfold Ce.vB see;rw [e];rfl⟩
theorem hi_pair {a b:Int} (h:0≤a∧a≤4294967295) (k:0≤b∧b≤4294967295):hi32 (pair a b)=a∧lo32 (pair a b)=b:=by unfold hi32 lo32 pair;omega
theorem lo_self {a:Int} (h:0≤a∧a≤4294967295):lo32 a=a:=by unfold lo32;omega
theorem Inv.see_off {f:Wm} (h:Inv f) (a b:Int):lo32 (see f 5 a b).vB=(see f 5 a b).vB:=by
  cases e:(see f 5 a b).is with
  | false=>rw [(see_no e).2];rfl
  | true=>
    obtain ⟨v,h1,_,h3⟩:=see_some e
    rw [h3]
    exact h.off a b v h1
theorem pk_gone {f:Wm} {k a b:Int} (h:k≠8):PkOk f ⟨k,a,b,0,0,true⟩:=⟨fun _ e=>(by cases e),fun _ e=>(by cases e),fun _ e=>(by cases e),fun e _ _=>absurd e h⟩
theorem pk_trade {f:Wm} {a b A B:Int} (h:hi32 A≠lo32 A):PkOk f ⟨4,a,b,A,B,false⟩:=⟨fun e _=>(by cases e),fun _ _=>h,fun e _=>(by cases e),fun e _ _=>(by cases e)⟩
theorem pk_offer {f:Wm} {a b A B:Int} (h:lo32 B=B):PkOk f ⟨5,a,b,A,B,false⟩:=⟨fun _ _=>h,fun e _=>(by cases e),fun e _=>(by cases e),fun e _ _=>(by cases e)⟩
theorem pk_bid {f:Wm} {a b A B:Int}:PkOk f ⟨7,a,b,A,B,false⟩:=⟨fun e _=>(by cases e),fun e _=>(by cases e),fun e _=>(by cases e),fun e _ _=>(by cases e)⟩
theorem pk_hold {f:Wm} {B a A:Int}:PkOk f (amt (holdK B) a (holdW B) A):=pk_amt (by unfold holdK;split <;> simp)
theorem pk_count {f:Wm} {a b A:Int} (h:a≠6):PkOk f (amt 8 a b A):=⟨fun e=>(by rw [amt_k] at e;cases e),fun e=>(by rw [amt_k] at e;cases e),fun e=>(by rw [amt_k] at e;cases e),fun _ e=>(by rw [amt_a] at e;exact absurd e h)⟩
theorem cons_trade (f:Wm) (q:Ot) (t:Int) (hk:q.kd=11) (hq:q.Ok) (hn:q.wm≠q.wh):Om.post f (oTrade q) [] (fun _ l=>Fin f q t l):=by
  all_goals
    unfold oTrade
    repeat' (first
      | with_reducible exact Om.post_err (by decide)
      | with_reducible refine Om.post_bind (Om.post_there (fun _=>?_))
      | with_reducible refine Om.post_bind (Om.post_look ?_)
      | with_reducible refine Om.post_bind (Om.post_more ?_)
      | with_reducible refine Om.post_bind (Om.post_less (fun _=>?_))
      | with_reducible refine Om.post_bind (Om.post_deny (fun _=>(by decide)) (fun _=>?_))
      | with_reducible refine Om.post_bind (Om.post_amount ?_)
      | with_reducible refine Om.post_bind (Om.post_gone ?_)
      | with_reducible refine Om.post_bind (Om.post_put ?_)
      | with_reducible refine Om.post_bind (Om.post_pure ?_)
      | with_reducible refine Om.post_bind (post_number ?_)
      | with_reducible refine Om.post_bind (post_side (fun _=>?_))
      | with_reducible refine Om.post_pure ?_
      | split
      | dsimp only)
    all_goals
      refine ⟨?_,?_,?_⟩
      · simp only [List.nil_append,List.cons_append,ds_cons,ds_nil,nvc_amt,nvc_put,nv_gone,amt_k,amt_a,amt_b,mv_put,mvc,cs1,cs2,cs3,cs4,cs5,cs6,cs7,cs71,cs8,cC,Ky.mk.injEq]
        try simp [*]
        try (repeat' split) <;> omega
      · simp only [List.nil_append,List.cons_append,ds_cons,ds_nil,nvi_amt,nvi_put,nv_gone,amt_k,amt_a,amt_b,mv_put,mvi,is1,is2,is3,is4,is5,is6,is7,is8,cI,Ky.mk.injEq]
        try simp [*]
        try (repeat' split) <;> omega
      · try simp only [List.nil_append,List.cons_append]
        refine ⟨pk_count (by decide),pk_trade ?_,trivial⟩
        have hp:=hi_pair hq.wh hq.wm
        rw [hp.1,hp.2]
        exact fun e=>hn e.symm
theorem cons_sell (f:Wm) (q:Ot) (t:Int) (hk:q.kd=15) (hq:q.Ok) (hv:Inv f):Om.post f (oSell q) [] (fun _ l=>Fin f q t l):=by
  have hno:(see f 6 ((see f 8 6 0).vA + 1) 0).vA=0∧(see f 6 ((see f 8 6 0).vA + 1) 0).vB=0:=by
    refine see_no ?_
    cases e:(see f 6 ((see f 8 6 0).vA + 1) 0).is with
    | false=>rfl
    | true=>
      obtain ⟨v,h1,_⟩:=see_some e
      have:=hv.au _ _ _ h1
      omega
  have hp:=hi_pair hq.wh hq.wt
  all_goals
    unfold oSell
    repeat' (first
      | with_reducible exact Om.post_err (by decide)
      | with_reducible refine Om.post_bind (Om.post_there (fun _=>?_))
      | with_reducible refine Om.post_bind (Om.post_look ?_)
      | with_reducible refine Om.post_bind (Om.post_more ?_)
      | with_reducible refine Om.post_bind (Om.post_less (fun _=>?_))
      | with_reducible refine Om.post_bind (Om.post_deny (fun _=>(by decide)) (fun _=>?_))
      | with_reducible refine Om.post_bind (Om.post_amount ?_)
      | with_reducible refine Om.post_bind (Om.post_gone ?_)
      | with_reducible refine Om.post_bind (Om.post_put ?_)
      | with_reducible refine Om.post_bind (Om.post_pure ?_)
      | with_reducible refine Om.post_bind (post_number ?_)
      | with_reducible refine Om.post_bind (post_side (fun _=>?_))
      | with_reducible refine Om.post_pure ?_
      | split
      | dsimp only)
    all_goals
      refine ⟨?_,?_,?_⟩
      · simp only [List.nil_append,List.cons_append,ds_cons,ds_nil,nvc_amt,nvc_put,nv_gone,amt_k,amt_a,amt_b,mv_put,mvc,cs1,cs2,cs3,cs4,cs5,cs6,cs7,cs71,cs8,cC,Ky.mk.injEq]
        try simp [*]
        try (repeat' split) <;> omega
      · simp only [List.nil_append,List.cons_append,ds_cons,ds_nil,nvi_amt,nvi_put,nv_gone,amt_k,amt_a,amt_b,mv_put,mvi,is1,is2,is3,is4,is5,is6,is7,is8,cI,Ky.mk.injEq]
        try simp [*]
        try (repeat' split) <;> omega
      · try simp only [List.nil_append,List.cons_append]
        refine ⟨pk_amt (by omega),⟨fun e=>(by rw [amt_k] at e;cases e),fun e=>(by rw [amt_k] at e;cases e),fun e=>(by rw [amt_k] at e;cases e),fun _ _ _=>⟨by simp [amt],?_⟩⟩,⟨fun e=>(by cases e),fun e=>(by cases e),fun _ _=>?_,fun e=>(by cases e)⟩,pk_amt (by omega),trivial⟩
        · rw [see_put _ _ _ _ _ (by simp [amt_k])]
          simp [amt]
          omega
        · show _≤(see (putF _ (amt 8 6 0 _)) 8 6 0).vA
          have e8:amt 8 6 0 ((see f 8 6 0).vA + 1)=⟨8,6,0,(see f 8 6 0).vA + 1,0,false⟩:=by simp [amt]
          rw [e8,see_same]
          exact Int.le_refl _
theorem cons_settle (f:Wm) (q:Ot) (t t0 t1:Int) (ht:0 < t) (hk:cC q=0∧cI t q=0) (hv:Inv f) (hn:t1≠t0):Om.post f (oSettle q t0 t1) [] (fun _ l=>Fin f q t l):=by
  have ho0:=hv.see_off q.id 0
  have ho1:=hv.see_off q.id 1
  obtain ⟨hk1,hk2⟩:=hk
  rcases Decidable.em ((see f 5 q.id 0).vB=0) with h0 | h0 <;> rcases Decidable.em ((see f 5 q.id 1).vB=0) with h1 | h1
  all_goals
    unfold oSettle
    repeat' (first
      | with_reducible exact Om.post_err (by decide)
      | with_reducible refine Om.post_bind (Om.post_there (fun _=>?_))
      | with_reducible refine Om.post_bind (Om.post_look ?_)
      | with_reducible refine Om.post_bind (Om.post_more ?_)
      | with_reducible refine Om.post_bind (Om.post_less (fun _=>?_))
      | with_reducible refine Om.post_bind (Om.post_deny (fun _=>(by decide)) (fun _=>?_))
      | with_reducible refine Om.post_bind (Om.post_amount ?_)
      | with_reducible refine Om.post_bind (Om.post_gone ?_)
      | with_reducible refine Om.post_bind (Om.post_put ?_)
      | with_reducible refine Om.post_bind (Om.post_pure ?_)
      | with_reducible refine Om.post_bind (post_number ?_)
      | with_reducible refine Om.post_bind (post_side (fun _=>?_))
      | with_reducible refine Om.post_pure ?_
      | split
      | dsimp only)
    all_goals
      have z0:(see f 5 q.id 0).is=false→(see f 5 q.id 0).vA=0∧(see f 5 q.id 0).vB=0:=see_no
      have z1:(see f 5 q.id 1).is=false→(see f 5 q.id 1).vA=0∧(see f 5 q.id 1).vB=0:=see_no
      refine ⟨?_,?_,?_⟩
      · rw [hk1]
        try simp only [holdK,holdW,h0,h1,ho0,ho1,↓reduceIte]
        simp only [List.nil_append,List.cons_append,ds_cons,ds_nil,nvc_amt,nvc_put,nv_gone,amt_k,amt_a,amt_b,mv_put,mvc,cs1,cs2,cs3,cs4,cs5,cs6,cs7,cs71,cs8,cC,Ky.mk.injEq]
        try simp [*]
        try simp_all
        try (repeat' split) <;> omega
      · rw [hk2]
        try simp only [holdK,holdW,h0,h1,ho0,ho1,↓reduceIte]
        simp only [List.nil_append,List.cons_append,ds_cons,ds_nil,nvi_amt,nvi_put,nv_gone,amt_k,amt_a,amt_b,mv_put,mvi,is1,is2,is3,is4,is5,is6,is7,is8,cI,Ky.mk.injEq]
        try simp [*]
        try simp_all
        try (repeat' split) <;> omega
      · try simp only [List.nil_append,List.cons_append]
        (repeat' (first | exact trivial | refine ⟨pk_hold,?_⟩ | refine ⟨pk_gone (by decide),?_⟩))
theorem Inv.see_tr {f:Wm} (h:Inv f) {a:Int} (hi:(see f 4 a 0).is=true):hi32 (see f 4 a 0).vA≠lo32 (see f 4 a 0).vA:=by
  obtain ⟨v,h1,h2,_⟩:=see_some hi
  rw [h2]
  exact h.tr a v h1
theorem cons_agree (f:Wm) (q:Ot) (t:Int) (hk:q.kd=13) (ht:0 < t) (hv:Inv f):Om.post f (oAgree q) [] (fun _ l=>Fin f q t l):=by
  unfold oAgree
  refine Om.post_bind (Om.post_there (fun hi=>Om.post_bind (post_side (fun s=>?_))))
  have hc:cC q=0∧cI t q=0:=by simp [cC,cI,hk]
  split
  · refine Om.post_bind (Om.post_put (Om.post_pure ⟨?_,?_,pk_trade (hv.see_tr hi),trivial⟩))
    · rw [hc.1]
      simp only [List.nil_append,ds_cons,ds_nil,nvc_put,mvc,cs4]
      rfl
    · rw [hc.2]
      simp only [List.nil_append,ds_cons,ds_nil,nvi_put,mvi,is4]
      rfl
  · exact cons_settle f q t _ _ ht hc hv (hv.see_tr hi)
theorem cons_break (f:Wm) (q:Ot) (t:Int) (hk:q.kd=14) (ht:0 < t) (hv:Inv f):Om.post f (oBreak q) [] (fun _ l=>Fin f q t l):=by
  unfold oBreak
  refine Om.post_bind (Om.post_there (fun hi=>Om.post_bind (post_side (fun s=>?_))))
  exact cons_settle f q t _ _ ht (by simp [cC,cI,hk]) hv (hv.see_tr hi).symm
theorem cons_two (f:Wm) (q:Ot) (t:Int) (ht:0 < t):(q.kd=16→Om.post f (oBid q) [] (fun _ l=>Fin f q t l))∧(q.kd=17→Om.post f (oClose q) [] (fun _ l=>Fin f q t l)):=by
  have z0:(see f 7 q.id 0).is=false→(see f 7 q.id 0).vA=0∧(see f 7 q.id 0).vB=0:=see_no
  refine ⟨fun hk=>?_,fun hk=>?_⟩
  all_goals
    first | unfold oBid | unfold oClose
    repeat' (first
      | with_reducible exact Om.post_err (by decide)
      | with_reducible refine Om.post_bind (Om.post_there (fun _=>?_))
      | with_reducible refine Om.post_bind (Om.post_look ?_)
      | with_reducible refine Om.post_bind (Om.post_more ?_)
      | with_reducible refine Om.post_bind (Om.post_less (fun _=>?_))
      | with_reducible refine Om.post_bind (Om.post_deny (fun _=>(by decide)) (fun _=>?_))
      | with_reducible refine Om.post_bind (Om.post_amount ?_)
      | with_reducible refine Om.post_bind (Om.post_gone ?_)
      | with_reducible refine Om.post_bind (Om.post_put ?_)
      | with_reducible refine Om.post_bind (Om.post_pure ?_)
      | with_reducible refine Om.post_bind (post_number ?_)
      | with_reducible refine Om.post_bind (post_side (fun _=>?_))
      | with_reducible refine Om.post_pure ?_
      | split
      | dsimp only)
    all_goals
      refine ⟨?_,?_,?_⟩
      · simp only [List.nil_append,List.cons_append,ds_cons,ds_nil,nvc_amt,nvc_put,nv_gone,amt_k,amt_a,amt_b,mv_put,mvc,cs1,cs2,cs3,cs4,cs5,cs6,cs7,cs71,cs8,cC,Ky.mk.injEq]
        try simp [*]
        try simp_all
        try (repeat' split) <;> omega
      · simp only [List.nil_append,List.cons_append,ds_cons,ds_nil,nvi_amt,nvi_put,nv_gone,amt_k,amt_a,amt_b,mv_put,mvi,is1,is2,is3,is4,is5,is6,is7,is8,cI,Ky.mk.injEq]
        try simp [*]
        try simp_all
        try (repeat' split) <;> omega
      · try simp only [List.nil_append,List.cons_append]
        (repeat' (first | exact trivial | refine ⟨pk_amt (by omega),?_⟩ | refine ⟨pk_bid,?_⟩ | refine ⟨pk_gone (by decide),?_⟩))
theorem cons_offer (f:Wm) (q:Ot) (t:Int) (hk:q.kd=12) (ht:0 < t) (hq:q.Ok) (hv:Inv f):Om.post f (oOffer q) [] (fun _ l=>Fin f q t l):=by
  unfold oOffer
  refine Om.post_bind (Om.post_there (fun hi=>Om.post_bind (post_side (fun s=>?_))))
  have htr:=hv.see_tr hi
  have ho0:=hv.see_off q.id s
  have z0:(see f 5 q.id s).is=false→(see f 5 q.id s).vA=0∧(see f 5 q.id s).vB=0:=see_no
  rcases Decidable.em ((see f 5 q.id s).vB=0) with h0 | h0
  all_goals
    repeat' (first
      | with_reducible exact Om.post_err (by decide)
      | with_reducible refine Om.post_bind (Om.post_there (fun _=>?_))
      | with_reducible refine Om.post_bind (Om.post_look ?_)
      | with_reducible refine Om.post_bind (Om.post_more ?_)
      | with_reducible refine Om.post_bind (Om.post_less (fun _=>?_))
      | with_reducible refine Om.post_bind (Om.post_deny (fun _=>(by decide)) (fun _=>?_))
      | with_reducible refine Om.post_bind (Om.post_amount ?_)
      | with_reducible refine Om.post_bind (Om.post_gone ?_)
      | with_reducible refine Om.post_bind (Om.post_put ?_)
      | with_reducible refine Om.post_bind (Om.post_pure ?_)
      | with_reducible refine Om.post_bind (post_number ?_)
      | with_reducible refine Om.post_bind (post_side (fun _=>?_))
      | with_reducible refine Om.post_pure ?_
      | split
      | dsimp only)
    all_goals
      refine ⟨?_,?_,?_⟩
      · try simp only [holdK,holdW,h0,ho0,↓reduceIte]
        simp only [List.nil_append,List.cons_append,ds_cons,ds_nil,nvc_amt,nvc_put,nv_gone,amt_k,amt_a,amt_b,mv_put,mvc,cs1,cs2,cs3,cs4,cs5,cs6,cs7,cs71,cs8,cC,Ky.mk.injEq]
        try simp [*]
        try simp_all
        try (repeat' split) <;> omega
      · try simp only [holdK,holdW,h0,ho0,↓reduceIte]
        simp only [List.nil_append,List.cons_append,ds_cons,ds_nil,nvi_amt,nvi_put,nv_gone,amt_k,amt_a,amt_b,mv_put,mvi,is1,is2,is3,is4,is5,is6,is7,is8,cI,Ky.mk.injEq]
        try simp [*]
        try simp_all
        try (repeat' split) <;> omega
      · try simp only [List.nil_append,List.cons_append]
        (repeat' (first | exact trivial | refine ⟨pk_amt (by omega),?_⟩ | refine ⟨pk_hold,?_⟩ | refine ⟨pk_gone (by decide),?_⟩ | refine ⟨pk_trade htr,?_⟩ | refine ⟨pk_offer (lo_self hq.wt),?_⟩))
section
variable {f:Wm} {wh:Int}
theorem post_looks {R:List Int→List Pu→Prop} {l:List Pu}:∀ (L:List Int),R (L.map fun n=>(see f 3 wh n).vA) l→Om.post f (oLooks wh L) l R
  | [],h=>Om.post_pure h
  | n :: L,h=>Om.post_bind (Om.post_look (Om.post_bind (Om.post_mono (post_looks (R:=fun x l'=>R ((see f 3 wh n).vA :: x) l') L h) (fun x l' hx=>Om.post_pure hx))))
theorem post_lesses {g v:Int→Int} {R:List Int→List Pu→Prop} {l:List Pu}:∀ (L:List Int),R (L.map fun n=>v n - g n) l→Om.post f (oLesses g L (L.map v)) l R
  | [],h=>by unfold oLesses;exact Om.post_pure h
  | n :: L,h=>by
    show Om.post f (oLesses g (n :: L) (v n :: L.map v)) l R
    unfold oLesses
    exact Om.post_bind (Om.post_less (fun _=>Om.post_bind (Om.post_mono (post_lesses (R:=fun x l'=>R ((v n - g n) :: x) l') L h) (fun x l' hx=>Om.post_pure hx))))
theorem post_mores {g v:Int→Int} {R:List Int→List Pu→Prop} {l:List Pu}:∀ (L:List Int),R (L.map fun n=>v n + g n) l→Om.post f (oMores g L (L.map v)) l R
  | [],h=>by unfold oMores;exact Om.post_pure h
  | n :: L,h=>by
    show Om.post f (oMores g (n :: L) (v n :: L.map v)) l R
    unfold oMores
    exact Om.post_bind (Om.post_more (Om.post_bind (Om.post_mono (post_mores (R:=fun x l'=>R ((v n + g n) :: x) l') L h) (fun x l' hx=>Om.post_pure hx))))
theorem post_amounts {v:Int→Int} {R:Unit→List Pu→Prop}:∀ (L:List Int) {l:List Pu},R () (l++L.map fun n=>amt 3 wh n (v n))→Om.post f (oAmounts wh L (L.map v)) l R
  | [],l,h=>by
    unfold oAmounts
    rw [List.map_nil,List.append_nil] at h
    exact Om.post_pure h
  | n :: L,l,h=>by
    show Om.post f (oAmounts wh (n :: L) (v n :: L.map v)) l R
    unfold oAmounts
    refine Om.post_bind (Om.post_amount (post_amounts L ?_))
    rw [List.append_assoc]
    exact h
end
theorem ds_stacks (wh t:Int) (d:Int→Int):∀ (L:List Int) (f:Wm),L.Nodup→ds coinS f (L.map fun n=>amt 3 wh n ((see f 3 wh n).vA + d n))=0∧ds (itemS t) f (L.map fun n=>amt 3 wh n ((see f 3 wh n).vA + d n))=(if t∈L then d t else 0)∧PutsOk f (L.map fun n=>amt 3 wh n ((see f 3 wh n).vA + d n))
  | [],f,_=>⟨rfl,rfl,trivial⟩
  | n :: L,f,h=>by
    rw [List.nodup_cons] at h
    obtain ⟨x,hx⟩:∃ x,amt 3 wh n ((see f 3 wh n).vA + d n)=x:=⟨_,rfl⟩
    have hxk:x.k=3∧x.a=wh∧x.b=n:=by rw [← hx];exact ⟨amt_k _ _ _ _,amt_a _ _ _ _,amt_b _ _ _ _⟩
    have hc:nv coinS x=0:=by rw [← hx,nvc_amt,cs3]
    have hi:nv (itemS t) x=if n=t then (see f 3 wh n).vA + d n else 0:=by rw [← hx,nvi_amt,is3]
    have hp:PkOk f x:=by rw [← hx];exact pk_amt (by omega)
    have hs:∀ m∈L,see (putF f x) 3 wh m=see f 3 wh m:=fun m hm=>see_put _ _ _ _ _ (by
      rw [hxk.1,hxk.2.1,hxk.2.2]
      simp only [Ky.mk.injEq,true_and]
      exact fun e=>h.1 (e ▸ hm))
    have hl:(L.map fun n=>amt 3 wh n ((see f 3 wh n).vA + d n))=L.map fun n=>amt 3 wh n ((see (putF f x) 3 wh n).vA + d n):=List.map_congr_left (fun m hm=>by rw [hs m hm])
    obtain ⟨i1,i2,i3⟩:=ds_stacks wh t d L (putF f x) h.2
    rw [List.map_cons,hx,hl]
    refine ⟨?_,?_,hp,i3⟩
    · rw [ds_cons,hc,i1,hxk.1,hxk.2.1,hxk.2.2,mvc,cs3]
      rfl
    · rw [ds_cons,hi,i2,hxk.1,hxk.2.1,hxk.2.2,mvi,is3]
      by_cases e:n=t
      · subst e
        rw [if_pos rfl,if_pos rfl,if_neg h.1,if_pos (by simp)]
        omega
      · rw [if_neg e,if_neg e]
        by_cases e2:t∈L
        · rw [if_pos e2,if_pos (by simp [e2])];omega
        · rw [if_neg e2,if_neg (by simp [e2];exact fun e3=>e e3.symm)];rfl
theorem craft_else (id n t:Int) (h:t ∉ craftItems id):Stk.cnt t (Stk.outN id n)=0∧Stk.cnt t (Stk.inN id n)=0:=by
  unfold Stk.outN Stk.inN
  split
  · rw [Stk.cnt_times,Stk.cnt_times]
    have hz:Stk.cnt t (Stk.lineS id).2=0∧Stk.cnt t (Stk.lineS id).1=0:=by
      unfold craftItems at h
      unfold Stk.lineS
      repeat' (split at h)
      all_goals (simp_all [Stk.cnt])
      all_goals (try constructor) <;> (repeat' split) <;> omega
    rw [hz.1,hz.2]
    simp
  · exact ⟨rfl,rfl⟩
theorem craft_nodup (id:Int):(craftItems id).Nodup:=by
  unfold craftItems
  repeat' split
  all_goals simp
theorem cons_craft (f:Wm) (q:Ot) (t:Int) (hk:q.kd=10):Om.post f (oCraft q) [] (fun _ l=>Fin f q t l):=by
  unfold oCraft
  refine Om.post_bind (Om.post_deny of_decide_eq_true (fun _=>?_))
  refine Om.post_bind (Om.post_there (fun _=>?_))
  refine Om.post_bind (post_looks _ ?_)
  refine Om.post_bind (post_lesses (v:=fun n=>(see f 3 q.wh n).vA) _ ?_)
  refine Om.post_bind (post_mores (v:=fun n=>(see f 3 q.wh n).vA - Stk.cnt n (Stk.inN q.wt q.n)) _ ?_)
  refine Om.post_bind (post_amounts (v:=fun n=>(see f 3 q.wh n).vA - Stk.cnt n (Stk.inN q.wt q.n) + Stk.cnt n (Stk.outN q.wt q.n)) _ ?_)
  refine Om.post_pure ?_
  have e:((craftItems q.wt).map fun n=>amt 3 q.wh n ((see f 3 q.wh n).vA - Stk.cnt n (Stk.inN q.wt q.n) + Stk.cnt n (Stk.outN q.wt q.n)))=(craftItems q.wt).map fun n=>amt 3 q.wh n ((see f 3 q.wh n).vA + (Stk.cnt n (Stk.outN q.wt q.n) - Stk.cnt n (Stk.inN q.wt q.n))):=List.map_congr_left (fun m _=>by congr 1;omega)
  rw [List.nil_append,e]
  obtain ⟨h1,h2,h3⟩:=ds_stacks q.wh t (fun n=>Stk.cnt n (Stk.outN q.wt q.n) - Stk.cnt n (Stk.inN q.wt q.n)) (craftItems q.wt) f (craft_nodup _)
  refine ⟨?_,?_,h3⟩
  · rw [h1];simp [cC,hk]
  · rw [h2]
    have:cI t q=Stk.cnt t (Stk.outN q.wt q.n) - Stk.cnt t (Stk.inN q.wt q.n):=by simp [cI,hk]
    rw [this]
    by_cases e2:t∈craftItems q.wt
    · rw [if_pos e2]
    · rw [if_neg e2,(craft_else _ _ _ e2).1,(craft_else _ _ _ e2).2];rfl
theorem ck_same {q:Ot} (hc:ckE q=none) (hk:q.kd=8∨q.kd=9∨q.kd=11):q.wm≠q.wh:=by
  intro e
  unfold ckE at hc
  repeat' (split at hc)
  all_goals first | (cases hc;done) | (exfalso;omega)
theorem ck_nz {q:Ot} {e:Int} (h:ckE q=some e):e≠0:=by
  unfold ckE at h
  repeat' (split at h)
  all_goals first | (cases h;done) | (injection h with h;omega)
theorem cons_all (f:Wm) (q:Ot) (t:Int) (ht:0 < t) (hq:q.Ok) (hv:Inv f):Om.post f (oAll q) [] (fun _ l=>Fin f q t l):=by
  unfold oAll
  cases hc:ckE q with
  | some e=>exact Om.post_err (ck_nz hc)
  | none=>
    unfold oDo
    by_cases h1:q.kd=1
    · rw [if_pos h1];exact (cons_one f q t).1 h1
    rw [if_neg h1]
    by_cases h2:q.kd=2∨q.kd=3
    · rw [if_pos h2];exact (cons_one f q t).2.1 h2
    rw [if_neg h2]
    by_cases h4:q.kd=4∨q.kd=5
    · rw [if_pos h4];exact (cons_one f q t).2.2.1 h4
    rw [if_neg h4]
    by_cases h6:q.kd=6∨q.kd=7
    · rw [if_pos h6];exact (cons_one f q t).2.2.2.1 h6
    rw [if_neg h6]
    by_cases h8:q.kd=8
    · rw [if_pos h8];exact (cons_one f q t).2.2.2.2.1 h8 (ck_same hc (.inl h8))
    rw [if_neg h8]
    by_cases h9:q.kd=9
    · rw [if_pos h9];exact (cons_one f q t).2.2.2.2.2.1 h9 (ck_same hc (.inr (.inl h9)))
    rw [if_neg h9]
    by_cases h10:q.kd=10
    · rw [if_pos h10];exact cons_craft f q t h10
    rw [if_neg h10]
    by_cases h11:q.kd=11
    · rw [if_pos h11];exact cons_trade f q t h11 hq (ck_same hc (.inr (.inr h11)))
    rw [if_neg h11]
    by_cases h12:q.kd=12
    · rw [if_pos h12];exact cons_offer f q t h12 ht hq hv
    rw [if_neg h12]
    by_cases h13:q.kd=13
    · rw [if_pos h13];exact cons_agree f q t h13 ht hv
    rw [if_neg h13]
    by_cases h14:q.kd=14
    · rw [if_pos h14];exact cons_break f q t h14 ht hv
    rw [if_neg h14]
    by_cases h15:q.kd=15
    · rw [if_pos h15];exact cons_sell f q t h15 hq hv
    rw [if_neg h15]
    by_cases h16:q.kd=16
    · rw [if_pos h16];exact (cons_two f q t ht).1 h16
    rw [if_neg h16]
    by_cases h17:q.kd=17
    · rw [if_pos h17];exact (cons_two f q t ht).2 h17
    rw [if_neg h17]
    by_cases h18:q.kd=18
    · rw [if_pos h18];exact (cons_one f q t).2.2.2.2.2.2 h18
    rw [if_neg h18]
    exact Om.post_err (by decide)
theorem evD_err {f:Wm} {q:Ot} (t:Int) (ht:0 < t) (hq:q.Ok) (hv:Inv f) (h:(evD f q).2.1≠0):(evD f q).1=[]:=by
  unfold evD at h ⊢
  cases e:evTr f (oAll q []) with
  | miss k a b=>rfl
  | err x=>rfl
  | ok y j=>rw [e] at h;exact absurd rfl h
theorem evTr_miss {α:Type} (f:Wm) (k a b:Int):∀ t:Tr α,evTr f t≠.miss k a b
  | .ret x=>fun e=>by cases e
  | .err x=>fun e=>by cases e
  | .look k' a' b' n=>evTr_miss f k a b (n _ _ _)
theorem evD_ok {f:Wm} {q:Ot} (t:Int) (ht:0 < t) (hq:q.Ok) (hv:Inv f) (h:(evD f q).2.1=0):Fin f q t (evD f q).1:=by
  have hp:=cons_all f q t ht hq hv
  unfold evD at h ⊢
  cases e:evTr f (oAll q []) with
  | miss k a b=>exact absurd e (evTr_miss f k a b _)
  | err x=>rw [e] at h;exact absurd h (hp.2 x e)
  | ok y j=>exact hp.1 y j e
open Go.ChangeShapes Go.WideShapes Go.ChangeAt Go.RowKit Go.IntWalk Go.Proofs.Mem
theorem crafted_any (id n t:Int) (hn:0≤n∧n≤18446744073709551615) (w:World):Calls Tryz.prog 12 #[.int .u32 id,.int .u64 n,.int .u32 t] w fun e w'=>e=.returned (.tuple #[.int .u64 (Stk.cnt t (Stk.inN id n)),.int .u64 (Stk.cnt t (Stk.outN id n))])∧Below w.heap.size w w':=by
  obtain ⟨a,ha⟩:∃ a,Stk.cnt t (Stk.inN id n)=a:=⟨_,rfl⟩
  obtain ⟨b,hb⟩:∃ b,Stk.cnt t (Stk.outN id n)=b:=⟨_,rfl⟩
  have h:=Stk.change_ref id n t hn w
  rw [ha,hb] at h ⊢
  have H:=Lib.hid h
  clear ha hb h
  go_enter Tryz.func12,Tryz.ntmps12
  go_wp2_with (go_at_call 23;(with_reducible refine H.out.mono ?_);rintro e w' ⟨rfl,hq⟩)
  go_ret2
  exact ⟨rfl,hq⟩
structure Q4 (W:World) (x4 x5 x6 x7:Nat) (a0 a1 b0 b1:Int):Prop where
  r4:Box W x4 #[.int .u64 0,.int .u64 0] 38
  r5:Box W x5 #[.int .u64 0,.int .u64 0] 38
  l6:Box W x6 #[.int .u64 a0,.int .u64 a1] 38
  l7:Box W x7 #[.int .u64 b0,.int .u64 b1] 38
  d:x4≠x5∧x4≠x6∧x4≠x7∧x5≠x6∧x5≠x7∧x6≠x7
theorem Q4.s60 {W:World} {x4 x5 x6 x7:Nat} {a1 b0 b1:Int} (h:Q4 W x4 x5 x6 x7 0 a1 b0 b1) (n:Int):Q4 (W.setCell ⟨x6,0,none⟩ (.int .u64 n)) x4 x5 x6 x7 n a1 b0 b1:=⟨h.r4.far h.d.2.1 _,h.r5.far h.d.2.2.2.1 _,h.l6.set_ 0 _,h.l7.far (Ne.symm h.d.2.2.2.2.2) _,h.d⟩
theorem Q4.s61 {W:World} {x4 x5 x6 x7:Nat} {a0 b0 b1:Int} (h:Q4 W x4 x5 x6 x7 a0 0 b0 b1) (n:Int):Q4 (W.setCell ⟨x6,1,none⟩ (.int .u64 n)) x4 x5 x6 x7 a0 n b0 b1:=⟨h.r4.far h.d.2.1 _,h.r5.far h.d.2.2.2.1 _,h.l6.set_ 1 _,h.l7.far (Ne.symm h.d.2.2.2.2.2) _,h.d⟩
theorem Q4.s70 {W:World} {x4 x5 x6 x7:Nat} {a0 a1 b1:Int} (h:Q4 W x4 x5 x6 x7 a0 a1 0 b1) (n:Int):Q4 (W.setCell ⟨x7,0,none⟩ (.int .u64 n)) x4 x5 x6 x7 a0 a1 n b1:=⟨h.r4.far h.d.2.2.1 _,h.r5.far h.d.2.2.2.2.1 _,h.l6.far h.d.2.2.2.2.2 _,h.l7.set_ 0 _,h.d⟩
theorem Q4.s71 {W:World} {x4 x5 x6 x7:Nat} {a0 a1 b0:Int} (h:Q4 W x4 x5 x6 x7 a0 a1 b0 0) (n:Int):Q4 (W.setCell ⟨x7,1,none⟩ (.int .u64 n)) x4 x5 x6 x7 a0 a1 b0 n:=⟨h.r4.far h.d.2.2.1 _,h.r5.far h.d.2.2.2.2.1 _,h.l6.far h.d.2.2.2.2.2 _,h.l7.set_ 1 _,h.d⟩
def ifn (c:Bool) (n:Int):Int:=if c then n else 0
theorem change_law (q:Ot) (t:Int) (w:World):Calls Tryz.prog 11 #[.agg #[.int .u8 q.kd,.int .u32 q.wh,.int .u32 q.wm,.int .u32 q.wt,.int .u32 q.id,.int .u64 q.n,.int .u64 q.pr],.int .u32 t] w fun e w'=>e=.returned (.tuple #[.agg #[.int .u64 (ifn (decide (q.kd=2)) q.n),.int .u64 (ifn (decide (q.kd=3)) q.n)],.agg #[.int .u64 (ifn (decide (q.kd=4) && (decide (q.wt=t) && decide (0 < t))) q.n),.int .u64 (ifn (decide (q.kd=5) && (decide (q.wt=t) && decide (0 < t))) q.n)]])∧Below w.heap.size w w':=by
  obtain ⟨kd,wh,wm,wt,id,n,pr⟩:=q
  dsimp only
  obtain ⟨a0,ha0⟩:∃ a,ifn (decide (kd=2)) n=a:=⟨_,rfl⟩
  obtain ⟨a1,ha1⟩:∃ a,ifn (decide (kd=3)) n=a:=⟨_,rfl⟩
  obtain ⟨b0,hb0⟩:∃ a,ifn (decide (kd=4) && (decide (wt=t) && decide (0 < t))) n=a:=⟨_,rfl⟩
  obtain ⟨b1,hb1⟩:∃ a,ifn (decide (kd=5) && (decide (wt=t) && decide (0 < t))) n=a:=⟨_,rfl⟩
  rw [ha0,ha1,hb0,hb1]
  have HA:=Lib.hid (And.intro ha0 (And.intro ha1 (And.intro hb0 hb1)))
  clear ha0 ha1 hb0 hb1
  obtain ⟨x,hx⟩:∃ x,w.heap.size=x:=⟨_,rfl⟩
  obtain ⟨w1,hw1⟩:∃ W,((((w.alloc (.cells #[.int .u8 kd,.int .u32 wh,.int .u32 wm,.int .u32 wt,.int .u32 id,.int .u64 n,.int .u64 pr] 29)).alloc (.cells #[.int .u64 0,.int .u64 0] 38)).alloc (.cells #[.int .u64 0,.int .u64 0] 38)).alloc (.cells #[.int .u64 0,.int .u64 0] 38)).alloc (.cells #[.int .u64 0,.int .u64 0] 38)=W:=⟨_,rfl⟩
  have bx:Below w.heap.size w w1:=by rw [← hw1];exact new_ (new_ (new_ (new_ (new_ (Below.refl _ _) _) _) _) _) _
  have XO:Box w1 x #[.int .u8 kd,.int .u32 wh,.int .u32 wm,.int .u32 wt,.int .u32 id,.int .u64 n,.int .u64 pr] 29:=by rw [← hw1,← hx];exact ((((Box.new _ _ _).alloc _).alloc _).alloc _).alloc _
  have nb:∀ (W:World) (k:Nat) (C:Array Value) (T:TypeId),W.heap.size=k→Box (W.alloc (.cells C T)) k C T:=fun W k C T h=>by rw [← h];exact Box.new _ _ _
  have R4:Box w1 (x + 1) #[.int .u64 0,.int .u64 0] 38:=by rw [← hw1];exact (((nb _ _ _ _ (by simp [hx])).alloc _).alloc _).alloc _
  have R5:Box w1 (x + 1 + 1) #[.int .u64 0,.int .u64 0] 38:=by rw [← hw1];exact ((nb _ _ _ _ (by simp [hx])).alloc _).alloc _
  have L6:Box w1 (x + 1 + 1 + 1) #[.int .u64 0,.int .u64 0] 38:=by rw [← hw1];exact (nb _ _ _ _ (by simp [hx])).alloc _
  have L7:Box w1 (x + 1 + 1 + 1 + 1) #[.int .u64 0,.int .u64 0] 38:=by rw [← hw1];exact nb _ _ _ _ (by simp [hx])
  rw [hx] at bx ⊢
  obtain ⟨x4,h4⟩:∃ y,x + 1=y:=⟨_,rfl⟩
  obtain ⟨x5,h5⟩:∃ y,x4 + 1=y:=⟨_,rfl⟩
  obtain ⟨x6,h6⟩:∃ y,x5 + 1=y:=⟨_,rfl⟩
  obtain ⟨x7,h7⟩:∃ y,x6 + 1=y:=⟨_,rfl⟩
  rw [h4] at R4 R5 L6 L7
  rw [h5] at R5 L6 L7
  rw [h6] at L6 L7
  rw [h7] at L7
  have o:=XO.cell
  have l6:=L6.cell
  have l7:=L7.cell
  have g6:=L6.frozen
  have g7:=L7.frozen
  have BX:=Lib.hid bx
  have RR:=Lib.hid (show Q4 w1 x4 x5 x6 x7 0 0 0 0 from ⟨R4,R5,L6,L7,by omega⟩)
  have HX:=Lib.hid (show x≤x4∧x≤x5∧x≤x6∧x≤x7 by omega)
  clear bx XO R4 R5 L6 L7 nb
  go_enter Tryz.func11,Tryz.ntmps11
  go_upto_region 2 with fail
  clear hw1 hx
  clear h4 h5 h6 h7
  go_wp2
  all_goals
    first
      | (obtain ⟨W,hW⟩:∃ W,w1.setCell ⟨x6,0,none⟩ (.int .u64 n)=W:=⟨_,rfl⟩
         rw [hW]
         have Q:=Lib.hid (show Q4 W x4 x5 x6 x7 n 0 0 0 by rw [← hW];exact RR.out.s60 n)
         have B:=Lib.hid (show Below x w W by rw [← hW];exact BX.out.setCell (p:=⟨x6,0,none⟩) HX.out.2.2.1 _))
      | (obtain ⟨W,hW⟩:∃ W,w1.setCell ⟨x6,1,none⟩ (.int .u64 n)=W:=⟨_,rfl⟩
         rw [hW]
         have Q:=Lib.hid (show Q4 W x4 x5 x6 x7 0 n 0 0 by rw [← hW];exact RR.out.s61 n)
         have B:=Lib.hid (show Below x w W by rw [← hW];exact BX.out.setCell (p:=⟨x6,1,none⟩) HX.out.2.2.1 _))
      | (obtain ⟨W,hW⟩:∃ W,w1.setCell ⟨x7,0,none⟩ (.int .u64 n)=W:=⟨_,rfl⟩
         rw [hW]
         have Q:=Lib.hid (show Q4 W x4 x5 x6 x7 0 0 n 0 by rw [← hW];exact RR.out.s70 n)
         have B:=Lib.hid (show Below x w W by rw [← hW];exact BX.out.setCell (p:=⟨x7,0,none⟩) HX.out.2.2.2 _))
      | (obtain ⟨W,hW⟩:∃ W,w1.setCell ⟨x7,1,none⟩ (.int .u64 n)=W:=⟨_,rfl⟩
         rw [hW]
         have Q:=Lib.hid (show Q4 W x4 x5 x6 x7 0 0 0 n by rw [← hW];exact RR.out.s71 n)
         have B:=Lib.hid (show Below x w W by rw [← hW];exact BX.out.setCell (p:=⟨x7,1,none⟩) HX.out.2.2.2 _))
      | (have Q:=RR
         have B:=BX
         obtain ⟨W,hW⟩:∃ W,w1=W:=⟨_,rfl⟩
         rw [hW] at Q B ⊢)
    obtain ⟨e0,e1,e2,e3⟩:=HA.out
    clear hW RR BX o l6 l7 g6 g7 HA
    have Q2:=Lib.hid (show Q4 W x4 x5 x6 x7 a0 a1 b0 b1 by
      have hq:=Q.out
      rw [← e0,← e1,← e2,← e3]
      clear e0 e1 e2 e3 Q B HX
      simp_all [ifn]
      all_goals (rw [if_neg (by omega)];exact hq))
    clear e0 e1 e2 e3 Q
    have l6:=Q2.out.l6.cell
    have l7:=Q2.out.l7.cell
    have r4:=Q2.out.r4.cell
    have r5:=Q2.out.r5.cell
    have g4:=Q2.out.r4.frozen
    have g5:=Q2.out.r5.frozen
    obtain ⟨d1,d2,d3,d4,d5,d6⟩:=Q2.out.d
    have d1':=Ne.symm d1
    have d2':=Ne.symm d2
    have d3':=Ne.symm d3
    have d4':=Ne.symm d4
    have d5':=Ne.symm d5
    go_region
    all_goals
      go_wp2
      have Y4:Box ((((W.setCell ⟨x4,0,none⟩ (.int .u64 a0)).setCell ⟨x4,1,none⟩ (.int .u64 a1)).setCell ⟨x5,0,none⟩ (.int .u64 b0)).setCell ⟨x5,1,none⟩ (.int .u64 b1)).drew x4 #[.int .u64 a0,.int .u64 a1] 38:=((((Q2.out.r4.set_ 0 _).set_ 1 _).far d1 _).far d1 _).drew
      have Y5:Box ((((W.setCell ⟨x4,0,none⟩ (.int .u64 a0)).setCell ⟨x4,1,none⟩ (.int .u64 a1)).setCell ⟨x5,0,none⟩ (.int .u64 b0)).setCell ⟨x5,1,none⟩ (.int .u64 b1)).drew x5 #[.int .u64 b0,.int .u64 b1] 38:=((((Q2.out.r5.far d1' _).far d1' _).set_ 0 _).set_ 1 _).drew
      have YB:=Below.drew ((((B.out.setCell (p:=⟨x4,0,none⟩) HX.out.1 (.int .u64 a0)).setCell (p:=⟨x4,1,none⟩) HX.out.1 (.int .u64 a1)).setCell (p:=⟨x5,0,none⟩) HX.out.2.1 (.int .u64 b0)).setCell (p:=⟨x5,1,none⟩) HX.out.2.1 (.int .u64 b1))
      generalize ((((W.setCell ⟨x4,0,none⟩ (.int .u64 a0)).setCell ⟨x4,1,none⟩ (.int .u64 a1)).setCell ⟨x5,0,none⟩ (.int .u64 b0)).setCell ⟨x5,1,none⟩ (.int .u64 b1)).drew=W9 at Y4 Y5 YB ⊢
      have y0:W9.cell? ⟨x4,0,none⟩=some (.int .u64 a0):=by rw [Y4.cell 0];rfl
      have y1:W9.cell? ⟨x4,1,none⟩=some (.int .u64 a1):=by rw [Y4.cell 1];rfl
      have y2:W9.cell? ⟨x5,0,none⟩=some (.int .u64 b0):=by rw [Y5.cell 0];rfl
      have y3:W9.cell? ⟨x5,1,none⟩=some (.int .u64 b1):=by rw [Y5.cell 1];rfl
      refine bodyPost_ret (v:=.tuple #[.agg #[.int .u64 a0,.int .u64 a1],.agg #[.int .u64 b0,.int .u64 b1]]) (by simp [results,Tryz.results11,go_sem,y0,y1,y2,y3];try rfl) rfl ?_
      exact ⟨rfl,YB⟩
open Go.IntWalk
theorem Tot.coins {f:Wm} {T:Int} (h:Tot coinS f T) (hf:Wok f):0≤T∧(T≤4611686018427387904→∀ L,Ents f L→sumV (L.map coinC)=.tuple #[.int .u64 T,.bool true]):=by
  obtain ⟨M,hM,hs⟩:=h
  have hp:∀ {L},Ents f L→∀ x∈L.map coinC,0≤x:=fun {L} hL x hx=>by
    obtain ⟨c,hc,rfl⟩:=List.mem_map.1 hx
    have:=hf _ _ ((hL.mem c).1 hc).2
    exact (coinC_u this.1 this.2).1
  have hs2:sumI (M.map coinC)=T:=hs
  refine ⟨by rw [← hs2];exact sumI_pos (hp hM),fun hT L hL=>?_⟩
  have e:sumI (L.map coinC)=T:=by rw [sumI_perm ((hL.perm hM).map coinC),hs2]
  rw [sumV_ok (hp hL) (by omega),e]
theorem Tot.items {f:Wm} {t T:Int} (h:Tot (itemS t) f T) (hf:Wok f):0≤T∧(T≤4611686018427387904→∀ L,Ents f L→sumV (L.map (itemC t))=.tuple #[.int .u64 T,.bool true]):=by
  obtain ⟨M,hM,hs⟩:=h
  have hp:∀ {L},Ents f L→∀ x∈L.map (itemC t),0≤x:=fun {L} hL x hx=>by
    obtain ⟨c,hc,rfl⟩:=List.mem_map.1 hx
    have:=hf _ _ ((hL.mem c).1 hc).2
    exact (itemC_u this.1 this.2).1
  have hs2:sumI (M.map (itemC t))=T:=hs
  refine ⟨by rw [← hs2];exact sumI_pos (hp hM),fun hT L hL=>?_⟩
  have e:sumI (L.map (itemC t))=T:=by rw [sumI_perm ((hL.perm hM).map (itemC t)),hs2]
  rw [sumV_ok (hp hL) (by omega),e]
theorem cnt_le {t id n:Int} (hn:0≤n):0≤Stk.cnt t (Stk.outN id n)∧Stk.cnt t (Stk.outN id n)≤10000∧0≤Stk.cnt t (Stk.inN id n)∧Stk.cnt t (Stk.inN id n)≤10000:=by
  have hc:∀ l:List (Int × Int),Stk.small l→0≤Stk.cnt t l∧Stk.cnt t l≤10:=by
    intro l hl
    have h2:=hl.2
    clear hl
    induction l with
    | nil=>exact ⟨Int.le_refl _,by show (0:Int)≤10;decide⟩
    | cons p l ih=>
      unfold Stk.cnt
      split
      · have:=h2 p (by simp);omega
      · exact ih (fun q hq=>h2 q (by simp [hq]))
  have hs:=Stk.lineS_small id
  unfold Stk.outN Stk.inN
  split
  · rename_i he
    have hn1:n≤1000:=by
      unfold Stk.errN at he
      split at he
      · omega
      · split at he <;> omega
    rw [Stk.cnt_times,Stk.cnt_times]
    have h1:=hc _ hs.1
    have h2:=hc _ hs.2
    generalize Stk.cnt t (Stk.lineS id).1=a at *
    generalize Stk.cnt t (Stk.lineS id).2=b at *
    refine ⟨Int.mul_nonneg h2.1 hn,?_,Int.mul_nonneg h1.1 hn,?_⟩
    · have:=Int.mul_le_mul h2.2 hn1 hn (by decide);omega
    · have:=Int.mul_le_mul h1.2 hn1 hn (by decide);omega
  · exact ⟨Int.le_refl _,by show (0:Int)≤10000;decide,Int.le_refl _,by show (0:Int)≤10000;decide⟩
structure Kp (f:Wm) (t:Int) (j:Nat) (C I:Int):Prop where
  ok:Wok f
  inv:Inv f
  tc:Tot coinS f C
  ti:0 < t→Tot (itemS t) f I
  cb:C≤j * 1125899906842624
  ib:0≤I∧I≤j * 1125899906852624
  z:t=0→I=0
theorem Kp.start (t:Int):Kp (fun _=>none) t 0 0 0:=by
  have he:∀ much,Tot much (fun _=>none) 0:=fun much=>⟨[],⟨fun c=>by simp,List.Pairwise.nil⟩,rfl⟩
  exact ⟨Wok.none,Inv.none,he _,fun _=>he _,by decide,by decide,fun _=>rfl⟩
theorem Kp.stay {f:Wm} {t:Int} {j:Nat} {C I:Int} (h:Kp f t j C I) {q:Ot} (hq:q.Ok) (he:(evD f q).2.1≠0):opF f q=f∧Kp f t (j + 1) C I:=by
  have hp:=evD_err 1 (by decide) hq h.inv he
  refine ⟨by unfold opF;rw [hp];rfl,h.ok,h.inv,h.tc,h.ti,?_,⟨h.ib.1,?_⟩,h.z⟩
  · have:=h.cb;omega
  · have:=h.ib;omega
theorem cI_le {t:Int} {q:Ot} (hq:q.Ok) (hn:q.n≤1125899906842624):cI t q≤1125899906852624:=by
  have h1:=cnt_le (t:=t) (id:=q.wt) hq.n.1
  have h2:=hq.n.1
  unfold cI
  repeat' split
  all_goals omega
theorem Kp.step {f:Wm} {t:Int} {j:Nat} {C I:Int} (h:Kp f t j C I) {q:Ot} (hq:q.Ok) (hn:q.n≤1125899906842624) (ht:0≤t) (he:(evD f q).2.1=0):Kp (opF f q) t (j + 1) (C + cC q) (if 0 < t then I + cI t q else 0):=by
  have hok:=h.ok.op hq
  have h1:=evD_ok 1 (by decide) hq h.inv he
  have hC:=h.tc.puts (evD f q).1
  rw [h1.1] at hC
  have hcc:cC q≤1125899906842624:=by
    have:=hq.n.1
    unfold cC
    repeat' split
    all_goals omega
  have hI:0 < t→Tot (itemS t) (opF f q) (I + cI t q):=fun h0=>by
    have h2:=evD_ok t h0 hq h.inv he
    have:=(h.ti h0).puts (evD f q).1
    rw [h2.2.1] at this
    exact this
  refine ⟨hok,h.inv.puts _ h1.2.2,hC,fun h0=>by rw [if_pos h0];exact hI h0,by have:=h.cb;omega,?_,fun e=>if_neg (by omega)⟩
  by_cases h0:0 < t
  · rw [if_pos h0]
    have:=((hI h0).items hok).1
    have:=cI_le (t:=t) hq hn
    have:=h.ib
    omega
  · rw [if_neg h0]
    exact ⟨Int.le_refl _,by omega⟩
structure Nums (q:Ot) (t C I C' I' c0 c1 n0 n1:Int):Prop where
  a1:IntKind.u64.wrap (C + c0)=C + c0
  a2:IntKind.u64.wrap (C + c0 - c1)=C'
  a3:IntKind.u64.wrap (I + n0)=I + n0
  a4:IntKind.u64.wrap (I + n0 - n1)=I + n0 - n1
  a5:¬ (q.kd=10∧0 < t)→I + n0 - n1=I'
  a6:q.kd=10∧0 < t→IntKind.u64.wrap (I + n0 - n1 + Stk.cnt t (Stk.outN q.wt q.n))=I + n0 - n1 + Stk.cnt t (Stk.outN q.wt q.n)∧IntKind.u64.wrap (I + n0 - n1 + Stk.cnt t (Stk.outN q.wt q.n) - Stk.cnt t (Stk.inN q.wt q.n))=I'
  c:C'≤4611686018427387904
  i:I'≤4611686018427387904
theorem Kp.nums {f:Wm} {t:Int} {j:Nat} {C I C' I' c0 c1 n0 n1:Int} (h:Kp f t j C I) (hj:j < 80) {q:Ot} (hq:q.Ok) (hn:q.n≤1125899906842624) (ht:0≤t) (h2:Kp (opF f q) t (j + 1) C' I') (hC:C'=C + cC q) (hI:I'=if 0 < t then I + cI t q else 0)
    (e0:ifn (decide (q.kd=2)) q.n=c0) (e1:ifn (decide (q.kd=3)) q.n=c1) (e2:ifn (decide (q.kd=4) && (decide (q.wt=t) && decide (0 < t))) q.n=n0) (e3:ifn (decide (q.kd=5) && (decide (q.wt=t) && decide (0 < t))) q.n=n1):Nums q t C I C' I' c0 c1 n0 n1:=by
  have g1:=(h.tc.coins h.ok).1
  have g2:=(h2.tc.coins h2.ok).1
  have b1:=h.cb
  have b2:=h2.cb
  have b3:=h.ib
  have b4:=h2.ib
  have p:=hq.n.1
  have k:=cnt_le (t:=t) (id:=q.wt) p
  have u0:0≤c0∧c0≤q.n:=by rw [← e0];unfold ifn;split <;> omega
  have u1:0≤c1∧c1≤q.n:=by rw [← e1];unfold ifn;split <;> omega
  have u2:0≤n0∧n0≤q.n:=by rw [← e2];unfold ifn;split <;> omega
  have u3:0≤n1∧n1≤q.n:=by rw [← e3];unfold ifn;split <;> omega
  have uC:C + c0 - c1=C':=by
    rw [hC,← e0,← e1]
    unfold cC ifn
    by_cases k2:q.kd=2
    · simp [k2]
    · by_cases k3:q.kd=3
      · simp [k3];omega
      · simp [k2,k3]
  have z:=h.z
  have uI:(¬ (q.kd=10∧0 < t)→I + n0 - n1=I')∧(q.kd=10∧0 < t→n0=0∧n1=0∧I + Stk.cnt t (Stk.outN q.wt q.n) - Stk.cnt t (Stk.inN q.wt q.n)=I'):=by
    by_cases h0:0 < t
    · rw [if_pos h0] at hI
      rw [hI,← e2,← e3]
      unfold cI ifn
      by_cases k4:q.kd=4
      · by_cases kw:q.wt=t <;> simp [k4,kw,h0]
      · by_cases k5:q.kd=5
        · by_cases kw:q.wt=t <;> simp [k5,kw,h0]
          omega
        · by_cases k10:q.kd=10
          · simp [k10,h0];omega
          · simp [k4,k5,k10,h0]
    · rw [if_neg h0] at hI
      have hz:=z (by omega)
      refine ⟨fun _=>?_,fun h=>absurd h.2 h0⟩
      rw [hI,hz,← e2,← e3]
      unfold ifn
      simp [h0]
  clear e0 e1 e2 e3
  refine ⟨u64_in _ (by omega),by rw [u64_in _ (by omega)];exact uC,u64_in _ (by omega),u64_in _ ?_,uI.1,fun hc=>?_,by omega,by omega⟩
  · by_cases hc:q.kd=10∧0 < t
    · have:=uI.2 hc;omega
    · have:=uI.1 hc;omega
  · have:=uI.2 hc
    exact ⟨u64_in _ (by omega),by rw [u64_in _ (by omega)];omega⟩
end Go.Proofs.YtabckmadpdchnaaGreat.Rule
