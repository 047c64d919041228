import Derived.Test.YtabckmadpdchnaaGreatBox
import Derived.Test.YtabckmadpdchnaaGreatFr
import Derived.Test.YtabckmadpdchnaaGreatLaw
import Derived.Test.YtabckmadpdchnaaGreatMem2
import Derived.Test.YtabckmadpdchnaaGreatMo0
import Derived.BigQuiet
import Derived.Deep.AppendLies
import Derived.Deep.DrawnRows
import Derived.Deep.QuietTactic
import Derived.Deep.RegionHeld3
import Derived.Deep.RegionWith
import Derived.DeepKeys4
import Derived.Handy
import Derived.IntWalk
import Derived.Laws.OwnMore
import Derived.Lib.Hide
import Derived.Maps.Own
import Derived.Maps.OwnOps
import Derived.Maps.OwnSet
import Derived.Maps.RangeWalk
import Derived.Maps.Views
import Derived.ProofKit
import Derived.WalkKit
set_option linter.unusedVariables false
set_option linter.unusedSimpArgs false
set_option linter.unnecessarySimpa false
set_option maxRecDepth 100000
set_option maxHeartbeats 8000000
namespace Go.Proofs.Stk
open Go.RowKit Go.WideShapes Go.Proofs.Mem
abbrev Pr:=Int × Int
def flat (l:List Pr):List Value:=l.flatMap fun p=>[.int .u32 p.1,.int .u64 p.2]
theorem flat_nil:flat []=[]:=rfl
theorem flat_cons (p:Pr) (l:List Pr):flat (p :: l)=.int .u32 p.1 :: .int .u64 p.2 :: flat l:=rfl
theorem flat_app (l m:List Pr):flat (l++m)=flat l++flat m:=by simp [flat]
theorem flat_len:∀ (l:List Pr),(flat l).length=l.length * 2
  | []=>rfl
  | p :: l=>by rw [flat_cons];simp [flat_len l];omega
theorem flat_at:∀ (l:List Pr) (j:Nat),j < l.length→(flat l)[j * 2]?=some (.int .u32 (l.getD j (0,0)).1)∧(flat l)[j * 2 + 1]?=some (.int .u64 (l.getD j (0,0)).2)
  | [],j,h=>by simp at h
  | p :: l,0,h=>by simp [flat_cons]
  | p :: l,j + 1,h=>by
    have:=flat_at l j (by simpa using h)
    rw [flat_cons,show (j + 1) * 2=j * 2 + 1 + 1 by omega,show j * 2 + 1 + 1 + 1=(j * 2 + 1) + 1 + 1 by omega]
    simpa using this
theorem flat_set:∀ (l:List Pr) (j:Nat) (x:Int),j < l.length→(flat l).set (j * 2 + 1) (.int .u64 x)=flat (l.set j ((l.getD j (0,0)).1,x))
  | [],j,x,h=>by simp at h
  | p :: l,0,x,h=>by simp [flat_cons]
  | p :: l,j + 1,x,h=>by
    have:=flat_set l j x (by simpa using h)
    rw [flat_cons,show (j + 1) * 2 + 1=(j * 2 + 1) + 1 + 1 by omega]
    simp [flat_cons,this]
def KR (w:World) (B:Nat) (v:Value) (l:List Pr):Prop:=
  ∃ A c,v=.slice A l.length c∧l.length≤c∧c≤maxLen∧∀ i u,(flat l)[i]?=some u→∃ b off,A=some ⟨b,off,none⟩∧b < B∧w.cell? ⟨b,off + i,none⟩=some u
section
variable {w w':World} {B B':Nat} {v:Value} {l:List Pr}
theorem KR.form (h:KR w B v l):∃ A c,v=.slice A l.length c∧l.length≤c∧c≤maxLen:=by
  obtain ⟨A,c,h1,h2,h3,_⟩:=h
  exact ⟨A,c,h1,h2,h3⟩
theorem KR.nil (w:World) (B:Nat):KR w B (.slice none 0 0) []:=⟨none,0,rfl,Nat.le_refl _,Nat.zero_le _,fun i u h=>by rw [flat_nil] at h;cases h⟩
theorem KR.keep (h:KR w B v l) (hk:∀ p:Addr,p.block < B→w'.cell? p=w.cell? p):KR w' B v l:=by
  obtain ⟨A,c,h1,h2,h3,h5⟩:=h
  refine ⟨A,c,h1,h2,h3,fun i u hi=>?_⟩
  obtain ⟨b,off,e,hb,hc⟩:=h5 i u hi
  exact ⟨b,off,e,hb,(hk _ hb).trans hc⟩
theorem KR.more (h:KR w B v l) (hB:B≤B'):KR w B' v l:=by
  obtain ⟨A,c,h1,h2,h3,h5⟩:=h
  refine ⟨A,c,h1,h2,h3,fun i u hi=>?_⟩
  obtain ⟨b,off,e,hb,hc⟩:=h5 i u hi
  exact ⟨b,off,e,by omega,hc⟩
theorem KR.below (h:KR w B v l) (hb:Below B w w'):KR w' B v l:=h.keep fun _ hp=>hb.cell hp
theorem KR.index {A:Option Addr} {c n:Nat} (h:KR w B (.slice A n c) l) (j:Nat) (hj:j < n) :
    ∃ b off,A=some ⟨b,off,none⟩∧b < B∧w.cell? ⟨b,off + j * 2,none⟩=some (.int .u32 (l.getD j (0,0)).1)∧w.cell? ⟨b,off + j * 2 + 1,none⟩=some (.int .u64 (l.getD j (0,0)).2):=by
  obtain ⟨A',c',e,_,_,h5⟩:=h
  injection e with e1 e2 e3
  subst e1;subst e2
  obtain ⟨f1,f2⟩:=flat_at l j hj
  obtain ⟨b,off,e,hb,hc⟩:=h5 _ _ f1
  obtain ⟨b2,off2,e2,_,hc2⟩:=h5 _ _ f2
  rw [e] at e2;injection e2 with e2;injection e2 with e3 e4;subst e3;subst e4
  exact ⟨b,off,e,hb,hc,hc2⟩
theorem KR.of_own {base:Nat} {e:TypeId} {n:Nat} (h:w.ownsRow base e 2 v n (flat l)) (hn:l.length=n):KR w w.heap.size v l:=by
  rcases h.2 with ⟨rfl,h2⟩ | ⟨g,cap,cur,rfl,hg,hh,hnc,hm,_,_⟩
  · have:l=[]:=List.eq_nil_of_length_eq_zero (hn.trans h2)
    subst this
    exact KR.nil _ _
  · subst hn
    refine ⟨some ⟨g,0,none⟩,cap,rfl,by omega,hm,fun i u hu=>?_⟩
    have hlt:=(h.lt g rfl).2
    have:=h.cells (g:=g) rfl i _ hu
    rw [show (⟨g,0,none⟩:Addr).add i=⟨g,0 + i,none⟩ from by rw [Go.WideShapes.add_plain]] at this
    exact ⟨g,0,rfl,hlt,this⟩
end
def KF (w:World) (lo:Nat) (v:Value) (l:List Pr):Prop:=KR w w.heap.size v l∧∀ A n c,v=.slice A n c→l≠[]→∃ b off,A=some ⟨b,off,none⟩∧lo≤b
section
variable {w w':World} {lo:Nat} {v:Value} {l:List Pr}
theorem KF.nil (w:World) (lo:Nat):KF w lo (.slice none 0 0) []:=⟨KR.nil _ _,fun _ _ _ _ h=>absurd rfl h⟩
theorem KF.below (h:KF w lo v l) (hb:Below w.heap.size w w'):KF w' lo v l:=⟨(h.1.below hb).more hb.size,h.2⟩
theorem KF.setCell (h:KF w lo v l) {p:Addr} (hp:p.block < lo) (u:Value):KF (w.setCell p u) lo v l:=by
  refine ⟨?_,h.2⟩
  obtain ⟨A,c,h1,h2,h3,h5⟩:=h.1
  refine ⟨A,c,h1,h2,h3,fun i x hi=>?_⟩
  obtain ⟨b,off,e,hb,hc⟩:=h5 i x hi
  refine ⟨b,off,e,by simpa [World.setCell] using hb,?_⟩
  obtain ⟨b2,off2,e2,hlo⟩:=h.2 A _ c h1 (by rintro rfl;simp [flat_nil] at hi)
  rw [e] at e2;injection e2 with e2;injection e2 with e3 e4;subst e3
  rw [World.cell?_setCell_other _ _ _ _ (by intro e;rw [e] at hp;simp at hp;omega)]
  exact hc
theorem KF.of_own {base:Nat} {e:TypeId} {n:Nat} (h:w.ownsRow base e 2 v n (flat l)) (hn:l.length=n):KF w base v l:=by
  refine ⟨KR.of_own h hn,fun A k c e2 hl=>?_⟩
  rcases h.2 with ⟨rfl,h2⟩ | ⟨g,cap,cur,rfl,hg,_⟩
  · exact absurd (List.eq_nil_of_length_eq_zero (hn.trans h2)) hl
  · injection e2 with e2 e3 e4
    exact ⟨g,0,e2.symm,(h.lt g rfl).1⟩
end
def KO (w:World) (g:Nat) (t:TypeId) (l:List Pr):Prop:=w.heap[g]?=some (.cells (flat l).toArray t (0,0))
section
variable {w w':World} {g:Nat} {t:TypeId} {l:List Pr}
theorem KO.lt (h:KO w g t l):g < w.heap.size:=by
  rcases Nat.lt_or_ge g w.heap.size with hlt | hge
  · exact hlt
  · unfold KO at h;rw [Array.getElem?_eq_none hge] at h;cases h
theorem KO.cell (h:KO w g t l) (i:Nat):w.cell? ⟨g,i,none⟩=(flat l)[i]?:=by
  unfold KO at h;simp [World.cell?,h]
theorem KO.frozen (h:KO w g t l) (i:Nat):w.frozen? ⟨g,i,none⟩=false:=by
  unfold KO at h;simp [World.frozen?,h]
theorem KO.reads (h:KO w g t l) (hl:l.length≤1000):KR w w.heap.size (.slice (some ⟨g,0,none⟩) l.length l.length) l:=
  ⟨_,_,rfl,Nat.le_refl _,by unfold maxLen;omega,fun i u hu=>⟨g,0,rfl,h.lt,by rw [Nat.zero_add,h.cell];exact hu⟩⟩
theorem KO.set_ (h:KO w g t l) (j:Nat) (x:Int) (hj:j < l.length):KO (w.setCell ⟨g,j * 2 + 1,none⟩ (.int .u64 x)) g t (l.set j ((l.getD j (0,0)).1,x)):=by
  unfold KO at h ⊢
  rw [← flat_set l j x hj]
  simp [World.setCell,Array.getElem?_modify,h]
theorem KO.far (h:KO w g t l) {p:Addr} (hp:g≠p.block) (u:Value):KO (w.setCell p u) g t l:=(Below.heap_setCell w p u g hp).trans h
theorem KO.alloc (h:KO w g t l) (o:Obj):KO (w.alloc o) g t l:=(Below.heap_alloc w o g h.lt).trans h
theorem KO.below {B:Nat} (h:KO w g t l) (hb:Below B w w') (hg:g < B):KO w' g t l:=(hb.block g hg).trans h
end
def lineS (id:Int):List Pr × List Pr:=
  if id=1 then ([(1,2)],[(2,1)]) else if id=2 then ([(2,1),(3,1)],[(4,1)]) else if id=3 then ([(4,1)],[(2,1),(5,3)]) else
  if id=4 then ([(5,10)],[(6,1),(5,1)]) else if id=5 then ([(6,1),(4,2),(1,5)],[(7,1)]) else if id=6 then ([(7,1)],[(6,1),(1,4)]) else ([],[])
def isS (id:Int):Bool:=decide (1≤id∧id≤6)
def times (n:Int) (l:List Pr):List Pr:=l.map fun p=>(p.1,p.2 * n)
def cnt (item:Int):List Pr→Int
  | []=>0
  | p :: l=>if p.1=item then p.2 else cnt item l
theorem times_len (n:Int) (l:List Pr):(times n l).length=l.length:=by simp [times]
theorem cnt_times (item n:Int):∀ l,cnt item (times n l)=cnt item l * n
  | []=>by simp [times,cnt]
  | p :: l=>by
    show (if p.1=item then p.2 * n else cnt item (times n l))=_
    rw [cnt_times item n l]
    show _=(if p.1=item then p.2 else cnt item l) * n
    split <;> rfl
theorem six {id:Int} {Q:Prop} (h1:id=1→Q) (h2:id=2→Q) (h3:id=3→Q) (h4:id=4→Q) (h5:id=5→Q) (h6:id=6→Q) (h0:isS id=false→Q):Q:=by
  by_cases a1:id=1
  · exact h1 a1
  by_cases a2:id=2
  · exact h2 a2
  by_cases a3:id=3
  · exact h3 a3
  by_cases a4:id=4
  · exact h4 a4
  by_cases a5:id=5
  · exact h5 a5
  by_cases a6:id=6
  · exact h6 a6
  exact h0 (by unfold isS;simp;omega)
theorem lineS_none {id:Int} (h:isS id=false):lineS id=([],[]):=by
  unfold isS at h;simp at h
  unfold lineS
  rw [if_neg (by omega),if_neg (by omega),if_neg (by omega),if_neg (by omega),if_neg (by omega),if_neg (by omega)]
def small (l:List Pr):Prop:=l.length≤3∧∀ p∈l,0≤p.1∧p.1≤7∧1≤p.2∧p.2≤10
theorem lineS_small (id:Int):small (lineS id).1∧small (lineS id).2:=by
  refine six (id:=id) ?_ ?_ ?_ ?_ ?_ ?_ ?_
  all_goals intro h
  all_goals first
    | (subst h;constructor <;> (constructor <;> simp [lineS]))
    | (rw [lineS_none h];constructor <;> (constructor <;> simp))
end Go.Proofs.Stk
namespace Go.Proofs.YtabckmadpdchnaaGreat.Stk
open Go.ChangeShapes Go.WideShapes Go.ChangeAt Go.RowKit Go.IntWalk Go.Proofs.Mem Go.Proofs.Stk
def rv (g1 g2:Nat) (n1 n2:Nat):Value:=.agg #[.slice (some ⟨g1,0,none⟩) n1 n1,.slice (some ⟨g2,0,none⟩) n2 n2]
def OfPost (l1 l2:List Pr) (x:Value) (w:World) (e:Ending) (w':World):Prop:=
  ∃ g1 g2,e=.returned (.tuple #[rv g1 g2 l1.length l2.length,x])∧g1≠g2∧w.heap.size≤g1∧w.heap.size≤g2 ∧
    KO w' g1 116 l1∧KO w' g2 116 l2∧Below w.heap.size w w'
theorem KO.new (w:World) (t:TypeId) (l:List Pr) (g:Nat) (hg:g=w.heap.size):KO (w.alloc (.cells (flat l).toArray t)) g t l:=by
  subst hg;exact heap_alloc_new w _
theorem of_post (w:World) (o:Obj) (l1 l2:List Pr) (x:Value) (v:Value) (hv:v=rv (w.heap.size + 1) (w.heap.size + 2) l1.length l2.length) :
    OfPost l1 l2 x w (.returned (.tuple #[v,x])) (((w.alloc o).alloc (.cells (flat l1).toArray 116)).alloc (.cells (flat l2).toArray 116)):=by
  subst hv
  refine ⟨w.heap.size + 1,w.heap.size + 2,rfl,by omega,by omega,by omega,?_,?_,?_⟩
  · exact (KO.new _ _ _ _ (by simp)).alloc _
  · exact KO.new _ _ _ _ (by simp)
  · exact (((Below.refl _ _).alloc (Nat.le_refl _) _).alloc (by simp) _).alloc (by simp;omega) _
theorem of_some (id:Int) (h:isS id=true) (w:World):Calls Tryz.prog 105 #[.int .u32 id] w (OfPost (lineS id).1 (lineS id).2 (.bool true) w):=by
  refine six (id:=id) ?_ ?_ ?_ ?_ ?_ ?_ (fun h0=>by rw [h] at h0;cases h0)
  all_goals intro e;subst e;clear h
  · go_enter Tryz.func105,Tryz.ntmps105
    go_wp2
    refine bodyPost_ret (v:=.tuple #[rv (w.heap.size + 1) (w.heap.size + 2) 1 1,.bool true]) (by simp [results,Tryz.results105,go_sem];try rfl) rfl ?_
    exact of_post w _ [(1,2)] [(2,1)] (.bool true) _ rfl
  · go_enter Tryz.func105,Tryz.ntmps105
    go_wp2
    refine bodyPost_ret (v:=.tuple #[rv (w.heap.size + 1) (w.heap.size + 2) 2 1,.bool true]) (by simp [results,Tryz.results105,go_sem];try rfl) rfl ?_
    exact of_post w _ [(2,1),(3,1)] [(4,1)] (.bool true) _ rfl
  · go_enter Tryz.func105,Tryz.ntmps105
    go_wp2
    refine bodyPost_ret (v:=.tuple #[rv (w.heap.size + 1) (w.heap.size + 2) 1 2,.bool true]) (by simp [results,Tryz.results105,go_sem];try rfl) rfl ?_
    exact of_post w _ [(4,1)] [(2,1),(5,3)] (.bool true) _ rfl
  · go_enter Tryz.func105,Tryz.ntmps105
    go_wp2
    refine bodyPost_ret (v:=.tuple #[rv (w.heap.size + 1) (w.heap.size + 2) 1 2,.bool true]) (by simp [results,Tryz.results105,go_sem];try rfl) rfl ?_
    exact of_post w _ [(5,10)] [(6,1),(5,1)] (.bool true) _ rfl
  · go_enter Tryz.func105,Tryz.ntmps105
    go_wp2
    refine bodyPost_ret (v:=.tuple #[rv (w.heap.size + 1) (w.heap.size + 2) 3 1,.bool true]) (by simp [results,Tryz.results105,go_sem];try rfl) rfl ?_
    exact of_post w _ [(6,1),(4,2),(1,5)] [(7,1)] (.bool true) _ rfl
  · go_enter Tryz.func105,Tryz.ntmps105
    go_wp2
    refine bodyPost_ret (v:=.tuple #[rv (w.heap.size + 1) (w.heap.size + 2) 1 2,.bool true]) (by simp [results,Tryz.results105,go_sem];try rfl) rfl ?_
    exact of_post w _ [(7,1)] [(6,1),(1,4)] (.bool true) _ rfl
theorem of_none (id:Int) (h:isS id=false) (w:World):Calls Tryz.prog 105 #[.int .u32 id] w fun e w'=>e=.returned (.tuple #[.agg #[.slice none 0 0,.slice none 0 0],.bool false])∧Below w.heap.size w w':=by
  unfold isS at h;simp at h
  have a1:(id == 1)=false:=by simp;omega
  have a2:(id == 2)=false:=by simp;omega
  have a3:(id == 3)=false:=by simp;omega
  have a4:(id == 4)=false:=by simp;omega
  have a5:(id == 5)=false:=by simp;omega
  have a6:(id == 6)=false:=by simp;omega
  clear h
  go_enter Tryz.func105,Tryz.ntmps105
  go_wp2
  refine bodyPost_ret (v:=.tuple #[.agg #[.slice none 0 0,.slice none 0 0],.bool false]) (by simp [results,Tryz.results105,go_sem];try rfl) rfl ?_
  exact ⟨rfl,(Below.refl _ _).alloc (Nat.le_refl _) _⟩
end Go.Proofs.YtabckmadpdchnaaGreat.Stk
namespace Go.Proofs.YtabckmadpdchnaaGreat.Stk
open Go.ChangeShapes Go.WideShapes Go.ChangeAt Go.RowKit Go.IntWalk Go.Proofs.Mem Go.Proofs.Stk
theorem ret_int {k:IntKind} {a b:Int} (h:a=b):Ending.returned (.int k a)=.returned (.int k b):=by rw [h]
theorem cnt_drop (item:Int) (l:List Pr) (j:Nat) (h:j < l.length):cnt item (l.drop j)=if (l.getD j (0,0)).1=item then (l.getD j (0,0)).2 else cnt item (l.drop (j + 1)):=by
  rw [List.drop_eq_getElem_cons h]
  simp [cnt,List.getD,List.getElem?_eq_getElem h]
def okL (l:List Pr):Prop:=l.length≤1000∧∀ p∈l,(0≤p.1∧p.1≤4294967295)∧0≤p.2∧p.2≤18446744073709551615
theorem count_any (v:Value) (l:List Pr) (item:Int) (hl:l.length≤1000) (w:World) (hv:KR w w.heap.size v l) :
    Calls Tryz.prog 110 #[v,.int .u32 item] w fun e w'=>e=.returned (.int .u64 (cnt item l))∧Below w.heap.size w w':=by
  obtain ⟨A,c,rfl,hlc,hcm⟩:=hv.form
  unfold maxLen at hcm
  go_enter Tryz.func110,Tryz.ntmps110
  go_wp2
  go_loopw [9] (fun i wr=>∃ j:Nat,j≤l.length∧i=.int .i64 j∧cnt item (l.drop j)=cnt item l∧Below w.heap.size w wr) (fun i _=>l.length - (intOf i).toNat)
  case atStart=>exact ⟨0,by omega,rfl,by simp,Below.refl _ _⟩
  case round=>
    obtain ⟨j,hj,rfl,hg,hbel⟩:=hrel
    have HG:=Lib.hid hg
    clear hg
    by_cases hlt:j < l.length
    · obtain ⟨b,off,rfl,hb,hc1,hc2⟩:=(hv.below hbel).index j hlt
      have hs:=cnt_drop item l j hlt
      generalize l.getD j (0,0)=p at *
      have HS:=Lib.hid hs
      clear hs
      by_cases he:p.1=item
      · have hd:(p.1 == item)=true:=by simpa using he
        have HE:=Lib.hid he
        clear he
        go_wp2
        go_ret
        exact ⟨ret_int (by rw [← HG.out,HS.out,if_pos HE.out]),hbel.alloc hbel.size _⟩
      · have hd:(p.1 == item)=false:=by simpa using he
        have HE:=Lib.hid he
        clear he
        go_wp2
        go_roundw
        case rel=>exact ⟨j + 1,by omega,by go_num,by rw [← HG.out,HS.out,if_neg HE.out],hbel.alloc hbel.size _⟩
        case measure=>simp [intOf];omega
    · go_wp2
      go_ret
      have:=HG.out
      rw [List.drop_eq_nil_of_le (by omega)] at this
      exact ⟨ret_int this,hbel⟩
end Go.Proofs.YtabckmadpdchnaaGreat.Stk
namespace Go.Proofs.YtabckmadpdchnaaGreat.Stk
open Go.ChangeShapes Go.WideShapes Go.ChangeAt Go.RowKit Go.IntWalk Go.Proofs.Mem Go.Proofs.Stk
def flatI (l:List Pr):List Int:=l.flatMap fun p=>[p.1,p.2]
def LinePost (l1 l2:List Pr) (w:World) (e:Ending) (w':World):Prop:=
  ∃ u v,e=.returned (.tuple #[u,v])∧IR w' w'.heap.size .u64 u (flatI l1)∧IR w' w'.heap.size .u64 v (flatI l2)∧Below w.heap.size w w'
end Go.Proofs.YtabckmadpdchnaaGreat.Stk
namespace Go.Proofs.YtabckmadpdchnaaGreat.Stk
open Go.ChangeShapes Go.WideShapes Go.ChangeAt Go.RowKit Go.IntWalk Go.Proofs.Mem Go.Proofs.Stk Money
def tto (n:Int) (l:List Pr) (i:Nat):List Pr:=times n (l.take i)++l.drop i
theorem tto_len (n:Int) (l:List Pr) (i:Nat):(tto n l i).length=l.length:=by simp [tto,times];omega
theorem tto_at (n:Int) (l:List Pr) (i:Nat) (h:i < l.length):(tto n l i).getD i (0,0)=l.getD i (0,0):=by
  have h1:(times n (l.take i)).length=i:=by simp [times];omega
  simp only [tto,List.getD,List.getElem?_append_right (show (times n (l.take i)).length≤i by omega),h1,Nat.sub_self,List.getElem?_drop,Nat.add_zero]
theorem tto_set (n:Int) (l:List Pr) (i:Nat) (h:i < l.length):(tto n l i).set i ((l.getD i (0,0)).1,(l.getD i (0,0)).2 * n)=tto n l (i + 1):=by
  have h1:(times n (l.take i)).length=i:=by simp [times];omega
  unfold tto
  rw [List.set_append_right _ _ (by omega),h1,Nat.sub_self,List.drop_eq_getElem_cons h,List.set_cons_zero,List.take_succ_eq_append_getElem h]
  simp only [times,List.map_append,List.getD,List.getElem?_eq_getElem h,Option.getD_some,List.append_assoc]
  rfl
theorem timesS_small (a n:Int) (ha:0≤a∧a≤10) (hn:0≤n∧n≤1000):timesS a n=(a * n,0):=by
  unfold timesS
  have:a * n≤10000:=by have:=Int.mul_le_mul ha.2 hn.2 hn.1 (by omega);omega
  rw [if_neg (by omega)]
def Only (g:Nat) (w w':World):Prop:=Fr (fun k=>k=g) w w'
theorem multiply_any (n:Int) (hn:0≤n∧n≤1000) (G:Nat→Nat) (L:Nat→List Pr) (g0:Nat) (w:World) (hG:∀ i k,i < 2→k < 2→i≠k→G i≠G k) (h0:∀ i,i < 2→g0≠G i) (hlt0:g0 < w.heap.size)
    (hs:∀ i,i < 2→small (L i)) (hc:∀ i,i < 2→w.cell? ⟨g0,i,none⟩=some (.slice (some ⟨G i,0,none⟩) (L i).length (L i).length)) (hk:∀ i,i < 2→KO w (G i) 116 (L i)) :
    Calls Tryz.prog 106 #[.int .u64 n,.slice (some ⟨g0,0,none⟩) 2 2] w fun e w'=>e=.returned (.int .u16 0)∧(∀ i,i < 2→KO w' (G i) 116 (times n (L i)))∧Fr (fun k=>∃ i,i < 2∧k=G i) w w':=by
  have HG:=Lib.hid hG
  have H0:=Lib.hid h0
  have HS:=Lib.hid hs
  have HC:=Lib.hid hc
  have HK:=Lib.hid hk
  clear hG h0 hs hc hk
  go_enter Tryz.func106,Tryz.ntmps106
  go_wp2
  go_loopw [12] (fun c wr=>∃ j:Nat,j≤2∧c=.int .i64 j∧Hid (∀ i,i < 2→KO wr (G i) 116 (if i < j then times n (L i) else L i))∧Fr (fun k=>∃ i,i < 2∧k=G i) w wr) (fun c _=>2 - (intOf c).toNat)
  case atStart=>exact ⟨0,by omega,rfl,Lib.hid fun i hi=>by simpa using HK.out i hi,Fr.refl _ _⟩
  case round=>
    obtain ⟨j,hj,rfl,hko,hfr⟩:=hrel
    by_cases hlt:j < 2
    · have hkj:=hko.out j hlt
      rw [if_neg (by omega)] at hkj
      have hsj:=HS.out j hlt
      have hcj:wr.cell? ⟨g0,j,none⟩=some (.slice (some ⟨G j,0,none⟩) (L j).length (L j).length):=by
        rw [← HC.out j hlt];exact hfr.cell hlt0 (by rintro ⟨i,hi,e⟩;exact H0.out i hi e)
      have hgj:=hkj.lt
      obtain ⟨g,hg⟩:∃ g,g=G j:=⟨_,rfl⟩
      obtain ⟨l,hl⟩:∃ l,l=L j:=⟨_,rfl⟩
      rw [← hg] at hkj hcj hgj
      rw [← hl] at hkj hsj hcj
      have HGj:=Lib.hid hg
      have HLj:=Lib.hid hl
      clear hg hl
      have hl3:=hsj.1
      have HSJ:=Lib.hid hsj.2
      clear hsj
      have HKJ:=Lib.hid hkj
      clear hkj
      have hdj:decide ((j:Int) < 2)=true:=by simp;omega
      obtain ⟨wo,rfl⟩:∃ wo:World,wo=wr:=⟨_,rfl⟩
      go_wp2
      go_loopw [18] (fun c wr2=>∃ i:Nat,i≤l.length∧c=.int .i64 i∧Hid (KO wr2 g 116 (tto n l i))∧Hid (Fr (fun k=>k=g) wo wr2)) (fun c _=>l.length - (intOf c).toNat)
      case atStart=>exact ⟨0,by omega,rfl,Lib.hid (by simpa [tto,times] using HKJ.out),Lib.hid (Fr.refl _ _)⟩
      case round=>
        obtain ⟨i,hi,rfl,hko2,hfr2⟩:=hrel
        by_cases hli:i < l.length
        · have hk2:=hko2.out
          have f2:=(flat_at (tto n l i) i (by rw [tto_len];exact hli)).2
          rw [tto_at n l i hli] at f2
          have hset:=fun (w':World) (h:KO w' g 116 (tto n l i))=>h.set_ i ((l.getD i (0,0)).2 * n) (by rw [tto_len];exact hli)
          rw [tto_at n l i hli,tto_set n l i hli] at hset
          have hp:l.getD i (0,0)∈l:=by simp [List.getD,List.getElem?_eq_getElem hli]
          have hq:=HSJ.out _ hp
          clear hp
          generalize l.getD i (0,0)=p at *
          obtain ⟨x,y⟩:=p
          dsimp only at hq f2 hset
          obtain ⟨q1,q2,q3,q4⟩:=hq
          have hcell:=hk2.cell (i * 2 + 1)
          rw [f2] at hcell
          have hgl:=hk2.lt
          have HSET:=Lib.hid hset
          have HK2:=Lib.hid hk2
          clear hset f2 hk2 hko2
          go_wp2_with fail
          (with_reducible refine (times_any y n ⟨by omega,by omega⟩ ⟨hn.1,by omega⟩ _).mono ?_)
          rintro e w' ⟨rfl,hbt⟩
          rw [timesS_small y n ⟨by omega,by omega⟩ hn]
          have hk3:=HK2.out.below hbt hgl
          have hcell3:=(hbt.cell (p:=⟨g,i * 2 + 1,none⟩) hgl).trans hcell
          have hfz3:=hk3.frozen (i * 2 + 1)
          have hs3:=HSET.out _ hk3
          have HS3:=Lib.hid hs3
          clear hs3 hk3
          have hfr3:=Lib.hid ((hfr2.out.below hbt).setCell (p:=⟨g,i * 2 + 1,none⟩) (.inl rfl) (.int .u64 (y * n)))
          clear hcell hbt
          go_wp2
          go_roundw
          case rel=>exact ⟨i + 1,by omega,by go_num,HS3,hfr3⟩
          case measure=>simp [intOf];omega
        · have e:i=l.length:=by omega
          subst e
          go_wp2
          go_roundw
          case rel=>
            refine ⟨j + 1,by omega,by go_num,Lib.hid fun k hk=>?_,hfr.trans' hfr2.out fun k _ e=>⟨j,hlt,by rw [e];exact HGj.out⟩⟩
            by_cases hkj:k=j
            · subst hkj
              rw [if_pos (by omega)]
              have:=hko2.out
              rw [show tto n l l.length=times n l by simp [tto]] at this
              rw [HGj.out,HLj.out] at this
              exact this
            · have h1:=hko.out k hk
              have h2:KO wr (G k) 116 (if k < j then times n (L k) else L k):=(hfr2.out.block _ h1.lt fun e=>HG.out k j hk hlt hkj (by rw [e];exact HGj.out)).trans h1
              by_cases hkl:k < j
              · rw [if_pos hkl] at h2;rw [if_pos (by omega)];exact h2
              · rw [if_neg hkl] at h2;rw [if_neg (by omega)];exact h2
          case measure=>simp [intOf];omega
    · go_wp2
      go_ret
      exact ⟨rfl,fun i hi=>by have:=hko.out i hi;rwa [if_pos (by omega)] at this,hfr⟩
end Go.Proofs.YtabckmadpdchnaaGreat.Stk
namespace Go.Proofs.YtabckmadpdchnaaGreat.Stk
open Go.ChangeShapes Go.WideShapes Go.ChangeAt Go.RowKit Go.IntWalk Go.Proofs.Mem Go.Proofs.Stk
def Rd (l1 l2:List Pr) (w:World) (v:Value):Prop:=∃ A1 c1 A2 c2,v=.agg #[.slice A1 l1.length c1,.slice A2 l2.length c2]∧KR w w.heap.size (.slice A1 l1.length c1) l1∧KR w w.heap.size (.slice A2 l2.length c2) l2
theorem Rd.below {l1 l2:List Pr} {w w':World} {v:Value} (h:Rd l1 l2 w v) (hb:Below w.heap.size w w'):Rd l1 l2 w' v:=by
  obtain ⟨A1,c1,A2,c2,e,h1,h2⟩:=h
  exact ⟨A1,c1,A2,c2,e,(h1.below hb).more hb.size,(h2.below hb).more hb.size⟩
def RdPost (l1 l2:List Pr) (x:Value) (w:World) (e:Ending) (w':World):Prop:=∃ v,e=.returned (.tuple #[v,x])∧Rd l1 l2 w' v∧Below w.heap.size w w'
theorem OfPost.rd {l1 l2:List Pr} {x:Value} {w w':World} {e:Ending} (h:OfPost l1 l2 x w e w') (h1:l1.length≤1000) (h2:l2.length≤1000):RdPost l1 l2 x w e w':=by
  obtain ⟨g1,g2,rfl,_,_,_,k1,k2,hb⟩:=h
  exact ⟨_,rfl,⟨_,_,_,_,rfl,k1.reads h1,k2.reads h2⟩,hb⟩
theorem Rd.none (w:World):Rd [] [] w (.agg #[.slice none 0 0,.slice none 0 0]):=⟨_,_,_,_,rfl,KR.nil _ _,KR.nil _ _⟩
theorem two_kept {w w':World} {x y:Value} {t:TypeId} (h:Below (w.heap.size + 1) (w.alloc (.cells #[x,y] t)) w') :
    w'.cell? ⟨w.heap.size,0,none⟩=some x∧w'.cell? ⟨w.heap.size,1,none⟩=some y∧w'.frozen? ⟨w.heap.size,0,none⟩=false∧w'.frozen? ⟨w.heap.size,1,none⟩=false∧w.heap.size < w'.heap.size:=by
  refine ⟨(h.cell (p:=⟨w.heap.size,0,none⟩) (by simp)).trans (cell_new w _ _ 0),(h.cell (p:=⟨w.heap.size,1,none⟩) (by simp)).trans (cell_new w _ _ 1),(h.frozen (p:=⟨w.heap.size,0,none⟩) (by simp)).trans ?_,(h.frozen (p:=⟨w.heap.size,1,none⟩) (by simp)).trans ?_,by have:=h.size;simp at this;omega⟩
  · simp only [World.frozen?,show (w.alloc (.cells #[x,y] t)).heap[w.heap.size]?=_ from heap_alloc_new w _];rfl
  · simp only [World.frozen?,show (w.alloc (.cells #[x,y] t)).heap[w.heap.size]?=_ from heap_alloc_new w _];rfl
end Go.Proofs.YtabckmadpdchnaaGreat.Stk
namespace Go.Proofs.YtabckmadpdchnaaGreat.Stk
open Go.ChangeShapes Go.WideShapes Go.ChangeAt Go.RowKit Go.IntWalk Go.Proofs.Mem Go.Proofs.Stk
def errN (id n:Int):Int:=if isS id=false then 40 else if n < 1∨1000 < n then 1 else 0
def inN (id n:Int):List Pr:=if errN id n=0 then times n (lineS id).1 else []
def outN (id n:Int):List Pr:=if errN id n=0 then times n (lineS id).2 else []
theorem needs_bad (id n:Int) (h:isS id=true) (hr:n < 1∨1000 < n) (w:World):Calls Tryz.prog 88 #[.int .u32 id,.int .u64 n] w (RdPost [] [] (.int .u16 1) w):=by
  have HO:=Lib.hid (fun W=>of_some id h W)
  clear h
  by_cases h1:n < 1
  · have hd:decide (n < 1)=true:=decide_eq_true h1
    clear hr
    go_enter Tryz.func88,Tryz.ntmps88
    go_wp2_with fail
    (with_reducible refine (HO.out _).mono ?_)
    rintro e w1 ⟨g1,g2,rfl,hne,hg1,hg2,k1,k2,hb1⟩
    unfold rv
    have zg:w.heap.size < w1.heap.size:=by have:=hb1.size;simp at this;omega
    obtain ⟨c0,c1,f0,f1,z3⟩:=two_kept (w:=w) (by simpa using hb1)
    have hbw:Below w.heap.size w w1:=((Below.refl _ _).alloc (Nat.le_refl _) _).trans (hb1.mono (by simp))
    clear hb1 k1 k2 hg1 hg2 hne
    go_wp2
    refine bodyPost_ret (v:=.tuple #[.agg #[.slice none 0 0,.slice none 0 0],.int .u16 1]) (by simp [results,Tryz.results88,go_sem,c0,c1,zg];try rfl) rfl ?_
    exact ⟨_,rfl,Rd.none _,((hbw.setCell (Nat.le_refl _) _).setCell (Nat.le_refl _) _).alloc (by have:=hbw.size;simpa [World.setCell] using this) _⟩
  · have hd:decide (n < 1)=false:=decide_eq_false h1
    have hd2:decide (1000 < n)=true:=by simp;omega
    clear hr
    go_enter Tryz.func88,Tryz.ntmps88
    go_wp2_with fail
    (with_reducible refine (HO.out _).mono ?_)
    rintro e w1 ⟨g1,g2,rfl,hne,hg1,hg2,k1,k2,hb1⟩
    unfold rv
    have zg:w.heap.size < w1.heap.size:=by have:=hb1.size;simp at this;omega
    obtain ⟨c0,c1,f0,f1,z3⟩:=two_kept (w:=w) (by simpa using hb1)
    have hbw:Below w.heap.size w w1:=((Below.refl _ _).alloc (Nat.le_refl _) _).trans (hb1.mono (by simp))
    clear hb1 k1 k2 hg1 hg2 hne
    go_wp2
    refine bodyPost_ret (v:=.tuple #[.agg #[.slice none 0 0,.slice none 0 0],.int .u16 1]) (by simp [results,Tryz.results88,go_sem,c0,c1,zg];try rfl) rfl ?_
    exact ⟨_,rfl,Rd.none _,((hbw.setCell (Nat.le_refl _) _).setCell (Nat.le_refl _) _).alloc (by have:=hbw.size;simpa [World.setCell] using this) _⟩
theorem needs_none (id n:Int) (h:isS id=false) (w:World):Calls Tryz.prog 88 #[.int .u32 id,.int .u64 n] w (RdPost [] [] (.int .u16 40) w):=by
  have HO:=Lib.hid (fun W=>of_none id h W)
  clear h
  go_enter Tryz.func88,Tryz.ntmps88
  go_wp2_with fail
  (with_reducible refine (HO.out _).mono ?_)
  rintro e w1 ⟨rfl,hb1⟩
  have zg:w.heap.size < w1.heap.size:=by have:=hb1.size;simp at this;omega
  obtain ⟨c0,c1,f0,f1,z3⟩:=two_kept (w:=w) (by simpa using hb1)
  have hbw:Below w.heap.size w w1:=((Below.refl _ _).alloc (Nat.le_refl _) _).trans (hb1.mono (by simp))
  clear hb1
  go_wp2
  refine bodyPost_ret (v:=.tuple #[.agg #[.slice none 0 0,.slice none 0 0],.int .u16 40]) (by simp [results,Tryz.results88,go_sem,c0,c1,zg];try rfl) rfl ?_
  exact ⟨_,rfl,Rd.none _,((hbw.setCell (Nat.le_refl _) _).setCell (Nat.le_refl _) _).alloc (by have:=hbw.size;simpa [World.setCell] using this) _⟩
theorem needs_some (id n:Int) (h:isS id=true) (h1:1≤n) (h2:n≤1000) (w:World) :
    Calls Tryz.prog 88 #[.int .u32 id,.int .u64 n] w (OfPost (times n (lineS id).1) (times n (lineS id).2) (.int .u16 0) w):=by
  obtain ⟨s1,s2⟩:=lineS_small id
  have ho:=fun W=>of_some id h W
  generalize (lineS id).1=l1 at *
  generalize (lineS id).2=l2 at *
  have HO:=Lib.hid ho
  clear h ho
  have hd:decide (n < 1)=false:=by simp;omega
  have hd2:decide (1000 < n)=false:=by simp;omega
  go_enter Tryz.func88,Tryz.ntmps88
  go_wp2_with fail
  (with_reducible refine (HO.out _).mono ?_)
  rintro e w1 ⟨g1,g2,rfl,hne,hg1,hg2,k1,k2,hb1⟩
  unfold rv
  have zg:w.heap.size < w1.heap.size:=by have:=hb1.size;simp at this;omega
  obtain ⟨c0,c1,f0,f1,z3⟩:=two_kept (w:=w) (by simpa using hb1)
  have hbw:Below w.heap.size w w1:=((Below.refl _ _).alloc (Nat.le_refl _) _).trans (hb1.mono (by simp))
  have y1:=k1.lt
  have y2:=k2.lt
  simp at hg1 hg2
  have HN:=Lib.hid hne
  have K1:=Lib.hid k1
  have K2:=Lib.hid k2
  clear hb1 hne k1 k2
  go_wp2_with fail
  (with_reducible refine (multiply_any n ⟨by omega,h2⟩ (fun i=>if i=0 then g1 else g2) (fun i=>if i=0 then l1 else l2) (w1.heap.size + 1) _ ?a1 ?a2 ?a3 ?a4 ?a5 ?a6).mono ?_)
  case a1=>intro i k hi hk hik;have:=HN.out;(try dsimp only);split <;> split <;> first | exact this | exact Ne.symm this | omega
  case a2=>intro i hi;(try dsimp only);split <;> omega
  case a3=>simp
  case a4=>intro i hi;(try dsimp only);split <;> assumption
  case a5=>
    intro i hi
    rcases (show i=0∨i=1 by omega) with rfl | rfl <;> simp
  case a6=>intro i hi;(try dsimp only);split <;> first | exact (K1.out.alloc _).alloc _ | exact (K2.out.alloc _).alloc _
  rintro e w4 ⟨rfl,hko,hfr⟩
  have q1:=hko 0 (by omega)
  have q2:=hko 1 (by omega)
  rw [if_pos rfl,if_pos rfl] at q1
  rw [if_neg (by omega),if_neg (by omega)] at q2
  have hne0:∀ k,k=w.heap.size∨k=w1.heap.size→¬ ∃ i,i < 2∧k=(if i=0 then g1 else g2):=by
    rintro k hk ⟨i,hi,e⟩
    split at e <;> omega
  have r0:=hfr.cell (p:=⟨w1.heap.size,0,none⟩) (by simp;omega) (hne0 _ (.inr rfl))
  have r1:=hfr.cell (p:=⟨w1.heap.size,1,none⟩) (by simp;omega) (hne0 _ (.inr rfl))
  have o0:=hfr.cell (p:=⟨w.heap.size,0,none⟩) (by simp;omega) (hne0 _ (.inl rfl))
  have o1:=hfr.cell (p:=⟨w.heap.size,1,none⟩) (by simp;omega) (hne0 _ (.inl rfl))
  have fr0:w4.frozen? ⟨w.heap.size,0,none⟩=false:=by
    have:=hfr.block w.heap.size (by simp;omega) (hne0 _ (.inl rfl))
    rw [show w4.frozen? ⟨w.heap.size,0,none⟩=_ from World.frozen?_of_block this]
    simpa [go_sem,zg] using f0
  have fr1:w4.frozen? ⟨w.heap.size,1,none⟩=false:=by
    have:=hfr.block w.heap.size (by simp;omega) (hne0 _ (.inl rfl))
    rw [show w4.frozen? ⟨w.heap.size,1,none⟩=_ from World.frozen?_of_block this]
    simpa [go_sem,zg] using f1
  simp [go_sem,zg,c0,c1] at r0 r1 o0 o1
  have z4:=hfr.size
  simp at z4
  have hbel:Below w.heap.size w w4:=((hbw.alloc hbw.size _).alloc (by simp;omega) _).trans (hfr.to_below (by rintro k ⟨i,hi,e⟩;split at e <;> omega) (by simp;omega))
  clear hne0 hfr hko
  go_wp2
  refine bodyPost_ret (v:=.tuple #[.agg #[.slice (some ⟨g1,0,none⟩) l1.length l1.length,.slice (some ⟨g2,0,none⟩) l2.length l2.length],.int .u16 0]) (by simp [results,Tryz.results88,go_sem,o0,o1];try rfl) rfl ?_
  exact ⟨g1,g2,by rw [times_len,times_len];rfl,HN.out,by omega,by omega,(q1.far (p:=⟨w.heap.size,0,none⟩) (by simp;omega) (.slice (some ⟨g1,0,none⟩) l1.length l1.length)).far (p:=⟨w.heap.size,1,none⟩) (by simp;omega) (.slice (some ⟨g2,0,none⟩) l2.length l2.length),(q2.far (p:=⟨w.heap.size,0,none⟩) (by simp;omega) (.slice (some ⟨g1,0,none⟩) l1.length l1.length)).far (p:=⟨w.heap.size,1,none⟩) (by simp;omega) (.slice (some ⟨g2,0,none⟩) l2.length l2.length),(hbel.setCell (Nat.le_refl _) _).setCell (Nat.le_refl _) _⟩
theorem needs_any (id n:Int) (hn:0≤n∧n≤18446744073709551615) (w:World):Calls Tryz.prog 88 #[.int .u32 id,.int .u64 n] w (RdPost (inN id n) (outN id n) (.int .u16 (errN id n)) w):=by
  by_cases h:isS id=true
  · by_cases hr:n < 1∨1000 < n
    · have he:errN id n=1:=by unfold errN;rw [h];simp [hr]
      have:=needs_bad id n h hr w
      rw [show inN id n=[] by unfold inN;rw [he];rfl,show outN id n=[] by unfold outN;rw [he];rfl,he];exact this
    · have he:errN id n=0:=by unfold errN;rw [h];simp [hr]
      have:=(needs_some id n h (by omega) (by omega) w).mono fun e w' h'=>h'.rd (by rw [times_len];have:=(lineS_small id).1.1;omega) (by rw [times_len];have:=(lineS_small id).2.1;omega)
      rw [show inN id n=times n (lineS id).1 by unfold inN;rw [he];rfl,show outN id n=times n (lineS id).2 by unfold outN;rw [he];rfl,he];exact this
  · have h':isS id=false:=by simpa using h
    have he:errN id n=40:=by unfold errN;rw [h'];rfl
    have:=needs_none id n h' w
    rw [show inN id n=[] by unfold inN;rw [he];rfl,show outN id n=[] by unfold outN;rw [he];rfl,he];exact this
end Go.Proofs.YtabckmadpdchnaaGreat.Stk
namespace Go.Proofs.YtabckmadpdchnaaGreat.Stk
open Go.ChangeShapes Go.WideShapes Go.ChangeAt Go.RowKit Go.IntWalk Go.Proofs.Mem Go.Proofs.Stk
theorem ret_pair {a b:Int} {k k':IntKind} {x y:Int} (h:a=x) (h':b=y):Ending.returned (.tuple #[.int k a,.int k' b])=.returned (.tuple #[.int k x,.int k' y]):=by rw [h,h']
theorem inN_len (id n:Int):(inN id n).length≤1000∧(outN id n).length≤1000:=by
  obtain ⟨s1,s2⟩:=lineS_small id
  have:=s1.1;have:=s2.1
  unfold inN outN;constructor <;> split <;> simp [times_len] <;> omega
theorem inN_err (id n:Int) (h:errN id n≠0):inN id n=[]∧outN id n=[]:=by
  unfold inN outN;rw [if_neg h,if_neg h];exact ⟨rfl,rfl⟩
end Go.Proofs.YtabckmadpdchnaaGreat.Stk
namespace Go.Proofs.YtabckmadpdchnaaGreat.Stk
open Go.ChangeShapes Go.WideShapes Go.ChangeAt Go.RowKit Go.IntWalk Go.Proofs.Mem Go.Proofs.Stk
attribute [local go_sem ↓] Go.wp_at_zero Go.wp_at_succ
theorem change_any (id n item:Int) (hn:0≤n∧n≤18446744073709551615) (w:World):Calls Tryz.prog 90 #[.int .u32 id,.int .u64 n,.int .u32 item] w fun e w'=>
    e=.returned (.tuple #[.int .u64 (cnt item (inN id n)),.int .u64 (cnt item (outN id n))])∧Below w.heap.size w w':=by
  have HO:=Lib.hid (fun W=>needs_any id n hn W)
  obtain ⟨i1,i2⟩:=inN_len id n
  by_cases he:errN id n=0
  · have hd:(errN id n != 0)=false:=by simpa using he
    generalize errN id n=err at *
    generalize inN id n=l1 at *
    generalize outN id n=l2 at *
    clear he
    go_enter Tryz.func90,Tryz.ntmps90
    go_wp2_with fail
    (with_reducible refine (HO.out _).mono ?_)
    rintro e w1 ⟨v,rfl,⟨A1,c1,A2,c2,rfl,k1,k2⟩,hb1⟩
    have k1':=fun (W:World) (h:Below w1.heap.size w1 W)=>(k1.below h).more h.size
    have k2':=fun (W:World) (h:Below w1.heap.size w1 W)=>(k2.below h).more h.size
    have K1:=Lib.hid k1'
    have K2:=Lib.hid k2'
    clear k1 k2 k1' k2'
    go_wp2
    go_region_held3 (fun w'=>w'.cell? ⟨w1.heap.size,0,none⟩=some (.slice A1 l1.length c1)∧w'.cell? ⟨w1.heap.size,1,none⟩=some (.slice A2 l2.length c2)∧w1.heap.size < w'.heap.size∧Below w1.heap.size w1 w')
      (first
        | (refine ⟨?_,?_,?_,?_⟩ <;> first | assumption | simp | exact (((Below.refl _ _).alloc (Nat.le_refl _) _).drew))
        | (go_split_ands;exact ⟨(hbc.cell (p:=⟨w1.heap.size,0,none⟩) (by assumption)).trans (by assumption),(hbc.cell (p:=⟨w1.heap.size,1,none⟩) (by assumption)).trans (by assumption),Nat.lt_of_lt_of_le (by assumption) hbc.size,Below.trans (by assumption) (hbc.mono (Nat.le_of_lt (by assumption)))⟩))
      ((first
        | (go_at_call 110;(with_reducible refine (count_any (.slice A1 l1.length c1) l1 item i1 _ (K1.out _ (by go_split_ands;assumption))).mono ?_);rintro e w' ⟨rfl,hbc⟩)
        | (go_at_call 110;(with_reducible refine (count_any (.slice A2 l2.length c2) l2 item i2 _ (K2.out _ (by go_split_ands;assumption))).mono ?_);rintro e w' ⟨rfl,hbc⟩)))
    rename_i hH
    obtain ⟨_,_,_,hbz⟩:=hH
    go_wp2
    go_ret2
    exact ⟨rfl,hb1.trans (hbz.mono hb1.size)⟩
  · have hd:(errN id n != 0)=true:=by simpa using he
    obtain ⟨e1,e2⟩:=inN_err id n he
    rw [e1,e2] at HO ⊢
    generalize errN id n=err at *
    clear he i1 i2 e1 e2
    go_enter Tryz.func90,Tryz.ntmps90
    go_wp2_with fail
    (with_reducible refine (HO.out _).mono ?_)
    rintro e w1 ⟨v,rfl,⟨A1,c1,A2,c2,rfl,k1,k2⟩,hb1⟩
    clear k1 k2
    go_wp2
    go_ret2
    exact ⟨rfl,hb1.alloc hb1.size _⟩
end Go.Proofs.YtabckmadpdchnaaGreat.Stk
namespace Go.Proofs.YtabckmadpdchnaaGreat.Rule
def craftItems (id:Int):List Int:=
  if id=1 then [1,2] else if id=2 then [2,3,4] else if id=3 then [2,4,5] else if id=4 then [5,6] else if id=5 then [1,4,6,7] else if id=6 then [1,6,7] else []
def oLooks (wh:Int):List Int→Om (List Int)
  | []=>pure []
  | n :: r=>do
    let t ← oLook 3 wh n
    let l ← oLooks wh r
    return t.A :: l
def oLesses (f:Int→Int):List Int→List Int→Om (List Int)
  | n :: r,A :: l=>do
    let x ← oLess A (f n)
    let m ← oLesses f r l
    return x :: m
  | _,_=>pure []
def oMores (f:Int→Int):List Int→List Int→Om (List Int)
  | n :: r,A :: l=>do
    let x ← oMore A (f n)
    let m ← oMores f r l
    return x :: m
  | _,_=>pure []
def oAmounts (wh:Int):List Int→List Int→Om Unit
  | n :: r,A :: l=>do
    oAmount 3 wh n A
    oAmounts wh r l
  | _,_=>pure ()
def oCraft (q:Ot):Om Rp:=do
  oDeny (decide (Stk.errN q.wt q.n≠0)) (Stk.errN q.wt q.n)
  let _ ← oThere 1 q.wh 0
  let l ← oLooks q.wh (craftItems q.wt)
  let m ← oLesses (fun n=>Stk.cnt n (Stk.inN q.wt q.n)) (craftItems q.wt) l
  let x ← oMores (fun n=>Stk.cnt n (Stk.outN q.wt q.n)) (craftItems q.wt) m
  oAmounts q.wh (craftItems q.wt) x
  return ⟨q.n,0,0⟩
theorem craftItems_len (id:Int):(craftItems id).length≤4:=by
  unfold craftItems
  repeat' split
  all_goals decide
theorem oLooks_deep (wh:Int):∀ (l:List Int) (n:Nat),l.length≤n→Om.deep n (oLooks wh l)
  | [],n,_=>Om.deep_pure _
  | a :: r,0,h=>by simp at h
  | a :: r,n + 1,h=>Om.deep_b1 (Om.deep_look _ _ _) (fun _=>Om.deep_bind n 0 (oLooks_deep wh r n (by simpa using h)) (fun _=>Om.deep_pure _) (by omega))
theorem oLesses_deep (f:Int→Int):∀ (l m:List Int),Om.deep 0 (oLesses f l m)
  | [],_=>by unfold oLesses;exact Om.deep_pure _
  | _ :: _,[]=>by unfold oLesses;exact Om.deep_pure _
  | n :: r,A :: l=>by unfold oLesses;exact Om.deep_b0 (Om.deep_less _ _) (fun _=>Om.deep_b0 (oLesses_deep f r l) (fun _=>Om.deep_pure _))
theorem oMores_deep (f:Int→Int):∀ (l m:List Int),Om.deep 0 (oMores f l m)
  | [],_=>by unfold oMores;exact Om.deep_pure _
  | _ :: _,[]=>by unfold oMores;exact Om.deep_pure _
  | n :: r,A :: l=>by unfold oMores;exact Om.deep_b0 (Om.deep_more _ _) (fun _=>Om.deep_b0 (oMores_deep f r l) (fun _=>Om.deep_pure _))
theorem oAmounts_deep (wh:Int):∀ (l m:List Int),Om.deep 0 (oAmounts wh l m)
  | [],_=>by unfold oAmounts;exact Om.deep_pure _
  | _ :: _,[]=>by unfold oAmounts;exact Om.deep_pure _
  | n :: r,A :: l=>by unfold oAmounts;exact Om.deep_b0 (Om.deep_amount _ _ _ _) (fun _=>oAmounts_deep wh r l)
theorem oCraft_deep (q:Ot):Om.deep 8 (oCraft q):=by
  unfold oCraft
  refine Om.deep_b0 (Om.deep_deny _ _) (fun _=>Om.deep_b1 (Om.deep_there _ _ _) (fun _=>Om.deep_bind 4 3 (oLooks_deep _ _ 4 (craftItems_len _)) (fun _=>?_) (by omega)))
  exact Om.deep_b0 (oLesses_deep _ _ _) (fun _=>Om.deep_b0 (oMores_deep _ _ _) (fun _=>Om.deep_b0 (oAmounts_deep _ _ _) (fun _=>Om.deep_pure _)))
def oDo (q:Ot):Om Rp:=
  if q.kd=1 then oOpen q else if q.kd=2∨q.kd=3 then oMint q else if q.kd=4∨q.kd=5 then oCreate q else if q.kd=6∨q.kd=7 then oDeposit q else if q.kd=8 then oPay q else if q.kd=9 then oGive q else if q.kd=10 then oCraft q
  else if q.kd=11 then oTrade q else if q.kd=12 then oOffer q else if q.kd=13 then oAgree q else if q.kd=14 then oBreak q else if q.kd=15 then oSell q else if q.kd=16 then oBid q else if q.kd=17 then oClose q else if q.kd=18 then oLookAt q else oErr 1
end Go.Proofs.YtabckmadpdchnaaGreat.Rule
namespace Go.Proofs.YtabckmadpdchnaaGreat.Rule
def oAll (q:Ot):Om Rp:=match ckE q with
  | some e=>oErr e
  | none=>oDo q
def nOut:Re (Rp × List Pu)→Int × Int × Int × Bool
  | .miss k a b=>(k,a,b,true)
  | _=>(0,0,0,false)
def dOut:Re (Rp × List Pu)→List Pu × Int × Rp
  | .miss _ _ _=>([],1,⟨0,0,0⟩)
  | .err e=>([],e,⟨0,0,0⟩)
  | .ok y _=>(y.2,0,y.1)
abbrev opR (q:Ot) (seen:List Ce):Re (Rp × List Pu):=runOm seen (oAll q) 0 []
theorem Om.ite_deep {c:Prop} [Decidable c] {n:Nat} {x y:Om Rp} (hx:c→Om.deep n x) (hy:¬ c→Om.deep n y):Om.deep n (if c then x else y):=by
  split
  · exact hx (by assumption)
  · exact hy (by assumption)
theorem oDo_deep (q:Ot):Om.deep 12 (oDo q):=by
  unfold oDo
  repeat' (with_reducible refine Om.ite_deep (fun _=>?_) (fun _=>?_))
  all_goals first
    | exact Om.deep_err _
    | exact Om.deep_mono (oOpen_deep q) (by omega)
    | exact Om.deep_mono (oMint_deep q) (by omega)
    | exact Om.deep_mono (oCreate_deep q) (by omega)
    | exact Om.deep_mono (oDeposit_deep q) (by omega)
    | exact Om.deep_mono (oCraft_deep q) (by omega)
    | exact Om.deep_mono (oLookAt_deep q) (by omega)
    | exact oPay_deep q
    | exact oGive_deep q
    | exact oTrade_deep q
    | exact oOffer_deep q
    | exact oAgree_deep q
    | exact oBreak_deep q
    | exact oSell_deep q
    | exact oBid_deep q
    | exact oClose_deep q
theorem oAll_deep (q:Ot):Om.deep 12 (oAll q):=by
  unfold oAll
  split
  · exact Om.deep_err _
  · exact oDo_deep q
theorem Tr.deep_run {α:Type} (seen:List Ce) (k a b:Int):∀ (t:Tr α) (n i:Nat),t.deep n→runTr seen t i=.miss k a b→seen.length < i + n
  | .ret x,_,_,_,h=>by simp [runTr] at h
  | .err e,_,_,_,h=>by simp [runTr] at h
  | .look _ _ _ f,0,_,hd,_=>by unfold Tr.deep at hd;exact hd.elim
  | .look _ _ _ f,n + 1,i,hd,h=>by
    simp only [Tr.deep] at hd
    simp only [runTr] at h
    cases e:seen[i]? with
    | none=>
      have:=List.getElem?_eq_none_iff.1 e
      omega
    | some c=>
      rw [e] at h
      have:=Tr.deep_run seen k a b _ n (i + 1) (hd c.vA c.vB c.is) h
      omega
theorem miss_short {q:Ot} {seen:List Ce} {k a b:Int} (h:opR q seen=.miss k a b):seen.length < 12:=by
  have:=Tr.deep_run seen k a b _ 12 0 (oAll_deep q []) h
  omega
end Go.Proofs.YtabckmadpdchnaaGreat.Rule
namespace Go.Proofs.YtabckmadpdchnaaGreat.Rule
structure Ky where
  k:Int
  a:Int
  b:Int
instance:DecidableEq Ky:=fun x y=>decidable_of_iff (x.k=y.k∧x.a=y.a∧x.b=y.b) (by
  obtain ⟨a,b,c⟩:=x
  obtain ⟨a',b',c'⟩:=y
  simp)
abbrev Wm:=Ky→Option (Int × Int)
def see (f:Wm) (k a b:Int):Ce:=⟨k,a,b,((f ⟨k,a,b⟩).getD (0,0)).1,((f ⟨k,a,b⟩).getD (0,0)).2,(f ⟨k,a,b⟩).isSome⟩
def evTr {α:Type} (f:Wm):Tr α→Re α
  | .ret x=>.ok x 0
  | .err e=>.err e
  | .look k a b n=>evTr f (n (see f k a b).vA (see f k a b).vB (see f k a b).is)
def Agr {α:Type} (f:Wm) (seen:List Ce):Tr α→Nat→Prop
  | .ret _,_=>True
  | .err _,_=>True
  | .look k a b n,i=>match seen[i]? with
    | none=>True
    | some c=>c=see f k a b∧Agr f seen (n c.vA c.vB c.is) (i + 1)
theorem agr_end {α:Type} (f:Wm) (seen:List Ce):∀ (t:Tr α) (i:Nat),seen.length≤i→Agr f seen t i
  | .ret _,_,_=>trivial
  | .err _,_,_=>trivial
  | .look k a b n,i,h=>by
    unfold Agr
    rw [List.getElem?_eq_none h]
    trivial
theorem agr_push {α:Type} (f:Wm) (seen:List Ce) (k a b:Int):∀ (t:Tr α) (i:Nat),i≤seen.length→Agr f seen t i→runTr seen t i=.miss k a b→Agr f (seen++[see f k a b]) t i
  | .ret _,_,_,_,_=>trivial
  | .err _,_,_,_,_=>trivial
  | .look k' a' b' n,i,hi,h,hr=>by
    unfold Agr at h ⊢
    unfold runTr at hr
    cases e:seen[i]? with
    | none=>
      rw [e] at hr
      injection hr with h1 h2 h3
      subst h1 h2 h3
      obtain rfl:i=seen.length:=by have:=List.getElem?_eq_none_iff.1 e;omega
      rw [List.getElem?_append_right (Nat.le_refl _),Nat.sub_self]
      exact ⟨rfl,agr_end _ _ _ _ (by simp)⟩
    | some c=>
      rw [e] at hr h
      have hi:i < seen.length:=(List.getElem?_eq_some_iff.1 e).1
      rw [List.getElem?_append_left hi,e]
      exact ⟨h.1,agr_push f seen k a b _ (i + 1) hi h.2 hr⟩
def flatR {α:Type}:Re α→Re α
  | .ok x _=>.ok x 0
  | r=>r
theorem agr_done {α:Type} (f:Wm) (seen:List Ce):∀ (t:Tr α) (i:Nat),Agr f seen t i→(∀ k a b,runTr seen t i≠.miss k a b)→flatR (runTr seen t i)=evTr f t
  | .ret _,_,_,_=>rfl
  | .err _,_,_,_=>rfl
  | .look k a b n,i,h,hr=>by
    unfold Agr at h
    unfold runTr at hr ⊢
    cases e:seen[i]? with
    | none=>rw [e] at hr;exact absurd rfl (hr k a b)
    | some c=>
      rw [e] at hr h
      obtain ⟨rfl,h2⟩:=h
      exact agr_done f seen _ (i + 1) h2 hr
def evD (f:Wm) (q:Ot):List Pu × Int × Rp:=dOut (evTr f (oAll q []))
theorem dOut_flatR (r:Re (Rp × List Pu)):dOut (flatR r)=dOut r:=by cases r <;> rfl
theorem agr_out {f:Wm} {q:Ot} {seen:List Ce} (h:Agr f seen (oAll q []) 0) (hr:∀ k a b,opR q seen≠.miss k a b):dOut (opR q seen)=evD f q:=by
  unfold evD
  rw [← agr_done f seen _ 0 h hr,dOut_flatR]
  rfl
def putF (f:Wm) (x:Pu):Wm:=fun y=>if y=⟨x.k,x.a,x.b⟩ then (if x.gone then none else some (x.A,x.B)) else f y
def putsF (f:Wm) (l:List Pu):Wm:=l.foldl putF f
def opF (f:Wm) (q:Ot):Wm:=putsF f (evD f q).1
def kok (k a b:Int):Prop:=(0≤k∧k≤255)∧(0≤a∧a≤4294967295)∧0≤b∧b≤4294967295
def u64 (x:Int):Prop:=0≤x∧x≤18446744073709551615
theorem u64_0:u64 0:=by unfold u64;omega
structure Pu.fit (x:Pu):Prop where
  key:kok x.k x.a x.b
  A:u64 x.A
  B:u64 x.B
def Tr.ends {α:Type} (P:α→Prop):Tr α→Prop
  | .ret x=>P x
  | .err _=>True
  | .look k a b n=>kok k a b∧∀ A B is,u64 A→u64 B→(n A B is).ends P
theorem Tr.ends_bind {α β:Type} {P:α→Prop} {Q:β→Prop} (f:α→Tr β) (hf:∀ x,P x→(f x).ends Q):∀ t:Tr α,t.ends P→(t.bind f).ends Q
  | .ret x,h=>hf x h
  | .err _,_=>trivial
  | .look _ _ _ n,h=>⟨h.1,fun A B is hA hB=>Tr.ends_bind f hf (n A B is) (h.2 A B is hA hB)⟩
theorem Tr.ends_mono {α:Type} {P Q:α→Prop} (hPQ:∀ x,P x→Q x):∀ t:Tr α,t.ends P→t.ends Q
  | .ret x,h=>hPQ x h
  | .err _,_=>trivial
  | .look _ _ _ n,h=>⟨h.1,fun A B is hA hB=>Tr.ends_mono hPQ (n A B is) (h.2 A B is hA hB)⟩
def Wok (f:Wm):Prop:=∀ k v,f k=some v→u64 v.1∧u64 v.2
theorem see_ok {f:Wm} (h:Wok f) (k a b:Int):(see f k a b).Ok:=by
  unfold see
  cases e:f ⟨k,a,b⟩ with
  | none=>exact ⟨u64_0,u64_0⟩
  | some v=>exact ⟨(h _ v e).1,(h _ v e).2⟩
theorem Ce.Ok.v {c:Ce} (h:c.Ok):u64 c.vA∧u64 c.vB:=by
  unfold Ce.vA Ce.vB
  cases c.is
  · exact ⟨u64_0,u64_0⟩
  · exact ⟨h.A,h.B⟩
theorem Tr.ends_ev {α:Type} {P:α→Prop} {f:Wm} (hf:Wok f):∀ (t:Tr α) {x:α} {j:Nat},t.ends P→evTr f t=.ok x j→P x
  | .ret y,x,j,h,e=>by
    unfold evTr at e
    injection e with e _
    subst e
    exact h
  | .err _,_,_,_,e=>by unfold evTr at e;cases e
  | .look k a b n,x,j,h,e=>by
    unfold evTr at e
    have hv:=(see_ok hf k a b).v
    exact Tr.ends_ev hf _ (h.2 _ _ _ hv.1 hv.2) e
theorem Tr.ends_miss {α:Type} {P:α→Prop} {seen:List Ce} (hs:∀ c∈seen,c.Ok) {k a b:Int}:∀ (t:Tr α) (i:Nat),t.ends P→runTr seen t i=.miss k a b→kok k a b
  | .ret _,_,_,e=>by cases e
  | .err _,_,_,e=>by cases e
  | .look k' a' b' n,i,h,e=>by
    unfold runTr at e
    cases hi:seen[i]? with
    | none=>
      rw [hi] at e
      injection e with h1 h2 h3
      subst h1 h2 h3
      exact h.1
    | some c=>
      rw [hi] at e
      have hv:=(hs c (List.mem_of_getElem? hi)).v
      exact Tr.ends_miss hs _ (i + 1) (h.2 _ _ _ hv.1 hv.2) e
def Om.fit {α:Type} (n:Nat) (m:Om α) (R:α→Prop):Prop:=∀ l,(∀ x∈l,Pu.fit x)→(m l).ends fun y=>R y.1∧y.2.length≤l.length + n∧∀ x∈y.2,Pu.fit x
section
variable {α β:Type} {n:Nat} {Q:α→Prop} {R:β→Prop}
theorem Om.fit_bind {m:Om α} {f:α→Om β} (a b:Nat) (hm:Om.fit a m Q) (hf:∀ x,Q x→Om.fit b (f x) R) (hn:a + b≤n):Om.fit n (m >>= f) R:=fun l hl=>
  Tr.ends_bind (fun y:α × List Pu=>f y.1 y.2) (fun y hy=>Tr.ends_mono (fun z hz=>⟨hz.1,by have:=hz.2.1;have:=hy.2.1;omega,hz.2.2⟩) _ (hf y.1 hy.1 y.2 hy.2.2)) (m l) (hm l hl)
theorem Om.fit_b0 {m:Om α} {f:α→Om β} (hm:Om.fit 0 m Q) (hf:∀ x,Q x→Om.fit n (f x) R):Om.fit n (m >>= f) R:=Om.fit_bind 0 n hm hf (by omega)
theorem Om.fit_b1 {m:Om α} {f:α→Om β} (hm:Om.fit 1 m Q) (hf:∀ x,Q x→Om.fit n (f x) R):Om.fit (n + 1) (m >>= f) R:=Om.fit_bind 1 n hm hf (by omega)
theorem Om.fit_mono {m:Om β} {a:Nat} {R':β→Prop} (h:Om.fit a m R') (hn:a≤n) (hR:∀ x,R' x→R x):Om.fit n m R:=fun l hl=>Tr.ends_mono (fun y hy=>⟨hR _ hy.1,by have:=hy.2.1;omega,hy.2.2⟩) _ (h l hl)
theorem Om.fit_pure {x:β} (h:R x):Om.fit n (pure x:Om β) R:=fun l hl=>⟨h,Nat.le_add_right _ _,hl⟩
theorem Om.fit_pure' (x:β):Om.fit 0 (pure x:Om β) (fun y=>y=x):=Om.fit_pure rfl
theorem Om.fit_err (e:Int):Om.fit n (oErr e:Om β) R:=fun l hl=>trivial
theorem Om.fit_look (x y z:Int) (h:kok x y z):Om.fit 0 (oLook x y z) (fun t=>u64 t.A∧u64 t.B):=fun l hl=>⟨h,fun A B is hA hB=>⟨⟨hA,hB⟩,Nat.le_refl _,hl⟩⟩
theorem Om.fit_put (x:Pu) (h:x.fit):Om.fit 1 (oPut x) (fun _=>True):=fun l hl=>by
  show _∧(l++[x]).length≤l.length + 1∧∀ y∈l++[x],Pu.fit y
  refine ⟨trivial,by simp,fun y hy=>?_⟩
  rcases List.mem_append.1 hy with h1 | h1
  · exact hl y h1
  · rw [List.mem_singleton.1 h1];exact h
theorem Om.fit_amount (k a b A:Int) (hk:kok k a b) (hA:u64 A):Om.fit 1 (oAmount k a b A) (fun _=>True):=by
  refine Om.fit_put _ ?_
  unfold amt
  split
  · exact ⟨hk,u64_0,u64_0⟩
  · exact ⟨hk,hA,u64_0⟩
theorem Om.fit_gone (k a b:Int) (hk:kok k a b):Om.fit 1 (oGone k a b) (fun _=>True):=Om.fit_put _ ⟨hk,u64_0,u64_0⟩
theorem Om.fit_deny (c:Bool) (e:Int):Om.fit 0 (oDeny c e) (fun _=>c=false):=by
  unfold oDeny
  split
  · exact Om.fit_err e
  · rename_i h;exact Om.fit_pure (by simpa using h)
theorem Om.fit_there (x y z:Int) (h:kok x y z):Om.fit 0 (oThere x y z) (fun t=>u64 t.A∧u64 t.B):=Om.fit_b0 (Om.fit_look x y z h) (fun t ht=>Om.fit_b0 (Om.fit_deny _ _) (fun _ _=>Om.fit_pure ht))
theorem Om.fit_more (x y:Int):Om.fit 0 (oMore x y) (fun r=>r=x + y∧r≤4611686018427387904):=by
  unfold oMore
  split
  · exact Om.fit_err _
  · exact Om.fit_pure ⟨rfl,by omega⟩
theorem Om.fit_less (x y:Int):Om.fit 0 (oLess x y) (fun r=>r=x - y∧y≤x∧x≤4611686018427387904):=by
  unfold oLess
  split
  · exact Om.fit_err _
  · split
    · exact Om.fit_err _
    · exact Om.fit_pure ⟨rfl,by omega,by omega⟩
theorem Om.fit_ite {c:Prop} [Decidable c] {x y:Om β} (hx:c→Om.fit n x R) (hy:¬ c→Om.fit n y R):Om.fit n (if c then x else y) R:=by
  split
  · exact hx (by assumption)
  · exact hy (by assumption)
end
theorem fit_number (kd:Int) (h:0≤kd∧kd≤255):Om.fit 0 (oNumber kd) (fun r=>0≤r∧r≤4294967295):=
  Om.fit_b0 (Om.fit_look _ _ _ ⟨by decide,by omega,by decide⟩) (fun c hc=>Om.fit_b0 (Om.fit_deny _ _) (fun _ hd=>Om.fit_pure (by have:=of_decide_eq_false hd;have:=hc.1.1;omega)))
theorem fit_side (q:Ot) (A:Int):Om.fit 0 (oSide q A) (fun r=>r=0∨r=1):=by
  unfold oSide
  split
  · exact Om.fit_pure (.inl rfl)
  · split
    · exact Om.fit_pure (.inr rfl)
    · exact Om.fit_err _
theorem lo32_u (x:Int):0≤lo32 x∧lo32 x≤4294967295:=by unfold lo32;omega
theorem hi32_u {x:Int} (h:u64 x):0≤hi32 x∧hi32 x≤4294967295:=by unfold hi32;unfold u64 at h;omega
theorem hold_u (x:Int) {a:Int} (h:0≤a∧a≤4294967295):kok (holdK x) a (holdW x):=by
  unfold holdK holdW
  split
  · exact ⟨by decide,h,by decide⟩
  · exact ⟨by decide,h,lo32_u _⟩
theorem pair_u {a b:Int} (h:0≤a∧a≤4294967295) (k:0≤b∧b≤4294967295):u64 (pair a b):=by unfold u64 pair;omega
end Go.Proofs.YtabckmadpdchnaaGreat.Rule
namespace Go.Proofs.YtabckmadpdchnaaGreat.Rule
theorem fit_looks (wh:Int) (hw:0≤wh∧wh≤4294967295):∀ l:List Int,(∀ x∈l,0≤x∧x≤4294967295)→Om.fit 0 (oLooks wh l) (fun _=>True)
  | [],_=>Om.fit_pure trivial
  | a :: r,h=>Om.fit_b0 (Om.fit_look _ _ _ ⟨by decide,hw,h a (by simp)⟩) (fun _ _=>Om.fit_b0 (fit_looks wh hw r (fun x hx=>h x (by simp [hx]))) (fun _ _=>Om.fit_pure trivial))
theorem fit_lesses (f:Int→Int):∀ l m:List Int,Om.fit 0 (oLesses f l m) (fun r=>∀ x∈r,0≤x)
  | [],_=>by unfold oLesses;exact Om.fit_pure (by simp)
  | _ :: _,[]=>by unfold oLesses;exact Om.fit_pure (by simp)
  | n :: r,A :: l=>by
    unfold oLesses
    exact Om.fit_b0 (Om.fit_less _ _) (fun x hx=>Om.fit_b0 (fit_lesses f r l) (fun m hm=>Om.fit_pure (fun y hy=>by
      rcases List.mem_cons.1 hy with rfl | h
      · omega
      · exact hm y h)))
theorem fit_mores (f:Int→Int) (hf:∀ x,0≤f x):∀ l m:List Int,(∀ x∈m,0≤x)→Om.fit 0 (oMores f l m) (fun r=>∀ x∈r,u64 x)
  | [],_,_=>by unfold oMores;exact Om.fit_pure (by simp)
  | _ :: _,[],_=>by unfold oMores;exact Om.fit_pure (by simp)
  | n :: r,A :: l,h=>by
    unfold oMores
    exact Om.fit_b0 (Om.fit_more _ _) (fun x hx=>Om.fit_b0 (fit_mores f hf r l (fun y hy=>h y (by simp [hy]))) (fun m hm=>Om.fit_pure (fun y hy=>by
      rcases List.mem_cons.1 hy with rfl | h1
      · have:=h A (by simp)
        have:=hf n
        unfold u64
        omega
      · exact hm y h1)))
theorem fit_amounts (wh:Int) (hw:0≤wh∧wh≤4294967295):∀ l m:List Int,(∀ x∈l,0≤x∧x≤4294967295)→(∀ x∈m,u64 x)→Om.fit l.length (oAmounts wh l m) (fun _=>True)
  | [],_,_,_=>by unfold oAmounts;exact Om.fit_pure trivial
  | _ :: _,[],_,_=>by unfold oAmounts;exact Om.fit_pure trivial
  | n :: r,A :: l,h,k=>by unfold oAmounts;exact Om.fit_b1 (Om.fit_amount _ _ _ _ ⟨by decide,hw,h n (by simp)⟩ (k A (by simp))) (fun _ _=>fit_amounts wh hw r l (fun x hx=>h x (by simp [hx])) (fun x hx=>k x (by simp [hx])))
theorem craftItems_u (id:Int):∀ x∈craftItems id,0≤x∧x≤4294967295:=by
  unfold craftItems
  repeat' split
  all_goals (intro x hx;simp at hx)
  all_goals omega
theorem put_fit {k a b A B:Int} (h:kok k a b) (hA:u64 A) (hB:u64 B):(Pu.mk k a b A B false).fit:=⟨h,hA,hB⟩
theorem cnt_pos {n:Int} {id k:Int} (hk:0≤k) (h:Stk.errN id k=0):0≤Stk.cnt n (Stk.outN id k):=by
  unfold Stk.outN
  rw [if_pos h]
  have hs:=(Stk.lineS_small id).2.2
  generalize (Stk.lineS id).2=l at hs
  induction l with
  | nil=>exact Int.le_refl _
  | cons p l ih=>
    show 0≤Stk.cnt n ((p.1,p.2 * k) :: Stk.times k l)
    unfold Stk.cnt
    split
    · have:=(hs p (by simp)).2.2.1
      exact Int.mul_nonneg (by omega) hk
    · exact ih (fun q hq=>hs q (by simp [hq]))
theorem fit_craft (q:Ot) (hq:q.Ok):Om.fit 9 (oCraft q) (fun _=>True):=by
  unfold oCraft
  refine Om.fit_b0 (Om.fit_deny _ _) (fun _ hd=>Om.fit_b0 (Om.fit_there _ _ _ ⟨by decide,hq.wh,by decide⟩) (fun _ _=>Om.fit_b0 (fit_looks _ hq.wh _ (craftItems_u _)) (fun _ _=>Om.fit_b0 (fit_lesses _ _ _) (fun m hm=>Om.fit_b0 (fit_mores _ (fun x=>cnt_pos hq.n.1 (by have:=of_decide_eq_false hd;omega)) _ _ hm) (fun x hx=>
    Om.fit_bind 4 5 (Om.fit_mono (fit_amounts _ hq.wh _ _ (craftItems_u _) hx) (craftItems_len _) (fun _ h=>h)) (fun _ _=>Om.fit_pure trivial) (by omega))))))
theorem oDo_fit (q:Ot) (hq:q.Ok):Om.fit 9 (oDo q) (fun _=>True):=by
  obtain ⟨h1,h2,h3,h4,h5,h6,h7⟩:=hq
  have hq:q.Ok:=⟨h1,h2,h3,h4,h5,h6,h7⟩
  unfold oDo
  repeat' (with_reducible refine Om.fit_ite (fun _=>?_) (fun _=>?_))
  all_goals
    try with_reducible exact fit_craft q hq
    try first | unfold oOpen | unfold oMint | unfold oCreate | unfold oDeposit | unfold oPay | unfold oGive | unfold oTrade | unfold oOffer | unfold oAgree | unfold oBreak | unfold oSell | unfold oBid | unfold oClose | unfold oLookAt
    try unfold oMove
    try unfold oSettle
    repeat' (first
      | with_reducible exact Om.fit_err _
      | with_reducible refine Om.fit_pure ?_
      | with_reducible refine Om.fit_b0 (Om.fit_there _ _ _ ?_) (fun _ hx=>?_)
      | with_reducible refine Om.fit_b0 (Om.fit_look _ _ _ ?_) (fun _ hx=>?_)
      | with_reducible refine Om.fit_b0 (Om.fit_more _ _) (fun _ hx=>?_)
      | with_reducible refine Om.fit_b0 (Om.fit_less _ _) (fun _ hx=>?_)
      | with_reducible refine Om.fit_b0 (Om.fit_deny _ _) (fun _ hx=>?_)
      | with_reducible refine Om.fit_b0 (Om.fit_pure' _) (fun _ hx=>?_)
      | with_reducible refine Om.fit_b0 (Om.fit_err _) (fun _ (hx:True)=>?_)
      | with_reducible refine Om.fit_b0 (fit_number _ (by decide)) (fun _ hx=>?_)
      | with_reducible refine Om.fit_b0 (fit_side _ _) (fun _ hx=>?_)
      | with_reducible refine Om.fit_b1 (Om.fit_amount _ _ _ _ ?_ ?_) (fun _ hx=>?_)
      | with_reducible refine Om.fit_b1 (Om.fit_gone _ _ _ ?_) (fun _ hx=>?_)
      | with_reducible refine Om.fit_b1 (Om.fit_put _ ?_) (fun _ hx=>?_)
      | with_reducible refine Om.fit_ite (fun _=>?_) (fun _=>?_)
      | split
      | dsimp only)
    all_goals first
      | trivial
      | exact u64_0
      | exact hold_u _ (by assumption)
      | exact hold_u _ (lo32_u _)
      | exact hold_u _ (hi32_u (And.left (by assumption)))
      | (refine ⟨by decide,?_,?_⟩ <;> first | assumption | decide | exact lo32_u _ | omega)
      | (unfold u64 at *;omega)
      | (refine put_fit ⟨by decide,?_,?_⟩ ?_ ?_ <;> first | assumption | exact u64_0 | decide | exact lo32_u _ | exact pair_u (by assumption) (by assumption) | ((try dsimp only);unfold u64 at *;omega))
theorem oAll_fit (q:Ot) (hq:q.Ok):Om.fit 9 (oAll q) (fun _=>True):=by
  unfold oAll
  split
  · exact Om.fit_err _
  · exact oDo_fit q hq
theorem evD_fit {f:Wm} (hf:Wok f) {q:Ot} (hq:q.Ok):(evD f q).1.length≤9∧∀ x∈(evD f q).1,Pu.fit x:=by
  unfold evD
  cases h:evTr f (oAll q []) with
  | miss k a b=>exact ⟨Nat.zero_le _,fun x hx=>by cases hx⟩
  | err e=>exact ⟨Nat.zero_le _,fun x hx=>by cases hx⟩
  | ok y j=>
    have:=Tr.ends_ev hf _ (oAll_fit q hq [] (fun x hx=>by cases hx)) h
    exact ⟨by have:=this.2.1;rw [List.length_nil,Nat.zero_add] at this;exact this,this.2.2⟩
theorem miss_key {q:Ot} (hq:q.Ok) {seen:List Ce} (hs:∀ c∈seen,c.Ok) {k a b:Int} (h:opR q seen=.miss k a b):kok k a b:=
  Tr.ends_miss hs _ 0 (oAll_fit q hq [] (fun x hx=>by cases hx)) h
theorem Wok.put {f:Wm} (h:Wok f) {x:Pu} (hx:x.fit):Wok (putF f x):=by
  intro k v e
  unfold putF at e
  split at e
  · split at e
    · cases e
    · injection e with e
      subst e
      exact ⟨hx.A,hx.B⟩
  · exact h k v e
theorem Wok.puts {l:List Pu}:∀ {f:Wm},Wok f→(∀ x∈l,x.fit)→Wok (putsF f l):=by
  induction l with
  | nil=>exact fun h _=>h
  | cons x l ih=>exact fun {f} h hl=>ih (f:=putF f x) (h.put (hl x (by simp))) (fun y hy=>hl y (by simp [hy]))
theorem Wok.op {f:Wm} (h:Wok f) {q:Ot} (hq:q.Ok):Wok (opF f q):=h.puts (evD_fit h hq).2
theorem Wok.none:Wok (fun _=>none):=fun k v e=>by cases e
end Go.Proofs.YtabckmadpdchnaaGreat.Rule
namespace Go.Proofs.Mem
open Go.RowKit Go.WideShapes Go.Maps
structure KE (P:Program) (K:TypeId) (α:Type) where
  kv:α→Value
  ok:α→Prop
  kl:α→Lit
  keyed:Maps.Keyed P K
  key:∀ x,ok x→keyOf P K (kv x)=some (kl x)
  inv:∀ v l,keyOf P K v=some l→∃ x,ok x∧v=kv x∧l=kl x
  inj:∀ x y,kv x=kv y→x=y
structure EE (R:Value→Option (DataW Unit × List MemPlace)) (β:Type) where
  ev:β→Value
  ed:β→DataW Unit
  mem:∀ b,∃ ps,R (ev b)=some (ed b,ps)
  inv:∀ v z,R v=some z→∃ b,v=ev b∧z.1=ed b
  inj:∀ a b,ed a=ed b→a=b
section
variable {P:Program} {K:TypeId} {α β:Type} {R:Value→Option (DataW Unit × List MemPlace)} {E:KE P K α} {V:EE R β} {w w':World} {m n:Nat} {f:α→Option β}
theorem EE.back (V:EE R β) {v:Value} {b:β} {ps:List MemPlace} (h:R v=some (V.ed b,ps)):v=V.ev b:=by
  obtain ⟨b',e1,e2⟩:=V.inv _ _ h
  rw [e1,V.inj _ _ e2]
theorem KE.kl_inj (E:KE P K α) {x y:α} (hx:E.ok x) (hy:E.ok y) (h:E.kl x=E.kl y):x=y:=by
  have h1:=E.key x hx
  have h2:=E.key y hy
  rw [h] at h1
  exact E.inj _ _ (E.keyed.inj h1 h2)
theorem KE.same (E:KE P K α) {x:α} (hx:E.ok x):(E.kl x).sameKey (E.kl x)=true:=WideAt.sameKey_self (E.keyed.key (E.key x hx))
theorem KE.other (E:KE P K α) {x y:α} (hx:E.ok x) (hy:E.ok y) (h:y≠x):(E.kl y).sameKey (E.kl x)=false:=Maps.sameKey_ne fun e=>h (E.kl_inj hy hx e)
def Says (E:KE P K α) (V:EE R β) (D:DataW Unit) (f:α→Option β):Prop:=
  (∀ x,E.ok x→(∀ z,D.atKey (E.kl x) z=((f x).map V.ed).getD z)∧Maps.has D (E.kl x)=(f x).isSome)∧∀ x,¬ E.ok x→f x=none
def FM (E:KE P K α) (V:EE R β) (w:World) (m n:Nat) (f:α→Option β):Prop:=∃ D,w.ownsMap P K R m n D∧Says E V D f
theorem FM.lt (h:FM E V w m n f):m < w.heap.size:=by obtain ⟨D,h,_⟩:=h;exact h.lt
theorem FM.mono (h:FM E V w m n f) {n':Nat} (hn:n≤n'):FM E V w m n' f:=by obtain ⟨D,h,k⟩:=h;exact ⟨D,h.mono hn,k⟩
theorem FM.kept {row:Option Nat} (h:FM E V w m n f) (hg:w.grownBy w' row) (hne:some m≠row):FM E V w' m n f:=by obtain ⟨D,h,k⟩:=h;exact ⟨D,h.kept hg hne,k⟩
theorem FM.fr {S:Nat→Prop} (h:FM E V w m n f) (hf:Fr S w w') (hn:¬ S m):FM E V w' m n f:=by
  obtain ⟨D,h,k⟩:=h
  have hlt:=h.lt
  obtain ⟨es,clock,hb,rest⟩:=h
  exact ⟨D,⟨es,clock,(hf.block m hlt hn).trans hb,rest⟩,k⟩
theorem FM.later (h:FM E V w m n f) (hb:Below w.heap.size w w'):FM E V w' m n f:=h.fr (S:=fun _=>False) (Fr.of_below hb) id
theorem FM.drewN (h:FM E V w m n f) (j:Nat):FM E V (w.drewN j) m n f:=h
theorem FM.drew (h:FM E V w m n f):FM E V w.drew m n f:=h
theorem FM.ne_box {g:Nat} {C:Array Value} {t:TypeId} (h:FM E V w m n f) (hb:Box w g C t):g≠m:=by
  obtain ⟨D,⟨es,clock,h1,_⟩,_⟩:=h
  rintro rfl
  unfold Box at hb
  rw [hb] at h1
  cases h1
theorem FM.made (E:KE P K α) (V:EE R β) (w:World):FM E V (w.alloc (.map #[] 0)) w.heap.size 0 (fun _=>none):=
  ⟨.map [],World.ownsMap_made _ _ _ _,fun x _=>⟨fun z=>rfl,rfl⟩,fun _ _=>rfl⟩
theorem FM.look (h:FM E V w m n f) {t e:TypeId} (ht:P.underlying t=some (.map K e)) (z:β) (hz:(zeroValue e).run P w=.ok (V.ev z) w) (x:α) (hx:E.ok x) :
    (Instr.lookup t (.map (some m)) (E.kv x) false).run P w=.ok (V.ev ((f x).getD z)) w ∧
    (Instr.lookup t (.map (some m)) (E.kv x) true).run P w=.ok (.tuple #[V.ev ((f x).getD z),.bool (f x).isSome]) w:=by
  obtain ⟨D,h1,h2,_⟩:=h
  obtain ⟨e1,e2⟩:=h2 x hx
  obtain ⟨ps,hp⟩:=V.mem z
  obtain ⟨v,qs,hr,hv⟩:=h1.lookup E.keyed ht hz hp (E.key x hx)
  obtain ⟨v',qs',hr',hv'⟩:=h1.look_ok E.keyed ht hz hp (E.key x hx)
  have e3:((f x).map V.ed).getD (V.ed z)=V.ed ((f x).getD z):=by cases f x <;> rfl
  rw [e1,e3] at hv hv'
  rw [V.back hv] at hr
  rw [V.back hv',e2] at hr'
  exact ⟨hr,hr'⟩
def FR (E:KE P K α) (V:EE R β) (w:World) (m r n:Nat) (f:α→Option β) (left:α→Bool) (cnt:Nat):Prop:=∃ D lf,w.ranges P K R m r n D lf cnt∧Says E V D f∧∀ x,E.ok x→lf (E.kl x)=left x
theorem FR.fm {r cnt:Nat} {left:α→Bool} (h:FR E V w m r n f left cnt):FM E V w m n f:=by obtain ⟨D,lf,h,k,_⟩:=h;exact ⟨D,h.owns,k⟩
theorem FR.left_eq {r cnt:Nat} {left:α→Bool} (h:FR E V w m r n f left cnt):w.rangeLeft m r=cnt:=by obtain ⟨D,lf,h,k,_⟩:=h;exact h.left_eq
theorem FR.lt {r cnt:Nat} {left:α→Bool} (h:FR E V w m r n f left cnt):r < w.heap.size:=by obtain ⟨D,lf,h,k,_⟩:=h;exact h.lt
theorem FR.ne {r cnt:Nat} {left:α→Bool} (h:FR E V w m r n f left cnt):r≠m:=by obtain ⟨D,lf,h,k,_⟩:=h;exact h.ne
theorem FR.ne_box {r cnt g:Nat} {left:α→Bool} {C:Array Value} {t:TypeId} (h:FR E V w m r n f left cnt) (hb:Box w g C t):g≠r:=by
  obtain ⟨D,lf,⟨es,clock,since,seen,c0,_,_,_,_,h1,_⟩,_⟩:=h
  rintro rfl
  unfold Box at hb
  rw [hb] at h1
  cases h1
theorem FR.fr {S:Nat→Prop} {r cnt:Nat} {left:α→Bool} (h:FR E V w m r n f left cnt) (hf:Fr S w w') (hm:¬ S m) (hr:¬ S r):FR E V w' m r n f left cnt:=by
  have l1:=h.fm.lt
  have l2:=h.lt
  obtain ⟨D,lf,⟨es,clock,since,seen,c0,k1,k2,k3,k4,k5,k6⟩,k⟩:=h
  exact ⟨D,lf,⟨es,clock,since,seen,c0,(hf.block m l1 hm).trans k1,k2,k3,k4,(hf.block r l2 hr).trans k5,k6⟩,k⟩
theorem FR.drewN {r cnt:Nat} {left:α→Bool} (h:FR E V w m r n f left cnt) (j:Nat):FR E V (w.drewN j) m r n f left cnt:=h
theorem FM.range (h:FM E V w m n f) {t e:TypeId} (ht:P.underlying t=some (.map K e)) :
    ∃ w' cnt,(Instr.range t (.map (some m))).run P w=.ok (.pointer (some ⟨w.heap.size,0,none⟩)) w'∧FR E V w' m w.heap.size n f (fun x=>(f x).isSome) cnt∧cnt≤n∧w.grownBy w' none∧w'.heap.size=w.heap.size + 1:=by
  obtain ⟨D,h1,h2⟩:=h
  have hs:=h1.size_le
  obtain ⟨w',hr,hg,k1,k2⟩:=h1.range E.keyed ht
  exact ⟨w',_,hr,⟨D,_,hg,h2,fun x hx=>(h2.1 x hx).2⟩,hs,k1,k2⟩
theorem wpList_range_fm {ops:Array Oper} {rest:List Oper} {o:Oper} {a:Act} {Q:Exit→Act→World→Prop} (hg:o.guard=none) (mo:Operand) (t:TypeId) (hop:o.op=Op.range t mo) (e:TypeId) (ht:P.underlying t=some (.map K e))
    (hm:a.eval mo=.map (some m)) (h:FM E V w m n f)
    (hK:∀ w' cnt,FR E V w' m w.heap.size n f (fun x=>(f x).isSome) cnt→cnt≤n→Below w.heap.size w w'→w'.heap.size=w.heap.size + 1→wpList P ops Q rest (a.put o.dst (.pointer (some ⟨w.heap.size,0,none⟩))) w') :
    wpList P ops Q (o :: rest) a w:=by
  refine wpList_plain hg fun K' hK'=>?_
  obtain ⟨w',cnt,hrun,r1,r0,r2,r3⟩:=h.range ht
  unfold Oper.wp
  simp [execOp,hop,hm,hrun,Result.andThen]
  exact hK' _ _ (hK w' cnt r1 r0 (grown_below r2) r3)
variable [DecidableEq α]
def fput (f:α→Option β) (x:α) (b:β):α→Option β:=fun y=>if y=x then some b else f y
def fdel (f:α→Option β) (x:α):α→Option β:=fun y=>if y=x then none else f y
theorem fput_same (f:α→Option β) (x:α) (b:β):fput f x b x=some b:=if_pos rfl
theorem fput_other (f:α→Option β) {x y:α} (b:β) (h:y≠x):fput f x b y=f y:=if_neg h
theorem fdel_same (f:α→Option β) (x:α):fdel f x x=none:=if_pos rfl
theorem fdel_other (f:α→Option β) {x y:α} (h:y≠x):fdel f x y=f y:=if_neg h
theorem Says.put {D:DataW Unit} (h:Says E V D f) (hD:Maps.IsMap D) {x:α} (hx:E.ok x) (b:β):Says E V (D.put (E.kl x) (V.ed b)) (fput f x b):=by
  refine ⟨fun y hy=>?_,fun y hy=>?_⟩
  · by_cases e:y=x
    · subst e
      rw [fput_same]
      exact ⟨fun z=>Maps.atKey_put_same hD (E.keyed.key (E.key y hx)) _ _,Maps.has_put_same hD (E.keyed.key (E.key y hx)) _⟩
    · have hne:E.kl y≠E.kl x:=fun k=>e (E.kl_inj hy hx k)
      rw [fput_other f b e]
      exact ⟨fun z=>by rw [Maps.atKey_put_other hne];exact (h.1 y hy).1 z,by rw [Maps.has_put_other hne];exact (h.1 y hy).2⟩
  · rw [fput_other f b (fun e=>hy (by rw [e];exact hx))]
    exact h.2 y hy
theorem Says.del {D:DataW Unit} (h:Says E V D f) {x:α} (hx:E.ok x):Says E V (D.del (E.kl x)) (fdel f x):=by
  refine ⟨fun y hy=>?_,fun y hy=>?_⟩
  · by_cases e:y=x
    · subst e
      rw [fdel_same]
      exact ⟨fun z=>Maps.atKey_del_same _,Maps.has_del_same⟩
    · have hne:E.kl y≠E.kl x:=fun k=>e (E.kl_inj hy hx k)
      rw [fdel_other f e]
      exact ⟨fun z=>by rw [Maps.atKey_del_other hne];exact (h.1 y hy).1 z,by rw [Maps.has_del_other hne];exact (h.1 y hy).2⟩
  · unfold fdel
    split
    · rfl
    · exact h.2 y hy
theorem FM.put (h:FM E V w m n f) {t e:TypeId} (ht:P.underlying t=some (.map K e)) (hn:n < maxLen) (x:α) (hx:E.ok x) (b:β) :
    ∃ w',(Instr.mapUpdate t (.map (some m)) (E.kv x) (V.ev b)).run P w=.ok () w'∧FM E V w' m (n + 1) (fput f x b)∧w.grownBy w' (some m):=by
  obtain ⟨D,h1,h2⟩:=h
  obtain ⟨ps,hp⟩:=V.mem b
  obtain ⟨w',hr,ho,hg⟩:=h1.update E.keyed ht hn (E.key x hx) hp
  exact ⟨w',hr,⟨_,ho,h2.put h1.isMap hx b⟩,hg⟩
theorem FM.drop (h:FM E V w m n f) {t e:TypeId} (ht:P.underlying t=some (.map K e)) (x:α) (hx:E.ok x) (ty:TypeId) :
    ∃ w',(Builtin.delete_ #[t,K] ty #[.map (some m),E.kv x]).run P w=.ok (.tuple #[]) w'∧FM E V w' m n (fdel f x)∧w.grownBy w' (some m):=by
  obtain ⟨D,h1,h2⟩:=h
  obtain ⟨w',hr,ho,hg⟩:=h1.drop E.keyed ht (E.key x hx) ty
  exact ⟨w',hr,⟨_,ho,h2.del hx⟩,hg.grown⟩
def but (left:α→Bool) (x:α):α→Bool:=fun y=>left y && !decide (y=x)
theorem FR.next {r cnt:Nat} {left:α→Bool} (h:FR E V w m r n f left cnt) (ty:TypeId) :
    (cnt=0∧(∀ x,E.ok x→left x=false)∧(Instr.next (.pointer (some ⟨r,0,none⟩)) false ty).run P w=.ok (.tuple #[.bool false]) w) ∨
    ∃ x b w' cnt',E.ok x∧left x=true∧f x=some b∧(Instr.next (.pointer (some ⟨r,0,none⟩)) false ty).run P w=.ok (.tuple #[.bool true,E.kv x,V.ev b]) w' ∧
      FR E V w' m r n f (but left x) cnt'∧cnt' < cnt∧Fr (fun g=>g=r) w w'∧w'.heap.size=w.heap.size∧(Instr.entry (.pointer (some ⟨r,0,none⟩))).run P w'=.ok (.tuple #[E.kv x,V.ev b]) w':=by
  obtain ⟨D,lf,h1,h2,h3⟩:=h
  rcases h1.next E.keyed ty with ⟨k1,k2,k3⟩ | ⟨key,v,kl,y,w',cnt',k1,k2,k3,k4,k5,k6,k7,k8,k9,k10⟩
  · exact .inl ⟨k1,fun x hx=>by rw [← h3 x hx];exact k2 _,k3⟩
  · obtain ⟨x,hx,rfl,rfl⟩:=E.inv _ _ k1
    obtain ⟨b,rfl,e2⟩:=V.inv _ _ k3
    have hfx:f x=some b:=by
      have q1:=(h2.1 x hx).1
      cases e:f x with
      | none=>
        have q2:=(h2.1 x hx).2
        have q3:=Maps.has_true_of_atKey k4
        rw [q3,e] at q2
        cases q2
      | some b'=>
        have q4:=q1 (V.ed b)
        rw [k4,e,e2] at q4
        rw [V.inj _ _ q4]
    refine .inr ⟨x,b,w',cnt',hx,by rw [← h3 x hx];exact k2,hfx,k5,⟨D,_,k6,h2,fun y' hy=>?_⟩,k7,⟨k8.os,k8.tape,k8.output,k8.size,fun i hi hn=>k8.block i hi (fun e=>hn (by injection e))⟩,k9,k10⟩
    show (lf (E.kl y') && !(E.kl y').sameKey (E.kl x))=but left x y'
    unfold but
    rw [h3 y' hy]
    by_cases e:y'=x
    · subst e;rw [E.same hx];simp
    · rw [E.other hx hy e];simp [e]
theorem wpList_next_fm {ops:Array Oper} {rest:List Oper} {o:Oper} {a:Act} {Q:Exit→Act→World→Prop} {r cnt:Nat} {left:α→Bool} (hg:o.guard=none) (it:Operand) (hop:o.op=Op.next it false)
    (hit:a.eval it=.pointer (some ⟨r,0,none⟩)) (h:FR E V w m r n f left cnt)
    (hDone:(∀ x,E.ok x→left x=false)→wpList P ops Q rest (a.put o.dst (.tuple #[.bool false])) w)
    (hMore:∀ (x:α) (b:β) (w':World) (cnt':Nat),E.ok x→left x=true→f x=some b→FR E V w' m r n f (but left x) cnt'→cnt' < cnt→Fr (fun g=>g=r) w w'→w'.heap.size=w.heap.size →
      (Instr.entry (.pointer (some ⟨r,0,none⟩))).run P w'=.ok (.tuple #[E.kv x,V.ev b]) w'→wpList P ops Q rest (a.put o.dst (.tuple #[.bool true,E.kv x,V.ev b])) w') :
    wpList P ops Q (o :: rest) a w:=by
  refine wpList_plain hg fun K' hK'=>?_
  unfold Oper.wp
  rcases h.next o.type with ⟨h0,hl,hrun⟩ | ⟨x,b,w',cnt',k1,k2,k3,hrun,k5,k6,k7,k8,k9⟩
  · simp [execOp,hop,hit,hrun,Result.andThen]
    exact hK' _ _ (hDone hl)
  · simp [execOp,hop,hit,hrun,Result.andThen]
    exact hK' _ _ (hMore x b w' cnt' k1 k2 k3 k5 k6 k7 k8 k9)
end
def intKE (P:Program) (K:TypeId) (q:IntKind) (hk:P.underlying K=some (.int q)):KE P K Int where
  kv x:=.int q x
  ok x:=(Lit.int q x).wf=true
  kl x:=.int q x
  keyed:=Maps.int_keyed hk
  key x hx:=Maps.keyOf_int_mk hk hx
  inv v l h:=by obtain ⟨x,e1,e2,e3⟩:=Maps.keyOf_int_inv hk h;exact ⟨x,e3,e1,e2⟩
  inj x y h:=by injection h
def RSl (v:Value):Option (DataW Unit × List MemPlace):=
  match v with
  | .slice none 0 0=>some (.map [],[])
  | .slice (some ⟨b,0,none⟩) n c=>some (.agg [.lit (.int .u64 b),.lit (.int .u64 n),.lit (.int .u64 c)],[])
  | _=>none
def slEE:EE RSl (Option (Nat × Nat × Nat)) where
  ev b:=match b with
    | none=>.slice none 0 0
    | some (b,n,c)=>.slice (some ⟨b,0,none⟩) n c
  ed b:=match b with
    | none=>.map []
    | some (b,n,c)=>.agg [.lit (.int .u64 b),.lit (.int .u64 n),.lit (.int .u64 c)]
  mem b:=by
    cases b with
    | none=>exact ⟨[],rfl⟩
    | some b=>exact ⟨[],rfl⟩
  inv v z h:=by
    unfold RSl at h
    split at h
    · injection h with h;exact ⟨none,rfl,by rw [← h]⟩
    · rename_i b n c;injection h with h;exact ⟨some (b,n,c),rfl,by rw [← h]⟩
    · cases h
  inj a b h:=by
    cases a with
    | none=>
      cases b with
      | none=>rfl
      | some b=>cases h
    | some a=>
      cases b with
      | none=>cases h
      | some b=>
        obtain ⟨a1,a2,a3⟩:=a
        obtain ⟨b1,b2,b3⟩:=b
        simp only [DataW.agg.injEq,List.cons.injEq,DataW.lit.injEq,Lit.int.injEq,true_and,and_true] at h
        obtain ⟨h1,h2,h3⟩:=h
        have:a1=b1:=by omega
        have:a2=b2:=by omega
        have:a3=b3:=by omega
        subst_vars
        rfl
def unEE:EE (unitElem (H:=Unit)) Unit where
  ev _:=.agg #[]
  ed _:=.agg []
  mem _:=⟨[],unitElem_mk⟩
  inv v z h:=by obtain ⟨e1,e2⟩:=unitElem_inv h;exact ⟨(),e1,by rw [e2]⟩
  inj _ _ _:=rfl
end Go.Proofs.Mem
namespace Go.Proofs.YtabckmadpdchnaaGreat.Rule
open Go.ChangeShapes Go.WideShapes Go.ChangeAt Go.RowKit Go.IntWalk Go.Proofs.Mem Law
def Ky.v (x:Ky):Value:=.agg #[.int .u8 x.k,.int .u32 x.a,.int .u32 x.b]
def Ky.ok (x:Ky):Prop:=(Lit.int .u8 x.k).wf=true∧(Lit.int .u32 x.a).wf=true∧(Lit.int .u32 x.b).wf=true
theorem rowK:(49:TypeId) < Tryz.prog.types.size:=of_decide_eq_true (by kernel_rfl)
theorem cellsK:Tryz.prog.cellsOf 49=3:=by kernel_rfl
theorem wideK:(match Tryz.prog.underlying 49 with | some (.array _ _) | some (.struct _)=>true | _=>false)=true:=by rw [Tryz.underlying49]
theorem keyedK:Maps.Keyed Tryz.prog 49:=Maps.Keyed.of_law (deep_law_laid laidOut (m:=2) (by omega) rowK (by kernel_rfl) wideK)
theorem keyTypeK:Tryz.prog.keyType 49=true:=by kernel_rfl
theorem keyLits_ky (x:Ky) (hx:x.ok):Tryz.prog.keyLits (Tryz.prog.types.size + 1) 49 x.v.cells.toList=some [.int .u8 x.k,.int .u32 x.a,.int .u32 x.b]:=by
  obtain ⟨m,hm⟩:∃ m,Tryz.prog.types.size=m + 1:=⟨Tryz.prog.types.size - 1,by have h:0 < Tryz.prog.types.size:=Nat.lt_of_le_of_lt (Nat.zero_le _) rowK;omega⟩
  rw [hm]
  have c8:Tryz.prog.cellsOf 5=1:=by kernel_rfl
  have c32:Tryz.prog.cellsOf 23=1:=by kernel_rfl
  obtain ⟨w1,w2,w3⟩:=hx
  simp [Program.keyLits,Tryz.underlying49,Tryz.underlying5,Tryz.underlying23,Ky.v,cellsK,c8,c32,w1,w2,w3,Value.cells]
theorem keyOf_ky (x:Ky) (hx:x.ok):∃ kl,keyOf Tryz.prog 49 x.v=some kl:=by
  have hformed:(x.v).formed Tryz.prog 49=true:=by simp [Ky.v,Value.formed,Tryz.underlying49,cellsK]
  unfold keyOf
  rw [Tryz.underlying49]
  simp only [keyTypeK,hformed,Bool.and_self,if_true,keyLits_ky x hx]
  exact ⟨_,rfl⟩
theorem keyLits_inv {c0 c1 c2:Value} {ls:List Lit} (h:Tryz.prog.keyLits (Tryz.prog.types.size + 1) 49 [c0,c1,c2]=some ls):∃ x:Ky,x.ok∧(.agg #[c0,c1,c2]:Value)=x.v:=by
  obtain ⟨m,hm⟩:∃ m,Tryz.prog.types.size=m + 1:=⟨Tryz.prog.types.size - 1,by have h:0 < Tryz.prog.types.size:=Nat.lt_of_le_of_lt (Nat.zero_le _) rowK;omega⟩
  rw [hm] at h
  have c8:Tryz.prog.cellsOf 5=1:=by kernel_rfl
  have c32:Tryz.prog.cellsOf 23=1:=by kernel_rfl
  simp [Program.keyLits,Tryz.underlying49,Tryz.underlying5,Tryz.underlying23,cellsK,c8,c32] at h
  cases c0 <;> try (simp at h;done)
  rename_i q0 n0
  by_cases h0:q0=.u8∧(Lit.int .u8 n0).wf=true
  · obtain ⟨rfl,w0⟩:=h0
    simp [w0] at h
    cases c1 <;> try (simp at h;done)
    rename_i q1 n1
    by_cases h1:q1=.u32∧(Lit.int .u32 n1).wf=true
    · obtain ⟨rfl,w1⟩:=h1
      simp [w1] at h
      cases c2 <;> try (simp at h;done)
      rename_i q2 n2
      by_cases h2:q2=.u32∧(Lit.int .u32 n2).wf=true
      · obtain ⟨rfl,w2⟩:=h2
        exact ⟨⟨n0,n1,n2⟩,⟨w0,w1,w2⟩,rfl⟩
      · simp only [if_neg h2] at h
        simp at h
    · simp only [if_neg h1] at h
      simp at h
  · simp only [if_neg h0] at h
    simp at h
theorem keyOf_inv {v:Value} {l:Lit} (h:keyOf Tryz.prog 49 v=some l):∃ x:Ky,x.ok∧v=x.v:=by
  unfold keyOf at h
  rw [Tryz.underlying49] at h
  simp only [keyTypeK,Bool.true_and] at h
  split at h
  · rename_i hf
    cases v <;> try (simp [Value.formed,Tryz.underlying49] at hf;done)
    rename_i cs
    simp [Value.formed,Tryz.underlying49,cellsK] at hf
    obtain ⟨cl⟩:=cs
    match cl,hf with
    | [c0,c1,c2],_=>
      cases e:Tryz.prog.keyLits (Tryz.prog.types.size + 1) 49 [c0,c1,c2] with
      | none=>
        have e2:Tryz.prog.keyLits (Tryz.prog.types.size + 1) 49 (Value.agg ⟨[c0,c1,c2]⟩).cells.toList=none:=e
        rw [e2] at h;cases h
      | some ls=>exact keyLits_inv e
  · cases h
noncomputable def KK:KE Tryz.prog 49 Ky where
  kv x:=x.v
  ok x:=x.ok
  kl x:=(keyOf Tryz.prog 49 x.v).getD (.bool false)
  keyed:=keyedK
  key x hx:=by obtain ⟨l,e⟩:=keyOf_ky x hx;rw [e];rfl
  inv v l h:=by
    obtain ⟨x,hx,rfl⟩:=keyOf_inv h
    exact ⟨x,hx,rfl,by rw [h];rfl⟩
  inj x y h:=by
    obtain ⟨a,b,c⟩:=x
    obtain ⟨a',b',c'⟩:=y
    simpa [Ky.v] using h
theorem wf8 {x:Int} (h:0≤x∧x≤255):(Lit.int .u8 x).wf=true:=by
  have a1:IntKind.u8.min=0:=by decide
  have a2:IntKind.u8.max=255:=by decide
  simp [Lit.wf,a1,a2];exact h
theorem wf32 {x:Int} (h:0≤x∧x≤4294967295):(Lit.int .u32 x).wf=true:=by
  have a1:IntKind.u32.min=0:=by decide
  have a2:IntKind.u32.max=4294967295:=by decide
  simp [Lit.wf,a1,a2];exact h
theorem kk_ok {k a b:Int} (h:kok k a b):KK.ok ⟨k,a,b⟩:=⟨wf8 h.1,wf32 h.2.1,wf32 h.2.2⟩
def RVa (v:Value):Option (DataW Unit × List MemPlace):=
  match v with
  | .agg ⟨[.int .u64 A,.int .u64 B]⟩=>some (.agg [.lit (.int .u64 A),.lit (.int .u64 B)],[])
  | _=>none
def vaEE:EE RVa (Int × Int) where
  ev x:=.agg #[.int .u64 x.1,.int .u64 x.2]
  ed x:=.agg [.lit (.int .u64 x.1),.lit (.int .u64 x.2)]
  mem x:=⟨[],rfl⟩
  inv v z h:=by
    unfold RVa at h
    split at h
    · rename_i A B
      injection h with h
      exact ⟨(A,B),rfl,by rw [← h]⟩
    · cases h
  inj x y h:=by
    obtain ⟨a,b⟩:=x
    obtain ⟨a',b'⟩:=y
    simpa using h
theorem zeroV (w:World):(zeroValue 51).run Tryz.prog w=.ok (vaEE.ev (0,0)) w:=by kernel_rfl
structure WAt (w:World) (p m n:Nat) (f:Wm):Prop where
  box:Box w p #[.map (some m)] 59
  fm:FM KK vaEE w m n f
section
variable {w w':World} {p m n:Nat} {f:Wm}
theorem WAt.fr {S:Nat→Prop} (h:WAt w p m n f) (hf:Fr S w w') (hp:¬ S p) (hm:¬ S m):WAt w' p m n f:=⟨h.box.fr hf hp,h.fm.fr hf hm⟩
theorem WAt.later (h:WAt w p m n f) (hb:Below w.heap.size w w'):WAt w' p m n f:=⟨h.box.later hb,h.fm.later hb⟩
theorem WAt.ne (h:WAt w p m n f):p≠m:=h.fm.ne_box h.box
end
theorem get_any (w:World) (p m n:Nat) (f:Wm) (h:WAt w p m n f) (k a b:Int) (hk:kok k a b) :
    Calls Tryz.prog 16 #[.pointer (some ⟨p,0,none⟩),.agg #[.int .u8 k,.int .u32 a,.int .u32 b]] w fun e w'=>e=.returned (.tuple #[.agg #[.int .u64 (see f k a b).A,.int .u64 (see f k a b).B],.bool (see f k a b).is])∧Below w.heap.size w w':=by
  obtain ⟨A,hA⟩:∃ x,(see f k a b).A=x:=⟨_,rfl⟩
  obtain ⟨B,hB⟩:∃ x,(see f k a b).B=x:=⟨_,rfl⟩
  obtain ⟨q,hq⟩:∃ x,(see f k a b).is=x:=⟨_,rfl⟩
  rw [hA,hB,hq]
  have b1:=new_ (new_ (Below.refl w.heap.size w) (.cells #[.int .u8 k,.int .u32 a,.int .u32 b] 49)) (.cells #[.int .u64 0,.int .u64 0] 51)
  have X3:=(Box.new w #[.int .u8 k,.int .u32 a,.int .u32 b] 49).alloc (.cells #[.int .u64 0,.int .u64 0] 51)
  have X4:=Box.new (w.alloc (.cells #[.int .u8 k,.int .u32 a,.int .u32 b] 49)) #[.int .u64 0,.int .u64 0] 51
  rw [World.size_alloc] at X4
  obtain ⟨w1,hw1⟩:∃ x,(w.alloc (.cells #[.int .u8 k,.int .u32 a,.int .u32 b] 49)).alloc (.cells #[.int .u64 0,.int .u64 0] 51)=x:=⟨_,rfl⟩
  have s1:w1.heap.size=w.heap.size + 2:=by rw [← hw1];simp
  rw [hw1] at b1 X3 X4
  obtain ⟨x3,hx3⟩:∃ x,w.heap.size=x:=⟨_,rfl⟩
  rw [hx3] at s1 X3 X4 b1 ⊢
  have h1:=h.later (by rw [hx3];exact b1)
  have hp:=h.box.lt
  rw [hx3] at hp
  have lk:∀ W,Below w1.heap.size w1 W→(Instr.lookup 57 (.map (some m)) (.agg #[.int .u8 k,.int .u32 a,.int .u32 b]) true).run Tryz.prog W=.ok (.tuple #[.agg #[.int .u64 A,.int .u64 B],.bool q]) W:=fun W hb=>by
    have:=((h1.fm.later hb).look (t:=57) Tryz.underlying57 (0,0) (zeroV W) ⟨k,a,b⟩ (kk_ok hk)).2
    rw [← hA,← hB,← hq]
    exact this
  have c0:=h1.box.cell 0
  have c30:=X3.cell 0
  have c31:=X3.cell 1
  have c32:=X3.cell 2
  simp only [List.getElem?_toArray,List.getElem?_cons_zero,List.getElem?_cons_succ] at c0 c30 c31 c32
  have LK:=Lib.hid lk
  have l1:=lk w1 (Below.refl _ _)
  have HB:=Lib.hid b1
  have HX:=Lib.hid X4
  have HS:=Lib.hid s1
  clear h h1 b1 X3 X4 lk hA hB hq s1
  go_enter Tryz.func16,Tryz.ntmps16
  go_upto_region 1 with fail
  clear hw1
  have hp1:p < w1.heap.size:=by rw [HS.out];omega
  have hp3:x3 < w1.heap.size:=by rw [HS.out];omega
  have l2:=LK.out (w1.alloc (.cells #[.int .u64 0,.int .u64 0] 51)) (new_ (Below.refl _ _) _)
  have l3:=LK.out w1.drew (Below.drew (Below.refl _ _))
  have l4:=LK.out (w1.alloc (.cells #[.int .u64 0,.int .u64 0] 51)).drew (Below.drew (new_ (Below.refl _ _) _))
  go_region
  all_goals
    clear l1 l2 l3 l4 c0 c30 c31 c32 hp1 hp3
    obtain ⟨w2,hw2⟩:∃ x,(w1.alloc (.cells #[.int .u64 A,.int .u64 B] 51)).drew=x:=⟨_,rfl⟩
    have b2:Below w1.heap.size w1 w2:=by rw [← hw2];exact Below.drew (new_ (Below.refl _ _) _)
    have X6:Box w2 w1.heap.size #[.int .u64 A,.int .u64 B] 51:=by rw [← hw2];exact (Box.new _ _ _).drew
    have X42:=HX.out.later b2
    rw [HS.out] at X6
    have c6:=X6.cell
    have c4:=X42.cell
    have f4:=X42.frozen
    have B2:=Lib.hid (show Below x3 w w2 from HB.out.trans (b2.mono (by rw [HS.out];omega)))
    rw [hw2,HS.out]
    clear hw2 b2 X6
    go_wp2
    have Y:=Box.set_ (Box.set_ X42 0 (.int .u64 A)) 1 (.int .u64 B)
    have BY:=((B2.out.setCell (p:=⟨x3 + 1,0,none⟩) (Nat.le_succ _) (.int .u64 A)).setCell (p:=⟨x3 + 1,1,none⟩) (Nat.le_succ _) (.int .u64 B))
    generalize ((w2.setCell ⟨x3 + 1,0,none⟩ (.int .u64 A)).setCell ⟨x3 + 1,1,none⟩ (.int .u64 B))=w3 at Y BY ⊢
    have y0:w3.cell? ⟨x3 + 1,0,none⟩=some (.int .u64 A):=by rw [Y.cell 0];rfl
    have y1:w3.cell? ⟨x3 + 1,1,none⟩=some (.int .u64 B):=by rw [Y.cell 1];rfl
    refine bodyPost_ret (v:=.tuple #[.agg #[.int .u64 A,.int .u64 B],.bool q]) (by simp [results,Tryz.results16,go_sem,y0,y1];try rfl) rfl ?_
    exact ⟨rfl,BY⟩
end Go.Proofs.YtabckmadpdchnaaGreat.Rule
namespace Go.Proofs.YtabckmadpdchnaaGreat.Rule
open Go.ChangeShapes Go.WideShapes Go.ChangeAt Go.RowKit Go.IntWalk Go.Proofs.Mem
attribute [local go_sem ↓] Go.wp_at_zero Go.wp_at_succ
def Ce.cells (c:Ce):List Value:=[.int .u8 c.k,.int .u32 c.a,.int .u32 c.b,.int .u64 c.A,.int .u64 c.B,.bool c.is]
abbrev SeenAt (w:World) (b:Nat) (v:Value) (seen:List Ce):Prop:=SS Ce.cells 6 w b v seen
theorem more_all (a n:Int) (ha:0≤a∧a≤18446744073709551615) (hn:0≤n∧n≤18446744073709551615) (w:World) :
    Calls Tryz.prog 83 #[.int .u64 a,.int .u64 n] w fun e w'=>(if 4611686018427387904 < a∨4611686018427387904 < n∨4611686018427387904 < a + n then e=.panicked (raise_ 30) else e=.returned (.int .u64 (a + n)))∧Below w.heap.size w w':=by
  by_cases h:4611686018427387904 < a∨4611686018427387904 < n∨4611686018427387904 < a + n
  · have hs:Money.addS a n=(0,30):=by unfold Money.addS;rw [if_pos h]
    have call:=fun W=>Money.add_any a n ha hn W
    rw [hs] at call
    dsimp only at call
    have CALL:=Lib.hid call
    simp only [if_pos h]
    clear hs call h ha hn
    go_enter Tryz.func83,Tryz.ntmps83
    go_wp2_with (first
      | (go_at_call 54;(with_reducible refine (CALL.out _).mono ?_);rintro e w1 ⟨rfl,hb1⟩;have HB1:=Lib.hid hb1;clear hb1)
      | (go_at_call 60;(with_reducible refine (deny_yes 30 _).mono ?_);rintro e w2 ⟨rfl,rfl⟩))
    exact ⟨rfl,rfl,HB1.out⟩
  · have hs:Money.addS a n=(a + n,0):=by unfold Money.addS;rw [if_neg h]
    have call:=fun W=>Money.add_any a n ha hn W
    rw [hs] at call
    dsimp only at call
    have CALL:=Lib.hid call
    simp only [if_neg h]
    clear hs call h ha hn
    go_enter Tryz.func83,Tryz.ntmps83
    go_wp2_with (first
      | (go_at_call 54;(with_reducible refine (CALL.out _).mono ?_);rintro e w1 ⟨rfl,hb1⟩;have HB1:=Lib.hid hb1;clear hb1)
      | (go_at_call 60;(with_reducible refine (deny_no 0 _).mono ?_);rintro e w2 ⟨rfl,rfl⟩))
    go_ret
    exact ⟨rfl,HB1.out⟩
theorem less_all (a n:Int) (ha:0≤a∧a≤18446744073709551615) (hn:0≤n∧n≤18446744073709551615) (w:World) :
    Calls Tryz.prog 84 #[.int .u64 a,.int .u64 n] w fun e w'=>(if 4611686018427387904 < a∨4611686018427387904 < n then e=.panicked (raise_ 30) else if a < n then e=.panicked (raise_ 215) else e=.returned (.int .u64 (a - n)))∧Below w.heap.size w w':=by
  by_cases h:4611686018427387904 < a∨4611686018427387904 < n
  · have hs:Money.subS a n=(0,30):=by unfold Money.subS;rw [if_pos h]
    have call:=fun W=>Money.sub_any a n ha hn W
    rw [hs] at call
    dsimp only at call
    have CALL:=Lib.hid call
    simp only [if_pos h]
    clear hs call h ha hn
    go_enter Tryz.func84,Tryz.ntmps84
    go_wp2_with (first
      | (go_at_call 104;(with_reducible refine (CALL.out _).mono ?_);rintro e w1 ⟨rfl,hb1⟩;have HB1:=Lib.hid hb1;clear hb1)
      | (go_at_call 60;(with_reducible refine (deny_no 215 _).mono ?_);rintro e w2 ⟨rfl,rfl⟩)
      | (go_at_call 60;(with_reducible refine (deny_yes 30 _).mono ?_);rintro e w2 ⟨rfl,rfl⟩))
    exact ⟨rfl,rfl,HB1.out⟩
  · by_cases h2:a < n
    · have hs:Money.subS a n=(0,31):=by unfold Money.subS;rw [if_neg h,if_pos h2]
      have call:=fun W=>Money.sub_any a n ha hn W
      rw [hs] at call
      dsimp only at call
      have CALL:=Lib.hid call
      simp only [if_neg h,if_pos h2]
      clear hs call h h2 ha hn
      go_enter Tryz.func84,Tryz.ntmps84
      go_wp2_with (first
        | (go_at_call 104;(with_reducible refine (CALL.out _).mono ?_);rintro e w1 ⟨rfl,hb1⟩;have HB1:=Lib.hid hb1;clear hb1)
        | (go_at_call 60;(with_reducible refine (deny_yes 215 _).mono ?_);rintro e w2 ⟨rfl,rfl⟩))
      exact ⟨rfl,rfl,HB1.out⟩
    · have hs:Money.subS a n=(a - n,0):=by unfold Money.subS;rw [if_neg h,if_neg h2]
      have call:=fun W=>Money.sub_any a n ha hn W
      rw [hs] at call
      dsimp only at call
      have CALL:=Lib.hid call
      simp only [if_neg h,if_neg h2]
      clear hs call h h2 ha hn
      go_enter Tryz.func84,Tryz.ntmps84
      go_wp2_with (first
        | (go_at_call 104;(with_reducible refine (CALL.out _).mono ?_);rintro e w1 ⟨rfl,hb1⟩;have HB1:=Lib.hid hb1;clear hb1)
        | (go_at_call 60;(with_reducible refine (deny_no 215 _).mono ?_);rintro e w2 ⟨rfl,rfl⟩)
        | (go_at_call 60;(with_reducible refine (deny_no 0 _).mono ?_);rintro e w2 ⟨rfl,rfl⟩))
      go_ret
      exact ⟨rfl,HB1.out⟩
def LookIs (w:World) (g:Nat) (q:Ot) (v:Value) (i:Nat) (p:Value) (seen:List Ce) (k a b:Int) (e:Ending) (w':World):Prop:=
  (seen[i]?=none∧e=.panicked (raiseK k a b)∧Below w.heap.size w w') ∨
  ∃ c,seen[i]?=some c∧e=.returned (.agg (thing c.vA c.vB k a b c.is))∧WorkAt w' g q v (i + 1:Nat) p∧Fr (fun x=>x=g) w w'
theorem look_any (w:World) (g:Nat) (q:Ot) (v:Value) (i:Nat) (p:Value) (seen:List Ce) (hb:WorkAt w g q v i p) (hs:SeenAt w g v seen) (hi:i≤1000000) (k a b:Int) :
    Calls Tryz.prog 79 #[.pointer (some ⟨g,7,none⟩),.agg #[.int .u8 k,.int .u32 a,.int .u32 b]] w (LookIs w g q v i p seen k a b):=by
  obtain ⟨A,c,rfl,h1,h2⟩:=hs.form
  have hc:c≤9223372036854775807:=by unfold maxLen at h2;omega
  cases e:seen[i]? with
  | none=>exact (look_miss w g q A _ c i p hb (List.getElem?_eq_none_iff.1 e) hi k a b).mono fun _ _ ⟨h3,h4⟩=>.inl ⟨e,h3,h4⟩
  | some x=>
    obtain ⟨b0,off,rfl,hlt,hx⟩:=hs.at_ e
    exact (look_hit w g q b0 off _ c i p hb (List.getElem?_eq_some_iff.1 e).1 h1 hc k a b x.k x.a x.b x.A x.B x.is (by omega) (hx 0 _ rfl) (hx 1 _ rfl) (hx 2 _ rfl) (hx 3 _ rfl) (hx 4 _ rfl) (hx 5 _ rfl)).mono fun _ _ ⟨h3,h4,h5⟩=>.inr ⟨x,e,h3,h4,h5⟩
end Go.Proofs.YtabckmadpdchnaaGreat.Rule
namespace Go.Proofs.YtabckmadpdchnaaGreat.Rule
open Go.ChangeShapes Go.WideShapes Go.ChangeAt Go.RowKit Go.IntWalk Go.Proofs.Mem Law
theorem Box.kept {w w':World} {g:Nat} {C:Array Value} {t:TypeId} (h:Box w g C t) {m:Nat} (hg:w.drew.grownBy w' (some m)) (hne:g≠m):Box w' g C t:=
  (hg.block g h.lt (fun e=>hne (by injection e))).trans h
theorem WAt.mono {w:World} {p m n n':Nat} {f:Wm} (h:WAt w p m n f) (hn:n≤n'):WAt w p m n' f:=⟨h.box,h.fm.mono hn⟩
theorem put_w (w:World) (p m n:Nat) (f:Wm) (h:WAt w p m n f) (hn:n < maxLen) (x:Pu) (hx:x.fit) :
    Calls Tryz.prog 22 #[.pointer (some ⟨p,0,none⟩),.agg #[.int .u8 x.k,.int .u32 x.a,.int .u32 x.b,.int .u64 x.A,.int .u64 x.B,.bool x.gone]] w fun e w'=>e=.returned (.tuple #[])∧WAt w' p m (n + 1) (putF f x)∧Fr (fun g=>g=m) w w':=by
  obtain ⟨k,a,b,A,B,gone⟩:=x
  have hk:=kk_ok hx.key
  have b1:=new_ (Below.refl w.heap.size w) (.cells #[.int .u8 k,.int .u32 a,.int .u32 b,.int .u64 A,.int .u64 B,.bool gone] 69)
  have X3:=Box.new w #[.int .u8 k,.int .u32 a,.int .u32 b,.int .u64 A,.int .u64 B,.bool gone] 69
  obtain ⟨w1,hw1⟩:∃ x,w.alloc (.cells #[.int .u8 k,.int .u32 a,.int .u32 b,.int .u64 A,.int .u64 B,.bool gone] 69)=x:=⟨_,rfl⟩
  have s1:w1.heap.size=w.heap.size + 1:=by rw [← hw1];simp
  rw [hw1] at b1 X3
  have h1:=h.later b1
  have hp:=h1.box.lt
  have hx3:=X3.lt
  have c0:=h1.box.cell 0
  have c30:=X3.cell 0
  have c31:=X3.cell 1
  have c32:=X3.cell 2
  have c33:=X3.cell 3
  have c34:=X3.cell 4
  have c35:=X3.cell 5
  simp only [List.getElem?_toArray,List.getElem?_cons_zero,List.getElem?_cons_succ] at c0 c30 c31 c32 c33 c34 c35
  have HF:=Lib.hid (Fr.of_below b1:Fr (fun g=>g=m) w w1)
  have H1:=Lib.hid h1
  have HNE:=Lib.hid h1.ne
  obtain ⟨x3,hxx⟩:∃ x,w.heap.size=x:=⟨_,rfl⟩
  rw [hxx] at c30 c31 c32 c33 c34 c35 hx3
  cases gone with
  | true=>
    obtain ⟨w2,hrun,hfm,hg⟩:=(h1.fm.drew).drop (t:=57) Tryz.underlying57 ⟨k,a,b⟩ hk 0
    change (Builtin.delete_ _ _ #[_,.agg #[.int .u8 k,.int .u32 a,.int .u32 b]]).run _ _=_ at hrun
    have HFM:=Lib.hid hfm
    have HG:=Lib.hid hg
    clear h h1 X3 b1 s1 hfm hg hx hk
    go_enter Tryz.func22,Tryz.ntmps22
    go_upto_region 2 with fail
    clear hw1
    go_region
    all_goals
      go_wp2
      go_end0
      exact ⟨rfl,⟨Box.kept H1.out.box HG.out HNE.out,HFM.out.mono (Nat.le_succ _)⟩,HF.out.trans ((Fr.refl _ _).drew.grown HG.out (fun g e=>.inl (by injection e with e;exact e.symm)))⟩
  | false=>
    obtain ⟨w2,hrun,hfm,hg⟩:=(h1.fm.drew).put (t:=57) Tryz.underlying57 hn ⟨k,a,b⟩ hk (A,B)
    change (Instr.mapUpdate _ _ (.agg #[.int .u8 k,.int .u32 a,.int .u32 b]) (.agg #[.int .u64 A,.int .u64 B])).run _ _=_ at hrun
    have HFM:=Lib.hid hfm
    have HG:=Lib.hid hg
    clear h h1 X3 b1 s1 hfm hg hx hk
    go_enter Tryz.func22,Tryz.ntmps22
    go_upto_region 3 with fail
    clear hw1
    go_region
    all_goals
      go_wp2
      go_end0
      exact ⟨rfl,⟨Box.kept H1.out.box HG.out HNE.out,HFM.out⟩,HF.out.trans ((Fr.refl _ _).drew.grown HG.out (fun g e=>.inl (by injection e with e;exact e.symm)))⟩
def cF (f:Wm) (c:Ce):Wm:=if c.is then putF f ⟨c.k,c.a,c.b,c.A,c.B,false⟩ else f
def ofF (l:List Ce):Wm:=l.foldl cF (fun _=>none)
theorem ofF_take {l:List Ce} {j:Nat} {c:Ce} (h:l[j]?=some c):ofF (l.take (j + 1))=cF (ofF (l.take j)) c:=by
  rw [List.take_add_one,h]
  simp [ofF]
structure Ce.Fit (c:Ce):Prop where
  key:kok c.k c.a c.b
  ok:c.Ok
theorem Ce.Fit.pu {c:Ce} (h:c.Fit):Pu.fit ⟨c.k,c.a,c.b,c.A,c.B,false⟩:=⟨h.key,h.ok.A,h.ok.B⟩
theorem wok_of {l:List Ce} (h:∀ c∈l,c.Fit):Wok (ofF l):=by
  have:∀ (l:List Ce) (f:Wm),Wok f→(∀ c∈l,c.Fit)→Wok (l.foldl cF f):=by
    intro l
    induction l with
    | nil=>exact fun f hf _=>hf
    | cons c l ih=>
      intro f hf hl
      refine ih (cF f c) ?_ (fun x hx=>hl x (by simp [hx]))
      unfold cF
      split
      · exact hf.put (hl c (by simp)).pu
      · exact hf
  exact this l _ Wok.none h
theorem cell_at {w:World} {b off j:Nat} {c:Ce} (h:∀ t u,c.cells[t]?=some u→w.cell? ⟨b,off + j * 6 + t,none⟩=some u) :
    w.cell? ⟨b,off + j * 6,none⟩=some (.int .u8 c.k)∧w.cell? ⟨b,off + j * 6 + 1,none⟩=some (.int .u32 c.a)∧w.cell? ⟨b,off + j * 6 + 2,none⟩=some (.int .u32 c.b)∧w.cell? ⟨b,off + j * 6 + 3,none⟩=some (.int .u64 c.A)∧w.cell? ⟨b,off + j * 6 + 4,none⟩=some (.int .u64 c.B)∧w.cell? ⟨b,off + j * 6 + 5,none⟩=some (.bool c.is):=
  ⟨h 0 _ rfl,h 1 _ rfl,h 2 _ rfl,h 3 _ rfl,h 4 _ rfl,h 5 _ rfl⟩
theorem of_any (w:World) (v:Value) (xs:List Ce) (hv:SeenAt w w.heap.size v xs) (hx:∀ c∈xs,c.Fit) (hl:xs.length≤100000) :
    Calls Tryz.prog 15 #[v] w fun e w'=>∃ p m,e=.returned (.pointer (some ⟨p,0,none⟩))∧w.heap.size≤p∧w.heap.size≤m∧WAt w' p m xs.length (ofF xs)∧Below w.heap.size w w':=by
  obtain ⟨Av,cv,rfl,hlc,_⟩:=hv.form
  have hmm:=@run_makeMap Tryz.prog
  have n1:FM KK vaEE (w.alloc (.map #[] 0)) w.heap.size 0 (fun _=>none):=FM.made _ _ _
  have b1:=new_ (Below.refl w.heap.size w) (.map #[] 0)
  have X:=Box.new (w.alloc (.map #[] 0)) #[.map (some w.heap.size)] 59
  have b2:=new_ (Below.refl (w.alloc (.map #[] 0)).heap.size (w.alloc (.map #[] 0))) (.cells #[.map (some w.heap.size)] 59)
  obtain ⟨w1,hw1⟩:∃ x,(w.alloc (.map #[] 0)).alloc (.cells #[.map (some w.heap.size)] 59)=x:=⟨_,rfl⟩
  have n2:=n1.later b2
  have hb:=b1.trans (b2.mono b1.size)
  rw [hw1] at X n2 hb
  rw [World.size_alloc] at X
  obtain ⟨m,hm⟩:∃ m,w.heap.size=m:=⟨_,rfl⟩
  have START:=Lib.hid (show WAt w1 (m + 1) m 0 (ofF (xs.take 0)) from by rw [← hm];exact ⟨X,n2⟩)
  have HB:=Lib.hid (show Below m w w1 by rw [← hm];exact hb)
  have HV:=Lib.hid (show SeenAt w m (.slice Av xs.length cv) xs by rw [← hm];exact hv)
  have HX:=Lib.hid hx
  have HM:=Lib.hid hm
  clear n1 b1 X b2 n2 hb hx hv
  go_enter Tryz.func15,Tryz.ntmps15
  go_upto_region 2 with fail
  clear hmm
  rw [hm] at hw1
  rw [hw1]
  clear hw1
  go_wp2
  go_loopw [11] (fun i wr=>∃ (j:Nat),j≤xs.length∧i=.int .i64 j∧Hid (WAt wr (m + 1) m j (ofF (xs.take j)))∧Hid (Below m w wr)) (fun i _=>xs.length - (intOf i).toNat)
  case atStart=>exact ⟨0,Nat.zero_le _,rfl,START,HB⟩
  case round=>
    clear START HB
    obtain ⟨j,hj,rfl,HW,HB⟩:=hrel
    by_cases hlt:j < xs.length
    · obtain ⟨c,hc⟩:∃ x,xs[j]?=some x:=⟨_,List.getElem?_eq_getElem hlt⟩
      have d1:decide ((j:Int) < (xs.length:Int))=true:=by simp;omega
      have q1:decide (j < xs.length)=true:=by simp;omega
      obtain ⟨b,off,rfl,hb,hat⟩:=HV.out.at_ hc
      obtain ⟨z0,z1,z2,z3,z4,z5⟩:=cell_at (w:=wr) (fun t u hu=>(HB.out.cell (p:=⟨b,off + j * 6 + t,none⟩) hb).trans (hat t u hu))
      have HC:=Lib.hid (HX.out c (List.mem_of_getElem? hc))
      have HT:=Lib.hid (ofF_take hc)
      clear hat hc hb
      go_upto_region 5 with fail
      obtain ⟨w4,hw4⟩:∃ x,wr.alloc (.cells #[.int .u8 c.k,.int .u32 c.a,.int .u32 c.b,.int .u64 c.A,.int .u64 c.B,.bool c.is] 53)=x:=⟨_,rfl⟩
      have hb4:Below wr.heap.size wr w4:=by rw [← hw4];exact new_ (Below.refl _ _) _
      have X5:Box w4 wr.heap.size #[.int .u8 c.k,.int .u32 c.a,.int .u32 c.b,.int .u64 c.A,.int .u64 c.B,.bool c.is] 53:=by rw [← hw4];exact Box.new _ _ _
      have HW4:=Lib.hid (HW.out.later hb4)
      have HB4:=Lib.hid (HB.out.trans (hb4.mono (by rw [← HM.out];exact HB.out.size)))
      have hx5:=X5.lt
      have hp:=HW4.out.box.lt
      have e0:=HW4.out.box.cell 0
      have e1:=X5.cell 0
      have e2:=X5.cell 1
      have e3:=X5.cell 2
      have e4:=X5.cell 3
      have e5:=X5.cell 4
      have e6:=X5.cell 5
      simp only [List.getElem?_toArray,List.getElem?_cons_zero,List.getElem?_cons_succ] at e0 e1 e2 e3 e4 e5 e6
      rw [hw4]
      clear hw4 hb4 X5 z0 z1 z2 z3 z4 z5 HW HB
      generalize wr.heap.size=x5 at *
      cases hci:c.is with
      | true=>
        rw [hci] at e6
        obtain ⟨w5,hrun,hfm,hg⟩:=(HW4.out.fm.drew).put (t:=57) Tryz.underlying57 (by unfold maxLen;omega) ⟨c.k,c.a,c.b⟩ (kk_ok HC.out.key) (c.A,c.B)
        change (Instr.mapUpdate _ _ (.agg #[.int .u8 c.k,.int .u32 c.a,.int .u32 c.b]) (.agg #[.int .u64 c.A,.int .u64 c.B])).run _ _=_ at hrun
        have hf5:Fr (fun g=>g=m) w4 w5:=(Fr.refl _ _).drew.grown hg (fun g e=>.inl (by injection e with e;exact e.symm))
        have HW5:=Lib.hid (show WAt w5 (m + 1) m (j + 1) (ofF (xs.take (j + 1))) by
          rw [HT.out]
          unfold cF
          rw [hci]
          exact ⟨HW4.out.box.fr hf5 (by omega),hfm⟩)
        have HB5:=Lib.hid (HB4.out.trans (hf5.to_below (fun k hk=>by omega) (by rw [← HM.out];exact HB4.out.size)))
        clear hfm hg hf5 HW4 HB4
        go_upto_region 6 with fail
        go_region
        all_goals
          go_wp2
          go_roundw
          case rel=>exact ⟨j + 1,by omega,by go_num,HW5,HB5⟩
          case measure=>simp [intOf];omega
      | false=>
        rw [hci] at e6
        have HW5:=Lib.hid (show WAt w4 (m + 1) m (j + 1) (ofF (xs.take (j + 1))) by
          rw [HT.out]
          unfold cF
          rw [hci]
          exact HW4.out.mono (Nat.le_succ _))
        go_wp2
        go_roundw
        case rel=>exact ⟨j + 1,by omega,by go_num,HW5,HB4⟩
        case measure=>simp [intOf];omega
    · have d1:decide ((j:Int) < (xs.length:Int))=false:=by simp;omega
      obtain rfl:j=xs.length:=by omega
      have hb:=HB.out
      have hw:=HW.out
      rw [List.take_length] at hw
      have HW2:=Lib.hid hw
      go_wp2
      go_ret
      exact ⟨m + 1,m,rfl,by omega,by omega,HW2.out,by rw [HM.out];exact hb⟩
theorem new_w (w:World):Calls Tryz.prog 7 #[] w fun e w'=>∃ p m,e=.returned (.pointer (some ⟨p,0,none⟩))∧w.heap.size≤p∧w.heap.size≤m∧WAt w' p m 0 (fun _=>none)∧Below w.heap.size w w':=by
  have H:=Lib.hid (of_any w (.slice none 0 0) [] (SS.nil _ _) (fun c hc=>by cases hc) (Nat.zero_le _))
  go_enter Tryz.func7,Tryz.ntmps7
  go_wp2_with fail
  (with_reducible refine H.out.mono ?_)
  rintro e w1 ⟨p,m,rfl,h1,h2,h3,h4⟩
  go_wp2
  go_ret
  exact ⟨p,m,rfl,h1,h2,h3,h4⟩
end Go.Proofs.YtabckmadpdchnaaGreat.Rule
namespace Go.Proofs.Mem
open Go.RowKit Go.WideShapes
section
variable {α:Type} {F:α→List Value} {sz:Nat}
theorem flat_len (hF:∀ x,(F x).length=sz):∀ l:List α,(l.flatMap F).length=l.length * sz
  | []=>by simp
  | x :: l=>by rw [List.flatMap_cons,List.length_append,hF,flat_len hF l,List.length_cons,Nat.succ_mul];omega
theorem flat_at (hF:∀ x,(F x).length=sz):∀ (l:List α) (i:Nat) (x:α) (j:Nat),l[i]?=some x→j < sz→(l.flatMap F)[i * sz + j]?=(F x)[j]?
  | [],i,x,j,h,_=>by simp at h
  | y :: l,0,x,j,h,hj=>by
    simp at h
    subst h
    rw [Nat.zero_mul,Nat.zero_add,List.flatMap_cons,List.getElem?_append_left (by rw [hF];exact hj)]
  | y :: l,i + 1,x,j,h,hj=>by
    have:=flat_at hF l i x j (by simpa using h) hj
    rw [List.flatMap_cons,List.getElem?_append_right (by rw [hF,Nat.succ_mul];omega),hF,← this]
    congr 1
    rw [Nat.succ_mul];omega
theorem SS.of_own {w:World} {base:Nat} {e:TypeId} {v:Value} {xs:List α} (hF:∀ x,(F x).length=sz) (h:w.ownsRow base e sz v xs.length (xs.flatMap F)):SS F sz w w.heap.size v xs:=by
  have h':=h
  rcases h.2 with ⟨rfl,hn⟩ | ⟨g,cap,cur,rfl,hg,hh,hnc,hm,_,_⟩
  · have:xs=[]:=List.eq_nil_of_length_eq_zero hn
    subst this
    exact SS.nil _ _
  · have hlt:=(h.lt g rfl).2
    refine ⟨some ⟨g,0,none⟩,cap,rfl,hnc,hm,fun i x hx=>⟨g,0,rfl,hlt,fun j u hu=>?_⟩⟩
    have hi:i < xs.length:=(List.getElem?_eq_some_iff.1 hx).1
    have hj:j < sz:=by rw [← hF x];exact (List.getElem?_eq_some_iff.1 hu).1
    have hlt2:i * sz + j < xs.length * sz:=by
      have h1:(i + 1) * sz≤xs.length * sz:=Nat.mul_le_mul_right sz hi
      rw [Nat.succ_mul] at h1
      omega
    rw [Nat.zero_add,h'.cellAt (i * sz + j) hlt2,flat_at hF xs i x j hx hj,hu]
theorem wpList_push_ss {P:Program} (w:World) {ops:Array Oper} {rest:List Oper} {o:Oper} {a:Act} {Q:Exit→Act→World→Prop} (hgd:o.guard=none) (s x:Operand) (t:TypeId)
    (ho:o.op=.call { callee:=.builtin .append,args:=#[s,x],argTypes:=#[t,t] })
    (base:Nat) (e:TypeId) (i:TypeInfo) (z:Value) (bytes:Nat) (ht:P.underlying t=some (.slice e)) (hi:P.info? e=some i) (hz:i.zero=some z)
    (hsize:i.size=sz) (hby:i.bytes=bytes) (hzs:z.cells.size=sz) (hsz:0 < sz) (hF:∀ y,(F y).length=sz) (h1:∀ y:α,∀ u∈F y,u.oneCell'=true)
    (v:Value) (xs:List α) (hs:a.eval s=v) (hown:w.ownsRow base e sz v xs.length (xs.flatMap F))
    (g:Nat) (y:α) (T:TypeId) (hx:a.eval x=.slice (some ⟨g,0,none⟩) 1 1) (hc:Box w g (F y).toArray T) (h63:xs.length + 1≤maxLen) (hbytes:(xs.length + 1) * bytes≤140737488355328) (hbase:base≤w.heap.size)
    (h:∀ v' w',w'.ownsRow base e sz v' (xs++[y]).length ((xs++[y]).flatMap F)→RowTo w w' v v'→wpList P ops Q rest (a.put o.dst v') w'):wpList P ops Q (o :: rest) a w:=by
  refine wpList_plain hgd fun K hK'=>?_
  obtain ⟨v',w',hrun,h2,h3,_,h5⟩:=run_append_own_at (P:=P) (w:=w) base t o.type e i z sz bytes ht hi hz hsize hby hzs hsz v xs.length _ hown ⟨g,0,none⟩ 1 1 (F y) (by rw [hF];omega) (by
    intro j u hj
    rw [Go.WideShapes.add_plain,Nat.zero_add,hc.cell j]
    simpa using hj) (h1 y) h63 hbytes hbase
  unfold Oper.wp
  simp [execOp,ho,resolve,invoke,builtin,hs,hx,hrun,Result.andThen]
  exact hK' _ _ (h v' w' (by rw [List.length_append,List.flatMap_append];simpa using h2) (RowTo.app h3 h5))
end
end Go.Proofs.Mem
