import Derived.Test.YtabckmadpdchnaaGreatBox
import Derived.Test.YtabckmadpdchnaaGreatLaw
import Derived.Test.YtabckmadpdchnaaGreatMem2
import Derived.Test.YtabckmadpdchnaaGreatMo0
import Derived.Test.YtabckmadpdchnaaGreatMo1
import Derived.Below
import Derived.BigQuiet
import Derived.Deep.QuietTactic
import Derived.Laws.MathBits
import Derived.Lib.Hide
import Derived.Orders
import Derived.ProofKit
import Derived.WalkKit
set_option linter.unusedVariables false
set_option linter.unusedSimpArgs false
set_option linter.unnecessarySimpa false
set_option maxRecDepth 100000
set_option maxHeartbeats 8000000
namespace Go.Proofs.YtabckmadpdchnaaGreat.Rule
open Go.ChangeShapes Go.WideShapes Go.ChangeAt Go.RowKit Go.IntWalk Go.Proofs.Mem
attribute [local go_sem ↓] Go.wp_at_zero Go.wp_at_succ
theorem there_no (w:World) (g:Nat) (q:Ot) (b0 o0:Nat) (l c:Nat) (i:Nat) (p:Value) (hb:WorkAt w g q (.slice (some ⟨b0,o0,none⟩) l c) i p) (hi:i < l) (hl:l≤c) (hm:c≤9223372036854775807) (k a b:Int)
    (k' a' b' A B:Int) (hbg:b0≠g) (hc:CellAt w b0 (o0 + i * 6) k' a' b' A B false) :
    Calls Tryz.prog 82 #[.pointer (some ⟨g,7,none⟩),.agg #[.int .u8 k,.int .u32 a,.int .u32 b]] w fun e w'=>e=.panicked (raise_ 211)∧Fr (fun x=>x=g) w w':=by
  have hlt:=hb.lt
  have hb2:=(hb.alloc (.cells #[.int .u8 k,.int .u32 a,.int .u32 b] 49)).alloc (.cells #[.int .u64 0,.int .u64 0,.int .u8 0,.int .u32 0,.int .u32 0,.bool false] 130)
  have hc2:=hc.below (new_ (new_ (Below.refl w.heap.size w) (.cells #[.int .u8 k,.int .u32 a,.int .u32 b] 49)) (.cells #[.int .u64 0,.int .u64 0,.int .u8 0,.int .u32 0,.int .u32 0,.bool false] 130)) (Law.lt_of_cell hc.h0)
  have call:=look_hit _ g q b0 o0 l c i p hb2 hi hl hm k a b k' a' b' A B false hbg hc2.h0 hc2.h1 hc2.h2 hc2.h3 hc2.h4 hc2.h5
  simp only [Bool.false_eq_true,if_false] at call
  unfold thing at call
  have CALL:=Lib.hid call
  clear hb hb2 hc hc2 call
  go_enter Tryz.func82,Tryz.ntmps82
  go_wp2_with (first
    | (go_at_call 79;(with_reducible refine CALL.out.mono ?_);rintro e w1 ⟨rfl,wb1,fr1⟩
       have tb2:=Box.new w1 #[.int .u64 0,.int .u64 0,.int .u8 k,.int .u32 a,.int .u32 b,.bool false] 130
       have q0:=tb2.cell 0
       have q1:=tb2.cell 1
       have q2:=tb2.cell 2
       have q3:=tb2.cell 3
       have q4:=tb2.cell 4
       have q5:=tb2.cell 5
       simp only [List.getElem?_toArray,List.getElem?_cons_zero,List.getElem?_cons_succ] at q0 q1 q2 q3 q4 q5
       have FR1:=Lib.hid fr1
       clear wb1 fr1 tb2)
    | (go_at_call 60;(with_reducible refine (deny_yes 211 _).mono ?_);rintro e w2 ⟨rfl,rfl⟩))
  exact ⟨rfl,rfl,(((Fr.of_below (new_ (new_ (Below.refl w.heap.size w) _) _)).trans FR1.out).alloc _)⟩
def ThereIs (w:World) (g:Nat) (q:Ot) (v:Value) (i:Nat) (p:Value) (seen:List Ce) (k a b:Int) (e:Ending) (w':World):Prop:=
  (seen[i]?=none∧e=.panicked (raiseK k a b)∧Below w.heap.size w w') ∨
  (∃ c,seen[i]?=some c∧c.is=false∧e=.panicked (raise_ 211)∧Fr (fun x=>x=g) w w') ∨
  ∃ c,seen[i]?=some c∧c.is=true∧e=.returned (.agg (thing c.A c.B k a b true))∧WorkAt w' g q v (i + 1:Nat) p∧Fr (fun x=>x=g) w w'
theorem there_any (w:World) (g:Nat) (q:Ot) (v:Value) (i:Nat) (p:Value) (seen:List Ce) (hb:WorkAt w g q v i p) (hs:SeenAt w g v seen) (hi:i≤1000000) (k a b:Int) :
    Calls Tryz.prog 82 #[.pointer (some ⟨g,7,none⟩),.agg #[.int .u8 k,.int .u32 a,.int .u32 b]] w (ThereIs w g q v i p seen k a b):=by
  obtain ⟨A,c,rfl,h1,h2⟩:=hs.form
  have hc:c≤9223372036854775807:=by unfold maxLen at h2;omega
  cases e:seen[i]? with
  | none=>exact (there_miss w g q A _ c i p hb (List.getElem?_eq_none_iff.1 e) hi k a b).mono fun _ _ ⟨h3,h4⟩=>.inl ⟨e,h3,h4⟩
  | some x=>
    obtain ⟨b0,off,rfl,hlt,hx⟩:=hs.at_ e
    have hil:=(List.getElem?_eq_some_iff.1 e).1
    cases hi2:x.is with
    | false=>exact (there_no w g q b0 off _ c i p hb hil h1 hc k a b x.k x.a x.b x.A x.B (by omega) ⟨hx 0 _ rfl,hx 1 _ rfl,hx 2 _ rfl,hx 3 _ rfl,hx 4 _ rfl,by rw [← hi2];exact hx 5 _ rfl⟩).mono fun _ _ ⟨h3,h4⟩=>.inr (.inl ⟨x,e,hi2,h3,h4⟩)
    | true=>exact (there_hit w g q b0 off _ c i p hb hil h1 hc k a b x.k x.a x.b x.A x.B (by omega) ⟨hx 0 _ rfl,hx 1 _ rfl,hx 2 _ rfl,hx 3 _ rfl,hx 4 _ rfl,by rw [← hi2];exact hx 5 _ rfl⟩).mono fun _ _ ⟨h3,h4,h5⟩=>.inr (.inr ⟨x,e,hi2,h3,h4,h5⟩)
end Go.Proofs.YtabckmadpdchnaaGreat.Rule
namespace Go.Proofs.YtabckmadpdchnaaGreat.Rule
open Go.ChangeShapes Go.WideShapes Go.ChangeAt Go.RowKit Go.IntWalk Go.Proofs.Mem
def NewOwn (p p':Value) (n:Nat):Prop:=∀ x,p'.ownBlock=some x→p.ownBlock=some x∨n≤x
theorem new_own {p:Value} {gg n H m cap:Nat} (h:p.ownBlock=some gg∨gg=H) (hn:n≤H):NewOwn p (.slice (some ⟨gg,0,none⟩) m cap) n:=by
  intro x hx
  injection hx with hx
  subst hx
  rcases h with h | h
  · exact .inl h
  · exact .inr (by show n≤gg;omega)
def PutQ (w:World) (g:Nat) (q:Ot) (v:Value) (i:Int) (p:Value) (base:Nat) (l:List Pu) (e:Ending) (w':World):Prop:=e=.returned (.tuple #[]) ∧
      ∃ p',WorkAt w' g q v i p'∧w'.ownsRow base 69 6 p' l.length (putCells l)∧Fr (fun x=>x=g∨p.ownBlock=some x) w w'∧NewOwn p p' w.heap.size
theorem NewOwn.low {p p':Value} {n m:Nat} (h:NewOwn p p' n) (hm:m≤n):NewOwn p p' m:=fun x hx=>(h x hx).imp id (fun h=>by omega)
theorem put_all (w:World) (g:Nat) (q:Ot) (v:Value) (i:Int) (p:Value) (base:Nat) (l:List Pu) (hb:WorkAt w g q v i p) (hown:w.ownsRow base 69 6 p l.length (putCells l)) (hg:g < base) (hl:l.length≤1000) (hbase:base≤w.heap.size) (k a b A B:Int) :
    Calls Tryz.prog 92 #[.pointer (some ⟨g,0,none⟩),.agg #[.int .u8 k,.int .u32 a,.int .u32 b],.agg #[.int .u64 A,.int .u64 B]] w (PutQ w g q v i p base (l++[Pu.mk k a b A B false])):=by
  obtain ⟨i0,hi0,hz0,hz1,hz2⟩:=info_parts put_info
  have hlt:=hb.lt
  have hne1:p.ownBlock≠some w.heap.size:=fun e=>by have:=(hown.lt _ e).2;omega
  have hne2:p.ownBlock≠some (w.heap.size + 1):=fun e=>by have:=(hown.lt _ e).2;omega
  have hne:p.ownBlock≠some g:=fun e=>by have:=(hown.lt g e).1;omega
  obtain ⟨W0,hW0⟩:∃ W0,(w.alloc (.cells #[.int .u8 k,.int .u32 a,.int .u32 b] 49)).alloc (.cells #[.int .u64 A,.int .u64 B] 51)=W0:=⟨_,rfl⟩
  have b0:Below w.heap.size w W0:=by rw [← hW0];exact new_ (new_ (Below.refl _ _) _) _
  have z0:w.heap.size + 2≤W0.heap.size:=by rw [← hW0];simp
  have kb:Box W0 w.heap.size #[.int .u8 k,.int .u32 a,.int .u32 b] 49:=by rw [← hW0];exact (Box.new _ _ _).alloc _
  have vb:Box W0 (w.heap.size + 1) #[.int .u64 A,.int .u64 B] 51:=by
    rw [← hW0]
    have:=Box.new (w.alloc (.cells #[.int .u8 k,.int .u32 a,.int .u32 b] 49)) #[.int .u64 A,.int .u64 B] 51
    rwa [World.size_alloc] at this
  have wb:=hb.below b0 hlt
  have OWN:=Lib.hid (own_below hown b0)
  have WB:=Lib.hid wb
  have B0:=Lib.hid b0
  have c9:=(wc_of wb).c9
  have f9:=wb.frozen 9
  have k0:=kb.cell 0
  have k1:=kb.cell 1
  have k2:=kb.cell 2
  have v0:=vb.cell 0
  have v1:=vb.cell 1
  simp only [List.getElem?_toArray,List.getElem?_cons_zero,List.getElem?_cons_succ] at k0 k1 k2 v0 v1
  clear hb hown wb b0 kb vb
  go_enter Tryz.func92,Tryz.ntmps92
  go_wp2
  try rw [hW0]
  clear hW0
  have cz:(W0.alloc (.cells #[.int .u8 k,.int .u32 a,.int .u32 b,.int .u64 A,.int .u64 B,.bool false] 69)).cell? ⟨g,9,none⟩=some p:=(WB.out.alloc _).cell 9
  have fz:(W0.alloc (.cells #[.int .u8 k,.int .u32 a,.int .u32 b,.int .u64 A,.int .u64 B,.bool false] 69)).frozen? ⟨g,9,none⟩=false:=(WB.out.alloc _).frozen 9
  go_region_law ((refine step_append_lies _ (by rfl) _ _ _ (by rfl) base 69 i0 _ 6 40 Tryz.underlying65 hi0 hz0 hz1 hz2 rfl (by omega) p l.length _ (by rfl) ((OWN.out.alloc _).drew) ⟨W0.heap.size,0,none⟩ 1 1 [.int .u8 k,.int .u32 a,.int .u32 b,.int .u64 A,.int .u64 B,.bool false] (by rfl) (by rfl) (World.news_of_block (cs:=#[.int .u8 k,.int .u32 a,.int .u32 b,.int .u64 A,.int .u64 B,.bool false]) (t:=69) (fr:=(0,0)) (heap_alloc_new W0 _)) (by simp [Value.oneCell']) (by omega) (by unfold maxLen;omega) (by omega) (by simp;omega) (W0.heap.size + 1) (by simp) ?_;intro gg cap w1 hown1 hgrow hat hlt1;have n9:w1.cell? ⟨g,9,none⟩=some p:=(hgrow.cell_far ⟨g,9,none⟩ (by simp;omega) (Ne.symm hne)).trans cz;have m9:w1.frozen? ⟨g,9,none⟩=false:=(hgrow.frozen_far ⟨g,9,none⟩ (by simp;omega) (Ne.symm hne)).trans fz))
  all_goals
    go_wp2
    have hgb:=(hown1.lt gg rfl).1
    have e2:putCells (l++[Pu.mk k a b A B false])=putCells l++[.int .u8 k,.int .u32 a,.int .u32 b,.int .u64 A,.int .u64 B,.bool false]:=by simp [putCells,Pu.cells]
    go_end0
    refine ⟨rfl,.slice (some ⟨gg,0,none⟩) (l.length + 1) cap,?_,?_,?_,new_own hat (by omega)⟩
    · exact ((((WB.out.alloc _).drew).grown hgrow hne).set_ 9 _)
    · rw [e2,List.length_append]
      exact hown1.kept (grownBy_set w1 ⟨g,9,none⟩ _) (.inr (by simp [Value.ownBlock];omega))
    · exact (((((Fr.of_below B0.out).alloc _).drew).grown hgrow (fun g' e=>.inl (.inr e))).setCell (p:=⟨g,9,none⟩) (.inl (.inl rfl)) _)
theorem gone_any (w:World) (g:Nat) (q:Ot) (v:Value) (i:Int) (p:Value) (base:Nat) (l:List Pu) (hb:WorkAt w g q v i p) (hown:w.ownsRow base 69 6 p l.length (putCells l)) (hg:g < base) (hl:l.length≤1000) (hbase:base≤w.heap.size) (k a b:Int) :
    Calls Tryz.prog 98 #[.pointer (some ⟨g,0,none⟩),.agg #[.int .u8 k,.int .u32 a,.int .u32 b]] w (PutQ w g q v i p base (l++[Pu.mk k a b 0 0 true])):=by
  obtain ⟨i0,hi0,hz0,hz1,hz2⟩:=info_parts put_info
  have hlt:=hb.lt
  have hne1:p.ownBlock≠some w.heap.size:=fun e=>by have:=(hown.lt _ e).2;omega
  have hne:p.ownBlock≠some g:=fun e=>by have:=(hown.lt g e).1;omega
  obtain ⟨W0,hW0⟩:∃ W0,(w.alloc (.cells #[.int .u8 k,.int .u32 a,.int .u32 b] 49))=W0:=⟨_,rfl⟩
  have b0:Below w.heap.size w W0:=by rw [← hW0];exact new_ (Below.refl _ _) _
  have z0:w.heap.size + 1≤W0.heap.size:=by rw [← hW0];simp
  have kb:Box W0 w.heap.size #[.int .u8 k,.int .u32 a,.int .u32 b] 49:=by rw [← hW0];exact Box.new _ _ _
  have wb:=hb.below b0 hlt
  have OWN:=Lib.hid (own_below hown b0)
  have WB:=Lib.hid wb
  have B0:=Lib.hid b0
  have c9:=(wc_of wb).c9
  have f9:=wb.frozen 9
  have k0:=kb.cell 0
  have k1:=kb.cell 1
  have k2:=kb.cell 2
  simp only [List.getElem?_toArray,List.getElem?_cons_zero,List.getElem?_cons_succ] at k0 k1 k2
  clear hb hown wb b0 kb
  go_enter Tryz.func98,Tryz.ntmps98
  go_wp2
  try rw [hW0]
  clear hW0
  have cz:(W0.alloc (.cells #[.int .u8 k,.int .u32 a,.int .u32 b,.int .u64 0,.int .u64 0,.bool true] 69)).cell? ⟨g,9,none⟩=some p:=(WB.out.alloc _).cell 9
  have fz:(W0.alloc (.cells #[.int .u8 k,.int .u32 a,.int .u32 b,.int .u64 0,.int .u64 0,.bool true] 69)).frozen? ⟨g,9,none⟩=false:=(WB.out.alloc _).frozen 9
  go_region_law ((refine step_append_lies _ (by rfl) _ _ _ (by rfl) base 69 i0 _ 6 40 Tryz.underlying65 hi0 hz0 hz1 hz2 rfl (by omega) p l.length _ (by rfl) ((OWN.out.alloc _).drew) ⟨W0.heap.size,0,none⟩ 1 1 [.int .u8 k,.int .u32 a,.int .u32 b,.int .u64 0,.int .u64 0,.bool true] (by rfl) (by rfl) (World.news_of_block (cs:=#[.int .u8 k,.int .u32 a,.int .u32 b,.int .u64 0,.int .u64 0,.bool true]) (t:=69) (fr:=(0,0)) (heap_alloc_new W0 _)) (by simp [Value.oneCell']) (by omega) (by unfold maxLen;omega) (by omega) (by simp;omega) (W0.heap.size + 1) (by simp) ?_;intro gg cap w1 hown1 hgrow hat hlt1;have n9:w1.cell? ⟨g,9,none⟩=some p:=(hgrow.cell_far ⟨g,9,none⟩ (by simp;omega) (Ne.symm hne)).trans cz;have m9:w1.frozen? ⟨g,9,none⟩=false:=(hgrow.frozen_far ⟨g,9,none⟩ (by simp;omega) (Ne.symm hne)).trans fz))
  all_goals
    go_wp2
    have hgb:=(hown1.lt gg rfl).1
    have e2:putCells (l++[Pu.mk k a b 0 0 true])=putCells l++[.int .u8 k,.int .u32 a,.int .u32 b,.int .u64 0,.int .u64 0,.bool true]:=by simp [putCells,Pu.cells]
    go_end0
    refine ⟨rfl,.slice (some ⟨gg,0,none⟩) (l.length + 1) cap,?_,?_,?_,new_own hat (by omega)⟩
    · exact ((((WB.out.alloc _).drew).grown hgrow hne).set_ 9 _)
    · rw [e2,List.length_append]
      exact hown1.kept (grownBy_set w1 ⟨g,9,none⟩ _) (.inr (by simp [Value.ownBlock];omega))
    · exact (((((Fr.of_below B0.out).alloc _).drew).grown hgrow (fun g' e=>.inl (.inr e))).setCell (p:=⟨g,9,none⟩) (.inl (.inl rfl)) _)
theorem amount_all (w:World) (g:Nat) (q:Ot) (v:Value) (i:Int) (p:Value) (base:Nat) (l:List Pu) (hb:WorkAt w g q v i p) (hown:w.ownsRow base 69 6 p l.length (putCells l)) (hg:g < base) (hl:l.length≤1000) (hbase:base≤w.heap.size) (k a b A:Int) :
    Calls Tryz.prog 81 #[.pointer (some ⟨g,0,none⟩),.agg #[.int .u8 k,.int .u32 a,.int .u32 b],.int .u64 A] w (PutQ w g q v i p base (l++[amt k a b A])):=by
  have hz:w.heap.size≤(w.alloc (.cells #[.int .u8 k,.int .u32 a,.int .u32 b] 49)).heap.size:=by simp
  by_cases h:k=3∧A=0
  · obtain ⟨rfl,rfl⟩:=h
    have call:=gone_any _ g q v i p base l (hb.alloc (.cells #[.int .u8 3,.int .u32 a,.int .u32 b] 49)) (own_below hown (new_ (Below.refl _ _) _)) hg hl (by simp;omega) 3 a b
    have CALL:=Lib.hid call
    have HZ:=Lib.hid hz
    clear hb hown call hz
    go_enter Tryz.func81,Tryz.ntmps81
    go_wp2_with (go_at_call 98;(with_reducible refine CALL.out.mono ?_);rintro e w1 ⟨rfl,p',wb,ow,fr,nw⟩;have R:=Lib.hid (And.intro wb (And.intro ow (And.intro fr nw)));clear wb ow fr nw)
    go_end0
    exact ⟨rfl,p',R.out.1,R.out.2.1,((Fr.refl _ _).alloc _).trans R.out.2.2.1,R.out.2.2.2.low HZ.out⟩
  · have ea:amt k a b A=⟨k,a,b,A,0,false⟩:=by unfold amt;rw [if_neg h]
    rw [ea]
    have call:=put_all _ g q v i p base l (hb.alloc (.cells #[.int .u8 k,.int .u32 a,.int .u32 b] 49)) (own_below hown (new_ (Below.refl _ _) _)) hg hl (by simp;omega) k a b A 0
    have CALL:=Lib.hid call
    have HZ:=Lib.hid hz
    by_cases hk:k=3
    · subst hk
      have d2:(A == 0)=false:=by
        have:A≠0:=fun e=>h ⟨rfl,e⟩
        simpa using this
      clear hb hown call ea h hz
      go_enter Tryz.func81,Tryz.ntmps81
      go_wp2_with (go_at_call 92;(with_reducible refine CALL.out.mono ?_);rintro e w1 ⟨rfl,p',wb,ow,fr,nw⟩;have R:=Lib.hid (And.intro wb (And.intro ow (And.intro fr nw)));clear wb ow fr nw)
      go_end0
      exact ⟨rfl,p',R.out.1,R.out.2.1,((Fr.refl _ _).alloc _).trans R.out.2.2.1,R.out.2.2.2.low HZ.out⟩
    · have d1:(k == 3)=false:=by simpa using hk
      clear hb hown call ea h hk hz
      go_enter Tryz.func81,Tryz.ntmps81
      go_wp2_with (go_at_call 92;(with_reducible refine CALL.out.mono ?_);rintro e w1 ⟨rfl,p',wb,ow,fr,nw⟩;have R:=Lib.hid (And.intro wb (And.intro ow (And.intro fr nw)));clear wb ow fr nw)
      go_end0
      exact ⟨rfl,p',R.out.1,R.out.2.1,((Fr.refl _ _).alloc _).trans R.out.2.2.1,R.out.2.2.2.low HZ.out⟩
end Go.Proofs.YtabckmadpdchnaaGreat.Rule
namespace Go.Proofs.Each
open Go
section
variable {P:Program} {ops:Array Oper} {Q:Exit→Act→World→Prop} {md:Region.Mode}
def left (listed:Array Bool):Nat:=listed.toList.count false
theorem ready_at {listed:Array Bool} {i:Nat} (hs:listed.size=ops.size) (h:i∈Region.ready md ops listed) :
    ∃ o,ops[i]?=some o∧i < ops.size∧listed.getD i true=false∧∀ e∈o.after,Region.binds md e=true→listed.getD e.on false=true:=by
  unfold Region.ready at h
  rw [List.mem_filter,List.mem_range] at h
  obtain ⟨hi,h⟩:=h
  rw [Bool.and_eq_true] at h
  obtain ⟨h1,h2⟩:=h
  rw [Array.getElem?_eq_getElem hi] at h2
  refine ⟨ops[i],Array.getElem?_eq_getElem hi,hi,by simpa using h1,fun e he hb=>?_⟩
  simp only [Option.map_some,Option.getD_some] at h2
  have:=(Array.all_eq_true'.1 h2) e he
  simpa [hb] using this
theorem left_zero {listed:Array Bool} (h:left listed=0) (i:Nat):listed.getD i true=true:=by
  unfold left at h
  rw [List.count_eq_zero] at h
  by_cases hi:i < listed.size
  · rw [Array.getD_eq_getD_getElem?,Array.getElem?_eq_getElem hi]
    simp only [Option.getD_some]
    cases hb:listed[i]
    · exact absurd (hb ▸ Array.getElem_mem_toList hi) h
    · rfl
  · rw [Array.getD_eq_getD_getElem?,Array.getElem?_eq_none (by omega)];rfl
theorem left_set {listed:Array Bool} {i:Nat} (hi:i < listed.size) (h:listed.getD i true=false):left (listed.setIfInBounds i true) + 1=left listed:=by
  unfold left
  have hl:i < listed.toList.length:=by simpa using hi
  have hv:listed.toList[i]=false:=by
    rw [Array.getD_eq_getD_getElem?,Array.getElem?_eq_getElem hi] at h
    simpa using h
  rw [Array.toList_setIfInBounds]
  have hpos:0 < listed.toList.count false:=List.count_pos_iff.2 (hv ▸ List.getElem_mem hl)
  have:=List.count_set (a:=true) (b:=false) (l:=listed.toList) (i:=i) hl
  rw [hv,if_pos (by rfl),if_neg (by decide)] at this
  omega
theorem wpAny_inv (I:Array Bool→Act→World→Prop)
    (hstep:∀ listed a w i,listed.size=ops.size→I listed a w→i∈Region.ready md ops listed→wpOp P ops Q i (fun a' w'=>I (listed.setIfInBounds i true) a' w') a w)
    (hend:∀ listed a w,listed.size=ops.size→I listed a w→Region.ready md ops listed=[]→Q .normal a w) :
    ∀ (fuel:Nat) (listed:Array Bool) (a:Act) (w:World),listed.size=ops.size→left listed≤fuel→I listed a w→wpAny P md ops Q fuel listed a w:=by
  intro fuel
  induction fuel with
  | zero=>
    intro listed a w hs hf hI
    have hr:Region.ready md ops listed=[]:=by
      rw [List.eq_nil_iff_forall_not_mem]
      intro i hi
      obtain ⟨o,_,_,h2,_⟩:=ready_at hs hi
      rw [left_zero (by omega)] at h2
      cases h2
    exact ⟨hr,hend listed a w hs hI hr⟩
  | succ fuel ih=>
    intro listed a w hs hf hI
    refine ⟨hend listed a w hs hI,fun i hi=>?_⟩
    obtain ⟨o,_,h1,h2,_⟩:=ready_at hs hi
    have hl:=left_set (by omega) h2
    exact wpOp_mono (fun a' w' h=>ih _ a' w' (by rw [Array.size_setIfInBounds];exact hs) (by omega) h) (hstep listed a w i hs hI hi)
theorem all_listed {listed:Array Bool} (hs:listed.size=ops.size) (hb:∀ i o,ops[i]?=some o→∀ e∈o.after,Region.binds md e=true→e.on < i)
    (hr:Region.ready md ops listed=[]):∀ i,i < ops.size→listed.getD i false=true:=by
  intro i
  induction i using Nat.strongRecOn with
  | _ i ih=>
    intro hi
    cases hc:listed.getD i false with
    | true=>rfl
    | false=>
      exfalso
      have:i∈Region.ready md ops listed:=by
        unfold Region.ready
        rw [List.mem_filter,List.mem_range]
        refine ⟨hi,?_⟩
        rw [Bool.and_eq_true]
        constructor
        · rw [Array.getD_eq_getD_getElem?,Array.getElem?_eq_getElem (by omega)] at hc ⊢
          simp only [Option.getD_some] at hc ⊢
          rw [hc];rfl
        · rw [Array.getElem?_eq_getElem hi]
          simp only [Option.map_some,Option.getD_some]
          rw [Array.all_eq_true']
          intro e he
          cases hbe:Region.binds md e with
          | false=>rfl
          | true=>
            have hlt:=hb i ops[i] (Array.getElem?_eq_getElem hi) e he hbe
            simpa using ih e.on hlt (by omega)
      rw [hr] at this
      cases this
theorem wp_region_inv {id:Nat} {a:Act} {w:World} (hm:P.follows .mixedOrders=true) (I:Array Bool→Act→World→Prop)
    (hstart:I (Array.replicate ops.size false) a w.drew)
    (hstep:∀ listed a w i,listed.size=ops.size→I listed a w→i∈Region.ready .any ops listed→wpOp P ops Q i (fun a' w'=>I (listed.setIfInBounds i true) a' w') a w)
    (hend:∀ listed a w,listed.size=ops.size→I listed a w→Region.ready .any ops listed=[]→Q .normal a w):(Code.region id ops true).wp P Q a w:=
  wp_region_any hm (wpAny_inv I hstep hend _ _ _ _ (by simp) (by unfold left;exact Nat.le_trans List.count_le_length (by simp)) hstart)
end
end Go.Proofs.Each
namespace Go.Proofs.Each
open Go
def upd (f:Nat→Value) (i:Nat) (v:Value):Nat→Value:=fun j=>if j=i then v else f j
theorem upd_same (f:Nat→Value) (i:Nat) (v:Value):upd f i v i=v:=by simp [upd]
theorem upd_other (f:Nat→Value) (i j:Nat) (v:Value) (h:j≠i):upd f i v j=f j:=by simp [upd,h]
theorem upd_self (f:Nat→Value) (i:Nat):upd f i (f i)=f:=by funext j;unfold upd;split <;> simp_all
section
variable {P:Program} {ops:Array Oper} {a0:Act} {L L':Nat→Prop} {vals:Nat→Value} {a a':Act}
structure Agree (ops:Array Oper) (a0:Act) (L:Nat→Prop) (vals:Nat→Value) (a:Act):Prop where
  defers:a.defers=a0.defers
  off:∀ d,(∀ j oj,ops[j]?=some oj→L j→oj.dst≠some d)→a.tmps[d]?=a0.tmps[d]?
  on_:∀ j oj d,ops[j]?=some oj→L j→oj.dst=some d→a.tmps[d]?=(a0.tmps[d]?).map fun _=>vals j
def Apart (ops:Array Oper):Prop:=∀ (i j:Nat) (oi oj:Oper) (d:Tmp),ops[i]?=some oi→ops[j]?=some oj→oi.dst=some d→oj.dst=some d→i=j
theorem Agree.start (h:∀ j,¬ L j):Agree ops a0 L vals a0:=⟨rfl,fun _ _=>rfl,fun j _ _ _ hj _=>absurd hj (h j)⟩
theorem Agree.put (hA:Apart ops) (h:Agree ops a0 L vals a) {i:Nat} {oi:Oper} (hi:ops[i]?=some oi) (hn:¬ L i) (v:Value) (hL:∀ j,L' j ↔ (L j∨j=i)) :
    Agree ops a0 L' (upd vals i v) (a.put oi.dst v):=by
  cases hd:oi.dst with
  | none=>
    refine ⟨h.defers,fun d hf=>h.off d fun j oj hj hl=>hf j oj hj ((hL j).2 (.inl hl)),fun j oj d hj hl hjd=>?_⟩
    rcases (hL j).1 hl with h1 | h1
    · rw [upd_other _ _ _ _ (by rintro rfl;exact hn h1)];exact h.on_ j oj d hj h1 hjd
    · subst h1;rw [hi] at hj;cases hj;rw [hd] at hjd;cases hjd
  | some e=>
    refine ⟨h.defers,fun d hf=>?_,fun j oj d hj hl hjd=>?_⟩
    · have hne:e≠d:=by rintro rfl;exact hf i oi hi ((hL i).2 (.inr rfl)) hd
      show (a.tmps.setIfInBounds e v)[d]?=_
      rw [Array.getElem?_setIfInBounds,if_neg hne]
      exact h.off d fun j oj hj hl=>hf j oj hj ((hL j).2 (.inl hl))
    · show (a.tmps.setIfInBounds e v)[d]?=_
      by_cases hji:j=i
      · subst hji
        rw [hi] at hj;cases hj
        rw [hd] at hjd;cases hjd
        have ho:=h.off e fun j' oj' hj' hl' hd'=>hn (hA _ _ _ _ _ hj' hi hd' hd ▸ hl')
        rw [Array.getElem?_setIfInBounds,if_pos rfl,upd_same]
        by_cases hs:e < a.tmps.size
        · rw [if_pos hs];rw [Array.getElem?_eq_getElem hs] at ho;rw [← ho];rfl
        · rw [if_neg hs];rw [Array.getElem?_eq_none (Nat.le_of_not_lt hs)] at ho;rw [← ho];rfl
      · have hne:e≠d:=by rintro rfl;exact hji (hA _ _ _ _ _ hj hi hjd hd)
        rw [Array.getElem?_setIfInBounds,if_neg hne,upd_other _ _ _ _ hji]
        rcases (hL j).1 hl with h1 | h1
        · exact h.on_ j oj d hj h1 hjd
        · exact absurd h1 hji
def T (ops:Array Oper) (a0:Act) (vals:Nat→Value):Nat→Act
  | 0=>a0
  | i + 1=>(T ops a0 vals i).put ((ops[i]?).bind (·.dst)) (vals i)
theorem agree_T (hA:Apart ops) (vals:Nat→Value):∀ i,i≤ops.size→Agree ops a0 (· < i) vals (T ops a0 vals i):=by
  intro i
  induction i with
  | zero=>intro _;exact Agree.start fun j h=>Nat.not_lt_zero j h
  | succ i ih=>
    intro hi
    have hio:ops[i]?=some ops[i]:=Array.getElem?_eq_getElem (by omega)
    have:=(ih (by omega)).put (L':=(· < i + 1)) hA hio (Nat.lt_irrefl i) (vals i) (fun j=>by show j < i + 1 ↔ (j < i∨j=i);omega)
    rw [upd_self] at this
    unfold T
    rw [hio];exact this
theorem Agree.at_ (h:Agree ops a0 L vals a) (h':Agree ops a0 L' vals a') (d:Tmp) (hd:∀ j oj,ops[j]?=some oj→oj.dst=some d→(L j ↔ L' j)):a.tmps[d]?=a'.tmps[d]?:=by
  by_cases hx:∃ j oj,ops[j]?=some oj∧L j∧oj.dst=some d
  · obtain ⟨j,oj,h1,h2,h3⟩:=hx
    rw [h.on_ j oj d h1 h2 h3,h'.on_ j oj d h1 ((hd j oj h1 h3).1 h2) h3]
  · rw [h.off d fun j oj h1 h2 h3=>hx ⟨j,oj,h1,h2,h3⟩,h'.off d fun j oj h1 h2 h3=>hx ⟨j,oj,h1,(hd j oj h1 h3).2 h2,h3⟩]
theorem Agree.same (h:Agree ops a0 L vals a) (h':Agree ops a0 L' vals a') (hL:∀ j,j < ops.size→(L j ↔ L' j)):a=a':=by
  have ht:a.tmps=a'.tmps:=by
    apply Array.ext_getElem?
    intro d
    refine h.at_ h' d fun j oj hj _=>hL j ?_
    rcases Nat.lt_or_ge j ops.size with h1 | h1
    · exact h1
    · rw [Array.getElem?_eq_none h1] at hj;cases hj
  obtain ⟨t,ds⟩:=a
  obtain ⟨t',ds'⟩:=a'
  have e:=h.defers.trans h'.defers.symm
  simp only at ht e
  rw [ht,e]
theorem exec_same (o:Oper) (hs:∀ cs b,o.op≠.select cs b) (hl:∀ d∈o.looksAt ops,a.tmps[d]?=a'.tmps[d]?):execOp a.eval o=execOp a'.eval o:=
  execOp_congr o hs fun x hx=>by
    cases x with
    | tmp d=>
      have:=hl d (List.mem_append_left _ (List.mem_filterMap.2 ⟨.tmp d,by simpa using hx,rfl⟩))
      simp only [Act.eval,Array.getD_eq_getD_getElem?,this]
    | const v=>rfl
    | global g=>rfl
    | func f=>rfl
theorem wanted_same (o:Oper) (hl:∀ d∈o.looksAt ops,a.tmps[d]?=a'.tmps[d]?):Region.wanted o (yielded ops a.tmps)=Region.wanted o (yielded ops a'.tmps):=by
  unfold Region.wanted
  cases hg:o.guard with
  | none=>rfl
  | some gb=>
    obtain ⟨g,b⟩:=gb
    have:yielded ops a.tmps g=yielded ops a'.tmps g:=by
      unfold yielded
      cases hd:(ops[g]?).bind (·.dst) with
      | none=>rfl
      | some d=>
        have:=hl d (List.mem_append_right _ (by simp [hg,hd]))
        simp [this]
    simp only [this]
end
end Go.Proofs.Each
namespace Go.Proofs.Each
open Go
section
variable {P:Program} {ops:Array Oper} {a0:Act} {a t:Act}
def QF:Exit→Act→World→Prop:=fun _ _ _=>False
theorem put_val {a t:Act} (hz:∀ d:Nat,a.tmps[d]?=none ↔ t.tmps[d]?=none) {dst:Option Tmp} {v u:Value} (h:t.put dst v=t.put dst u):a.put dst v=a.put dst u:=by
  cases dst with
  | none=>rfl
  | some d=>
    have h2:(t.tmps.setIfInBounds d v)[(d:Nat)]?=(t.tmps.setIfInBounds d u)[(d:Nat)]?:=by
      have:=congrArg Act.tmps h
      exact congrArg (fun x:Array Value=>x[(d:Nat)]?) this
    rw [Array.getElem?_setIfInBounds,Array.getElem?_setIfInBounds,if_pos rfl,if_pos rfl] at h2
    by_cases hs:d < t.tmps.size
    · rw [if_pos hs,if_pos hs] at h2
      injection h2 with h3
      rw [h3]
    · have h1:a.tmps[(d:Nat)]?=none:=(hz d).2 (Array.getElem?_eq_none (Nat.le_of_not_lt hs))
      have h4:a.tmps.size≤d:=by
        rcases Nat.lt_or_ge d a.tmps.size with h5 | h5
        · rw [Array.getElem?_eq_getElem h5] at h1;cases h1
        · exact h5
      show ({ a with tmps:=a.tmps.setIfInBounds d v }:Act)={ a with tmps:=a.tmps.setIfInBounds d u }
      rw [Array.setIfInBounds_eq_of_size_le h4,Array.setIfInBounds_eq_of_size_le h4]
theorem put_defers {t:Act} {l:List Deferred} {dst:Option Tmp} {v:Value}:(({ t with defers:=l }:Act).put dst v).defers=l:=by cases dst <;> rfl
theorem put_defers' {t:Act} {dst:Option Tmp} {u:Value}:(t.put dst u).defers=t.defers:=by cases dst <;> rfl
theorem wp_same {o:Oper} {w:World} {F:Value→World→Prop} {Q:Exit→Act→World→Prop} (he:execOp a.eval o=execOp t.eval o) (hz:∀ d:Nat,a.tmps[d]?=none ↔ t.tmps[d]?=none)
    (h:o.wp P t w (fun a' w'=>∃ v,a'=t.put o.dst v∧F v w') QF):o.wp P a w (fun a' w'=>∃ v,a'=a.put o.dst v∧F v w') Q:=by
  unfold Oper.wp at *
  rw [he]
  generalize (execOp t.eval o).run P w=r at *
  cases r with
  | ok n w'=>
    cases n <;> simp only [Oper.upon] at h ⊢
    case value v=>obtain ⟨u,h1,h2⟩:=h;exact ⟨u,put_val hz h1,h2⟩
    case skip=>obtain ⟨u,h1,h2⟩:=h;exact ⟨u,put_val hz h1,h2⟩
    case defer d=>
      obtain ⟨u,h1,h2⟩:=h
      have:=congrArg Act.defers h1
      rw [put_defers,put_defers'] at this
      exact absurd (congrArg List.length this) (by simp)
    case enter f args=>
      refine Calls.mono h fun e w'' h2=>?_
      cases e with
      | returned v=>obtain ⟨u,h1,h2⟩:=h2;exact ⟨u,put_val hz h1,h2⟩
      | panicked c=>exact h2.elim
      | outgrown=>obtain ⟨_,_,h3⟩:=h2;exact h3.elim
    case row r args=>exact Rows.mono h fun v w'' ⟨u,h1,h2⟩=>⟨u,put_val hz h1,h2⟩
  | halt x w'=>cases x <;> simp only [Oper.upon] at h ⊢ <;> first | exact h.elim | exact h
theorem Agree.none {L L':Nat→Prop} {vals vals':Nat→Value} (h:Agree ops a0 L vals a) (h':Agree ops a0 L' vals' t) (d:Nat):a.tmps[d]?=none ↔ t.tmps[d]?=none:=by
  have key:∀ {L:Nat→Prop} {vals:Nat→Value} {a:Act},Agree ops a0 L vals a→(a.tmps[d]?=Option.none ↔ a0.tmps[d]?=Option.none):=by
    intro L vals a h
    by_cases hx:∃ j oj,ops[j]?=some oj∧L j∧oj.dst=some d
    · obtain ⟨j,oj,h1,h2,h3⟩:=hx
      rw [h.on_ j oj d h1 h2 h3];simp
    · rw [h.off d fun j oj h1 h2 h3=>hx ⟨j,oj,h1,h2,h3⟩]
  exact (key h).trans (key h').symm
end
end Go.Proofs.Each
namespace Go.Proofs.Each
open Go Go.ChangeShapes Go.WideShapes Go.RowKit
def isSelect:Op→Bool
  | .select _ _=>true
  | _=>false
def fitB (ops:Array Oper):Bool:=
  (List.range ops.size).all fun i=>match ops[i]? with
    | none=>true
    | some o=>!isSelect o.op && o.after.all (fun e=>!Region.binds .any e || decide (e.on < i)) &&
        (List.range ops.size).all fun j=>match ops[j]? with
          | none=>true
          | some oj=>match oj.dst with
            | none=>true
            | some d=>(!(o.looksAt ops).contains d || o.after.any fun e=>Region.binds .any e && e.on == j) && (decide (i=j) || o.dst != some d)
theorem fitB_at {ops:Array Oper} (h:fitB ops=true) {i:Nat} {o:Oper} (hi:ops[i]?=some o) :
    isSelect o.op=false∧(∀ e∈o.after,Region.binds .any e=true→e.on < i)∧∀ (j:Nat) (oj:Oper) (d:Tmp),ops[j]?=some oj→oj.dst=some d →
      (d∈o.looksAt ops→∃ e∈o.after,Region.binds .any e=true∧e.on=j)∧(o.dst=some d→i=j):=by
  have lt:∀ {k:Nat} {x:Oper},ops[k]?=some x→k < ops.size:=fun {k x} hk=>by
    rcases Nat.lt_or_ge k ops.size with h1 | h1
    · exact h1
    · rw [Array.getElem?_eq_none h1] at hk;cases hk
  have h1:=List.all_eq_true.1 h i (List.mem_range.2 (lt hi))
  simp only [hi,Bool.and_eq_true] at h1
  obtain ⟨⟨h2,h3⟩,h4⟩:=h1
  refine ⟨by simpa using h2,fun e he hb=>?_,fun j oj d hj hd=>?_⟩
  · have:=(Array.all_eq_true'.1 h3) e he
    rw [hb] at this
    simpa using this
  · have h5:=List.all_eq_true.1 h4 j (List.mem_range.2 (lt hj))
    simp only [hj,hd,Bool.and_eq_true,Bool.or_eq_true] at h5
    obtain ⟨h6,h7⟩:=h5
    constructor
    · intro hm
      rcases h6 with h6 | h6
      · have:(o.looksAt ops).contains d=true:=List.contains_iff_mem.2 hm
        rw [this] at h6;cases h6
      · obtain ⟨e,he,hb⟩:=Array.any_eq_true'.1 h6
        rw [Bool.and_eq_true] at hb
        exact ⟨e,he,hb.1,by simpa using hb.2⟩
    · intro ho
      rcases h7 with h7 | h7
      · simpa using h7
      · rw [ho] at h7;simp at h7
end Go.Proofs.Each
namespace Go.Proofs.Each
open Go Go.ChangeShapes Go.WideShapes Go.RowKit
def AllFrom (S:Nat→Oper→Prop):Nat→List Oper→Prop
  | _,[]=>True
  | k,o :: r=>S k o∧AllFrom S (k + 1) r
theorem AllFrom.at_ {S:Nat→Oper→Prop}:∀ {l:List Oper} {k:Nat},AllFrom S k l→∀ (i:Nat) (o:Oper),l[i]?=some o→S (k + i) o
  | [],_,_,i,o,h=>by simp at h
  | x :: r,k,⟨h1,h2⟩,0,o,h=>by simp at h;subst h;exact h1
  | x :: r,k,⟨h1,h2⟩,i + 1,o,h=>by
    have:=AllFrom.at_ h2 i o (by simpa using h)
    rwa [show k + 1 + i=k + (i + 1) by omega] at this
def Waits (U:Nat→(Nat→Value)→World→Prop) (vals:Nat→Value) (w:World) (o:Oper):Prop:=
  ∀ e∈o.after,Region.binds .any e=true→U e.on vals w
def StepOf (P:Program) (ops:Array Oper) (a0:Act) (w0:World) (U:Nat→(Nat→Value)→World→Prop) (i:Nat) (o:Oper):Prop:=
  ∀ vals w,Below w0.heap.size w0 w→Waits U vals w o →
    if Region.wanted o (yielded ops (T ops a0 vals i).tmps) then o.wp P (T ops a0 vals i) w (fun a' w'=>∃ v,a'=(T ops a0 vals i).put o.dst v∧Below w.heap.size w w'∧U i (upd vals i v) w') QF
    else U i (upd vals i undef) w
end Go.Proofs.Each
namespace Go.Proofs.Each
open Go Go.ChangeShapes Go.WideShapes Go.RowKit Go.Proofs.Mem
def Stays (f:Value→World→Prop):Prop:=∀ v W W',Below W.heap.size W W'→f v W→f v W'
def AllStay:List (Value→World→Prop)→Prop
  | []=>True
  | f :: r=>Stays f∧AllStay r
theorem AllStay.at_:∀ {l:List (Value→World→Prop)},AllStay l→∀ j,Stays (l.getD j fun _ _=>True)
  | [],_,j=>by simp [Stays]
  | f :: r,⟨h1,h2⟩,0=>by simpa using h1
  | f :: r,⟨h1,h2⟩,j + 1=>by simpa using AllStay.at_ h2 j
def StepAt (P:Program) (ops:Array Oper) (w0:World) (F:Nat→Value→World→Prop) (vals:Nat→Value) (k:Nat) (o:Oper) (a:Act):Prop:=
  ∀ W,Below w0.heap.size w0 W→(∀ e∈o.after,Region.binds .any e=true→F e.on (vals e.on) W) →
    if Region.wanted o (yielded ops a.tmps)=true then o.wp P a W (fun a' W'=>∃ v,a'=a.put o.dst v∧Below W.heap.size W W'∧F k v W') QF else F k undef W
theorem step_plain {P:Program} {o:Oper} {a:Act} {W:World} {K:Act→World→Prop} {y:Nat→Option Bool} {E:Prop} (hg:o.guard=none) (h:o.wp P a W K QF):if Region.wanted o y=true then o.wp P a W K QF else E:=by
  rw [if_pos (by simp [Region.wanted,hg])];exact h
theorem yielded_of {ops:Array Oper} {tmps:Array Value} {j:Nat} {v:Value} {b:Bool} (h:((ops[j]?).bind (·.dst)).bind (tmps[·]?)=some v) (hv:v=.bool b):yielded ops tmps j=some b:=by
  unfold yielded;rw [h,hv]
def ObF (P:Program) (ops:Array Oper) (w0:World) (F:Nat→Value→World→Prop) (vals:Nat→Value):Nat→List Oper→Act→Prop
  | _,[],_=>True
  | k,o :: r,a=>StepAt P ops w0 F vals k o a∧ObF P ops w0 F vals (k + 1) r (a.put o.dst (vals k))
def TL (vals:Nat→Value):Nat→List Oper→Act→Act
  | _,[],a=>a
  | k,o :: r,a=>TL vals (k + 1) r (a.put o.dst (vals k))
theorem T_app (vals:Nat→Value) (a0:Act) (ops:Array Oper):∀ (r:List Oper) (k:Nat),(∀ i o,r[i]?=some o→ops[k + i]?=some o)→TL vals k r (T ops a0 vals k)=T ops a0 vals (k + r.length)
  | [],k,_=>rfl
  | o :: r,k,h=>by
    have h0:ops[k]?=some o:=h 0 o rfl
    have:=T_app vals a0 ops r (k + 1) fun i x hx=>by rw [show k + 1 + i=k + (i + 1) by omega];exact h (i + 1) x (by simpa using hx)
    show TL vals (k + 1) r ((T ops a0 vals k).put o.dst (vals k))=_
    rw [show (T ops a0 vals k).put o.dst (vals k)=T ops a0 vals (k + 1) by simp only [T,h0,Option.bind_some],this,List.length_cons]
    congr 1;omega
end Go.Proofs.Each
namespace Go.Proofs.Each
open Go Go.RowKit Go.Proofs.Mem
section
variable {P:Program} {ops:Array Oper} {a0:Act} {a t:Act}
def Clo (ops:Array Oper) (L:Nat→Bool):Prop:=∀ (j:Nat) (oj:Oper),ops[j]?=some oj→L j=true→∀ e∈oj.after,Region.binds .any e=true→L e.on=true
def ancB (ops:Array Oper):Nat→Nat→Nat→Bool
  | 0,_,_=>false
  | n + 1,i,j=>match ops[i]? with
    | none=>false
    | some o=>o.after.any fun e=>Region.binds .any e && (e.on == j || ancB ops n e.on j)
theorem Clo.anc {L:Nat→Bool} (h:Clo ops L):∀ (n i j:Nat),ancB ops n i j=true→L i=true→L j=true
  | 0,_,_,h0,_=>by cases h0
  | n + 1,i,j,h0,hi=>by
    unfold ancB at h0
    cases e:ops[i]? with
    | none=>rw [e] at h0;cases h0
    | some o=>
      rw [e] at h0
      simp only [Array.any_eq_true',Bool.and_eq_true,Bool.or_eq_true,beq_iff_eq] at h0
      obtain ⟨d,hd,hb,hj⟩:=h0
      have hl:=h i o e hi d hd hb
      rcases hj with hj | hj
      · rw [← hj];exact hl
      · exact h.anc n d.on j hj hl
theorem Clo.not_yet {L:Nat→Bool} (h:Clo ops L) {k:Nat} (hk:L k=false) (i n:Nat) (ha:ancB ops n i k=true):L i=false:=by
  cases e:L i with
  | false=>rfl
  | true=>rw [h.anc n i k ha e] at hk;cases hk
end
end Go.Proofs.Each
namespace Go.Proofs.Each
open Go Go.RowKit Go.Proofs.Mem
def QD (D:Exit→World→Prop):Exit→Act→World→Prop:=fun e _ w=>D e w
theorem step_plainD {P:Program} {o:Oper} {a:Act} {W:World} {K:Act→World→Prop} {y:Nat→Option Bool} {E:Prop} {D:Exit→World→Prop} (hg:o.guard=none) (h:o.wp P a W K (QD D)):if Region.wanted o y=true then o.wp P a W K (QD D) else E:=by
  rw [if_pos (by simp [Region.wanted,hg])];exact h
theorem step_guardD {P:Program} {o:Oper} {a:Act} {W:World} {K:Act→World→Prop} {y:Nat→Option Bool} {E:Prop} {j:Nat} {want:Bool} {D:Exit→World→Prop} (hg:o.guard=some (j,want)) (hy:y j=some want) (h:o.wp P a W K (QD D)) :
    if Region.wanted o y=true then o.wp P a W K (QD D) else E:=by
  rw [if_pos (by simp [Region.wanted,hg,hy])];exact h
theorem wp_unwantedD {P:Program} {o:Oper} {a:Act} {W:World} {K:Act→World→Prop} {y:Nat→Option Bool} {E:Prop} {j:Nat} {want b:Bool} {D:Exit→World→Prop} (hg:o.guard=some (j,want)) (hy:y j=some b) (hb:b=!want) (h:E) :
    if Region.wanted o y=true then o.wp P a W K (QD D) else E:=by
  rw [if_neg (by subst hb;simp [Region.wanted,hg,hy])];exact h
section
variable {P:Program} {ops:Array Oper} {a0:Act} {a t:Act}
theorem wp_sameD {o:Oper} {w:World} {F:Value→World→Prop} {D:Exit→World→Prop} {Q:Exit→Act→World→Prop} (hQ:∀ e w,D e w→Q e a w) (he:execOp a.eval o=execOp t.eval o) (hz:∀ d:Nat,a.tmps[d]?=none ↔ t.tmps[d]?=none)
    (h:o.wp P t w (fun a' w'=>∃ v,a'=t.put o.dst v∧F v w') (QD D)):o.wp P a w (fun a' w'=>∃ v,a'=a.put o.dst v∧F v w') Q:=by
  unfold Oper.wp at *
  rw [he]
  generalize (execOp t.eval o).run P w=r at *
  cases r with
  | ok n w'=>
    cases n <;> simp only [Oper.upon] at h ⊢
    case value v=>obtain ⟨u,h1,h2⟩:=h;exact ⟨u,put_val hz h1,h2⟩
    case skip=>obtain ⟨u,h1,h2⟩:=h;exact ⟨u,put_val hz h1,h2⟩
    case defer d=>
      obtain ⟨u,h1,h2⟩:=h
      have:=congrArg Act.defers h1
      rw [put_defers,put_defers'] at this
      exact absurd (congrArg List.length this) (by simp)
    case enter f args=>
      refine Calls.mono h fun e w'' h2=>?_
      cases e with
      | returned v=>obtain ⟨u,h1,h2⟩:=h2;exact ⟨u,put_val hz h1,h2⟩
      | panicked c=>exact hQ _ _ h2
      | outgrown=>obtain ⟨x1,x2,h3⟩:=h2;exact ⟨a,x2,hQ _ _ h3⟩
    case row r args=>exact Rows.mono h fun v w'' ⟨u,h1,h2⟩=>⟨u,put_val hz h1,h2⟩
  | halt x w'=>cases x <;> simp only [Oper.upon] at h ⊢ <;> first | exact hQ _ _ h | exact h
theorem wp_region_eachD {id:Nat} {Q:Exit→Act→World→Prop} {w0:World} {D:Exit→World→Prop} (hQ:∀ e (a:Act) w,a.defers=a0.defers→D e w→Q e a w) (hm:P.follows .mixedOrders=true) (hA:Apart ops)
    (hsel:∀ (i:Nat) (o:Oper),ops[i]?=some o→∀ cs b,o.op≠.select cs b)
    (hb:∀ (i:Nat) (o:Oper),ops[i]?=some o→∀ e∈o.after,Region.binds .any e=true→e.on < i)
    (hdep:∀ (i:Nat) (o:Oper),ops[i]?=some o→∀ d∈o.looksAt ops,∀ (j:Nat) (oj:Oper),ops[j]?=some oj→oj.dst=some d→∃ e∈o.after,Region.binds .any e=true∧e.on=j)
    (C:(Nat→Bool)→World→Prop) (R:Nat→World→World→Prop) (U:Nat→(Nat→Value)→World→Prop)
    (hC0:∀ L:Nat→Bool,(∀ j,L j=false)→C L w0.drew) (hCR:∀ i (L L':Nat→Bool) w w',i < ops.size→L i=false→(∀ j,L' j=true ↔ (L j=true∨j=i))→C L w→R i w w'→C L' w')
    (hUm:∀ i j L vals w w',i < ops.size→j≠i→C L w→R i w w'→U j vals w→U j vals w')
    (hUc:∀ (j:Nat) (oj:Oper) vals vals',ops[j]?=some oj→vals j=vals' j→(∀ e∈oj.after,Region.binds .any e=true→vals e.on=vals' e.on)→∀ w,U j vals w→U j vals' w)
    (hstep:∀ (i:Nat) (oi:Oper),ops[i]?=some oi→∀ L vals w,Clo ops L→L i=false→C L w→(∀ e∈oi.after,Region.binds .any e=true→U e.on vals w) →
      wpOp P ops (QD D) i (fun a' w'=>∃ v,a'=(T ops a0 vals i).put oi.dst v∧R i w w'∧U i (upd vals i v) w') (T ops a0 vals i) w)
    (hend:∀ L vals w,C L w→(∀ i,i < ops.size→U i vals w)→Q .normal (T ops a0 vals ops.size) w):(Code.region id ops true).wp P Q a0 w0:=by
  refine wp_region_inv hm (fun listed a w=>∃ vals,Agree ops a0 (fun j=>listed.getD j false=true) vals a∧C (fun j=>listed.getD j false) w∧(∀ j,j < ops.size→listed.getD j false=true→U j vals w)∧Clo ops (fun j=>listed.getD j false)) ?_ ?_ ?_
  · have hno:∀ j,¬ (Array.replicate ops.size false).getD j false=true:=by
      intro j h
      rw [Array.getD_eq_getD_getElem?,Array.getElem?_replicate] at h
      split at h <;> simp at h
    exact ⟨fun _=>undef,Agree.start hno,hC0 _ (fun j=>by simpa using hno j),fun j _ h=>absurd h (hno j),fun j _ _ h=>absurd h (hno j)⟩
  · intro listed a w i hs hI hi
    obtain ⟨vals,hag,hC,hU,hcl⟩:=hI
    obtain ⟨o,ho,hlt,hnl,haf⟩:=ready_at hs hi
    have hnl2:¬ listed.getD i false=true:=by
      rw [Array.getD_eq_getD_getElem?,Array.getElem?_eq_getElem (by omega)] at hnl ⊢
      simp only [Option.getD_some] at hnl ⊢
      rw [hnl];decide
    have hnl3:listed.getD i false=false:=by simpa using hnl2
    have hT:=agree_T (a0:=a0) hA vals i (Nat.le_of_lt hlt)
    have hlook:∀ d∈o.looksAt ops,a.tmps[d]?=(T ops a0 vals i).tmps[d]?:=fun d hd=>hag.at_ hT d fun j oj hj hjd=>by
      obtain ⟨e,he,hbe,rfl⟩:=hdep i o ho d hd j oj hj hjd
      exact ⟨fun _=>hb i o ho e he hbe,fun _=>haf e he hbe⟩
    have hst:=hstep i o ho (fun j=>listed.getD j false) vals w hcl hnl3 hC (fun e he hbe=>hU e.on (Nat.lt_trans (hb i o ho e he hbe) hlt) (haf e he hbe))
    have hfin:∀ v w',(R i w w'∧U i (upd vals i v) w')→∃ vals',Agree ops a0 (fun j=>(listed.setIfInBounds i true).getD j false=true) vals' (a.put o.dst v)∧C (fun j=>(listed.setIfInBounds i true).getD j false) w'∧(∀ j,j < ops.size→(listed.setIfInBounds i true).getD j false=true→U j vals' w')∧Clo ops (fun j=>(listed.setIfInBounds i true).getD j false):=by
      intro v w' ⟨hR,hUi⟩
      have hLL:∀ j,(listed.setIfInBounds i true).getD j false=true ↔ (listed.getD j false=true∨j=i):=by
        intro j
        rw [Array.getD_eq_getD_getElem?,Array.getD_eq_getD_getElem?,Array.getElem?_setIfInBounds]
        by_cases hij:i=j
        · subst hij;rw [if_pos rfl,if_pos (by omega)];simp
        · rw [if_neg hij]
          exact ⟨.inl,fun h=>h.resolve_right (fun e=>hij e.symm)⟩
      refine ⟨upd vals i v,hag.put hA ho hnl2 v hLL,hCR i _ _ _ _ hlt hnl3 hLL hC hR,fun j hj hl=>?_,fun j oj hj hl e he hbe=>?_⟩
      rcases (hLL j).1 hl with h1 | h1
      · have hji:j≠i:=by rintro rfl;exact hnl2 h1
        have hjo:ops[j]?=some ops[j]:=Array.getElem?_eq_getElem hj
        refine hUc j ops[j] vals (upd vals i v) hjo (upd_other _ _ _ _ hji).symm (fun e he hbe=>?_) w' (hUm i j _ vals w w' hlt hji hC hR (hU j hj h1))
        have h3:=hcl j ops[j] hjo h1 e he hbe
        exact (upd_other _ _ _ _ (by intro h4;rw [h4] at h3;exact hnl2 h3)).symm
      · subst h1;exact hUi
      · rcases (hLL j).1 hl with h1 | h1
        · exact (hLL e.on).2 (.inl (hcl j oj hj h1 e he hbe))
        · subst h1
          rw [ho] at hj;cases hj
          exact (hLL e.on).2 (.inl (haf e he hbe))
    unfold wpOp at hst ⊢
    simp only [ho] at hst ⊢
    rw [wanted_same o hlook]
    split
    · rename_i hw
      rw [if_pos hw] at hst
      rcases hst with hst | ⟨x1,x2,x3,hst⟩
      · exact .inl (Oper.wp_mono (fun a' w' ⟨v,h1,h2⟩=>h1 ▸ hfin v w' h2) (wp_sameD (fun e w h=>hQ e a w hag.defers h) (exec_same o (hsel i o ho) hlook) (hag.none hT) hst))
      · refine .inr ⟨?_,a,x3,hQ _ _ _ hag.defers hst⟩
        unfold Oper.asks at x1 ⊢
        rw [exec_same o (hsel i o ho) hlook]
        exact x1
    · rename_i hw
      rw [if_neg hw] at hst
      obtain ⟨v,h1,h2⟩:=hst
      rw [put_val (hag.none hT) h1]
      exact hfin v w h2
  · intro listed a w hs hI hr
    obtain ⟨vals,hag,hC,hU,hcl⟩:=hI
    have hall:=all_listed hs hb hr
    rw [hag.same (agree_T hA vals ops.size (Nat.le_refl _)) (fun j hj=>⟨fun _=>hj,fun _=>hall j hj⟩)]
    exact hend _ vals w hC fun i hi=>hU i hi (hall i hi)
end
def StepD (D:Exit→World→Prop) (P:Program) (ops:Array Oper) (C:(Nat→Bool)→World→Prop) (R:Nat→World→World→Prop) (F:Nat→(Nat→Value)→World→Prop) (vals:Nat→Value) (k:Nat) (o:Oper) (a:Act):Prop:=
  ∀ L W,Clo ops L→L k=false→C L W→(∀ e∈o.after,Region.binds .any e=true→F e.on vals W) →
    if Region.wanted o (yielded ops a.tmps)=true then o.wp P a W (fun a' W'=>∃ v,a'=a.put o.dst v∧R k W W'∧F k (upd vals k v) W') (QD D) else R k W W∧F k (upd vals k undef) W
def ObD (D:Exit→World→Prop) (P:Program) (ops:Array Oper) (C:(Nat→Bool)→World→Prop) (R:Nat→World→World→Prop) (F:Nat→(Nat→Value)→World→Prop) (vals:Nat→Value):Nat→List Oper→Act→Prop
  | _,[],_=>True
  | k,o :: r,a=>StepD D P ops C R F vals k o a∧ObD D P ops C R F vals (k + 1) r (a.put o.dst (vals k))
theorem obD_at {D:Exit→World→Prop} {P:Program} {ops:Array Oper} {C:(Nat→Bool)→World→Prop} {R:Nat→World→World→Prop} {F:Nat→(Nat→Value)→World→Prop} {vals:Nat→Value} {a0:Act}:∀ (r:List Oper) (k:Nat),(∀ i o,r[i]?=some o→ops[k + i]?=some o)→ObD D P ops C R F vals k r (T ops a0 vals k) →
    ∀ i o,r[i]?=some o→StepD D P ops C R F vals (k + i) o (T ops a0 vals (k + i))
  | [],k,_,_,i,o,h=>by simp at h
  | x :: r,k,hk,⟨h1,h2⟩,0,o,h=>by simp at h;subst h;exact h1
  | x :: r,k,hk,⟨h1,h2⟩,i + 1,o,h=>by
    have h0:ops[k]?=some x:=hk 0 x rfl
    rw [show (T ops a0 vals k).put x.dst (vals k)=T ops a0 vals (k + 1) by simp only [T,h0,Option.bind_some]] at h2
    have:=obD_at r (k + 1) (fun i y hy=>by rw [show k + 1 + i=k + (i + 1) by omega];exact hk (i + 1) y (by simpa using hy)) h2 i o (by simpa using h)
    rwa [show k + 1 + i=k + (i + 1) by omega] at this
theorem wp_region_obD {P:Program} {l:List Oper} {a0:Act} {id:Nat} {Q:Exit→Act→World→Prop} {w0:World} {D:Exit→World→Prop} (hQ:∀ e (a:Act) w,a.defers=a0.defers→D e w→Q e a w) (hm:P.follows .mixedOrders=true) (hB:fitB l.toArray=true)
    (C:(Nat→Bool)→World→Prop) (R:Nat→World→World→Prop) (F:Nat→(Nat→Value)→World→Prop)
    (hC0:∀ L:Nat→Bool,(∀ j,L j=false)→C L w0.drew) (hCR:∀ i (L L':Nat→Bool) w w',L i=false→(∀ j,L' j=true ↔ (L j=true∨j=i))→C L w→R i w w'→C L' w')
    (hFm:∀ i j L vals w w',j≠i→C L w→R i w w'→F j vals w→F j vals w')
    (hFc:∀ (j:Nat) (oj:Oper) vals vals',l[j]?=some oj→vals j=vals' j→(∀ e∈oj.after,Region.binds .any e=true→vals e.on=vals' e.on)→∀ w,F j vals w→F j vals' w)
    (hob:∀ vals:Nat→Value,ObD D P l.toArray C R F vals 0 l a0)
    (hend:∀ L (vals:Nat→Value) W,C L W→(∀ i,i < l.length→F i vals W)→Q .normal (TL vals 0 l a0) W):(Code.region id l.toArray true).wp P Q a0 w0:=by
  refine wp_region_eachD hQ hm (fun i j oi oj d hi hj hdi hdj=>((fitB_at hB hi).2.2 j oj d hj hdj).2 hdi) (fun i o hi cs b e=>by have:=(fitB_at hB hi).1;rw [e] at this;cases this)
    (fun i o hi=>(fitB_at hB hi).2.1) (fun i o hi d hd j oj hj hjd=>((fitB_at hB hi).2.2 j oj d hj hjd).1 hd)
    C R F hC0 (fun i L L' w w' _ h1 h2 h h'=>hCR i L L' w w' h1 h2 h h') (fun i j L vals w w' _ h0 h h'=>hFm i j L vals w w' h0 h h') (fun j oj vals vals' hj=>hFc j oj vals vals' (by simpa using hj)) ?_ ?_
  · intro i oi hi L vals W hL hn hc hw
    have hi':l[i]?=some oi:=by simpa using hi
    have h0:=obD_at l 0 (fun i o h=>by simpa using h) (hob vals) i oi hi'
    rw [Nat.zero_add] at h0
    have h1:=h0 L W hL hn hc hw
    unfold wpOp
    simp only [hi]
    split
    · rename_i hx;rw [if_pos hx] at h1;exact .inl h1
    · rename_i hx;rw [if_neg hx] at h1;exact ⟨undef,rfl,h1⟩
  · intro L vals W hc h
    have:=T_app vals a0 l.toArray l 0 fun i o h=>by simpa using h
    rw [Nat.zero_add] at this
    have h2:=hend L vals W hc fun i hi=>h i (by simpa using hi)
    rw [show TL vals 0 l a0=T l.toArray a0 vals l.length from this] at h2
    simpa using h2
end Go.Proofs.Each
namespace Go.Proofs.Each
open Go Go.RowKit Go.Proofs.Mem
structure Cw (w0:World) (k:Nat) (S S1:Nat→Prop) (A B:World→Prop) (L:Nat→Bool) (W:World):Prop where
  fr:Fr (fun x=>S x∨S1 x) w0 W
  pre:L k=false→A W
  post:L k=true→B W
structure Rw (k s:Nat) (S S1:Nat→Prop) (A B:World→Prop) (FinA:Value→World→Prop) (i:Nat) (W W':World):Prop where
  fr:Fr (fun x=>S x∨S1 x) W W'
  a:i≠k→A W→A W'
  b:i≠k→B W→B W'
  atk:i=k→B W'
  blk:i≠s→Fr S W W'
  fina:i=s→∀ v,FinA v W→FinA v W'
def Fw (k a s:Nat) (B:World→Prop) (FinA FinS:Value→World→Prop) (Fs:List (Value→Prop)) (j:Nat) (vals:Nat→Value) (W:World):Prop:=
  if j=s then FinS (vals a) W else if j=a then FinA (vals a) W else (j=k→B W)∧(Fs.getD j fun _=>True) (vals j)
section
variable {w0:World} {k a s j i:Nat} {S S1:Nat→Prop} {A B:World→Prop} {FinA FinS:Value→World→Prop} {Fs:List (Value→Prop)} {vals:Nat→Value} {W W':World} {v:Value} {f:Value→Prop} {L:Nat→Bool}
theorem Cw.or (h:Cw w0 k S S1 A B L W):A W∨B W:=by
  cases e:L k with
  | false=>exact .inl (h.pre e)
  | true=>exact .inr (h.post e)
theorem Rw.same (hk:i≠k) (hs:i≠s):Rw k s S S1 A B FinA i W W:=⟨Fr.refl _ _,fun _ h=>h,fun _ h=>h,fun e=>absurd e hk,fun _=>Fr.refl _ _,fun e=>absurd e hs⟩
theorem Rw.below (hk:i≠k) (hs:i≠s) (hA:A W→A W') (hB:B W→B W') (hb:Below W.heap.size W W'):Rw k s S S1 A B FinA i W W':=
  ⟨Fr.of_below hb,fun _=>hA,fun _=>hB,fun e=>absurd e hk,fun _=>Fr.of_below hb,fun e=>absurd e hs⟩
theorem Rw.work (hs:k≠s) (hf:Fr S W W') (hb:B W'):Rw k s S S1 A B FinA k W W':=
  ⟨hf.mono fun _ _ h=>.inl h,fun e=>absurd rfl e,fun e=>absurd rfl e,fun _=>hb,fun _=>hf,fun e=>absurd e hs⟩
theorem Rw.store (hk:s≠k) (hf:Fr S1 W W') (hA:A W→A W') (hB:B W→B W') (hfa:∀ v,FinA v W→FinA v W'):Rw k s S S1 A B FinA s W W':=
  ⟨hf.mono fun _ _ h=>.inr h,fun _=>hA,fun _=>hB,fun e=>absurd e hk,fun e=>absurd rfl e,fun _=>hfa⟩
theorem Fw.val (hs:j≠s) (ha:j≠a) (hk:j≠k) (hE:(Fs.getD j fun _=>True)=f) (hf:f v):Fw k a s B FinA FinS Fs j (upd vals j v) W:=by
  unfold Fw;rw [if_neg hs,if_neg ha,upd_same,hE];exact ⟨fun e=>absurd e hk,hf⟩
theorem Fw.work (hs:k≠s) (ha:k≠a) (hB:B W) (hE:(Fs.getD k fun _=>True)=f) (hf:f v):Fw k a s B FinA FinS Fs k (upd vals k v) W:=by
  unfold Fw;rw [if_neg hs,if_neg ha,upd_same,hE];exact ⟨fun _=>hB,hf⟩
theorem Fw.made (hs:a≠s) (h:FinA v W):Fw k a s B FinA FinS Fs a (upd vals a v) W:=by
  unfold Fw;rw [if_neg hs,if_pos rfl,upd_same];exact h
theorem Fw.laid (hs:a≠s) (h:FinS (vals a) W):Fw k a s B FinA FinS Fs s (upd vals s v) W:=by
  unfold Fw;rw [if_pos rfl,upd_other _ _ _ _ hs];exact h
theorem Fw.get (h:Fw k a s B FinA FinS Fs j vals W) (hs:j≠s) (ha:j≠a) (hE:(Fs.getD j fun _=>True)=f):f (vals j):=by
  unfold Fw at h;rw [if_neg hs,if_neg ha,hE] at h;exact h.2
theorem Fw.getk (h:Fw k a s B FinA FinS Fs k vals W) (hs:k≠s) (ha:k≠a):B W:=by
  unfold Fw at h;rw [if_neg hs,if_neg ha] at h;exact h.1 rfl
theorem Fw.geta (h:Fw k a s B FinA FinS Fs a vals W) (hs:a≠s):FinA (vals a) W:=by
  unfold Fw at h;rw [if_neg hs,if_pos rfl] at h;exact h
theorem Fw.gets (h:Fw k a s B FinA FinS Fs s vals W):FinS (vals a) W:=by
  unfold Fw at h;rw [if_pos rfl] at h;exact h
end
theorem wp_region_work {P:Program} {l:List Oper} {a0:Act} {id:Nat} {Q:Exit→Act→World→Prop} {w0:World} {D:Exit→World→Prop} (hQ:∀ e (a:Act) w,a.defers=a0.defers→D e w→Q e a w) (hm:P.follows .mixedOrders=true) (hB:fitB l.toArray=true)
    (k a s:Nat) (hka:k≠a) (hks:k≠s) (S S1:Nat→Prop) (A B:World→Prop) (FinA FinS:Value→World→Prop) (Fs:List (Value→Prop))
    (hFA:∀ v W W',Fr S W W'→FinA v W→FinA v W') (hFS:∀ v W W',Fr S W W'→FinS v W→FinS v W')
    (hdep:(∀ v v' W,FinS v W→FinS v' W)∨∀ o,l[s]?=some o→∃ e∈o.after,Region.binds .any e=true∧e.on=a)
    (hk:k < l.length) (hA0:A w0.drew)
    (hob:∀ vals:Nat→Value,ObD D P l.toArray (Cw w0 k S S1 A B) (Rw k s S S1 A B FinA) (Fw k a s B FinA FinS Fs) vals 0 l a0)
    (hend:∀ (vals:Nat→Value) W,Fr (fun x=>S x∨S1 x) w0 W→B W→(s < l.length→FinS (vals a) W)→(∀ i,i < l.length→i≠s→i≠a→(Fs.getD i fun _=>True) (vals i))→Q .normal (TL vals 0 l a0) W):(Code.region id l.toArray true).wp P Q a0 w0:=by
  refine wp_region_obD hQ hm hB (Cw w0 k S S1 A B) (Rw k s S S1 A B FinA) (Fw k a s B FinA FinS Fs) ?_ ?_ ?_ ?_ hob ?_
  · intro L hL
    exact ⟨(Fr.refl _ _).drew,fun _=>hA0,fun h=>by rw [hL k] at h;cases h⟩
  · intro i L L' W W' hi hLL h h'
    refine ⟨h.fr.trans h'.fr,fun hL'=>?_,fun hL'=>?_⟩
    · have hLk:L k=false:=by
        cases e:L k with
        | false=>rfl
        | true=>rw [(hLL k).2 (.inl e)] at hL';cases hL'
      have hik:i≠k:=fun e=>by rw [(hLL k).2 (.inr e.symm)] at hL';cases hL'
      exact h'.a hik (h.pre hLk)
    · by_cases hik:i=k
      · exact h'.atk hik
      · rcases (hLL k).1 hL' with e | e
        · exact h'.b hik (h.post e)
        · exact absurd e.symm hik
  · intro i j L vals W W' hji hc hr hf
    unfold Fw at hf ⊢
    by_cases h1:j=s
    · rw [if_pos h1] at hf ⊢
      exact hFS _ _ _ (hr.blk fun e=>hji (h1.trans e.symm)) hf
    · rw [if_neg h1] at hf ⊢
      by_cases h2:j=a
      · rw [if_pos h2] at hf ⊢
        by_cases h3:i=s
        · exact hr.fina h3 _ hf
        · exact hFA _ _ _ (hr.blk h3) hf
      · rw [if_neg h2] at hf ⊢
        exact ⟨fun e=>hr.b (fun e'=>hji (e.trans e'.symm)) (hf.1 e),hf.2⟩
  · intro j oj vals vals' hj hv hw W hf
    unfold Fw at hf ⊢
    by_cases h1:j=s
    · rw [if_pos h1] at hf ⊢
      rcases hdep with hd | hd
      · exact hd _ _ _ hf
      · subst h1
        obtain ⟨e,he,hb,e2⟩:=hd oj hj
        have:=hw e he hb
        rw [e2] at this
        rw [← this];exact hf
    · rw [if_neg h1] at hf ⊢
      by_cases h2:j=a
      · rw [if_pos h2] at hf ⊢
        rw [← h2,← hv,h2];exact hf
      · rw [if_neg h2] at hf ⊢
        rw [← hv];exact hf
  · intro L vals W hc h
    exact hend vals W hc.fr ((h k hk).getk hks hka) (fun hs=>(h s hs).gets) (fun i hi h1 h2=>(h i hi).get h1 h2 rfl)
end Go.Proofs.Each
namespace Go.Proofs.YtabckmadpdchnaaGreat.Rule
open Go.ChangeShapes Go.WideShapes Go.ChangeAt Go.RowKit Go.IntWalk Go.Proofs.Mem
structure K7 (w:World) (g:Nat) (q:Ot):Prop where
  c0:w.cell? ⟨g,0,none⟩=some (.int .u8 q.kd)
  c1:w.cell? ⟨g,1,none⟩=some (.int .u32 q.wh)
  c2:w.cell? ⟨g,2,none⟩=some (.int .u32 q.wm)
  c3:w.cell? ⟨g,3,none⟩=some (.int .u32 q.wt)
  c4:w.cell? ⟨g,4,none⟩=some (.int .u32 q.id)
  c5:w.cell? ⟨g,5,none⟩=some (.int .u64 q.n)
  c6:w.cell? ⟨g,6,none⟩=some (.int .u64 q.pr)
structure St (w:World) (g:Nat) (q:Ot) (v:Value) (base i:Nat) (p:Value) (l:List Pu):Prop where
  wb:WorkAt w g q v i p
  own:w.ownsRow base 69 6 p l.length (putCells l)
section
variable {w w':World} {g base i:Nat} {q:Ot} {v p:Value} {l:List Pu} {S:Nat→Prop} {seen:List Ce}
theorem St.kn (h:St w g q v base i p l):K7 w g q:=⟨h.wb.cell 0,h.wb.cell 1,h.wb.cell 2,h.wb.cell 3,h.wb.cell 4,h.wb.cell 5,h.wb.cell 6⟩
theorem St.later (h:St w g q v base i p l) (hb:Below w.heap.size w w'):St w' g q v base i p l:=⟨h.wb.later hb,own_below h.own hb⟩
theorem St.drew (h:St w g q v base i p l):St w.drew g q v base i p l:=⟨h.wb.drew,own_drewN h.own 1⟩
theorem St.fr (h:St w g q v base i p l) (hf:Fr S w w') (hg:¬ S g) (hp:∀ x,p.ownBlock=some x→¬ S x):St w' g q v base i p l:=⟨h.wb.fr hf hg,own_frs h.own hf hp⟩
theorem St.looked (h:St w g q v base i p l) (hg:g < base) (hf:Fr (fun x=>x=g) w w') {j:Nat} (hw:WorkAt w' g q v j p):St w' g q v base j p l:=
  ⟨hw,own_frs h.own hf (fun x hx e=>by have:=(h.own.lt x hx).1;omega)⟩
theorem SeenAt.fr (h:SeenAt w g v seen) (hf:Fr S w w') (hg:g≤w.heap.size) (hS:∀ x,x < g→¬ S x):SeenAt w' g v seen:=
  h.keep fun a ha=>hf.cell (by omega) (hS _ ha)
end
def Did {α:Type} (w:World) (g:Nat) (q:Ot) (v:Value) (base i:Nat) (p:Value) (l:List Pu) (seen:List Ce) (m:Om α) (enc:α→Value) (e:Ending) (w':World):Prop:=
  match runOm seen m i l with
  | .miss k a b=>e=.panicked (raiseK k a b)∧Below g w w'
  | .err n=>e=.panicked (raise_ n)∧Below g w w'
  | .ok y j=>e=.returned (enc y.1)∧∃ p',St w' g q v base j p' y.2∧Fr (fun x=>x=g∨p.ownBlock=some x) w w'∧NewOwn p p' w.heap.size
section
variable {α:Type} {w w':World} {g base i:Nat} {q:Ot} {v p:Value} {l:List Pu} {seen:List Ce} {m:Om α} {enc:α→Value}
theorem Did.miss {k a b:Int} (h:runOm seen m i l=.miss k a b) (hb:Below g w w'):Did w g q v base i p l seen m enc (.panicked (raiseK k a b)) w':=by
  unfold Did;rw [h];exact ⟨rfl,hb⟩
theorem Did.err {n:Int} (h:runOm seen m i l=.err n) (hb:Below g w w'):Did w g q v base i p l seen m enc (.panicked (raise_ n)) w':=by
  unfold Did;rw [h];exact ⟨rfl,hb⟩
theorem Did.ok {y:α × List Pu} {j:Nat} {p':Value} {u:Value} (h:runOm seen m i l=.ok y j) (hu:u=enc y.1) (hs:St w' g q v base j p' y.2) (hf:Fr (fun x=>x=g∨p.ownBlock=some x) w w') (hn:NewOwn p p' w.heap.size):Did w g q v base i p l seen m enc (.returned u) w':=by
  unfold Did;rw [h];exact ⟨by rw [hu],p',hs,hf,hn⟩
theorem Did.cases {e:Ending} (h:Did w g q v base i p l seen m enc e w') :
    (∃ k a b,runOm seen m i l=.miss k a b∧e=.panicked (raiseK k a b)∧Below g w w')∨(∃ n,runOm seen m i l=.err n∧e=.panicked (raise_ n)∧Below g w w') ∨
    ∃ y j,runOm seen m i l=.ok y j∧e=.returned (enc y.1)∧∃ p',St w' g q v base j p' y.2∧Fr (fun x=>x=g∨p.ownBlock=some x) w w'∧NewOwn p p' w.heap.size:=by
  unfold Did at h
  split at h
  · rename_i k a b e1;exact .inl ⟨k,a,b,e1,h⟩
  · rename_i n e1;exact .inr (.inl ⟨n,e1,h⟩)
  · rename_i y j e1;exact .inr (.inr ⟨y,j,e1,h⟩)
end
section
variable {seen:List Ce} {i:Nat} {l:List Pu} {c:Ce}
theorem run_look_no {k a b:Int} (h:seen[i]?=none):runOm seen (oLook k a b) i l=.miss k a b:=by
  unfold runOm oLook;simp only [runTr];rw [h]
theorem run_look {k a b:Int} (h:seen[i]?=some c):runOm seen (oLook k a b) i l=.ok (⟨c.vA,c.vB,k,a,b,c.is⟩,l) (i + 1):=by
  unfold runOm oLook;simp only [runTr];rw [h]
theorem run_err_ {α:Type} {e:Int}:runOm seen (oErr e:Om α) i l=.err e:=rfl
theorem run_put {x:Pu}:runOm seen (oPut x) i l=.ok ((),l++[x]) i:=rfl
theorem run_deny_no {e:Int}:runOm seen (oDeny false e) i l=.ok ((),l) i:=rfl
theorem run_deny_yes {e:Int}:runOm seen (oDeny true e) i l=.err e:=rfl
theorem run_there_no {k a b:Int} (h:seen[i]?=none):runOm seen (oThere k a b) i l=.miss k a b:=by
  unfold oThere;rw [runOm_bind,run_look_no h]
theorem run_there_not {k a b:Int} (h:seen[i]?=some c) (hi:c.is=false):runOm seen (oThere k a b) i l=.err 211:=by
  unfold oThere;rw [runOm_bind,run_look h];simp only [runOm_bind,hi,Bool.not_false,run_deny_yes]
theorem run_there {k a b:Int} (h:seen[i]?=some c) (hi:c.is=true):runOm seen (oThere k a b) i l=.ok (⟨c.A,c.B,k,a,b,true⟩,l) (i + 1):=by
  unfold oThere;rw [runOm_bind,run_look h];simp only [runOm_bind,hi,Bool.not_true,run_deny_no,Ce.vA,Ce.vB,if_true];rfl
theorem run_more {a n:Int} (h:¬ (4611686018427387904 < a∨4611686018427387904 < n∨4611686018427387904 < a + n)):runOm seen (oMore a n) i l=.ok (a + n,l) i:=by unfold oMore;rw [if_neg h];rfl
theorem run_more_no {a n:Int} (h:4611686018427387904 < a∨4611686018427387904 < n∨4611686018427387904 < a + n):runOm seen (oMore a n) i l=.err 30:=by unfold oMore;rw [if_pos h];rfl
theorem run_less {a n:Int} (h:¬ (4611686018427387904 < a∨4611686018427387904 < n)) (h2:¬ a < n):runOm seen (oLess a n) i l=.ok (a - n,l) i:=by unfold oLess;rw [if_neg h,if_neg h2];rfl
theorem run_less_great {a n:Int} (h:4611686018427387904 < a∨4611686018427387904 < n):runOm seen (oLess a n) i l=.err 30:=by unfold oLess;rw [if_pos h];rfl
theorem run_less_low {a n:Int} (h:¬ (4611686018427387904 < a∨4611686018427387904 < n)) (h2:a < n):runOm seen (oLess a n) i l=.err 215:=by unfold oLess;rw [if_neg h,if_pos h2];rfl
end
def Rp.enc (r:Rp):Value:=.agg #[.int .u16 0,.int .u64 r.A,.int .u64 r.B,.int .u64 r.C]
end Go.Proofs.YtabckmadpdchnaaGreat.Rule
namespace Go.Proofs.YtabckmadpdchnaaGreat.Rule
open Go.ChangeShapes Go.WideShapes Go.ChangeAt Go.RowKit Go.IntWalk Go.Proofs.Mem Go.Proofs.Each
theorem Ce.Ok.vA {c:Ce} (h:c.Ok):0≤c.vA∧c.vA≤18446744073709551615:=by
  have:=h.A;unfold Ce.vA;split <;> omega
theorem vA_ok {seen:List Ce} {i:Nat} {c:Ce} (h:∀ c∈seen,c.Ok) (he:seen[i]?=some c):0≤c.vA∧c.vA≤18446744073709551615:=(h c (List.mem_of_getElem? he)).vA
theorem the_cell (seen:List Ce) (i:Nat):∃ ce,∀ c,seen[i]?=some c→c=ce:=by
  cases e:seen[i]? with
  | none=>exact ⟨⟨0,0,0,0,0,false⟩,fun c h=>by cases h⟩
  | some c=>exact ⟨c,fun d h=>by injection h with h;exact h.symm⟩
def Ls (a n:Int):Prop:=¬ (4611686018427387904 < a∨4611686018427387904 < n)∧¬ a < n
def Mr (a n:Int):Prop:=¬ (4611686018427387904 < a∨4611686018427387904 < n∨4611686018427387904 < a + n)
def ThA (n:Nat) (v:Value) (W:World):Prop:=∃ gt C,v=.pointer (some ⟨gt,0,none⟩)∧n≤gt∧Box W gt C 130∧C.size=6
def ThS (n:Nat) (cs:Array Value) (v:Value) (W:World):Prop:=∃ gt,v=.pointer (some ⟨gt,0,none⟩)∧n≤gt∧Box W gt cs 130
theorem arr6 {C:Array Value} (h:C.size=6):∃ a b c d e f,C=#[a,b,c,d,e,f]:=by
  obtain ⟨l⟩:=C
  match l,h with
  | [a,b,c,d,e,f],_=>exact ⟨a,b,c,d,e,f,rfl⟩
theorem A_ok {seen:List Ce} {i:Nat} {c:Ce} (h:∀ c∈seen,c.Ok) (he:seen[i]?=some c):0≤c.A∧c.A≤18446744073709551615:=(h c (List.mem_of_getElem? he)).A
end Go.Proofs.YtabckmadpdchnaaGreat.Rule
namespace Go.Proofs.YtabckmadpdchnaaGreat.Rule
open Go.ChangeShapes Go.WideShapes Go.ChangeAt Go.RowKit Go.IntWalk Go.Proofs.Mem Go.Proofs.Each
structure Begin (w:World) (g:Nat) (q:Ot) (v:Value) (base:Nat) (p:Value) (seen:List Ce):Prop where
  hs:SeenAt w g v seen
  hg:g < base
  hbase:base≤w.heap.size
  hq:q.Ok
  hok:∀ c∈seen,c.Ok
  own:∀ x,p.ownBlock=some x→base≤x∧x < w.heap.size
structure Run (w:World) (g:Nat) (q:Ot) (v:Value) (base:Nat) (p:Value) (W:World) (j:Nat) (p':Value) (l:List Pu):Prop where
  st:St W g q v base j p' l
  nw:NewOwn p p' w.heap.size
  fr:Fr (fun x=>x=g∨p.ownBlock=some x) w W
section
variable {w W W':World} {g base j:Nat} {q:Ot} {v p p':Value} {l:List Pu} {seen:List Ce} {S:Nat→Prop}
theorem Begin.lt (h:Begin w g q v base p seen):g < w.heap.size:=Nat.lt_of_lt_of_le h.hg h.hbase
theorem Run.start (h:St w g q v base j p l) (hb:Below w.heap.size w W):Run w g q v base p W j p l:=⟨h.later hb,fun x hx=>.inl hx,Fr.of_below hb⟩
theorem Run.later (h:Run w g q v base p W j p' l) (hb:Below W.heap.size W W'):Run w g q v base p W' j p' l:=⟨h.st.later hb,h.nw,h.fr.below hb⟩
theorem Run.drew (h:Run w g q v base p W j p' l):Run w g q v base p W.drew j p' l:=⟨h.st.drew,h.nw,h.fr.drew⟩
theorem Run.size (h:Run w g q v base p W j p' l):w.heap.size≤W.heap.size:=h.fr.size
theorem Run.own (h:Run w g q v base p W j p' l) {x:Nat} (hx:p'.ownBlock=some x):base≤x∧x < W.heap.size:=h.st.own.lt x hx
theorem Run.cells_ (h:Run w g q v base p W j p' l) (hb:Begin w g q v base p seen):SeenAt W g v seen:=
  SeenAt.fr hb.hs h.fr (Nat.le_of_lt hb.lt) fun x hx=>by
    rintro (e | e)
    · omega
    · have:=(hb.own x e).1;have:=hb.hg;omega
theorem Run.low (h:Run w g q v base p W j p' l) (hb:Begin w g q v base p seen):Below g w W:=
  h.fr.to_below (B:=g) (fun x hx=>by
    rcases hx with e | e
    · omega
    · have:=(hb.own x e).1;have:=hb.hg;omega) (Nat.le_of_lt hb.lt)
theorem Run.lowB (h:Run w g q v base p W j p' l) (hb:Begin w g q v base p seen) (hf:Below W.heap.size W W'):Below g w W':=
  (h.low hb).trans (hf.mono (by have:=hb.lt;have:=h.size;omega))
theorem Run.lowF (h:Run w g q v base p W j p' l) (hb:Begin w g q v base p seen) (hf:Fr (fun x=>x=g) W W'):Below g w W':=
  (h.low hb).trans (hf.to_below (B:=g) (fun x hx=>by omega) (by have:=hb.lt;have:=h.size;omega))
theorem Run.far (h:Run w g q v base p W j p' l) {b:Nat} {C:Array Value} {t:TypeId} (hx:Box W b C t) (ht:t≠69) (hg:b≠g):¬ (b=g∨p'.ownBlock=some b):=by
  rintro (e | e)
  · exact hg e
  · exact own_not_box h.st.own hx ht e
theorem Run.set (h:Run w g q v base p W j p' l) (hb:Begin w g q v base p seen) {b:Nat} {C:Array Value} {t:TypeId} (hx:Box W b C t) (ht:t≠69) (hlt:w.heap.size≤b) (hf:Fr (fun x=>x=b) W W'):Run w g q v base p W' j p' l:=
  ⟨h.st.fr hf (by have:=hb.lt;omega) (fun x hx' e=>own_not_box h.st.own hx ht (by rw [hx',e])),h.nw,h.fr.trans' hf (fun i hi e=>by omega)⟩
theorem Run.looked (h:Run w g q v base p W j p' l) (hb:Begin w g q v base p seen) {n:Nat} (hw:WorkAt W' g q v n p') (hf:Fr (fun x=>x=g) W W'):Run w g q v base p W' n p' l:=
  ⟨h.st.looked hb.hg hf hw,h.nw,h.fr.trans (hf.mono fun _ _ e=>.inl e)⟩
theorem Run.putq (h:Run w g q v base p W j p' l) (hb:Begin w g q v base p seen) {n:Nat} {p2:Value} {l2:List Pu} (hw:WorkAt W' g q v n p2) (ho:W'.ownsRow base 69 6 p2 l2.length (putCells l2)) (hf:Fr (fun x=>x=g∨p'.ownBlock=some x) W W') (hn:NewOwn p' p2 W.heap.size):Run w g q v base p W' n p2 l2:=
  ⟨⟨hw,ho⟩,fun x hx=>by
    rcases hn x hx with e | e
    · exact h.nw x e
    · have:=h.size;exact .inr (by omega),h.fr.trans' hf (fun i hi e=>by
    rcases e with e | e
    · exact .inl e
    · rcases h.nw i e with e | e
      · exact .inr e
      · omega)⟩
theorem Run.did {α:Type} {m:Om α} {enc:α→Value} {i:Nat} {l0:List Pu} {y:α × List Pu} {u:Value} (h:Run w g q v base p W j p' y.2) (hr:runOm seen m i l0=.ok y j) (hu:u=enc y.1):Did w g q v base i p l0 seen m enc (.returned u) W:=
  Did.ok hr hu h.st h.fr h.nw
end
section
variable {w W:World} {g base j:Nat} {q:Ot} {v p p':Value} {l:List Pu} {seen:List Ce}
def LookQ (w:World) (g:Nat) (q:Ot) (v:Value) (base:Nat) (p:Value) (W:World) (j:Nat) (p':Value) (l:List Pu) (seen:List Ce) (k a b:Int) (e:Ending) (w':World):Prop:=
  (seen[j]?=none∧e=.panicked (raiseK k a b)∧Below g w w') ∨
  ∃ c,seen[j]?=some c∧e=.returned (.agg (thing c.vA c.vB k a b c.is))∧Run w g q v base p w' (j + 1) p' l∧Fr (fun x=>x=g) W w'
theorem look_run (h:Run w g q v base p W j p' l) (hb:Begin w g q v base p seen) (hj:j≤1000000) (k a b:Int) :
    Calls Tryz.prog 79 #[.pointer (some ⟨g,7,none⟩),.agg #[.int .u8 k,.int .u32 a,.int .u32 b]] W (LookQ w g q v base p W j p' l seen k a b):=
  (look_any W g q v j p' seen h.st.wb (h.cells_ hb) hj k a b).mono fun e w' hq=>by
    rcases hq with ⟨h1,h2,h3⟩ | ⟨c,h1,h2,h3,h4⟩
    · exact .inl ⟨h1,h2,h.lowB hb h3⟩
    · exact .inr ⟨c,h1,h2,h.looked hb h3 h4,h4⟩
def ThereQ (w:World) (g:Nat) (q:Ot) (v:Value) (base:Nat) (p:Value) (W:World) (j:Nat) (p':Value) (l:List Pu) (seen:List Ce) (k a b:Int) (e:Ending) (w':World):Prop:=
  (seen[j]?=none∧e=.panicked (raiseK k a b)∧Below g w w') ∨
  (∃ c,seen[j]?=some c∧c.is=false∧e=.panicked (raise_ 211)∧Below g w w') ∨
  ∃ c,seen[j]?=some c∧c.is=true∧e=.returned (.agg (thing c.A c.B k a b true))∧Run w g q v base p w' (j + 1) p' l∧Fr (fun x=>x=g) W w'
theorem there_run (h:Run w g q v base p W j p' l) (hb:Begin w g q v base p seen) (hj:j≤1000000) (k a b:Int) :
    Calls Tryz.prog 82 #[.pointer (some ⟨g,7,none⟩),.agg #[.int .u8 k,.int .u32 a,.int .u32 b]] W (ThereQ w g q v base p W j p' l seen k a b):=
  (there_any W g q v j p' seen h.st.wb (h.cells_ hb) hj k a b).mono fun e w' hq=>by
    rcases hq with ⟨h1,h2,h3⟩ | ⟨c,h1,h2,h3,h4⟩ | ⟨c,h1,h2,h3,h4,h5⟩
    · exact .inl ⟨h1,h2,h.lowB hb h3⟩
    · exact .inr (.inl ⟨c,h1,h2,h3,h.lowF hb h4⟩)
    · exact .inr (.inr ⟨c,h1,h2,h3,h.looked hb h4 h5,h5⟩)
def PutR (w:World) (g:Nat) (q:Ot) (v:Value) (base:Nat) (p:Value) (W:World) (j:Nat) (p':Value) (l:List Pu) (e:Ending) (w':World):Prop:=
  e=.returned (.tuple #[])∧∃ p2,Run w g q v base p w' j p2 l∧Fr (fun x=>x=g∨p'.ownBlock=some x) W w'
theorem put_run (h:Run w g q v base p W j p' l) (hb:Begin w g q v base p seen) (hl:l.length≤1000) (k a b A B:Int) :
    Calls Tryz.prog 92 #[.pointer (some ⟨g,0,none⟩),.agg #[.int .u8 k,.int .u32 a,.int .u32 b],.agg #[.int .u64 A,.int .u64 B]] W (PutR w g q v base p W j p' (l++[Pu.mk k a b A B false])):=
  (put_all W g q v j p' base l h.st.wb h.st.own hb.hg hl (Nat.le_trans hb.hbase h.size) k a b A B).mono fun e w' ⟨h1,p2,h2,h3,h4,h5⟩=>⟨h1,p2,h.putq hb h2 h3 h4 h5,h4⟩
theorem gone_run (h:Run w g q v base p W j p' l) (hb:Begin w g q v base p seen) (hl:l.length≤1000) (k a b:Int) :
    Calls Tryz.prog 98 #[.pointer (some ⟨g,0,none⟩),.agg #[.int .u8 k,.int .u32 a,.int .u32 b]] W (PutR w g q v base p W j p' (l++[Pu.mk k a b 0 0 true])):=
  (gone_any W g q v j p' base l h.st.wb h.st.own hb.hg hl (Nat.le_trans hb.hbase h.size) k a b).mono fun e w' ⟨h1,p2,h2,h3,h4,h5⟩=>⟨h1,p2,h.putq hb h2 h3 h4 h5,h4⟩
theorem amount_run (h:Run w g q v base p W j p' l) (hb:Begin w g q v base p seen) (hl:l.length≤1000) (k a b A:Int) :
    Calls Tryz.prog 81 #[.pointer (some ⟨g,0,none⟩),.agg #[.int .u8 k,.int .u32 a,.int .u32 b],.int .u64 A] W (PutR w g q v base p W j p' (l++[amt k a b A])):=
  (amount_all W g q v j p' base l h.st.wb h.st.own hb.hg hl (Nat.le_trans hb.hbase h.size) k a b A).mono fun e w' ⟨h1,p2,h2,h3,h4,h5⟩=>⟨h1,p2,h.putq hb h2 h3 h4 h5,h4⟩
theorem Run.part {α:Type} {m:Om α} {enc:α→Value} {e:Ending} {w':World} (h:Run w g q v base p W j p' l) (hb:Begin w g q v base p seen) (hd:Did W g q v base j p' l seen m enc e w') :
    (∃ k a b,runOm seen m j l=.miss k a b∧e=.panicked (raiseK k a b)∧Below g w w')∨(∃ n,runOm seen m j l=.err n∧e=.panicked (raise_ n)∧Below g w w') ∨
    ∃ y n p2,runOm seen m j l=.ok y n∧e=.returned (enc y.1)∧Run w g q v base p w' n p2 y.2∧Fr (fun x=>x=g∨p'.ownBlock=some x) W w':=by
  rcases hd.cases with ⟨k,a,b,h1,h2,h3⟩ | ⟨n,h1,h2,h3⟩ | ⟨y,n,h1,h2,p2,h3,h4,h5⟩
  · exact .inl ⟨k,a,b,h1,h2,(h.low hb).trans h3⟩
  · exact .inr (.inl ⟨n,h1,h2,(h.low hb).trans h3⟩)
  · exact .inr (.inr ⟨y,n,p2,h1,h2,h.putq hb h3.wb h3.own h4 h5,h4⟩)
end
end Go.Proofs.YtabckmadpdchnaaGreat.Rule
namespace Go.Proofs.YtabckmadpdchnaaGreat.Rule
open Go.ChangeShapes Go.WideShapes Go.ChangeAt Go.RowKit Go.IntWalk Go.Proofs.Mem Go.Proofs.Each
theorem wrap_u64 {x:Int} (h0:0≤x) (h1:x≤18446744073709551615):IntKind.u64.wrap x=x:=by
  have:IntKind.u64.wrap x=x % 18446744073709551616:=by simp [IntKind.wrap,IntKind.signed,IntKind.bits]
  omega
theorem wrap_u32 (x:Int):IntKind.u32.wrap x=lo32 x:=by
  simp [IntKind.wrap,IntKind.signed,IntKind.bits,lo32]
theorem lo32_of {x:Int} (h:0≤x∧x≤4294967295):lo32 x=x:=by unfold lo32;omega
theorem hold_any (a B:Int) (w:World):Calls Tryz.prog 97 #[.int .u32 a,.int .u64 B] w (KeyP (holdK B) a (holdW B) w):=by
  by_cases h:B=0
  · have hk:holdK B=1:=if_pos h
    have hw:holdW B=0:=if_pos h
    rw [hk,hw]
    subst h
    clear hk hw
    have kb:=Box.new w #[.int .u8 0,.int .u32 0,.int .u32 0] 49
    have KB:=Lib.hid kb
    clear kb
    go_enter Tryz.func97,Tryz.ntmps97
    go_wp2_with (first
      | (go_at_call 80;(with_reducible refine (purse_any a _).mono ?_);rintro e w1 ⟨rfl,h1⟩
         have kb2:=KB.out.later h1
         have q0:=kb2.cell 0
         have q1:=kb2.cell 1
         have q2:=kb2.cell 2
         have r0:=kb2.frozen 0
         have r1:=kb2.frozen 1
         have r2:=kb2.frozen 2
         simp only [List.getElem?_toArray,List.getElem?_cons_zero,List.getElem?_cons_succ] at q0 q1 q2
         have KB2:=Lib.hid kb2
         have H1:=Lib.hid h1
         clear kb2 h1))
    generalize hW:(World.setCell _ (⟨w.heap.size,2,none⟩:Addr) _)=W9
    have b9:Box W9 w.heap.size #[.int .u8 1,.int .u32 a,.int .u32 0] 49:=by
      rw [← hW]
      exact (((KB2.out.set_ 0 _).set_ 1 _).set_ 2 _)
    have f9:Below w.heap.size w W9:=by
      rw [← hW]
      exact (((((new_ (Below.refl w.heap.size w) _).trans (H1.out.mono (by simp))).setCell (p:=⟨w.heap.size,0,none⟩) (Nat.le_refl _) _).setCell (p:=⟨w.heap.size,1,none⟩) (Nat.le_refl _) _).setCell (p:=⟨w.heap.size,2,none⟩) (Nat.le_refl _) _)
    have v0:=b9.cell 0
    have v1:=b9.cell 1
    have v2:=b9.cell 2
    simp only [List.getElem?_toArray,List.getElem?_cons_zero,List.getElem?_cons_succ] at v0 v1 v2
    have F9:=Lib.hid f9
    clear hW b9 f9 q0 q1 q2 r0 r1 r2
    refine bodyPost_ret (v:=.agg #[.int .u8 1,.int .u32 a,.int .u32 0]) (by simp [results,Tryz.results97,go_sem,v0,v1,v2];try rfl) rfl ?_
    exact ⟨rfl,F9.out⟩
  · have hk:holdK B=3:=if_neg h
    have hw:holdW B=lo32 B:=if_neg h
    have d1:(B == 0)=false:=by simpa using h
    have cv:IntKind.u32.wrap B=lo32 B:=wrap_u32 B
    rw [hk,hw]
    clear hk hw h
    have kb:=Box.new w #[.int .u8 0,.int .u32 0,.int .u32 0] 49
    have KB:=Lib.hid kb
    clear kb
    go_enter Tryz.func97,Tryz.ntmps97
    go_wp2_with (first
      | (go_at_call 85;(with_reducible refine (stack_any a (lo32 B) _).mono ?_);rintro e w1 ⟨rfl,h1⟩
         have kb2:=KB.out.later h1
         have q0:=kb2.cell 0
         have q1:=kb2.cell 1
         have q2:=kb2.cell 2
         have r0:=kb2.frozen 0
         have r1:=kb2.frozen 1
         have r2:=kb2.frozen 2
         simp only [List.getElem?_toArray,List.getElem?_cons_zero,List.getElem?_cons_succ] at q0 q1 q2
         have KB2:=Lib.hid kb2
         have H1:=Lib.hid h1
         clear kb2 h1))
    generalize hW:(World.setCell _ (⟨w.heap.size,2,none⟩:Addr) _)=W9
    have b9:Box W9 w.heap.size #[.int .u8 3,.int .u32 a,.int .u32 (lo32 B)] 49:=by
      rw [← hW]
      exact (((KB2.out.set_ 0 _).set_ 1 _).set_ 2 _)
    have f9:Below w.heap.size w W9:=by
      rw [← hW]
      exact (((((new_ (Below.refl w.heap.size w) _).trans (H1.out.mono (by simp))).setCell (p:=⟨w.heap.size,0,none⟩) (Nat.le_refl _) _).setCell (p:=⟨w.heap.size,1,none⟩) (Nat.le_refl _) _).setCell (p:=⟨w.heap.size,2,none⟩) (Nat.le_refl _) _)
    have v0:=b9.cell 0
    have v1:=b9.cell 1
    have v2:=b9.cell 2
    simp only [List.getElem?_toArray,List.getElem?_cons_zero,List.getElem?_cons_succ] at v0 v1 v2
    have F9:=Lib.hid f9
    clear hW b9 f9 q0 q1 q2 r0 r1 r2
    refine bodyPost_ret (v:=.agg #[.int .u8 3,.int .u32 a,.int .u32 (lo32 B)]) (by simp [results,Tryz.results97,go_sem,v0,v1,v2];try rfl) rfl ?_
    exact ⟨rfl,F9.out⟩
theorem pair_any (h l:Int) (hh:0≤h∧h≤4294967295) (hl:0≤l∧l≤4294967295) (w:World):Calls Tryz.prog 94 #[.int .u32 h,.int .u32 l] w fun e w'=>e=.returned (.int .u64 (pair h l))∧Below w.heap.size w w':=by
  have c1:IntKind.u64.wrap h=h:=wrap_u64 hh.1 (by omega)
  have c2:IntKind.u64.wrap l=l:=wrap_u64 hl.1 (by omega)
  have c3:IntKind.u64.wrap (h * 2 ^ 32)=h * 4294967296:=by
    rw [show (2:Int) ^ 32=4294967296 from by decide]
    exact wrap_u64 (by omega) (by omega)
  have e32:(2:Int) ^ 32=4294967296:=by decide
  have c4:bits .or .u64 (h * 4294967296) l=pair h l:=NumMath.or_join_u64 _ _ 32 (by omega) (by omega) hl.1 (by omega) (by omega) (by rw [e32];exact Int.mul_emod_left _ _)
  clear e32
  have C3:=Lib.hid c3
  have C4:=Lib.hid c4
  clear hh hl c3 c4
  go_enter Tryz.func94,Tryz.ntmps94
  go_wp2
  have C5:=C4.out
  rw [← C3.out] at C5
  go_ret
  exact ⟨congrArg (fun x=>Ending.returned (.int .u64 x)) C5,Below.refl _ _⟩
theorem unpair_any (n:Int) (hn:0≤n∧n≤18446744073709551615) (w:World):Calls Tryz.prog 99 #[.int .u64 n] w fun e w'=>e=.returned (.tuple #[.int .u32 (hi32 n),.int .u32 (lo32 n)])∧Below w.heap.size w w':=by
  have e1:hi32 n=n / 4294967296 % 4294967296:=by unfold hi32;omega
  have e2:lo32 n=n % 4294967296:=rfl
  rw [e1,e2]
  clear hn e1 e2
  go_enter Tryz.func99,Tryz.ntmps99
  go_wp2
  go_ret2
  exact ⟨rfl,Below.refl _ _⟩
theorem side_first (w:World) (g:Nat) (q:Ot) (v:Value) (i:Int) (p:Value) (hb:WorkAt w g q v i p) (A B k a b:Int) (is:Bool) (hA:0≤A∧A≤18446744073709551615) (h1:q.wh=hi32 A) :
    Calls Tryz.prog 95 #[.pointer (some ⟨g,0,none⟩),.agg (thing A B k a b is)] w fun e w'=>e=.returned (.int .u32 0)∧Below w.heap.size w w':=by
  have d1:(q.wh == hi32 A)=true:=by simpa using h1
  have kb:=Box.new w (thing A B k a b is) 130
  have k0:=kb.cell 0
  have bw:=new_ (Below.refl w.heap.size w) (.cells (thing A B k a b is) 130)
  have CALL:=Lib.hid (fun W=>unpair_any A hA W)
  have WB:=Lib.hid (hb.later bw)
  have BW:=Lib.hid bw
  unfold thing at *
  clear hb hA kb bw h1
  go_enter Tryz.func95,Tryz.ntmps95
  go_wp2_with (first
      | (go_at_call 99;(with_reducible refine (CALL.out _).mono ?_);rintro e w1 ⟨rfl,h2⟩
         have c1:w1.cell? ⟨g,1,none⟩=some (.int .u32 q.wh):=(WB.out.later h2).cell 1
         have H2:=Lib.hid h2
         clear h2))
  go_ret
  exact ⟨rfl,BW.out.trans (H2.out.mono (by simp))⟩
theorem side_second (w:World) (g:Nat) (q:Ot) (v:Value) (i:Int) (p:Value) (hb:WorkAt w g q v i p) (A B k a b:Int) (is:Bool) (hA:0≤A∧A≤18446744073709551615) (h1:q.wh≠hi32 A) (h2:q.wh=lo32 A) :
    Calls Tryz.prog 95 #[.pointer (some ⟨g,0,none⟩),.agg (thing A B k a b is)] w fun e w'=>e=.returned (.int .u32 1)∧Below w.heap.size w w':=by
  have d1:(q.wh == hi32 A)=false:=by simpa using h1
  have d2:(q.wh == lo32 A)=true:=by simpa using h2
  have kb:=Box.new w (thing A B k a b is) 130
  have k0:=kb.cell 0
  have bw:=new_ (Below.refl w.heap.size w) (.cells (thing A B k a b is) 130)
  have CALL:=Lib.hid (fun W=>unpair_any A hA W)
  have WB:=Lib.hid (hb.later bw)
  have BW:=Lib.hid bw
  unfold thing at *
  clear hb hA kb bw h1 h2
  go_enter Tryz.func95,Tryz.ntmps95
  go_wp2_with (first
      | (go_at_call 99;(with_reducible refine (CALL.out _).mono ?_);rintro e w1 ⟨rfl,h2⟩
         have c1:w1.cell? ⟨g,1,none⟩=some (.int .u32 q.wh):=(WB.out.later h2).cell 1
         have H2:=Lib.hid h2
         clear h2))
  go_ret
  exact ⟨rfl,BW.out.trans (H2.out.mono (by simp))⟩
theorem side_none (w:World) (g:Nat) (q:Ot) (v:Value) (i:Int) (p:Value) (hb:WorkAt w g q v i p) (A B k a b:Int) (is:Bool) (hA:0≤A∧A≤18446744073709551615) (h1:q.wh≠hi32 A) (h2:q.wh≠lo32 A) :
    Calls Tryz.prog 95 #[.pointer (some ⟨g,0,none⟩),.agg (thing A B k a b is)] w fun e w'=>e=.panicked (raise_ 213)∧Below w.heap.size w w':=by
  have d1:(q.wh == hi32 A)=false:=by simpa using h1
  have d2:(q.wh == lo32 A)=false:=by simpa using h2
  have kb:=Box.new w (thing A B k a b is) 130
  have k0:=kb.cell 0
  have bw:=new_ (Below.refl w.heap.size w) (.cells (thing A B k a b is) 130)
  have CALL:=Lib.hid (fun W=>unpair_any A hA W)
  have WB:=Lib.hid (hb.later bw)
  have BW:=Lib.hid bw
  unfold thing at *
  clear hb hA kb bw h1 h2
  go_enter Tryz.func95,Tryz.ntmps95
  go_wp2_with (first
      | (go_at_call 99;(with_reducible refine (CALL.out _).mono ?_);rintro e w1 ⟨rfl,h2⟩
         have c1:w1.cell? ⟨g,1,none⟩=some (.int .u32 q.wh):=(WB.out.later h2).cell 1
         have H2:=Lib.hid h2
         clear h2))
  exact ⟨rfl,rfl,BW.out.trans (H2.out.mono (by simp))⟩
end Go.Proofs.YtabckmadpdchnaaGreat.Rule
namespace Go.Proofs.Each
open Go Go.RowKit Go.Proofs.Mem
structure Cg (w0:World) (k s:Nat) (S S1:Nat→Prop) (A B G:World→Prop) (L:Nat→Bool) (W:World):Prop where
  fr:Fr (fun x=>S x∨S1 x) w0 W
  pre:L k=false→A W
  post:L k=true→B W
  row:L s=false→G W
def Fg (k a s t:Nat) (B:World→Prop) (FinA:Value→World→Prop) (FinS:Value→Value→World→Prop) (Fs:List (Value→Prop)) (j:Nat) (vals:Nat→Value) (W:World):Prop:=
  if j=t then vals t=vals s else if j=s then FinS (vals a) (vals s) W else if j=a then FinA (vals a) W else (j=k→B W)∧(Fs.getD j fun _=>True) (vals j)
section
variable {w0:World} {k a s t j i:Nat} {S S1:Nat→Prop} {A B G:World→Prop} {FinA:Value→World→Prop} {FinS:Value→Value→World→Prop} {Fs:List (Value→Prop)} {vals:Nat→Value} {W W':World} {v:Value} {f:Value→Prop} {L:Nat→Bool}
theorem Cg.or (h:Cg w0 k s S S1 A B G L W):A W∨B W:=by
  cases e:L k with
  | false=>exact .inl (h.pre e)
  | true=>exact .inr (h.post e)
theorem Fg.val (ht:j≠t) (hs:j≠s) (ha:j≠a) (hk:j≠k) (hE:(Fs.getD j fun _=>True)=f) (hf:f v):Fg k a s t B FinA FinS Fs j (upd vals j v) W:=by
  unfold Fg;rw [if_neg ht,if_neg hs,if_neg ha,upd_same,hE];exact ⟨fun e=>absurd e hk,hf⟩
theorem Fg.work (ht:k≠t) (hs:k≠s) (ha:k≠a) (hB:B W) (hE:(Fs.getD k fun _=>True)=f) (hf:f v):Fg k a s t B FinA FinS Fs k (upd vals k v) W:=by
  unfold Fg;rw [if_neg ht,if_neg hs,if_neg ha,upd_same,hE];exact ⟨fun _=>hB,hf⟩
theorem Fg.made (ht:a≠t) (hs:a≠s) (h:FinA v W):Fg k a s t B FinA FinS Fs a (upd vals a v) W:=by
  unfold Fg;rw [if_neg ht,if_neg hs,if_pos rfl,upd_same];exact h
theorem Fg.laid (ht:s≠t) (hs:a≠s) (h:FinS (vals a) v W):Fg k a s t B FinA FinS Fs s (upd vals s v) W:=by
  unfold Fg;rw [if_neg ht,if_pos rfl,upd_other _ _ _ _ hs,upd_same];exact h
theorem Fg.get (h:Fg k a s t B FinA FinS Fs j vals W) (ht:j≠t) (hs:j≠s) (ha:j≠a) (hE:(Fs.getD j fun _=>True)=f):f (vals j):=by
  unfold Fg at h;rw [if_neg ht,if_neg hs,if_neg ha,hE] at h;exact h.2
theorem Fg.getk (h:Fg k a s t B FinA FinS Fs k vals W) (ht:k≠t) (hs:k≠s) (ha:k≠a):B W:=by
  unfold Fg at h;rw [if_neg ht,if_neg hs,if_neg ha] at h;exact h.1 rfl
theorem Fg.geta (h:Fg k a s t B FinA FinS Fs a vals W) (ht:a≠t) (hs:a≠s):FinA (vals a) W:=by
  unfold Fg at h;rw [if_neg ht,if_neg hs,if_pos rfl] at h;exact h
theorem Fg.gets (h:Fg k a s t B FinA FinS Fs s vals W) (ht:s≠t):FinS (vals a) (vals s) W:=by
  unfold Fg at h;rw [if_neg ht,if_pos rfl] at h;exact h
theorem Fg.told (hst:s≠t):Fg k a s t B FinA FinS Fs t (upd vals t (vals s)) W:=by
  unfold Fg;rw [if_pos rfl,upd_same,upd_other _ _ _ _ hst]
end
end Go.Proofs.Each
namespace Go.Proofs.Each
open Go Go.RowKit Go.Proofs.Mem
def fitC (ops:Array Oper):Bool:=
  (List.range ops.size).all fun i=>match ops[i]? with
    | none=>true
    | some o=>!isSelect o.op && o.after.all (fun e=>!Region.binds .any e || decide (e.on < i)) &&
        (List.range ops.size).all fun j=>match ops[j]? with
          | none=>true
          | some oj=>match oj.dst with
            | none=>true
            | some d=>(!(o.looksAt ops).contains d || (o.after.any fun e=>Region.binds .any e && e.on == j) || (decide (i < j) && oj.after.any fun e=>Region.binds .any e && e.on == i)) && (decide (i=j) || o.dst != some d)
theorem fitC_at {ops:Array Oper} (h:fitC ops=true) {i:Nat} {o:Oper} (hi:ops[i]?=some o) :
    isSelect o.op=false∧(∀ e∈o.after,Region.binds .any e=true→e.on < i)∧∀ (j:Nat) (oj:Oper) (d:Tmp),ops[j]?=some oj→oj.dst=some d →
      (d∈o.looksAt ops→(∃ e∈o.after,Region.binds .any e=true∧e.on=j)∨(i < j∧∃ e∈oj.after,Region.binds .any e=true∧e.on=i))∧(o.dst=some d→i=j):=by
  have lt:∀ {k:Nat} {x:Oper},ops[k]?=some x→k < ops.size:=fun {k x} hk=>by
    rcases Nat.lt_or_ge k ops.size with h1 | h1
    · exact h1
    · rw [Array.getElem?_eq_none h1] at hk;cases hk
  have h1:=List.all_eq_true.1 h i (List.mem_range.2 (lt hi))
  simp only [hi,Bool.and_eq_true] at h1
  obtain ⟨⟨h2,h3⟩,h4⟩:=h1
  refine ⟨by simpa using h2,fun e he hb=>?_,fun j oj d hj hd=>?_⟩
  · have:=(Array.all_eq_true'.1 h3) e he
    rw [hb] at this
    simpa using this
  · have h5:=List.all_eq_true.1 h4 j (List.mem_range.2 (lt hj))
    simp only [hj,hd,Bool.and_eq_true,Bool.or_eq_true] at h5
    obtain ⟨h6,h7⟩:=h5
    constructor
    · intro hm
      rcases h6 with (h6 | h6) | h6
      · have:(o.looksAt ops).contains d=true:=List.contains_iff_mem.2 hm
        rw [this] at h6;cases h6
      · obtain ⟨e,he,hb⟩:=Array.any_eq_true'.1 h6
        rw [Bool.and_eq_true] at hb
        exact .inl ⟨e,he,hb.1,by simpa using hb.2⟩
      · obtain ⟨e,he,hb⟩:=Array.any_eq_true'.1 h6.2
        rw [Bool.and_eq_true] at hb
        exact .inr ⟨by simpa using h6.1,e,he,hb.1,by simpa using hb.2⟩
    · intro ho
      rcases h7 with h7 | h7
      · simpa using h7
      · rw [ho] at h7;simp at h7
section
variable {P:Program} {ops:Array Oper} {a0:Act} {a t:Act}
theorem wp_region_eachC {id:Nat} {Q:Exit→Act→World→Prop} {w0:World} {D:Exit→World→Prop} (hQ:∀ e (a:Act) w,a.defers=a0.defers→D e w→Q e a w) (hm:P.follows .mixedOrders=true) (hA:Apart ops)
    (hsel:∀ (i:Nat) (o:Oper),ops[i]?=some o→∀ cs b,o.op≠.select cs b)
    (hb:∀ (i:Nat) (o:Oper),ops[i]?=some o→∀ e∈o.after,Region.binds .any e=true→e.on < i)
    (hdep:∀ (i:Nat) (o:Oper),ops[i]?=some o→∀ d∈o.looksAt ops,∀ (j:Nat) (oj:Oper),ops[j]?=some oj→oj.dst=some d→(∃ e∈o.after,Region.binds .any e=true∧e.on=j)∨(i < j∧∃ e∈oj.after,Region.binds .any e=true∧e.on=i))
    (C:(Nat→Bool)→World→Prop) (R:Nat→World→World→Prop) (U:Nat→(Nat→Value)→World→Prop)
    (hC0:∀ L:Nat→Bool,(∀ j,L j=false)→C L w0.drew) (hCR:∀ i (L L':Nat→Bool) w w',i < ops.size→L i=false→(∀ j,L' j=true ↔ (L j=true∨j=i))→C L w→R i w w'→C L' w')
    (hUm:∀ i j L vals w w',i < ops.size→j≠i→C L w→R i w w'→U j vals w→U j vals w')
    (hUc:∀ (j:Nat) (oj:Oper) vals vals',ops[j]?=some oj→vals j=vals' j→(∀ e∈oj.after,Region.binds .any e=true→vals e.on=vals' e.on)→∀ w,U j vals w→U j vals' w)
    (hstep:∀ (i:Nat) (oi:Oper),ops[i]?=some oi→∀ L vals w,Clo ops L→L i=false→C L w→(∀ e∈oi.after,Region.binds .any e=true→U e.on vals w) →
      wpOp P ops (QD D) i (fun a' w'=>∃ v,a'=(T ops a0 vals i).put oi.dst v∧R i w w'∧U i (upd vals i v) w') (T ops a0 vals i) w)
    (hend:∀ L vals w,C L w→(∀ i,i < ops.size→U i vals w)→Q .normal (T ops a0 vals ops.size) w):(Code.region id ops true).wp P Q a0 w0:=by
  refine wp_region_inv hm (fun listed a w=>∃ vals,Agree ops a0 (fun j=>listed.getD j false=true) vals a∧C (fun j=>listed.getD j false) w∧(∀ j,j < ops.size→listed.getD j false=true→U j vals w)∧Clo ops (fun j=>listed.getD j false)) ?_ ?_ ?_
  · have hno:∀ j,¬ (Array.replicate ops.size false).getD j false=true:=by
      intro j h
      rw [Array.getD_eq_getD_getElem?,Array.getElem?_replicate] at h
      split at h <;> simp at h
    exact ⟨fun _=>undef,Agree.start hno,hC0 _ (fun j=>by simpa using hno j),fun j _ h=>absurd h (hno j),fun j _ _ h=>absurd h (hno j)⟩
  · intro listed a w i hs hI hi
    obtain ⟨vals,hag,hC,hU,hcl⟩:=hI
    obtain ⟨o,ho,hlt,hnl,haf⟩:=ready_at hs hi
    have hnl2:¬ listed.getD i false=true:=by
      rw [Array.getD_eq_getD_getElem?,Array.getElem?_eq_getElem (by omega)] at hnl ⊢
      simp only [Option.getD_some] at hnl ⊢
      rw [hnl];decide
    have hnl3:listed.getD i false=false:=by simpa using hnl2
    have hT:=agree_T (a0:=a0) hA vals i (Nat.le_of_lt hlt)
    have hlook:∀ d∈o.looksAt ops,a.tmps[d]?=(T ops a0 vals i).tmps[d]?:=fun d hd=>hag.at_ hT d fun j oj hj hjd=>by
      rcases hdep i o ho d hd j oj hj hjd with ⟨e,he,hbe,rfl⟩ | ⟨hij,e,he,hbe,e2⟩
      · exact ⟨fun _=>hb i o ho e he hbe,fun _=>haf e he hbe⟩
      · exact ⟨fun hl=>by have:=hcl j oj hj hl e he hbe;rw [e2] at this;exact absurd this hnl2,fun h=>by omega⟩
    have hst:=hstep i o ho (fun j=>listed.getD j false) vals w hcl hnl3 hC (fun e he hbe=>hU e.on (Nat.lt_trans (hb i o ho e he hbe) hlt) (haf e he hbe))
    have hfin:∀ v w',(R i w w'∧U i (upd vals i v) w')→∃ vals',Agree ops a0 (fun j=>(listed.setIfInBounds i true).getD j false=true) vals' (a.put o.dst v)∧C (fun j=>(listed.setIfInBounds i true).getD j false) w'∧(∀ j,j < ops.size→(listed.setIfInBounds i true).getD j false=true→U j vals' w')∧Clo ops (fun j=>(listed.setIfInBounds i true).getD j false):=by
      intro v w' ⟨hR,hUi⟩
      have hLL:∀ j,(listed.setIfInBounds i true).getD j false=true ↔ (listed.getD j false=true∨j=i):=by
        intro j
        rw [Array.getD_eq_getD_getElem?,Array.getD_eq_getD_getElem?,Array.getElem?_setIfInBounds]
        by_cases hij:i=j
        · subst hij;rw [if_pos rfl,if_pos (by omega)];simp
        · rw [if_neg hij]
          exact ⟨.inl,fun h=>h.resolve_right (fun e=>hij e.symm)⟩
      refine ⟨upd vals i v,hag.put hA ho hnl2 v hLL,hCR i _ _ _ _ hlt hnl3 hLL hC hR,fun j hj hl=>?_,fun j oj hj hl e he hbe=>?_⟩
      rcases (hLL j).1 hl with h1 | h1
      · have hji:j≠i:=by rintro rfl;exact hnl2 h1
        have hjo:ops[j]?=some ops[j]:=Array.getElem?_eq_getElem hj
        refine hUc j ops[j] vals (upd vals i v) hjo (upd_other _ _ _ _ hji).symm (fun e he hbe=>?_) w' (hUm i j _ vals w w' hlt hji hC hR (hU j hj h1))
        have h3:=hcl j ops[j] hjo h1 e he hbe
        exact (upd_other _ _ _ _ (by intro h4;rw [h4] at h3;exact hnl2 h3)).symm
      · subst h1;exact hUi
      · rcases (hLL j).1 hl with h1 | h1
        · exact (hLL e.on).2 (.inl (hcl j oj hj h1 e he hbe))
        · subst h1
          rw [ho] at hj;cases hj
          exact (hLL e.on).2 (.inl (haf e he hbe))
    unfold wpOp at hst ⊢
    simp only [ho] at hst ⊢
    rw [wanted_same o hlook]
    split
    · rename_i hw
      rw [if_pos hw] at hst
      rcases hst with hst | ⟨x1,x2,x3,hst⟩
      · exact .inl (Oper.wp_mono (fun a' w' ⟨v,h1,h2⟩=>h1 ▸ hfin v w' h2) (wp_sameD (fun e w h=>hQ e a w hag.defers h) (exec_same o (hsel i o ho) hlook) (hag.none hT) hst))
      · refine .inr ⟨?_,a,x3,hQ _ _ _ hag.defers hst⟩
        unfold Oper.asks at x1 ⊢
        rw [exec_same o (hsel i o ho) hlook]
        exact x1
    · rename_i hw
      rw [if_neg hw] at hst
      obtain ⟨v,h1,h2⟩:=hst
      rw [put_val (hag.none hT) h1]
      exact hfin v w h2
  · intro listed a w hs hI hr
    obtain ⟨vals,hag,hC,hU,hcl⟩:=hI
    have hall:=all_listed hs hb hr
    rw [hag.same (agree_T hA vals ops.size (Nat.le_refl _)) (fun j hj=>⟨fun _=>hj,fun _=>hall j hj⟩)]
    exact hend _ vals w hC fun i hi=>hU i hi (hall i hi)
end
theorem wp_region_obC2 {P:Program} {l:List Oper} {a0:Act} {id:Nat} {Q:Exit→Act→World→Prop} {w0:World} {D:Exit→World→Prop} (hQ:∀ e (a:Act) w,a.defers=a0.defers→D e w→Q e a w) (hm:P.follows .mixedOrders=true) (hB:fitC l.toArray=true)
    (C:(Nat→Bool)→World→Prop) (R:Nat→World→World→Prop) (F:Nat→(Nat→Value)→World→Prop)
    (hC0:∀ L:Nat→Bool,(∀ j,L j=false)→C L w0.drew) (hCR:∀ i (L L':Nat→Bool) w w',L i=false→(∀ j,L' j=true ↔ (L j=true∨j=i))→C L w→R i w w'→C L' w')
    (hFm:∀ i j L vals w w',j≠i→C L w→R i w w'→F j vals w→F j vals w')
    (hFc:∀ (j:Nat) (oj:Oper) vals vals',l[j]?=some oj→vals j=vals' j→(∀ e∈oj.after,Region.binds .any e=true→vals e.on=vals' e.on)→∀ w,F j vals w→F j vals' w)
    (hob:∀ vals:Nat→Value,ObD D P l.toArray C R F vals 0 l a0)
    (hend:∀ L (vals:Nat→Value) W,C L W→(∀ i,i < l.length→F i vals W)→Q .normal (TL vals 0 l a0) W):(Code.region id l.toArray true).wp P Q a0 w0:=by
  refine wp_region_eachC hQ hm (fun i j oi oj d hi hj hdi hdj=>((fitC_at hB hi).2.2 j oj d hj hdj).2 hdi) (fun i o hi cs b e=>by have:=(fitC_at hB hi).1;rw [e] at this;cases this)
    (fun i o hi=>(fitC_at hB hi).2.1) (fun i o hi d hd j oj hj hjd=>((fitC_at hB hi).2.2 j oj d hj hjd).1 hd)
    C R F hC0 (fun i L L' w w' _ h1 h2 h h'=>hCR i L L' w w' h1 h2 h h') (fun i j L vals w w' _ h0 h h'=>hFm i j L vals w w' h0 h h') (fun j oj vals vals' hj=>hFc j oj vals vals' (by simpa using hj)) ?_ ?_
  · intro i oi hi L vals W hL hn hc hw
    have hi':l[i]?=some oi:=by simpa using hi
    have h0:=obD_at l 0 (fun i o h=>by simpa using h) (hob vals) i oi hi'
    rw [Nat.zero_add] at h0
    have h1:=h0 L W hL hn hc hw
    unfold wpOp
    simp only [hi]
    split
    · rename_i hx;rw [if_pos hx] at h1;exact .inl h1
    · rename_i hx;rw [if_neg hx] at h1;exact ⟨undef,rfl,h1⟩
  · intro L vals W hc h
    have:=T_app vals a0 l.toArray l 0 fun i o h=>by simpa using h
    rw [Nat.zero_add] at this
    have h2:=hend L vals W hc fun i hi=>h i (by simpa using hi)
    rw [show TL vals 0 l a0=T l.toArray a0 vals l.length from this] at h2
    simpa using h2
theorem wp_region_growC {P:Program} {l:List Oper} {a0:Act} {id:Nat} {Q:Exit→Act→World→Prop} {w0:World} {D:Exit→World→Prop} (hQ:∀ e (a:Act) w,a.defers=a0.defers→D e w→Q e a w) (hm:P.follows .mixedOrders=true) (hB:fitC l.toArray=true)
    (k a s t:Nat) (hka:k≠a) (hks:k≠s) (hkt:k≠t) (hst:s≠t) (S S1:Nat→Prop) (A B G:World→Prop) (FinA:Value→World→Prop) (FinS:Value→Value→World→Prop) (Fs:List (Value→Prop))
    (hFA:∀ v W W',Fr S W W'→FinA v W→FinA v W') (hFS:∀ v u W W',Fr S W W'→FinS v u W→FinS v u W') (hG:∀ W W',Fr S W W'→G W→G W')
    (hdep:(∀ v v' u W,FinS v u W→FinS v' u W)∨∀ o,l[s]?=some o→∃ e∈o.after,Region.binds .any e=true∧e.on=a)
    (hdt:∀ o,l[t]?=some o→∃ e∈o.after,Region.binds .any e=true∧e.on=s)
    (hk:k < l.length) (hA0:A w0.drew) (hG0:G w0.drew)
    (hob:∀ vals:Nat→Value,ObD D P l.toArray (Cg w0 k s S S1 A B G) (Rw k s S S1 A B FinA) (Fg k a s t B FinA FinS Fs) vals 0 l a0)
    (hend:∀ (vals:Nat→Value) W,Fr (fun x=>S x∨S1 x) w0 W→B W→(s < l.length→FinS (vals a) (vals s) W)→(t < l.length→vals t=vals s)→(∀ i,i < l.length→i≠t→i≠s→i≠a→(Fs.getD i fun _=>True) (vals i))→Q .normal (TL vals 0 l a0) W):(Code.region id l.toArray true).wp P Q a0 w0:=by
  refine wp_region_obC2 hQ hm hB (Cg w0 k s S S1 A B G) (Rw k s S S1 A B FinA) (Fg k a s t B FinA FinS Fs) ?_ ?_ ?_ ?_ hob ?_
  · intro L hL
    exact ⟨(Fr.refl _ _).drew,fun _=>hA0,fun h=>(by rw [hL k] at h;cases h),fun _=>hG0⟩
  · intro i L L' W W' hi hLL h h'
    refine ⟨h.fr.trans h'.fr,fun hL'=>?_,fun hL'=>?_,fun hL'=>?_⟩
    · have hLk:L k=false:=by
        cases e:L k with
        | false=>rfl
        | true=>rw [(hLL k).2 (.inl e)] at hL';cases hL'
      have hik:i≠k:=fun e=>by rw [(hLL k).2 (.inr e.symm)] at hL';cases hL'
      exact h'.a hik (h.pre hLk)
    · by_cases hik:i=k
      · exact h'.atk hik
      · rcases (hLL k).1 hL' with e | e
        · exact h'.b hik (h.post e)
        · exact absurd e.symm hik
    · have hLs:L s=false:=by
        cases e:L s with
        | false=>rfl
        | true=>rw [(hLL s).2 (.inl e)] at hL';cases hL'
      have his:i≠s:=fun e=>by rw [(hLL s).2 (.inr e.symm)] at hL';cases hL'
      exact hG _ _ (h'.blk his) (h.row hLs)
  · intro i j L vals W W' hji hc hr hf
    unfold Fg at hf ⊢
    by_cases h0:j=t
    · rw [if_pos h0] at hf ⊢;exact hf
    · rw [if_neg h0] at hf ⊢
      by_cases h1:j=s
      · rw [if_pos h1] at hf ⊢
        exact hFS _ _ _ _ (hr.blk fun e=>hji (h1.trans e.symm)) hf
      · rw [if_neg h1] at hf ⊢
        by_cases h2:j=a
        · rw [if_pos h2] at hf ⊢
          by_cases h3:i=s
          · exact hr.fina h3 _ hf
          · exact hFA _ _ _ (hr.blk h3) hf
        · rw [if_neg h2] at hf ⊢
          exact ⟨fun e=>hr.b (fun e'=>hji (e.trans e'.symm)) (hf.1 e),hf.2⟩
  · intro j oj vals vals' hj hv hw W hf
    unfold Fg at hf ⊢
    by_cases h0:j=t
    · rw [if_pos h0] at hf ⊢
      subst h0
      obtain ⟨e,he,hb,e2⟩:=hdt oj hj
      have:=hw e he hb
      rw [e2] at this
      rw [← this,← hv];exact hf
    · rw [if_neg h0] at hf ⊢
      by_cases h1:j=s
      · rw [if_pos h1] at hf ⊢
        rcases hdep with hd | hd
        · subst h1
          rw [← hv];exact hd _ _ _ _ hf
        · subst h1
          rw [← hv]
          obtain ⟨e,he,hb,e2⟩:=hd oj hj
          have:=hw e he hb
          rw [e2] at this
          rw [← this];exact hf
      · rw [if_neg h1] at hf ⊢
        by_cases h2:j=a
        · rw [if_pos h2] at hf ⊢
          rw [← h2,← hv,h2];exact hf
        · rw [if_neg h2] at hf ⊢
          rw [← hv];exact hf
  · intro L vals W hc h
    exact hend vals W hc.fr ((h k hk).getk hkt hks hka) (fun hs=>(h s hs).gets hst) (fun ht=>by have:=h t ht;unfold Fg at this;rw [if_pos rfl] at this;exact this) (fun i hi h0 h1 h2=>(h i hi).get h0 h1 h2 rfl)
end Go.Proofs.Each
namespace Go.Proofs.YtabckmadpdchnaaGreat.Money
open Go.ChangeShapes Go.WideShapes Go.ChangeAt Go.RowKit Go.IntWalk Go.Proofs.Mem
theorem ret_int {k:IntKind} {a b:Int} (h:a=b):Ending.returned (.int k a)=.returned (.int k b):=by rw [h]
theorem len_up (x:Int) (b:Nat) (h0:0≤x) (h:(2:Int) ^ b≤x):bitLen x.toNat=b + bitLen (x / 2 ^ b).toNat:=by
  obtain ⟨n,rfl⟩:=Int.eq_ofNat_of_zero_le h0
  have e:((2:Int) ^ b)=((2 ^ b:Nat):Int):=by simp
  rw [e] at h ⊢
  rw [Int.toNat_natCast,bitLen_shift n b]
  · congr 2
  · have:0 < 2 ^ b:=Nat.two_pow_pos b
    have h':2 ^ b≤n:=by omega
    have:=(Nat.le_div_iff_mul_le this).2 (by omega:1 * 2 ^ b≤n)
    omega
theorem add_i64 (a:Int) (n:Nat) (ha:0≤a∧a≤100) (hn:n≤8):wrap64 (a + wrap64 (n:Int))=a + n:=by
  rw [wrap64_in (n:Int) (by omega),wrap64_in _ (by omega)]
theorem len64_any (x:Int) (h0:0≤x) (h1:x≤18446744073709551615) (w:World) :
    Calls Tryz.prog 46 #[.int .u64 x] w fun e w'=>e=.returned (.int .i64 (bitLen x.toNat))∧w=w':=by
  have u32:=len_up x 32 h0
  rw [show (2:Int) ^ 32=4294967296 from by decide] at u32
  have u16:=len_up x 16 h0
  rw [show (2:Int) ^ 16=65536 from by decide] at u16
  have u8:=len_up x 8 h0
  rw [show (2:Int) ^ 8=256 from by decide] at u8
  have v16:=len_up (x / 4294967296) 16 (by omega)
  rw [show (2:Int) ^ 16=65536 from by decide] at v16
  have v8:=len_up (x / 4294967296) 8 (by omega)
  rw [show (2:Int) ^ 8=256 from by decide] at v8
  have t8:=len_up (x / 65536) 8 (by omega)
  rw [show (2:Int) ^ 8=256 from by decide] at t8
  have s8:=len_up (x / 4294967296 / 65536) 8 (by omega)
  rw [show (2:Int) ^ 8=256 from by decide] at s8
  have U32:=Lib.hid u32
  have U16:=Lib.hid u16
  have U8:=Lib.hid u8
  have V16:=Lib.hid v16
  have V8:=Lib.hid v8
  have T8:=Lib.hid t8
  have S8:=Lib.hid s8
  clear u32 u16 u8 v16 v8 t8 s8
  go_enter Tryz.func46,Tryz.ntmps46
  go_wp2_with fail
  all_goals go_ret
  all_goals refine ⟨ret_int ?_,rfl⟩
  all_goals rw [len8tab_get]
  · have a1:4294967296≤x:=by assumption
    have a2:65536≤x / 4294967296:=by assumption
    have a3:256≤x / 4294967296 / 65536:=by assumption
    rw [add_i64 _ _ (by omega) (bitLen_le8 _ (by omega)),U32.out a1,V16.out a2,S8.out a3];omega
  · have a1:4294967296≤x:=by assumption
    have a2:65536≤x / 4294967296:=by assumption
    have a3:x / 4294967296 / 65536 < 256:=by assumption
    rw [add_i64 _ _ (by omega) (bitLen_le8 _ (by omega)),U32.out a1,V16.out a2];omega
  · have a1:4294967296≤x:=by assumption
    have a2:x / 4294967296 < 65536:=by assumption
    have a3:256≤x / 4294967296:=by assumption
    rw [add_i64 _ _ (by omega) (bitLen_le8 _ (by omega)),U32.out a1,V8.out a3];omega
  · have a1:4294967296≤x:=by assumption
    have a3:x / 4294967296 < 256:=by assumption
    rw [add_i64 _ _ (by omega) (bitLen_le8 _ (by omega)),U32.out a1];omega
  · have a1:x < 4294967296:=by assumption
    have a2:65536≤x:=by assumption
    have a3:256≤x / 65536:=by assumption
    rw [add_i64 _ _ (by omega) (bitLen_le8 _ (by omega)),U16.out a2,T8.out a3];omega
  · have a1:x < 4294967296:=by assumption
    have a2:65536≤x:=by assumption
    have a3:x / 65536 < 256:=by assumption
    rw [add_i64 _ _ (by omega) (bitLen_le8 _ (by omega)),U16.out a2];omega
  · have a2:x < 65536:=by assumption
    have a3:256≤x:=by assumption
    rw [add_i64 _ _ (by omega) (bitLen_le8 _ (by omega)),U8.out a3];omega
  · have a3:x < 256:=by assumption
    have hb:=bitLen_le8 x.toNat (by omega)
    rw [wrap64_in (bitLen x.toNat:Int) (by omega),wrap64_in _ (by omega)]
end Go.Proofs.YtabckmadpdchnaaGreat.Money
