import Derived.Test.YtabckmadpdchnaaGreatMo0
import Derived.Test.YtabckmadpdchnaaGreatMo2
set_option linter.unusedVariables false
set_option linter.unusedSimpArgs false
set_option linter.unnecessarySimpa false
set_option maxRecDepth 100000
set_option maxHeartbeats 20000000
namespace Go.Proofs.YtabckmadpdchnaaGreat.Rule
open Go.ChangeShapes Go.WideShapes Go.ChangeAt Go.RowKit Go.IntWalk Go.Proofs.Mem Go.Proofs.Each
theorem qA {α:Type} (l:List α) (i:Nat) (a:α):l.toArray.setIfInBounds i a=(l.set i a).toArray:=List.setIfInBounds_toArray ..
theorem qC {α:Type} (x:α) (l:List α) (n:Nat) (a:α):(x :: l).set (n + 1) a=x :: l.set n a:=rfl
theorem qZ {α:Type} (x:α) (l:List α) (a:α):(x :: l).set 0 a=a :: l:=rfl
theorem qS {α:Type} (x:α) (l:List α) (n:Nat) (d:α):(x :: l).getD (n + 1) d=l.getD n d:=List.getD_cons_succ
theorem qD {α:Type} (x:α) (l:List α) (d:α):(x :: l).getD 0 d=x:=List.getD_cons_zero
theorem spD {P:Program} {o:Oper} {a:Act} {W:World} {K:Act→World→Prop} {y:Nat→Option Bool} {E:Prop} {D:Exit→World→Prop} (hg:o.guard=none) (h:o.wp P a W K (QD D)):if Region.wanted o y=true then o.wp P a W K (QD D) else E:=step_plainD hg h
theorem thing_info:(Tryz.prog.info? 130).map (fun i=>(i.zero,i.size,i.bytes))=some (some (.agg #[.int .u64 0,.int .u64 0,.int .u8 0,.int .u32 0,.int .u32 0,.bool false]),6,32):=by kernel_rfl
theorem yielded_no {ops:Array Oper} {tmps:Array Value} {j:Nat} {v:Value} (h:((ops[j]?).bind (·.dst)).bind (tmps[·]?)=some v) (hv:v=undef):yielded ops tmps j=none:=by
  unfold yielded;rw [h,hv];rfl
theorem wp_unwantedN {P:Program} {o:Oper} {a:Act} {W:World} {K:Act→World→Prop} {y:Nat→Option Bool} {E:Prop} {j:Nat} {want:Bool} {D:Exit→World→Prop} (hg:o.guard=some (j,want)) (hy:y j=none) (h:E) :
    if Region.wanted o y=true then o.wp P a W K (QD D) else E:=by
  rw [if_neg (by simp [Region.wanted,hg,hy])];exact h
def Pile (W:World) (gg n cap:Nat) (cs:Array Value):Prop:=W.ownsRow gg 130 6 (.slice (some ⟨gg,0,none⟩) n cap) n cs.toList
section
variable {W W':World} {gg n cap:Nat} {cs:Array Value} {S:Nat→Prop}
theorem Pile.box (h:Pile W gg n cap cs):∃ cur,Box W gg cur 130∧cur.size=cap * 6∧n≤cap∧cap≤maxLen∧cs.size=n * 6∧∀ (i:Nat) (u:Value),cs[i]?=some u→cur[i]?=some u:=by
  obtain ⟨h1,h2 | ⟨g,c,cur,e,hb,hg,hn,hc,hs,ht⟩⟩:=h
  · cases h2.1
  · injection e with e1 e2 e3
    injection e1 with e1
    injection e1 with e1
    subst e1 e3
    refine ⟨cur,hg,hs,hn,hc,by simpa using h1,fun i u hu=>?_⟩
    have hu':cs.toList[i]?=some u:=by simpa using hu
    rw [← ht] at hu'
    rw [List.getElem?_take] at hu'
    split at hu'
    · simpa using hu'
    · cases hu'
theorem Pile.cell (h:Pile W gg n cap cs) (i:Nat) {u:Value} (hu:cs[i]?=some u:=by rfl):W.cell? ⟨gg,i,none⟩=some u:=by
  obtain ⟨cur,hb,_,_,_,_,hc⟩:=h.box
  rw [hb.cell i];exact hc i u hu
theorem Pile.frozen (h:Pile W gg n cap cs) (i:Nat):W.frozen? ⟨gg,i,none⟩=false:=by
  obtain ⟨cur,hb,_⟩:=h.box
  exact hb.frozen i
theorem Pile.lt (h:Pile W gg n cap cs):gg < W.heap.size:=by
  obtain ⟨cur,hb,_⟩:=h.box
  exact hb.lt
theorem Pile.fr (h:Pile W gg n cap cs) (hf:Fr S W W') (hn:¬ S gg):Pile W' gg n cap cs:=own_frs h hf fun x hx e=>by
  injection hx with hx
  have hx':gg=x:=hx
  subst hx'
  exact hn e
theorem Pile.of_box {cur:Array Value} (h:Box W gg cur 130) (hs:cur.size=n * 6) (hn:n≤maxLen):Pile W gg n n cur:=
  ⟨by simpa using hs,.inr ⟨gg,n,cur,rfl,Nat.le_refl _,h,Nat.le_refl _,hn,hs,List.take_of_length_le (by simp;omega)⟩⟩
theorem Pile.set_ (h:Pile W gg n cap cs) (i:Nat) (u:Value) (hi:i < cs.size:=by decide):Pile (W.setCell ⟨gg,i,none⟩ u) gg n cap (cs.setIfInBounds i u):=by
  obtain ⟨h1,h2 | ⟨g,c,cur,e,hb,hg,hn,hc,hs,ht⟩⟩:=h
  · cases h2.1
  · injection e with e1 e2 e3
    injection e1 with e1
    injection e1 with e1
    subst e1 e3
    refine ⟨by simpa using h1,.inr ⟨gg,cap,cur.setIfInBounds i u,rfl,Nat.le_refl _,Box.set_ (show Box W gg cur 130 from hg) i u,hn,hc,by simpa using hs,?_⟩⟩
    have hi2:i < n * 6:=by rw [← h1];simpa using hi
    rw [Array.toList_setIfInBounds,List.take_set,ht,Array.toList_setIfInBounds]
theorem Pile.of_own {base:Nat} (h:W.ownsRow base 130 6 (.slice (some ⟨gg,0,none⟩) n cap) n cs.toList):Pile W gg n cap cs:=by
  obtain ⟨h1,h2 | ⟨g,c,cur,e,hb,rest⟩⟩:=h
  · cases h2.1
  · injection e with e1 e2 e3
    injection e1 with e1
    injection e1 with e1
    subst e1 e3
    exact ⟨h1,.inr ⟨gg,cap,cur,rfl,Nat.le_refl _,rest⟩⟩
end
inductive Bx where
  | box (b:Nat) (cs:Array Value) (t:TypeId)
  | pile (b n cap:Nat) (cs:Array Value)
def Bx.blk:Bx→Nat
  | .box b _ _=>b
  | .pile b _ _ _=>b
def Bx.at_ (W:World):Bx→Prop
  | .box b cs t=>Hid (Box W b cs t)
  | .pile b n cap cs=>Hid (Pile W b n cap cs)
def Bx.ok (w:World) (g:Nat):Bx→Prop
  | .box b _ t=>b≠g∧w.heap.size≤b∧t≠69
  | .pile b _ _ _=>b≠g∧w.heap.size≤b
def Bxs (W:World):List Bx→Prop
  | []=>True
  | x :: r=>x.at_ W∧Bxs W r
def Aps:List Bx→Prop
  | []=>True
  | x :: r=>(∀ y∈r,y.blk≠x.blk)∧Aps r
section
variable {w W W':World} {g n:Nat} {x y:Bx} {bs:List Bx} {S:Nat→Prop}
theorem Bx.lt (h:x.at_ W):x.blk < W.heap.size:=by cases x <;> exact h.out.lt
theorem Bx.ne (h:x.ok w g):x.blk≠g:=by cases x <;> exact h.1
theorem Bx.lo (h:x.ok w g):w.heap.size≤x.blk:=by
  cases x
  · exact h.2.1
  · exact h.2
theorem Bx.fr (h:x.at_ W) (hf:Fr S W W') (hn:¬ S x.blk):x.at_ W':=by cases x <;> exact Lib.hid (h.out.fr hf hn)
theorem Bxs.mem:∀ {bs:List Bx},Bxs W bs→∀ x∈bs,x.at_ W
  | [],_,x,h=>by cases h
  | y :: r,⟨h1,h2⟩,x,h=>by
    rcases List.mem_cons.1 h with e | e
    · rw [e];exact h1
    · exact Bxs.mem h2 x e
theorem Bxs.of:∀ {bs:List Bx},(∀ x∈bs,x.at_ W)→Bxs W bs
  | [],_=>trivial
  | y :: r,h=>⟨h y (by simp),Bxs.of fun x hx=>h x (by simp [hx])⟩
theorem Bxs.get (h:Bxs W bs) (n:Nat) (hn:bs[n]?=some x:=by rfl):x.at_ W:=h.mem x (List.mem_of_getElem? hn)
theorem Aps.set:∀ {bs:List Bx} {n:Nat},Aps bs→bs[n]?=some y→x.blk=y.blk→Aps (bs.set n x)
  | [],n,h,hn,_=>by cases hn
  | z :: r,0,h,hn,e=>by
    injection hn with hn
    subst hn
    exact ⟨fun u hu=>by rw [e];exact h.1 u hu,h.2⟩
  | z :: r,n + 1,h,hn,e=>⟨fun u hu=>by
      rcases List.mem_or_eq_of_mem_set hu with h1 | h1
      · exact h.1 u h1
      · rw [h1,e];exact h.1 y (List.mem_of_getElem? (by simpa using hn)),Aps.set h.2 (by simpa using hn) e⟩
theorem Aps.out_:∀ {bs:List Bx} {n:Nat},Aps bs→bs[n]?=some y→∀ (i:Nat) (z:Bx),i≠n→bs[i]?=some z→z.blk≠y.blk
  | [],n,_,hn,_,_,_,_=>by cases hn
  | u :: r,0,h,hn,0,z,hi,_=>absurd rfl hi
  | u :: r,0,h,hn,i + 1,z,_,hz=>by
    injection hn with hn
    subst hn
    exact h.1 z (List.mem_of_getElem? (by simpa using hz))
  | u :: r,n + 1,h,hn,0,z,_,hz=>by
    injection hz with hz
    subst hz
    exact (h.1 y (List.mem_of_getElem? (by simpa using hn))).symm
  | u :: r,n + 1,h,hn,i + 1,z,hi,hz=>Aps.out_ h.2 (by simpa using hn) i z (by omega) (by simpa using hz)
end
structure ST (w:World) (g:Nat) (q:Ot) (v:Value) (base:Nat) (p:Value) (j:Nat) (p':Value) (l:List Pu) (bs:List Bx) (W:World):Prop where
  run:Hid (Run w g q v base p W j p' l)
  bx:Bxs W bs
  ok:∀ x∈bs,x.ok w g
  ap:Aps bs
def SB (F U:Prop) (w:World) (g:Nat) (q:Ot) (v:Value) (base:Nat) (p:Value) (j:Nat) (p':Value) (l:List Pu) (bs:List Bx) (W:World):Prop:=
  F∧∃ p2,(U∨p2=p')∧ST w g q v base p j p2 l bs W
abbrev DP {α:Type} (w:World) (g:Nat) (q:Ot) (v:Value) (base i:Nat) (p:Value) (l:List Pu) (seen:List Ce) (m:Om α) (enc:α→Value):Exit→World→Prop:=
  fun e W=>∃ c,e=Exit.panic c∧Did w g q v base i p l seen m enc (.panicked c) W
section
variable {w w0 W W':World} {g base j j2:Nat} {q:Ot} {v p p' p2:Value} {l l2:List Pu} {bs bs2:List Bx} {S:Nat→Prop} {F U:Prop} {seen:List Ce}
theorem ST.keep (h:ST w g q v base p j p' l bs W) (hr:Run w g q v base p W' j2 p2 l2) (hf:Fr S W W') (hn:∀ x∈bs,¬ S x.blk):ST w g q v base p j2 p2 l2 bs W':=
  ⟨Lib.hid hr,.of fun x hx=>Bx.fr (h.bx.mem x hx) hf (hn x hx),h.ok,h.ap⟩
theorem ST.later (h:ST w g q v base p j p' l bs W) (hb:Below W.heap.size W W'):ST w g q v base p j p' l bs W':=
  h.keep (S:=fun _=>False) (h.run.out.later hb) (.of_below hb) (fun _ _ e=>e)
theorem ST.drew (h:ST w g q v base p j p' l bs W):ST w g q v base p j p' l bs W.drew:=
  h.keep (S:=fun _=>False) h.run.out.drew (Fr.refl _ _).drew (fun _ _ e=>e)
theorem ST.kn (h:ST w g q v base p j p' l bs W):K7 W g q:=h.run.out.st.kn
theorem ST.low (h:ST w g q v base p j p' l bs W) (hb:Begin w g q v base p seen):Below g w W:=h.run.out.low hb
theorem ST.gl (h:ST w g q v base p j p' l bs W) (hb:Begin w g q v base p seen):g < W.heap.size:=by have:=hb.lt;have:=h.run.out.size;omega
theorem ST.lt (h:ST w g q v base p j p' l bs W):∀ x∈bs,x.blk < W.heap.size:=fun x hx=>Bx.lt (h.bx.mem x hx)
theorem ST.start (hst:St w g q v base j p l) (hb:Begin w g q v base p seen) (C:Array Value) (t:TypeId) (ht:t≠69:=by decide):ST w g q v base p j p l [.box w.heap.size C t] (w.alloc (.cells C t)):=
  ⟨Lib.hid (Run.start hst (new_ (Below.refl _ _) _)),⟨Lib.hid (Box.new _ _ _),trivial⟩,fun x hx=>by
    have hx:x=.box w.heap.size C t:=by simpa using hx
    subst hx
    exact ⟨by have:=hb.lt;omega,Nat.le_refl _,ht⟩,⟨fun y hy=>by (cases hy),trivial⟩⟩
theorem ST.put_far (h:ST w g q v base p j p' l bs W):∀ x∈bs,¬ (x.blk=g∨p'.ownBlock=some x.blk):=fun x hx=>by
  have h1:=h.bx.mem x hx
  have h2:=h.ok x hx
  cases x with
  | box b cs t=>exact h.run.out.far h1.out h2.2.2 h2.1
  | pile b n cap cs=>
    obtain ⟨cur,hb,_⟩:=h1.out.box
    exact h.run.out.far hb (by decide) h2.1
theorem ST.push {C:Array Value} {t:TypeId} {b:Nat} (h0:ST w g q v base p j2 p2 l2 bs2 w0) (hb:Begin w g q v base p seen) (h:ST w g q v base p j p' l bs W) (hlt:∀ x∈bs,x.blk < w0.heap.size) (hgt:w0.heap.size≤b) (hx:Box W b C t) (ht:t≠69:=by decide):ST w g q v base p j p' l (.box b C t :: bs) W:=
  ⟨h.run,⟨Lib.hid hx,h.bx⟩,fun x hx=>by
    rcases List.mem_cons.1 hx with e | e
    · subst e;exact ⟨by have:=h0.gl hb;omega,by have:=h0.run.out.size;omega,ht⟩
    · exact h.ok x e,⟨fun y hy=>by have:=hlt y hy;show y.blk≠b;omega,h.ap⟩⟩
theorem ST.pushP {n cap:Nat} {C:Array Value} {b:Nat} (h0:ST w g q v base p j2 p2 l2 bs2 w0) (hb:Begin w g q v base p seen) (h:ST w g q v base p j p' l bs W) (hlt:∀ x∈bs,x.blk < w0.heap.size) (hgt:w0.heap.size≤b) (hx:Pile W b n cap C):ST w g q v base p j p' l (.pile b n cap C :: bs) W:=
  ⟨h.run,⟨Lib.hid hx,h.bx⟩,fun x hx=>by
    rcases List.mem_cons.1 hx with e | e
    · subst e;exact ⟨by have:=h0.gl hb;omega,by have:=h0.run.out.size;omega⟩
    · exact h.ok x e,⟨fun y hy=>by have:=hlt y hy;show y.blk≠b;omega,h.ap⟩⟩
theorem ST.alloc (h:ST w g q v base p j p' l bs W) (hb:Begin w g q v base p seen) (C:Array Value) (t:TypeId) (ht:t≠69:=by decide):ST w g q v base p j p' l (.box W.heap.size C t :: bs) (W.alloc (.cells C t)):=
  h.push hb (h.later (new_ (Below.refl _ _) _)) h.lt (Nat.le_refl _) (Box.new _ _ _) ht
theorem ST.drop {x:Bx} (h:ST w g q v base p j p' l (x :: bs) W):ST w g q v base p j p' l bs W:=⟨h.run,h.bx.2,fun y hy=>h.ok y (by simp [hy]),h.ap.2⟩
theorem ST.drop1 {x y:Bx} (h:ST w g q v base p j p' l (x :: y :: bs) W):ST w g q v base p j p' l (x :: bs) W:=⟨h.run,⟨h.bx.1,h.bx.2.2⟩,fun z hz=>h.ok z (by rcases List.mem_cons.1 hz with e | e <;> simp [e]),⟨fun z hz=>h.ap.1 z (by simp [hz]),h.ap.2.2⟩⟩
theorem ST.upd {x y:Bx} {n:Nat} (h:ST w g q v base p j p' l bs W) (hb:Begin w g q v base p seen) (hn:bs[n]?=some y) (hf:Fr (fun b=>b=y.blk) W W') (hx:x.at_ W') (hok:x.ok w g) (e:x.blk=y.blk):ST w g q v base p j p' l (bs.set n x) W':=by
  have hy:=h.bx.get n hn
  have ho:=h.ok y (List.mem_of_getElem? hn)
  refine ⟨Lib.hid ?_,.of fun z hz=>?_,fun z hz=>?_,h.ap.set hn e⟩
  · cases y with
    | box b cs t=>exact h.run.out.set hb hy.out ho.2.2 ho.2.1 hf
    | pile b n cap cs=>
      obtain ⟨cur,hc,_⟩:=hy.out.box
      exact h.run.out.set hb hc (by decide) ho.2 hf
  · obtain ⟨i,hi⟩:=List.getElem?_of_mem hz
    by_cases hin:i=n
    · subst hin
      have:i < bs.length:=(List.getElem?_eq_some_iff.1 hn).1
      rw [List.getElem?_set_self this] at hi
      injection hi with hi
      rw [← hi];exact hx
    · rw [List.getElem?_set_ne (fun e=>hin e.symm)] at hi
      exact Bx.fr (h.bx.get i hi) hf (h.ap.out_ hn i z hin hi)
  · rcases List.mem_or_eq_of_mem_set hz with h1 | h1
    · exact h.ok z h1
    · rw [h1];exact hok
theorem ST.updB {b o:Nat} {C:Array Value} {t:TypeId} {u:Value} (h:ST w g q v base p j p' l bs W) (hb:Begin w g q v base p seen) (n:Nat) (hn:bs[n]?=some (.box b C t):=by rfl):ST w g q v base p j p' l (bs.set n (.box b (C.setIfInBounds o u) t)) (W.setCell ⟨b,o,none⟩ u):=
  h.upd (y:=.box b C t) hb hn ((Fr.refl (fun x=>x=b) W).setCell (p:=⟨b,o,none⟩) (.inl rfl) u) (Lib.hid (Box.set_ (Hid.out (Bxs.get (x:=.box b C t) h.bx n hn)) o u)) (h.ok (.box b C t) (List.mem_of_getElem? hn)) rfl
theorem ST.updP {b m cap o:Nat} {C:Array Value} {u:Value} (h:ST w g q v base p j p' l bs W) (hb:Begin w g q v base p seen) (n:Nat) (ho:o < C.size) (hn:bs[n]?=some (.pile b m cap C):=by rfl):ST w g q v base p j p' l (bs.set n (.pile b m cap (C.setIfInBounds o u))) (W.setCell ⟨b,o,none⟩ u):=
  h.upd (y:=.pile b m cap C) hb hn ((Fr.refl (fun x=>x=b) W).setCell (p:=⟨b,o,none⟩) (.inl rfl) u) (Lib.hid (Pile.set_ (Hid.out (Bxs.get (x:=.pile b m cap C) h.bx n hn)) o u ho)) (h.ok (.pile b m cap C) (List.mem_of_getElem? hn)) rfl
theorem SB.kn (h:SB F U w g q v base p j p' l bs W):K7 W g q:=by obtain ⟨_,_,_,h⟩:=h;exact h.kn
theorem SB.low (h:SB F U w g q v base p j p' l bs W) (hb:Begin w g q v base p seen):Below g w W:=by obtain ⟨_,_,_,h⟩:=h;exact h.low hb
theorem SB.later (h:SB F U w g q v base p j p' l bs W) (hb:Below W.heap.size W W'):SB F U w g q v base p j p' l bs W':=by
  obtain ⟨h1,p2,h2,h⟩:=h
  exact ⟨h1,p2,h2,h.later hb⟩
theorem SB.st (h:SB F False w g q v base p j p' l bs W):ST w g q v base p j p' l bs W:=by
  obtain ⟨_,p2,h2,h⟩:=h
  rcases h2 with h2 | h2
  · exact h2.elim
  · rw [← h2];exact h
theorem SB.put (h:SB F U w g q v base p j p' l bs W):∃ p2,ST w g q v base p j p2 l bs W:=by obtain ⟨_,p2,_,h⟩:=h;exact ⟨p2,h⟩
theorem SB.box (h:SB F U w g q v base p j p' l bs W):Bxs W bs:=by obtain ⟨_,_,_,h⟩:=h;exact h.bx
theorem ST.sb (h:ST w g q v base p j p' l bs W):SB True False w g q v base p j p' l bs W:=⟨trivial,_,.inr rfl,h⟩
theorem ST.else_ {C:Array Value} {t:TypeId} {b:Nat} (h:ST w g q v base p j p' l bs W) (hb:Begin w g q v base p seen) (hx:Box W b C t) (ht:t≠69) (hlo:w.heap.size≤b) (hne:∀ x∈bs,x.blk≠b) (hf:Fr (fun x=>x=b) W W'):ST w g q v base p j p' l bs W':=
  h.keep (h.run.out.set hb hx ht hlo hf) hf hne
theorem SB.else_ {C:Array Value} {t:TypeId} {b:Nat} (h:SB F U w g q v base p j p' l bs W) (hb:Begin w g q v base p seen) (hx:Box W b C t) (ht:t≠69) (hlo:w.heap.size≤b) (hne:∀ x∈bs,x.blk≠b) (hf:Fr (fun x=>x=b) W W'):SB F U w g q v base p j p' l bs W':=by
  obtain ⟨h1,p2,h2,h⟩:=h
  exact ⟨h1,p2,h2,h.else_ hb hx ht hlo hne hf⟩
end
section
variable {w w0 W W':World} {g base j j2 k s i:Nat} {q:Ot} {v p p':Value} {l l2:List Pu} {bs bs2:List Bx} {S S1:Nat→Prop} {F U:Prop} {seen:List Ce} {L:Nat→Bool} {FinA:Value→World→Prop}
theorem cw_kn (h:Cw w0 k S S1 (ST w g q v base p j p' l bs) (SB F U w g q v base p j2 p' l2 bs2) L W):K7 W g q:=by
  rcases h.or with h | h
  · exact h.kn
  · exact h.kn
theorem kn7 (h:Cw w0 k S S1 (ST w g q v base p j p' l bs) (SB F U w g q v base p j2 p' l2 bs2) L W):W.cell? ⟨g,0,none⟩=some (.int .u8 q.kd)∧W.cell? ⟨g,1,none⟩=some (.int .u32 q.wh)∧W.cell? ⟨g,2,none⟩=some (.int .u32 q.wm)∧W.cell? ⟨g,3,none⟩=some (.int .u32 q.wt)∧W.cell? ⟨g,4,none⟩=some (.int .u32 q.id)∧W.cell? ⟨g,5,none⟩=some (.int .u64 q.n)∧W.cell? ⟨g,6,none⟩=some (.int .u64 q.pr):=
  have c:=cw_kn h
  ⟨c.c0,c.c1,c.c2,c.c3,c.c4,c.c5,c.c6⟩
theorem ea {ops:List Oper} {s a:Nat} (n:Nat) {x:Oper} (hx:ops[s]?=some x) (hn:n=a:=by rfl) (h:(⟨n,.data⟩:Edge)∈x.after:=by simp):∀ o,ops[s]?=some o→∃ e∈o.after,Region.binds .any e=true∧e.on=a:=fun o ho=>by
  rw [hx] at ho;injection ho with ho;subst ho;exact ⟨⟨n,.data⟩,h,rfl,hn⟩
theorem cw_low (h:Cw w0 k S S1 (ST w g q v base p j p' l bs) (SB F U w g q v base p j2 p' l2 bs2) L W) (hb:Begin w g q v base p seen):Below g w W:=by
  rcases h.or with h | h
  · exact h.low hb
  · exact h.low hb
theorem cw_bx (h:Cw w0 k S S1 (ST w g q v base p j p' l bs) (SB F U w g q v base p j2 p' l2 bs) L W):Bxs W bs:=by
  rcases h.or with h | h
  · exact h.bx
  · exact h.box
variable {a:Nat} {FinS:Value→World→Prop} {Fs:List (Value→Prop)} {vals:Nat→Value} {x:Value} {f:Value→Prop}
theorem sv {A B:World→Prop} (hE:(Fs.getD i fun _=>True)=f) (hf:f x) (hk:i≠k:=by decide) (hs:i≠s:=by decide) (ha:i≠a:=by decide):Rw k s S S1 A B FinA i W W∧Fw k a s B FinA FinS Fs i (upd vals i x) W:=
  ⟨Rw.same hk hs,Fw.val hs ha hk hE hf⟩
theorem sq (hb:Below W.heap.size W W') (hE:(Fs.getD i fun _=>True)=f) (hf:f x) (hk:i≠k:=by decide) (hs:i≠s:=by decide) (ha:i≠a:=by decide) :
    Rw k s S S1 (ST w g q v base p j p' l bs) (SB F U w g q v base p j2 p' l2 bs2) FinA i W W'∧Fw k a s (SB F U w g q v base p j2 p' l2 bs2) FinA FinS Fs i (upd vals i x) W':=
  ⟨Rw.below hk hs (fun h=>h.later hb) (fun h=>h.later hb) hb,Fw.val hs ha hk hE hf⟩
theorem kv {A B:World→Prop} (hf:Fr S W W') (H:B W') (hE:(Fs.getD k fun _=>True)=f) (hv:f x) (hs:k≠s:=by decide) (ha:k≠a:=by decide):Rw k s S S1 A B FinA k W W'∧Fw k a s B FinA FinS Fs k (upd vals k x) W':=
  ⟨Rw.work hs hf H,Fw.work hs ha H hE hv⟩
theorem am (hz:w0.heap.size≤W.heap.size) (hk:a≠k:=by decide) (hs:a≠s:=by decide) :
    Rw k s S S1 (ST w g q v base p j p' l bs) (SB F U w g q v base p j2 p' l2 bs2) (ThA w0.heap.size) a W (W.alloc (.cells #[.int .u64 0,.int .u64 0,.int .u8 0,.int .u32 0,.int .u32 0,.bool false] 130)) ∧
    Fw k a s (SB F U w g q v base p j2 p' l2 bs2) (ThA w0.heap.size) FinS Fs a (upd vals a (.pointer (some ⟨W.heap.size,0,none⟩))) (W.alloc (.cells #[.int .u64 0,.int .u64 0,.int .u8 0,.int .u32 0,.int .u32 0,.bool false] 130)):=by
  have h2:=new_ (Below.refl W.heap.size W) (.cells #[.int .u64 0,.int .u64 0,.int .u8 0,.int .u32 0,.int .u32 0,.bool false] 130)
  exact ⟨Rw.below hk hs (fun h=>h.later h2) (fun h=>h.later h2) h2,Fw.made hs ⟨W.heap.size,_,rfl,hz,Box.new _ _ _,rfl⟩⟩
def six (W:World) (gt:Nat) (a b c d e f:Value):World:=(((((W.setCell ⟨gt,0,none⟩ a).setCell ⟨gt,1,none⟩ b).setCell ⟨gt,2,none⟩ c).setCell ⟨gt,3,none⟩ d).setCell ⟨gt,4,none⟩ e).setCell ⟨gt,5,none⟩ f
theorem six_box {gt:Nat} {c0 c1 c2 c3 c4 c5 v0 v1 v2 v3 v4 v5:Value} {t:TypeId} (h:Box W gt #[c0,c1,c2,c3,c4,c5] t):Box (six W gt v0 v1 v2 v3 v4 v5) gt #[v0,v1,v2,v3,v4,v5] t:=(((((h.set_ 0 v0).set_ 1 v1).set_ 2 v2).set_ 3 v3).set_ 4 v4).set_ 5 v5
theorem six_fr {gt:Nat} {v0 v1 v2 v3 v4 v5:Value}:Fr (fun x=>x=gt) W (six W gt v0 v1 v2 v3 v4 v5):=
  ((((((Fr.refl (fun x=>x=gt) W).setCell (p:=⟨gt,0,none⟩) (.inl rfl) v0).setCell (p:=⟨gt,1,none⟩) (.inl rfl) v1).setCell (p:=⟨gt,2,none⟩) (.inl rfl) v2).setCell (p:=⟨gt,3,none⟩) (.inl rfl) v3).setCell (p:=⟨gt,4,none⟩) (.inl rfl) v4).setCell (p:=⟨gt,5,none⟩) (.inl rfl) v5
theorem six_cells {gt:Nat} {c0 c1 c2 c3 c4 c5:Value} {t:TypeId} (h:Box W gt #[c0,c1,c2,c3,c4,c5] t) :
    (W.cell? ⟨gt,0,none⟩=some c0∧W.cell? ⟨gt,1,none⟩=some c1∧W.cell? ⟨gt,2,none⟩=some c2∧W.cell? ⟨gt,3,none⟩=some c3∧W.cell? ⟨gt,4,none⟩=some c4∧W.cell? ⟨gt,5,none⟩=some c5) ∧
    W.frozen? ⟨gt,0,none⟩=false∧W.frozen? ⟨gt,1,none⟩=false∧W.frozen? ⟨gt,2,none⟩=false∧W.frozen? ⟨gt,3,none⟩=false∧W.frozen? ⟨gt,4,none⟩=false∧W.frozen? ⟨gt,5,none⟩=false:=
  ⟨⟨h.cell 0,h.cell 1,h.cell 2,h.cell 3,h.cell 4,h.cell 5⟩,h.frozen 0,h.frozen 1,h.frozen 2,h.frozen 3,h.frozen 4,h.frozen 5⟩
theorem sm {gt:Nat} {c0 c1 c2 c3 c4 c5 v0 v1 v2 v3 v4 v5:Value} (h0:ST w g q v base p j p' l bs w0) (hb:Begin w g q v base p seen) (hx:Box W gt #[c0,c1,c2,c3,c4,c5] 130) (hgt:w0.heap.size≤gt) (hv:vals a=.pointer (some ⟨gt,0,none⟩)) (hk:s≠k:=by decide) (hs:a≠s:=by decide) :
    Rw k s S (fun x=>w0.heap.size≤x) (ST w g q v base p j p' l bs) (SB F U w g q v base p j2 p' l2 bs) (ThA w0.heap.size) s W (six W gt v0 v1 v2 v3 v4 v5) ∧
    ∃ x,Fw k a s (SB F U w g q v base p j2 p' l2 bs) (ThA w0.heap.size) (ThS w0.heap.size #[v0,v1,v2,v3,v4,v5]) Fs s (upd vals s x) (six W gt v0 v1 v2 v3 v4 v5):=by
  have hf:Fr (fun x=>x=gt) W (six W gt v0 v1 v2 v3 v4 v5):=six_fr
  have hlo:w.heap.size≤gt:=by have:=h0.run.out.size;omega
  have hne:∀ x∈bs,x.blk≠gt:=fun x hx=>by have:=h0.lt x hx;omega
  refine ⟨Rw.store hk (hf.mono fun x _ e=>by rw [e];exact hgt) (fun h=>h.else_ hb hx (by decide) hlo hne hf) (fun h=>h.else_ hb hx (by decide) hlo hne hf) (fun v' ⟨gt',C',e1,e2,e3,e4⟩=>?_),undef,Fw.laid hs ⟨gt,hv,hgt,six_box hx⟩⟩
  by_cases hh:gt'=gt
  · subst hh;exact ⟨gt',_,e1,e2,six_box hx,rfl⟩
  · exact ⟨gt',C',e1,e2,e3.fr hf hh,e4⟩
end
abbrev Vs:=List (Option (Value × Prop))
def vsP:Option (Value × Prop)→Value→Prop
  | none,_=>True
  | some x,v=>v=x.1∧x.2
def pw (g n:Nat):Option (Value × Prop):=some (.pointer (some ⟨g,n,none⟩),True)
def depF (vs:Vs) (vals:Nat→Value):List Edge→Prop
  | []=>True
  | e :: r=>(match e.ground with | .data=>vsP (vs.getD e.on none) (vals e.on) | _=>True)∧depF vs vals r
def allF (vals:Nat→Value):Nat→Vs→Prop
  | _,[]=>True
  | i,x :: r=>vsP x (vals i)∧allF vals (i + 1) r
theorem vsP_c {u x:Value} {C:Prop} (h:vsP (some (u,C)) x):C:=h.2
theorem allF.get {vals:Nat→Value}:∀ {vs:Vs} {i:Nat},allF vals i vs→∀ n,vsP (vs.getD n none) (vals (i + n))
  | [],i,_,n=>by simp [vsP]
  | x :: r,i,h,0=>by simpa using h.1
  | x :: r,i,h,n + 1=>by
    have:=allF.get h.2 n
    simpa [Nat.add_assoc,Nat.add_comm 1] using this
theorem vs_getD (vs:Vs) (j:Nat):((vs.map vsP).getD j fun _=>True)=vsP (vs.getD j none):=by
  rw [show (fun _:Value=>True)=vsP none from rfl]
  simp only [List.getD_eq_getElem?_getD,List.getElem?_map]
  cases vs[j]? <;> rfl
section
variable {k a s:Nat} {B:World→Prop} {FinA FinS:Value→World→Prop} {vs:Vs} {vals:Nat→Value} {W:World}
theorem deps {o:Oper} (hw:∀ e∈o.after,Region.binds .any e=true→Fw k a s B FinA FinS (vs.map vsP) e.on vals W) (ha:vs.getD a none=none) (hs:vs.getD s none=none):depF vs vals o.after.toList:=by
  have key:∀ es:List Edge,(∀ e∈es,e∈o.after)→depF vs vals es:=by
    intro es
    induction es with
    | nil=>intro _;trivial
    | cons e r ih=>
      intro h
      refine ⟨?_,ih fun x hx=>h x (by simp [hx])⟩
      cases he:e.ground with
      | data=>
        have h1:=hw e (h e (by simp)) (by simp [Region.binds,he])
        by_cases e1:e.on=s
        · rw [e1]
          show vsP (vs.getD s none) _
          rw [hs];trivial
        · by_cases e2:e.on=a
          · rw [e2]
            show vsP (vs.getD a none) _
            rw [ha];trivial
          · exact h1.get e1 e2 (vs_getD vs e.on)
      | _=>trivial
  exact key _ fun e he=>by simpa using he
theorem all_of (h:∀ i,i < vs.length→i≠s→i≠a→((vs.map vsP).getD i fun _=>True) (vals i)) (ha:vs.getD a none=none) (hs:vs.getD s none=none):allF vals 0 vs:=by
  have key:∀ (r:Vs) (n:Nat),(∀ i,r.getD i none=vs.getD (n + i) none)→(∀ i,i < r.length→n + i < vs.length)→allF vals n r:=by
    intro r
    induction r with
    | nil=>intro n _ _;trivial
    | cons x r ih=>
      intro n h1 h2
      refine ⟨?_,ih (n + 1) (fun i=>?_) (fun i hi=>?_)⟩
      · have e0:x=vs.getD n none:=by simpa using h1 0
        by_cases e1:n=s
        · rw [e0,e1,hs];trivial
        · by_cases e2:n=a
          · rw [e0,e2,ha];trivial
          · have:=h n (by simpa using h2 0 (by simp)) e1 e2
            rw [vs_getD] at this
            rw [e0];exact this
      · have:=h1 (i + 1)
        rw [show n + 1 + i=n + (i + 1) by omega]
        simpa using this
      · have:=h2 (i + 1) (by simpa using hi)
        omega
  exact key vs 0 (fun i=>by rw [Nat.zero_add]) (fun i hi=>by omega)
end
theorem wp_S {P:Program} {ops:List Oper} {a0:Act} {id:Nat} {Q:Exit→Act→World→Prop} {w0:World} {w:World} {g base j:Nat} {q:Ot} {v p p':Value} {l:List Pu} {bs:List Bx} {D:Exit→World→Prop} (k n n1:Nat) (B:World→Prop) (vs:Vs) (h0:ST w g q v base p j p' l bs w0)
    (hob:∀ vals:Nat→Value,ObD D P ops.toArray (Cw w0 k (fun x=>x < w0.heap.size) (fun _=>False) (ST w g q v base p j p' l bs) B) (Rw k n1 (fun x=>x < w0.heap.size) (fun _=>False) (ST w g q v base p j p' l bs) B (fun _ _=>True)) (Fw k n n1 B (fun _ _=>True) (fun _ _=>True) (vs.map vsP)) vals 0 ops a0)
    (hend:∀ (vals:Nat→Value) W,B W→allF vals 0 vs→Q .normal (TL vals 0 ops a0) W)
    (hQ:∀ e (a:Act) w,a.defers=a0.defers→D e w→Q e a w:=by rintro _ _ _ hd ⟨c,rfl,h⟩;exact ⟨hd,h⟩) (hm:P.follows .mixedOrders=true:=by kernel_rfl) (hB:fitB ops.toArray=true:=by kernel_rfl) (hka:k≠n:=by decide) (hks:k≠n1:=by decide) (hk:k < ops.length:=by decide) (hl:vs.length=ops.length:=by rfl) (ha:vs.getD n none=none:=by rfl) (hs:vs.getD n1 none=none:=by rfl):(Code.region id ops.toArray true).wp P Q a0 w0:=
  wp_region_work hQ hm hB k n n1 hka hks (fun x=>x < w0.heap.size) (fun _=>False) (ST w g q v base p j p' l bs) B (fun _ _=>True) (fun _ _=>True) (vs.map vsP) (fun _ _ _ _ _=>trivial) (fun _ _ _ _ _=>trivial) (.inl fun _ _ _ h=>h) hk h0.drew hob
    (fun vals W _ h1 _ h2=>hend vals W h1 (all_of (fun i hi=>h2 i (by omega)) ha hs))
theorem wp_SA {P:Program} {ops:List Oper} {a0:Act} {id:Nat} {Q:Exit→Act→World→Prop} {w0:World} {w:World} {g base j:Nat} {q:Ot} {v p p':Value} {l:List Pu} {bs:List Bx} {D:Exit→World→Prop} (k n n1:Nat) (F U:Prop) (j2:Nat) (l2:List Pu) (vs:Vs) (h0:ST w g q v base p j p' l bs w0)
    (hob:∀ vals:Nat→Value,ObD D P ops.toArray (Cw w0 k (fun x=>x < w0.heap.size) (fun _=>False) (ST w g q v base p j p' l bs) (SB F U w g q v base p j2 p' l2 bs)) (Rw k n1 (fun x=>x < w0.heap.size) (fun _=>False) (ST w g q v base p j p' l bs) (SB F U w g q v base p j2 p' l2 bs) (fun _ _=>True)) (Fw k n n1 (SB F U w g q v base p j2 p' l2 bs) (fun _ _=>True) (fun _ _=>True) (vs.map vsP)) vals 0 ops a0)
    (hend:∀ (vals:Nat→Value) W,SB F U w g q v base p j2 p' l2 bs W→allF vals 0 vs→Q .normal (TL vals 0 ops a0) W)
    (hQ:∀ e (a:Act) w,a.defers=a0.defers→D e w→Q e a w:=by rintro _ _ _ hd ⟨c,rfl,h⟩;exact ⟨hd,h⟩) (hm:P.follows .mixedOrders=true:=by kernel_rfl) (hB:fitB ops.toArray=true:=by kernel_rfl) (hka:k≠n:=by decide) (hks:k≠n1:=by decide) (hk:k < ops.length:=by decide) (hl:vs.length=ops.length:=by rfl) (ha:vs.getD n none=none:=by rfl) (hs:vs.getD n1 none=none:=by rfl):(Code.region id ops.toArray true).wp P Q a0 w0:=
  wp_S k n n1 (SB F U w g q v base p j2 p' l2 bs) vs h0 hob hend hQ hm hB hka hks hk hl ha hs
theorem wp_SK {P:Program} {ops:List Oper} {a0:Act} {id:Nat} {Q:Exit→Act→World→Prop} {w0:World} {w:World} {g base j:Nat} {q:Ot} {v p p':Value} {l:List Pu} {bs:List Bx} {D:Exit→World→Prop} (k a s:Nat) (F:Prop) (j2:Nat) (cs:Array Value) (vs:Vs) (h0:ST w g q v base p j p' l bs w0)
    (hob:∀ vals:Nat→Value,ObD D P ops.toArray (Cw w0 k (fun x=>x < w0.heap.size) (fun x=>w0.heap.size≤x) (ST w g q v base p j p' l bs) (SB F False w g q v base p j2 p' l bs)) (Rw k s (fun x=>x < w0.heap.size) (fun x=>w0.heap.size≤x) (ST w g q v base p j p' l bs) (SB F False w g q v base p j2 p' l bs) (ThA w0.heap.size)) (Fw k a s (SB F False w g q v base p j2 p' l bs) (ThA w0.heap.size) (ThS w0.heap.size cs) (vs.map vsP)) vals 0 ops a0)
    (hend:∀ (vals:Nat→Value) W,SB F False w g q v base p j2 p' l bs W→ThS w0.heap.size cs (vals a) W→allF vals 0 vs→Q .normal (TL vals 0 ops a0) W)
    (hdep:∀ o,ops[s]?=some o→∃ e∈o.after,Region.binds .any e=true∧e.on=a)
    (hQ:∀ e (a:Act) w,a.defers=a0.defers→D e w→Q e a w:=by rintro _ _ _ hd ⟨c,rfl,h⟩;exact ⟨hd,h⟩) (hm:P.follows .mixedOrders=true:=by kernel_rfl) (hB:fitB ops.toArray=true:=by kernel_rfl) (hka:k≠a:=by decide) (hks:k≠s:=by decide) (hk:k < ops.length:=by decide) (hsl:s < ops.length:=by decide) (hl:vs.length=ops.length:=by rfl) (ha:vs.getD a none=none:=by rfl) (hs:vs.getD s none=none:=by rfl):(Code.region id ops.toArray true).wp P Q a0 w0:=
  wp_region_work hQ hm hB k a s hka hks (fun x=>x < w0.heap.size) (fun x=>w0.heap.size≤x) (ST w g q v base p j p' l bs) (SB F False w g q v base p j2 p' l bs) (ThA w0.heap.size) (ThS w0.heap.size cs) (vs.map vsP)
    (fun v W W' hf h=>by obtain ⟨gt,C,e1,e2,e3,e4⟩:=h;exact ⟨gt,C,e1,e2,e3.fr hf (by omega),e4⟩) (fun v W W' hf h=>by obtain ⟨gt,e1,e2,e3⟩:=h;exact ⟨gt,e1,e2,e3.fr hf (by omega)⟩) (.inr hdep) hk h0.drew hob
    (fun vals W _ h1 h3 h2=>hend vals W h1 (h3 hsl) (all_of (fun i hi=>h2 i (by omega)) ha hs))
section
variable {w w0 W:World} {g base j:Nat} {q:Ot} {v p p':Value} {l:List Pu} {bs:List Bx} {seen:List Ce}
theorem look_K (h0:ST w g q v base p j p' l bs w0) (h:ST w g q v base p j p' l bs W) (hb:Begin w g q v base p seen) (hj:j≤1000000) {ce:Ce} (hce:∀ c,seen[j]?=some c→c=ce) (k a b:Int) :
    Calls Tryz.prog 79 #[.pointer (some ⟨g,7,none⟩),.agg #[.int .u8 k,.int .u32 a,.int .u32 b]] W fun e W'=>
      (seen[j]?=none∧e=.panicked (raiseK k a b)∧Below g w W')∨(seen[j]?=some ce∧e=.returned (.agg (thing ce.vA ce.vB k a b ce.is))∧Fr (fun x=>x < w0.heap.size) W W'∧SB (seen[j]?=some ce) False w g q v base p (j + 1) p' l bs W'):=by
  refine (look_run h.run.out hb hj k a b).mono fun e w' hq=>?_
  rcases hq with ⟨h1,h2,h3⟩ | ⟨c,h1,h2,h3,h4⟩
  · exact .inl ⟨h1,h2,h3⟩
  · obtain rfl:=hce c h1
    exact .inr ⟨h1,h2,h4.mono fun x _ e=>by rw [e];exact h0.gl hb,h1,p',.inr rfl,h.keep h3 h4 fun x hx=>Bx.ne (h.ok x hx)⟩
theorem there_K (h0:ST w g q v base p j p' l bs w0) (h:ST w g q v base p j p' l bs W) (hb:Begin w g q v base p seen) (hj:j≤1000000) {ce:Ce} (hce:∀ c,seen[j]?=some c→c=ce) (k a b:Int) :
    Calls Tryz.prog 82 #[.pointer (some ⟨g,7,none⟩),.agg #[.int .u8 k,.int .u32 a,.int .u32 b]] W fun e W'=>
      (seen[j]?=none∧e=.panicked (raiseK k a b)∧Below g w W')∨(seen[j]?=some ce∧ce.is=false∧e=.panicked (raise_ 211)∧Below g w W') ∨
      (e=.returned (.agg (thing ce.A ce.B k a b true))∧Fr (fun x=>x < w0.heap.size) W W'∧SB (seen[j]?=some ce∧ce.is=true) False w g q v base p (j + 1) p' l bs W'):=by
  refine (there_run h.run.out hb hj k a b).mono fun e w' hq=>?_
  rcases hq with ⟨h1,h2,h3⟩ | ⟨c,h1,h2,h3,h4⟩ | ⟨c,h1,h2,h3,h4,h5⟩
  · exact .inl ⟨h1,h2,h3⟩
  · obtain rfl:=hce c h1
    exact .inr (.inl ⟨h1,h2,h3,h4⟩)
  · obtain rfl:=hce c h1
    exact .inr (.inr ⟨h3,h5.mono fun x _ e=>by rw [e];exact h0.gl hb,⟨h1,h2⟩,p',.inr rfl,h.keep h4 h5 fun x hx=>Bx.ne (h.ok x hx)⟩)
theorem pow_ (h0:ST w g q v base p j p' l bs w0) (hb:Begin w g q v base p seen) (x:Nat) (e:x=g∨p'.ownBlock=some x):x < w0.heap.size:=by
  rcases e with e | e
  · rw [e];exact h0.gl hb
  · exact (h0.run.out.own e).2
theorem put_S {l2:List Pu} (h:ST w g q v base p j p' l bs W) (hb:Begin w g q v base p seen) (hl:l.length≤1000) (k a b A B:Int) (e2:l++[Pu.mk k a b A B false]=l2) :
    Calls Tryz.prog 92 #[.pointer (some ⟨g,0,none⟩),.agg #[.int .u8 k,.int .u32 a,.int .u32 b],.agg #[.int .u64 A,.int .u64 B]] W fun e W'=>e=.returned (.tuple #[])∧Fr (fun x=>x=g∨p'.ownBlock=some x) W W'∧∃ p2,ST w g q v base p j p2 l2 bs W':=by
  subst e2
  exact (put_run h.run.out hb hl k a b A B).mono fun e w' ⟨h1,p2,h2,h3⟩=>⟨h1,h3,p2,h.keep h2 h3 h.put_far⟩
theorem gone_S {l2:List Pu} (h:ST w g q v base p j p' l bs W) (hb:Begin w g q v base p seen) (hl:l.length≤1000) (k a b:Int) (e2:l++[Pu.mk k a b 0 0 true]=l2) :
    Calls Tryz.prog 98 #[.pointer (some ⟨g,0,none⟩),.agg #[.int .u8 k,.int .u32 a,.int .u32 b]] W fun e W'=>e=.returned (.tuple #[])∧Fr (fun x=>x=g∨p'.ownBlock=some x) W W'∧∃ p2,ST w g q v base p j p2 l2 bs W':=by
  subst e2
  exact (gone_run h.run.out hb hl k a b).mono fun e w' ⟨h1,p2,h2,h3⟩=>⟨h1,h3,p2,h.keep h2 h3 h.put_far⟩
theorem amount_S {l2:List Pu} (h:ST w g q v base p j p' l bs W) (hb:Begin w g q v base p seen) (hl:l.length≤1000) (k a b A:Int) (e2:l++[amt k a b A]=l2) :
    Calls Tryz.prog 81 #[.pointer (some ⟨g,0,none⟩),.agg #[.int .u8 k,.int .u32 a,.int .u32 b],.int .u64 A] W fun e W'=>e=.returned (.tuple #[])∧Fr (fun x=>x=g∨p'.ownBlock=some x) W W'∧∃ p2,ST w g q v base p j p2 l2 bs W':=by
  subst e2
  exact (amount_run h.run.out hb hl k a b A).mono fun e w' ⟨h1,p2,h2,h3⟩=>⟨h1,h3,p2,h.keep h2 h3 h.put_far⟩
theorem pk {l2:List Pu} {f:FuncId} {args:Array Value} (h0:ST w g q v base p j p' l bs w0) (hb:Begin w g q v base p seen) (hc:Calls Tryz.prog f args W fun e W'=>e=.returned (.tuple #[])∧Fr (fun x=>x=g∨p'.ownBlock=some x) W W'∧∃ p2,ST w g q v base p j p2 l2 bs W') :
    Calls Tryz.prog f args W fun e W'=>e=.returned (.tuple #[])∧Fr (fun x=>x < w0.heap.size) W W'∧SB True True w g q v base p j p' l2 bs W':=
  hc.mono fun e W' ⟨h1,h2,p2,h3⟩=>⟨h1,h2.mono fun x _ e=>pow_ h0 hb x e,trivial,p2,.inl trivial,h3⟩
def LessQ (w:World) (g:Nat) (a n:Int) (W:World) (X:World→Prop) (e:Ending) (W':World):Prop:=
  ((4611686018427387904 < a∨4611686018427387904 < n)∧e=.panicked (raise_ 30)∧Below g w W')∨((¬ (4611686018427387904 < a∨4611686018427387904 < n)∧a < n)∧e=.panicked (raise_ 215)∧Below g w W') ∨
  (Ls a n∧e=.returned (.int .u64 (a - n))∧X W')
def MoreQ (w:World) (g:Nat) (a n:Int) (W:World) (X:World→Prop) (e:Ending) (W':World):Prop:=
  ((4611686018427387904 < a∨4611686018427387904 < n∨4611686018427387904 < a + n)∧e=.panicked (raise_ 30)∧Below g w W')∨(Mr a n∧e=.returned (.int .u64 (a + n))∧X W')
theorem less_q {a n:Int} (ha:0≤a∧a≤18446744073709551615) (hn:0≤n∧n≤18446744073709551615) (hw:Below g w W) (hg:g≤W.heap.size) :
    Calls Tryz.prog 84 #[.int .u64 a,.int .u64 n] W (LessQ w g a n W (fun W'=>Below W.heap.size W W')):=by
  refine (less_all a n ha hn W).mono fun e W' ⟨h1,h2⟩=>?_
  have h3:Below g w W':=hw.trans (h2.mono hg)
  split at h1
  · rename_i c;exact .inl ⟨c,h1,h3⟩
  · rename_i c
    split at h1
    · rename_i d;exact .inr (.inl ⟨⟨c,d⟩,h1,h3⟩)
    · rename_i d;exact .inr (.inr ⟨⟨c,d⟩,h1,h2⟩)
theorem more_q {a n:Int} (ha:0≤a∧a≤18446744073709551615) (hn:0≤n∧n≤18446744073709551615) (hw:Below g w W) (hg:g≤W.heap.size) :
    Calls Tryz.prog 83 #[.int .u64 a,.int .u64 n] W (MoreQ w g a n W (fun W'=>Below W.heap.size W W')):=by
  refine (more_all a n ha hn W).mono fun e W' ⟨h1,h2⟩=>?_
  have h3:Below g w W':=hw.trans (h2.mono hg)
  split at h1
  · rename_i c;exact .inl ⟨c,h1,h3⟩
  · rename_i c;exact .inr ⟨c,h1,h2⟩
theorem less_K {a n:Int} (ha:0≤a∧a≤18446744073709551615) (hn:0≤n∧n≤18446744073709551615) (h:ST w g q v base p j p' l bs W) (hb:Begin w g q v base p seen) :
    Calls Tryz.prog 84 #[.int .u64 a,.int .u64 n] W (LessQ w g a n W (fun W'=>Fr (fun x=>x < w0.heap.size) W W'∧SB True False w g q v base p j p' l bs W')):=
  (less_q ha hn (h.low hb) (Nat.le_of_lt (h.gl hb))).mono fun e W' hq=>by
    rcases hq with h1 | h1 | ⟨h1,h2,h3⟩
    · exact .inl h1
    · exact .inr (.inl h1)
    · exact .inr (.inr ⟨h1,h2,.of_below h3,(h.later h3).sb⟩)
variable {k j2:Nat} {S S1:Nat→Prop} {F U:Prop} {l2:List Pu} {bs2:List Bx} {L:Nat→Bool}
theorem less_C {a n:Int} (ha:0≤a∧a≤18446744073709551615) (hn:0≤n∧n≤18446744073709551615) (h:Cw w0 k S S1 (ST w g q v base p j p' l bs) (SB F U w g q v base p j2 p' l2 bs2) L W) (h0:ST w g q v base p j p' l bs w0) (hb:Begin w g q v base p seen) :
    Calls Tryz.prog 84 #[.int .u64 a,.int .u64 n] W (LessQ w g a n W (fun W'=>Below W.heap.size W W')):=
  less_q ha hn (cw_low h hb) (by have:=h0.gl hb;have:=h.fr.size;omega)
theorem more_C {a n:Int} (ha:0≤a∧a≤18446744073709551615) (hn:0≤n∧n≤18446744073709551615) (h:Cw w0 k S S1 (ST w g q v base p j p' l bs) (SB F U w g q v base p j2 p' l2 bs2) L W) (h0:ST w g q v base p j p' l bs w0) (hb:Begin w g q v base p seen) :
    Calls Tryz.prog 83 #[.int .u64 a,.int .u64 n] W (MoreQ w g a n W (fun W'=>Below W.heap.size W W')):=
  more_q ha hn (cw_low h hb) (by have:=h0.gl hb;have:=h.fr.size;omega)
end
section
variable {w w0 W W':World} {g base j j2 k s i a:Nat} {q:Ot} {v p p':Value} {l l2:List Pu} {bs bs2:List Bx} {S S1:Nat→Prop} {F U:Prop} {seen:List Ce} {FinA FinS:Value→World→Prop} {Fs:List (Value→Prop)} {vals:Nat→Value} {x:Value} {f:Value→Prop}
theorem ks {A:World→Prop} (h:Fr S W W'∧ST w g q v base p j p' l bs2 W') (hE:(Fs.getD k fun _=>True)=f) (hv:f undef) (hs:k≠s:=by decide) (ha:k≠a:=by decide) :
    Rw k s S S1 A (SB True False w g q v base p j p' l bs2) FinA k W W'∧∃ x,Fw k a s (SB True False w g q v base p j p' l bs2) FinA FinS Fs k (upd vals k x) W':=
  ⟨(kv (FinA:=FinA) (FinS:=FinS) (Fs:=Fs) (vals:=vals) (A:=A) (S1:=S1) h.1 h.2.sb hE hv hs ha).1,undef,(kv (FinA:=FinA) (FinS:=FinS) (Fs:=Fs) (vals:=vals) (A:=A) (S1:=S1) h.1 h.2.sb hE hv hs ha).2⟩
theorem ksB {b o:Nat} {C:Array Value} {t:TypeId} {u:Value} (h0:ST w g q v base p j p' l bs w0) (h:ST w g q v base p j p' l bs W) (hb:Begin w g q v base p seen) (n:Nat) (hn:bs[n]?=some (.box b C t)) :
    Fr (fun x=>x < w0.heap.size) W (W.setCell ⟨b,o,none⟩ u)∧ST w g q v base p j p' l (bs.set n (.box b (C.setIfInBounds o u) t)) (W.setCell ⟨b,o,none⟩ u):=
  ⟨((Fr.refl (fun x=>x=b) W).setCell (p:=⟨b,o,none⟩) (.inl rfl) u).mono (fun x _ e=>by rw [e];exact h0.lt (.box b C t) (List.mem_of_getElem? hn)),h.updB hb n hn⟩
theorem ksP {b m cap o:Nat} {C:Array Value} {u:Value} (h0:ST w g q v base p j p' l bs w0) (h:ST w g q v base p j p' l bs W) (hb:Begin w g q v base p seen) (n:Nat) (hn:bs[n]?=some (.pile b m cap C)) (ho:o < C.size:=by simp) :
    Fr (fun x=>x < w0.heap.size) W (W.setCell ⟨b,o,none⟩ u)∧ST w g q v base p j p' l (bs.set n (.pile b m cap (C.setIfInBounds o u))) (W.setCell ⟨b,o,none⟩ u):=
  ⟨((Fr.refl (fun x=>x=b) W).setCell (p:=⟨b,o,none⟩) (.inl rfl) u).mono (fun x _ e=>by rw [e];exact h0.lt (.pile b m cap C) (List.mem_of_getElem? hn)),h.updP hb n ho hn⟩
theorem ST.wr {b:Nat} {C:Array Value} {t:TypeId} (h:ST w g q v base p j p' l bs W) (hb:Begin w g q v base p seen) (n:Nat) (hn:bs[n]?=some (.box b C t)) (hf:Fr (fun x=>x=b) W W'):Run w g q v base p W' j p' l:=
  have ho:(Bx.box b C t).ok w g:=h.ok _ (List.mem_of_getElem? hn)
  h.run.out.set hb (Hid.out (Bxs.get (x:=.box b C t) h.bx n hn)) ho.2.2 ho.2.1 hf
theorem four_cells {gt:Nat} {c0 c1 c2 c3:Value} {t:TypeId} (h:Box W gt #[c0,c1,c2,c3] t) :
    (W.cell? ⟨gt,0,none⟩=some c0∧W.cell? ⟨gt,1,none⟩=some c1∧W.cell? ⟨gt,2,none⟩=some c2∧W.cell? ⟨gt,3,none⟩=some c3) ∧
    W.frozen? ⟨gt,0,none⟩=false∧W.frozen? ⟨gt,1,none⟩=false∧W.frozen? ⟨gt,2,none⟩=false∧W.frozen? ⟨gt,3,none⟩=false:=
  ⟨⟨h.cell 0,h.cell 1,h.cell 2,h.cell 3⟩,h.frozen 0,h.frozen 1,h.frozen 2,h.frozen 3⟩
theorem pile6 {gg n cap:Nat} {cs:Array Value} {c0 c1 c2 c3 c4 c5:Value} (h:Pile W gg n cap cs) (o0 o1 o2 o3 o4 o5:Nat) (h0:cs[o0]?=some c0) (h1:cs[o1]?=some c1) (h2:cs[o2]?=some c2) (h3:cs[o3]?=some c3) (h4:cs[o4]?=some c4) (h5:cs[o5]?=some c5) :
    W.cell? ⟨gg,o0,none⟩=some c0∧W.cell? ⟨gg,o1,none⟩=some c1∧W.cell? ⟨gg,o2,none⟩=some c2∧W.cell? ⟨gg,o3,none⟩=some c3∧W.cell? ⟨gg,o4,none⟩=some c4∧W.cell? ⟨gg,o5,none⟩=some c5:=
  ⟨h.cell o0 h0,h.cell o1 h1,h.cell o2 h2,h.cell o3 h3,h.cell o4 h4,h.cell o5 h5⟩
def four (W:World) (r:Nat) (a b c d:Value):World:=(((W.setCell ⟨r,0,none⟩ a).setCell ⟨r,1,none⟩ b).setCell ⟨r,2,none⟩ c).setCell ⟨r,3,none⟩ d
theorem four_box {r:Nat} {c0 c1 c2 c3 v0 v1 v2 v3:Value} {t:TypeId} (h:Box W r #[c0,c1,c2,c3] t):Box (four W r v0 v1 v2 v3) r #[v0,v1,v2,v3] t:=(((h.set_ 0 v0).set_ 1 v1).set_ 2 v2).set_ 3 v3
theorem four_fr {r:Nat} {v0 v1 v2 v3:Value}:Fr (fun x=>x=r) W (four W r v0 v1 v2 v3):=
  ((((Fr.refl (fun x=>x=r) W).setCell (p:=⟨r,0,none⟩) (.inl rfl) v0).setCell (p:=⟨r,1,none⟩) (.inl rfl) v1).setCell (p:=⟨r,2,none⟩) (.inl rfl) v2).setCell (p:=⟨r,3,none⟩) (.inl rfl) v3
end
section
variable {w W:World} {g base j:Nat} {q:Ot} {v p p':Value} {l:List Pu} {bs:List Bx} {seen:List Ce}
theorem look_KG (h:ST w g q v base p j p' l bs W) (hb:Begin w g q v base p seen) (hj:j≤1000000) {ce:Ce} (hce:∀ c,seen[j]?=some c→c=ce) (k a b:Int) :
    Calls Tryz.prog 79 #[.pointer (some ⟨g,7,none⟩),.agg #[.int .u8 k,.int .u32 a,.int .u32 b]] W fun e W'=>
      (seen[j]?=none∧e=.panicked (raiseK k a b)∧Below g w W')∨(seen[j]?=some ce∧e=.returned (.agg (thing ce.vA ce.vB k a b ce.is))∧Fr (fun x=>x=g) W W'∧SB (seen[j]?=some ce) False w g q v base p (j + 1) p' l bs W'):=by
  refine (look_run h.run.out hb hj k a b).mono fun e w' hq=>?_
  rcases hq with ⟨h1,h2,h3⟩ | ⟨c,h1,h2,h3,h4⟩
  · exact .inl ⟨h1,h2,h3⟩
  · obtain rfl:=hce c h1
    exact .inr ⟨h1,h2,h4,h1,p',.inr rfl,h.keep h3 h4 fun x hx=>Bx.ne (h.ok x hx)⟩
theorem there_KG (h:ST w g q v base p j p' l bs W) (hb:Begin w g q v base p seen) (hj:j≤1000000) {ce:Ce} (hce:∀ c,seen[j]?=some c→c=ce) (k a b:Int) :
    Calls Tryz.prog 82 #[.pointer (some ⟨g,7,none⟩),.agg #[.int .u8 k,.int .u32 a,.int .u32 b]] W fun e W'=>
      (seen[j]?=none∧e=.panicked (raiseK k a b)∧Below g w W')∨(seen[j]?=some ce∧ce.is=false∧e=.panicked (raise_ 211)∧Below g w W') ∨
      (e=.returned (.agg (thing ce.A ce.B k a b true))∧Fr (fun x=>x=g) W W'∧SB (seen[j]?=some ce∧ce.is=true) False w g q v base p (j + 1) p' l bs W'):=by
  refine (there_run h.run.out hb hj k a b).mono fun e w' hq=>?_
  rcases hq with ⟨h1,h2,h3⟩ | ⟨c,h1,h2,h3,h4⟩ | ⟨c,h1,h2,h3,h4,h5⟩
  · exact .inl ⟨h1,h2,h3⟩
  · obtain rfl:=hce c h1
    exact .inr (.inl ⟨h1,h2,h3,h4⟩)
  · obtain rfl:=hce c h1
    exact .inr (.inr ⟨h3,h5,⟨h1,h2⟩,p',.inr rfl,h.keep h4 h5 fun x hx=>Bx.ne (h.ok x hx)⟩)
end
end Go.Proofs.YtabckmadpdchnaaGreat.Rule
namespace Go.Proofs.YtabckmadpdchnaaGreat.Rule
open Go.ChangeShapes Go.WideShapes Go.ChangeAt Go.RowKit Go.IntWalk Go.Proofs.Mem Go.Proofs.Each
def opFn (kd:Int):FuncId:=if kd=1 then 62 else if kd=2 then 63 else if kd=3 then 63 else if kd=4 then 64 else if kd=5 then 64 else if kd=6 then 65 else if kd=7 then 65 else if kd=8 then 66 else if kd=9 then 67 else if kd=10 then 68 else if kd=11 then 69 else if kd=12 then 70 else if kd=13 then 71 else if kd=14 then 72 else if kd=15 then 73 else if kd=16 then 74 else if kd=17 then 75 else if kd=18 then 76 else 0
theorem do_of (w:World) (g:Nat) (q:Ot) (v:Value) (base i:Nat) (p:Value) (l:List Pu) (seen:List Ce) (m:Om Rp) (hst:St w g q v base i p l) (beg:Begin w g q v base p seen) (hk:1≤q.kd∧q.kd≤18)
    (h:∀ W,St W g q v base i p l→w.heap.size≤W.heap.size→SeenAt W g v seen→Calls Tryz.prog (opFn q.kd) #[.pointer (some ⟨g,0,none⟩)] W (Did W g q v base i p l seen m Rp.enc)) :
    Calls Tryz.prog 51 #[.pointer (some ⟨g,0,none⟩)] w (Did w g q v base i p l seen m Rp.enc):=by
  obtain ⟨W0,hW0⟩:∃ W0,w.alloc (.cells #[.int .u16 0,.int .u64 0,.int .u64 0,.int .u64 0] 35)=W0:=⟨_,rfl⟩
  have hz:w.heap.size≤W0.heap.size:=by rw [← hW0];simp
  have ss:=ST.start hst beg #[.int .u16 0,.int .u64 0,.int .u64 0,.int .u64 0] 35
  rw [hW0] at ss
  have call:=h W0 ss.run.out.st hz (ss.run.out.cells_ beg)
  have c0:W0.cell? ⟨g,0,none⟩=some (.int .u8 q.kd):=ss.kn.c0
  have BEG:=Lib.hid beg
  have SS:=Lib.hid ss
  have HW0:=Lib.hid hW0
  rw [← hW0] at c0
  clear hst beg h hz ss hW0
  have hkd:q.kd=1∨q.kd=2∨q.kd=3∨q.kd=4∨q.kd=5∨q.kd=6∨q.kd=7∨q.kd=8∨q.kd=9∨q.kd=10∨q.kd=11∨q.kd=12∨q.kd=13∨q.kd=14∨q.kd=15∨q.kd=16∨q.kd=17∨q.kd=18:=by omega
  clear hk
  rcases hkd with hk | hk | hk | hk | hk | hk | hk | hk | hk | hk | hk | hk | hk | hk | hk | hk | hk | hk
  all_goals
    rw [hk] at c0 call
    simp only [opFn,Int.reduceEq,if_false,if_true] at call
    have CALL:=Lib.hid call
    clear call hk
    go_enter Tryz.func51,Tryz.ntmps51
    go_wp2_with fail
    rw [HW0.out]
    (with_reducible refine CALL.out.mono ?_)
    rintro e WS hd
    rcases SS.out.run.out.part BEG.out hd with ⟨k,a,b,h1,rfl,h2⟩ | ⟨n,h1,rfl,h2⟩ | ⟨y,j,pS,h1,rfl,hr,hf⟩
    · exact ⟨rfl,Did.miss h1 h2⟩
    · exact ⟨rfl,Did.err h1 h2⟩
    have SZ:=Lib.hid (SS.out.keep hr hf SS.out.put_far)
    have DOK:=Lib.hid h1
    clear hr hf h1 SS CALL hd c0 HW0
    unfold Rp.enc
    obtain ⟨⟨z0,z1,z2,z3⟩,x0,x1,x2,x3⟩:=four_cells SZ.out.bx.1.out
    go_wp2
    generalize hW:(World.setCell _ (⟨w.heap.size,3,none⟩:Addr) _)=WZ
    have b9:Box WZ w.heap.size #[.int .u16 0,.int .u64 y.1.A,.int .u64 y.1.B,.int .u64 y.1.C] 35:=by
      rw [← hW]
      exact four_box SZ.out.bx.1.out
    have F9:Hid (Fr (fun x=>x=w.heap.size) WS WZ):=Lib.hid (by
      rw [← hW]
      exact four_fr)
    obtain ⟨⟨v0,v1,v2,v3⟩,-⟩:=four_cells b9
    clear hW b9 z0 z1 z2 z3 x0 x1 x2 x3
    refine bodyPost_ret (v:=.agg #[.int .u16 0,.int .u64 y.1.A,.int .u64 y.1.B,.int .u64 y.1.C]) (by simp [results,Tryz.results51,go_sem,v0,v1,v2,v3];try rfl) rfl ?_
    exact (SZ.out.wr BEG.out 0 rfl F9.out).did (y:=y) DOK.out rfl
end Go.Proofs.YtabckmadpdchnaaGreat.Rule
namespace Go.Proofs.YtabckmadpdchnaaGreat.Rule
open Go.ChangeShapes Go.WideShapes Go.ChangeAt Go.RowKit Go.IntWalk Go.Proofs.Mem Go.Proofs.Each
theorem move_any (w:World) (g:Nat) (q:Ot) (v:Value) (base i:Nat) (p:Value) (l:List Pu) (seen:List Ce) (hst:St w g q v base i p l) (hs:SeenAt w g v seen) (hg:g < base) (hbase:base≤w.heap.size) (hl:l.length≤900) (hi:i≤900000) (hq:q.Ok) (hok:∀ c∈seen,c.Ok) (k a b k2 a2 b2:Int) :
    Calls Tryz.prog 87 #[.pointer (some ⟨g,0,none⟩),.agg #[.int .u8 k,.int .u32 a,.int .u32 b],.agg #[.int .u8 k2,.int .u32 a2,.int .u32 b2]] w (Did w g q v base i p l seen (oMove q k a b k2 a2 b2) Rp.enc):=by
  have BEG:=Lib.hid (Begin.mk hs hg hbase hq hok (fun x hx=>hst.own.lt x hx))
  obtain ⟨Wa,hWa⟩:∃ W,w.alloc (.cells #[.int .u8 k,.int .u32 a,.int .u32 b] 49)=W:=⟨_,rfl⟩
  obtain ⟨Wb,hWb⟩:∃ W,Wa.alloc (.cells #[.int .u8 k2,.int .u32 a2,.int .u32 b2] 49)=W:=⟨_,rfl⟩
  obtain ⟨W0,hW0⟩:∃ W,Wb.alloc (.cells #[.int .u16 0,.int .u64 0,.int .u64 0,.int .u64 0] 35)=W:=⟨_,rfl⟩
  obtain ⟨ga,hga⟩:∃ x,w.heap.size=x:=⟨_,rfl⟩
  obtain ⟨gb,hgb⟩:∃ x,Wa.heap.size=x:=⟨_,rfl⟩
  obtain ⟨gre,hgre⟩:∃ x,Wb.heap.size=x:=⟨_,rfl⟩
  have SS:=((ST.start hst BEG.out #[.int .u8 k,.int .u32 a,.int .u32 b] 49).alloc BEG.out #[.int .u8 k2,.int .u32 a2,.int .u32 b2] 49).alloc BEG.out #[.int .u16 0,.int .u64 0,.int .u64 0,.int .u64 0] 35
  rw [hWa,hWb,hW0,hga,hgb,hgre] at SS
  replace SS:=Lib.hid SS
  have HGA:=Lib.hid hga
  have HGB:=Lib.hid hgb
  have HGR:=Lib.hid hgre
  have HI:=Lib.hid hi
  have HQ:=Lib.hid hq
  have HOK:=Lib.hid hok
  have HL:=Lib.hid hl
  obtain ⟨ce0,hce0⟩:=the_cell seen (i)
  have CE0:=Lib.hid hce0
  obtain ⟨ce1,hce1⟩:=the_cell seen (i + 1)
  have CE1:=Lib.hid hce1
  clear hst hs hg hbase hl hi hq hok hga hgb hgre hce0 hce1
  go_enter Tryz.func87,Tryz.ntmps87
  go_upto_region 1 with fail
  try rw [hWa]
  try rw [hWb]
  try rw [hW0]
  try rw [HGA.out]
  try rw [HGB.out]
  try rw [HGR.out]
  clear hWa hWb hW0 HGA HGB HGR
  refine wp_SA (D:=DP w g q v base i p l seen (oMove q k a b k2 a2 b2) Rp.enc) 4 14 15 (seen[i]?=some ce0) False (i + 1) l [pw g 0,pw g 0,pw g 7,some (.agg #[.int .u8 k,.int .u32 a,.int .u32 b],True),some (.agg (thing ce0.vA ce0.vB k a b ce0.is),seen[i]?=some ce0),some (.agg #[.int .u64 ce0.vA,.int .u64 ce0.vB],seen[i]?=some ce0),some (.int .u64 ce0.vA,seen[i]?=some ce0),pw g 0,pw g 0,pw g 0,pw g 5,some (.int .u64 q.n,True),some (.int .u64 (ce0.vA - q.n),Ls ce0.vA q.n),some (.int .u64 (ce0.vA - q.n),True)] SS.out (fun vals=>?_) (fun vals W1 hB hall=>?_)
  · simp only [ObD,Act.put,qA,qC,qZ]
    refine ⟨?_,?_,?_,?o0_3,?o0_4,?o0_5,?o0_6,?_,?_,?_,?_,?_,?o0_12,?_,trivial⟩
    all_goals (intro L W hL hk hC hw;have f:=deps hw rfl rfl;simp only [depF,vsP,pw,qS,qD,and_true,true_and] at f)
    case' o0_3=>have k0:W.cell? ⟨ga,0,none⟩=some (.int .u8 k):=(cw_bx hC).2.2.1.out.cell 0;have k1:W.cell? ⟨ga,1,none⟩=some (.int .u32 a):=(cw_bx hC).2.2.1.out.cell 1;have k2:W.cell? ⟨ga,2,none⟩=some (.int .u32 b):=(cw_bx hC).2.2.1.out.cell 2
    case o0_4=>
      have CL:=Lib.hid (look_K SS.out (hC.pre hk) BEG.out (by have:=HI.out;omega) CE0.out k a b);clear hL hC hk hw;refine spD rfl ?_;go_simp;(with_reducible refine CL.out.mono ?_);rintro e w8 (⟨h,rfl,h2⟩ | ⟨h1,rfl,hf,H⟩)
      · exact ⟨_,rfl,Did.miss (by unfold oMove;simp only [runOm_bind,run_look_no h]) h2⟩
      · first | exact kv hf H rfl ⟨rfl,h1⟩ | exact ⟨_,rfl,kv hf H rfl ⟨rfl,h1⟩⟩
    case o0_5=>unfold thing at f;clear hL hC hk hw;refine spD rfl ?_;go_simp;first | exact sv rfl ⟨rfl,trivial⟩ | exact ⟨_,rfl,sv rfl ⟨rfl,trivial⟩⟩
    case o0_6=>clear hL hC hk hw;refine spD rfl ?_;go_simp;first | exact sv rfl ⟨rfl,trivial⟩ | exact ⟨_,rfl,sv rfl ⟨rfl,trivial⟩⟩
    case o0_12=>
      have CL:=Lib.hid (less_C (vA_ok HOK.out f.1.2) HQ.out.n hC SS.out BEG.out);clear hL hC hk hw;refine spD rfl ?_;go_simp;(with_reducible refine CL.out.mono ?_)
      rintro e w8 (⟨h,rfl,h2⟩ | ⟨⟨h,h3⟩,rfl,h2⟩ | ⟨h1,rfl,h2⟩)
      · exact ⟨_,rfl,Did.err (by unfold oMove;simp only [runOm_bind,run_look f.1.2,run_less_great h]) h2⟩
      · exact ⟨_,rfl,Did.err (by unfold oMove;simp only [runOm_bind,run_look f.1.2,run_less_low h h3]) h2⟩
      · first | exact sq h2 rfl ⟨rfl,h1⟩ | exact ⟨_,rfl,sq h2 rfl ⟨rfl,h1⟩⟩
    all_goals (have c:=kn7 hC;clear hL hC hk hw;refine spD rfl ?_;go_simp;first | exact sv rfl ⟨rfl,trivial⟩ | exact ⟨_,rfl,sv rfl ⟨rfl,trivial⟩⟩)
  have S0:=Lib.hid hB.1
  have C1:Hid (Ls ce0.vA q.n):=Lib.hid (vsP_c (hall.get 12))
  simp only [allF,vsP,pw,true_and,and_true,Nat.reduceAdd] at hall
  simp only [TL,Act.put,qA,qC,qZ,hall]
  replace SS:=Lib.hid hB.st
  clear hall vals hB
  go_upto_region 2 with fail
  refine wp_SA (D:=DP w g q v base i p l seen (oMove q k a b k2 a2 b2) Rp.enc) 4 14 15 (seen[i + 1]?=some ce1) False (i + 1 + 1) l [pw g 0,pw g 0,pw g 7,some (.agg #[.int .u8 k2,.int .u32 a2,.int .u32 b2],True),some (.agg (thing ce1.vA ce1.vB k2 a2 b2 ce1.is),seen[i + 1]?=some ce1),some (.agg #[.int .u64 ce1.vA,.int .u64 ce1.vB],seen[i + 1]?=some ce1),some (.int .u64 ce1.vA,seen[i + 1]?=some ce1),pw g 0,pw g 0,pw g 0,pw g 5,some (.int .u64 q.n,True),some (.int .u64 (ce1.vA + q.n),Mr ce1.vA q.n),some (.int .u64 (ce1.vA + q.n),True)] SS.out (fun vals=>?_) (fun vals W2 hB hall=>?_)
  · simp only [ObD,Act.put,qA,qC,qZ]
    refine ⟨?_,?_,?_,?o1_3,?o1_4,?o1_5,?o1_6,?_,?_,?_,?_,?_,?o1_12,?_,trivial⟩
    all_goals (intro L W hL hk hC hw;have f:=deps hw rfl rfl;simp only [depF,vsP,pw,qS,qD,and_true,true_and] at f)
    case' o1_3=>have k0:W.cell? ⟨gb,0,none⟩=some (.int .u8 k2):=(cw_bx hC).2.1.out.cell 0;have k1:W.cell? ⟨gb,1,none⟩=some (.int .u32 a2):=(cw_bx hC).2.1.out.cell 1;have k2:W.cell? ⟨gb,2,none⟩=some (.int .u32 b2):=(cw_bx hC).2.1.out.cell 2
    case o1_4=>
      have CL:=Lib.hid (look_K SS.out (hC.pre hk) BEG.out (by have:=HI.out;omega) CE1.out k2 a2 b2);clear hL hC hk hw;refine spD rfl ?_;go_simp;(with_reducible refine CL.out.mono ?_);rintro e w8 (⟨h,rfl,h2⟩ | ⟨h1,rfl,hf,H⟩)
      · exact ⟨_,rfl,Did.miss (by unfold oMove;simp only [runOm_bind,run_look S0.out,run_less C1.out.1 C1.out.2,run_look_no h]) h2⟩
      · first | exact kv hf H rfl ⟨rfl,h1⟩ | exact ⟨_,rfl,kv hf H rfl ⟨rfl,h1⟩⟩
    case o1_5=>unfold thing at f;clear hL hC hk hw;refine spD rfl ?_;go_simp;first | exact sv rfl ⟨rfl,trivial⟩ | exact ⟨_,rfl,sv rfl ⟨rfl,trivial⟩⟩
    case o1_6=>clear hL hC hk hw;refine spD rfl ?_;go_simp;first | exact sv rfl ⟨rfl,trivial⟩ | exact ⟨_,rfl,sv rfl ⟨rfl,trivial⟩⟩
    case o1_12=>
      have CL:=Lib.hid (more_C (vA_ok HOK.out f.1.2) HQ.out.n hC SS.out BEG.out);clear hL hC hk hw;refine spD rfl ?_;go_simp;(with_reducible refine CL.out.mono ?_)
      rintro e w8 (⟨h,rfl,h2⟩ | ⟨h1,rfl,h2⟩)
      · exact ⟨_,rfl,Did.err (by unfold oMove;simp only [runOm_bind,run_look S0.out,run_less C1.out.1 C1.out.2,run_look f.1.2,run_more_no h]) h2⟩
      · first | exact sq h2 rfl ⟨rfl,h1⟩ | exact ⟨_,rfl,sq h2 rfl ⟨rfl,h1⟩⟩
    all_goals (have c:=kn7 hC;clear hL hC hk hw;refine spD rfl ?_;go_simp;first | exact sv rfl ⟨rfl,trivial⟩ | exact ⟨_,rfl,sv rfl ⟨rfl,trivial⟩⟩)
  have S1:=Lib.hid hB.1
  have C2:Hid (Mr ce1.vA q.n):=Lib.hid (vsP_c (hall.get 12))
  simp only [allF,vsP,pw,true_and,and_true,Nat.reduceAdd] at hall
  simp only [TL,Act.put,qA,qC,qZ,hall]
  replace SS:=Lib.hid hB.st
  clear hall vals hB
  have y0:W2.cell? ⟨ga,0,none⟩=some (.int .u8 k):=SS.out.bx.2.2.1.out.cell 0
  have y1:W2.cell? ⟨ga,1,none⟩=some (.int .u32 a):=SS.out.bx.2.2.1.out.cell 1
  have y2:W2.cell? ⟨ga,2,none⟩=some (.int .u32 b):=SS.out.bx.2.2.1.out.cell 2
  have CALL:=Lib.hid (amount_S SS.out BEG.out (by have:=HL.out;(try simp only [List.length_append,List.length_cons,List.length_nil]);omega) k a b (ce0.vA - q.n) (show _=l++[amt k a b (ce0.vA - q.n)] by simp))
  go_wp2_with fail
  (with_reducible refine CALL.out.mono ?_)
  rintro e W3 ⟨rfl,hf,p3,hs⟩
  replace SS:=Lib.hid hs
  clear CALL hf hs y0 y1 y2
  have y0:W3.cell? ⟨gb,0,none⟩=some (.int .u8 k2):=SS.out.bx.2.1.out.cell 0
  have y1:W3.cell? ⟨gb,1,none⟩=some (.int .u32 a2):=SS.out.bx.2.1.out.cell 1
  have y2:W3.cell? ⟨gb,2,none⟩=some (.int .u32 b2):=SS.out.bx.2.1.out.cell 2
  have CALL:=Lib.hid (amount_S SS.out BEG.out (by have:=HL.out;(try simp only [List.length_append,List.length_cons,List.length_nil]);omega) k2 a2 b2 (ce1.vA + q.n) (show _=l++[amt k a b (ce0.vA - q.n),amt k2 a2 b2 (ce1.vA + q.n)] by simp))
  go_wp2_with fail
  (with_reducible refine CALL.out.mono ?_)
  rintro e W4 ⟨rfl,hf,p4,hs⟩
  replace SS:=Lib.hid hs
  clear CALL hf hs y0 y1 y2
  obtain ⟨⟨z0,z1,z2,z3⟩,x0,x1,x2,x3⟩:=four_cells SS.out.bx.1.out
  go_wp2
  generalize hW:(World.setCell _ (⟨gre,3,none⟩:Addr) _)=WZ
  have b9:Box WZ gre #[.int .u16 0,.int .u64 (ce0.vA - q.n),.int .u64 0,.int .u64 0] 35:=by
    rw [← hW]
    exact four_box SS.out.bx.1.out
  have F9:Hid (Fr (fun x=>x=gre) W4 WZ):=Lib.hid (by
    rw [← hW]
    exact four_fr)
  obtain ⟨⟨v0,v1,v2,v3⟩,-⟩:=four_cells b9
  clear hW b9 z0 z1 z2 z3 x0 x1 x2 x3
  refine bodyPost_ret (v:=.agg #[.int .u16 0,.int .u64 (ce0.vA - q.n),.int .u64 0,.int .u64 0]) (by simp [results,Tryz.results87,go_sem,v0,v1,v2,v3];try rfl) rfl ?_
  refine (SS.out.wr BEG.out 0 rfl F9.out).did (y:=(⟨ce0.vA - q.n,0,0⟩,l++[amt k a b (ce0.vA - q.n),amt k2 a2 b2 (ce1.vA + q.n)])) ?_ rfl
  unfold oMove
  simp only [runOm_bind,runOm_pure,run_look S0.out,run_less C1.out.1 C1.out.2,run_look S1.out,run_more C2.out,oAmount,run_put,oAmount,run_put,List.append_assoc,List.cons_append,List.nil_append]
  try rfl
end Go.Proofs.YtabckmadpdchnaaGreat.Rule
namespace Go.Proofs.YtabckmadpdchnaaGreat.Rule
open Go.ChangeShapes Go.WideShapes Go.ChangeAt Go.RowKit Go.IntWalk Go.Proofs.Mem Go.Proofs.Each
theorem the_run {α:Type} (seen:List Ce) (m:Om α) (d:α) (i:Nat) (l:List Pu):∃ y j,∀ y' j',runOm seen m i l=.ok y' j'→y'=y∧j'=j:=by
  cases e:runOm seen m i l with
  | miss k a b=>exact ⟨(d,[]),0,fun _ _ h=>by cases h⟩
  | err n=>exact ⟨(d,[]),0,fun _ _ h=>by cases h⟩
  | ok y j=>exact ⟨y,j,fun _ _ h=>by injection h with h1 h2;exact ⟨h1.symm,h2.symm⟩⟩
def SX (w:World) (g:Nat) (q:Ot) (v:Value) (base:Nat) (p:Value) (j:Nat) (l:List Pu) (R:Nat) (W:World):Prop:=∃ c0 c1 c2 c3 p',ST w g q v base p j p' l [.box R #[c0,c1,c2,c3] 35] W
section
variable {w w0 W W':World} {g base j j2 k s i R a:Nat} {q:Ot} {v p p':Value} {l l2:List Pu} {S S1:Nat→Prop} {F:Prop} {seen:List Ce} {L:Nat→Bool} {FinS:Value→World→Prop} {Fs:List (Value→Prop)} {vals:Nat→Value} {x:Value} {f:Value→Prop}
theorem SX.kn (h:SX w g q v base p j l R W):K7 W g q:=by obtain ⟨_,_,_,_,_,h⟩:=h;exact h.kn
theorem SX.later (h:SX w g q v base p j l R W) (hb:Below W.heap.size W W'):SX w g q v base p j l R W':=by
  obtain ⟨c0,c1,c2,c3,p',h⟩:=h
  exact ⟨c0,c1,c2,c3,p',h.later hb⟩
theorem SX.put (h:SX w g q v base p j l R W) (hb:Begin w g q v base p seen) (hf:Fr (fun x=>x=R) W W') (d0 d1 d2 d3:Value) (hx:Box W' R #[d0,d1,d2,d3] 35):SX w g q v base p j l R W':=by
  obtain ⟨c0,c1,c2,c3,p',h⟩:=h
  exact ⟨d0,d1,d2,d3,p',h.upd (n:=0) (y:=.box R #[c0,c1,c2,c3] 35) (x:=.box R #[d0,d1,d2,d3] 35) hb rfl hf (Lib.hid hx) (h.ok (.box R #[c0,c1,c2,c3] 35) (by simp)) rfl⟩
theorem knX (h:Cw w0 k S S1 (SX w g q v base p j l R) (fun W=>F∧SX w g q v base p j2 l2 R W) L W):W.cell? ⟨g,0,none⟩=some (.int .u8 q.kd)∧W.cell? ⟨g,1,none⟩=some (.int .u32 q.wh)∧W.cell? ⟨g,2,none⟩=some (.int .u32 q.wm)∧W.cell? ⟨g,3,none⟩=some (.int .u32 q.wt)∧W.cell? ⟨g,4,none⟩=some (.int .u32 q.id)∧W.cell? ⟨g,5,none⟩=some (.int .u64 q.n)∧W.cell? ⟨g,6,none⟩=some (.int .u64 q.pr):=by
  have c:K7 W g q:=by
    rcases h.or with h | h
    · exact h.kn
    · exact h.2.kn
  exact ⟨c.c0,c.c1,c.c2,c.c3,c.c4,c.c5,c.c6⟩
theorem sqX (hb:Below W.heap.size W W') (hE:(Fs.getD i fun _=>True)=f) (hf:f x) (hk:i≠k:=by decide) (hs:i≠s:=by decide) (ha:i≠a:=by decide) :
    Rw k s S S1 (SX w g q v base p j l R) (fun W=>F∧SX w g q v base p j2 l2 R W) (fun _ _=>True) i W W'∧Fw k a s (fun W=>F∧SX w g q v base p j2 l2 R W) (fun _ _=>True) FinS Fs i (upd vals i x) W':=
  ⟨Rw.below hk hs (fun h=>h.later hb) (fun h=>⟨h.1,h.2.later hb⟩) hb,Fw.val hs ha hk hE hf⟩
theorem move_K (h:SX w g q v base p j l R W) (hb:Begin w g q v base p seen) (hl:l.length≤900) (hj:j≤900000) (k a b k2 a2 b2:Int) :
    Calls Tryz.prog 87 #[.pointer (some ⟨g,0,none⟩),.agg #[.int .u8 k,.int .u32 a,.int .u32 b],.agg #[.int .u8 k2,.int .u32 a2,.int .u32 b2]] W fun e W'=>
      (∃ k' a' b',runOm seen (oMove q k a b k2 a2 b2) j l=.miss k' a' b'∧e=.panicked (raiseK k' a' b')∧Below g w W')∨(∃ n,runOm seen (oMove q k a b k2 a2 b2) j l=.err n∧e=.panicked (raise_ n)∧Below g w W') ∨
      ∃ y n,runOm seen (oMove q k a b k2 a2 b2) j l=.ok y n∧e=.returned (.agg #[.int .u16 0,.int .u64 y.1.A,.int .u64 y.1.B,.int .u64 y.1.C])∧Fr (fun x=>x≠R) W W'∧SX w g q v base p n y.2 R W':=by
  obtain ⟨c0,c1,c2,c3,p',h⟩:=h
  refine (move_any W g q v base j p' l seen h.run.out.st (h.run.out.cells_ hb) hb.hg (Nat.le_trans hb.hbase h.run.out.size) hl hj hb.hq hb.hok k a b k2 a2 b2).mono fun e w' hd=>?_
  rcases h.run.out.part hb hd with h1 | h1 | ⟨y,n,p2,h1,rfl,hr,hf⟩
  · exact .inl h1
  · exact .inr (.inl h1)
  · refine .inr (.inr ⟨y,n,h1,rfl,hf.mono fun x _ e e2=>?_,c0,c1,c2,c3,p2,h.keep hr hf h.put_far⟩)
    subst e2
    exact h.put_far (.box x #[c0,c1,c2,c3] 35) (by simp) e
theorem smX {v0 v1 v2 v3 c0 c1 c2 c3:Value} (hb:Begin w g q v base p seen) (hx:Box W R #[c0,c1,c2,c3] 35) (hk:s≠k:=by decide) (hs:a≠s:=by decide) :
    Rw k s S (fun x=>x=R) (SX w g q v base p j l R) (fun W=>F∧SX w g q v base p j2 l2 R W) (fun _ _=>True) s W (four W R v0 v1 v2 v3) ∧
    ∃ x,Fw k a s (fun W=>F∧SX w g q v base p j2 l2 R W) (fun _ _=>True) (fun _ W=>Box W R #[v0,v1,v2,v3] 35) Fs s (upd vals s x) (four W R v0 v1 v2 v3):=
  ⟨Rw.store hk four_fr (fun h=>h.put hb four_fr _ _ _ _ (four_box hx)) (fun h=>⟨h.1,h.2.put hb four_fr _ _ _ _ (four_box hx)⟩) (fun _ _=>trivial),undef,Fw.laid hs (four_box hx)⟩
end
theorem wp_SM {P:Program} {ops:List Oper} {a0:Act} {id:Nat} {Q:Exit→Act→World→Prop} {w0:World} {w:World} {g base j R:Nat} {q:Ot} {v p:Value} {l:List Pu} {D:Exit→World→Prop} (k n s:Nat) (F:Prop) (j2:Nat) (l2:List Pu) (cs:Array Value) (vs:Vs) (h0:SX w g q v base p j l R w0)
    (hob:∀ vals:Nat→Value,ObD D P ops.toArray (Cw w0 k (fun x=>x≠R) (fun x=>x=R) (SX w g q v base p j l R) (fun W=>F∧SX w g q v base p j2 l2 R W)) (Rw k s (fun x=>x≠R) (fun x=>x=R) (SX w g q v base p j l R) (fun W=>F∧SX w g q v base p j2 l2 R W) (fun _ _=>True)) (Fw k n s (fun W=>F∧SX w g q v base p j2 l2 R W) (fun _ _=>True) (fun _ W=>Box W R cs 35) (vs.map vsP)) vals 0 ops a0)
    (hend:∀ (vals:Nat→Value) W,F∧SX w g q v base p j2 l2 R W→Box W R cs 35→allF vals 0 vs→Q .normal (TL vals 0 ops a0) W)
    (hQ:∀ e (a:Act) w,a.defers=a0.defers→D e w→Q e a w:=by rintro _ _ _ hd ⟨c,rfl,h⟩;exact ⟨hd,h⟩) (hm:P.follows .mixedOrders=true:=by kernel_rfl) (hB:fitB ops.toArray=true:=by kernel_rfl) (hka:k≠n:=by decide) (hks:k≠s:=by decide) (hk:k < ops.length:=by decide) (hsl:s < ops.length:=by decide) (hl:vs.length=ops.length:=by rfl) (ha:vs.getD n none=none:=by rfl) (hs:vs.getD s none=none:=by rfl):(Code.region id ops.toArray true).wp P Q a0 w0:=
  wp_region_work hQ hm hB k n s hka hks (fun x=>x≠R) (fun x=>x=R) (SX w g q v base p j l R) (fun W=>F∧SX w g q v base p j2 l2 R W) (fun _ _=>True) (fun _ W=>Box W R cs 35) (vs.map vsP) (fun _ _ _ _ _=>trivial) (fun _ _ _ hf h=>h.fr hf (fun e=>e rfl)) (.inl fun _ _ _ h=>h) hk (h0.later (Below.refl _ _).drew) hob
    (fun vals W _ h1 h3 h2=>hend vals W h1 (h3 hsl) (all_of (fun i hi=>h2 i (by omega)) ha hs))
theorem pay_any (w:World) (g:Nat) (q:Ot) (v:Value) (base i:Nat) (p:Value) (l:List Pu) (seen:List Ce) (hst:St w g q v base i p l) (hs:SeenAt w g v seen) (hg:g < base) (hbase:base≤w.heap.size) (hl:l.length≤800) (hi:i≤800000) (hq:q.Ok) (hok:∀ c∈seen,c.Ok) :
    Calls Tryz.prog 66 #[.pointer (some ⟨g,0,none⟩)] w (Did w g q v base i p l seen (oPay q) Rp.enc):=by
  have BEG:=Lib.hid (Begin.mk hs hg hbase hq hok (fun x hx=>hst.own.lt x hx))
  obtain ⟨W0,hW0⟩:∃ W0,w.alloc (.cells #[.int .u16 0,.int .u64 0,.int .u64 0,.int .u64 0] 35)=W0:=⟨_,rfl⟩
  have SS:Hid (ST w g q v base p i p l [.box w.heap.size #[.int .u16 0,.int .u64 0,.int .u64 0,.int .u64 0] 35] W0):=Lib.hid (by rw [← hW0];exact ST.start hst BEG.out _ _)
  have HI:=Lib.hid hi
  have HQ:=Lib.hid hq
  have HOK:=Lib.hid hok
  have HL:=Lib.hid hl
  obtain ⟨ce0,hce0⟩:=the_cell seen (i)
  have CE0:=Lib.hid hce0
  clear hst hs hg hbase hl hi hq hok hce0
  go_enter Tryz.func66,Tryz.ntmps66
  go_upto_region 1 with fail
  try rw [hW0]
  clear hW0
  refine wp_SA (D:=DP w g q v base i p l seen (oPay q) Rp.enc) 9 10 11 (seen[i]?=some ce0∧ce0.is=true) False (i + 1) l [pw g 0,pw g 0,pw g 7,pw g 0,pw g 0,pw g 0,pw g 2,some (.int .u32 q.wm,True),some (.agg #[.int .u8 1,.int .u32 q.wm,.int .u32 0],True),some (.agg (thing ce0.A ce0.B 1 q.wm 0 true),True)] SS.out (fun vals=>?_) (fun vals W1 hB hall=>?_)
  · simp only [ObD,Act.put,qA,qC,qZ]
    refine ⟨?_,?_,?_,?_,?_,?_,?_,?_,?o0_8,?o0_9,trivial⟩
    all_goals (intro L W hL hk hC hw;have f:=deps hw rfl rfl;simp only [depF,vsP,pw,qS,qD,and_true,true_and] at f)
    case o0_8=>have CL:=Lib.hid (purse_any q.wm W);clear hL hC hk hw;refine spD rfl ?_;go_simp;(with_reducible refine CL.out.mono ?_);rintro e w8 ⟨rfl,h2⟩;first | exact sq h2 rfl ⟨rfl,trivial⟩ | exact ⟨_,rfl,sq h2 rfl ⟨rfl,trivial⟩⟩
    case o0_9=>
      have CL:=Lib.hid (there_K SS.out (hC.pre hk) BEG.out (by have:=HI.out;omega) CE0.out 1 q.wm 0);clear hL hC hk hw;refine spD rfl ?_;go_simp;(with_reducible refine CL.out.mono ?_);rintro e w8 (⟨h,rfl,h2⟩ | ⟨h,h3,rfl,h2⟩ | ⟨rfl,hf,H⟩)
      · exact ⟨_,rfl,Did.miss (by unfold oPay;simp only [runOm_bind,run_there_no h]) h2⟩
      · exact ⟨_,rfl,Did.err (by unfold oPay;simp only [runOm_bind,run_there_not h h3]) h2⟩
      · first | exact kv hf H rfl ⟨rfl,trivial⟩ | exact ⟨_,rfl,kv hf H rfl ⟨rfl,trivial⟩⟩
    all_goals (have c:=kn7 hC;clear hL hC hk hw;refine spD rfl ?_;go_simp;first | exact sv rfl ⟨rfl,trivial⟩ | exact ⟨_,rfl,sv rfl ⟨rfl,trivial⟩⟩)
  have S0:=Lib.hid hB.1
  simp only [allF,vsP,pw,true_and,and_true,Nat.reduceAdd] at hall
  simp only [TL,Act.put,qA,qC,qZ,hall]
  replace SS:=Lib.hid hB.st
  clear hall vals hB
  go_upto_region 2 with fail
  obtain ⟨y,jy,hyj⟩:=the_run seen (oMove q 2 q.wh 0 2 q.wm 0) ⟨0,0,0⟩ (i + 1) l
  have YJ:=Lib.hid hyj
  clear hyj
  refine wp_SM (R:=w.heap.size) (D:=DP w g q v base i p l seen (oPay q) Rp.enc) 13 15 14 (runOm seen (oMove q 2 q.wh 0 2 q.wm 0) (i + 1) l=.ok y jy) jy y.2 #[.int .u16 0,.int .u64 y.1.A,.int .u64 y.1.B,.int .u64 y.1.C] [pw g 0,pw g 0,pw g 0,pw g 0,pw g 1,some (.int .u32 q.wh,True),some (.agg #[.int .u8 2,.int .u32 q.wh,.int .u32 0],True),pw g 0,pw g 0,pw g 0,pw g 2,some (.int .u32 q.wm,True),some (.agg #[.int .u8 2,.int .u32 q.wm,.int .u32 0],True),some (.agg #[.int .u16 0,.int .u64 y.1.A,.int .u64 y.1.B,.int .u64 y.1.C],True),none] ⟨_,_,_,_,_,SS.out⟩ (fun vals=>?_) (fun vals W2 hB bx hall=>?_)
  · simp only [ObD,Act.put,qA,qC,qZ]
    refine ⟨?_,?_,?_,?_,?_,?_,?o1_6,?_,?_,?_,?_,?_,?o1_12,?o1_13,?o1_14,trivial⟩
    all_goals (intro L W hL hk hC hw;have f:=deps hw rfl rfl;simp only [depF,vsP,pw,qS,qD,and_true,true_and] at f)
    case o1_6=>have CL:=Lib.hid (bank_any q.wh W);clear hL hC hk hw;refine spD rfl ?_;go_simp;(with_reducible refine CL.out.mono ?_);rintro e w8 ⟨rfl,h2⟩;first | exact sqX h2 rfl ⟨rfl,trivial⟩ | exact ⟨_,rfl,sqX h2 rfl ⟨rfl,trivial⟩⟩
    case o1_12=>have CL:=Lib.hid (bank_any q.wm W);clear hL hC hk hw;refine spD rfl ?_;go_simp;(with_reducible refine CL.out.mono ?_);rintro e w8 ⟨rfl,h2⟩;first | exact sqX h2 rfl ⟨rfl,trivial⟩ | exact ⟨_,rfl,sqX h2 rfl ⟨rfl,trivial⟩⟩
    case o1_13=>
      have CL:=Lib.hid (move_K (hC.pre hk) BEG.out (by have:=HL.out;omega) (by have:=HI.out;omega) 2 q.wh 0 2 q.wm 0);clear hL hC hk hw;refine spD rfl ?_;go_simp;(with_reducible refine CL.out.mono ?_);rintro e w8 (⟨k,a,b,h1,rfl,h2⟩ | ⟨m,h1,rfl,h2⟩ | ⟨y2,j2,h1,rfl,hf,H⟩)
      · exact ⟨_,rfl,Did.miss (by unfold oPay;simp only [runOm_bind,run_there S0.out.1 S0.out.2,h1]) h2⟩
      · exact ⟨_,rfl,Did.err (by unfold oPay;simp only [runOm_bind,run_there S0.out.1 S0.out.2,h1]) h2⟩
      · obtain ⟨rfl,rfl⟩:=YJ.out _ _ h1
        first | exact kv hf ⟨h1,H⟩ rfl ⟨rfl,trivial⟩ | exact ⟨_,rfl,kv hf ⟨h1,H⟩ rfl ⟨rfl,trivial⟩⟩
    case o1_14=>have hB:=Fw.getk (hw ⟨13,.data⟩ (by simp) rfl) (by decide) (by decide);obtain ⟨-,c0,c1,c2,c3,p9,h9⟩:=hB;obtain ⟨q0,q1⟩:=four_cells h9.bx.1.out;have BXX:=Lib.hid h9.bx.1.out;clear h9;clear hL hC hk hw;refine spD rfl ?_;go_simp;exact smX BEG.out BXX.out
    all_goals (have c:=knX hC;clear hL hC hk hw;refine spD rfl ?_;go_simp;first | exact sv rfl ⟨rfl,trivial⟩ | exact ⟨_,rfl,sv rfl ⟨rfl,trivial⟩⟩)
  simp only [allF,vsP,pw,true_and,and_true,Nat.reduceAdd] at hall
  simp only [TL,Act.put,qA,qC,qZ,hall]
  obtain ⟨h1,c0,c1,c2,c3,p9,h9⟩:=hB
  have RR:=Lib.hid (show runOm seen (oPay q) i l=.ok y jy by unfold oPay;simp only [runOm_bind,run_there S0.out.1 S0.out.2,h1])
  obtain ⟨⟨v0,v1,v2,v3⟩,-⟩:=four_cells bx
  replace SS:=Lib.hid h9
  clear h9 h1 bx hall
  go_wp2
  refine bodyPost_ret (v:=.agg #[.int .u16 0,.int .u64 y.1.A,.int .u64 y.1.B,.int .u64 y.1.C]) (by simp [results,Tryz.results66,go_sem,v0,v1,v2,v3];try rfl) rfl ?_
  exact SS.out.run.out.did (y:=y) RR.out rfl
theorem give_any (w:World) (g:Nat) (q:Ot) (v:Value) (base i:Nat) (p:Value) (l:List Pu) (seen:List Ce) (hst:St w g q v base i p l) (hs:SeenAt w g v seen) (hg:g < base) (hbase:base≤w.heap.size) (hl:l.length≤800) (hi:i≤800000) (hq:q.Ok) (hok:∀ c∈seen,c.Ok) :
    Calls Tryz.prog 67 #[.pointer (some ⟨g,0,none⟩)] w (Did w g q v base i p l seen (oGive q) Rp.enc):=by
  have BEG:=Lib.hid (Begin.mk hs hg hbase hq hok (fun x hx=>hst.own.lt x hx))
  obtain ⟨W0,hW0⟩:∃ W0,w.alloc (.cells #[.int .u16 0,.int .u64 0,.int .u64 0,.int .u64 0] 35)=W0:=⟨_,rfl⟩
  have SS:Hid (ST w g q v base p i p l [.box w.heap.size #[.int .u16 0,.int .u64 0,.int .u64 0,.int .u64 0] 35] W0):=Lib.hid (by rw [← hW0];exact ST.start hst BEG.out _ _)
  have HI:=Lib.hid hi
  have HQ:=Lib.hid hq
  have HOK:=Lib.hid hok
  have HL:=Lib.hid hl
  obtain ⟨ce0,hce0⟩:=the_cell seen (i)
  have CE0:=Lib.hid hce0
  obtain ⟨ce1,hce1⟩:=the_cell seen (i + 1)
  have CE1:=Lib.hid hce1
  clear hst hs hg hbase hl hi hq hok hce0 hce1
  go_enter Tryz.func67,Tryz.ntmps67
  go_upto_region 1 with fail
  try rw [hW0]
  clear hW0
  refine wp_SA (D:=DP w g q v base i p l seen (oGive q) Rp.enc) 9 10 11 (seen[i]?=some ce0∧ce0.is=true) False (i + 1) l [pw g 0,pw g 0,pw g 7,pw g 0,pw g 0,pw g 0,pw g 1,some (.int .u32 q.wh,True),some (.agg #[.int .u8 1,.int .u32 q.wh,.int .u32 0],True),some (.agg (thing ce0.A ce0.B 1 q.wh 0 true),True)] SS.out (fun vals=>?_) (fun vals W1 hB hall=>?_)
  · simp only [ObD,Act.put,qA,qC,qZ]
    refine ⟨?_,?_,?_,?_,?_,?_,?_,?_,?o0_8,?o0_9,trivial⟩
    all_goals (intro L W hL hk hC hw;have f:=deps hw rfl rfl;simp only [depF,vsP,pw,qS,qD,and_true,true_and] at f)
    case o0_8=>have CL:=Lib.hid (purse_any q.wh W);clear hL hC hk hw;refine spD rfl ?_;go_simp;(with_reducible refine CL.out.mono ?_);rintro e w8 ⟨rfl,h2⟩;first | exact sq h2 rfl ⟨rfl,trivial⟩ | exact ⟨_,rfl,sq h2 rfl ⟨rfl,trivial⟩⟩
    case o0_9=>
      have CL:=Lib.hid (there_K SS.out (hC.pre hk) BEG.out (by have:=HI.out;omega) CE0.out 1 q.wh 0);clear hL hC hk hw;refine spD rfl ?_;go_simp;(with_reducible refine CL.out.mono ?_);rintro e w8 (⟨h,rfl,h2⟩ | ⟨h,h3,rfl,h2⟩ | ⟨rfl,hf,H⟩)
      · exact ⟨_,rfl,Did.miss (by unfold oGive;simp only [runOm_bind,run_there_no h]) h2⟩
      · exact ⟨_,rfl,Did.err (by unfold oGive;simp only [runOm_bind,run_there_not h h3]) h2⟩
      · first | exact kv hf H rfl ⟨rfl,trivial⟩ | exact ⟨_,rfl,kv hf H rfl ⟨rfl,trivial⟩⟩
    all_goals (have c:=kn7 hC;clear hL hC hk hw;refine spD rfl ?_;go_simp;first | exact sv rfl ⟨rfl,trivial⟩ | exact ⟨_,rfl,sv rfl ⟨rfl,trivial⟩⟩)
  have S0:=Lib.hid hB.1
  simp only [allF,vsP,pw,true_and,and_true,Nat.reduceAdd] at hall
  simp only [TL,Act.put,qA,qC,qZ,hall]
  replace SS:=Lib.hid hB.st
  clear hall vals hB
  go_upto_region 2 with fail
  refine wp_SA (D:=DP w g q v base i p l seen (oGive q) Rp.enc) 9 10 11 (seen[i + 1]?=some ce1∧ce1.is=true) False (i + 1 + 1) l [pw g 0,pw g 0,pw g 7,pw g 0,pw g 0,pw g 0,pw g 2,some (.int .u32 q.wm,True),some (.agg #[.int .u8 1,.int .u32 q.wm,.int .u32 0],True),some (.agg (thing ce1.A ce1.B 1 q.wm 0 true),True)] SS.out (fun vals=>?_) (fun vals W2 hB hall=>?_)
  · simp only [ObD,Act.put,qA,qC,qZ]
    refine ⟨?_,?_,?_,?_,?_,?_,?_,?_,?o1_8,?o1_9,trivial⟩
    all_goals (intro L W hL hk hC hw;have f:=deps hw rfl rfl;simp only [depF,vsP,pw,qS,qD,and_true,true_and] at f)
    case o1_8=>have CL:=Lib.hid (purse_any q.wm W);clear hL hC hk hw;refine spD rfl ?_;go_simp;(with_reducible refine CL.out.mono ?_);rintro e w8 ⟨rfl,h2⟩;first | exact sq h2 rfl ⟨rfl,trivial⟩ | exact ⟨_,rfl,sq h2 rfl ⟨rfl,trivial⟩⟩
    case o1_9=>
      have CL:=Lib.hid (there_K SS.out (hC.pre hk) BEG.out (by have:=HI.out;omega) CE1.out 1 q.wm 0);clear hL hC hk hw;refine spD rfl ?_;go_simp;(with_reducible refine CL.out.mono ?_);rintro e w8 (⟨h,rfl,h2⟩ | ⟨h,h3,rfl,h2⟩ | ⟨rfl,hf,H⟩)
      · exact ⟨_,rfl,Did.miss (by unfold oGive;simp only [runOm_bind,run_there S0.out.1 S0.out.2,run_there_no h]) h2⟩
      · exact ⟨_,rfl,Did.err (by unfold oGive;simp only [runOm_bind,run_there S0.out.1 S0.out.2,run_there_not h h3]) h2⟩
      · first | exact kv hf H rfl ⟨rfl,trivial⟩ | exact ⟨_,rfl,kv hf H rfl ⟨rfl,trivial⟩⟩
    all_goals (have c:=kn7 hC;clear hL hC hk hw;refine spD rfl ?_;go_simp;first | exact sv rfl ⟨rfl,trivial⟩ | exact ⟨_,rfl,sv rfl ⟨rfl,trivial⟩⟩)
  have S1:=Lib.hid hB.1
  simp only [allF,vsP,pw,true_and,and_true,Nat.reduceAdd] at hall
  simp only [TL,Act.put,qA,qC,qZ,hall]
  replace SS:=Lib.hid hB.st
  clear hall vals hB
  go_upto_region 3 with fail
  obtain ⟨y,jy,hyj⟩:=the_run seen (oMove q 3 q.wh q.wt 3 q.wm q.wt) ⟨0,0,0⟩ (i + 1 + 1) l
  have YJ:=Lib.hid hyj
  clear hyj
  refine wp_SM (R:=w.heap.size) (D:=DP w g q v base i p l seen (oGive q) Rp.enc) 23 25 24 (runOm seen (oMove q 3 q.wh q.wt 3 q.wm q.wt) (i + 1 + 1) l=.ok y jy) jy y.2 #[.int .u16 0,.int .u64 y.1.A,.int .u64 y.1.B,.int .u64 y.1.C] [pw g 0,pw g 0,pw g 0,pw g 0,pw g 1,some (.int .u32 q.wh,True),pw g 0,pw g 0,pw g 0,pw g 3,some (.int .u32 q.wt,True),some (.agg #[.int .u8 3,.int .u32 q.wh,.int .u32 q.wt],True),pw g 0,pw g 0,pw g 0,pw g 2,some (.int .u32 q.wm,True),pw g 0,pw g 0,pw g 0,pw g 3,some (.int .u32 q.wt,True),some (.agg #[.int .u8 3,.int .u32 q.wm,.int .u32 q.wt],True),some (.agg #[.int .u16 0,.int .u64 y.1.A,.int .u64 y.1.B,.int .u64 y.1.C],True),none] ⟨_,_,_,_,_,SS.out⟩ (fun vals=>?_) (fun vals W3 hB bx hall=>?_)
  · simp only [ObD,Act.put,qA,qC,qZ]
    refine ⟨?_,?_,?_,?_,?_,?_,?_,?_,?_,?_,?_,?o2_11,?_,?_,?_,?_,?_,?_,?_,?_,?_,?_,?o2_22,?o2_23,?o2_24,trivial⟩
    all_goals (intro L W hL hk hC hw;have f:=deps hw rfl rfl;simp only [depF,vsP,pw,qS,qD,and_true,true_and] at f)
    case o2_11=>have CL:=Lib.hid (stack_any q.wh q.wt W);clear hL hC hk hw;refine spD rfl ?_;go_simp;(with_reducible refine CL.out.mono ?_);rintro e w8 ⟨rfl,h2⟩;first | exact sqX h2 rfl ⟨rfl,trivial⟩ | exact ⟨_,rfl,sqX h2 rfl ⟨rfl,trivial⟩⟩
    case o2_22=>have CL:=Lib.hid (stack_any q.wm q.wt W);clear hL hC hk hw;refine spD rfl ?_;go_simp;(with_reducible refine CL.out.mono ?_);rintro e w8 ⟨rfl,h2⟩;first | exact sqX h2 rfl ⟨rfl,trivial⟩ | exact ⟨_,rfl,sqX h2 rfl ⟨rfl,trivial⟩⟩
    case o2_23=>
      have CL:=Lib.hid (move_K (hC.pre hk) BEG.out (by have:=HL.out;omega) (by have:=HI.out;omega) 3 q.wh q.wt 3 q.wm q.wt);clear hL hC hk hw;refine spD rfl ?_;go_simp;(with_reducible refine CL.out.mono ?_);rintro e w8 (⟨k,a,b,h1,rfl,h2⟩ | ⟨m,h1,rfl,h2⟩ | ⟨y2,j2,h1,rfl,hf,H⟩)
      · exact ⟨_,rfl,Did.miss (by unfold oGive;simp only [runOm_bind,run_there S0.out.1 S0.out.2,run_there S1.out.1 S1.out.2,h1]) h2⟩
      · exact ⟨_,rfl,Did.err (by unfold oGive;simp only [runOm_bind,run_there S0.out.1 S0.out.2,run_there S1.out.1 S1.out.2,h1]) h2⟩
      · obtain ⟨rfl,rfl⟩:=YJ.out _ _ h1
        first | exact kv hf ⟨h1,H⟩ rfl ⟨rfl,trivial⟩ | exact ⟨_,rfl,kv hf ⟨h1,H⟩ rfl ⟨rfl,trivial⟩⟩
    case o2_24=>have hB:=Fw.getk (hw ⟨23,.data⟩ (by simp) rfl) (by decide) (by decide);obtain ⟨-,c0,c1,c2,c3,p9,h9⟩:=hB;obtain ⟨q0,q1⟩:=four_cells h9.bx.1.out;have BXX:=Lib.hid h9.bx.1.out;clear h9;clear hL hC hk hw;refine spD rfl ?_;go_simp;exact smX BEG.out BXX.out
    all_goals (have c:=knX hC;clear hL hC hk hw;refine spD rfl ?_;go_simp;first | exact sv rfl ⟨rfl,trivial⟩ | exact ⟨_,rfl,sv rfl ⟨rfl,trivial⟩⟩)
  simp only [allF,vsP,pw,true_and,and_true,Nat.reduceAdd] at hall
  simp only [TL,Act.put,qA,qC,qZ,hall]
  obtain ⟨h1,c0,c1,c2,c3,p9,h9⟩:=hB
  have RR:=Lib.hid (show runOm seen (oGive q) i l=.ok y jy by unfold oGive;simp only [runOm_bind,run_there S0.out.1 S0.out.2,run_there S1.out.1 S1.out.2,h1])
  obtain ⟨⟨v0,v1,v2,v3⟩,-⟩:=four_cells bx
  replace SS:=Lib.hid h9
  clear h9 h1 bx hall
  go_wp2
  refine bodyPost_ret (v:=.agg #[.int .u16 0,.int .u64 y.1.A,.int .u64 y.1.B,.int .u64 y.1.C]) (by simp [results,Tryz.results67,go_sem,v0,v1,v2,v3];try rfl) rfl ?_
  exact SS.out.run.out.did (y:=y) RR.out rfl
end Go.Proofs.YtabckmadpdchnaaGreat.Rule
namespace Go.Proofs.YtabckmadpdchnaaGreat.Rule
open Go.ChangeShapes Go.WideShapes Go.ChangeAt Go.RowKit Go.IntWalk Go.Proofs.Mem Go.Proofs.Each
theorem lookAt_any (w:World) (g:Nat) (q:Ot) (v:Value) (base i:Nat) (p:Value) (l:List Pu) (seen:List Ce) (hst:St w g q v base i p l) (hs:SeenAt w g v seen) (hg:g < base) (hbase:base≤w.heap.size) (hl:l.length≤800) (hi:i≤800000) (hq:q.Ok) (hok:∀ c∈seen,c.Ok) :
    Calls Tryz.prog 76 #[.pointer (some ⟨g,0,none⟩)] w (Did w g q v base i p l seen (oLookAt q) Rp.enc):=by
  have BEG:=Lib.hid (Begin.mk hs hg hbase hq hok (fun x hx=>hst.own.lt x hx))
  obtain ⟨W0,hW0⟩:∃ W0,w.alloc (.cells #[.int .u16 0,.int .u64 0,.int .u64 0,.int .u64 0] 35)=W0:=⟨_,rfl⟩
  have SS:Hid (ST w g q v base p i p l [.box w.heap.size #[.int .u16 0,.int .u64 0,.int .u64 0,.int .u64 0] 35] W0):=Lib.hid (by rw [← hW0];exact ST.start hst BEG.out _ _)
  have HI:=Lib.hid hi
  have HQ:=Lib.hid hq
  have HOK:=Lib.hid hok
  have HL:=Lib.hid hl
  obtain ⟨ce0,hce0⟩:=the_cell seen (i)
  have CE0:=Lib.hid hce0
  obtain ⟨ce1,hce1⟩:=the_cell seen (i + 1)
  have CE1:=Lib.hid hce1
  obtain ⟨ce2,hce2⟩:=the_cell seen (i + 1 + 1)
  have CE2:=Lib.hid hce2
  clear hst hs hg hbase hl hi hq hok hce0 hce1 hce2
  go_enter Tryz.func76,Tryz.ntmps76
  go_upto_region 1 with fail
  try rw [hW0]
  clear hW0
  refine wp_SK (D:=DP w g q v base i p l seen (oLookAt q) Rp.enc) 9 10 11 (seen[i]?=some ce0∧ce0.is=true) (i + 1) #[.int .u64 ce0.A,.int .u64 ce0.B,.int .u8 1,.int .u32 q.wh,.int .u32 0,.bool true] [pw g 0,pw g 0,pw g 7,pw g 0,pw g 0,pw g 0,pw g 1,some (.int .u32 q.wh,True),some (.agg #[.int .u8 1,.int .u32 q.wh,.int .u32 0],True),some (.agg (thing ce0.A ce0.B 1 q.wh 0 true),True),none,none] SS.out (fun vals=>?_) (fun vals W1 hB hfin hall=>?_) (ea 10 rfl)
  · simp only [ObD,Act.put,qA,qC,qZ]
    refine ⟨?_,?_,?_,?_,?_,?_,?_,?_,?o0_8,?o0_9,?o0_10,?o0_11,trivial⟩
    all_goals (intro L W hL hk hC hw;have f:=deps hw rfl rfl;simp only [depF,vsP,pw,qS,qD,and_true,true_and] at f)
    case o0_8=>have CL:=Lib.hid (purse_any q.wh W);clear hL hC hk hw;refine spD rfl ?_;go_simp;(with_reducible refine CL.out.mono ?_);rintro e w8 ⟨rfl,h2⟩;first | exact sq h2 rfl ⟨rfl,trivial⟩ | exact ⟨_,rfl,sq h2 rfl ⟨rfl,trivial⟩⟩
    case o0_9=>
      have CL:=Lib.hid (there_K SS.out (hC.pre hk) BEG.out (by have:=HI.out;omega) CE0.out 1 q.wh 0);clear hL hC hk hw;refine spD rfl ?_;go_simp;(with_reducible refine CL.out.mono ?_);rintro e w8 (⟨h,rfl,h2⟩ | ⟨h,h3,rfl,h2⟩ | ⟨rfl,hf,H⟩)
      · exact ⟨_,rfl,Did.miss (by unfold oLookAt;simp only [runOm_bind,run_there_no h]) h2⟩
      · exact ⟨_,rfl,Did.err (by unfold oLookAt;simp only [runOm_bind,run_there_not h h3]) h2⟩
      · first | exact kv hf H rfl ⟨rfl,trivial⟩ | exact ⟨_,rfl,kv hf H rfl ⟨rfl,trivial⟩⟩
    case o0_10=>have ZZ:=hC.fr.size;clear hL hC hk hw;refine spD rfl ?_;go_simp;exact am ZZ
    case o0_11=>obtain ⟨gt,C,fa,hgt,bx0,hc⟩:=Fw.geta (hw ⟨10,.data⟩ (by simp) rfl) (by decide);obtain ⟨c0,c1,c2,c3,c4,c5,rfl⟩:=arr6 hc;have q:=six_cells bx0;have BXX:=Lib.hid bx0;have FA:=Lib.hid fa;clear bx0 hc;unfold thing at f;clear hL hC hk hw;refine spD rfl ?_;go_simp;exact sm SS.out BEG.out BXX.out hgt FA.out
    all_goals (have c:=kn7 hC;clear hL hC hk hw;refine spD rfl ?_;go_simp;first | exact sv rfl ⟨rfl,trivial⟩ | exact ⟨_,rfl,sv rfl ⟨rfl,trivial⟩⟩)
  have S0:=Lib.hid hB.1
  simp only [allF,vsP,pw,true_and,and_true,Nat.reduceAdd] at hall
  obtain ⟨gt0,fa,hgt,bx⟩:=hfin
  simp only [TL,Act.put,qA,qC,qZ,hall,fa]
  replace SS:=Lib.hid (SS.out.push BEG.out hB.st SS.out.lt hgt bx)
  clear hall vals hB fa hgt bx
  go_upto_region 2 with fail
  refine wp_SK (D:=DP w g q v base i p l seen (oLookAt q) Rp.enc) 9 10 11 (seen[i + 1]?=some ce1) (i + 1 + 1) #[.int .u64 ce1.vA,.int .u64 ce1.vB,.int .u8 2,.int .u32 q.wh,.int .u32 0,.bool ce1.is] [pw g 0,pw g 0,pw g 7,pw g 0,pw g 0,pw g 0,pw g 1,some (.int .u32 q.wh,True),some (.agg #[.int .u8 2,.int .u32 q.wh,.int .u32 0],True),some (.agg (thing ce1.vA ce1.vB 2 q.wh 0 ce1.is),True),none,none] SS.out (fun vals=>?_) (fun vals W2 hB hfin hall=>?_) (ea 10 rfl)
  · simp only [ObD,Act.put,qA,qC,qZ]
    refine ⟨?_,?_,?_,?_,?_,?_,?_,?_,?o1_8,?o1_9,?o1_10,?o1_11,trivial⟩
    all_goals (intro L W hL hk hC hw;have f:=deps hw rfl rfl;simp only [depF,vsP,pw,qS,qD,and_true,true_and] at f)
    case o1_8=>have CL:=Lib.hid (bank_any q.wh W);clear hL hC hk hw;refine spD rfl ?_;go_simp;(with_reducible refine CL.out.mono ?_);rintro e w8 ⟨rfl,h2⟩;first | exact sq h2 rfl ⟨rfl,trivial⟩ | exact ⟨_,rfl,sq h2 rfl ⟨rfl,trivial⟩⟩
    case o1_9=>
      have CL:=Lib.hid (look_K SS.out (hC.pre hk) BEG.out (by have:=HI.out;omega) CE1.out 2 q.wh 0);clear hL hC hk hw;refine spD rfl ?_;go_simp;(with_reducible refine CL.out.mono ?_);rintro e w8 (⟨h,rfl,h2⟩ | ⟨h1,rfl,hf,H⟩)
      · exact ⟨_,rfl,Did.miss (by unfold oLookAt;simp only [runOm_bind,run_there S0.out.1 S0.out.2,run_look_no h]) h2⟩
      · first | exact kv hf H rfl ⟨rfl,trivial⟩ | exact ⟨_,rfl,kv hf H rfl ⟨rfl,trivial⟩⟩
    case o1_10=>have ZZ:=hC.fr.size;clear hL hC hk hw;refine spD rfl ?_;go_simp;exact am ZZ
    case o1_11=>obtain ⟨gt,C,fa,hgt,bx0,hc⟩:=Fw.geta (hw ⟨10,.data⟩ (by simp) rfl) (by decide);obtain ⟨c0,c1,c2,c3,c4,c5,rfl⟩:=arr6 hc;have q:=six_cells bx0;have BXX:=Lib.hid bx0;have FA:=Lib.hid fa;clear bx0 hc;unfold thing at f;clear hL hC hk hw;refine spD rfl ?_;go_simp;exact sm SS.out BEG.out BXX.out hgt FA.out
    all_goals (have c:=kn7 hC;clear hL hC hk hw;refine spD rfl ?_;go_simp;first | exact sv rfl ⟨rfl,trivial⟩ | exact ⟨_,rfl,sv rfl ⟨rfl,trivial⟩⟩)
  have S1:=Lib.hid hB.1
  simp only [allF,vsP,pw,true_and,and_true,Nat.reduceAdd] at hall
  obtain ⟨gt1,fa,hgt,bx⟩:=hfin
  simp only [TL,Act.put,qA,qC,qZ,hall,fa]
  replace SS:=Lib.hid (SS.out.push BEG.out hB.st SS.out.lt hgt bx)
  clear hall vals hB fa hgt bx
  go_upto_region 3 with fail
  refine wp_SK (D:=DP w g q v base i p l seen (oLookAt q) Rp.enc) 14 15 16 (seen[i + 1 + 1]?=some ce2) (i + 1 + 1 + 1) #[.int .u64 ce2.vA,.int .u64 ce2.vB,.int .u8 3,.int .u32 q.wh,.int .u32 q.wt,.bool ce2.is] [pw g 0,pw g 0,pw g 7,pw g 0,pw g 0,pw g 0,pw g 1,some (.int .u32 q.wh,True),pw g 0,pw g 0,pw g 0,pw g 3,some (.int .u32 q.wt,True),some (.agg #[.int .u8 3,.int .u32 q.wh,.int .u32 q.wt],True),some (.agg (thing ce2.vA ce2.vB 3 q.wh q.wt ce2.is),True),none,none] SS.out (fun vals=>?_) (fun vals W3 hB hfin hall=>?_) (ea 15 rfl)
  · simp only [ObD,Act.put,qA,qC,qZ]
    refine ⟨?_,?_,?_,?_,?_,?_,?_,?_,?_,?_,?_,?_,?_,?o2_13,?o2_14,?o2_15,?o2_16,trivial⟩
    all_goals (intro L W hL hk hC hw;have f:=deps hw rfl rfl;simp only [depF,vsP,pw,qS,qD,and_true,true_and] at f)
    case o2_13=>have CL:=Lib.hid (stack_any q.wh q.wt W);clear hL hC hk hw;refine spD rfl ?_;go_simp;(with_reducible refine CL.out.mono ?_);rintro e w8 ⟨rfl,h2⟩;first | exact sq h2 rfl ⟨rfl,trivial⟩ | exact ⟨_,rfl,sq h2 rfl ⟨rfl,trivial⟩⟩
    case o2_14=>
      have CL:=Lib.hid (look_K SS.out (hC.pre hk) BEG.out (by have:=HI.out;omega) CE2.out 3 q.wh q.wt);clear hL hC hk hw;refine spD rfl ?_;go_simp;(with_reducible refine CL.out.mono ?_);rintro e w8 (⟨h,rfl,h2⟩ | ⟨h1,rfl,hf,H⟩)
      · exact ⟨_,rfl,Did.miss (by unfold oLookAt;simp only [runOm_bind,run_there S0.out.1 S0.out.2,run_look S1.out,run_look_no h]) h2⟩
      · first | exact kv hf H rfl ⟨rfl,trivial⟩ | exact ⟨_,rfl,kv hf H rfl ⟨rfl,trivial⟩⟩
    case o2_15=>have ZZ:=hC.fr.size;clear hL hC hk hw;refine spD rfl ?_;go_simp;exact am ZZ
    case o2_16=>obtain ⟨gt,C,fa,hgt,bx0,hc⟩:=Fw.geta (hw ⟨15,.data⟩ (by simp) rfl) (by decide);obtain ⟨c0,c1,c2,c3,c4,c5,rfl⟩:=arr6 hc;have q:=six_cells bx0;have BXX:=Lib.hid bx0;have FA:=Lib.hid fa;clear bx0 hc;unfold thing at f;clear hL hC hk hw;refine spD rfl ?_;go_simp;exact sm SS.out BEG.out BXX.out hgt FA.out
    all_goals (have c:=kn7 hC;clear hL hC hk hw;refine spD rfl ?_;go_simp;first | exact sv rfl ⟨rfl,trivial⟩ | exact ⟨_,rfl,sv rfl ⟨rfl,trivial⟩⟩)
  have S2:=Lib.hid hB.1
  simp only [allF,vsP,pw,true_and,and_true,Nat.reduceAdd] at hall
  obtain ⟨gt2,fa,hgt,bx⟩:=hfin
  simp only [TL,Act.put,qA,qC,qZ,hall,fa]
  replace SS:=Lib.hid (SS.out.push BEG.out hB.st SS.out.lt hgt bx)
  clear hall vals hB fa hgt bx
  have y0:W3.cell? ⟨gt0,0,none⟩=some (.int .u64 ce0.A):=SS.out.bx.2.2.1.out.cell 0
  have y1:W3.cell? ⟨gt1,0,none⟩=some (.int .u64 ce1.vA):=SS.out.bx.2.1.out.cell 0
  have y2:W3.cell? ⟨gt2,0,none⟩=some (.int .u64 ce2.vA):=SS.out.bx.1.out.cell 0
  obtain ⟨⟨z0,z1,z2,z3⟩,x0,x1,x2,x3⟩:=four_cells SS.out.bx.2.2.2.1.out
  go_wp2
  generalize hW:(World.setCell _ (⟨w.heap.size,3,none⟩:Addr) _)=WZ
  have b9:Box WZ w.heap.size #[.int .u16 0,.int .u64 ce0.A,.int .u64 ce1.vA,.int .u64 ce2.vA] 35:=by
    rw [← hW]
    exact four_box SS.out.bx.2.2.2.1.out
  have F9:Hid (Fr (fun x=>x=w.heap.size) W3 WZ):=Lib.hid (by
    rw [← hW]
    exact four_fr)
  obtain ⟨⟨v0,v1,v2,v3⟩,-⟩:=four_cells b9
  clear hW b9 z0 z1 z2 z3 x0 x1 x2 x3 y0 y1 y2
  refine bodyPost_ret (v:=.agg #[.int .u16 0,.int .u64 ce0.A,.int .u64 ce1.vA,.int .u64 ce2.vA]) (by simp [results,Tryz.results76,go_sem,v0,v1,v2,v3];try rfl) rfl ?_
  refine (SS.out.wr BEG.out 3 rfl F9.out).did (y:=(⟨ce0.A,ce1.vA,ce2.vA⟩,l)) ?_ rfl
  unfold oLookAt
  simp only [runOm_bind,runOm_pure,run_there S0.out.1 S0.out.2,run_look S1.out,run_look S2.out]
  try rfl
theorem open_y (w:World) (g:Nat) (q:Ot) (v:Value) (base i:Nat) (p:Value) (l:List Pu) (seen:List Ce) (hst:St w g q v base i p l) (hs:SeenAt w g v seen) (hg:g < base) (hbase:base≤w.heap.size) (hl:l.length≤800) (hi:i≤800000) (hq:q.Ok) (hok:∀ c∈seen,c.Ok) (h0:∀ c,seen[i]?=some c→c.is=true) :
    Calls Tryz.prog 62 #[.pointer (some ⟨g,0,none⟩)] w (Did w g q v base i p l seen (oOpen q) Rp.enc):=by
  have BEG:=Lib.hid (Begin.mk hs hg hbase hq hok (fun x hx=>hst.own.lt x hx))
  obtain ⟨W0,hW0⟩:∃ W0,w.alloc (.cells #[.int .u16 0,.int .u64 0,.int .u64 0,.int .u64 0] 35)=W0:=⟨_,rfl⟩
  have SS:Hid (ST w g q v base p i p l [.box w.heap.size #[.int .u16 0,.int .u64 0,.int .u64 0,.int .u64 0] 35] W0):=Lib.hid (by rw [← hW0];exact ST.start hst BEG.out _ _)
  have HI:=Lib.hid hi
  have HQ:=Lib.hid hq
  have HOK:=Lib.hid hok
  have HL:=Lib.hid hl
  have H0:=Lib.hid h0
  obtain ⟨ce0,hce0⟩:=the_cell seen (i)
  have CE0:=Lib.hid hce0
  clear hst hs hg hbase hl hi hq hok h0 hce0
  go_enter Tryz.func62,Tryz.ntmps62
  go_upto_region 1 with fail
  try rw [hW0]
  clear hW0
  refine wp_SK (D:=DP w g q v base i p l seen (oOpen q) Rp.enc) 9 10 11 (seen[i]?=some ce0) (i + 1) #[.int .u64 ce0.vA,.int .u64 ce0.vB,.int .u8 1,.int .u32 q.wh,.int .u32 0,.bool ce0.is] [pw g 0,pw g 0,pw g 7,pw g 0,pw g 0,pw g 0,pw g 1,some (.int .u32 q.wh,True),some (.agg #[.int .u8 1,.int .u32 q.wh,.int .u32 0],True),some (.agg (thing ce0.vA ce0.vB 1 q.wh 0 ce0.is),True),none,none] SS.out (fun vals=>?_) (fun vals W1 hB hfin hall=>?_) (ea 10 rfl)
  · simp only [ObD,Act.put,qA,qC,qZ]
    refine ⟨?_,?_,?_,?_,?_,?_,?_,?_,?o0_8,?o0_9,?o0_10,?o0_11,trivial⟩
    all_goals (intro L W hL hk hC hw;have f:=deps hw rfl rfl;simp only [depF,vsP,pw,qS,qD,and_true,true_and] at f)
    case o0_8=>have CL:=Lib.hid (purse_any q.wh W);clear hL hC hk hw;refine spD rfl ?_;go_simp;(with_reducible refine CL.out.mono ?_);rintro e w8 ⟨rfl,h2⟩;first | exact sq h2 rfl ⟨rfl,trivial⟩ | exact ⟨_,rfl,sq h2 rfl ⟨rfl,trivial⟩⟩
    case o0_9=>
      have CL:=Lib.hid (look_K SS.out (hC.pre hk) BEG.out (by have:=HI.out;omega) CE0.out 1 q.wh 0);clear hL hC hk hw;refine spD rfl ?_;go_simp;(with_reducible refine CL.out.mono ?_);rintro e w8 (⟨h,rfl,h2⟩ | ⟨h1,rfl,hf,H⟩)
      · exact ⟨_,rfl,Did.miss (by unfold oOpen;simp only [runOm_bind,run_look_no h]) h2⟩
      · first | exact kv hf H rfl ⟨rfl,trivial⟩ | exact ⟨_,rfl,kv hf H rfl ⟨rfl,trivial⟩⟩
    case o0_10=>have ZZ:=hC.fr.size;clear hL hC hk hw;refine spD rfl ?_;go_simp;exact am ZZ
    case o0_11=>obtain ⟨gt,C,fa,hgt,bx0,hc⟩:=Fw.geta (hw ⟨10,.data⟩ (by simp) rfl) (by decide);obtain ⟨c0,c1,c2,c3,c4,c5,rfl⟩:=arr6 hc;have q:=six_cells bx0;have BXX:=Lib.hid bx0;have FA:=Lib.hid fa;clear bx0 hc;unfold thing at f;clear hL hC hk hw;refine spD rfl ?_;go_simp;exact sm SS.out BEG.out BXX.out hgt FA.out
    all_goals (have c:=kn7 hC;clear hL hC hk hw;refine spD rfl ?_;go_simp;first | exact sv rfl ⟨rfl,trivial⟩ | exact ⟨_,rfl,sv rfl ⟨rfl,trivial⟩⟩)
  have S0:=Lib.hid hB.1
  simp only [allF,vsP,pw,true_and,and_true,Nat.reduceAdd] at hall
  obtain ⟨gt0,fa,hgt,bx⟩:=hfin
  simp only [TL,Act.put,qA,qC,qZ,hall,fa]
  replace SS:=Lib.hid (SS.out.push BEG.out hB.st SS.out.lt hgt bx)
  clear hall vals hB fa hgt bx
  have I0:=Lib.hid (H0.out ce0 S0.out)
  have SX:=SS.out
  rw [I0.out] at SX
  replace SS:=Lib.hid SX
  clear SX
  have y0:W1.cell? ⟨gt0,5,none⟩=some (.bool true):=SS.out.bx.1.out.cell 5
  go_wp2_with fail
  (with_reducible refine (deny_yes 210 _).mono ?_)
  rintro e W2 ⟨rfl,rfl⟩
  exact ⟨rfl,Did.err (by unfold oOpen;simp only [runOm_bind,run_look S0.out,I0.out,run_deny_yes]) (SS.out.low BEG.out)⟩
theorem open_n (w:World) (g:Nat) (q:Ot) (v:Value) (base i:Nat) (p:Value) (l:List Pu) (seen:List Ce) (hst:St w g q v base i p l) (hs:SeenAt w g v seen) (hg:g < base) (hbase:base≤w.heap.size) (hl:l.length≤800) (hi:i≤800000) (hq:q.Ok) (hok:∀ c∈seen,c.Ok) (h0:∀ c,seen[i]?=some c→c.is=false) :
    Calls Tryz.prog 62 #[.pointer (some ⟨g,0,none⟩)] w (Did w g q v base i p l seen (oOpen q) Rp.enc):=by
  have BEG:=Lib.hid (Begin.mk hs hg hbase hq hok (fun x hx=>hst.own.lt x hx))
  obtain ⟨W0,hW0⟩:∃ W0,w.alloc (.cells #[.int .u16 0,.int .u64 0,.int .u64 0,.int .u64 0] 35)=W0:=⟨_,rfl⟩
  have SS:Hid (ST w g q v base p i p l [.box w.heap.size #[.int .u16 0,.int .u64 0,.int .u64 0,.int .u64 0] 35] W0):=Lib.hid (by rw [← hW0];exact ST.start hst BEG.out _ _)
  have HI:=Lib.hid hi
  have HQ:=Lib.hid hq
  have HOK:=Lib.hid hok
  have HL:=Lib.hid hl
  have H0:=Lib.hid h0
  obtain ⟨ce0,hce0⟩:=the_cell seen (i)
  have CE0:=Lib.hid hce0
  clear hst hs hg hbase hl hi hq hok h0 hce0
  go_enter Tryz.func62,Tryz.ntmps62
  go_upto_region 1 with fail
  try rw [hW0]
  clear hW0
  refine wp_SK (D:=DP w g q v base i p l seen (oOpen q) Rp.enc) 9 10 11 (seen[i]?=some ce0) (i + 1) #[.int .u64 ce0.vA,.int .u64 ce0.vB,.int .u8 1,.int .u32 q.wh,.int .u32 0,.bool ce0.is] [pw g 0,pw g 0,pw g 7,pw g 0,pw g 0,pw g 0,pw g 1,some (.int .u32 q.wh,True),some (.agg #[.int .u8 1,.int .u32 q.wh,.int .u32 0],True),some (.agg (thing ce0.vA ce0.vB 1 q.wh 0 ce0.is),True),none,none] SS.out (fun vals=>?_) (fun vals W1 hB hfin hall=>?_) (ea 10 rfl)
  · simp only [ObD,Act.put,qA,qC,qZ]
    refine ⟨?_,?_,?_,?_,?_,?_,?_,?_,?o0_8,?o0_9,?o0_10,?o0_11,trivial⟩
    all_goals (intro L W hL hk hC hw;have f:=deps hw rfl rfl;simp only [depF,vsP,pw,qS,qD,and_true,true_and] at f)
    case o0_8=>have CL:=Lib.hid (purse_any q.wh W);clear hL hC hk hw;refine spD rfl ?_;go_simp;(with_reducible refine CL.out.mono ?_);rintro e w8 ⟨rfl,h2⟩;first | exact sq h2 rfl ⟨rfl,trivial⟩ | exact ⟨_,rfl,sq h2 rfl ⟨rfl,trivial⟩⟩
    case o0_9=>
      have CL:=Lib.hid (look_K SS.out (hC.pre hk) BEG.out (by have:=HI.out;omega) CE0.out 1 q.wh 0);clear hL hC hk hw;refine spD rfl ?_;go_simp;(with_reducible refine CL.out.mono ?_);rintro e w8 (⟨h,rfl,h2⟩ | ⟨h1,rfl,hf,H⟩)
      · exact ⟨_,rfl,Did.miss (by unfold oOpen;simp only [runOm_bind,run_look_no h]) h2⟩
      · first | exact kv hf H rfl ⟨rfl,trivial⟩ | exact ⟨_,rfl,kv hf H rfl ⟨rfl,trivial⟩⟩
    case o0_10=>have ZZ:=hC.fr.size;clear hL hC hk hw;refine spD rfl ?_;go_simp;exact am ZZ
    case o0_11=>obtain ⟨gt,C,fa,hgt,bx0,hc⟩:=Fw.geta (hw ⟨10,.data⟩ (by simp) rfl) (by decide);obtain ⟨c0,c1,c2,c3,c4,c5,rfl⟩:=arr6 hc;have q:=six_cells bx0;have BXX:=Lib.hid bx0;have FA:=Lib.hid fa;clear bx0 hc;unfold thing at f;clear hL hC hk hw;refine spD rfl ?_;go_simp;exact sm SS.out BEG.out BXX.out hgt FA.out
    all_goals (have c:=kn7 hC;clear hL hC hk hw;refine spD rfl ?_;go_simp;first | exact sv rfl ⟨rfl,trivial⟩ | exact ⟨_,rfl,sv rfl ⟨rfl,trivial⟩⟩)
  have S0:=Lib.hid hB.1
  simp only [allF,vsP,pw,true_and,and_true,Nat.reduceAdd] at hall
  obtain ⟨gt0,fa,hgt,bx⟩:=hfin
  simp only [TL,Act.put,qA,qC,qZ,hall,fa]
  replace SS:=Lib.hid (SS.out.push BEG.out hB.st SS.out.lt hgt bx)
  clear hall vals hB fa hgt bx
  have I0:=Lib.hid (H0.out ce0 S0.out)
  have SX:=SS.out
  rw [I0.out] at SX
  replace SS:=Lib.hid SX
  clear SX
  have y0:W1.cell? ⟨gt0,5,none⟩=some (.bool false):=SS.out.bx.1.out.cell 5
  go_wp2_with fail
  (with_reducible refine (deny_no 210 _).mono ?_)
  rintro e W2 ⟨rfl,rfl⟩
  clear  y0
  obtain ⟨⟨y0,y1,y2,y3,y4,y5⟩,-⟩:=six_cells SS.out.bx.1.out
  have CALL:=Lib.hid (amount_S SS.out BEG.out (by have:=HL.out;(try simp only [List.length_append,List.length_cons,List.length_nil]);omega) 1 q.wh 0 0 (show _=l++[amt 1 q.wh 0 0] by simp))
  go_wp2_with fail
  (with_reducible refine CALL.out.mono ?_)
  rintro e W3 ⟨rfl,hf,p3,hs⟩
  replace SS:=Lib.hid hs
  clear CALL hf hs y0 y1 y2 y3 y4 y5
  have y0:W3.cell? ⟨g,1,none⟩=some (.int .u32 q.wh):=SS.out.kn.c1
  have cv:IntKind.u64.wrap q.wh=q.wh:=wrap_u64 HQ.out.wh.1 (by have:=HQ.out.wh;omega)
  have y0:W3.cell? ⟨g,1,none⟩=some (.int .u32 q.wh):=SS.out.kn.c1
  obtain ⟨⟨z0,z1,z2,z3⟩,x0,x1,x2,x3⟩:=four_cells SS.out.bx.2.1.out
  go_wp2
  generalize hW:(World.setCell _ (⟨w.heap.size,3,none⟩:Addr) _)=WZ
  have b9:Box WZ w.heap.size #[.int .u16 0,.int .u64 q.wh,.int .u64 0,.int .u64 0] 35:=by
    rw [← hW]
    exact four_box SS.out.bx.2.1.out
  have F9:Hid (Fr (fun x=>x=w.heap.size) W3 WZ):=Lib.hid (by
    rw [← hW]
    exact four_fr)
  obtain ⟨⟨v0,v1,v2,v3⟩,-⟩:=four_cells b9
  clear hW b9 z0 z1 z2 z3 x0 x1 x2 x3 y0
  refine bodyPost_ret (v:=.agg #[.int .u16 0,.int .u64 q.wh,.int .u64 0,.int .u64 0]) (by simp [results,Tryz.results62,go_sem,v0,v1,v2,v3];try rfl) rfl ?_
  refine (SS.out.wr BEG.out 1 rfl F9.out).did (y:=(⟨q.wh,0,0⟩,l++[amt 1 q.wh 0 0])) ?_ rfl
  unfold oOpen
  simp only [runOm_bind,runOm_pure,run_look S0.out,I0.out,run_deny_no,oAmount,run_put]
  try rfl
theorem open_any (w:World) (g:Nat) (q:Ot) (v:Value) (base i:Nat) (p:Value) (l:List Pu) (seen:List Ce) (hst:St w g q v base i p l) (hs:SeenAt w g v seen) (hg:g < base) (hbase:base≤w.heap.size) (hl:l.length≤800) (hi:i≤800000) (hq:q.Ok) (hok:∀ c∈seen,c.Ok) :
    Calls Tryz.prog 62 #[.pointer (some ⟨g,0,none⟩)] w (Did w g q v base i p l seen (oOpen q) Rp.enc):=by
  obtain ⟨c0,e0⟩:=the_cell seen i
  cases h:c0.is with
  | true=>exact open_y w g q v base i p l seen hst hs hg hbase hl hi hq hok (fun c hc=>by rw [e0 c hc];exact h)
  | false=>exact open_n w g q v base i p l seen hst hs hg hbase hl hi hq hok (fun c hc=>by rw [e0 c hc];exact h)
end Go.Proofs.YtabckmadpdchnaaGreat.Rule
namespace Go.Proofs.YtabckmadpdchnaaGreat.Rule
open Go.ChangeShapes Go.WideShapes Go.ChangeAt Go.RowKit Go.IntWalk Go.Proofs.Mem
section
variable {w:World} {g:Nat} {wh wm wt id n pr:Int} {v:Value} {i:Int} {p:Value}
theorem ck_1_ok {kd:Int} (hk:kd=1∨kd=10∨kd=13∨kd=14∨kd=17) (hb:WorkAt w g ⟨kd,wh,wm,wt,id,n,pr⟩ v i p) (h0:wh≠0):Calls Tryz.prog 50 #[.pointer (some ⟨g,0,none⟩)] w (CkQ none w):=by
  obtain ⟨c0,c1,c2,c3,c4,c5,c6,c7,c8,c9⟩:=wc_of hb
  dsimp only at c0 c1 c2 c3 c4 c5 c6
  have d0:(wh == 0)=false:=by simpa using h0
  clear hb h0
  rcases hk with rfl | rfl | rfl | rfl | rfl
  all_goals
    go_enter Tryz.func50,Tryz.ntmps50
    go_wp2_with (first | (go_at_call 60;(with_reducible refine (deny_no 1 _).mono ?_);rintro e w1 ⟨rfl,rfl⟩))
    go_end0
    exact ⟨rfl,Below.refl _ _⟩
theorem ck_2_n {kd:Int} (hk:kd=2∨kd=3∨kd=4∨kd=5∨kd=6∨kd=7∨kd=8∨kd=9∨kd=15∨kd=16) (hb:WorkAt w g ⟨kd,wh,wm,wt,id,n,pr⟩ v i p) (h0:wh≠0) (hn:n=0):Calls Tryz.prog 50 #[.pointer (some ⟨g,0,none⟩)] w (CkQ (some 1) w):=by
  obtain ⟨c0,c1,c2,c3,c4,c5,c6,c7,c8,c9⟩:=wc_of hb
  dsimp only at c0 c1 c2 c3 c4 c5 c6
  have d0:(wh == 0)=false:=by simpa using h0
  have f0:(n == 0)=true:=by simpa using hn
  clear hb h0 hn
  rcases hk with rfl | rfl | rfl | rfl | rfl | rfl | rfl | rfl | rfl | rfl
  all_goals
    go_enter Tryz.func50,Tryz.ntmps50
    go_wp2_with (first | (go_at_call 60;(with_reducible refine (deny_no 1 _).mono ?_);rintro e w1 ⟨rfl,rfl⟩) | (go_at_call 60;(with_reducible refine (deny_yes 1 _).mono ?_);rintro e w1 ⟨rfl,rfl⟩))
    exact ⟨rfl,rfl,Below.refl _ _⟩
theorem ck_2_ok {kd:Int} (hk:kd=2∨kd=3∨kd=6∨kd=7) (hb:WorkAt w g ⟨kd,wh,wm,wt,id,n,pr⟩ v i p) (h0:wh≠0) (hn:n≠0):Calls Tryz.prog 50 #[.pointer (some ⟨g,0,none⟩)] w (CkQ none w):=by
  obtain ⟨c0,c1,c2,c3,c4,c5,c6,c7,c8,c9⟩:=wc_of hb
  dsimp only at c0 c1 c2 c3 c4 c5 c6
  have d0:(wh == 0)=false:=by simpa using h0
  have f0:(n == 0)=false:=by simpa using hn
  clear hb h0 hn
  rcases hk with rfl | rfl | rfl | rfl
  all_goals
    go_enter Tryz.func50,Tryz.ntmps50
    go_wp2_with (first | (go_at_call 60;(with_reducible refine (deny_no 1 _).mono ?_);rintro e w1 ⟨rfl,rfl⟩))
    go_end0
    exact ⟨rfl,Below.refl _ _⟩
theorem ck_4_i {kd:Int} (hk:kd=4∨kd=5∨kd=15) (hb:WorkAt w g ⟨kd,wh,wm,wt,id,n,pr⟩ v i p) (h0:wh≠0) (hn:n≠0) (hi:itemB wt=false):Calls Tryz.prog 50 #[.pointer (some ⟨g,0,none⟩)] w (CkQ (some 1) w):=by
  obtain ⟨c0,c1,c2,c3,c4,c5,c6,c7,c8,c9⟩:=wc_of hb
  dsimp only at c0 c1 c2 c3 c4 c5 c6
  have d0:(wh == 0)=false:=by simpa using h0
  have f0:(n == 0)=false:=by simpa using hn
  have f1:itemB wt=false:=hi
  clear hb h0 hn hi
  rcases hk with rfl | rfl | rfl
  all_goals
    go_enter Tryz.func50,Tryz.ntmps50
    go_wp2_with (first | (go_at_call 60;(with_reducible refine (deny_no 1 _).mono ?_);rintro e w1 ⟨rfl,rfl⟩) | (go_at_call 60;(with_reducible refine (deny_yes 1 _).mono ?_);rintro e w1 ⟨rfl,rfl⟩) | (go_at_call 61;(with_reducible refine (item_any _ _).mono ?_);rintro e w1 ⟨rfl,rfl⟩))
    exact ⟨rfl,rfl,Below.refl _ _⟩
theorem ck_4_ok {kd:Int} (hk:kd=4∨kd=5) (hb:WorkAt w g ⟨kd,wh,wm,wt,id,n,pr⟩ v i p) (h0:wh≠0) (hn:n≠0) (hi:itemB wt=true):Calls Tryz.prog 50 #[.pointer (some ⟨g,0,none⟩)] w (CkQ none w):=by
  obtain ⟨c0,c1,c2,c3,c4,c5,c6,c7,c8,c9⟩:=wc_of hb
  dsimp only at c0 c1 c2 c3 c4 c5 c6
  have d0:(wh == 0)=false:=by simpa using h0
  have f0:(n == 0)=false:=by simpa using hn
  have f1:itemB wt=true:=hi
  clear hb h0 hn hi
  rcases hk with rfl | rfl
  all_goals
    go_enter Tryz.func50,Tryz.ntmps50
    go_wp2_with (first | (go_at_call 60;(with_reducible refine (deny_no 1 _).mono ?_);rintro e w1 ⟨rfl,rfl⟩) | (go_at_call 61;(with_reducible refine (item_any _ _).mono ?_);rintro e w1 ⟨rfl,rfl⟩))
    go_end0
    exact ⟨rfl,Below.refl _ _⟩
end
end Go.Proofs.YtabckmadpdchnaaGreat.Rule
