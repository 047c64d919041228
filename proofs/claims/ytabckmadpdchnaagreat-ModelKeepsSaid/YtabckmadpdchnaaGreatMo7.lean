import Derived.Test.YtabckmadpdchnaaGreatMo0
import Derived.Test.YtabckmadpdchnaaGreatMo1
import Derived.Test.YtabckmadpdchnaaGreatMo2
import Derived.Test.YtabckmadpdchnaaGreatMo3
import Derived.Test.YtabckmadpdchnaaGreatMo5
import Derived.BigQuiet
import Derived.BigRegion
import Derived.Deep.AppendLies
import Derived.Deep.Cut
import Derived.Deep.DrawnRows
import Derived.Deep.QuietTactic
import Derived.Lib.AppendZerosOnto
import Derived.LoopN
set_option linter.unusedVariables false
set_option linter.unusedSimpArgs false
set_option linter.unnecessarySimpa false
set_option maxRecDepth 100000
set_option maxHeartbeats 8000000
namespace Go.Proofs.YtabckmadpdchnaaGreat.Rule
open Go.ChangeShapes Go.WideShapes Go.ChangeAt Go.RowKit Go.IntWalk Go.Proofs.Mem Go.Proofs.Each
def RowA (n:Nat) (cs:Array Value) (v:Value) (W:World):Prop:=∃ gb,v=.slice (some ⟨gb,0,none⟩) 1 1∧n≤gb∧Box W gb cs 130
def RowS (gg0 n m:Nat) (cs:Array Value) (va vs:Value) (W:World):Prop:=∃ gg cap,vs=.slice (some ⟨gg,0,none⟩) m cap∧(gg=gg0∨n≤gg)∧Pile W gg m cap cs
theorem Aps.erase:∀ {bs:List Bx},Aps bs→∀ n,Aps (bs.eraseIdx n)
  | [],_,n=>by rw [List.eraseIdx_nil];trivial
  | x :: r,h,0=>h.2
  | x :: r,h,n + 1=>⟨fun y hy=>h.1 y (List.mem_of_mem_eraseIdx hy),Aps.erase h.2 n⟩
section
variable {w w0 W W':World} {g base j j2 n:Nat} {q:Ot} {v p p' p2:Value} {l l2:List Pu} {bs bs2 rs:List Bx} {S:Nat→Prop} {F U:Prop} {seen:List Ce}
theorem ST.era (h:ST w g q v base p j p' l bs W) (n:Nat) (hr:bs.eraseIdx n=rs):ST w g q v base p j p' l rs W:=by
  subst hr
  exact ⟨h.run,.of fun x hx=>h.bx.mem x (List.mem_of_mem_eraseIdx hx),fun x hx=>h.ok x (List.mem_of_mem_eraseIdx hx),h.ap.erase n⟩
theorem ST.ne_era {x:Bx} (h:ST w g q v base p j p' l bs W) (hn:bs[n]?=some x) (hr:bs.eraseIdx n=rs):∀ y∈rs,y.blk≠x.blk:=by
  subst hr
  intro y hy
  obtain ⟨i,hi⟩:=List.getElem?_of_mem hy
  rw [List.getElem?_eraseIdx] at hi
  split at hi
  · exact h.ap.out_ hn i y (by omega) hi
  · exact h.ap.out_ hn (i + 1) y (by omega) hi
theorem ST.regrow {old on oc new m cap:Nat} {oC C:Array Value} (h0:ST w g q v base p j2 p2 l2 bs w0) (hb:Begin w g q v base p seen) (n:Nat) (hn:bs[n]?=some (.pile old on oc oC)) (hr:bs.eraseIdx n=rs) (h:ST w g q v base p j p' l rs W) (hor:new=old∨w0.heap.size≤new) (hx:Pile W new m cap C):ST w g q v base p j p' l (.pile new m cap C :: rs) W:=by
  have ho:(Bx.pile old on oc oC).ok w g:=h0.ok _ (List.mem_of_getElem? hn)
  refine ⟨h.run,⟨Lib.hid hx,h.bx⟩,fun x hx=>?_,⟨fun y hy=>?_,h.ap⟩⟩
  · rcases List.mem_cons.1 hx with e | e
    · subst e
      rcases hor with e | e
      · subst e;exact ho
      · exact ⟨by have:=h0.gl hb;omega,by have:=h0.run.out.size;omega⟩
    · exact h.ok x e
  · rcases hor with e | e
    · subst e;exact h0.ne_era hn hr y hy
    · have:y.blk < w0.heap.size:=h0.lt y (by subst hr;exact List.mem_of_mem_eraseIdx hy)
      show y.blk≠new
      omega
end
section
variable {w w0 W W':World} {g base j j2 k a s t i:Nat} {q:Ot} {v p p':Value} {l l2:List Pu} {bs bs2:List Bx} {S S1:Nat→Prop} {F U:Prop} {seen:List Ce} {L:Nat→Bool} {A B G:World→Prop} {FinA:Value→World→Prop} {FinS:Value→Value→World→Prop} {Fs:List (Value→Prop)} {vals:Nat→Value} {x:Value} {f:Value→Prop}
theorem cg_kn (h:Cg w0 k s S S1 (ST w g q v base p j p' l bs) (SB F U w g q v base p j2 p' l2 bs2) G L W):K7 W g q:=by
  rcases h.or with h | h
  · exact h.kn
  · exact h.kn
theorem kg7 (h:Cg w0 k s S S1 (ST w g q v base p j p' l bs) (SB F U w g q v base p j2 p' l2 bs2) G L W):W.cell? ⟨g,0,none⟩=some (.int .u8 q.kd)∧W.cell? ⟨g,1,none⟩=some (.int .u32 q.wh)∧W.cell? ⟨g,2,none⟩=some (.int .u32 q.wm)∧W.cell? ⟨g,3,none⟩=some (.int .u32 q.wt)∧W.cell? ⟨g,4,none⟩=some (.int .u32 q.id)∧W.cell? ⟨g,5,none⟩=some (.int .u64 q.n)∧W.cell? ⟨g,6,none⟩=some (.int .u64 q.pr):=
  have c:=cg_kn h
  ⟨c.c0,c.c1,c.c2,c.c3,c.c4,c.c5,c.c6⟩
theorem cg_bx (h:Cg w0 k s S S1 (ST w g q v base p j p' l bs) (SB F U w g q v base p j2 p' l2 bs) G L W):Bxs W bs:=by
  rcases h.or with h | h
  · exact h.bx
  · exact h.box
theorem gv (hE:(Fs.getD i fun _=>True)=f) (hf:f x) (hk:i≠k:=by decide) (hs:i≠s:=by decide) (ha:i≠a:=by decide) (ht:i≠t:=by decide):Rw k s S S1 A B FinA i W W∧Fg k a s t B FinA FinS Fs i (upd vals i x) W:=
  ⟨Rw.same hk hs,Fg.val ht hs ha hk hE hf⟩
theorem gq (hb:Below W.heap.size W W') (hE:(Fs.getD i fun _=>True)=f) (hf:f x) (hk:i≠k:=by decide) (hs:i≠s:=by decide) (ha:i≠a:=by decide) (ht:i≠t:=by decide) :
    Rw k s S S1 (ST w g q v base p j p' l bs) (SB F U w g q v base p j2 p' l2 bs2) FinA i W W'∧Fg k a s t (SB F U w g q v base p j2 p' l2 bs2) FinA FinS Fs i (upd vals i x) W':=
  ⟨Rw.below hk hs (fun h=>h.later hb) (fun h=>h.later hb) hb,Fg.val ht hs ha hk hE hf⟩
theorem gk (hf:Fr S W W') (H:B W') (hE:(Fs.getD k fun _=>True)=f) (hv:f x) (hs:k≠s:=by decide) (ha:k≠a:=by decide) (ht:k≠t:=by decide):Rw k s S S1 A B FinA k W W'∧Fg k a s t B FinA FinS Fs k (upd vals k x) W':=
  ⟨Rw.work hs hf H,Fg.work ht hs ha H hE hv⟩
theorem gt_ (ht:t≠k:=by decide) (hs:t≠s:=by decide) (hst:s≠t:=by decide):Rw k s S S1 A B FinA t W W∧Fg k a s t B FinA FinS Fs t (upd vals t (vals s)) W:=
  ⟨Rw.same ht hs,Fg.told hst⟩
theorem gm0 {c0 c1 c2 c3 c4 c5:Value} (hz:w0.heap.size≤W.heap.size) (hk:s≠k:=by decide) (ht:s≠t:=by decide) (ha:a≠s:=by decide) :
    Rw k s S (fun x=>w0.heap.size≤x) (ST w g q v base p j p' l bs) (SB F U w g q v base p j2 p' l2 bs2) (fun _ _=>True) s W (W.alloc (.cells #[c0,c1,c2,c3,c4,c5] 130)) ∧
    Fg k a s t (SB F U w g q v base p j2 p' l2 bs2) (fun _ _=>True) (fun _ u W=>RowA w0.heap.size #[c0,c1,c2,c3,c4,c5] u W) Fs s (upd vals s (.slice (some ⟨W.heap.size,0,none⟩) 1 1)) (W.alloc (.cells #[c0,c1,c2,c3,c4,c5] 130)):=by
  have h2:=new_ (Below.refl W.heap.size W) (.cells #[c0,c1,c2,c3,c4,c5] 130)
  exact ⟨Rw.store hk (Fr.of_below h2) (fun h=>h.later h2) (fun h=>h.later h2) (fun _ h=>h),Fg.laid ht ha ⟨W.heap.size,rfl,hz,Box.new _ _ _⟩⟩
theorem gm1 {c0 c1 c2 c3 c4 c5:Value} (hz:w0.heap.size≤W.heap.size) (hk:a≠k:=by decide) (ht:a≠t:=by decide) (ha:a≠s:=by decide) :
    Rw k s S S1 (ST w g q v base p j p' l bs) (SB F U w g q v base p j2 p' l2 bs2) (RowA w0.heap.size #[c0,c1,c2,c3,c4,c5]) a W (W.alloc (.cells #[c0,c1,c2,c3,c4,c5] 130)) ∧
    Fg k a s t (SB F U w g q v base p j2 p' l2 bs2) (RowA w0.heap.size #[c0,c1,c2,c3,c4,c5]) FinS Fs a (upd vals a (.slice (some ⟨W.heap.size,0,none⟩) 1 1)) (W.alloc (.cells #[c0,c1,c2,c3,c4,c5] 130)):=by
  have h2:=new_ (Below.refl W.heap.size W) (.cells #[c0,c1,c2,c3,c4,c5] 130)
  exact ⟨Rw.below hk ha (fun h=>h.later h2) (fun h=>h.later h2) h2,Fg.made ht ha ⟨W.heap.size,rfl,hz,Box.new _ _ _⟩⟩
theorem ST.elseP {W:World} {b m cap:Nat} {C:Array Value} (h:ST w g q v base p j p' l bs W) (hb:Begin w g q v base p seen) (hx:Pile W b m cap C) (hlo:w.heap.size≤b) (hne:∀ x∈bs,x.blk≠b) (hf:Fr (fun x=>x=b) W W'):ST w g q v base p j p' l bs W':=by
  obtain ⟨cur,hc,_⟩:=hx.box
  exact h.else_ hb hc (by decide) hlo hne hf
theorem SB.elseP {b m cap:Nat} {C:Array Value} (h:SB F U w g q v base p j p' l bs W) (hb:Begin w g q v base p seen) (hx:Pile W b m cap C) (hlo:w.heap.size≤b) (hne:∀ x∈bs,x.blk≠b) (hf:Fr (fun x=>x=b) W W'):SB F U w g q v base p j p' l bs W':=by
  obtain ⟨cur,hc,_⟩:=hx.box
  exact h.else_ hb hc (by decide) hlo hne hf
theorem ga {n old on oc m gg cc j0:Nat} {p0:Value} {l0:List Pu} {oC C:Array Value} {bs0:List Bx} {c6:Array Value} (h0:ST w g q v base p j0 p0 l0 bs0 w0) (hb:Begin w g q v base p seen) (hn:bs0[n]?=some (.pile old on oc oC)) (hr:bs0.eraseIdx n=bs)
    (GR:Pile W old on oc oC) (hz:w0.heap.size≤W.heap.size) (hown:W'.ownsRow old 130 6 (.slice (some ⟨gg,0,none⟩) m cc) m C.toList) (hg:W.grownBy W' (Value.ownBlock (.slice (some ⟨old,0,none⟩) on oc))) (hat:Value.ownBlock (.slice (some ⟨old,0,none⟩) on oc)=some gg∨gg=W.heap.size)
    (hk:s≠k:=by decide) (ht:s≠t:=by decide) (ha:a≠s:=by decide) :
    Rw k s S (fun x=>x=old∨w0.heap.size≤x) (ST w g q v base p j p' l bs) (SB F U w g q v base p j2 p' l2 bs) (RowA w0.heap.size c6) s W W' ∧
    Fg k a s t (SB F U w g q v base p j2 p' l2 bs) (RowA w0.heap.size c6) (RowS old w0.heap.size m C) Fs s (upd vals s (.slice (some ⟨gg,0,none⟩) m cc)) W':=by
  have hf:Fr (fun x=>x=old) W W':=(Fr.refl _ _).grown hg (fun x e=>.inl (by injection e with e;exact e.symm))
  have ho:(Bx.pile old on oc oC).ok w g:=h0.ok _ (List.mem_of_getElem? hn)
  have hol:old < w0.heap.size:=h0.lt (.pile old on oc oC) (List.mem_of_getElem? hn)
  have hne:∀ x∈bs,x.blk≠old:=h0.ne_era hn hr
  have hor:gg=old∨w0.heap.size≤gg:=by
    rcases hat with e | e
    · left;injection e with e;exact e.symm
    · right;omega
  exact ⟨Rw.store hk (hf.mono fun x _ e=>.inl e) (fun h=>h.elseP hb GR ho.2 hne hf) (fun h=>h.elseP hb GR ho.2 hne hf) (fun v' ⟨gb',e1,e2,e3⟩=>⟨gb',e1,e2,e3.fr hf (fun e=>by omega)⟩),Fg.laid ht ha ⟨gg,cc,rfl,hor,Pile.of_own hown⟩⟩
theorem gaN {m gg cc:Nat} {C:Array Value} {c6:Array Value} (hz:w0.heap.size≤W.heap.size) (hown:W'.ownsRow w0.heap.size 130 6 (.slice (some ⟨gg,0,none⟩) m cc) m C.toList) (hg:W.grownBy W' (Value.ownBlock (.slice none 0 0))) (hat:Value.ownBlock (.slice none 0 0)=some gg∨gg=W.heap.size)
    (hk:s≠k:=by decide) (ht:s≠t:=by decide) (ha:a≠s:=by decide) :
    Rw k s S (fun x=>w0.heap.size≤x) (ST w g q v base p j p' l bs) (SB F U w g q v base p j2 p' l2 bs) (RowA w0.heap.size c6) s W W' ∧
    Fg k a s t (SB F U w g q v base p j2 p' l2 bs) (RowA w0.heap.size c6) (RowS w0.heap.size w0.heap.size m C) Fs s (upd vals s (.slice (some ⟨gg,0,none⟩) m cc)) W':=by
  have hb:Below W.heap.size W W':=grown_below hg
  have hor:gg=w0.heap.size∨w0.heap.size≤gg:=by
    rcases hat with e | e
    · cases e
    · right;omega
  exact ⟨Rw.store hk (Fr.of_below hb) (fun h=>h.later hb) (fun h=>h.later hb) (fun v' ⟨gb',e1,e2,e3⟩=>⟨gb',e1,e2,e3.later hb⟩),Fg.laid ht ha ⟨gg,cc,rfl,hor,Pile.of_own hown⟩⟩
variable {vs:Vs}
theorem depsG {o:Oper} (hw:∀ e∈o.after,Region.binds .any e=true→Fg k a s t B FinA FinS (vs.map vsP) e.on vals W) (ha:vs.getD a none=none) (hs:vs.getD s none=none) (ht:vs.getD t none=none):depF vs vals o.after.toList:=by
  have key:∀ es:List Edge,(∀ e∈es,e∈o.after)→depF vs vals es:=by
    intro es
    induction es with
    | nil=>intro _;trivial
    | cons e r ih=>
      intro h
      refine ⟨?_,ih fun x hx=>h x (by simp [hx])⟩
      cases he:e.ground with
      | data=>
        have h1:=hw e (h e (by simp)) (by simp [Region.binds,he])
        by_cases e0:e.on=t
        · rw [e0]
          show vsP (vs.getD t none) _
          rw [ht];trivial
        · by_cases e1:e.on=s
          · rw [e1]
            show vsP (vs.getD s none) _
            rw [hs];trivial
          · by_cases e2:e.on=a
            · rw [e2]
              show vsP (vs.getD a none) _
              rw [ha];trivial
            · exact h1.get e0 e1 e2 (vs_getD vs e.on)
      | _=>trivial
  exact key _ fun e he=>by simpa using he
theorem all_ofG (h:∀ i,i < vs.length→i≠t→i≠s→i≠a→((vs.map vsP).getD i fun _=>True) (vals i)) (ha:vs.getD a none=none) (hs:vs.getD s none=none) (ht:vs.getD t none=none):allF vals 0 vs:=
  all_of (s:=s) (a:=a) (vs:=vs) (fun i hi h1 h2=>by
    by_cases h0:i=t
    · rw [vs_getD,h0,ht];trivial
    · exact h i hi h0 h1 h2) ha hs
end
theorem wp_SG0 {P:Program} {ops:List Oper} {a0:Act} {id:Nat} {Q:Exit→Act→World→Prop} {w0:World} {w:World} {g base j:Nat} {q:Ot} {v p p':Value} {l:List Pu} {bs:List Bx} {seen:List Ce} {D:Exit→World→Prop} (k n s t:Nat) (F:Prop) (j2:Nat) (cs:Array Value) (vs:Vs) (h0:ST w g q v base p j p' l bs w0) (hb:Begin w g q v base p seen)
    (hob:∀ vals:Nat→Value,ObD D P ops.toArray (Cg w0 k s (fun x=>x=g) (fun x=>w0.heap.size≤x) (ST w g q v base p j p' l bs) (SB F False w g q v base p j2 p' l bs) (fun _=>True)) (Rw k s (fun x=>x=g) (fun x=>w0.heap.size≤x) (ST w g q v base p j p' l bs) (SB F False w g q v base p j2 p' l bs) (fun _ _=>True)) (Fg k n s t (SB F False w g q v base p j2 p' l bs) (fun _ _=>True) (fun _ u W=>RowA w0.heap.size cs u W) (vs.map vsP)) vals 0 ops a0)
    (hend:∀ (vals:Nat→Value) W,SB F False w g q v base p j2 p' l bs W→RowA w0.heap.size cs (vals s) W→vals t=vals s→allF vals 0 vs→Q .normal (TL vals 0 ops a0) W)
    (hdt:∀ o,ops[t]?=some o→∃ e∈o.after,Region.binds .any e=true∧e.on=s)
    (hQ:∀ e (a:Act) w,a.defers=a0.defers→D e w→Q e a w:=by rintro _ _ _ hd ⟨c,rfl,h⟩;exact ⟨hd,h⟩) (hm:P.follows .mixedOrders=true:=by kernel_rfl) (hB:fitC ops.toArray=true:=by kernel_rfl) (hka:k≠n:=by decide) (hks:k≠s:=by decide) (hkt:k≠t:=by decide) (hst:s≠t:=by decide) (hk:k < ops.length:=by decide) (hsl:s < ops.length:=by decide) (htl:t < ops.length:=by decide) (hl:vs.length=ops.length:=by rfl) (ha:vs.getD n none=none:=by rfl) (hs:vs.getD s none=none:=by rfl) (ht:vs.getD t none=none:=by rfl):(Code.region id ops.toArray true).wp P Q a0 w0:=
  have hg:=h0.gl hb
  wp_region_growC hQ hm hB k n s t hka hks hkt hst (fun x=>x=g) (fun x=>w0.heap.size≤x) (ST w g q v base p j p' l bs) (SB F False w g q v base p j2 p' l bs) (fun _=>True) (fun _ _=>True) (fun _ u W=>RowA w0.heap.size cs u W) (vs.map vsP)
    (fun _ _ _ _ _=>trivial) (fun va u W W' hf h=>by obtain ⟨gb,e1,e2,e3⟩:=h;exact ⟨gb,e1,e2,e3.fr hf (by omega)⟩) (fun _ _ _ _=>trivial) (.inl fun _ _ _ _ h=>h) hdt hk h0.drew trivial hob
    (fun vals W _ h1 h3 h4 h2=>hend vals W h1 (h3 hsl) (h4 htl) (all_ofG (fun i hi=>h2 i (by omega)) ha hs ht))
theorem wp_SGN {P:Program} {ops:List Oper} {a0:Act} {id:Nat} {Q:Exit→Act→World→Prop} {w0:World} {w:World} {g base j:Nat} {q:Ot} {v p p':Value} {l:List Pu} {bs:List Bx} {seen:List Ce} {D:Exit→World→Prop} (k a s t m:Nat) (F:Prop) (j2:Nat) (c6 C:Array Value) (vs:Vs) (h0:ST w g q v base p j p' l bs w0) (hb:Begin w g q v base p seen)
    (hob:∀ vals:Nat→Value,ObD D P ops.toArray (Cg w0 k s (fun x=>x=g) (fun x=>w0.heap.size≤x) (ST w g q v base p j p' l bs) (SB F False w g q v base p j2 p' l bs) (fun _=>True)) (Rw k s (fun x=>x=g) (fun x=>w0.heap.size≤x) (ST w g q v base p j p' l bs) (SB F False w g q v base p j2 p' l bs) (RowA w0.heap.size c6)) (Fg k a s t (SB F False w g q v base p j2 p' l bs) (RowA w0.heap.size c6) (RowS w0.heap.size w0.heap.size m C) (vs.map vsP)) vals 0 ops a0)
    (hend:∀ (vals:Nat→Value) W,SB F False w g q v base p j2 p' l bs W→RowS w0.heap.size w0.heap.size m C (vals a) (vals s) W→vals t=vals s→allF vals 0 vs→Q .normal (TL vals 0 ops a0) W)
    (hda:∀ o,ops[s]?=some o→∃ e∈o.after,Region.binds .any e=true∧e.on=a) (hdt:∀ o,ops[t]?=some o→∃ e∈o.after,Region.binds .any e=true∧e.on=s)
    (hQ:∀ e (a:Act) w,a.defers=a0.defers→D e w→Q e a w:=by rintro _ _ _ hd ⟨c,rfl,h⟩;exact ⟨hd,h⟩) (hm:P.follows .mixedOrders=true:=by kernel_rfl) (hB:fitC ops.toArray=true:=by kernel_rfl) (hka:k≠a:=by decide) (hks:k≠s:=by decide) (hkt:k≠t:=by decide) (hst:s≠t:=by decide) (hk:k < ops.length:=by decide) (hsl:s < ops.length:=by decide) (htl:t < ops.length:=by decide) (hl:vs.length=ops.length:=by rfl) (ha:vs.getD a none=none:=by rfl) (hs:vs.getD s none=none:=by rfl) (ht:vs.getD t none=none:=by rfl):(Code.region id ops.toArray true).wp P Q a0 w0:=
  have hg:=h0.gl hb
  wp_region_growC hQ hm hB k a s t hka hks hkt hst (fun x=>x=g) (fun x=>w0.heap.size≤x) (ST w g q v base p j p' l bs) (SB F False w g q v base p j2 p' l bs) (fun _=>True) (RowA w0.heap.size c6) (RowS w0.heap.size w0.heap.size m C) (vs.map vsP)
    (fun va W W' hf h=>by obtain ⟨gb,e1,e2,e3⟩:=h;exact ⟨gb,e1,e2,e3.fr hf (by omega)⟩) (fun va u W W' hf h=>by obtain ⟨gg,cc,e1,e2,e3⟩:=h;exact ⟨gg,cc,e1,e2,e3.fr hf (by omega)⟩) (fun _ _ _ _=>trivial) (.inr hda) hdt hk h0.drew trivial hob
    (fun vals W _ h1 h3 h4 h2=>hend vals W h1 (h3 hsl) (h4 htl) (all_ofG (fun i hi=>h2 i (by omega)) ha hs ht))
theorem wp_SGO {P:Program} {ops:List Oper} {a0:Act} {id:Nat} {Q:Exit→Act→World→Prop} {w0:World} {w:World} {g base j:Nat} {q:Ot} {v p p':Value} {l:List Pu} {bs rs:List Bx} {seen:List Ce} {D:Exit→World→Prop} {old on oc:Nat} {oC:Array Value} (k a s t m:Nat) (B:World→Prop) (c6 C:Array Value) (vs:Vs) (n:Nat) (h0:ST w g q v base p j p' l bs w0) (hb:Begin w g q v base p seen) (hn:bs[n]?=some (.pile old on oc oC)) (hr:bs.eraseIdx n=rs)
    (hob:∀ vals:Nat→Value,ObD D P ops.toArray (Cg w0 k s (fun x=>x=g) (fun x=>x=old∨w0.heap.size≤x) (ST w g q v base p j p' l rs) B (fun W=>Pile W old on oc oC)) (Rw k s (fun x=>x=g) (fun x=>x=old∨w0.heap.size≤x) (ST w g q v base p j p' l rs) B (RowA w0.heap.size c6)) (Fg k a s t B (RowA w0.heap.size c6) (RowS old w0.heap.size m C) (vs.map vsP)) vals 0 ops a0)
    (hend:∀ (vals:Nat→Value) W,B W→RowS old w0.heap.size m C (vals a) (vals s) W→vals t=vals s→allF vals 0 vs→Q .normal (TL vals 0 ops a0) W)
    (hda:∀ o,ops[s]?=some o→∃ e∈o.after,Region.binds .any e=true∧e.on=a) (hdt:∀ o,ops[t]?=some o→∃ e∈o.after,Region.binds .any e=true∧e.on=s)
    (hQ:∀ e (a:Act) w,a.defers=a0.defers→D e w→Q e a w:=by rintro _ _ _ hd ⟨c,rfl,h⟩;exact ⟨hd,h⟩) (hm:P.follows .mixedOrders=true:=by kernel_rfl) (hB:fitC ops.toArray=true:=by kernel_rfl) (hka:k≠a:=by decide) (hks:k≠s:=by decide) (hkt:k≠t:=by decide) (hst:s≠t:=by decide) (hk:k < ops.length:=by decide) (hsl:s < ops.length:=by decide) (htl:t < ops.length:=by decide) (hl:vs.length=ops.length:=by rfl) (ha:vs.getD a none=none:=by rfl) (hs:vs.getD s none=none:=by rfl) (ht:vs.getD t none=none:=by rfl):(Code.region id ops.toArray true).wp P Q a0 w0:=
  have hg:=h0.gl hb
  have hog:old≠g:=(show (Bx.pile old on oc oC).ok w g from h0.ok _ (List.mem_of_getElem? hn)).1
  wp_region_growC hQ hm hB k a s t hka hks hkt hst (fun x=>x=g) (fun x=>x=old∨w0.heap.size≤x) (ST w g q v base p j p' l rs) B (fun W=>Pile W old on oc oC) (RowA w0.heap.size c6) (RowS old w0.heap.size m C) (vs.map vsP)
    (fun va W W' hf h=>by obtain ⟨gb,e1,e2,e3⟩:=h;exact ⟨gb,e1,e2,e3.fr hf (by omega)⟩) (fun va u W W' hf h=>by obtain ⟨gg,cc,e1,e2,e3⟩:=h;exact ⟨gg,cc,e1,e2,e3.fr hf (by omega)⟩) (fun W W' hf h=>h.fr hf hog) (.inr hda) hdt hk (h0.drew.era n hr) (Hid.out (Bxs.get (x:=.pile old on oc oC) h0.drew.bx n hn)) hob
    (fun vals W _ h1 h3 h4 h2=>hend vals W h1 (h3 hsl) (h4 htl) (all_ofG (fun i hi=>h2 i (by omega)) ha hs ht))
end Go.Proofs.YtabckmadpdchnaaGreat.Rule
namespace Go.Proofs.YtabckmadpdchnaaGreat.Rule
open Go.ChangeShapes Go.WideShapes Go.ChangeAt Go.RowKit Go.IntWalk Go.Proofs.Mem Go.Proofs.Each
theorem bid_own (w:World) (g:Nat) (q:Ot) (v:Value) (base i:Nat) (p:Value) (l:List Pu) (seen:List Ce) (hst:St w g q v base i p l) (hs:SeenAt w g v seen) (hg:g < base) (hbase:base≤w.heap.size) (hl:l.length≤700) (hi:i≤700000) (hq:q.Ok) (hok:∀ c∈seen,c.Ok) (hc:∀ c,seen[i]?=some c→hi32 c.A=q.wh) :
    Calls Tryz.prog 74 #[.pointer (some ⟨g,0,none⟩)] w (Did w g q v base i p l seen (oBid q) Rp.enc):=by
  have BEG:=Lib.hid (Begin.mk hs hg hbase hq hok (fun x hx=>hst.own.lt x hx))
  obtain ⟨W0,hW0⟩:∃ W0,w.alloc (.cells #[.int .u16 0,.int .u64 0,.int .u64 0,.int .u64 0] 35)=W0:=⟨_,rfl⟩
  have SS:Hid (ST w g q v base p i p l [.box w.heap.size #[.int .u16 0,.int .u64 0,.int .u64 0,.int .u64 0] 35] W0):=Lib.hid (by rw [← hW0];exact ST.start hst BEG.out _ _)
  have HI:=Lib.hid hi
  have HQ:=Lib.hid hq
  have HOK:=Lib.hid hok
  have HL:=Lib.hid hl
  have HC:=Lib.hid hc
  obtain ⟨ce0,hce0⟩:=the_cell seen (i)
  have CE0:=Lib.hid hce0
  clear hst hs hg hbase hl hi hq hok hc hce0
  go_enter Tryz.func74,Tryz.ntmps74
  go_upto_region 1 with fail
  try rw [hW0]
  clear hW0
  refine wp_SK (D:=DP w g q v base i p l seen (oBid q) Rp.enc) 9 10 11 (seen[i]?=some ce0∧ce0.is=true) (i + 1) #[.int .u64 ce0.A,.int .u64 ce0.B,.int .u8 6,.int .u32 q.id,.int .u32 0,.bool true] [pw g 0,pw g 0,pw g 7,pw g 0,pw g 0,pw g 0,pw g 4,some (.int .u32 q.id,True),some (.agg #[.int .u8 6,.int .u32 q.id,.int .u32 0],True),some (.agg (thing ce0.A ce0.B 6 q.id 0 true),True),none,none] SS.out (fun vals=>?_) (fun vals W1 hB hfin hall=>?_) (ea 10 rfl)
  · simp only [ObD,Act.put,qA,qC,qZ]
    refine ⟨?_,?_,?_,?_,?_,?_,?_,?_,?o0_8,?o0_9,?o0_10,?o0_11,trivial⟩
    all_goals (intro L W hL hk hC hw;have f:=deps hw rfl rfl;simp only [depF,vsP,pw,qS,qD,and_true,true_and] at f)
    case o0_8=>have CL:=Lib.hid (auction_any q.id W);clear hL hC hk hw;refine spD rfl ?_;go_simp;(with_reducible refine CL.out.mono ?_);rintro e w8 ⟨rfl,h2⟩;first | exact sq h2 rfl ⟨rfl,trivial⟩ | exact ⟨_,rfl,sq h2 rfl ⟨rfl,trivial⟩⟩
    case o0_9=>
      have CL:=Lib.hid (there_K SS.out (hC.pre hk) BEG.out (by have:=HI.out;omega) CE0.out 6 q.id 0);clear hL hC hk hw;refine spD rfl ?_;go_simp;(with_reducible refine CL.out.mono ?_);rintro e w8 (⟨h,rfl,h2⟩ | ⟨h,h3,rfl,h2⟩ | ⟨rfl,hf,H⟩)
      · exact ⟨_,rfl,Did.miss (by unfold oBid;simp only [runOm_bind,run_there_no h]) h2⟩
      · exact ⟨_,rfl,Did.err (by unfold oBid;simp only [runOm_bind,run_there_not h h3]) h2⟩
      · first | exact kv hf H rfl ⟨rfl,trivial⟩ | exact ⟨_,rfl,kv hf H rfl ⟨rfl,trivial⟩⟩
    case o0_10=>have ZZ:=hC.fr.size;clear hL hC hk hw;refine spD rfl ?_;go_simp;exact am ZZ
    case o0_11=>obtain ⟨gt,C,fa,hgt,bx0,hc⟩:=Fw.geta (hw ⟨10,.data⟩ (by simp) rfl) (by decide);obtain ⟨c0,c1,c2,c3,c4,c5,rfl⟩:=arr6 hc;have q:=six_cells bx0;have BXX:=Lib.hid bx0;have FA:=Lib.hid fa;clear bx0 hc;unfold thing at f;clear hL hC hk hw;refine spD rfl ?_;go_simp;exact sm SS.out BEG.out BXX.out hgt FA.out
    all_goals (have c:=kn7 hC;clear hL hC hk hw;refine spD rfl ?_;go_simp;first | exact sv rfl ⟨rfl,trivial⟩ | exact ⟨_,rfl,sv rfl ⟨rfl,trivial⟩⟩)
  have S0:=Lib.hid hB.1
  simp only [allF,vsP,pw,true_and,and_true,Nat.reduceAdd] at hall
  obtain ⟨gt0,fa,hgt,bx⟩:=hfin
  simp only [TL,Act.put,qA,qC,qZ,hall,fa]
  replace SS:=Lib.hid (SS.out.push BEG.out hB.st SS.out.lt hgt bx)
  clear hall vals hB fa hgt bx
  have y0:W1.cell? ⟨gt0,0,none⟩=some (.int .u64 ce0.A):=SS.out.bx.1.out.cell 0
  go_wp2_with fail
  (with_reducible refine (unpair_any ce0.A (A_ok HOK.out S0.out.1) _).mono ?_)
  rintro e W2 ⟨rfl,hbl⟩
  clear y0
  replace SS:=Lib.hid (SS.out.later hbl)
  clear hbl
  have d1:(hi32 ce0.A == q.wh)=true:=by have:=HC.out ce0 S0.out.1;simpa using this
  have y0:W2.cell? ⟨g,1,none⟩=some (.int .u32 q.wh):=SS.out.kn.c1
  go_wp2_with fail
  (with_reducible refine (deny_yes 213 _).mono ?_)
  rintro e W3 ⟨rfl,rfl⟩
  exact ⟨rfl,Did.err (by unfold oBid;simp only [runOm_bind,run_there S0.out.1 S0.out.2,decide_eq_true (HC.out ce0 S0.out.1),run_deny_yes]) (SS.out.low BEG.out)⟩
theorem bid_lowp (w:World) (g:Nat) (q:Ot) (v:Value) (base i:Nat) (p:Value) (l:List Pu) (seen:List Ce) (hst:St w g q v base i p l) (hs:SeenAt w g v seen) (hg:g < base) (hbase:base≤w.heap.size) (hl:l.length≤700) (hi:i≤700000) (hq:q.Ok) (hok:∀ c∈seen,c.Ok) (hc:∀ c,seen[i]?=some c→hi32 c.A≠q.wh) (h1:∀ c,seen[i + 1]?=some c→q.n < c.vA) :
    Calls Tryz.prog 74 #[.pointer (some ⟨g,0,none⟩)] w (Did w g q v base i p l seen (oBid q) Rp.enc):=by
  have BEG:=Lib.hid (Begin.mk hs hg hbase hq hok (fun x hx=>hst.own.lt x hx))
  obtain ⟨W0,hW0⟩:∃ W0,w.alloc (.cells #[.int .u16 0,.int .u64 0,.int .u64 0,.int .u64 0] 35)=W0:=⟨_,rfl⟩
  have SS:Hid (ST w g q v base p i p l [.box w.heap.size #[.int .u16 0,.int .u64 0,.int .u64 0,.int .u64 0] 35] W0):=Lib.hid (by rw [← hW0];exact ST.start hst BEG.out _ _)
  have HI:=Lib.hid hi
  have HQ:=Lib.hid hq
  have HOK:=Lib.hid hok
  have HL:=Lib.hid hl
  have HC:=Lib.hid hc
  have H1:=Lib.hid h1
  obtain ⟨ce0,hce0⟩:=the_cell seen (i)
  have CE0:=Lib.hid hce0
  obtain ⟨ce1,hce1⟩:=the_cell seen (i + 1)
  have CE1:=Lib.hid hce1
  obtain ⟨ce2,hce2⟩:=the_cell seen (i + 1 + 1)
  have CE2:=Lib.hid hce2
  clear hst hs hg hbase hl hi hq hok hc h1 hce0 hce1 hce2
  go_enter Tryz.func74,Tryz.ntmps74
  go_upto_region 1 with fail
  try rw [hW0]
  clear hW0
  refine wp_SK (D:=DP w g q v base i p l seen (oBid q) Rp.enc) 9 10 11 (seen[i]?=some ce0∧ce0.is=true) (i + 1) #[.int .u64 ce0.A,.int .u64 ce0.B,.int .u8 6,.int .u32 q.id,.int .u32 0,.bool true] [pw g 0,pw g 0,pw g 7,pw g 0,pw g 0,pw g 0,pw g 4,some (.int .u32 q.id,True),some (.agg #[.int .u8 6,.int .u32 q.id,.int .u32 0],True),some (.agg (thing ce0.A ce0.B 6 q.id 0 true),True),none,none] SS.out (fun vals=>?_) (fun vals W1 hB hfin hall=>?_) (ea 10 rfl)
  · simp only [ObD,Act.put,qA,qC,qZ]
    refine ⟨?_,?_,?_,?_,?_,?_,?_,?_,?o0_8,?o0_9,?o0_10,?o0_11,trivial⟩
    all_goals (intro L W hL hk hC hw;have f:=deps hw rfl rfl;simp only [depF,vsP,pw,qS,qD,and_true,true_and] at f)
    case o0_8=>have CL:=Lib.hid (auction_any q.id W);clear hL hC hk hw;refine spD rfl ?_;go_simp;(with_reducible refine CL.out.mono ?_);rintro e w8 ⟨rfl,h2⟩;first | exact sq h2 rfl ⟨rfl,trivial⟩ | exact ⟨_,rfl,sq h2 rfl ⟨rfl,trivial⟩⟩
    case o0_9=>
      have CL:=Lib.hid (there_K SS.out (hC.pre hk) BEG.out (by have:=HI.out;omega) CE0.out 6 q.id 0);clear hL hC hk hw;refine spD rfl ?_;go_simp;(with_reducible refine CL.out.mono ?_);rintro e w8 (⟨h,rfl,h2⟩ | ⟨h,h3,rfl,h2⟩ | ⟨rfl,hf,H⟩)
      · exact ⟨_,rfl,Did.miss (by unfold oBid;simp only [runOm_bind,run_there_no h]) h2⟩
      · exact ⟨_,rfl,Did.err (by unfold oBid;simp only [runOm_bind,run_there_not h h3]) h2⟩
      · first | exact kv hf H rfl ⟨rfl,trivial⟩ | exact ⟨_,rfl,kv hf H rfl ⟨rfl,trivial⟩⟩
    case o0_10=>have ZZ:=hC.fr.size;clear hL hC hk hw;refine spD rfl ?_;go_simp;exact am ZZ
    case o0_11=>obtain ⟨gt,C,fa,hgt,bx0,hc⟩:=Fw.geta (hw ⟨10,.data⟩ (by simp) rfl) (by decide);obtain ⟨c0,c1,c2,c3,c4,c5,rfl⟩:=arr6 hc;have q:=six_cells bx0;have BXX:=Lib.hid bx0;have FA:=Lib.hid fa;clear bx0 hc;unfold thing at f;clear hL hC hk hw;refine spD rfl ?_;go_simp;exact sm SS.out BEG.out BXX.out hgt FA.out
    all_goals (have c:=kn7 hC;clear hL hC hk hw;refine spD rfl ?_;go_simp;first | exact sv rfl ⟨rfl,trivial⟩ | exact ⟨_,rfl,sv rfl ⟨rfl,trivial⟩⟩)
  have S0:=Lib.hid hB.1
  simp only [allF,vsP,pw,true_and,and_true,Nat.reduceAdd] at hall
  obtain ⟨gt0,fa,hgt,bx⟩:=hfin
  simp only [TL,Act.put,qA,qC,qZ,hall,fa]
  replace SS:=Lib.hid (SS.out.push BEG.out hB.st SS.out.lt hgt bx)
  clear hall vals hB fa hgt bx
  have y0:W1.cell? ⟨gt0,0,none⟩=some (.int .u64 ce0.A):=SS.out.bx.1.out.cell 0
  go_wp2_with fail
  (with_reducible refine (unpair_any ce0.A (A_ok HOK.out S0.out.1) _).mono ?_)
  rintro e W2 ⟨rfl,hbl⟩
  clear y0
  replace SS:=Lib.hid (SS.out.later hbl)
  clear hbl
  have d1:(hi32 ce0.A == q.wh)=false:=by have:=HC.out ce0 S0.out.1;simpa using this
  have y0:W2.cell? ⟨g,1,none⟩=some (.int .u32 q.wh):=SS.out.kn.c1
  go_wp2_with fail
  (with_reducible refine (deny_no 213 _).mono ?_)
  rintro e W3 ⟨rfl,rfl⟩
  clear d1 y0
  go_upto_region 4 with fail
  refine wp_SK (D:=DP w g q v base i p l seen (oBid q) Rp.enc) 9 10 11 (seen[i + 1]?=some ce1) (i + 1 + 1) #[.int .u64 ce1.vA,.int .u64 ce1.vB,.int .u8 7,.int .u32 q.id,.int .u32 1,.bool ce1.is] [pw g 0,pw g 0,pw g 7,pw g 0,pw g 0,pw g 0,pw g 4,some (.int .u32 q.id,True),some (.agg #[.int .u8 7,.int .u32 q.id,.int .u32 1],True),some (.agg (thing ce1.vA ce1.vB 7 q.id 1 ce1.is),True),none,none] SS.out (fun vals=>?_) (fun vals W4 hB hfin hall=>?_) (ea 10 rfl)
  · simp only [ObD,Act.put,qA,qC,qZ]
    refine ⟨?_,?_,?_,?_,?_,?_,?_,?_,?o3_8,?o3_9,?o3_10,?o3_11,trivial⟩
    all_goals (intro L W hL hk hC hw;have f:=deps hw rfl rfl;simp only [depF,vsP,pw,qS,qD,and_true,true_and] at f)
    case o3_8=>have CL:=Lib.hid (price_any q.id W);clear hL hC hk hw;refine spD rfl ?_;go_simp;(with_reducible refine CL.out.mono ?_);rintro e w8 ⟨rfl,h2⟩;first | exact sq h2 rfl ⟨rfl,trivial⟩ | exact ⟨_,rfl,sq h2 rfl ⟨rfl,trivial⟩⟩
    case o3_9=>
      have CL:=Lib.hid (look_K SS.out (hC.pre hk) BEG.out (by have:=HI.out;omega) CE1.out 7 q.id 1);clear hL hC hk hw;refine spD rfl ?_;go_simp;(with_reducible refine CL.out.mono ?_);rintro e w8 (⟨h,rfl,h2⟩ | ⟨h1,rfl,hf,H⟩)
      · exact ⟨_,rfl,Did.miss (by unfold oBid;simp only [runOm_bind,run_there S0.out.1 S0.out.2,decide_eq_false (HC.out ce0 S0.out.1),run_deny_no,run_look_no h]) h2⟩
      · first | exact kv hf H rfl ⟨rfl,trivial⟩ | exact ⟨_,rfl,kv hf H rfl ⟨rfl,trivial⟩⟩
    case o3_10=>have ZZ:=hC.fr.size;clear hL hC hk hw;refine spD rfl ?_;go_simp;exact am ZZ
    case o3_11=>obtain ⟨gt,C,fa,hgt,bx0,hc⟩:=Fw.geta (hw ⟨10,.data⟩ (by simp) rfl) (by decide);obtain ⟨c0,c1,c2,c3,c4,c5,rfl⟩:=arr6 hc;have q:=six_cells bx0;have BXX:=Lib.hid bx0;have FA:=Lib.hid fa;clear bx0 hc;unfold thing at f;clear hL hC hk hw;refine spD rfl ?_;go_simp;exact sm SS.out BEG.out BXX.out hgt FA.out
    all_goals (have c:=kn7 hC;clear hL hC hk hw;refine spD rfl ?_;go_simp;first | exact sv rfl ⟨rfl,trivial⟩ | exact ⟨_,rfl,sv rfl ⟨rfl,trivial⟩⟩)
  have S1:=Lib.hid hB.1
  simp only [allF,vsP,pw,true_and,and_true,Nat.reduceAdd] at hall
  obtain ⟨gt1,fa,hgt,bx⟩:=hfin
  simp only [TL,Act.put,qA,qC,qZ,hall,fa]
  replace SS:=Lib.hid (SS.out.push BEG.out hB.st SS.out.lt hgt bx)
  clear hall vals hB fa hgt bx
  go_upto_region 5 with fail
  refine wp_SK (D:=DP w g q v base i p l seen (oBid q) Rp.enc) 9 10 11 (seen[i + 1 + 1]?=some ce2) (i + 1 + 1 + 1) #[.int .u64 ce2.vA,.int .u64 ce2.vB,.int .u8 7,.int .u32 q.id,.int .u32 0,.bool ce2.is] [pw g 0,pw g 0,pw g 7,pw g 0,pw g 0,pw g 0,pw g 4,some (.int .u32 q.id,True),some (.agg #[.int .u8 7,.int .u32 q.id,.int .u32 0],True),some (.agg (thing ce2.vA ce2.vB 7 q.id 0 ce2.is),True),none,none] SS.out (fun vals=>?_) (fun vals W5 hB hfin hall=>?_) (ea 10 rfl)
  · simp only [ObD,Act.put,qA,qC,qZ]
    refine ⟨?_,?_,?_,?_,?_,?_,?_,?_,?o4_8,?o4_9,?o4_10,?o4_11,trivial⟩
    all_goals (intro L W hL hk hC hw;have f:=deps hw rfl rfl;simp only [depF,vsP,pw,qS,qD,and_true,true_and] at f)
    case o4_8=>have CL:=Lib.hid (bid_any q.id W);clear hL hC hk hw;refine spD rfl ?_;go_simp;(with_reducible refine CL.out.mono ?_);rintro e w8 ⟨rfl,h2⟩;first | exact sq h2 rfl ⟨rfl,trivial⟩ | exact ⟨_,rfl,sq h2 rfl ⟨rfl,trivial⟩⟩
    case o4_9=>
      have CL:=Lib.hid (look_K SS.out (hC.pre hk) BEG.out (by have:=HI.out;omega) CE2.out 7 q.id 0);clear hL hC hk hw;refine spD rfl ?_;go_simp;(with_reducible refine CL.out.mono ?_);rintro e w8 (⟨h,rfl,h2⟩ | ⟨h1,rfl,hf,H⟩)
      · exact ⟨_,rfl,Did.miss (by unfold oBid;simp only [runOm_bind,run_there S0.out.1 S0.out.2,decide_eq_false (HC.out ce0 S0.out.1),run_deny_no,run_look S1.out,run_look_no h]) h2⟩
      · first | exact kv hf H rfl ⟨rfl,trivial⟩ | exact ⟨_,rfl,kv hf H rfl ⟨rfl,trivial⟩⟩
    case o4_10=>have ZZ:=hC.fr.size;clear hL hC hk hw;refine spD rfl ?_;go_simp;exact am ZZ
    case o4_11=>obtain ⟨gt,C,fa,hgt,bx0,hc⟩:=Fw.geta (hw ⟨10,.data⟩ (by simp) rfl) (by decide);obtain ⟨c0,c1,c2,c3,c4,c5,rfl⟩:=arr6 hc;have q:=six_cells bx0;have BXX:=Lib.hid bx0;have FA:=Lib.hid fa;clear bx0 hc;unfold thing at f;clear hL hC hk hw;refine spD rfl ?_;go_simp;exact sm SS.out BEG.out BXX.out hgt FA.out
    all_goals (have c:=kn7 hC;clear hL hC hk hw;refine spD rfl ?_;go_simp;first | exact sv rfl ⟨rfl,trivial⟩ | exact ⟨_,rfl,sv rfl ⟨rfl,trivial⟩⟩)
  have S2:=Lib.hid hB.1
  simp only [allF,vsP,pw,true_and,and_true,Nat.reduceAdd] at hall
  obtain ⟨gt2,fa,hgt,bx⟩:=hfin
  simp only [TL,Act.put,qA,qC,qZ,hall,fa]
  replace SS:=Lib.hid (SS.out.push BEG.out hB.st SS.out.lt hgt bx)
  clear hall vals hB fa hgt bx
  go_upto_region 6 with fail
  have LT0:=Lib.hid ((decide_eq_true (H1.out ce1 S1.out):decide (q.n < ce1.vA)=true))
  refine wp_SA (D:=DP w g q v base i p l seen (oBid q) Rp.enc) 24 25 26 False False (i + 1 + 1 + 1) l [pw g 0,pw g 0,pw g 0,pw g 5,some (.int .u64 q.n,True),some (.pointer (some ⟨gt1,0,none⟩),True),some (.pointer (some ⟨gt1,0,none⟩),True),some (.int .u64 ce1.vA,True),some (.bool true,True),some (.bool true,True),some (undef,True),some (undef,True),some (undef,True),some (undef,True),some (undef,True),some (undef,True),some (undef,True),some (undef,True),some (undef,True),some (undef,True),some (undef,True),some (undef,True),some (undef,True),some (.bool true,True),some (.tuple #[],True)] SS.out (fun vals=>?_) (fun vals W6 hB hall=>?_)
  · simp only [ObD,Act.put,qA,qC,qZ]
    refine ⟨?_,?_,?_,?_,?_,?_,?_,?o5_7,?o5_8,?_,?o5_10,?o5_11,?o5_12,?o5_13,?o5_14,?o5_15,?o5_16,?o5_17,?o5_18,?o5_19,?o5_20,?o5_21,?o5_22,?o5_23,?o5_24,trivial⟩
    all_goals (intro L W hL hk hC hw;have f:=deps hw rfl rfl;simp only [depF,vsP,pw,qS,qD,and_true,true_and] at f)
    case' o5_7=>have k0:W.cell? ⟨gt1,0,none⟩=some (.int .u64 ce1.vA):=(cw_bx hC).2.1.out.cell 0
    case' o5_8=>have lt0:=LT0.out
    case' o5_23=>have lt0:=LT0.out
    case o5_10=>have fg:vals 9=.bool true:=(Fw.get (f:=vsP (some (.bool true,True))) (hw ⟨9,.guard⟩ (by simp) rfl) (by decide) (by decide) rfl).1;exact wp_unwantedD rfl (yielded_of rfl fg) (by decide) (sv rfl ⟨rfl,trivial⟩)
    case o5_11=>have fg:vals 9=.bool true:=(Fw.get (f:=vsP (some (.bool true,True))) (hw ⟨9,.guard⟩ (by simp) rfl) (by decide) (by decide) rfl).1;exact wp_unwantedD rfl (yielded_of rfl fg) (by decide) (sv rfl ⟨rfl,trivial⟩)
    case o5_12=>have fg:vals 9=.bool true:=(Fw.get (f:=vsP (some (.bool true,True))) (hw ⟨9,.chain⟩ (by simp) rfl) (by decide) (by decide) rfl).1;exact wp_unwantedD rfl (yielded_of rfl fg) (by decide) (sv rfl ⟨rfl,trivial⟩)
    case o5_13=>have fg:vals 12=undef:=(Fw.get (f:=vsP (some (undef,True))) (hw ⟨12,.guard⟩ (by simp) rfl) (by decide) (by decide) rfl).1;exact wp_unwantedN rfl (yielded_no rfl fg) (sv rfl ⟨rfl,trivial⟩)
    case o5_14=>have fg:vals 12=undef:=(Fw.get (f:=vsP (some (undef,True))) (hw ⟨12,.guard⟩ (by simp) rfl) (by decide) (by decide) rfl).1;exact wp_unwantedN rfl (yielded_no rfl fg) (sv rfl ⟨rfl,trivial⟩)
    case o5_15=>have fg:vals 12=undef:=(Fw.get (f:=vsP (some (undef,True))) (hw ⟨12,.guard⟩ (by simp) rfl) (by decide) (by decide) rfl).1;exact wp_unwantedN rfl (yielded_no rfl fg) (sv rfl ⟨rfl,trivial⟩)
    case o5_16=>have fg:vals 12=undef:=(Fw.get (f:=vsP (some (undef,True))) (hw ⟨12,.guard⟩ (by simp) rfl) (by decide) (by decide) rfl).1;exact wp_unwantedN rfl (yielded_no rfl fg) (sv rfl ⟨rfl,trivial⟩)
    case o5_17=>have fg:vals 12=undef:=(Fw.get (f:=vsP (some (undef,True))) (hw ⟨12,.guard⟩ (by simp) rfl) (by decide) (by decide) rfl).1;exact wp_unwantedN rfl (yielded_no rfl fg) (sv rfl ⟨rfl,trivial⟩)
    case o5_18=>have fg:vals 12=undef:=(Fw.get (f:=vsP (some (undef,True))) (hw ⟨12,.guard⟩ (by simp) rfl) (by decide) (by decide) rfl).1;exact wp_unwantedN rfl (yielded_no rfl fg) (sv rfl ⟨rfl,trivial⟩)
    case o5_19=>have fg:vals 12=undef:=(Fw.get (f:=vsP (some (undef,True))) (hw ⟨12,.guard⟩ (by simp) rfl) (by decide) (by decide) rfl).1;exact wp_unwantedN rfl (yielded_no rfl fg) (sv rfl ⟨rfl,trivial⟩)
    case o5_20=>have fg:vals 12=undef:=(Fw.get (f:=vsP (some (undef,True))) (hw ⟨12,.guard⟩ (by simp) rfl) (by decide) (by decide) rfl).1;exact wp_unwantedN rfl (yielded_no rfl fg) (sv rfl ⟨rfl,trivial⟩)
    case o5_21=>have fg:vals 12=undef:=(Fw.get (f:=vsP (some (undef,True))) (hw ⟨12,.guard⟩ (by simp) rfl) (by decide) (by decide) rfl).1;exact wp_unwantedN rfl (yielded_no rfl fg) (sv rfl ⟨rfl,trivial⟩)
    case o5_22=>have fg:vals 9=.bool true:=(Fw.get (f:=vsP (some (.bool true,True))) (hw ⟨9,.guard⟩ (by simp) rfl) (by decide) (by decide) rfl).1;exact wp_unwantedD rfl (yielded_of rfl fg) (by decide) (sv rfl ⟨rfl,trivial⟩)
    case o5_24=>have AX:=Lib.hid (hC.pre hk);clear hL hC hk hw;refine spD rfl ?_;go_simp;(with_reducible refine (deny_yes 214 _).mono ?_);rintro e w8 ⟨rfl,rfl⟩;exact ⟨_,rfl,Did.err (by unfold oBid;simp only [runOm_bind,run_there S0.out.1 S0.out.2,decide_eq_false (HC.out ce0 S0.out.1),run_deny_no,run_look S1.out,run_look S2.out,decide_eq_true (H1.out ce1 S1.out),Bool.true_or,run_deny_yes]) (AX.out.low BEG.out)⟩
    all_goals (have c:=kn7 hC;clear hL hC hk hw;refine spD rfl ?_;go_simp;first | exact sv rfl ⟨rfl,trivial⟩ | exact ⟨_,rfl,sv rfl ⟨rfl,trivial⟩⟩)
  exact hB.1.elim
theorem bid_lowb (w:World) (g:Nat) (q:Ot) (v:Value) (base i:Nat) (p:Value) (l:List Pu) (seen:List Ce) (hst:St w g q v base i p l) (hs:SeenAt w g v seen) (hg:g < base) (hbase:base≤w.heap.size) (hl:l.length≤700) (hi:i≤700000) (hq:q.Ok) (hok:∀ c∈seen,c.Ok) (hc:∀ c,seen[i]?=some c→hi32 c.A≠q.wh) (h1:∀ c,seen[i + 1]?=some c→¬ q.n < c.vA) (h2:∀ c,seen[i + 1 + 1]?=some c→c.is=true) (h3:∀ c,seen[i + 1 + 1]?=some c→ q.n≤c.vA) :
    Calls Tryz.prog 74 #[.pointer (some ⟨g,0,none⟩)] w (Did w g q v base i p l seen (oBid q) Rp.enc):=by
  have BEG:=Lib.hid (Begin.mk hs hg hbase hq hok (fun x hx=>hst.own.lt x hx))
  obtain ⟨W0,hW0⟩:∃ W0,w.alloc (.cells #[.int .u16 0,.int .u64 0,.int .u64 0,.int .u64 0] 35)=W0:=⟨_,rfl⟩
  have SS:Hid (ST w g q v base p i p l [.box w.heap.size #[.int .u16 0,.int .u64 0,.int .u64 0,.int .u64 0] 35] W0):=Lib.hid (by rw [← hW0];exact ST.start hst BEG.out _ _)
  have HI:=Lib.hid hi
  have HQ:=Lib.hid hq
  have HOK:=Lib.hid hok
  have HL:=Lib.hid hl
  have HC:=Lib.hid hc
  have H1:=Lib.hid h1
  have H2:=Lib.hid h2
  have H3:=Lib.hid h3
  obtain ⟨ce0,hce0⟩:=the_cell seen (i)
  have CE0:=Lib.hid hce0
  obtain ⟨ce1,hce1⟩:=the_cell seen (i + 1)
  have CE1:=Lib.hid hce1
  obtain ⟨ce2,hce2⟩:=the_cell seen (i + 1 + 1)
  have CE2:=Lib.hid hce2
  clear hst hs hg hbase hl hi hq hok hc h1 h2 h3 hce0 hce1 hce2
  go_enter Tryz.func74,Tryz.ntmps74
  go_upto_region 1 with fail
  try rw [hW0]
  clear hW0
  refine wp_SK (D:=DP w g q v base i p l seen (oBid q) Rp.enc) 9 10 11 (seen[i]?=some ce0∧ce0.is=true) (i + 1) #[.int .u64 ce0.A,.int .u64 ce0.B,.int .u8 6,.int .u32 q.id,.int .u32 0,.bool true] [pw g 0,pw g 0,pw g 7,pw g 0,pw g 0,pw g 0,pw g 4,some (.int .u32 q.id,True),some (.agg #[.int .u8 6,.int .u32 q.id,.int .u32 0],True),some (.agg (thing ce0.A ce0.B 6 q.id 0 true),True),none,none] SS.out (fun vals=>?_) (fun vals W1 hB hfin hall=>?_) (ea 10 rfl)
  · simp only [ObD,Act.put,qA,qC,qZ]
    refine ⟨?_,?_,?_,?_,?_,?_,?_,?_,?o0_8,?o0_9,?o0_10,?o0_11,trivial⟩
    all_goals (intro L W hL hk hC hw;have f:=deps hw rfl rfl;simp only [depF,vsP,pw,qS,qD,and_true,true_and] at f)
    case o0_8=>have CL:=Lib.hid (auction_any q.id W);clear hL hC hk hw;refine spD rfl ?_;go_simp;(with_reducible refine CL.out.mono ?_);rintro e w8 ⟨rfl,h2⟩;first | exact sq h2 rfl ⟨rfl,trivial⟩ | exact ⟨_,rfl,sq h2 rfl ⟨rfl,trivial⟩⟩
    case o0_9=>
      have CL:=Lib.hid (there_K SS.out (hC.pre hk) BEG.out (by have:=HI.out;omega) CE0.out 6 q.id 0);clear hL hC hk hw;refine spD rfl ?_;go_simp;(with_reducible refine CL.out.mono ?_);rintro e w8 (⟨h,rfl,h2⟩ | ⟨h,h3,rfl,h2⟩ | ⟨rfl,hf,H⟩)
      · exact ⟨_,rfl,Did.miss (by unfold oBid;simp only [runOm_bind,run_there_no h]) h2⟩
      · exact ⟨_,rfl,Did.err (by unfold oBid;simp only [runOm_bind,run_there_not h h3]) h2⟩
      · first | exact kv hf H rfl ⟨rfl,trivial⟩ | exact ⟨_,rfl,kv hf H rfl ⟨rfl,trivial⟩⟩
    case o0_10=>have ZZ:=hC.fr.size;clear hL hC hk hw;refine spD rfl ?_;go_simp;exact am ZZ
    case o0_11=>obtain ⟨gt,C,fa,hgt,bx0,hc⟩:=Fw.geta (hw ⟨10,.data⟩ (by simp) rfl) (by decide);obtain ⟨c0,c1,c2,c3,c4,c5,rfl⟩:=arr6 hc;have q:=six_cells bx0;have BXX:=Lib.hid bx0;have FA:=Lib.hid fa;clear bx0 hc;unfold thing at f;clear hL hC hk hw;refine spD rfl ?_;go_simp;exact sm SS.out BEG.out BXX.out hgt FA.out
    all_goals (have c:=kn7 hC;clear hL hC hk hw;refine spD rfl ?_;go_simp;first | exact sv rfl ⟨rfl,trivial⟩ | exact ⟨_,rfl,sv rfl ⟨rfl,trivial⟩⟩)
  have S0:=Lib.hid hB.1
  simp only [allF,vsP,pw,true_and,and_true,Nat.reduceAdd] at hall
  obtain ⟨gt0,fa,hgt,bx⟩:=hfin
  simp only [TL,Act.put,qA,qC,qZ,hall,fa]
  replace SS:=Lib.hid (SS.out.push BEG.out hB.st SS.out.lt hgt bx)
  clear hall vals hB fa hgt bx
  have y0:W1.cell? ⟨gt0,0,none⟩=some (.int .u64 ce0.A):=SS.out.bx.1.out.cell 0
  go_wp2_with fail
  (with_reducible refine (unpair_any ce0.A (A_ok HOK.out S0.out.1) _).mono ?_)
  rintro e W2 ⟨rfl,hbl⟩
  clear y0
  replace SS:=Lib.hid (SS.out.later hbl)
  clear hbl
  have d1:(hi32 ce0.A == q.wh)=false:=by have:=HC.out ce0 S0.out.1;simpa using this
  have y0:W2.cell? ⟨g,1,none⟩=some (.int .u32 q.wh):=SS.out.kn.c1
  go_wp2_with fail
  (with_reducible refine (deny_no 213 _).mono ?_)
  rintro e W3 ⟨rfl,rfl⟩
  clear d1 y0
  go_upto_region 4 with fail
  refine wp_SK (D:=DP w g q v base i p l seen (oBid q) Rp.enc) 9 10 11 (seen[i + 1]?=some ce1) (i + 1 + 1) #[.int .u64 ce1.vA,.int .u64 ce1.vB,.int .u8 7,.int .u32 q.id,.int .u32 1,.bool ce1.is] [pw g 0,pw g 0,pw g 7,pw g 0,pw g 0,pw g 0,pw g 4,some (.int .u32 q.id,True),some (.agg #[.int .u8 7,.int .u32 q.id,.int .u32 1],True),some (.agg (thing ce1.vA ce1.vB 7 q.id 1 ce1.is),True),none,none] SS.out (fun vals=>?_) (fun vals W4 hB hfin hall=>?_) (ea 10 rfl)
  · simp only [ObD,Act.put,qA,qC,qZ]
    refine ⟨?_,?_,?_,?_,?_,?_,?_,?_,?o3_8,?o3_9,?o3_10,?o3_11,trivial⟩
    all_goals (intro L W hL hk hC hw;have f:=deps hw rfl rfl;simp only [depF,vsP,pw,qS,qD,and_true,true_and] at f)
    case o3_8=>have CL:=Lib.hid (price_any q.id W);clear hL hC hk hw;refine spD rfl ?_;go_simp;(with_reducible refine CL.out.mono ?_);rintro e w8 ⟨rfl,h2⟩;first | exact sq h2 rfl ⟨rfl,trivial⟩ | exact ⟨_,rfl,sq h2 rfl ⟨rfl,trivial⟩⟩
    case o3_9=>
      have CL:=Lib.hid (look_K SS.out (hC.pre hk) BEG.out (by have:=HI.out;omega) CE1.out 7 q.id 1);clear hL hC hk hw;refine spD rfl ?_;go_simp;(with_reducible refine CL.out.mono ?_);rintro e w8 (⟨h,rfl,h2⟩ | ⟨h1,rfl,hf,H⟩)
      · exact ⟨_,rfl,Did.miss (by unfold oBid;simp only [runOm_bind,run_there S0.out.1 S0.out.2,decide_eq_false (HC.out ce0 S0.out.1),run_deny_no,run_look_no h]) h2⟩
      · first | exact kv hf H rfl ⟨rfl,trivial⟩ | exact ⟨_,rfl,kv hf H rfl ⟨rfl,trivial⟩⟩
    case o3_10=>have ZZ:=hC.fr.size;clear hL hC hk hw;refine spD rfl ?_;go_simp;exact am ZZ
    case o3_11=>obtain ⟨gt,C,fa,hgt,bx0,hc⟩:=Fw.geta (hw ⟨10,.data⟩ (by simp) rfl) (by decide);obtain ⟨c0,c1,c2,c3,c4,c5,rfl⟩:=arr6 hc;have q:=six_cells bx0;have BXX:=Lib.hid bx0;have FA:=Lib.hid fa;clear bx0 hc;unfold thing at f;clear hL hC hk hw;refine spD rfl ?_;go_simp;exact sm SS.out BEG.out BXX.out hgt FA.out
    all_goals (have c:=kn7 hC;clear hL hC hk hw;refine spD rfl ?_;go_simp;first | exact sv rfl ⟨rfl,trivial⟩ | exact ⟨_,rfl,sv rfl ⟨rfl,trivial⟩⟩)
  have S1:=Lib.hid hB.1
  simp only [allF,vsP,pw,true_and,and_true,Nat.reduceAdd] at hall
  obtain ⟨gt1,fa,hgt,bx⟩:=hfin
  simp only [TL,Act.put,qA,qC,qZ,hall,fa]
  replace SS:=Lib.hid (SS.out.push BEG.out hB.st SS.out.lt hgt bx)
  clear hall vals hB fa hgt bx
  go_upto_region 5 with fail
  refine wp_SK (D:=DP w g q v base i p l seen (oBid q) Rp.enc) 9 10 11 (seen[i + 1 + 1]?=some ce2) (i + 1 + 1 + 1) #[.int .u64 ce2.vA,.int .u64 ce2.vB,.int .u8 7,.int .u32 q.id,.int .u32 0,.bool ce2.is] [pw g 0,pw g 0,pw g 7,pw g 0,pw g 0,pw g 0,pw g 4,some (.int .u32 q.id,True),some (.agg #[.int .u8 7,.int .u32 q.id,.int .u32 0],True),some (.agg (thing ce2.vA ce2.vB 7 q.id 0 ce2.is),True),none,none] SS.out (fun vals=>?_) (fun vals W5 hB hfin hall=>?_) (ea 10 rfl)
  · simp only [ObD,Act.put,qA,qC,qZ]
    refine ⟨?_,?_,?_,?_,?_,?_,?_,?_,?o4_8,?o4_9,?o4_10,?o4_11,trivial⟩
    all_goals (intro L W hL hk hC hw;have f:=deps hw rfl rfl;simp only [depF,vsP,pw,qS,qD,and_true,true_and] at f)
    case o4_8=>have CL:=Lib.hid (bid_any q.id W);clear hL hC hk hw;refine spD rfl ?_;go_simp;(with_reducible refine CL.out.mono ?_);rintro e w8 ⟨rfl,h2⟩;first | exact sq h2 rfl ⟨rfl,trivial⟩ | exact ⟨_,rfl,sq h2 rfl ⟨rfl,trivial⟩⟩
    case o4_9=>
      have CL:=Lib.hid (look_K SS.out (hC.pre hk) BEG.out (by have:=HI.out;omega) CE2.out 7 q.id 0);clear hL hC hk hw;refine spD rfl ?_;go_simp;(with_reducible refine CL.out.mono ?_);rintro e w8 (⟨h,rfl,h2⟩ | ⟨h1,rfl,hf,H⟩)
      · exact ⟨_,rfl,Did.miss (by unfold oBid;simp only [runOm_bind,run_there S0.out.1 S0.out.2,decide_eq_false (HC.out ce0 S0.out.1),run_deny_no,run_look S1.out,run_look_no h]) h2⟩
      · first | exact kv hf H rfl ⟨rfl,trivial⟩ | exact ⟨_,rfl,kv hf H rfl ⟨rfl,trivial⟩⟩
    case o4_10=>have ZZ:=hC.fr.size;clear hL hC hk hw;refine spD rfl ?_;go_simp;exact am ZZ
    case o4_11=>obtain ⟨gt,C,fa,hgt,bx0,hc⟩:=Fw.geta (hw ⟨10,.data⟩ (by simp) rfl) (by decide);obtain ⟨c0,c1,c2,c3,c4,c5,rfl⟩:=arr6 hc;have q:=six_cells bx0;have BXX:=Lib.hid bx0;have FA:=Lib.hid fa;clear bx0 hc;unfold thing at f;clear hL hC hk hw;refine spD rfl ?_;go_simp;exact sm SS.out BEG.out BXX.out hgt FA.out
    all_goals (have c:=kn7 hC;clear hL hC hk hw;refine spD rfl ?_;go_simp;first | exact sv rfl ⟨rfl,trivial⟩ | exact ⟨_,rfl,sv rfl ⟨rfl,trivial⟩⟩)
  have S2:=Lib.hid hB.1
  simp only [allF,vsP,pw,true_and,and_true,Nat.reduceAdd] at hall
  obtain ⟨gt2,fa,hgt,bx⟩:=hfin
  simp only [TL,Act.put,qA,qC,qZ,hall,fa]
  replace SS:=Lib.hid (SS.out.push BEG.out hB.st SS.out.lt hgt bx)
  clear hall vals hB fa hgt bx
  have I2:=Lib.hid (H2.out ce2 S2.out)
  have SX:=SS.out
  rw [I2.out] at SX
  replace SS:=Lib.hid SX
  clear SX
  go_upto_region 6 with fail
  have LT0:=Lib.hid ((decide_eq_false (show ¬ q.n < ce1.vA by have:=H1.out ce1 S1.out;omega):decide (q.n < ce1.vA)=false))
  have LT1:=Lib.hid ((decide_eq_true (H3.out ce2 S2.out):decide (q.n≤ce2.vA)=true))
  refine wp_SA (D:=DP w g q v base i p l seen (oBid q) Rp.enc) 24 25 26 False False (i + 1 + 1 + 1) l [pw g 0,pw g 0,pw g 0,pw g 5,some (.int .u64 q.n,True),some (.pointer (some ⟨gt1,0,none⟩),True),some (.pointer (some ⟨gt1,0,none⟩),True),some (.int .u64 ce1.vA,True),some (.bool false,True),some (.bool false,True),some (.pointer (some ⟨gt2,5,none⟩),True),some (.bool true,True),some (.bool true,True),some (.pointer (some ⟨gt2,0,none⟩),True),some (.pointer (some ⟨gt2,0,none⟩),True),some (.int .u64 ce2.vA,True),pw g 0,pw g 0,pw g 0,pw g 5,some (.int .u64 q.n,True),some (.bool true,True),some (.bool true,True),some (.bool true,True),some (.tuple #[],True)] SS.out (fun vals=>?_) (fun vals W6 hB hall=>?_)
  · simp only [ObD,Act.put,qA,qC,qZ]
    refine ⟨?_,?_,?_,?_,?_,?_,?_,?o5_7,?o5_8,?_,?o5_10,?o5_11,?o5_12,?o5_13,?o5_14,?o5_15,?o5_16,?o5_17,?o5_18,?o5_19,?o5_20,?o5_21,?o5_22,?o5_23,?o5_24,trivial⟩
    all_goals (intro L W hL hk hC hw;have f:=deps hw rfl rfl;simp only [depF,vsP,pw,qS,qD,and_true,true_and] at f)
    case' o5_7=>have k0:W.cell? ⟨gt1,0,none⟩=some (.int .u64 ce1.vA):=(cw_bx hC).2.1.out.cell 0
    case' o5_8=>have lt0:=LT0.out;have lt1:=LT1.out
    case' o5_23=>have lt0:=LT0.out;have lt1:=LT1.out
    case o5_10=>have fg:vals 9=.bool false:=(Fw.get (f:=vsP (some (.bool false,True))) (hw ⟨9,.guard⟩ (by simp) rfl) (by decide) (by decide) rfl).1;have c:=kn7 hC;clear hL hC hk hw;refine step_guardD rfl (yielded_of rfl fg) ?_;go_simp;first | exact sv rfl ⟨rfl,trivial⟩ | exact ⟨_,rfl,sv rfl ⟨rfl,trivial⟩⟩
    case o5_11=>have fg:vals 9=.bool false:=(Fw.get (f:=vsP (some (.bool false,True))) (hw ⟨9,.guard⟩ (by simp) rfl) (by decide) (by decide) rfl).1;have k5:W.cell? ⟨gt2,5,none⟩=some (.bool true):=(cw_bx hC).1.out.cell 5;have c:=kn7 hC;clear hL hC hk hw;refine step_guardD rfl (yielded_of rfl fg) ?_;go_simp;first | exact sv rfl ⟨rfl,trivial⟩ | exact ⟨_,rfl,sv rfl ⟨rfl,trivial⟩⟩
    case o5_12=>have fg:vals 9=.bool false:=(Fw.get (f:=vsP (some (.bool false,True))) (hw ⟨9,.chain⟩ (by simp) rfl) (by decide) (by decide) rfl).1;have c:=kn7 hC;clear hL hC hk hw;refine step_guardD rfl (yielded_of rfl fg) ?_;go_simp;first | exact sv rfl ⟨rfl,trivial⟩ | exact ⟨_,rfl,sv rfl ⟨rfl,trivial⟩⟩
    case o5_13=>have fg:vals 12=.bool true:=(Fw.get (f:=vsP (some (.bool true,True))) (hw ⟨12,.guard⟩ (by simp) rfl) (by decide) (by decide) rfl).1;have c:=kn7 hC;clear hL hC hk hw;refine step_guardD rfl (yielded_of rfl fg) ?_;go_simp;first | exact sv rfl ⟨rfl,trivial⟩ | exact ⟨_,rfl,sv rfl ⟨rfl,trivial⟩⟩
    case o5_14=>have fg:vals 12=.bool true:=(Fw.get (f:=vsP (some (.bool true,True))) (hw ⟨12,.guard⟩ (by simp) rfl) (by decide) (by decide) rfl).1;have c:=kn7 hC;clear hL hC hk hw;refine step_guardD rfl (yielded_of rfl fg) ?_;go_simp;first | exact sv rfl ⟨rfl,trivial⟩ | exact ⟨_,rfl,sv rfl ⟨rfl,trivial⟩⟩
    case o5_15=>have fg:vals 12=.bool true:=(Fw.get (f:=vsP (some (.bool true,True))) (hw ⟨12,.guard⟩ (by simp) rfl) (by decide) (by decide) rfl).1;have k0:W.cell? ⟨gt2,0,none⟩=some (.int .u64 ce2.vA):=(cw_bx hC).1.out.cell 0;have c:=kn7 hC;clear hL hC hk hw;refine step_guardD rfl (yielded_of rfl fg) ?_;go_simp;first | exact sv rfl ⟨rfl,trivial⟩ | exact ⟨_,rfl,sv rfl ⟨rfl,trivial⟩⟩
    case o5_16=>have fg:vals 12=.bool true:=(Fw.get (f:=vsP (some (.bool true,True))) (hw ⟨12,.guard⟩ (by simp) rfl) (by decide) (by decide) rfl).1;have c:=kn7 hC;clear hL hC hk hw;refine step_guardD rfl (yielded_of rfl fg) ?_;go_simp;first | exact sv rfl ⟨rfl,trivial⟩ | exact ⟨_,rfl,sv rfl ⟨rfl,trivial⟩⟩
    case o5_17=>have fg:vals 12=.bool true:=(Fw.get (f:=vsP (some (.bool true,True))) (hw ⟨12,.guard⟩ (by simp) rfl) (by decide) (by decide) rfl).1;have c:=kn7 hC;clear hL hC hk hw;refine step_guardD rfl (yielded_of rfl fg) ?_;go_simp;first | exact sv rfl ⟨rfl,trivial⟩ | exact ⟨_,rfl,sv rfl ⟨rfl,trivial⟩⟩
    case o5_18=>have fg:vals 12=.bool true:=(Fw.get (f:=vsP (some (.bool true,True))) (hw ⟨12,.guard⟩ (by simp) rfl) (by decide) (by decide) rfl).1;have c:=kn7 hC;clear hL hC hk hw;refine step_guardD rfl (yielded_of rfl fg) ?_;go_simp;first | exact sv rfl ⟨rfl,trivial⟩ | exact ⟨_,rfl,sv rfl ⟨rfl,trivial⟩⟩
    case o5_19=>have fg:vals 12=.bool true:=(Fw.get (f:=vsP (some (.bool true,True))) (hw ⟨12,.guard⟩ (by simp) rfl) (by decide) (by decide) rfl).1;have c:=kn7 hC;clear hL hC hk hw;refine step_guardD rfl (yielded_of rfl fg) ?_;go_simp;first | exact sv rfl ⟨rfl,trivial⟩ | exact ⟨_,rfl,sv rfl ⟨rfl,trivial⟩⟩
    case o5_20=>have fg:vals 12=.bool true:=(Fw.get (f:=vsP (some (.bool true,True))) (hw ⟨12,.guard⟩ (by simp) rfl) (by decide) (by decide) rfl).1;have c:=kn7 hC;clear hL hC hk hw;refine step_guardD rfl (yielded_of rfl fg) ?_;go_simp;first | exact sv rfl ⟨rfl,trivial⟩ | exact ⟨_,rfl,sv rfl ⟨rfl,trivial⟩⟩
    case o5_21=>have fg:vals 12=.bool true:=(Fw.get (f:=vsP (some (.bool true,True))) (hw ⟨12,.guard⟩ (by simp) rfl) (by decide) (by decide) rfl).1;have lt0:=LT0.out;have lt1:=LT1.out;have c:=kn7 hC;clear hL hC hk hw;refine step_guardD rfl (yielded_of rfl fg) ?_;go_simp;first | exact sv rfl ⟨rfl,trivial⟩ | exact ⟨_,rfl,sv rfl ⟨rfl,trivial⟩⟩
    case o5_22=>have fg:vals 9=.bool false:=(Fw.get (f:=vsP (some (.bool false,True))) (hw ⟨9,.guard⟩ (by simp) rfl) (by decide) (by decide) rfl).1;have lt0:=LT0.out;have lt1:=LT1.out;have c:=kn7 hC;clear hL hC hk hw;refine step_guardD rfl (yielded_of rfl fg) ?_;go_simp;first | exact sv rfl ⟨rfl,trivial⟩ | exact ⟨_,rfl,sv rfl ⟨rfl,trivial⟩⟩
    case o5_24=>have AX:=Lib.hid (hC.pre hk);clear hL hC hk hw;refine spD rfl ?_;go_simp;(with_reducible refine (deny_yes 214 _).mono ?_);rintro e w8 ⟨rfl,rfl⟩;exact ⟨_,rfl,Did.err (by unfold oBid;simp only [runOm_bind,run_there S0.out.1 S0.out.2,decide_eq_false (HC.out ce0 S0.out.1),run_deny_no,run_look S1.out,run_look S2.out,decide_eq_false (show ¬ q.n < ce1.vA by have:=H1.out ce1 S1.out;omega),I2.out,decide_eq_true (H3.out ce2 S2.out),Bool.true_and,Bool.false_or,run_deny_yes]) (AX.out.low BEG.out)⟩
    all_goals (have c:=kn7 hC;clear hL hC hk hw;refine spD rfl ?_;go_simp;first | exact sv rfl ⟨rfl,trivial⟩ | exact ⟨_,rfl,sv rfl ⟨rfl,trivial⟩⟩)
  exact hB.1.elim
end Go.Proofs.YtabckmadpdchnaaGreat.Rule
namespace Go.Proofs.YtabckmadpdchnaaGreat.Rule
open Go.ChangeShapes Go.WideShapes Go.ChangeAt Go.RowKit Go.IntWalk Go.Proofs.Mem Go.Proofs.Each
theorem bid_none (w:World) (g:Nat) (q:Ot) (v:Value) (base i:Nat) (p:Value) (l:List Pu) (seen:List Ce) (hst:St w g q v base i p l) (hs:SeenAt w g v seen) (hg:g < base) (hbase:base≤w.heap.size) (hl:l.length≤700) (hi:i≤700000) (hq:q.Ok) (hok:∀ c∈seen,c.Ok) (hc:∀ c,seen[i]?=some c→hi32 c.A≠q.wh) (h1:∀ c,seen[i + 1]?=some c→¬ q.n < c.vA) (h2:∀ c,seen[i + 1 + 1]?=some c→c.is=false) :
    Calls Tryz.prog 74 #[.pointer (some ⟨g,0,none⟩)] w (Did w g q v base i p l seen (oBid q) Rp.enc):=by
  have BEG:=Lib.hid (Begin.mk hs hg hbase hq hok (fun x hx=>hst.own.lt x hx))
  obtain ⟨W0,hW0⟩:∃ W0,w.alloc (.cells #[.int .u16 0,.int .u64 0,.int .u64 0,.int .u64 0] 35)=W0:=⟨_,rfl⟩
  have SS:Hid (ST w g q v base p i p l [.box w.heap.size #[.int .u16 0,.int .u64 0,.int .u64 0,.int .u64 0] 35] W0):=Lib.hid (by rw [← hW0];exact ST.start hst BEG.out _ _)
  have HI:=Lib.hid hi
  have HQ:=Lib.hid hq
  have HOK:=Lib.hid hok
  have HL:=Lib.hid hl
  have HC:=Lib.hid hc
  have H1:=Lib.hid h1
  have H2:=Lib.hid h2
  obtain ⟨ce0,hce0⟩:=the_cell seen (i)
  have CE0:=Lib.hid hce0
  obtain ⟨ce1,hce1⟩:=the_cell seen (i + 1)
  have CE1:=Lib.hid hce1
  obtain ⟨ce2,hce2⟩:=the_cell seen (i + 1 + 1)
  have CE2:=Lib.hid hce2
  obtain ⟨ce3,hce3⟩:=the_cell seen (i + 1 + 1 + 1)
  have CE3:=Lib.hid hce3
  clear hst hs hg hbase hl hi hq hok hc h1 h2 hce0 hce1 hce2 hce3
  go_enter Tryz.func74,Tryz.ntmps74
  go_upto_region 1 with fail
  try rw [hW0]
  clear hW0
  refine wp_SK (D:=DP w g q v base i p l seen (oBid q) Rp.enc) 9 10 11 (seen[i]?=some ce0∧ce0.is=true) (i + 1) #[.int .u64 ce0.A,.int .u64 ce0.B,.int .u8 6,.int .u32 q.id,.int .u32 0,.bool true] [pw g 0,pw g 0,pw g 7,pw g 0,pw g 0,pw g 0,pw g 4,some (.int .u32 q.id,True),some (.agg #[.int .u8 6,.int .u32 q.id,.int .u32 0],True),some (.agg (thing ce0.A ce0.B 6 q.id 0 true),True),none,none] SS.out (fun vals=>?_) (fun vals W1 hB hfin hall=>?_) (ea 10 rfl)
  · simp only [ObD,Act.put,qA,qC,qZ]
    refine ⟨?_,?_,?_,?_,?_,?_,?_,?_,?o0_8,?o0_9,?o0_10,?o0_11,trivial⟩
    all_goals (intro L W hL hk hC hw;have f:=deps hw rfl rfl;simp only [depF,vsP,pw,qS,qD,and_true,true_and] at f)
    case o0_8=>have CL:=Lib.hid (auction_any q.id W);clear hL hC hk hw;refine spD rfl ?_;go_simp;(with_reducible refine CL.out.mono ?_);rintro e w8 ⟨rfl,h2⟩;first | exact sq h2 rfl ⟨rfl,trivial⟩ | exact ⟨_,rfl,sq h2 rfl ⟨rfl,trivial⟩⟩
    case o0_9=>
      have CL:=Lib.hid (there_K SS.out (hC.pre hk) BEG.out (by have:=HI.out;omega) CE0.out 6 q.id 0);clear hL hC hk hw;refine spD rfl ?_;go_simp;(with_reducible refine CL.out.mono ?_);rintro e w8 (⟨h,rfl,h2⟩ | ⟨h,h3,rfl,h2⟩ | ⟨rfl,hf,H⟩)
      · exact ⟨_,rfl,Did.miss (by unfold oBid;simp only [runOm_bind,run_there_no h]) h2⟩
      · exact ⟨_,rfl,Did.err (by unfold oBid;simp only [runOm_bind,run_there_not h h3]) h2⟩
      · first | exact kv hf H rfl ⟨rfl,trivial⟩ | exact ⟨_,rfl,kv hf H rfl ⟨rfl,trivial⟩⟩
    case o0_10=>have ZZ:=hC.fr.size;clear hL hC hk hw;refine spD rfl ?_;go_simp;exact am ZZ
    case o0_11=>obtain ⟨gt,C,fa,hgt,bx0,hc⟩:=Fw.geta (hw ⟨10,.data⟩ (by simp) rfl) (by decide);obtain ⟨c0,c1,c2,c3,c4,c5,rfl⟩:=arr6 hc;have q:=six_cells bx0;have BXX:=Lib.hid bx0;have FA:=Lib.hid fa;clear bx0 hc;unfold thing at f;clear hL hC hk hw;refine spD rfl ?_;go_simp;exact sm SS.out BEG.out BXX.out hgt FA.out
    all_goals (have c:=kn7 hC;clear hL hC hk hw;refine spD rfl ?_;go_simp;first | exact sv rfl ⟨rfl,trivial⟩ | exact ⟨_,rfl,sv rfl ⟨rfl,trivial⟩⟩)
  have S0:=Lib.hid hB.1
  simp only [allF,vsP,pw,true_and,and_true,Nat.reduceAdd] at hall
  obtain ⟨gt0,fa,hgt,bx⟩:=hfin
  simp only [TL,Act.put,qA,qC,qZ,hall,fa]
  replace SS:=Lib.hid (SS.out.push BEG.out hB.st SS.out.lt hgt bx)
  clear hall vals hB fa hgt bx
  have y0:W1.cell? ⟨gt0,0,none⟩=some (.int .u64 ce0.A):=SS.out.bx.1.out.cell 0
  go_wp2_with fail
  (with_reducible refine (unpair_any ce0.A (A_ok HOK.out S0.out.1) _).mono ?_)
  rintro e W2 ⟨rfl,hbl⟩
  clear y0
  replace SS:=Lib.hid (SS.out.later hbl)
  clear hbl
  have d1:(hi32 ce0.A == q.wh)=false:=by have:=HC.out ce0 S0.out.1;simpa using this
  have y0:W2.cell? ⟨g,1,none⟩=some (.int .u32 q.wh):=SS.out.kn.c1
  go_wp2_with fail
  (with_reducible refine (deny_no 213 _).mono ?_)
  rintro e W3 ⟨rfl,rfl⟩
  clear d1 y0
  go_upto_region 4 with fail
  refine wp_SK (D:=DP w g q v base i p l seen (oBid q) Rp.enc) 9 10 11 (seen[i + 1]?=some ce1) (i + 1 + 1) #[.int .u64 ce1.vA,.int .u64 ce1.vB,.int .u8 7,.int .u32 q.id,.int .u32 1,.bool ce1.is] [pw g 0,pw g 0,pw g 7,pw g 0,pw g 0,pw g 0,pw g 4,some (.int .u32 q.id,True),some (.agg #[.int .u8 7,.int .u32 q.id,.int .u32 1],True),some (.agg (thing ce1.vA ce1.vB 7 q.id 1 ce1.is),True),none,none] SS.out (fun vals=>?_) (fun vals W4 hB hfin hall=>?_) (ea 10 rfl)
  · simp only [ObD,Act.put,qA,qC,qZ]
    refine ⟨?_,?_,?_,?_,?_,?_,?_,?_,?o3_8,?o3_9,?o3_10,?o3_11,trivial⟩
    all_goals (intro L W hL hk hC hw;have f:=deps hw rfl rfl;simp only [depF,vsP,pw,qS,qD,and_true,true_and] at f)
    case o3_8=>have CL:=Lib.hid (price_any q.id W);clear hL hC hk hw;refine spD rfl ?_;go_simp;(with_reducible refine CL.out.mono ?_);rintro e w8 ⟨rfl,h2⟩;first | exact sq h2 rfl ⟨rfl,trivial⟩ | exact ⟨_,rfl,sq h2 rfl ⟨rfl,trivial⟩⟩
    case o3_9=>
      have CL:=Lib.hid (look_K SS.out (hC.pre hk) BEG.out (by have:=HI.out;omega) CE1.out 7 q.id 1);clear hL hC hk hw;refine spD rfl ?_;go_simp;(with_reducible refine CL.out.mono ?_);rintro e w8 (⟨h,rfl,h2⟩ | ⟨h1,rfl,hf,H⟩)
      · exact ⟨_,rfl,Did.miss (by unfold oBid;simp only [runOm_bind,run_there S0.out.1 S0.out.2,decide_eq_false (HC.out ce0 S0.out.1),run_deny_no,run_look_no h]) h2⟩
      · first | exact kv hf H rfl ⟨rfl,trivial⟩ | exact ⟨_,rfl,kv hf H rfl ⟨rfl,trivial⟩⟩
    case o3_10=>have ZZ:=hC.fr.size;clear hL hC hk hw;refine spD rfl ?_;go_simp;exact am ZZ
    case o3_11=>obtain ⟨gt,C,fa,hgt,bx0,hc⟩:=Fw.geta (hw ⟨10,.data⟩ (by simp) rfl) (by decide);obtain ⟨c0,c1,c2,c3,c4,c5,rfl⟩:=arr6 hc;have q:=six_cells bx0;have BXX:=Lib.hid bx0;have FA:=Lib.hid fa;clear bx0 hc;unfold thing at f;clear hL hC hk hw;refine spD rfl ?_;go_simp;exact sm SS.out BEG.out BXX.out hgt FA.out
    all_goals (have c:=kn7 hC;clear hL hC hk hw;refine spD rfl ?_;go_simp;first | exact sv rfl ⟨rfl,trivial⟩ | exact ⟨_,rfl,sv rfl ⟨rfl,trivial⟩⟩)
  have S1:=Lib.hid hB.1
  simp only [allF,vsP,pw,true_and,and_true,Nat.reduceAdd] at hall
  obtain ⟨gt1,fa,hgt,bx⟩:=hfin
  simp only [TL,Act.put,qA,qC,qZ,hall,fa]
  replace SS:=Lib.hid (SS.out.push BEG.out hB.st SS.out.lt hgt bx)
  clear hall vals hB fa hgt bx
  go_upto_region 5 with fail
  refine wp_SK (D:=DP w g q v base i p l seen (oBid q) Rp.enc) 9 10 11 (seen[i + 1 + 1]?=some ce2) (i + 1 + 1 + 1) #[.int .u64 ce2.vA,.int .u64 ce2.vB,.int .u8 7,.int .u32 q.id,.int .u32 0,.bool ce2.is] [pw g 0,pw g 0,pw g 7,pw g 0,pw g 0,pw g 0,pw g 4,some (.int .u32 q.id,True),some (.agg #[.int .u8 7,.int .u32 q.id,.int .u32 0],True),some (.agg (thing ce2.vA ce2.vB 7 q.id 0 ce2.is),True),none,none] SS.out (fun vals=>?_) (fun vals W5 hB hfin hall=>?_) (ea 10 rfl)
  · simp only [ObD,Act.put,qA,qC,qZ]
    refine ⟨?_,?_,?_,?_,?_,?_,?_,?_,?o4_8,?o4_9,?o4_10,?o4_11,trivial⟩
    all_goals (intro L W hL hk hC hw;have f:=deps hw rfl rfl;simp only [depF,vsP,pw,qS,qD,and_true,true_and] at f)
    case o4_8=>have CL:=Lib.hid (bid_any q.id W);clear hL hC hk hw;refine spD rfl ?_;go_simp;(with_reducible refine CL.out.mono ?_);rintro e w8 ⟨rfl,h2⟩;first | exact sq h2 rfl ⟨rfl,trivial⟩ | exact ⟨_,rfl,sq h2 rfl ⟨rfl,trivial⟩⟩
    case o4_9=>
      have CL:=Lib.hid (look_K SS.out (hC.pre hk) BEG.out (by have:=HI.out;omega) CE2.out 7 q.id 0);clear hL hC hk hw;refine spD rfl ?_;go_simp;(with_reducible refine CL.out.mono ?_);rintro e w8 (⟨h,rfl,h2⟩ | ⟨h1,rfl,hf,H⟩)
      · exact ⟨_,rfl,Did.miss (by unfold oBid;simp only [runOm_bind,run_there S0.out.1 S0.out.2,decide_eq_false (HC.out ce0 S0.out.1),run_deny_no,run_look S1.out,run_look_no h]) h2⟩
      · first | exact kv hf H rfl ⟨rfl,trivial⟩ | exact ⟨_,rfl,kv hf H rfl ⟨rfl,trivial⟩⟩
    case o4_10=>have ZZ:=hC.fr.size;clear hL hC hk hw;refine spD rfl ?_;go_simp;exact am ZZ
    case o4_11=>obtain ⟨gt,C,fa,hgt,bx0,hc⟩:=Fw.geta (hw ⟨10,.data⟩ (by simp) rfl) (by decide);obtain ⟨c0,c1,c2,c3,c4,c5,rfl⟩:=arr6 hc;have q:=six_cells bx0;have BXX:=Lib.hid bx0;have FA:=Lib.hid fa;clear bx0 hc;unfold thing at f;clear hL hC hk hw;refine spD rfl ?_;go_simp;exact sm SS.out BEG.out BXX.out hgt FA.out
    all_goals (have c:=kn7 hC;clear hL hC hk hw;refine spD rfl ?_;go_simp;first | exact sv rfl ⟨rfl,trivial⟩ | exact ⟨_,rfl,sv rfl ⟨rfl,trivial⟩⟩)
  have S2:=Lib.hid hB.1
  simp only [allF,vsP,pw,true_and,and_true,Nat.reduceAdd] at hall
  obtain ⟨gt2,fa,hgt,bx⟩:=hfin
  simp only [TL,Act.put,qA,qC,qZ,hall,fa]
  replace SS:=Lib.hid (SS.out.push BEG.out hB.st SS.out.lt hgt bx)
  clear hall vals hB fa hgt bx
  have I2:=Lib.hid (H2.out ce2 S2.out)
  have SX:=SS.out
  rw [I2.out] at SX
  replace SS:=Lib.hid SX
  clear SX
  go_upto_region 6 with fail
  have LT0:=Lib.hid ((decide_eq_false (show ¬ q.n < ce1.vA by have:=H1.out ce1 S1.out;omega):decide (q.n < ce1.vA)=false))
  refine wp_SA (D:=DP w g q v base i p l seen (oBid q) Rp.enc) 24 25 26 True False (i + 1 + 1 + 1) l [pw g 0,pw g 0,pw g 0,pw g 5,some (.int .u64 q.n,True),some (.pointer (some ⟨gt1,0,none⟩),True),some (.pointer (some ⟨gt1,0,none⟩),True),some (.int .u64 ce1.vA,True),some (.bool false,True),some (.bool false,True),some (.pointer (some ⟨gt2,5,none⟩),True),some (.bool false,True),some (.bool false,True),some (undef,True),some (undef,True),some (undef,True),some (undef,True),some (undef,True),some (undef,True),some (undef,True),some (undef,True),some (undef,True),some (.bool false,True),some (.bool false,True),some (.tuple #[],True)] SS.out (fun vals=>?_) (fun vals W6 hB hall=>?_)
  · simp only [ObD,Act.put,qA,qC,qZ]
    refine ⟨?_,?_,?_,?_,?_,?_,?_,?o5_7,?o5_8,?_,?o5_10,?o5_11,?o5_12,?o5_13,?o5_14,?o5_15,?o5_16,?o5_17,?o5_18,?o5_19,?o5_20,?o5_21,?o5_22,?o5_23,?o5_24,trivial⟩
    all_goals (intro L W hL hk hC hw;have f:=deps hw rfl rfl;simp only [depF,vsP,pw,qS,qD,and_true,true_and] at f)
    case' o5_7=>have k0:W.cell? ⟨gt1,0,none⟩=some (.int .u64 ce1.vA):=(cw_bx hC).2.1.out.cell 0
    case' o5_8=>have lt0:=LT0.out
    case' o5_23=>have lt0:=LT0.out
    case o5_10=>have fg:vals 9=.bool false:=(Fw.get (f:=vsP (some (.bool false,True))) (hw ⟨9,.guard⟩ (by simp) rfl) (by decide) (by decide) rfl).1;have c:=kn7 hC;clear hL hC hk hw;refine step_guardD rfl (yielded_of rfl fg) ?_;go_simp;first | exact sv rfl ⟨rfl,trivial⟩ | exact ⟨_,rfl,sv rfl ⟨rfl,trivial⟩⟩
    case o5_11=>have fg:vals 9=.bool false:=(Fw.get (f:=vsP (some (.bool false,True))) (hw ⟨9,.guard⟩ (by simp) rfl) (by decide) (by decide) rfl).1;have k5:W.cell? ⟨gt2,5,none⟩=some (.bool false):=(cw_bx hC).1.out.cell 5;have c:=kn7 hC;clear hL hC hk hw;refine step_guardD rfl (yielded_of rfl fg) ?_;go_simp;first | exact sv rfl ⟨rfl,trivial⟩ | exact ⟨_,rfl,sv rfl ⟨rfl,trivial⟩⟩
    case o5_12=>have fg:vals 9=.bool false:=(Fw.get (f:=vsP (some (.bool false,True))) (hw ⟨9,.chain⟩ (by simp) rfl) (by decide) (by decide) rfl).1;have c:=kn7 hC;clear hL hC hk hw;refine step_guardD rfl (yielded_of rfl fg) ?_;go_simp;first | exact sv rfl ⟨rfl,trivial⟩ | exact ⟨_,rfl,sv rfl ⟨rfl,trivial⟩⟩
    case o5_13=>have fg:vals 12=.bool false:=(Fw.get (f:=vsP (some (.bool false,True))) (hw ⟨12,.guard⟩ (by simp) rfl) (by decide) (by decide) rfl).1;exact wp_unwantedD rfl (yielded_of rfl fg) (by decide) (sv rfl ⟨rfl,trivial⟩)
    case o5_14=>have fg:vals 12=.bool false:=(Fw.get (f:=vsP (some (.bool false,True))) (hw ⟨12,.guard⟩ (by simp) rfl) (by decide) (by decide) rfl).1;exact wp_unwantedD rfl (yielded_of rfl fg) (by decide) (sv rfl ⟨rfl,trivial⟩)
    case o5_15=>have fg:vals 12=.bool false:=(Fw.get (f:=vsP (some (.bool false,True))) (hw ⟨12,.guard⟩ (by simp) rfl) (by decide) (by decide) rfl).1;exact wp_unwantedD rfl (yielded_of rfl fg) (by decide) (sv rfl ⟨rfl,trivial⟩)
    case o5_16=>have fg:vals 12=.bool false:=(Fw.get (f:=vsP (some (.bool false,True))) (hw ⟨12,.guard⟩ (by simp) rfl) (by decide) (by decide) rfl).1;exact wp_unwantedD rfl (yielded_of rfl fg) (by decide) (sv rfl ⟨rfl,trivial⟩)
    case o5_17=>have fg:vals 12=.bool false:=(Fw.get (f:=vsP (some (.bool false,True))) (hw ⟨12,.guard⟩ (by simp) rfl) (by decide) (by decide) rfl).1;exact wp_unwantedD rfl (yielded_of rfl fg) (by decide) (sv rfl ⟨rfl,trivial⟩)
    case o5_18=>have fg:vals 12=.bool false:=(Fw.get (f:=vsP (some (.bool false,True))) (hw ⟨12,.guard⟩ (by simp) rfl) (by decide) (by decide) rfl).1;exact wp_unwantedD rfl (yielded_of rfl fg) (by decide) (sv rfl ⟨rfl,trivial⟩)
    case o5_19=>have fg:vals 12=.bool false:=(Fw.get (f:=vsP (some (.bool false,True))) (hw ⟨12,.guard⟩ (by simp) rfl) (by decide) (by decide) rfl).1;exact wp_unwantedD rfl (yielded_of rfl fg) (by decide) (sv rfl ⟨rfl,trivial⟩)
    case o5_20=>have fg:vals 12=.bool false:=(Fw.get (f:=vsP (some (.bool false,True))) (hw ⟨12,.guard⟩ (by simp) rfl) (by decide) (by decide) rfl).1;exact wp_unwantedD rfl (yielded_of rfl fg) (by decide) (sv rfl ⟨rfl,trivial⟩)
    case o5_21=>have fg:vals 12=.bool false:=(Fw.get (f:=vsP (some (.bool false,True))) (hw ⟨12,.guard⟩ (by simp) rfl) (by decide) (by decide) rfl).1;exact wp_unwantedD rfl (yielded_of rfl fg) (by decide) (sv rfl ⟨rfl,trivial⟩)
    case o5_22=>have fg:vals 9=.bool false:=(Fw.get (f:=vsP (some (.bool false,True))) (hw ⟨9,.guard⟩ (by simp) rfl) (by decide) (by decide) rfl).1;have lt0:=LT0.out;have c:=kn7 hC;clear hL hC hk hw;refine step_guardD rfl (yielded_of rfl fg) ?_;go_simp;first | exact sv rfl ⟨rfl,trivial⟩ | exact ⟨_,rfl,sv rfl ⟨rfl,trivial⟩⟩
    case o5_24=>have AX:=Lib.hid (hC.pre hk);clear hL hC hk hw;refine spD rfl ?_;go_simp;(with_reducible refine (deny_no 214 _).mono ?_);rintro e w8 ⟨rfl,rfl⟩;first | exact kv (Fr.refl _ _) AX.out.sb rfl ⟨rfl,trivial⟩ | exact ⟨_,rfl,kv (Fr.refl _ _) AX.out.sb rfl ⟨rfl,trivial⟩⟩
    all_goals (have c:=kn7 hC;clear hL hC hk hw;refine spD rfl ?_;go_simp;first | exact sv rfl ⟨rfl,trivial⟩ | exact ⟨_,rfl,sv rfl ⟨rfl,trivial⟩⟩)
  simp only [allF,vsP,pw,true_and,and_true,Nat.reduceAdd] at hall
  simp only [TL,Act.put,qA,qC,qZ,hall]
  replace SS:=Lib.hid hB.st
  clear hall vals hB LT0
  go_upto_region 7 with fail
  refine wp_SG0 (D:=DP w g q v base i p l seen (oBid q) Rp.enc) 9 12 10 11 (seen[i + 1 + 1 + 1]?=some ce3∧ce3.is=true) (i + 1 + 1 + 1 + 1) #[.int .u64 ce3.A,.int .u64 ce3.B,.int .u8 1,.int .u32 q.wh,.int .u32 0,.bool true] [pw g 0,pw g 0,pw g 7,pw g 0,pw g 0,pw g 0,pw g 1,some (.int .u32 q.wh,True),some (.agg #[.int .u8 1,.int .u32 q.wh,.int .u32 0],True),some (.agg (thing ce3.A ce3.B 1 q.wh 0 true),True),none,none] SS.out BEG.out (fun vals=>?_) (fun vals W7 hB hfin htold hall=>?_) (ea 10 rfl)
  · simp only [ObD,Act.put,qA,qC,qZ]
    refine ⟨?_,?_,?_,?_,?_,?_,?_,?_,?o6_8,?o6_9,?o6_10,?o6_11,trivial⟩
    all_goals (intro L W hL hk hC hw;have f:=depsG hw rfl rfl rfl;simp only [depF,vsP,pw,qS,qD,and_true,true_and] at f)
    case o6_8=>have CL:=Lib.hid (purse_any q.wh W);clear hL hC hk hw;refine spD rfl ?_;go_simp;(with_reducible refine CL.out.mono ?_);rintro e w8 ⟨rfl,h2⟩;first | exact gq h2 rfl ⟨rfl,trivial⟩ | exact ⟨_,rfl,gq h2 rfl ⟨rfl,trivial⟩⟩
    case o6_9=>
      have CL:=Lib.hid (there_KG (hC.pre hk) BEG.out (by have:=HI.out;omega) CE3.out 1 q.wh 0);clear hL hC hk hw;refine spD rfl ?_;go_simp;(with_reducible refine CL.out.mono ?_);rintro e w8 (⟨h,rfl,h2⟩ | ⟨h,h3,rfl,h2⟩ | ⟨rfl,hf,H⟩)
      · exact ⟨_,rfl,Did.miss (by unfold oBid;simp only [runOm_bind,run_there S0.out.1 S0.out.2,decide_eq_false (HC.out ce0 S0.out.1),run_deny_no,run_look S1.out,run_look S2.out,decide_eq_false (show ¬ q.n < ce1.vA by have:=H1.out ce1 S1.out;omega),I2.out,Bool.false_and,Bool.or_self,run_deny_no,run_there_no h]) h2⟩
      · exact ⟨_,rfl,Did.err (by unfold oBid;simp only [runOm_bind,run_there S0.out.1 S0.out.2,decide_eq_false (HC.out ce0 S0.out.1),run_deny_no,run_look S1.out,run_look S2.out,decide_eq_false (show ¬ q.n < ce1.vA by have:=H1.out ce1 S1.out;omega),I2.out,Bool.false_and,Bool.or_self,run_deny_no,run_there_not h h3]) h2⟩
      · first | exact gk hf H rfl ⟨rfl,trivial⟩ | exact ⟨_,rfl,gk hf H rfl ⟨rfl,trivial⟩⟩
    case o6_10=>have ZZ:=hC.fr.size;unfold thing at f;clear hL hC hk hw;refine spD rfl ?_;go_simp;first | exact gm0 ZZ | exact ⟨_,rfl,gm0 ZZ⟩
    case o6_11=>clear hL hC hk hw;refine spD rfl ?_;go_simp;first | exact gt_ | exact ⟨_,rfl,gt_⟩
    all_goals (have c:=kg7 hC;clear hL hC hk hw;refine spD rfl ?_;go_simp;first | exact gv rfl ⟨rfl,trivial⟩ | exact ⟨_,rfl,gv rfl ⟨rfl,trivial⟩⟩)
  have S3:=Lib.hid hB.1
  simp only [allF,vsP,pw,true_and,and_true,Nat.reduceAdd] at hall
  obtain ⟨gl,fs,hor,bx⟩:=hfin
  rw [fs] at htold
  simp only [TL,Act.put,qA,qC,qZ,hall,htold,fs]
  replace SS:=Lib.hid (SS.out.pushP BEG.out hB.st SS.out.lt hor (Pile.of_box (n:=1) bx rfl (by decide)))
  clear hall vals hB htold fs hor bx
  have y0:W7.cell? ⟨gt2,5,none⟩=some (.bool false):=SS.out.bx.2.1.out.cell 5
  go_upto_region 14 with fail
  clear y0
  refine wp_S (D:=DP w g q v base i p l seen (oBid q) Rp.enc) 15 16 17 (SB True False w g q v base p (i + 1 + 1 + 1 + 1) p l [.pile gl 1 1 #[.int .u64 (ce3.A - q.n),.int .u64 ce3.B,.int .u8 1,.int .u32 q.wh,.int .u32 0,.bool true],.box gt2 #[.int .u64 ce2.vA,.int .u64 ce2.vB,.int .u8 7,.int .u32 q.id,.int .u32 0,.bool false] 130,.box gt1 #[.int .u64 ce1.vA,.int .u64 ce1.vB,.int .u8 7,.int .u32 q.id,.int .u32 1,.bool ce1.is] 130,.box gt0 #[.int .u64 ce0.A,.int .u64 ce0.B,.int .u8 6,.int .u32 q.id,.int .u32 0,.bool true] 130,.box w.heap.size #[.int .u16 0,.int .u64 0,.int .u64 0,.int .u64 0] 35]) [some (.slice (some ⟨gl,0,none⟩) 1 1,True),some (.slice (some ⟨gl,0,none⟩) 1 1,True),some (.pointer (some ⟨gl,0,none⟩),True),some (.pointer (some ⟨gl,0,none⟩),True),some (.pointer (some ⟨gl,0,none⟩),True),some (.int .u64 ce3.A,True),pw g 0,pw g 0,pw g 0,pw g 5,some (.int .u64 q.n,True),some (.int .u64 (ce3.A - q.n),Ls ce3.A q.n),some (.pointer (some ⟨gl,0,none⟩),True),some (.pointer (some ⟨gl,0,none⟩),True),some (.pointer (some ⟨gl,0,none⟩),True),some (undef,True)] SS.out (fun vals=>?_) (fun vals W8 hB hall=>?_)
  · simp only [ObD,Act.put,qA,qC,qZ]
    refine ⟨?_,?_,?_,?_,?_,?o7_5,?_,?_,?_,?_,?_,?o7_11,?_,?_,?_,?o7_15,trivial⟩
    all_goals (intro L W hL hk hC hw;have f:=deps hw rfl rfl;simp only [depF,vsP,pw,qS,qD,and_true,true_and] at f)
    case' o7_5=>have k0:W.cell? ⟨gl,0,none⟩=some (.int .u64 ce3.A):=(hC.pre (hL.not_yet hk 15 16 (by decide +kernel))).bx.1.out.cell 0
    case o7_11=>
      have CL:=Lib.hid (less_C (A_ok HOK.out S3.out.1) HQ.out.n hC SS.out BEG.out);clear hL hC hk hw;refine spD rfl ?_;go_simp;(with_reducible refine CL.out.mono ?_)
      rintro e w8 (⟨h,rfl,h2⟩ | ⟨⟨h,h3⟩,rfl,h2⟩ | ⟨h1,rfl,h2⟩)
      · exact ⟨_,rfl,Did.err (by unfold oBid;simp only [runOm_bind,run_there S0.out.1 S0.out.2,decide_eq_false (HC.out ce0 S0.out.1),run_deny_no,run_look S1.out,run_look S2.out,decide_eq_false (show ¬ q.n < ce1.vA by have:=H1.out ce1 S1.out;omega),I2.out,Bool.false_and,Bool.or_self,run_deny_no,run_there S3.out.1 S3.out.2,Bool.false_eq_true,if_false,run_less_great h]) h2⟩
      · exact ⟨_,rfl,Did.err (by unfold oBid;simp only [runOm_bind,run_there S0.out.1 S0.out.2,decide_eq_false (HC.out ce0 S0.out.1),run_deny_no,run_look S1.out,run_look S2.out,decide_eq_false (show ¬ q.n < ce1.vA by have:=H1.out ce1 S1.out;omega),I2.out,Bool.false_and,Bool.or_self,run_deny_no,run_there S3.out.1 S3.out.2,Bool.false_eq_true,if_false,run_less_low h h3]) h2⟩
      · first | exact sq h2 rfl ⟨rfl,h1⟩ | exact ⟨_,rfl,sq h2 rfl ⟨rfl,h1⟩⟩
    case o7_15=>have PRE:=hC.pre hk;have q0:W.cell? ⟨gl,0,none⟩=some (.int .u64 ce3.A):=PRE.bx.1.out.cell 0;have r0:=PRE.bx.1.out.frozen 0;have P:=Lib.hid PRE;clear PRE;clear hL hC hk hw;refine spD rfl ?_;go_simp;exact ks (ksP SS.out P.out BEG.out 0 rfl) rfl ⟨rfl,trivial⟩
    all_goals (have c:=kn7 hC;clear hL hC hk hw;refine spD rfl ?_;go_simp;first | exact sv rfl ⟨rfl,trivial⟩ | exact ⟨_,rfl,sv rfl ⟨rfl,trivial⟩⟩)
  have C8:Hid (Ls ce3.A q.n):=Lib.hid (vsP_c (hall.get 11))
  simp only [allF,vsP,pw,true_and,and_true,Nat.reduceAdd] at hall
  simp only [TL,Act.put,qA,qC,qZ,hall]
  replace SS:=Lib.hid hB.st
  clear hall vals hB
  go_wp2
  refine wp_loop_rounds 2 ?_
  obtain ⟨y0,y1,y2,y3,y4,y5⟩:=pile6 SS.out.bx.1.out 0 1 2 3 4 5 rfl rfl rfl rfl rfl rfl
  rw [rounds_succ]
  obtain ⟨W9,hWn⟩:∃ W9,W8.alloc (.cells #[.int .u64 (ce3.A - q.n),.int .u64 ce3.B,.int .u8 1,.int .u32 q.wh,.int .u32 0,.bool true] 130)=W9:=⟨_,rfl⟩
  obtain ⟨gq0,hgn⟩:∃ gq0,W8.heap.size=gq0:=⟨_,rfl⟩
  have TT:=SS.out.alloc BEG.out #[.int .u64 (ce3.A - q.n),.int .u64 ce3.B,.int .u8 1,.int .u32 q.wh,.int .u32 0,.bool true] 130
  rw [hgn,hWn] at TT
  replace TT:=Lib.hid TT
  have HWN:=Lib.hid hWn
  have HGN:=Lib.hid hgn
  clear hWn hgn
  go_wp2_with fail
  clear y0 y1 y2 y3 y4 y5
  try rw [HWN.out]
  try rw [HGN.out]
  clear HWN HGN SS
  have SS:=TT
  clear TT
  have CALL:=Lib.hid (amount_S SS.out BEG.out (by have:=HL.out;(try simp only [List.length_append,List.length_cons,List.length_nil]);omega) 1 q.wh 0 (ce3.A - q.n) (show _=l++[amt 1 q.wh 0 (ce3.A - q.n)] by simp))
  (with_reducible refine CALL.out.mono ?_)
  rintro e W10 ⟨rfl,hf,p10,hs⟩
  replace SS:=Lib.hid hs
  clear CALL hf hs
  go_wp2
  replace SS:=Lib.hid SS.out.drop
  rw [rounds_succ]
  go_upto_region 20 with fail
  refine wp_SA (D:=DP w g q v base i p l seen (oBid q) Rp.enc) 15 16 17 True True (i + 1 + 1 + 1 + 1) (l++[amt 1 q.wh 0 (ce3.A - q.n),Pu.mk 7 q.id 0 q.n q.wh false]) [pw g 0,some (.pointer (some ⟨gt2,2,none⟩),True),some (.agg #[.int .u8 7,.int .u32 q.id,.int .u32 0],True),pw g 0,pw g 0,pw g 0,pw g 5,some (.int .u64 q.n,True),pw g 0,pw g 0,pw g 0,pw g 1,some (.int .u32 q.wh,True),some (.int .u64 q.wh,True),some (.agg #[.int .u64 q.n,.int .u64 q.wh],True),some (.tuple #[],True)] SS.out (fun vals=>?_) (fun vals W11 hB hall=>?_)
  · simp only [ObD,Act.put,qA,qC,qZ]
    refine ⟨?_,?_,?o10_2,?_,?_,?_,?_,?_,?_,?_,?_,?_,?_,?o10_13,?_,?o10_15,trivial⟩
    all_goals (intro L W hL hk hC hw;have f:=deps hw rfl rfl;simp only [depF,vsP,pw,qS,qD,and_true,true_and] at f)
    case' o10_2=>have k2:W.cell? ⟨gt2,2,none⟩=some (.int .u8 7):=(cw_bx hC).2.1.out.cell 2;have k3:W.cell? ⟨gt2,3,none⟩=some (.int .u32 q.id):=(cw_bx hC).2.1.out.cell 3;have k4:W.cell? ⟨gt2,4,none⟩=some (.int .u32 0):=(cw_bx hC).2.1.out.cell 4
    case' o10_13=>have hcv:IntKind.u64.wrap q.wh=q.wh:=wrap_u64 (HQ.out.wh).1 (by have:=(HQ.out.wh).2;omega)
    case o10_15=>have CL:=Lib.hid (pk SS.out BEG.out (put_S (hC.pre hk) BEG.out (by have:=HL.out;(try simp only [List.length_append,List.length_cons,List.length_nil]);omega) 7 q.id 0 q.n q.wh (show _=l++[amt 1 q.wh 0 (ce3.A - q.n),Pu.mk 7 q.id 0 q.n q.wh false] by simp)));clear hL hC hk hw;refine spD rfl ?_;go_simp;(with_reducible refine CL.out.mono ?_);rintro e w8 ⟨rfl,hf,H⟩;first | exact kv hf H rfl ⟨rfl,trivial⟩ | exact ⟨_,rfl,kv hf H rfl ⟨rfl,trivial⟩⟩
    all_goals (have c:=kn7 hC;clear hL hC hk hw;refine spD rfl ?_;go_simp;first | exact sv rfl ⟨rfl,trivial⟩ | exact ⟨_,rfl,sv rfl ⟨rfl,trivial⟩⟩)
  simp only [allF,vsP,pw,true_and,and_true,Nat.reduceAdd] at hall
  simp only [TL,Act.put,qA,qC,qZ,hall]
  obtain ⟨p11,hB⟩:=hB.put
  replace SS:=Lib.hid hB
  clear hall vals hB
  have y0:W11.cell? ⟨g,5,none⟩=some (.int .u64 q.n):=SS.out.kn.c5
  obtain ⟨⟨z0,z1,z2,z3⟩,x0,x1,x2,x3⟩:=four_cells SS.out.bx.2.2.2.2.1.out
  go_wp2
  generalize hW:(World.setCell _ (⟨w.heap.size,3,none⟩:Addr) _)=WZ
  have b9:Box WZ w.heap.size #[.int .u16 0,.int .u64 q.n,.int .u64 0,.int .u64 0] 35:=by
    rw [← hW]
    exact four_box SS.out.bx.2.2.2.2.1.out
  have F9:Hid (Fr (fun x=>x=w.heap.size) W11 WZ):=Lib.hid (by
    rw [← hW]
    exact four_fr)
  obtain ⟨⟨v0,v1,v2,v3⟩,-⟩:=four_cells b9
  clear hW b9 z0 z1 z2 z3 x0 x1 x2 x3 y0
  refine bodyPost_ret (v:=.agg #[.int .u16 0,.int .u64 q.n,.int .u64 0,.int .u64 0]) (by simp [results,Tryz.results74,go_sem,v0,v1,v2,v3];try rfl) rfl ?_
  refine (SS.out.wr BEG.out 4 rfl F9.out).did (y:=(⟨q.n,0,0⟩,l++[amt 1 q.wh 0 (ce3.A - q.n),Pu.mk 7 q.id 0 q.n q.wh false])) ?_ rfl
  unfold oBid
  simp only [runOm_bind,runOm_pure,run_there S0.out.1 S0.out.2,decide_eq_false (HC.out ce0 S0.out.1),run_deny_no,run_look S1.out,run_look S2.out,decide_eq_false (show ¬ q.n < ce1.vA by have:=H1.out ce1 S1.out;omega),I2.out,Bool.false_and,Bool.or_self,run_deny_no,run_there S3.out.1 S3.out.2,Bool.false_eq_true,if_false,run_less C8.out.1 C8.out.2,oAmount,run_put,run_put,List.append_assoc,List.cons_append,List.nil_append]
  try rfl
end Go.Proofs.YtabckmadpdchnaaGreat.Rule
namespace Go.Proofs.YtabckmadpdchnaaGreat.Rule
open Go.ChangeShapes Go.WideShapes Go.ChangeAt Go.RowKit Go.IntWalk Go.Proofs.Mem Go.Proofs.Each
theorem side_n (w:World) (g:Nat) (q:Ot) (v:Value) (i:Int) (p:Value) (hb:WorkAt w g q v i p) (A B k a b:Int) (is:Bool) (hA:0≤A∧A≤18446744073709551615) (n:Int) (h:(q.wh=hi32 A∧n=0)∨(q.wh≠hi32 A∧q.wh=lo32 A∧n=1)) :
    Calls Tryz.prog 95 #[.pointer (some ⟨g,0,none⟩),.agg (thing A B k a b is)] w fun e w'=>e=.returned (.int .u32 n)∧Below w.heap.size w w':=by
  rcases h with ⟨h1,rfl⟩ | ⟨h1,h2,rfl⟩
  · exact side_first w g q v i p hb A B k a b is hA h1
  · exact side_second w g q v i p hb A B k a b is hA h1 h2
theorem oSide_n {q:Ot} {A n:Int} (h:(q.wh=hi32 A∧n=0)∨(q.wh≠hi32 A∧q.wh=lo32 A∧n=1)):oSide q A=pure n:=by
  unfold oSide
  rcases h with ⟨h1,rfl⟩ | ⟨h1,h2,rfl⟩
  · rw [if_pos h1]
  · rw [if_neg h1,if_pos h2]
theorem offer_none (w:World) (g:Nat) (q:Ot) (v:Value) (base i:Nat) (p:Value) (l:List Pu) (seen:List Ce) (hst:St w g q v base i p l) (hs:SeenAt w g v seen) (hg:g < base) (hbase:base≤w.heap.size) (hl:l.length≤700) (hi:i≤700000) (hq:q.Ok) (hok:∀ c∈seen,c.Ok) (hc:∀ c,seen[i]?=some c→q.wh≠hi32 c.A∧q.wh≠lo32 c.A) :
    Calls Tryz.prog 70 #[.pointer (some ⟨g,0,none⟩)] w (Did w g q v base i p l seen (oOffer q) Rp.enc):=by
  have BEG:=Lib.hid (Begin.mk hs hg hbase hq hok (fun x hx=>hst.own.lt x hx))
  obtain ⟨W0,hW0⟩:∃ W0,w.alloc (.cells #[.int .u16 0,.int .u64 0,.int .u64 0,.int .u64 0] 35)=W0:=⟨_,rfl⟩
  have SS:Hid (ST w g q v base p i p l [.box w.heap.size #[.int .u16 0,.int .u64 0,.int .u64 0,.int .u64 0] 35] W0):=Lib.hid (by rw [← hW0];exact ST.start hst BEG.out _ _)
  have HI:=Lib.hid hi
  have HQ:=Lib.hid hq
  have HOK:=Lib.hid hok
  have HL:=Lib.hid hl
  have HC:=Lib.hid hc
  obtain ⟨ce0,hce0⟩:=the_cell seen (i)
  have CE0:=Lib.hid hce0
  clear hst hs hg hbase hl hi hq hok hc hce0
  go_enter Tryz.func70,Tryz.ntmps70
  go_upto_region 1 with fail
  try rw [hW0]
  clear hW0
  refine wp_SK (D:=DP w g q v base i p l seen (oOffer q) Rp.enc) 9 10 11 (seen[i]?=some ce0∧ce0.is=true) (i + 1) #[.int .u64 ce0.A,.int .u64 ce0.B,.int .u8 4,.int .u32 q.id,.int .u32 0,.bool true] [pw g 0,pw g 0,pw g 7,pw g 0,pw g 0,pw g 0,pw g 4,some (.int .u32 q.id,True),some (.agg #[.int .u8 4,.int .u32 q.id,.int .u32 0],True),some (.agg (thing ce0.A ce0.B 4 q.id 0 true),True),none,none] SS.out (fun vals=>?_) (fun vals W1 hB hfin hall=>?_) (ea 10 rfl)
  · simp only [ObD,Act.put,qA,qC,qZ]
    refine ⟨?_,?_,?_,?_,?_,?_,?_,?_,?o0_8,?o0_9,?o0_10,?o0_11,trivial⟩
    all_goals (intro L W hL hk hC hw;have f:=deps hw rfl rfl;simp only [depF,vsP,pw,qS,qD,and_true,true_and] at f)
    case o0_8=>have CL:=Lib.hid (trade_any q.id W);clear hL hC hk hw;refine spD rfl ?_;go_simp;(with_reducible refine CL.out.mono ?_);rintro e w8 ⟨rfl,h2⟩;first | exact sq h2 rfl ⟨rfl,trivial⟩ | exact ⟨_,rfl,sq h2 rfl ⟨rfl,trivial⟩⟩
    case o0_9=>
      have CL:=Lib.hid (there_K SS.out (hC.pre hk) BEG.out (by have:=HI.out;omega) CE0.out 4 q.id 0);clear hL hC hk hw;refine spD rfl ?_;go_simp;(with_reducible refine CL.out.mono ?_);rintro e w8 (⟨h,rfl,h2⟩ | ⟨h,h3,rfl,h2⟩ | ⟨rfl,hf,H⟩)
      · exact ⟨_,rfl,Did.miss (by unfold oOffer;simp only [runOm_bind,run_there_no h]) h2⟩
      · exact ⟨_,rfl,Did.err (by unfold oOffer;simp only [runOm_bind,run_there_not h h3]) h2⟩
      · first | exact kv hf H rfl ⟨rfl,trivial⟩ | exact ⟨_,rfl,kv hf H rfl ⟨rfl,trivial⟩⟩
    case o0_10=>have ZZ:=hC.fr.size;clear hL hC hk hw;refine spD rfl ?_;go_simp;exact am ZZ
    case o0_11=>obtain ⟨gt,C,fa,hgt,bx0,hc⟩:=Fw.geta (hw ⟨10,.data⟩ (by simp) rfl) (by decide);obtain ⟨c0,c1,c2,c3,c4,c5,rfl⟩:=arr6 hc;have q:=six_cells bx0;have BXX:=Lib.hid bx0;have FA:=Lib.hid fa;clear bx0 hc;unfold thing at f;clear hL hC hk hw;refine spD rfl ?_;go_simp;exact sm SS.out BEG.out BXX.out hgt FA.out
    all_goals (have c:=kn7 hC;clear hL hC hk hw;refine spD rfl ?_;go_simp;first | exact sv rfl ⟨rfl,trivial⟩ | exact ⟨_,rfl,sv rfl ⟨rfl,trivial⟩⟩)
  have S0:=Lib.hid hB.1
  simp only [allF,vsP,pw,true_and,and_true,Nat.reduceAdd] at hall
  obtain ⟨gt0,fa,hgt,bx⟩:=hfin
  simp only [TL,Act.put,qA,qC,qZ,hall,fa]
  replace SS:=Lib.hid (SS.out.push BEG.out hB.st SS.out.lt hgt bx)
  clear hall vals hB fa hgt bx
  obtain ⟨⟨y0,y1,y2,y3,y4,y5⟩,-⟩:=six_cells SS.out.bx.1.out
  have CALL:=Lib.hid (side_none W1 g q v (i + 1:Nat) p SS.out.run.out.st.wb ce0.A ce0.B 4 q.id 0 true (A_ok HOK.out S0.out.1) ((HC.out ce0 S0.out.1).1) (HC.out ce0 S0.out.1).2)
  unfold thing at CALL
  go_wp2_with fail
  (with_reducible refine CALL.out.mono ?_)
  rintro e W2 ⟨rfl,hbl⟩
  exact ⟨rfl,Did.err (by unfold oOffer;simp only [runOm_bind,run_there S0.out.1 S0.out.2,oSide,if_neg (HC.out ce0 S0.out.1).1,if_neg (HC.out ce0 S0.out.1).2,run_err_]) (SS.out.run.out.lowB BEG.out hbl)⟩
end Go.Proofs.YtabckmadpdchnaaGreat.Rule
namespace Go.Proofs.YtabckmadpdchnaaGreat.Rule
open Go.ChangeShapes Go.WideShapes Go.ChangeAt Go.RowKit Go.IntWalk Go.Proofs.Mem Go.Proofs.Stk
theorem stack_info:(Tryz.prog.info? 116).map (fun i=>(i.zero,i.size,i.bytes))=some (some (.agg #[.int .u32 0,.int .u64 0]),2,16):=by kernel_rfl
theorem grow_stacks (n:Nat) (h0:0 < n) (hn:n≤10000) (w:World):Calls Tryz.prog 113 #[.slice none 0 0,.int .i64 n] w fun e w'=>∃ v,e=.returned v∧w'.ownsRow w.heap.size 116 2 v 0 ([]:List Value)∧Below w.heap.size w w':=by
  obtain ⟨i0,hi0,hz0,hz1,hz2⟩:=info_parts stack_info
  have h1:¬ ((n:Int) < 0):=by omega
  have d1:decide ((n:Int) < 0)=false:=by simp
  have h3:wrap64 ((n:Int) - 0)=(n:Int):=by unfold wrap64;omega
  have d4:decide (0 < (n:Int))=true:=by simp;omega
  have hrz:∀ ty,(Builtin.append_ #[83,3] ty #[.slice none 0 0,.int .i64 n]).run Tryz.prog w=.ok (.slice (some ⟨w.heap.size,0,none⟩) n (grownCap w n 0 116)) (w.drew.alloc (.cells (#[]++Builtin.zeroCells (Value.agg #[.int .u32 0,.int .u64 0]).cells n++Builtin.zeroCells (Value.agg #[.int .u32 0,.int .u64 0]).cells (grownCap w n 0 116 - n)) 116)):=fun ty=>by
    have h:=Lib.run_append_grow_zeros w 83 3 ty 116 i0 (.agg #[.int .u32 0,.int .u64 0]) .i64 .i64 Tryz.underlying83 Tryz.underlying3 hi0 hz0 none 0 0 [] (run_firstCells_none w.drew i0.size 0 0 0) n (by omega) (by omega) (by omega) (by omega)
      (by rw [hz2];omega)
      (by rw [Nat.zero_add];exact growslice_fits (by omega) (by rw [hz2];omega))
    rw [Nat.zero_add] at h
    exact h
  have hGn:n≤grownCap w n 0 116:=grownCap_ge w _ _ _
  have hGm:=grownCap_le_maxLen w n 0 116 (by unfold maxLen;omega)
  obtain ⟨G,hG⟩:∃ G,G=grownCap w n 0 116:=⟨_,rfl⟩
  rw [← hG] at hrz hGn hGm
  clear hG
  have hG63:G≤9223372036854775807:=by unfold maxLen at hGm;omega
  have HR:=Lib.hid hrz
  clear hrz
  go_enter Tryz.func113,Tryz.ntmps113
  go_wp2_with (at_builtin;refine Lib.wpList_append_run _ rfl _ _ _ _ rfl _ _ rfl rfl _ _ (HR.out _) ?_)
  go_ret
  refine ⟨_,rfl,⟨rfl,.inr ⟨w.heap.size,G,_,rfl,Nat.le_refl _,heap_alloc_new w.drew _,Nat.zero_le _,hGm,?_,?_⟩⟩,new_ (Below.drew (Below.refl _ _)) _⟩
  · simp [size_zeroCells];omega
  · simp
theorem kr_news {w:World} {B:Nat} {b off n c:Nat} {l:List Pr} (h:KR w B (.slice (some ⟨b,off,none⟩) n c) l):∀ (j:Nat) (u:Value),(flat l)[j]?=some u→w.cell? ((⟨b,off,none⟩:Addr).add j)=some u:=fun j u hu=>by
  obtain ⟨A,c',e,_,_,h5⟩:=h
  injection e with e1 e2 e3
  subst e1
  obtain ⟨b',off',e,_,hc⟩:=h5 j u hu
  injection e with e
  injection e with e1 e2
  subst e1 e2
  rw [Go.WideShapes.add_plain]
  exact hc
theorem flat_one (l:List Pr):∀ u∈flat l,u.oneCell'=true:=by
  intro u hu
  unfold flat at hu
  simp only [List.mem_flatMap] at hu
  obtain ⟨p,_,hp⟩:=hu
  simp at hp
  rcases hp with rfl | rfl <;> rfl
theorem concat_two (b:Nat) (b1 o1 b2 o2 n1 n2 c1 c2:Nat) (l1 l2:List Pr) (w:World) (e1:n1=l1.length) (e2:n2=l2.length) (hb0:w.cell? ⟨b,0,none⟩=some (.slice (some ⟨b1,o1,none⟩) n1 c1)) (hb1:w.cell? ⟨b,1,none⟩=some (.slice (some ⟨b2,o2,none⟩) n2 c2))
    (k1:KR w w.heap.size (.slice (some ⟨b1,o1,none⟩) n1 c1) l1) (k2:KR w w.heap.size (.slice (some ⟨b2,o2,none⟩) n2 c2) l2) (p1:0 < n1∧n1≤1000) (p2:0 < n2∧n2≤1000) :
    Calls Tryz.prog 107 #[.slice (some ⟨b,0,none⟩) 2 2] w fun e w'=>∃ u,e=.returned u∧w'.ownsRow w.heap.size 116 2 u (n1 + n2) (flat (l1++l2))∧Below w.heap.size w w':=by
  obtain ⟨i0,hi0,hz0,hz1,hz2⟩:=info_parts stack_info
  obtain ⟨N,hN⟩:∃ N:Nat,N=n1 + n2:=⟨_,rfl⟩
  have GR:=Lib.hid (grow_stacks N (by omega) (by omega) w)
  have s1:(n1:Int) + (n2:Int)=(N:Int):=by omega
  have s2:decide ((N:Int) < 0)=false:=by simp
  have s3:decide ((n1:Int) < 0)=false:=by simp
  have hb:b < w.heap.size:=Law.lt_of_cell hb0
  have B0:=Lib.hid hb0
  have B1:=Lib.hid hb1
  have K1:=Lib.hid k1
  have K2:=Lib.hid k2
  have P1:=Lib.hid p1
  have P2:=Lib.hid p2
  have E1:=Lib.hid e1
  have E2:=Lib.hid e2
  have HN:=Lib.hid hN
  have hn1:(n1:Int)≤1000:=by omega
  have hn2:(n2:Int)≤1000:=by omega
  have hnN:(N:Int)≤2000:=by omega
  clear k1 k2 p1 p2 e1 e2 hN
  go_enter Tryz.func107,Tryz.ntmps107
  go_wp2
  refine wp_loop_rounds 3 ?_
  rw [rounds_succ]
  go_wp2
  rw [rounds_succ]
  go_wp2
  rw [rounds_succ]
  go_wp2_with fail
  (with_reducible refine GR.out.mono ?_)
  rintro e w1 ⟨u1,rfl,hu1,hbl⟩
  have HU1:=Lib.hid hu1
  have HB1:=Lib.hid hbl
  clear hu1 hbl hb0 hb1
  have hb0:w1.cell? ⟨b,0,none⟩=some (.slice (some ⟨b1,o1,none⟩) n1 c1):=(HB1.out.cell (p:=⟨b,0,none⟩) hb).trans B0.out
  go_wp2
  refine wp_loop_rounds 3 ?_
  rw [rounds_succ]
  go_wp2_with (at_builtin;refine wpList_append_lies _ rfl _ _ _ rfl w.heap.size 116 i0 _ 2 16 Tryz.underlying83 hi0 hz0 hz1 hz2 rfl (by omega) u1 0 [] rfl HU1.out ⟨b1,o1,none⟩ n1 c1 (flat l1) rfl (by rw [Stk.flat_len,E1.out]) (kr_news (K1.out.below HB1.out)) (flat_one l1) P1.out.1 (by have:=P1.out;unfold maxLen;omega) (by have:=P1.out;omega) HB1.out.size _ rfl ?_;intro g2 cap2 w2 hown2 hgr2 hat2 hlt2;rw [Nat.zero_add,List.nil_append] at hown2)
  have HB2:=Lib.hid (HB1.out.trans (((Fr.refl (fun x=>u1.ownBlock=some x) w1).grown hgr2 (fun x e=>.inl e)).to_below (fun x hx=>(HU1.out.lt x hx).1) HB1.out.size))
  have HU2:=Lib.hid hown2
  clear hown2 hgr2 hat2 hlt2 hb0
  have hb1:w2.cell? ⟨b,1,none⟩=some (.slice (some ⟨b2,o2,none⟩) n2 c2):=(HB2.out.cell (p:=⟨b,1,none⟩) hb).trans B1.out
  rw [rounds_succ]
  go_wp2_with (at_builtin;refine wpList_append_lies _ rfl _ _ _ rfl w.heap.size 116 i0 _ 2 16 Tryz.underlying83 hi0 hz0 hz1 hz2 rfl (by omega) (.slice (some ⟨g2,0,none⟩) n1 cap2) n1 (flat l1) rfl HU2.out ⟨b2,o2,none⟩ n2 c2 (flat l2) rfl (by rw [Stk.flat_len,E2.out]) (kr_news (K2.out.below HB2.out)) (flat_one l2) P2.out.1 (by have:=P1.out;have:=P2.out;unfold maxLen;omega) (by have:=P1.out;have:=P2.out;omega) HB2.out.size _ rfl ?_;intro g3 cap3 w3 hown3 hgr3 hat3 hlt3)
  have HB3:=Lib.hid (HB2.out.trans (((Fr.refl (fun x=>(Value.slice (some ⟨g2,0,none⟩) n1 cap2).ownBlock=some x) w2).grown hgr3 (fun x e=>.inl e)).to_below (fun x hx=>(HU2.out.lt x hx).1) HB2.out.size))
  have HU3:=Lib.hid hown3
  clear hown3 hgr3 hat3 hlt3 hb1
  rw [rounds_succ]
  go_wp2
  go_ret
  exact ⟨_,rfl,by rw [flat_app];exact HU3.out,HB3.out⟩
end Go.Proofs.YtabckmadpdchnaaGreat.Rule
namespace Go.Proofs.YtabckmadpdchnaaGreat.Rule
open Go.ChangeShapes Go.WideShapes Go.ChangeAt Go.RowKit Go.IntWalk Go.Proofs.Mem Go.Proofs.Stk
theorem nan_any (x:Int) (w:World):Calls Tryz.prog 48 #[.int .u32 x] w fun e w'=>e=.returned (.bool false)∧w'=w:=by
  have d:(x != x)=false:=by simp
  go_enter Tryz.func48,Tryz.ntmps48
  go_wp2
  go_ret
  exact ⟨by simp,rfl⟩
theorem less_u32 (x y:Int) (w:World):Calls Tryz.prog 122 #[.int .u32 x,.int .u32 y] w fun e w'=>e=.returned (.bool (decide (x < y)))∧w'=w:=by
  obtain ⟨b,hb⟩:∃ b,b=decide (x < y):=⟨_,rfl⟩
  rw [← hb]
  have d:=hb.symm
  clear hb
  go_enter Tryz.func122,Tryz.ntmps122
  go_wp2_with (first | (go_at_call 48;(with_reducible refine (nan_any _ _).mono ?_);rintro e w1 ⟨rfl,rfl⟩))
  go_ret
  exact ⟨rfl,rfl⟩
def Row32 (W:World) (gg n cap:Nat) (xs:List Int):Prop:=W.ownsRow gg 23 1 (.slice (some ⟨gg,0,none⟩) n cap) n (xs.map (.int .u32))
section
variable {W W':World} {gg n cap:Nat} {xs:List Int} {S:Nat→Prop}
theorem Row32.box (h:Row32 W gg n cap xs):∃ cur,Box W gg cur 23∧cur.size=cap∧n≤cap∧cap≤maxLen∧xs.length=n∧cur.toList.take n=xs.map (.int .u32):=by
  obtain ⟨h1,h2 | ⟨g,c,cur,e,hb,hg,hn,hc,hs,ht⟩⟩:=h
  · cases h2.1
  · injection e with e1 e2 e3
    injection e1 with e1
    injection e1 with e1
    subst e1 e3
    exact ⟨cur,hg,by simpa using hs,hn,hc,by simpa using h1,by simpa using ht⟩
theorem Row32.cell (h:Row32 W gg n cap xs) (i:Nat) {x:Int} (hx:xs[i]?=some x):W.cell? ⟨gg,i,none⟩=some (.int .u32 x):=by
  obtain ⟨cur,hb,hs,hn,_,hl,ht⟩:=h.box
  have hi:i < xs.length:=(List.getElem?_eq_some_iff.1 hx).1
  have h2:(xs.map (Value.int .u32))[i]?=some (.int .u32 x):=by simp [hx]
  rw [← ht,List.getElem?_take,if_pos (by omega)] at h2
  rw [hb.cell i]
  simpa using h2
theorem Row32.frozen (h:Row32 W gg n cap xs) (i:Nat):W.frozen? ⟨gg,i,none⟩=false:=by
  obtain ⟨cur,hb,_⟩:=h.box
  exact hb.frozen i
theorem Row32.lt (h:Row32 W gg n cap xs):gg < W.heap.size:=by
  obtain ⟨cur,hb,_⟩:=h.box
  exact hb.lt
theorem Row32.len (h:Row32 W gg n cap xs):xs.length=n:=by
  obtain ⟨cur,_,_,_,_,hl,_⟩:=h.box
  exact hl
theorem Row32.drewN (h:Row32 W gg n cap xs) (d:Nat):Row32 (W.drewN d) gg n cap xs:=h
theorem Row32.drew (h:Row32 W gg n cap xs):Row32 W.drew gg n cap xs:=h
theorem Row32.later (h:Row32 W gg n cap xs) (hb:Below W.heap.size W W'):Row32 W' gg n cap xs:=own_below h hb
theorem Row32.set_ (h:Row32 W gg n cap xs) (i:Nat) (x:Int) (hi:i < n):Row32 (W.setCell ⟨gg,i,none⟩ (.int .u32 x)) gg n cap (xs.set i x):=by
  obtain ⟨cur,hb,hs,hn,hc,hl,ht⟩:=h.box
  refine ⟨by simp [hl],.inr ⟨gg,cap,cur.setIfInBounds i (.int .u32 x),rfl,Nat.le_refl _,Box.set_ hb i _,hn,hc,by simpa using hs,?_⟩⟩
  rw [Array.toList_setIfInBounds,Nat.mul_one,List.take_set,ht,List.map_set]
def swp (xs:List Int) (j:Nat):List Int:=(xs.set j (xs.getD (j - 1) 0)).set (j - 1) (xs.getD j 0)
def down:Nat→List Int→List Int
  | 0,xs=>xs
  | j + 1,xs=>if xs.getD (j + 1) 0 < xs.getD j 0 then down j (swp xs (j + 1)) else xs
def isort (n:Nat) (xs:List Int):List Int:=(List.range (n - 1)).foldl (fun ys k=>down (k + 1) ys) xs
end
end Go.Proofs.YtabckmadpdchnaaGreat.Rule
namespace Go.Proofs.YtabckmadpdchnaaGreat.Rule
open Go.ChangeShapes Go.WideShapes Go.ChangeAt Go.RowKit Go.IntWalk Go.Proofs.Mem Go.Proofs.Stk
def isortTo (k:Nat) (xs:List Int):List Int:=(List.range (k - 1)).foldl (fun ys k=>down (k + 1) ys) xs
theorem isortTo_succ (k:Nat) (hk:1≤k) (xs:List Int):isortTo (k + 1) xs=down k (isortTo k xs):=by
  unfold isortTo
  rw [show k + 1 - 1=(k - 1) + 1 by omega,List.range_succ,List.foldl_append]
  simp only [List.foldl_cons,List.foldl_nil]
  rw [show k - 1 + 1=k by omega]
theorem isort_any (w:World) (gg n cap:Nat) (xs:List Int) (h:Row32 w gg n cap xs) (h1:1≤n) (hn:n≤12) :
    Calls Tryz.prog 116 #[.slice (some ⟨gg,0,none⟩) n cap,.int .i64 0,.int .i64 n] w fun e w'=>e=.returned (.tuple #[])∧Row32 w' gg n cap (isortTo n xs)∧Fr (fun x=>x=gg) w w':=by
  have HR:=Lib.hid h
  have HC:=Lib.hid (show n≤cap by obtain ⟨cur,_,_,hc,_⟩:=h.box;exact hc)
  have H1:=Lib.hid h1
  clear h h1
  go_enter Tryz.func116,Tryz.ntmps116
  go_wp2
  go_loopw [6] (fun s wr=>∃ k:Nat,1≤k∧k≤n∧s=.int .i64 k∧Hid (Row32 wr gg n cap (isortTo k xs))∧Hid (Fr (fun x=>x=gg) w wr)) (fun s _=>n - (intOf s).toNat)
  case atStart=>exact ⟨1,by omega,H1.out,rfl,HR,Lib.hid (Fr.refl _ _)⟩
  case round=>
    obtain ⟨k,hk1,hk,rfl,HO,HF⟩:=hrel
    obtain ⟨w1,rfl⟩:∃ w1,w1=wr:=⟨wr,rfl⟩
    by_cases hl:k < n
    · have d1:decide ((k:Int) < (n:Int))=true:=by simp;omega
      go_wp2
      have hk12:(k:Int)≤12:=by omega
      obtain ⟨k',hk'⟩:∃ k',k'=k + 1:=⟨_,rfl⟩
      have hks:(k:Int) + 1=(k':Int):=by omega
      have HK:=Lib.hid hk'
      clear hk'
      go_loopw [7] (fun s wr=>∃ (j:Nat) (ys:List Int),j≤k∧s=.int .i64 j∧Hid (Row32 wr gg n cap ys)∧Hid (down j ys=isortTo (k + 1) xs)∧Hid (Fr (fun x=>x=gg) w wr)) (fun s _=>(intOf s).toNat)
      case atStart=>exact ⟨k,_,Nat.le_refl _,rfl,HO,Lib.hid (isortTo_succ k hk1 xs).symm,HF⟩
      case round=>
        obtain ⟨j,ys,hj,rfl,HY,HD,HG⟩:=hrel
        obtain ⟨w2,rfl⟩:∃ w2,w2=wr:=⟨wr,rfl⟩
        have hlen:=HY.out.len
        match j,hj,HD with
        | 0,hj,HD=>
          have d2:decide ((0:Int) < 0)=false:=by simp
          go_upto_region 4 with fail
          go_quiet (fail)
          go_wp2
          go_roundw
          case rel=>exact ⟨k',by have:=HK.out;omega,by have:=HK.out;omega,rfl,Lib.hid (by rw [HK.out,← HD.out];exact HY.out.drewN nq),Lib.hid (HG.out.drewN nq)⟩
          case measure=>simp [intOf];have:=HK.out;omega
        | j + 1,hj,HD=>
          obtain ⟨a,ha⟩:∃ a,ys[j + 1]?=some a:=⟨_,List.getElem?_eq_getElem (by omega)⟩
          obtain ⟨b,hb⟩:∃ b,ys[j]?=some b:=⟨_,List.getElem?_eq_getElem (by omega)⟩
          have ca:=fun d=>(HY.out.drewN d).cell (j + 1) ha
          have cb:=fun d=>(HY.out.drewN d).cell j hb
          have d2:decide ((0:Int) < ((j + 1:Nat):Int))=true:=by simp
          have s2:((j + 1:Nat):Int) - 1=(j:Int):=by omega
          by_cases hab:a < b
          · have d3:decide (a < b)=true:=decide_eq_true hab
            go_upto_region 4 with fail
            go_quiet (first | (go_at_call 122;exact quiet_l ((less_u32 a b _).mono (fun e w' ⟨h1,h2⟩=>⟨h1,h2.symm⟩))))
            have hd:down (j + 1) ys=down j ((ys.set (j + 1) b).set j a):=by
              conv=>lhs;unfold down
              rw [if_pos (by simp only [List.getD_eq_getElem?_getD,ha,hb,Option.getD_some];exact hab)]
              unfold swp
              simp only [List.getD_eq_getElem?_getD,ha,hb,Option.getD_some,Nat.add_sub_cancel]
            have HDD:=Lib.hid hd
            have fa:=fun d=>(HY.out.drewN d).frozen (j + 1)
            have fb:=fun d=>(HY.out.drewN d).frozen j
            clear hd
            go_upto_region 6 with fail
            go_region
            go_wp2
            go_roundw
            case rel=>exact ⟨j,(ys.set (j + 1) b).set j a,by omega,rfl,Lib.hid (((HY.out.drewN (nq + 1)).set_ (j + 1) b (by omega)).set_ j a (by omega)),Lib.hid (by rw [← HDD.out];exact HD.out),Lib.hid (((HG.out.drewN (nq + 1)).setCell (p:=⟨gg,j + 1,none⟩) (.inl rfl) _).setCell (p:=⟨gg,j,none⟩) (.inl rfl) _)⟩
            case measure=>simp [intOf]
          · have d3:decide (a < b)=false:=decide_eq_false hab
            go_upto_region 4 with fail
            go_quiet (first | (go_at_call 122;exact quiet_l ((less_u32 a b _).mono (fun e w' ⟨h1,h2⟩=>⟨h1,h2.symm⟩))))
            have hd:down (j + 1) ys=ys:=by
              unfold down
              rw [if_neg]
              simp only [List.getD_eq_getElem?_getD,ha,hb,Option.getD_some]
              exact hab
            have HDD:=Lib.hid hd
            clear hd
            go_wp2
            go_roundw
            case rel=>exact ⟨k',by have:=HK.out;omega,by have:=HK.out;omega,rfl,Lib.hid (by rw [HK.out,← HD.out,HDD.out];exact HY.out.drewN nq),Lib.hid (HG.out.drewN nq)⟩
            case measure=>simp [intOf];have:=HK.out;omega
    · have d1:decide ((k:Int) < (n:Int))=false:=by simp;omega
      obtain rfl:k=n:=by omega
      go_wp2
      go_end0
      exact ⟨rfl,HO.out,HF.out⟩
end Go.Proofs.YtabckmadpdchnaaGreat.Rule
namespace Go.Proofs.YtabckmadpdchnaaGreat.Rule
open Go.ChangeShapes Go.WideShapes Go.ChangeAt Go.RowKit Go.IntWalk Go.Proofs.Mem Go.Proofs.Stk
theorem len_any (n:Nat) (hn:n≤1000000) (w:World):Calls Tryz.prog 29 #[.int .u64 n] w fun e w'=>(∃ k:Nat,e=.returned (.int .i64 k))∧w=w':=by
  have CL:=Lib.hid (Money.len64_any (n:Int) (by omega) (by omega) w)
  clear hn
  go_enter Tryz.func29,Tryz.ntmps29
  go_wp2_with (go_at_call 46;(with_reducible refine CL.out.mono ?_);rintro e w1 ⟨rfl,rfl⟩)
  go_ret
  exact ⟨⟨_,rfl⟩,rfl⟩
theorem pdq_small (w:World) (gg n cap k:Nat) (xs:List Int) (h:Row32 w gg n cap xs) (h1:1≤n) (hn:n≤12) :
    Calls Tryz.prog 114 #[.slice (some ⟨gg,0,none⟩) n cap,.int .i64 0,.int .i64 n,.int .i64 k] w fun e w'=>e=.returned (.tuple #[])∧Row32 w' gg n cap (isortTo n xs)∧Fr (fun x=>x=gg) w w':=by
  have CL:=Lib.hid (isort_any w gg n cap xs h h1 hn)
  have d1:decide ((n:Int)≤12)=true:=by simp;omega
  have s1:(n:Int) - 0=(n:Int):=by omega
  have hn12:(n:Int)≤12:=by omega
  clear h h1 hn
  go_enter Tryz.func114,Tryz.ntmps114
  go_wp2
  refine wp_loop_rounds 1 ?_
  rw [rounds_succ]
  go_wp2_with fail
  (with_reducible refine CL.out.mono ?_)
  rintro e w1 ⟨rfl,h2,h3⟩
  have H2:=Lib.hid h2
  have H3:=Lib.hid h3
  clear h2 h3
  go_wp2
  refine bodyPost_ret (results_none rfl _ _ _) rfl ?_
  exact ⟨rfl,H2.out,H3.out⟩
theorem sort_small (w:World) (gg n cap:Nat) (xs:List Int) (h:Row32 w gg n cap xs) (h1:1≤n) (hn:n≤12) :
    Calls Tryz.prog 108 #[.slice (some ⟨gg,0,none⟩) n cap] w fun e w'=>e=.returned (.tuple #[])∧Row32 w' gg n cap (isortTo n xs)∧Fr (fun x=>x=gg) w w':=by
  have CL:=Lib.hid (len_any n (by omega) w)
  have CP:=Lib.hid (fun k=>pdq_small w gg n cap k xs h h1 hn)
  have cw:IntKind.u64.wrap (n:Int)=n:=by
    have:IntKind.u64.wrap (n:Int)=(n:Int) % 18446744073709551616:=by simp [IntKind.wrap,IntKind.signed,IntKind.bits]
    omega
  clear h h1 hn
  go_enter Tryz.func108,Tryz.ntmps108
  go_wp2_with (first
    | (go_at_call 29;(with_reducible refine CL.out.mono ?_);rintro e w1 ⟨⟨k,rfl⟩,rfl⟩)
    | (go_at_call 114;(with_reducible refine (CP.out _).mono ?_);rintro e w2 ⟨rfl,h2,h3⟩;have H2:=Lib.hid h2;have H3:=Lib.hid h3;clear h2 h3))
  go_end0
  exact ⟨rfl,H2.out,H3.out⟩
end Go.Proofs.YtabckmadpdchnaaGreat.Rule
