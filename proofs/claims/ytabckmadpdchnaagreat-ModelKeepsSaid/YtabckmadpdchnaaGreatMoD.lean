import Derived.Test.YtabckmadpdchnaaGreatMo0
import Derived.Test.YtabckmadpdchnaaGreatMo1
import Derived.Test.YtabckmadpdchnaaGreatMo4
import Derived.Test.YtabckmadpdchnaaGreatMoA
import Derived.Test.YtabckmadpdchnaaGreatMoC
import Derived.BigQuiet
import Derived.IntWalk
import Derived.Shelf.SlSortCmp.NoneTotal
import Derived.Shelf.SlSortCmp.WholeK
set_option linter.unusedVariables false
set_option linter.deprecated false
set_option linter.unusedSimpArgs false
set_option linter.unnecessarySimpa false
set_option maxRecDepth 100000
set_option maxHeartbeats 8000000
namespace Go.Proofs.YtabckmadpdchnaaGreat.Rule
open Go.ChangeShapes Go.WideShapes Go.ChangeAt Go.RowKit Go.IntWalk Go.Proofs.Mem
theorem pu_len (x:Pu):x.cells.length=6:=rfl
def rpV (d:List Pu × Int × Rp):Value:=.agg #[.int .u16 d.2.1,.int .u64 d.2.2.A,.int .u64 d.2.2.B,.int .u64 d.2.2.C]
structure LD (w:World) (f:Wm) (q:Ot) (seen:List Ce) (v:Value) (W:World):Prop where
  bel:Below w.heap.size w W
  op:Box W w.heap.size #[.int .u8 q.kd,.int .u32 q.wh,.int .u32 q.wm,.int .u32 q.wt,.int .u32 q.id,.int .u64 q.n,.int .u64 q.pr] 29
  rp:Box W (w.heap.size + 1) #[.int .u16 0,.int .u64 0,.int .u64 0,.int .u64 0] 35
  sr:W.ownsRow (w.heap.size + 2) 53 6 v seen.length (seen.flatMap Ce.cells)
  agr:Agr f seen (oAll q []) 0
  ok:∀ c∈seen,c.Ok
  len:seen.length≤12
section
variable {w W W':World} {f:Wm} {q:Ot} {seen:List Ce} {v v':Value}
theorem LD.later (h:LD w f q seen v W) (hb:Below W.heap.size W W'):LD w f q seen v W':=
  ⟨h.bel.trans (hb.mono h.bel.size),h.op.later hb,h.rp.later hb,own_below h.sr hb,h.agr,h.ok,h.len⟩
theorem LD.lt (h:LD w f q seen v W):w.heap.size + 1 < W.heap.size:=h.rp.lt
theorem LD.push (h:LD w f q seen v W) {k a b:Int} (hm:opR q seen=.miss k a b) (hf:Wok f) (ts:RowTo W W' v v') (hs:W'.ownsRow (w.heap.size + 2) 53 6 v' (seen++[see f k a b]).length ((seen++[see f k a b]).flatMap Ce.cells)):LD w f q (seen++[see f k a b]) v' W':=by
  have sb:∀ x,v.ownBlock=some x→w.heap.size + 2≤x:=fun x e=>(h.sr.lt x e).1
  have z1:=h.lt
  refine ⟨h.bel.trans (ts.below (B:=w.heap.size) (fun x e=>by have:=sb x e;omega) (by omega)),ts.box h.op (fun e=>by have:=sb _ e;omega),ts.box h.rp (fun e=>by have:=sb _ e;omega),hs,agr_push _ _ _ _ _ _ _ (Nat.zero_le _) h.agr hm,?_,?_⟩
  · intro x hx
    rcases List.mem_append.1 hx with hx | hx
    · exact h.ok x hx
    · rw [List.mem_singleton.1 hx];exact see_ok hf k a b
  · have:=miss_short hm
    simp;omega
end
theorem LD.start (w:World) (f:Wm) (q:Ot):LD w f q [] (.slice none 0 0) ((w.alloc (.cells #[.int .u8 q.kd,.int .u32 q.wh,.int .u32 q.wm,.int .u32 q.wt,.int .u32 q.id,.int .u64 q.n,.int .u64 q.pr] 29)).alloc (.cells #[.int .u16 0,.int .u64 0,.int .u64 0,.int .u64 0] 35)):=by
  have X:=Box.new (w.alloc (.cells #[.int .u8 q.kd,.int .u32 q.wh,.int .u32 q.wm,.int .u32 q.wt,.int .u32 q.id,.int .u64 q.n,.int .u64 q.pr] 29)) #[.int .u16 0,.int .u64 0,.int .u64 0,.int .u64 0] 35
  rw [World.size_alloc] at X
  exact ⟨new_ (new_ (Below.refl _ _) _) _,(Box.new _ _ _).alloc _,X,World.ownsRow_nil _ _ _ _,agr_end _ _ _ _ (Nat.le_refl _),fun c hc=>by (cases hc),Nat.zero_le _⟩
theorem nOut_no {r:Re (Rp × List Pu)} (h:∀ k a b,r≠.miss k a b):nOut r=(0,0,0,false):=by
  cases r with
  | miss k a b=>exact absurd rfl (h k a b)
  | err e=>rfl
  | ok y j=>rfl
theorem w64_succ {j:Nat} (h:j + 1≤1000000):wrap64 ((j:Int) + 1)=((j + 1:Nat):Int):=by
  rw [wrap64_in _ (by omega)]
  rfl
def lenV:Value→Nat
  | .slice _ l _=>l
  | _=>0
structure LP (W2:World) (p m n:Nat) (f:Wm) (l:List Pu) (j:Nat) (W:World):Prop where
  at_:WAt W p m (n + j) (putsF f (l.take j))
  fr:Fr (fun g=>g=m) W2 W
theorem putsF_take {f:Wm} {l:List Pu} {j:Nat} {x:Pu} (h:l[j]?=some x):putsF f (l.take (j + 1))=putF (putsF f (l.take j)) x:=by
  rw [List.take_add_one,h]
  simp [putsF]
theorem put_cells {w:World} {b off j:Nat} {c:Pu} (h:∀ t u,c.cells[t]?=some u→w.cell? ⟨b,off + j * 6 + t,none⟩=some u) :
    w.cell? ⟨b,off + j * 6,none⟩=some (.int .u8 c.k)∧w.cell? ⟨b,off + j * 6 + 1,none⟩=some (.int .u32 c.a)∧w.cell? ⟨b,off + j * 6 + 2,none⟩=some (.int .u32 c.b)∧w.cell? ⟨b,off + j * 6 + 3,none⟩=some (.int .u64 c.A)∧w.cell? ⟨b,off + j * 6 + 4,none⟩=some (.int .u64 c.B)∧w.cell? ⟨b,off + j * 6 + 5,none⟩=some (.bool c.gone):=
  ⟨h 0 _ rfl,h 1 _ rfl,h 2 _ rfl,h 3 _ rfl,h 4 _ rfl,h 5 _ rfl⟩
theorem do_w (w:World) (p m n:Nat) (f:Wm) (h:WAt w p m n f) (hf:Wok f) (q:Ot) (hq:q.Ok) (hn:n≤100000) :
    Calls Tryz.prog 9 #[.pointer (some ⟨p,0,none⟩),.agg q.cells] w fun e w'=>e=.returned (rpV (evD f q))∧WAt w' p m (n + 9) (opF f q)∧Fr (fun g=>g=m) w w':=by
  obtain ⟨d,hd⟩:∃ d,evD f q=d:=⟨_,rfl⟩
  have hop:opF f q=putsF f d.1:=by rw [← hd];rfl
  rw [hd,hop]
  obtain ⟨puts,er,rp⟩:=d
  have HD:=Lib.hid hd
  clear hd hop
  obtain ⟨ic,hc0,hc1,hc2,hc3⟩:=info_parts cell_info
  have NEXT:=Lib.hid (fun (W:World) (A:Option Addr) (l c:Nat) (seen:List Ce) (hs:SeenAt W W.heap.size (.slice A l c) seen) (hok:∀ c∈seen,c.Ok)=>(show Calls Tryz.prog 20 #[.agg #[.int .u8 q.kd,.int .u32 q.wh,.int .u32 q.wm,.int .u32 q.wt,.int .u32 q.id,.int .u64 q.n,.int .u64 q.pr],.slice A l c] W fun en w'=>en=.returned (.tuple #[.agg #[.int .u8 (nOut (opR q seen)).1,.int .u32 (nOut (opR q seen)).2.1,.int .u32 (nOut (opR q seen)).2.2.1],.bool (nOut (opR q seen)).2.2.2])∧Below W.heap.size W w' from next_op q hq W A l c seen hs hok))
  have DO:=Lib.hid (fun (W:World) (A:Option Addr) (l c:Nat) (seen:List Ce) (hs:SeenAt W W.heap.size (.slice A l c) seen) (hok:∀ c∈seen,c.Ok)=>(show Calls Tryz.prog 21 #[.agg #[.int .u8 q.kd,.int .u32 q.wh,.int .u32 q.wm,.int .u32 q.wt,.int .u32 q.id,.int .u64 q.n,.int .u64 q.pr],.slice A l c] W fun en w'=>∃ A' l' c',en=.returned (.tuple #[.slice A' l' c',.agg #[.int .u16 (dOut (opR q seen)).2.1,.int .u64 (dOut (opR q seen)).2.2.A,.int .u64 (dOut (opR q seen)).2.2.B,.int .u64 (dOut (opR q seen)).2.2.C]]) ∧
      w'.ownsRow W.heap.size 69 6 (.slice A' l' c') (dOut (opR q seen)).1.length (putCells (dOut (opR q seen)).1)∧Below W.heap.size W w' from do_op q hq W A l c seen hs hok))
  have START:=Lib.hid (LD.start w f q)
  have HQ:=Lib.hid hq
  have HF:=Lib.hid hf
  have H:=Lib.hid h
  have HN:=Lib.hid hn
  unfold Ot.cells
  clear h hf hq hn
  go_enter Tryz.func9,Tryz.ntmps9
  go_wp2
  go_loopw [5] (fun sv wr=>∃ seen A c,sv=.slice A seen.length c∧Hid (LD w f q seen (.slice A seen.length c) wr)) (fun sv _=>13 - lenV sv)
  case atStart=>exact ⟨[],_,_,rfl,START⟩
  case round=>
    clear START
    obtain ⟨seen,A,c,rfl,HL⟩:=hrel
    have yc:=HL.out.op.cell
    have CALL:=NEXT.out wr A seen.length c seen (SS.of_own Ce.cells_len HL.out.sr) HL.out.ok
    by_cases hmiss:∃ k a b,opR q seen=.miss k a b
    · obtain ⟨k,a,b,hr⟩:=hmiss
      rw [hr] at CALL
      dsimp only [nOut] at CALL
      replace CALL:=Lib.hid CALL
      have HR:=Lib.hid hr
      have HK:=Lib.hid (miss_key HQ.out HL.out.ok hr)
      clear hr
      have hwa:=H.out
      have e0:=congrArg (fun x=>x) (rfl:(see f k a b).k=k)
      obtain ⟨cA,hcA⟩:∃ x,(see f k a b).A=x:=⟨_,rfl⟩
      obtain ⟨cB,hcB⟩:∃ x,(see f k a b).B=x:=⟨_,rfl⟩
      obtain ⟨ci,hci⟩:∃ x,(see f k a b).is=x:=⟨_,rfl⟩
      have HSE:=Lib.hid (show see f k a b=⟨k,a,b,cA,cB,ci⟩ by rw [← hcA,← hcB,← hci];rfl)
      have GET:=Lib.hid (fun (W:World) (hb:Below w.heap.size w W)=>(by have:=get_any W p m n f (hwa.later hb) k a b HK.out;rw [hcA,hcB,hci] at this;exact this:Calls Tryz.prog 16 #[.pointer (some ⟨p,0,none⟩),.agg #[.int .u8 k,.int .u32 a,.int .u32 b]] W fun e w'=>e=.returned (.tuple #[.agg #[.int .u64 cA,.int .u64 cB],.bool ci])∧Below W.heap.size W w'))
      clear hwa e0 hcA hcB hci
      go_wp2_with (first
        | (go_at_call 20;(with_reducible refine CALL.out.mono ?_);rintro e w1 ⟨rfl,hb1⟩
           have HL1:=Lib.hid (HL.out.later (hb1.trans ((new_ (Below.refl _ _) (.cells #[.int .u8 k,.int .u32 a,.int .u32 b] 49)).mono hb1.size)))
           have KB:=Lib.hid (Box.new w1 #[.int .u8 k,.int .u32 a,.int .u32 b] 49)
           clear hb1)
        | (go_at_call 16;(with_reducible refine (GET.out _ HL1.out.bel).mono ?_);rintro e w3 ⟨rfl,hb3⟩
           have HL3:=Lib.hid (HL1.out.later hb3)
           have kc:=((KB.out.later hb3).alloc (.cells #[.int .u64 cA,.int .u64 cB] 51)).cell
           have HL5:=Lib.hid ((HL3.out.later (new_ (Below.refl _ _) (.cells #[.int .u64 cA,.int .u64 cB] 51))).later (new_ (Below.refl _ _) (.cells #[.int .u8 k,.int .u32 a,.int .u32 b,.int .u64 cA,.int .u64 cB,.bool ci] 53)))
           clear hb3)
        | (at_builtin;refine wpList_push_ss (F:=Ce.cells) (sz:=6) _ rfl _ _ _ rfl (w.heap.size + 2) 53 ic _ 40 Tryz.underlying30 hc0 hc1 hc2 hc3 rfl (by decide) Ce.cells_len Ce.cells_one _ seen rfl HL5.out.sr (w3.heap.size + 1) ⟨k,a,b,cA,cB,ci⟩ 53 rfl (by have h:=Box.new (w3.alloc (.cells #[.int .u64 cA,.int .u64 cB] 51)) #[.int .u8 k,.int .u32 a,.int .u32 b,.int .u64 cA,.int .u64 cB,.bool ci] 53;rw [World.size_alloc] at h;exact h) (by have:=HL5.out.len;unfold maxLen;omega) (by have:=HL5.out.len;omega) (by have:=HL5.out.lt;omega) ?_;intro sv9 W9 hsn ts
           have HSN:=Lib.hid hsn
           have HTS:=Lib.hid ts
           clear hsn ts kc))
      have hsn:=HSN.out
      rw [← HSE.out] at hsn
      have HL9:=Lib.hid (HL5.out.push HR.out HF.out HTS.out hsn)
      obtain ⟨A9,c9,rfl,_,_⟩:=(SS.of_own Ce.cells_len HL9.out.sr).form
      exact ⟨⟨_,A9,c9,rfl,HL9⟩,by have:=HL9.out.len;simp [lenV] at *;omega⟩
    · have hno:∀ k a b,opR q seen≠.miss k a b:=fun k a b h=>hmiss ⟨k,a,b,h⟩
      rw [nOut_no hno] at CALL
      dsimp only at CALL
      have hout:=agr_out HL.out.agr hno
      have hfit:=evD_fit HF.out HQ.out
      have DON:=fun (W:World) (hb:Below wr.heap.size wr W)=>DO.out W A seen.length c seen (SS.of_own Ce.cells_len (HL.out.later hb).sr) HL.out.ok
      rw [hout] at DON
      rw [HD.out] at DON hfit
      clear hmiss hno hout
      replace CALL:=Lib.hid CALL
      have HFIT:=Lib.hid hfit
      have DON2:=Lib.hid DON
      clear hfit DON
      go_wp2_with (first
        | (go_at_call 20;(with_reducible refine CALL.out.mono ?_);rintro e w1 ⟨rfl,hb1⟩
           have HB1:=Lib.hid (hb1.trans ((new_ (Below.refl w1.heap.size w1) (.cells #[.int .u8 0,.int .u32 0,.int .u32 0] 49)).mono hb1.size))
           have yc1:=(HL.out.later HB1.out).op.cell
           clear hb1)
        | (go_at_call 21;(with_reducible refine (DON2.out _ HB1.out).mono ?_);rintro e w2 ⟨A2,l2,c2,rfl,ho2,hb2⟩
           have HO2:=Lib.hid ho2
           have HL2:=Lib.hid ((HL.out.later HB1.out).later hb2)
           clear yc1 ho2 hb2))
      obtain ⟨W3,hW3⟩:∃ x,w2.alloc (.cells #[.int .u16 er,.int .u64 rp.A,.int .u64 rp.B,.int .u64 rp.C] 35)=x:=⟨_,rfl⟩
      have hb3:Below w2.heap.size w2 W3:=by rw [← hW3];exact new_ (Below.refl _ _) _
      have R3:=Lib.hid (show Box W3 w2.heap.size #[.int .u16 er,.int .u64 rp.A,.int .u64 rp.B,.int .u64 rp.C] 35 by rw [← hW3];exact Box.new _ _ _)
      have HL3:=Lib.hid (HL2.out.later hb3)
      have HS3:=Lib.hid (SS.of_own pu_len (own_below HO2.out hb3))
      have HW3:=Lib.hid (H.out.later HL3.out.bel)
      obtain ⟨A4,c4,e4,_,_⟩:=HS3.out.form
      injection e4 with e4 e5 e6
      subst e4 e5 e6
      have HG:=Lib.hid (show m < w.heap.size∧w.heap.size + 1 < w2.heap.size from ⟨H.out.fm.lt,HL2.out.lt⟩)
      have HBM:=Lib.hid (show ∀ b off,A2=some ⟨b,off,none⟩→m < b from fun b off e=>by
        have hs1:=HB1.out.size
        have hg:=HG.out.1
        have hl:=HL.out.lt
        rcases HO2.out.2 with ⟨e1,_⟩ | ⟨g,cap,cur,e1,e2,_⟩
        · injection e1 with e1 _ _;rw [e1] at e;cases e
        · injection e1 with e1 _ _
          rw [e1] at e
          injection e with e
          injection e with e _ _
          omega)
      have HPL:=Lib.hid (show puts.length≤9 from HFIT.out.1)
      rw [hW3]
      clear hW3 hb3 HO2 HL2 HB1 HL yc CALL DON2
      go_loopw [43] (fun i wr=>∃ j:Nat,j≤puts.length∧i=.int .i64 j∧Hid (LP W3 p m n f puts j wr)) (fun i _=>puts.length - (intOf i).toNat)
      case atStart=>exact ⟨0,Nat.zero_le _,rfl,Lib.hid ⟨HW3.out,Fr.refl _ _⟩⟩
      case round=>
        obtain ⟨j,hj,rfl,HP⟩:=hrel
        by_cases hlt:j < puts.length
        · obtain ⟨x,hx⟩:∃ x,puts[j]?=some x:=⟨_,List.getElem?_eq_getElem hlt⟩
          have d1:decide ((j:Int) < (puts.length:Int))=true:=by simp;omega
          have q1:decide (j < puts.length)=true:=by simp;omega
          obtain ⟨b,off,rfl,hb,hat⟩:=HS3.out.at_ hx
          have hbm:=HBM.out b off rfl
          obtain ⟨z0,z1,z2,z3,z4,z5⟩:=put_cells (w:=wr) (fun t u hu=>(HP.out.fr.cell (p:=⟨b,off + j * 6 + t,none⟩) hb (by show ¬ b=m;omega)).trans (hat t u hu))
          have HXF:=Lib.hid (HFIT.out.2 x (List.mem_of_getElem? hx))
          have HT:=Lib.hid (putsF_take (f:=f) hx)
          have HPW:=HP.out.at_
          have PUT:=Lib.hid (fun (W:World) (hb:Below wr.heap.size wr W)=>put_w W p m (n + j) (putsF f (puts.take j)) (HPW.later hb) (by have:=HN.out;have:=HPL.out;unfold maxLen;omega) x HXF.out)
          clear hat hx hb HPW
          go_wp2_with (go_at_call 22;(with_reducible refine (PUT.out _ (new_ (Below.refl _ _) _)).mono ?_);rintro e w5 ⟨rfl,hw5,hf5⟩
                       have HP5:=Lib.hid (show LP W3 p m n f puts (j + 1) w5 from ⟨by rw [HT.out];exact hw5,HP.out.fr.trans (((Fr.refl _ _).alloc _).trans hf5)⟩)
                       clear hw5 hf5)
          have hj1:j + 1≤puts.length:=by omega
          have hw1:wrap64 ((j:Int) + 1)=((j + 1:Nat):Int):=w64_succ (Nat.le_trans hlt (Nat.le_trans HPL.out (by decide)))
          have hme:puts.length - (j + 1) < puts.length - j:=by omega
          rw [hw1]
          exact ⟨⟨j + 1,hj1,rfl,HP5⟩,hme⟩
        · have d1:decide ((j:Int) < (puts.length:Int))=false:=by simp;omega
          obtain rfl:j=puts.length:=by omega
          have hw:=HP.out.at_
          rw [List.take_length] at hw
          have HW:=Lib.hid hw
          have r3:=(R3.out.fr HP.out.fr (by have:=HG.out;omega))
          have x4:=(HL3.out.rp.fr HP.out.fr (by have:=HG.out;omega))
          have rc:=r3.cell
          have xc:=x4.cell
          have xf:=x4.frozen
          have HF4:=Lib.hid (show Fr (fun g=>g=m) w wr from (Fr.of_below HL3.out.bel).trans HP.out.fr)
          clear hw r3
          go_wp2
          have Y:=(((x4.set_ 0 (.int .u16 er)).set_ 1 (.int .u64 rp.A)).set_ 2 (.int .u64 rp.B)).set_ 3 (.int .u64 rp.C)
          have BY:Fr (fun g=>g=w.heap.size + 1) wr ((((wr.setCell ⟨w.heap.size + 1,0,none⟩ (.int .u16 er)).setCell ⟨w.heap.size + 1,1,none⟩ (.int .u64 rp.A)).setCell ⟨w.heap.size + 1,2,none⟩ (.int .u64 rp.B)).setCell ⟨w.heap.size + 1,3,none⟩ (.int .u64 rp.C)):=(((((Fr.refl (fun g=>g=w.heap.size + 1) wr).setCell (p:=⟨w.heap.size + 1,0,none⟩) (.inl rfl) _).setCell (p:=⟨w.heap.size + 1,1,none⟩) (.inl rfl) _).setCell (p:=⟨w.heap.size + 1,2,none⟩) (.inl rfl) _).setCell (p:=⟨w.heap.size + 1,3,none⟩) (.inl rfl) _)
          generalize ((((wr.setCell ⟨w.heap.size + 1,0,none⟩ (.int .u16 er)).setCell ⟨w.heap.size + 1,1,none⟩ (.int .u64 rp.A)).setCell ⟨w.heap.size + 1,2,none⟩ (.int .u64 rp.B)).setCell ⟨w.heap.size + 1,3,none⟩ (.int .u64 rp.C))=w6 at Y BY ⊢
          have y0:w6.cell? ⟨w.heap.size + 1,0,none⟩=some (.int .u16 er):=by rw [Y.cell 0];rfl
          have y1:w6.cell? ⟨w.heap.size + 1,1,none⟩=some (.int .u64 rp.A):=by rw [Y.cell 1];rfl
          have y2:w6.cell? ⟨w.heap.size + 1,2,none⟩=some (.int .u64 rp.B):=by rw [Y.cell 2];rfl
          have y3:w6.cell? ⟨w.heap.size + 1,3,none⟩=some (.int .u64 rp.C):=by rw [Y.cell 3];rfl
          refine bodyPost_ret (v:=.agg #[.int .u16 er,.int .u64 rp.A,.int .u64 rp.B,.int .u64 rp.C]) (by simp [results,Tryz.results9,go_sem,y0,y1,y2,y3];try rfl) rfl ?_
          have hp1:=H.out.box.lt
          have n1:¬ p=w.heap.size + 1:=by omega
          have n2:¬ m=w.heap.size + 1:=by have:=HG.out.1;omega
          have n3:∀ i,i < w.heap.size→i=w.heap.size + 1→i=m:=fun i h1 h2=>by omega
          have n4:n + puts.length≤n + 9:=by have:=HPL.out;omega
          exact ⟨rfl,(HW.out.fr BY n1 n2).mono n4,HF4.out.trans' BY n3⟩
end Go.Proofs.YtabckmadpdchnaaGreat.Rule
namespace Go.Proofs
open Go.Shelf
def layN_ren:Go.Shelf.Ren:=⟨fun | 6=>17 | 15=>29 | 14=>28 | 28=>45 | 29=>46 | 20=>37 | 21=>38 | 22=>39 | 23=>40 | 24=>41 | 25=>42 | 26=>43 | 27=>44 | 46=>55 | 47=>56 | 48=>57 | 49=>58 | 50=>59 | 57=>78 | n=>n,fun | 22=>30 | 24=>53 | 25=>62 | 3=>3 | 39=>76 | 0=>0 | 53=>23 | 55=>27 | 4=>4 | 46=>94 | 45=>93 | 50=>98 | 5=>5 | 9=>9 | 66=>118 | 70=>122 | 76=>126 | 77=>127 | n=>n,fun | n=>n⟩
theorem layN:Go.Proofs.SlLaysF0.n6 Tryz.prog layN_ren:={
  mixed:=by kernel_rfl
  f6:=⟨Tryz.f17.name,by decide,Tryz.func17.trans (congrArg some (by kernel_rfl))⟩
  f14:=⟨Tryz.f28.name,by decide,Tryz.func28.trans (congrArg some (by kernel_rfl))⟩
  f15:=Tryz.func29.trans (congrArg some (by kernel_rfl))
  f20:=⟨Tryz.f37.name,by decide,Tryz.func37.trans (congrArg some (by kernel_rfl))⟩
  f21:=⟨Tryz.f38.name,by decide,Tryz.func38.trans (congrArg some (by kernel_rfl))⟩
  f22:=⟨Tryz.f39.name,by decide,Tryz.func39.trans (congrArg some (by kernel_rfl))⟩
  f23:=⟨Tryz.f40.name,by decide,Tryz.func40.trans (congrArg some (by kernel_rfl))⟩
  f24:=⟨Tryz.f41.name,by decide,Tryz.func41.trans (congrArg some (by kernel_rfl))⟩
  f25:=⟨Tryz.f42.name,by decide,Tryz.func42.trans (congrArg some (by kernel_rfl))⟩
  f26:=⟨Tryz.f43.name,by decide,Tryz.func43.trans (congrArg some (by kernel_rfl))⟩
  f27:=⟨Tryz.f44.name,by decide,Tryz.func44.trans (congrArg some (by kernel_rfl))⟩
  f28:=Tryz.func45.trans (congrArg some (by kernel_rfl))
  f29:=Tryz.func46.trans (congrArg some (by kernel_rfl))
  f46:=⟨Tryz.f55.name,by decide,Tryz.func55.trans (congrArg some (by kernel_rfl))⟩
  f47:=Tryz.func56.trans (congrArg some (by kernel_rfl))
  f48:=Tryz.func57.trans (congrArg some (by kernel_rfl))
  f49:=⟨Tryz.f58.name,by decide,Tryz.func58.trans (congrArg some (by kernel_rfl))⟩
  f50:=⟨Tryz.f59.name,by decide,Tryz.func59.trans (congrArg some (by kernel_rfl))⟩
  f57:=⟨Tryz.f78.name,by decide,Tryz.func78.trans (congrArg some (by kernel_rfl))⟩
  t0:=Tryz.underlying0
  a0:=Tryz.isAgg0
  z0:=Tryz.sizeOf0
  v0:=Tryz.zeroValue0
  t3:=Tryz.underlying3
  a3:=Tryz.isAgg3
  z3:=Tryz.sizeOf3
  v3:=Tryz.zeroValue3
  t4:=Tryz.underlying4
  a4:=Tryz.isAgg4
  z4:=Tryz.sizeOf4
  v4:=Tryz.zeroValue4
  t5:=Tryz.underlying5
  a5:=Tryz.isAgg5
  z5:=Tryz.sizeOf5
  v5:=Tryz.zeroValue5
  t9:=Tryz.underlying9
  a9:=Tryz.isAgg9
  z9:=Tryz.sizeOf9
  v9:=Tryz.zeroValue9
  t22:=Tryz.underlying30
  a22:=Tryz.isAgg30
  z22:=Tryz.sizeOf30
  v22:=Tryz.zeroValue30
  t25:=Tryz.underlying62
  a25:=Tryz.isAgg62
  z25:=Tryz.sizeOf62
  v25:=Tryz.zeroValue62
  t39:=Tryz.underlying76
  a39:=Tryz.isAgg76
  z39:=Tryz.sizeOf76
  v39:=Tryz.zeroValue76
  t45:=Tryz.underlying93
  a45:=Tryz.isAgg93
  z45:=Tryz.sizeOf93
  v45:=Tryz.zeroValue93
  t46:=Tryz.underlying94
  a46:=Tryz.isAgg94
  z46:=Tryz.sizeOf94
  v46:=Tryz.zeroValue94
  t50:=Tryz.underlying98
  a50:=Tryz.isAgg98
  z50:=Tryz.sizeOf98
  v50:=Tryz.zeroValue98
  t53:=Tryz.underlying23
  a53:=Tryz.isAgg23
  z53:=Tryz.sizeOf23
  v53:=Tryz.zeroValue23
  t55:=Tryz.underlying27
  a55:=Tryz.isAgg27
  z55:=Tryz.sizeOf27
  v55:=Tryz.zeroValue27
  t66:=Tryz.underlying118
  a66:=Tryz.isAgg118
  z66:=Tryz.sizeOf118
  v66:=Tryz.zeroValue118
  t70:=Tryz.underlying122
  a70:=Tryz.isAgg122
  z70:=Tryz.sizeOf122
  v70:=Tryz.zeroValue122
  t76:=Tryz.underlying126
  a76:=Tryz.isAgg126
  z76:=Tryz.sizeOf126
  v76:=Tryz.zeroValue126
  t77:=Tryz.underlying127
  a77:=Tryz.isAgg127
  z77:=Tryz.sizeOf127
  v77:=Tryz.zeroValue127 }
end Go.Proofs
namespace Go.Proofs.YtabckmadpdchnaaGreat.Rule
open Go.ChangeShapes Go.WideShapes Go.ChangeAt Go.RowKit Go.IntWalk Go.Proofs.Mem Law Go.Sort Go.Lib Go.Proofs.Each
instance:Inhabited Ky:=⟨⟨0,0,0⟩⟩
def cKy (x:Ky):List Value:=[.int .u8 x.k,.int .u32 x.a,.int .u32 x.b]
def cmpI (a b:Int):Int:=if a < b then -1 else if b < a then 1 else 0
def orI (a b:Int):Int:=if a≠0 then a else b
def cmpK (x y:Ky):Int:=orI (cmpI x.k y.k) (orI (cmpI x.a y.a) (cmpI x.b y.b))
theorem cmp8_any (w:World) (a b:Int):Calls Tryz.prog 31 #[.int .u8 a,.int .u8 b] w fun e w'=>e=.returned (.int .i64 (cmpI a b))∧w=w':=by
  obtain ⟨c,hc⟩:∃ c,cmpI a b=c:=⟨_,rfl⟩
  rw [hc]
  have HC:=Lib.hid hc
  clear hc
  by_cases h1:a < b
  · have d1:decide (a < b)=true:=by simpa using h1
    have HH:=Lib.hid (show cmpI a b=-1 by unfold cmpI;rw [if_pos h1])
    clear h1
    go_enter Tryz.func31,Tryz.ntmps31
    go_wp2
    go_ret
    exact ⟨by rw [← HC.out,HH.out];rfl,rfl⟩
  · have d1:decide (a < b)=false:=by simpa using h1
    by_cases h2:b < a
    · have d2:decide (b < a)=true:=by simpa using h2
      have HH:=Lib.hid (show cmpI a b=1 by unfold cmpI;rw [if_neg h1,if_pos h2])
      clear h1 h2
      go_enter Tryz.func31,Tryz.ntmps31
      go_wp2
      go_ret
      exact ⟨by rw [← HC.out,HH.out];rfl,rfl⟩
    · have d2:decide (b < a)=false:=by simpa using h2
      have HH:=Lib.hid (show cmpI a b=0 by unfold cmpI;rw [if_neg h1,if_neg h2])
      clear h1 h2
      go_enter Tryz.func31,Tryz.ntmps31
      go_wp2
      go_ret
      exact ⟨by rw [← HC.out,HH.out];rfl,rfl⟩
theorem cmp32_any (w:World) (a b:Int):Calls Tryz.prog 32 #[.int .u32 a,.int .u32 b] w fun e w'=>e=.returned (.int .i64 (cmpI a b))∧w=w':=by
  obtain ⟨c,hc⟩:∃ c,cmpI a b=c:=⟨_,rfl⟩
  rw [hc]
  have HC:=Lib.hid hc
  clear hc
  by_cases h1:a < b
  · have d1:decide (a < b)=true:=by simpa using h1
    have HH:=Lib.hid (show cmpI a b=-1 by unfold cmpI;rw [if_pos h1])
    clear h1
    go_enter Tryz.func32,Tryz.ntmps32
    go_wp2
    go_ret
    exact ⟨by rw [← HC.out,HH.out];rfl,rfl⟩
  · have d1:decide (a < b)=false:=by simpa using h1
    by_cases h2:b < a
    · have d2:decide (b < a)=true:=by simpa using h2
      have HH:=Lib.hid (show cmpI a b=1 by unfold cmpI;rw [if_neg h1,if_pos h2])
      clear h1 h2
      go_enter Tryz.func32,Tryz.ntmps32
      go_wp2
      go_ret
      exact ⟨by rw [← HC.out,HH.out];rfl,rfl⟩
    · have d2:decide (b < a)=false:=by simpa using h2
      have HH:=Lib.hid (show cmpI a b=0 by unfold cmpI;rw [if_neg h1,if_neg h2])
      clear h1 h2
      go_enter Tryz.func32,Tryz.ntmps32
      go_wp2
      go_ret
      exact ⟨by rw [← HC.out,HH.out];rfl,rfl⟩
def orL:List Int→Int
  | []=>0
  | x :: l=>if x≠0 then x else orL l
theorem orL_drop {L:List Int} {k:Nat} {x:Int} (h:L[k]?=some x):orL (L.drop k)=if x≠0 then x else orL (L.drop (k + 1)):=by
  have hk:k < L.length:=(List.getElem?_eq_some_iff.1 h).1
  have hx:L[k]=x:=(List.getElem?_eq_some_iff.1 h).2
  rw [List.drop_eq_getElem_cons hk,hx]
  rfl
theorem orL_any (w:World) (g N:Nat) (L:List Int) (hN:L.length=N) (hn:N≤1000) (h:∀ j x,L[j]?=some x→w.cell? ⟨g,j,none⟩=some (.int .i64 x)):Calls Tryz.prog 30 #[.slice (some ⟨g,0,none⟩) N N] w fun e w'=>e=.returned (.int .i64 (orL L))∧w=w':=by
  obtain ⟨r,hr⟩:∃ r,orL L=r:=⟨_,rfl⟩
  rw [hr]
  have HR:=Lib.hid (show orL (L.drop 0)=r from hr)
  have H:=Lib.hid h
  have HN:=Lib.hid hN
  clear hr h hN
  go_enter Tryz.func30,Tryz.ntmps30
  go_wp2
  go_loopw [5,8] (fun _ s wr=>∃ k:Nat,k≤N∧s=.int .i64 k∧Hid (orL (L.drop k)=r)∧w=wr) (fun _ s _=>N - (intOf s).toNat)
  case atStart=>exact ⟨0,Nat.zero_le _,rfl,HR,rfl⟩
  case round=>
    obtain ⟨k,hk,rfl,HF,rfl⟩:=hrel
    by_cases hl:k < N
    · have d1:decide ((k:Int) < (N:Int))=true:=by simp;omega
      have d1':decide (k < N)=true:=by simp;omega
      obtain ⟨x,hx⟩:∃ x,L[k]?=some x:=⟨_,List.getElem?_eq_getElem (by have:=HN.out;omega)⟩
      have k1:=H.out k x hx
      have HX:=Lib.hid (orL_drop hx)
      clear hx
      by_cases hx0:x=0
      · subst hx0
        have hw2:IntKind.i64.wrap ((k:Int) + 1)=((k + 1:Nat):Int):=by rw [IntKind.wrap_i64];omega
        go_wp2
        go_roundw
        case rel=>exact ⟨k + 1,by omega,by go_num,Lib.hid (by rw [← HF.out,HX.out];rfl),trivial⟩
        case measure=>simp [intOf];omega
      · have d2:(x != 0)=true:=by simpa using hx0
        have d3:(x == 0)=false:=by simpa using hx0
        have HE:=Lib.hid (show r=x by rw [← HF.out,HX.out,if_pos hx0])
        clear hx0
        go_wp2
        go_ret
        exact ⟨by rw [HE.out];rfl,rfl⟩
    · have d1:decide ((k:Int) < (N:Int))=false:=by simp;omega
      have d1':decide (k < N)=false:=by simp;omega
      have HE:=Lib.hid (show r=0 by rw [← HF.out,List.drop_eq_nil_of_le (by rw [HN.out];omega)];rfl)
      go_wp2
      go_ret
      exact ⟨by rw [HE.out];rfl,rfl⟩
theorem or_any (w:World) (g:Nat) (a b c:Int) (h:Box w g #[.int .i64 a,.int .i64 b,.int .i64 c] 3):Calls Tryz.prog 30 #[.slice (some ⟨g,0,none⟩) 3 3] w fun e w'=>e=.returned (.int .i64 (orI a (orI b c)))∧w=w':=by
  have:=orL_any w g 3 [a,b,c] rfl (by omega) (fun j x hj=>by
    rw [h.cell j]
    match j,hj with
    | 0,hj=>simp at hj;subst hj;rfl
    | 1,hj=>simp at hj;subst hj;rfl
    | 2,hj=>simp at hj;subst hj;rfl
    | j + 3,hj=>simp at hj)
  refine this.mono fun e w' h=>?_
  have e1:orL [a,b,c]=orI a (orI b c):=by
    simp only [orL,orI]
    split
    · rfl
    · split
      · rfl
      · split
        · rfl
        · rename_i h;simp at h;exact h.symm
  rw [← e1];exact h
theorem compare_any (w:World) (x y:Ky):Calls Tryz.prog 19 #[.agg #[.int .u8 x.k,.int .u32 x.a,.int .u32 x.b],.agg #[.int .u8 y.k,.int .u32 y.a,.int .u32 y.b]] w fun e w'=>e=.returned (.int .i64 (cmpK x y))∧Gr w w':=by
  obtain ⟨xk,xa,xb⟩:=x
  obtain ⟨yk,ya,yb⟩:=y
  have C1:=fun W=>cmp8_any W xk yk
  have C2:=fun W=>cmp32_any W xa ya
  have C3:=fun W=>cmp32_any W xb yb
  have C4:=fun W g h=>or_any W g (cmpI xk yk) (cmpI xa ya) (cmpI xb yb) h
  have hr:cmpK ⟨xk,xa,xb⟩ ⟨yk,ya,yb⟩=orI (cmpI xk yk) (orI (cmpI xa ya) (cmpI xb yb)):=rfl
  rw [hr]
  clear hr
  generalize orI (cmpI xk yk) (orI (cmpI xa ya) (cmpI xb yb))=r at C4 ⊢
  generalize cmpI xk yk=c1 at C1 C4
  generalize cmpI xa ya=c2 at C2 C4
  generalize cmpI xb yb=c3 at C3 C4
  have H1:=Lib.hid C1
  have H2:=Lib.hid C2
  have H3:=Lib.hid C3
  have H4:=Lib.hid C4
  clear C1 C2 C3 C4
  go_enter Tryz.func19,Tryz.ntmps19
  have X0:=(Box.new w #[.int .u8 xk,.int .u32 xa,.int .u32 xb] 49).alloc (.cells #[.int .u8 yk,.int .u32 ya,.int .u32 yb] 49)
  have X1:=Box.new (w.alloc (.cells #[.int .u8 xk,.int .u32 xa,.int .u32 xb] 49)) #[.int .u8 yk,.int .u32 ya,.int .u32 yb] 49
  have HG:=Lib.hid ((Gr.alloc w (.cells #[.int .u8 xk,.int .u32 xa,.int .u32 xb] 49)).trans (Gr.alloc _ (.cells #[.int .u8 yk,.int .u32 ya,.int .u32 yb] 49)))
  have s1:(w.alloc (.cells #[.int .u8 xk,.int .u32 xa,.int .u32 xb] 49)).heap.size=w.heap.size + 1:=by simp
  obtain ⟨x0,hx0⟩:∃ x0,w.heap.size=x0:=⟨_,rfl⟩
  obtain ⟨x1,hx1⟩:∃ x1,x0 + 1=x1:=⟨_,rfl⟩
  rw [s1,hx0,hx1] at X1
  rw [hx0] at X0
  clear s1
  go_upto_region 1 with fail
  generalize (w.alloc (.cells #[.int .u8 xk,.int .u32 xa,.int .u32 xb] 49)).alloc (.cells #[.int .u8 yk,.int .u32 ya,.int .u32 yb] 49)=W0 at X0 X1 HG ⊢
  have X0:=Lib.hid X0
  have X1:=Lib.hid X1
  clear hx0 hx1
  refine wp_region_gr (by kernel_rfl) (by kernel_rfl) [(fun v _=>v=.pointer (some ⟨x0,0,none⟩)),(fun v _=>v=.int .u8 xk),(fun v _=>v=.pointer (some ⟨x1,0,none⟩)),(fun v _=>v=.int .u8 yk),(fun v _=>v=.int .i64 c1),(fun v _=>v=.pointer (some ⟨x0,1,none⟩)),(fun v _=>v=.int .u32 xa),(fun v _=>v=.pointer (some ⟨x1,1,none⟩)),(fun v _=>v=.int .u32 ya),(fun v _=>v=.int .i64 c2),(fun v _=>v=.pointer (some ⟨x0,2,none⟩)),(fun v _=>v=.int .u32 xb),(fun v _=>v=.pointer (some ⟨x1,2,none⟩)),(fun v _=>v=.int .u32 yb),(fun v _=>v=.int .i64 c3),(fun v W=>∃ g,v=.slice (some ⟨g,0,none⟩) 3 3∧Box W g #[.int .i64 c1,.int .i64 c2,.int .i64 c3] 3),(fun v _=>v=.int .i64 r),(fun v _=>v=.int .i64 r)] ?_ (fun vals=>?_) (fun vals W hgr hall=>?_)
  · intro j v W W' hr h
    match j,h with
    | 0,h=>exact h
    | 1,h=>exact h
    | 2,h=>exact h
    | 3,h=>exact h
    | 4,h=>exact h
    | 5,h=>exact h
    | 6,h=>exact h
    | 7,h=>exact h
    | 8,h=>exact h
    | 9,h=>exact h
    | 10,h=>exact h
    | 11,h=>exact h
    | 12,h=>exact h
    | 13,h=>exact h
    | 14,h=>exact h
    | 15,h=>obtain ⟨g,e1,e2⟩:=h;exact ⟨g,e1,e2.later hr.below⟩
    | 16,h=>exact h
    | 17,h=>exact h
    | _ + 18,_=>trivial
  · simp only [ObC,Act.put,List.setIfInBounds_toArray,List.set_cons_succ,List.set_cons_zero]
    refine ⟨?_,?_,?_,?_,?_,?_,?_,?_,?_,?_,?_,?_,?_,?_,?_,?_,?_,?_,trivial⟩
    · intro W hC hw
      clear hw
      clear hC
      refine step_plain rfl ?_
      go_simp
      first | exact ⟨Gr.refl _,Fz.val rfl rfl⟩ | exact ⟨_,rfl,Gr.refl _,Fz.val rfl rfl⟩
    · intro W hC hw
      have f0:vals 0=.pointer (some ⟨x0,0,none⟩):=hw ⟨0,.data⟩ (by simp) rfl
      clear hw
      have kc:W.cell? ⟨x0,0,none⟩=some (.int .u8 xk):=by rw [(X0.out.later (hC.below)).cell];rfl
      clear hC
      refine step_plain rfl ?_
      go_simp
      first | exact ⟨Gr.refl _,Fz.val rfl rfl⟩ | exact ⟨_,rfl,Gr.refl _,Fz.val rfl rfl⟩
    · intro W hC hw
      clear hw
      clear hC
      refine step_plain rfl ?_
      go_simp
      first | exact ⟨Gr.refl _,Fz.val rfl rfl⟩ | exact ⟨_,rfl,Gr.refl _,Fz.val rfl rfl⟩
    · intro W hC hw
      have f2:vals 2=.pointer (some ⟨x1,0,none⟩):=hw ⟨2,.data⟩ (by simp) rfl
      clear hw
      have kc:W.cell? ⟨x1,0,none⟩=some (.int .u8 yk):=by rw [(X1.out.later (hC.below)).cell];rfl
      clear hC
      refine step_plain rfl ?_
      go_simp
      first | exact ⟨Gr.refl _,Fz.val rfl rfl⟩ | exact ⟨_,rfl,Gr.refl _,Fz.val rfl rfl⟩
    · intro W hC hw
      have f1:vals 1=.int .u8 xk:=hw ⟨1,.data⟩ (by simp) rfl
      have f3:vals 3=.int .u8 yk:=hw ⟨3,.data⟩ (by simp) rfl
      clear hw
      clear hC
      refine step_plain rfl ?_
      go_simp
      (with_reducible refine (H1.out W).mono ?_)
      rintro e9 w9 ⟨rfl,rfl⟩
      first | exact ⟨Gr.refl _,Fz.val rfl rfl⟩ | exact ⟨_,rfl,Gr.refl _,Fz.val rfl rfl⟩
    · intro W hC hw
      clear hw
      clear hC
      refine step_plain rfl ?_
      go_simp
      first | exact ⟨Gr.refl _,Fz.val rfl rfl⟩ | exact ⟨_,rfl,Gr.refl _,Fz.val rfl rfl⟩
    · intro W hC hw
      have f5:vals 5=.pointer (some ⟨x0,1,none⟩):=hw ⟨5,.data⟩ (by simp) rfl
      clear hw
      have kc:W.cell? ⟨x0,1,none⟩=some (.int .u32 xa):=by rw [(X0.out.later (hC.below)).cell];rfl
      clear hC
      refine step_plain rfl ?_
      go_simp
      first | exact ⟨Gr.refl _,Fz.val rfl rfl⟩ | exact ⟨_,rfl,Gr.refl _,Fz.val rfl rfl⟩
    · intro W hC hw
      clear hw
      clear hC
      refine step_plain rfl ?_
      go_simp
      first | exact ⟨Gr.refl _,Fz.val rfl rfl⟩ | exact ⟨_,rfl,Gr.refl _,Fz.val rfl rfl⟩
    · intro W hC hw
      have f7:vals 7=.pointer (some ⟨x1,1,none⟩):=hw ⟨7,.data⟩ (by simp) rfl
      clear hw
      have kc:W.cell? ⟨x1,1,none⟩=some (.int .u32 ya):=by rw [(X1.out.later (hC.below)).cell];rfl
      clear hC
      refine step_plain rfl ?_
      go_simp
      first | exact ⟨Gr.refl _,Fz.val rfl rfl⟩ | exact ⟨_,rfl,Gr.refl _,Fz.val rfl rfl⟩
    · intro W hC hw
      have f6:vals 6=.int .u32 xa:=hw ⟨6,.data⟩ (by simp) rfl
      have f8:vals 8=.int .u32 ya:=hw ⟨8,.data⟩ (by simp) rfl
      clear hw
      clear hC
      refine step_plain rfl ?_
      go_simp
      (with_reducible refine (H2.out W).mono ?_)
      rintro e9 w9 ⟨rfl,rfl⟩
      first | exact ⟨Gr.refl _,Fz.val rfl rfl⟩ | exact ⟨_,rfl,Gr.refl _,Fz.val rfl rfl⟩
    · intro W hC hw
      clear hw
      clear hC
      refine step_plain rfl ?_
      go_simp
      first | exact ⟨Gr.refl _,Fz.val rfl rfl⟩ | exact ⟨_,rfl,Gr.refl _,Fz.val rfl rfl⟩
    · intro W hC hw
      have f10:vals 10=.pointer (some ⟨x0,2,none⟩):=hw ⟨10,.data⟩ (by simp) rfl
      clear hw
      have kc:W.cell? ⟨x0,2,none⟩=some (.int .u32 xb):=by rw [(X0.out.later (hC.below)).cell];rfl
      clear hC
      refine step_plain rfl ?_
      go_simp
      first | exact ⟨Gr.refl _,Fz.val rfl rfl⟩ | exact ⟨_,rfl,Gr.refl _,Fz.val rfl rfl⟩
    · intro W hC hw
      clear hw
      clear hC
      refine step_plain rfl ?_
      go_simp
      first | exact ⟨Gr.refl _,Fz.val rfl rfl⟩ | exact ⟨_,rfl,Gr.refl _,Fz.val rfl rfl⟩
    · intro W hC hw
      have f12:vals 12=.pointer (some ⟨x1,2,none⟩):=hw ⟨12,.data⟩ (by simp) rfl
      clear hw
      have kc:W.cell? ⟨x1,2,none⟩=some (.int .u32 yb):=by rw [(X1.out.later (hC.below)).cell];rfl
      clear hC
      refine step_plain rfl ?_
      go_simp
      first | exact ⟨Gr.refl _,Fz.val rfl rfl⟩ | exact ⟨_,rfl,Gr.refl _,Fz.val rfl rfl⟩
    · intro W hC hw
      have f11:vals 11=.int .u32 xb:=hw ⟨11,.data⟩ (by simp) rfl
      have f13:vals 13=.int .u32 yb:=hw ⟨13,.data⟩ (by simp) rfl
      clear hw
      clear hC
      refine step_plain rfl ?_
      go_simp
      (with_reducible refine (H3.out W).mono ?_)
      rintro e9 w9 ⟨rfl,rfl⟩
      first | exact ⟨Gr.refl _,Fz.val rfl rfl⟩ | exact ⟨_,rfl,Gr.refl _,Fz.val rfl rfl⟩
    · intro W hC hw
      have f4:vals 4=.int .i64 c1:=hw ⟨4,.data⟩ (by simp) rfl
      have f9:vals 9=.int .i64 c2:=hw ⟨9,.data⟩ (by simp) rfl
      have f14:vals 14=.int .i64 c3:=hw ⟨14,.data⟩ (by simp) rfl
      clear hw
      clear hC
      refine step_plain rfl ?_
      go_simp
      have hbn:=Box.new W #[.int .i64 c1,.int .i64 c2,.int .i64 c3] 3
      first | exact ⟨Gr.alloc _ _,Fz.val rfl ⟨_,rfl,hbn⟩⟩ | exact ⟨_,rfl,Gr.alloc _ _,Fz.val rfl ⟨_,rfl,hbn⟩⟩
    · intro W hC hw
      have f15:∃ g,(vals 15)=.slice (some ⟨g,0,none⟩) 3 3∧Box W g #[.int .i64 c1,.int .i64 c2,.int .i64 c3] 3:=hw ⟨15,.data⟩ (by simp) rfl
      clear hw
      obtain ⟨g,f15a,f15b⟩:=f15
      have HF:=Lib.hid (H4.out W g f15b)
      clear f15b hC
      refine step_plain rfl ?_
      go_simp
      (with_reducible refine HF.out.mono ?_)
      rintro e9 w9 ⟨rfl,rfl⟩
      first | exact ⟨Gr.refl _,Fz.val rfl rfl⟩ | exact ⟨_,rfl,Gr.refl _,Fz.val rfl rfl⟩
    · intro W hC hw
      have f16:vals 16=.int .i64 r:=hw ⟨16,.data⟩ (by simp) rfl
      clear hw
      clear hC
      refine step_plain rfl ?_
      go_simp
      first | exact ⟨Gr.refl _,Fz.val rfl rfl⟩ | exact ⟨_,rfl,Gr.refl _,Fz.val rfl rfl⟩
  · simp only [TL,Act.put,List.setIfInBounds_toArray,List.set_cons_succ,List.set_cons_zero]
    have f17:vals 17=.int .i64 r:=hall 17 (by decide)
    have HQ:=Lib.hid (HG.out.trans hgr)
    clear hall hgr
    simp only [f17]
    go_wp2
    go_ret
    exact ⟨rfl,HQ.out⟩
end Go.Proofs.YtabckmadpdchnaaGreat.Rule
namespace Go.Proofs.YtabckmadpdchnaaGreat.Rule
open Go.ChangeShapes Go.WideShapes Go.ChangeAt Go.RowKit Go.IntWalk Go.Proofs.Mem Law Go.Proofs.Each
def klt (x y:Ky):Prop:=x.k < y.k∨(x.k=y.k∧(x.a < y.a∨(x.a=y.a∧x.b < y.b)))
instance (x y:Ky):Decidable (klt x y):=by unfold klt;infer_instance
theorem cmpI_cases (a b:Int):(a < b∧cmpI a b=-1)∨(a=b∧cmpI a b=0)∨(b < a∧cmpI a b=1):=by
  unfold cmpI
  by_cases h1:a < b
  · exact .inl ⟨h1,if_pos h1⟩
  · by_cases h2:b < a
    · exact .inr (.inr ⟨h2,by rw [if_neg h1,if_pos h2]⟩)
    · exact .inr (.inl ⟨by omega,by rw [if_neg h1,if_neg h2]⟩)
theorem cmpK_neg (x y:Ky):cmpK x y < 0 ↔ klt x y:=by
  unfold cmpK klt
  rcases cmpI_cases x.k y.k with ⟨h1,e1⟩ | ⟨h1,e1⟩ | ⟨h1,e1⟩ <;> rcases cmpI_cases x.a y.a with ⟨h2,e2⟩ | ⟨h2,e2⟩ | ⟨h2,e2⟩ <;> rcases cmpI_cases x.b y.b with ⟨h3,e3⟩ | ⟨h3,e3⟩ | ⟨h3,e3⟩ <;>
    (simp [orI,e1,e2,e3];omega)
theorem klt_ltOf (x y:Ky):ltOf cmpK x y=decide (klt x y):=by
  unfold ltOf
  exact decide_eq_decide.2 (cmpK_neg x y)
theorem klt_irrefl (x:Ky):¬ klt x x:=by unfold klt;omega
theorem klt_trans {x y z:Ky} (h:klt x y) (k:klt y z):klt x z:=by unfold klt at *;omega
theorem klt_total {x y:Ky} (h:¬ klt x y) (k:¬ klt y x):x=y:=by
  obtain ⟨a,b,c⟩:=x
  obtain ⟨a',b',c'⟩:=y
  unfold klt at h k
  simp only at h k
  have:a=a':=by omega
  have:b=b':=by omega
  have:c=c':=by omega
  subst_vars
  rfl
def Ce.ky (c:Ce):Ky:=⟨c.k,c.a,c.b⟩
instance:Inhabited Ce:=⟨⟨0,0,0,0,0,false⟩⟩
def cmpC (x y:Ce):Int:=cmpK x.ky y.ky
def clt (x y:Ce):Prop:=klt x.ky y.ky
instance (x y:Ce):Decidable (clt x y):=by unfold clt;infer_instance
theorem clt_ltOf (x y:Ce):ltOf cmpC x y=decide (clt x y):=klt_ltOf x.ky y.ky
theorem clt_swo:Sort.SWO (ltOf cmpC) where
  irrefl x:=by rw [clt_ltOf];exact decide_eq_false (klt_irrefl x.ky)
  trans x y z h k:=by rw [clt_ltOf] at *;simp at *;exact klt_trans h k
  ntrans x y z h k:=by rw [clt_ltOf] at *;simp at *;unfold clt klt at *;omega
theorem sortWorld_fr (w:World) (b n:Nat) (d:Array Ce) (os:Array Obj):Fr (fun x=>x=b) w (sortWorldK Ce.cells 6 w b 0 n d os):=by
  refine ⟨rfl,rfl,rfl,?_,fun k hk hn=>?_⟩
  · simp [sortWorldK,Sort.putRowK,Sort.putRow,Sort.mapBlock,Sort.grow,Sort.ahead]
  · simp only [sortWorldK,Sort.putRowK,Sort.putRow,Sort.mapBlock,Sort.grow,Sort.ahead]
    rw [Array.getElem?_append_left (by simpa using hk),Array.getElem?_modify,if_neg (fun e=>hn e.symm)]
theorem holdsK_own {w:World} {base b cap:Nat} {ks:List Ce} (h:w.ownsRow base 53 6 (.slice (some ⟨b,0,none⟩) ks.length cap) ks.length (ks.flatMap Ce.cells)):Sort.HoldsK Ce.cells 6 w b 0 ks.toArray:=by
  intro j hj
  have hj':j < ks.length * 6:=by simpa using hj
  rw [Nat.zero_add,h.cellAt j hj',h.frozenAt j]
  refine ⟨?_,rfl⟩
  have hq:j / 6 < ks.length:=by omega
  have e:=flat_at Ce.cells_len ks (j / 6) ks[j / 6] (j % 6) (List.getElem?_eq_getElem hq) (by omega)
  rw [show j / 6 * 6 + j % 6=j by omega] at e
  rw [e,Sort.get_flatK _ _ _ _ (by simpa using hj')]
  have h3:j % 6 < (Ce.cells ks[j / 6]).length:=by rw [Ce.cells_len];omega
  simp [hq,List.getElem?_eq_getElem h3]
theorem ss_holds {w:World} {b n cap:Nat} {d:Array Ce} (h:Sort.HoldsK Ce.cells 6 w b 0 d) (hn:d.size=n) (hb:b < w.heap.size) (h1:n≤cap) (h2:cap≤maxLen):SS Ce.cells 6 w w.heap.size (.slice (some ⟨b,0,none⟩) n cap) d.toList:=by
  refine ⟨_,cap,by rw [← hn,Array.length_toList],by rw [Array.length_toList,hn];exact h1,h2,fun i x hx=>⟨b,0,rfl,hb,fun j u hu=>?_⟩⟩
  have hi:i < d.size:=by simpa using (List.getElem?_eq_some_iff.1 hx).1
  have hj:j < 6:=by rw [← Ce.cells_len x];exact (List.getElem?_eq_some_iff.1 hu).1
  rw [(Sort.HoldsK.cell h hi hj).1]
  have hx2:d[i]! = x:=by
    rw [getElem!_pos d i hi]
    have:=(List.getElem?_eq_some_iff.1 hx).2
    simpa using this
  have h3:j < (Ce.cells x).length:=by rw [Ce.cells_len];exact hj
  rw [hx2,getElem!_pos (Ce.cells x) j h3]
  rw [List.getElem?_eq_getElem h3] at hu
  exact hu
def RowC (base:Nat) (w:World) (v:Value) (ks:List Ce):Prop:=(v=.slice none 0 0∧ks=[])∨∃ g cap,v=.slice (some ⟨g,0,none⟩) ks.length cap∧Sort.HoldsK Ce.cells 6 w g 0 ks.toArray∧base≤g∧g < w.heap.size∧ks.length≤cap∧cap≤maxLen
theorem RowC.ss {base:Nat} {w:World} {v:Value} {ks:List Ce} (h:RowC base w v ks):SeenAt w w.heap.size v ks:=by
  rcases h with ⟨rfl,rfl⟩ | ⟨g,cap,rfl,h1,h2,h3,h4,h5⟩
  · exact SS.nil _ _
  · have:=ss_holds h1 (by simp) h3 h4 h5
    simpa using this
theorem closure_any (w:World) (x y:Ce):Calls Tryz.prog 18 #[.agg #[.int .u8 x.k,.int .u32 x.a,.int .u32 x.b,.int .u64 x.A,.int .u64 x.B,.bool x.is],.agg #[.int .u8 y.k,.int .u32 y.a,.int .u32 y.b,.int .u64 y.A,.int .u64 y.B,.bool y.is]] w fun e w'=>e=.returned (.int .i64 (cmpC x y))∧Gr w w':=by
  have CMP:=Lib.hid (fun W=>show Calls Tryz.prog 19 #[.agg #[.int .u8 x.k,.int .u32 x.a,.int .u32 x.b],.agg #[.int .u8 y.k,.int .u32 y.a,.int .u32 y.b]] W fun e w'=>e=.returned (.int .i64 (cmpC x y))∧Gr W w' from compare_any W x.ky y.ky)
  have X0:=(Box.new w #[.int .u8 x.k,.int .u32 x.a,.int .u32 x.b,.int .u64 x.A,.int .u64 x.B,.bool x.is] 53).alloc (.cells #[.int .u8 y.k,.int .u32 y.a,.int .u32 y.b,.int .u64 y.A,.int .u64 y.B,.bool y.is] 53)
  have X1:=Box.new (w.alloc (.cells #[.int .u8 x.k,.int .u32 x.a,.int .u32 x.b,.int .u64 x.A,.int .u64 x.B,.bool x.is] 53)) #[.int .u8 y.k,.int .u32 y.a,.int .u32 y.b,.int .u64 y.A,.int .u64 y.B,.bool y.is] 53
  have HG:=Lib.hid ((Gr.alloc w (.cells #[.int .u8 x.k,.int .u32 x.a,.int .u32 x.b,.int .u64 x.A,.int .u64 x.B,.bool x.is] 53)).trans (Gr.alloc _ (.cells #[.int .u8 y.k,.int .u32 y.a,.int .u32 y.b,.int .u64 y.A,.int .u64 y.B,.bool y.is] 53)))
  have k0:=X0.cell
  have k1:=X1.cell
  rw [World.size_alloc] at k1
  clear X0 X1
  go_enter Tryz.func18,Tryz.ntmps18
  go_wp2_with (go_at_call 19;(with_reducible refine (CMP.out _).mono ?_);rintro e w1 ⟨rfl,hg1⟩)
  go_ret
  exact ⟨rfl,HG.out.trans hg1⟩
theorem cmpLaysC (blk off size:Nat) (w:World):CmpLays Tryz.prog 18 #[] Ce.cells 6 cmpC blk off size w:=fun _ _ _ _ x y=>closure_any _ x y
theorem sorted_c (w:World) (v:Value) (ks:List Ce) (base:Nat) (hlen:ks.length≤200000) (ho:w.ownsRow base 53 6 v ks.length (ks.flatMap Ce.cells)) :
    Calls Tryz.prog 17 #[v,.func (.func 18) #[] #[]] w fun e w'=>e=.returned (.tuple #[])∧∃ ks',RowC base w' v ks'∧ks'.Perm ks∧ks'.Pairwise (fun x y=>¬ clt y x)∧Fr (fun x=>v.ownBlock=some x) w w':=by
  have ho':=ho
  rcases ho.2 with ⟨rfl,hn⟩ | ⟨g,cap,cur,rfl,hg,hh,hnc,hm,_,_⟩
  · have hk:ks=[]:=List.eq_nil_of_length_eq_zero hn
    have hcon:=AnyF.slices_SortFunc_none layN none 0 (.func (.func 18) #[] #[]) w
    change Calls Tryz.prog 17 _ _ _ at hcon
    subst hk
    exact hcon.mono fun e w' ⟨h1,h2⟩=>⟨h1,by subst h2;exact ⟨[],.inl ⟨rfl,rfl⟩,List.Perm.refl _,List.Pairwise.nil,Fr.refl _ _⟩⟩
  · have hlt:=(ho'.lt g rfl).2
    have eg:∀ args w,(callFunc 18 args).run Tryz.prog w=.ok (.enter 18 args) w:=enters_of Tryz.func18 (by kernel_rfl) rfl
    have hH:=holdsK_own ho'
    have hsz:ks.toArray.size=ks.length:=by simp
    have hcon:=AnyQ.slices_SortFunc layN 6 Tryz.isAgg53 Tryz.sizeOf53 Ce.cells Ce.cells_len Ce.cells_one cmpC clt_swo 18 #[] g 0 cap ks.toArray w eg (cmpLaysC _ _ _ _) hH hlt (by rw [hsz];omega)
    change Calls Tryz.prog 17 _ _ _ at hcon
    rw [hsz] at hcon
    refine hcon.mono fun e w' ⟨he,d',n,os,hp,hs,hw⟩=>⟨he,?_⟩
    subst hw
    have hds:d'.size=ks.length:=by rw [hp.1,hsz]
    have hfr:=sortWorld_fr w g n d' os
    refine ⟨d'.toList,.inr ⟨g,cap,congrArg (fun n=>Value.slice (some ⟨g,0,none⟩) n cap) hds.symm,?_,hg,Nat.lt_of_lt_of_le hlt hfr.size,by rw [Array.length_toList,hds];exact hnc,hm⟩,?_,?_,hfr.mono (fun k _ h=>by rw [h];rfl)⟩
    · unfold sortWorldK
      have h1:=Sort.holdsK_putRowK Ce.cells 6 (Sort.ahead w n) g 0 ks.toArray d' (Sort.holdsK_ahead Ce.cells 6 w n g 0 _ hH) (by rw [hds,hsz])
      exact Sort.holdsK_grow Ce.cells 6 _ os g 0 d' (by simpa [Sort.putRowK,Sort.putRow,Sort.mapBlock,Sort.ahead] using hlt) h1
    · have h1:=hp.2.2
      have e1:d'.extract 0 ks.length=d':=by rw [← hds];simp
      have e2:ks.toArray.extract 0 ks.length=ks.toArray:=by rw [← hsz];simp
      rw [e1,e2] at h1
      simpa using h1
    · rw [List.pairwise_iff_getElem]
      intro i j hi hj hij
      have hi':i < d'.size:=by simpa using hi
      have hj':j < d'.size:=by simpa using hj
      have h1:=hs i j (Nat.zero_le _) hij (by rw [← hds];exact hj')
      rw [clt_ltOf,getElem!_pos d' i hi',getElem!_pos d' j hj'] at h1
      simpa using h1
end Go.Proofs.YtabckmadpdchnaaGreat.Rule
namespace Go.Proofs.YtabckmadpdchnaaGreat.Rule
open Go.ChangeShapes Go.WideShapes Go.ChangeAt Go.RowKit Go.IntWalk Go.Proofs.Mem Law Go.Proofs.Each
structure Told (f:Wm) (ks:List Ce):Prop where
  mem:∀ c,c∈ks ↔ (c.is=true∧f c.ky=some (c.A,c.B))
  srt:ks.Pairwise clt
theorem sorted_uniq {l m:List Ce} (h:l.Pairwise clt) (k:m.Pairwise clt) (e:∀ x,x∈l ↔ x∈m):l=m:=by
  induction l generalizing m with
  | nil=>cases m with
    | nil=>rfl
    | cons y m=>exact absurd ((e y).2 (List.mem_cons_self ..)) (by simp)
  | cons x l ih=>
    cases m with
    | nil=>exact absurd ((e x).1 (List.mem_cons_self ..)) (by simp)
    | cons y m=>
      rw [List.pairwise_cons] at h k
      have hxy:x=y:=by
        rcases List.mem_cons.1 ((e x).1 (List.mem_cons_self ..)) with h1 | h1
        · exact h1
        · rcases List.mem_cons.1 ((e y).2 (List.mem_cons_self ..)) with h2 | h2
          · exact h2.symm
          · exact absurd (klt_trans (h.1 y h2) (k.1 x h1)) (klt_irrefl x.ky)
      subst hxy
      rw [ih h.2 k.2 (fun z=>?_)]
      constructor
      · intro hz
        rcases List.mem_cons.1 ((e z).1 (List.mem_cons_of_mem _ hz)) with h1 | h1
        · subst h1;exact absurd (h.1 z hz) (klt_irrefl z.ky)
        · exact h1
      · intro hz
        rcases List.mem_cons.1 ((e z).2 (List.mem_cons_of_mem _ hz)) with h1 | h1
        · subst h1;exact absurd (k.1 z hz) (klt_irrefl z.ky)
        · exact h1
theorem Told.uniq {f:Wm} {l m:List Ce} (h:Told f l) (k:Told f m):l=m:=sorted_uniq h.srt k.srt (fun x=>(h.mem x).trans (k.mem x).symm)
structure Gc (f:Wm) (left:Ky→Bool) (ks:List Ce):Prop where
  mem:∀ c,c∈ks ↔ (left c.ky=false∧c.is=true∧f c.ky=some (c.A,c.B))
  nd:ks.Pairwise (fun x y=>x.ky≠y.ky)
theorem Gc.start (f:Wm):Gc f (fun x=>(f x).isSome) []:=⟨fun c=>by cases e:f c.ky <;> simp [e],List.Pairwise.nil⟩
theorem Gc.take {f:Wm} {left:Ky→Bool} {ks:List Ce} (h:Gc f left ks) {x:Ky} {A B:Int} (hk:f x=some (A,B)) (hl:left x=true):Gc f (but left x) (ks++[⟨x.k,x.a,x.b,A,B,true⟩]):=by
  refine ⟨fun c=>?_,?_⟩
  · rw [List.mem_append,h.mem c,List.mem_singleton]
    by_cases e:c.ky=x
    · subst e
      unfold but
      rw [hk]
      simp only [hl,decide_true,Bool.not_true,Bool.and_false,true_and,Bool.true_eq_false,false_and,false_or]
      constructor
      · intro h1;rw [h1];exact ⟨rfl,rfl⟩
      · rintro ⟨h1,h2⟩
        obtain ⟨ck,ca,cb,cA,cB,ci⟩:=c
        simp only [Option.some.injEq,Prod.mk.injEq] at h1 h2
        obtain ⟨rfl,rfl⟩:=h2
        rw [h1];rfl
    · unfold but
      have e2:c≠⟨x.k,x.a,x.b,A,B,true⟩:=fun h1=>e (by rw [h1];rfl)
      simp [e,e2]
  · rw [List.pairwise_append]
    refine ⟨h.nd,by simp,fun a ha b hb e=>?_⟩
    rw [List.mem_singleton.1 hb] at e
    have e2:a.ky=x:=e
    have:=((h.mem a).1 ha).1
    rw [e2,hl] at this
    cases this
theorem FMok {w:World} {m n:Nat} {f:Wm} (hf:FM KK vaEE w m n f) {k:Ky} {v:Int × Int} (hk:f k=some v):KK.ok k:=by
  obtain ⟨D,_,h⟩:=hf
  by_cases e:KK.ok k
  · exact e
  · rw [h.2 k e] at hk;cases hk
theorem Gc.told {f:Wm} {left:Ky→Bool} {ks ks':List Ce} (h:Gc f left ks) (hl:∀ k v,f k=some v→left k=false) (hp:ks'.Perm ks) (hs:ks'.Pairwise (fun x y=>¬ clt y x)):Told f ks':=by
  refine ⟨fun c=>?_,?_⟩
  · rw [hp.mem_iff,h.mem c]
    exact ⟨fun h1=>h1.2,fun h1=>⟨hl _ _ h1.2,h1⟩⟩
  · have hn:ks'.Pairwise (fun x y=>x.ky≠y.ky):=hp.symm.pairwise h.nd (fun {x y} e k=>e k.symm)
    refine (List.Pairwise.and hs hn).imp (fun {x y} ⟨h1,h2⟩=>?_)
    by_cases h3:clt x y
    · exact h3
    · exact absurd (klt_total h3 h1) h2
theorem all_any (w:World) (p m n:Nat) (f:Wm) (h:WAt w p m n f) (hn:n≤200000) :
    Calls Tryz.prog 8 #[.pointer (some ⟨p,0,none⟩)] w fun e w'=>∃ v ks,e=.returned v∧RowC w.heap.size w' v ks∧Told f ks∧ks.length≤n∧Below w.heap.size w w':=by
  obtain ⟨ic,hc0,hc1,hc2,hc3⟩:=info_parts cell_info
  obtain ⟨x0,hx0⟩:∃ x,w.heap.size=x:=⟨_,rfl⟩
  have k0:w.cell? ⟨p,0,none⟩=some (.map (some m)):=by rw [h.box.cell 0];rfl
  have HT:=Lib.hid h
  have HM:=Lib.hid h.fm
  have HN:=Lib.hid hn
  have HX0:=Lib.hid hx0
  rw [hx0]
  clear h hn
  go_enter Tryz.func8,Tryz.ntmps8
  go_upto_region 2 with fail
  clear hx0
  go_wp2_with (first
    | (at_range;refine wpList_range_fm (E:=KK) (V:=vaEE) rfl _ _ rfl _ Tryz.underlying57 rfl HM.out ?_;intro w2 cnt hfr hcnt hbw hsz))
  rw [HX0.out] at hfr hbw hsz ⊢
  have HB2:=Lib.hid hbw
  have HFR:=Lib.hid hfr
  have HCN:=Lib.hid (show ([]:List Ce).length + cnt≤n from by simp;omega)
  have HG:=Lib.hid (Gc.start f)
  have HZ0:=Lib.hid (show x0 + 1≤w2.heap.size by rw [hsz];omega)
  clear hbw hfr hsz hcnt k0
  go_frame
  go_loopw [3] (fun s3 wr=>∃ (left:Ky→Bool) (cnt:Nat) (A:Option Addr) (c:Nat) (ks:List Ce),s3=.slice A ks.length c∧Hid (FR KK vaEE wr m x0 n f left cnt)∧Hid (wr.ownsRow (x0 + 1) 53 6 (.slice A ks.length c) ks.length (ks.flatMap Ce.cells))∧Hid (Gc f left ks)∧Hid (ks.length + cnt≤n)∧Hid (Below x0 w wr)∧Hid (x0 + 1≤wr.heap.size)) (fun _ wr=>wr.rangeLeft m x0)
  case atStart=>exact ⟨_,_,none,0,[],rfl,HFR,Lib.hid (World.ownsRow_nil _ _ _ _),HG,HCN,HB2,HZ0⟩
  case round=>
    obtain ⟨left,cnt,A,c5,ks,rfl,HFR2,HO,HG2,HCN2,HB,HZ⟩:=hrel
    obtain ⟨w2,rfl⟩:∃ w2,w2=wr:=⟨wr,rfl⟩
    clear HFR HB2 HCN HG HZ0
    go_wp2_with (first
      | (at_next;refine wpList_next_fm (E:=KK) (V:=vaEE) rfl _ rfl rfl HFR2.out ?_ ?_))
    · intro hl0
      have HKL:=Lib.hid (show ks.length≤n by have:=HCN2.out;omega)
      have HOL:=Lib.hid (fun ks'=>HG2.out.told (ks':=ks') (fun k v hk=>hl0 k (FMok HFR2.out.fm hk)))
      have HSO:=Lib.hid (sorted_c w2 (.slice A ks.length c5) ks (x0 + 1) (by have:=HKL.out;have:=HN.out;omega) HO.out)
      have HBS:=Lib.hid (show ∀ w',Fr (fun x=>(Value.slice A ks.length c5).ownBlock=some x) w2 w'→Below x0 w w' from fun w' hf=>HB.out.trans (hf.to_below (fun k hk=>by have:=(HO.out.lt k hk).1;omega) (by have:=HZ.out;omega)))
      clear hl0
      go_wp2_with (first
        | (go_at_call 17;(with_reducible refine HSO.out.mono ?_);rintro e w' ⟨rfl,hq⟩))
      go_ret
      obtain ⟨ks',h1,h2,h3,h4⟩:=hq
      refine ⟨_,ks',rfl,?_,HOL.out ks' h2 h3,by rw [h2.length_eq];exact HKL.out,HBS.out _ h4⟩
      rcases h1 with ⟨e1,e2⟩ | ⟨g,cap,e1,e2,e3,e4⟩
      · exact .inl ⟨e1,e2⟩
      · exact .inr ⟨g,cap,e1,e2,Nat.le_trans (Nat.le_succ _) e3,e4⟩
    · intro x A' B' w3 cnt' hx hlx hfx hfr3 hlt hF3 hsz3 hen
      have ek:KK.kv x=.agg #[.int .u8 x.k,.int .u32 x.a,.int .u32 x.b]:=rfl
      have em:vaEE.ev (A',B')=.agg #[.int .u64 A',.int .u64 B']:=rfl
      rw [ek,em] at hen
      rw [ek,em]
      clear ek em
      go_upto_region 5 with fail
      obtain ⟨W5,hW5⟩:∃ W,(w3.alloc (.cells #[.int .u8 x.k,.int .u32 x.a,.int .u32 x.b] 49)).alloc (.cells #[.int .u64 A',.int .u64 B'] 51)=W:=⟨_,rfl⟩
      have hb5:Below w3.heap.size w3 W5:=by rw [← hW5];exact new_ (new_ (Below.refl _ _) _) _
      have kb:=((Box.new w3 #[.int .u8 x.k,.int .u32 x.a,.int .u32 x.b] 49).alloc (.cells #[.int .u64 A',.int .u64 B'] 51))
      have vb:=Box.new (w3.alloc (.cells #[.int .u8 x.k,.int .u32 x.a,.int .u32 x.b] 49)) #[.int .u64 A',.int .u64 B'] 51
      have hs5:W5.heap.size=w2.heap.size + 2:=by rw [← hW5];simp [hsz3]
      rw [World.size_alloc,hsz3] at vb
      rw [hsz3] at kb
      rw [hW5] at kb vb ⊢
      have kc:=kb.cell
      have vc:=vb.cell
      have HFR5:=Lib.hid (hfr3.fr (S:=fun _=>False) (Fr.of_below hb5) id id)
      have HLT:=Lib.hid (⟨hlt,HFR2.out.left_eq,HFR5.out.left_eq⟩:cnt' < cnt∧w2.rangeLeft m x0=cnt∧W5.rangeLeft m x0=cnt')
      have HO5:=Lib.hid (own_below (own_below (own_frs HO.out hF3 (fun b hb e=>by have:=(HO.out.lt b hb).1;omega)) hb5) (new_ (Below.refl _ _) (.cells #[.int .u8 x.k,.int .u32 x.a,.int .u32 x.b,.int .u64 A',.int .u64 B',.bool true] 53)))
      have HB5:=Lib.hid (show Below x0 w (W5.alloc (.cells #[.int .u8 x.k,.int .u32 x.a,.int .u32 x.b,.int .u64 A',.int .u64 B',.bool true] 53)) from ((HB.out.trans (hF3.to_below (fun k hk=>by omega) (by have:=HZ.out;omega))).trans (hb5.mono (by have:=HZ.out;omega))).alloc (by have:=HZ.out;omega) _)
      have HG5:=Lib.hid (HG2.out.take hfx hlx)
      have HS5:=Lib.hid hs5
      have HFR6:=Lib.hid (HFR5.out.fr (S:=fun _=>False) (Fr.of_below (new_ (Below.refl _ _) (.cells #[.int .u8 x.k,.int .u32 x.a,.int .u32 x.b,.int .u64 A',.int .u64 B',.bool true] 53))) id id)
      have HMX:=Lib.hid (show m < x0 by rw [← HX0.out];exact HM.out.lt)
      clear hW5 hb5 kb vb hs5 hen hF3 hsz3 hfr3 hfx hlx hx hlt
      go_wp2_with (first
        | (at_builtin;refine wpList_push_ss (F:=Ce.cells) (sz:=6) _ rfl _ _ _ rfl (x0 + 1) 53 ic _ 40 Tryz.underlying30 hc0 hc1 hc2 hc3 rfl (by decide) Ce.cells_len Ce.cells_one _ ks rfl HO5.out W5.heap.size ⟨x.k,x.a,x.b,A',B',true⟩ 53 rfl (Box.new W5 _ _) (by have:=HCN2.out;have:=HN.out;unfold maxLen;omega) (by have:=HCN2.out;have:=HN.out;omega) (by have:=HZ.out;have:=HS5.out;simp;omega) ?_;intro sv9 W9 hsn ts
           have HSN:=Lib.hid hsn
           have HTS:=Lib.hid ts
           clear hsn ts kc vc))
      have hsb:∀ k,(Value.slice A ks.length c5).ownBlock=some k→x0 + 1≤k:=fun k e=>(HO.out.lt k e).1
      obtain ⟨A9,c9,rfl,_,_⟩:=(SS.of_own Ce.cells_len HSN.out).form
      have hfr9:=HFR6.out.fr HTS.out.fr (fun e=>by have:=hsb _ e;have:=HMX.out;omega) (fun e=>by have:=hsb _ e;omega)
      have hz9:=HTS.out.fr.size
      refine ⟨⟨_,cnt',A9,c9,_,rfl,Lib.hid hfr9,HSN,HG5,Lib.hid (by have:=HCN2.out;have:=HLT.out.1;simp;omega),Lib.hid (HB5.out.trans (HTS.out.below (B:=x0) (fun k e=>by have:=hsb k e;omega) (by have:=HZ.out;have:=HS5.out;simp;omega))),Lib.hid (by have:=HZ.out;have:=HS5.out;simp at hz9;omega)⟩,?_⟩
      rw [hfr9.left_eq,HLT.out.2.1]
      exact HLT.out.1
end Go.Proofs.YtabckmadpdchnaaGreat.Rule
namespace Go.Proofs.YtabckmadpdchnaaGreat.Money
open Go.ChangeShapes Go.WideShapes Go.ChangeAt Go.RowKit Go.IntWalk Go.Proofs.Mem
def allF:List Int→Int→Int × Int
  | [],s=>(s,0)
  | x :: r,s=>if (addS s x).2=0 then allF r (addS s x).1 else (0,(addS s x).2)
def allS (l:List Int):Int × Int:=allF l 0
theorem addS_ok (a b:Int) (ha:0≤a) (hb:0≤b):((addS a b).2=0∧0≤(addS a b).1∧(addS a b).1≤4611686018427387904)∨((addS a b).2=30∧(addS a b).1=0):=by
  unfold addS;split
  · exact .inr ⟨rfl,rfl⟩
  · left;simp;omega
theorem drop_at (l:List Int) (j:Nat) (h:j < l.length):l.drop j=l.getD j 0 :: l.drop (j + 1):=by
  rw [List.drop_eq_getElem_cons h];simp [List.getD,List.getElem?_eq_getElem h]
theorem all_any (v:Value) (xs:List Int) (w:World) (hv:IR w w.heap.size .u64 v xs) (hx:∀ x∈xs,0≤x∧x≤18446744073709551615) :
    Calls Tryz.prog 36 #[v] w fun e w'=>e=.returned (.tuple #[.int .u64 (allS xs).1,.int .u16 (allS xs).2])∧Below w.heap.size w w':=by
  obtain ⟨A,c,rfl,hlc,hcm⟩:=hv.form
  unfold maxLen at hcm
  go_enter Tryz.func36,Tryz.ntmps36
  go_wp2
  go_loopw [4,11] (fun m i wr=>∃ (j:Nat) (q:Int),j≤xs.length∧i=.int .i64 j∧m=.int .u64 q∧0≤q∧q≤4611686018427387904∧allF (xs.drop j) q=allS xs∧Below w.heap.size w wr) (fun _ i _=>xs.length - (intOf i).toNat)
  case atStart=>exact ⟨0,0,by omega,rfl,rfl,by omega,by omega,rfl,Below.refl _ _⟩
  case round=>
    obtain ⟨j,q,hj,rfl,rfl,hq0,hq1,hs,hbel⟩:=hrel
    have HS:=Lib.hid hs
    clear hs
    by_cases hl:j < xs.length
    · have hvr:=hv.below hbel
      obtain ⟨b,off,rfl,hb,hcell⟩:=IR.index hvr j hl
      have hu:=hx (xs.getD j 0) (by simp [List.getD,List.getElem?_eq_getElem hl])
      have hd:=HS.out
      rw [drop_at xs j hl] at hd
      generalize xs.getD j 0=u at *
      simp only [allF] at hd
      have HD:=Lib.hid hd
      clear hd
      have hdl:decide ((j:Int) < (xs.length:Int))=true:=by simp;omega
      have hok:=addS_ok q u hq0 hu.1
      have had:=fun W=>add_any q u ⟨hq0,by omega⟩ hu W
      generalize addS q u=r at *
      obtain ⟨s,err⟩:=r
      simp only at hok had
      have HA:=Lib.hid had
      clear had
      rcases hok with ⟨rfl,hs0,hs1⟩ | ⟨rfl,rfl⟩
      · go_wp2_with fail
        (with_reducible refine (HA.out _).mono ?_)
        rintro e w2 ⟨rfl,hb2⟩
        go_wp2
        go_roundw
        case rel=>exact ⟨j + 1,s,by omega,by go_num,rfl,hs0,hs1,by have:=HD.out;simpa using this,hbel.trans (hb2.mono hbel.size)⟩
        case measure=>simp [intOf];omega
      · go_wp2_with fail
        (with_reducible refine (HA.out _).mono ?_)
        rintro e w2 ⟨rfl,hb2⟩
        go_wp2
        go_ret2
        have h:=HD.out
        rw [if_neg (by decide)] at h
        exact ⟨ret_pair (by rw [← h]) (by rw [← h]),hbel.trans (hb2.mono hbel.size)⟩
    · have hdl:decide ((j:Int) < (xs.length:Int))=false:=by simp;omega
      go_wp2
      go_ret2
      have h:=HS.out
      rw [List.drop_eq_nil_of_le (by omega)] at h
      exact ⟨ret_pair (by rw [← h];rfl) (by rw [← h];rfl),hbel⟩
end Go.Proofs.YtabckmadpdchnaaGreat.Money
namespace Go.Proofs.YtabckmadpdchnaaGreat.Rule
open Go.ChangeShapes Go.WideShapes Go.ChangeAt Go.RowKit Go.IntWalk Go.Proofs.Mem
def coinS (x:Ky) (A B:Int):Int:=if x.k=1∨x.k=2 then A else if x.k=7∧x.b=0 then A else if x.k=5∧B=0 then A else 0
def itemS (t:Int) (x:Ky) (A B:Int):Int:=if x.k=3∧x.b=t then A else if x.k=5∧B=t then A else if x.k=6∧lo32 A=t then B else 0
theorem coins_any (w:World) (x:Ky) (A B:Int):Calls Tryz.prog 25 #[.agg #[.int .u8 x.k,.int .u32 x.a,.int .u32 x.b],.agg #[.int .u64 A,.int .u64 B]] w fun e w'=>e=.returned (.int .u64 (coinS x A B))∧Below w.heap.size w w':=by
  obtain ⟨k,a,b⟩:=x
  obtain ⟨r,hr⟩:∃ r,coinS ⟨k,a,b⟩ A B=r:=⟨_,rfl⟩
  rw [hr]
  unfold coinS at hr
  dsimp only at hr
  have HR:=Lib.hid hr
  have X0:=(Box.new w #[.int .u8 k,.int .u32 a,.int .u32 b] 49).alloc (.cells #[.int .u64 A,.int .u64 B] 51)
  have X1:=Box.new (w.alloc (.cells #[.int .u8 k,.int .u32 a,.int .u32 b] 49)) #[.int .u64 A,.int .u64 B] 51
  rw [World.size_alloc] at X1
  have c0:=X0.cell 0
  have c1:=X0.cell 1
  have c2:=X0.cell 2
  have v0:=X1.cell 0
  have v1:=X1.cell 1
  simp only [List.getElem?_toArray,List.getElem?_cons_zero,List.getElem?_cons_succ] at c0 c1 c2 v0 v1
  clear hr X0 X1
  go_enter Tryz.func25,Tryz.ntmps25
  go_wp2
  all_goals
    clear c0 c1 c2 v0 v1
    go_ret
    refine ⟨?_,new_ (new_ (Below.refl _ _) _) _⟩
    rw [← HR.out]
    clear HR
    simp_all
theorem items_any (w:World) (x:Ky) (A B t:Int) (ht:0≤t∧t≤4294967295) (hA:u64 A):Calls Tryz.prog 27 #[.agg #[.int .u8 x.k,.int .u32 x.a,.int .u32 x.b],.agg #[.int .u64 A,.int .u64 B],.int .u32 t] w fun e w'=>e=.returned (.int .u64 (itemS t x A B))∧Below w.heap.size w w':=by
  obtain ⟨k,a,b⟩:=x
  obtain ⟨l,hl⟩:∃ l,lo32 A=l:=⟨_,rfl⟩
  obtain ⟨r,hr⟩:∃ r,itemS t ⟨k,a,b⟩ A B=r:=⟨_,rfl⟩
  rw [hr]
  unfold itemS at hr
  dsimp only at hr
  rw [hl] at hr
  have HR:=Lib.hid hr
  have w1:IntKind.u64.wrap t=t:=u64_in _ (by omega)
  have w2:IntKind.u32.wrap A=l:=by rw [← hl];exact wrap_u32 A
  have X0:=(Box.new w #[.int .u8 k,.int .u32 a,.int .u32 b] 49).alloc (.cells #[.int .u64 A,.int .u64 B] 51)
  have X1:=Box.new (w.alloc (.cells #[.int .u8 k,.int .u32 a,.int .u32 b] 49)) #[.int .u64 A,.int .u64 B] 51
  rw [World.size_alloc] at X1
  have c0:=X0.cell 0
  have c1:=X0.cell 1
  have c2:=X0.cell 2
  have v0:=X1.cell 0
  have v1:=X1.cell 1
  simp only [List.getElem?_toArray,List.getElem?_cons_zero,List.getElem?_cons_succ] at c0 c1 c2 v0 v1
  clear hr X0 X1 hl ht hA
  go_enter Tryz.func27,Tryz.ntmps27
  go_wp2
  all_goals
    clear c0 c1 c2 v0 v1 w1 w2
    go_ret
    refine ⟨?_,new_ (new_ (Below.refl _ _) _) _⟩
    rw [← HR.out]
    clear HR
    simp_all
end Go.Proofs.YtabckmadpdchnaaGreat.Rule
namespace Go.Proofs.YtabckmadpdchnaaGreat.Rule
open Go.ChangeShapes Go.WideShapes Go.ChangeAt Go.RowKit Go.IntWalk Go.Proofs.Mem Law Go.Proofs.Each
theorem u64_info:(Tryz.prog.info? 27).map (fun i=>(i.zero,i.size,i.bytes))=some (some (.int .u64 0),1,8):=by kernel_rfl
structure Ents (f:Wm) (ks:List Ce):Prop where
  mem:∀ c,c∈ks ↔ (c.is=true∧f c.ky=some (c.A,c.B))
  nd:ks.Pairwise (fun x y=>x.ky≠y.ky)
theorem Gc.ents {f:Wm} {left:Ky→Bool} {ks:List Ce} (h:Gc f left ks) (hl:∀ k v,f k=some v→left k=false):Ents f ks:=
  ⟨fun c=>(h.mem c).trans ⟨fun h1=>h1.2,fun h1=>⟨hl _ _ h1.2,h1⟩⟩,h.nd⟩
def sumV (l:List Int):Value:=.tuple #[.int .u64 (Money.allS l).1,(.bool ((Money.allS l).2 == 0))]
def coinC (c:Ce):Int:=coinS c.ky c.A c.B
def itemC (t:Int) (c:Ce):Int:=itemS t c.ky c.A c.B
theorem coinC_u {c:Ce} (hA:u64 c.A) (hB:u64 c.B):u64 (coinC c):=by
  unfold coinC coinS
  repeat' split
  all_goals first | assumption | exact u64_0
theorem itemC_u {t:Int} {c:Ce} (hA:u64 c.A) (hB:u64 c.B):u64 (itemC t c):=by
  unfold itemC itemS
  repeat' split
  all_goals first | assumption | exact u64_0
theorem sum_c (w:World) (p m n:Nat) (f:Wm) (h:WAt w p m n f) (hf:Wok f) (hn:n≤200000) :
    Calls Tryz.prog 24 #[.pointer (some ⟨p,0,none⟩),.func (.func 25) #[] #[]] w fun e w'=>∃ L,Ents f L∧e=.returned (sumV (L.map coinC))∧Below w.heap.size w w':=by
  obtain ⟨i0,hi0,hz0,hz1,hz2⟩:=info_parts u64_info
  obtain ⟨x0,hx0⟩:∃ x,w.heap.size=x:=⟨_,rfl⟩
  have k0:w.cell? ⟨p,0,none⟩=some (.map (some m)):=by rw [h.box.cell 0];rfl
  have HM:=Lib.hid h.fm
  have HN:=Lib.hid hn
  have HX0:=Lib.hid hx0
  have HWK:=Lib.hid hf
  rw [hx0]
  clear h hn hf
  go_enter Tryz.func24,Tryz.ntmps24
  go_upto_region 2 with fail
  clear hx0
  go_wp2_with (first
    | (at_range;refine wpList_range_fm (E:=KK) (V:=vaEE) rfl _ _ rfl _ Tryz.underlying57 rfl HM.out ?_;intro w2 cnt hfr hcnt hbw hsz))
  rw [HX0.out] at hfr hbw hsz ⊢
  have HB2:=Lib.hid hbw
  have HFR:=Lib.hid hfr
  have HCN:=Lib.hid (show ([]:List Ce).length + cnt≤n from by simp;omega)
  have HG:=Lib.hid (Gc.start f)
  have HZ0:=Lib.hid (show x0 + 1≤w2.heap.size by rw [hsz];omega)
  clear hbw hfr hsz hcnt k0
  go_frame
  go_loopw [6] (fun s6 wr=>∃ (left:Ky→Bool) (cnt:Nat) (A:Option Addr) (nn c:Nat) (ks:List Ce),s6=.slice A nn c∧Hid (nn=ks.length)∧Hid (FR KK vaEE wr m x0 n f left cnt)∧Hid (wr.ownsRow (x0 + 1) 27 1 (.slice A nn c) nn ((ks.map coinC).map (.int .u64)))∧Hid (Gc f left ks)∧Hid (ks.length + cnt≤n)∧Hid (Below x0 w wr)∧Hid (x0 + 1≤wr.heap.size)) (fun _ wr=>wr.rangeLeft m x0)
  case atStart=>exact ⟨_,_,none,0,0,[],rfl,Lib.hid rfl,HFR,Lib.hid (World.ownsRow_nil _ _ _ _),HG,HCN,HB2,HZ0⟩
  case round=>
    obtain ⟨left,cnt,A,nn,c5,ks,rfl,HNN,HFR2,HO,HG2,HCN2,HB,HZ⟩:=hrel
    obtain ⟨w2,rfl⟩:∃ w2,w2=wr:=⟨wr,rfl⟩
    clear HFR HB2 HCN HG HZ0
    go_wp2_with (first
      | (at_next;refine wpList_next_fm (E:=KK) (V:=vaEE) rfl _ rfl rfl HFR2.out ?_ ?_))
    · intro hl0
      have HE:=Lib.hid (show Ents f ks from HG2.out.ents (fun k v hk=>hl0 k (FMok HFR2.out.fm hk)))
      have HA:=Lib.hid (Money.all_any (.slice A nn c5) (ks.map coinC) w2 (IR.of_own HO.out) (fun x hx=>by
        obtain ⟨c,hc,rfl⟩:=List.mem_map.1 hx
        have:=HWK.out _ _ ((HE.out.mem c).1 hc).2
        exact coinC_u this.1 this.2))
      have HBS:=Lib.hid (show ∀ w',Below w2.heap.size w2 w'→Below x0 w w' from fun w' hf=>HB.out.trans (hf.mono (by have:=HZ.out;omega)))
      obtain ⟨r,hr⟩:∃ r,Money.allS (ks.map coinC)=r:=⟨_,rfl⟩
      have HR:=Lib.hid (show sumV (ks.map coinC)=.tuple #[.int .u64 r.1,(.bool (r.2 == 0))] by unfold sumV;rw [hr])
      have ha:=HA.out
      rw [hr] at ha
      replace HA:=Lib.hid ha
      obtain ⟨r1,r2⟩:=r
      clear hl0 ha hr
      go_wp2_with (first
        | (go_at_call 36;(with_reducible refine HA.out.mono ?_);rintro e w' ⟨rfl,hq⟩))
      go_ret2
      exact ⟨ks,HE.out,by rw [HR.out];rfl,HBS.out _ hq⟩
    · intro x A' B' w3 cnt' hx hlx hfx hfr3 hlt hF3 hsz3 hen
      have ek:KK.kv x=.agg #[.int .u8 x.k,.int .u32 x.a,.int .u32 x.b]:=rfl
      have em:vaEE.ev (A',B')=.agg #[.int .u64 A',.int .u64 B']:=rfl
      rw [ek,em] at hen
      rw [ek,em]
      clear ek em
      go_upto_region 5 with fail
      obtain ⟨W5,hW5⟩:∃ W,(w3.alloc (.cells #[.int .u8 x.k,.int .u32 x.a,.int .u32 x.b] 49)).alloc (.cells #[.int .u64 A',.int .u64 B'] 51)=W:=⟨_,rfl⟩
      have hb5:Below w3.heap.size w3 W5:=by rw [← hW5];exact new_ (new_ (Below.refl _ _) _) _
      have kb:=((Box.new w3 #[.int .u8 x.k,.int .u32 x.a,.int .u32 x.b] 49).alloc (.cells #[.int .u64 A',.int .u64 B'] 51))
      have vb:=Box.new (w3.alloc (.cells #[.int .u8 x.k,.int .u32 x.a,.int .u32 x.b] 49)) #[.int .u64 A',.int .u64 B'] 51
      rw [World.size_alloc,hsz3] at vb
      rw [hsz3] at kb
      rw [hW5] at kb vb ⊢
      have kc:=kb.cell
      have vc:=vb.cell
      have HFR5:=Lib.hid (hfr3.fr (S:=fun _=>False) (Fr.of_below hb5) id id)
      have HLT:=Lib.hid (⟨hlt,HFR2.out.left_eq⟩:cnt' < cnt∧w2.rangeLeft m x0=cnt)
      have HO5:=Lib.hid (own_below (own_frs HO.out hF3 (fun b hb e=>by have:=(HO.out.lt b hb).1;omega)) hb5)
      have HB5:=Lib.hid (show Below x0 w W5 from (HB.out.trans (hF3.to_below (fun k hk=>by omega) (by have:=HZ.out;omega))).trans (hb5.mono (by have:=HZ.out;omega)))
      have HG5:=Lib.hid (HG2.out.take hfx hlx)
      have HS5:=Lib.hid (show x0 + 1≤W5.heap.size by have:=hb5.size;have:=HZ.out;omega)
      have HMX:=Lib.hid (show m < x0 by rw [← HX0.out];exact HM.out.lt)
      obtain ⟨u,hu⟩:∃ u,coinC ⟨x.k,x.a,x.b,A',B',true⟩=u:=⟨_,rfl⟩
      have HU:=Lib.hid hu
      have HWV:=Lib.hid (HWK.out _ _ hfx)
      have CALL:=Lib.hid (show Calls Tryz.prog 25 #[.agg #[.int .u8 x.k,.int .u32 x.a,.int .u32 x.b],.agg #[.int .u64 A',.int .u64 B']] W5 (fun e w'=>e=.returned (.int .u64 u)∧Below W5.heap.size W5 w') by rw [← hu];exact coins_any W5 x A' B')
      clear hW5 hb5 kb vb hen hF3 hsz3 hfr3 hfx hlx hx hlt hu
      go_wp2_with (first
        | (go_at_call 25;(with_reducible refine CALL.out.mono ?_);rintro e w6 ⟨rfl,hb6⟩
           have HB6:=Lib.hid (hb6.trans ((new_ (Below.refl _ _) (.cells #[.int .u64 u] 27)).mono hb6.size))
           have cz:=cell_new w6 #[.int .u64 u] 27 0
           have hz6:=hb6.size
           clear hb6)
        | (at_builtin;refine wpList_push _ rfl _ _ _ rfl (x0 + 1) 27 i0 .u64 8 Tryz.underlying89 hi0 hz0 hz1 hz2 (.slice A nn c5) nn (ks.map coinC) rfl (own_below HO5.out HB6.out) w6.heap.size u rfl (cell_new w6 _ _ 0) (by have:=HNN.out;have:=HCN2.out;have:=HN.out;unfold maxLen;omega) (by have:=HNN.out;have:=HCN2.out;have:=HN.out;omega) (by have:=HS5.out;simp;omega) ?_;intro sv9 W9 hsn ts
           have HSN:=Lib.hid hsn
           have HTS:=Lib.hid ts
           clear hsn ts kc vc cz hz6))
      obtain ⟨A9,c9,rfl⟩:∃ A9 c9,sv9=.slice A9 (nn + 1) c9:=by
        rcases HSN.out.2 with ⟨e1,e2⟩ | ⟨g,cap,cur,e1,_⟩
        · omega
        · exact ⟨_,_,e1⟩
      have hs:=HSN.out
      have hmap:(ks++[(⟨x.k,x.a,x.b,A',B',true⟩:Ce)]).map coinC=ks.map coinC++[u]:=by rw [List.map_append,List.map_singleton,HU.out]
      rw [← hmap] at hs
      have hfr9:=(HFR5.out.fr (S:=fun _=>False) (Fr.of_below HB6.out) id id).fr (show Fr (fun g=>x0 + 1≤g) _ W9 from ⟨HTS.out.os,HTS.out.tape,HTS.out.output,HTS.out.size,fun k hk hn=>HTS.out.block k (Nat.lt_of_not_le hn)⟩) (by have:=HMX.out;omega) (by omega)
      have hz9:=HTS.out.size
      have hz10:=HB6.out.size
      refine ⟨⟨_,cnt',A9,nn + 1,c9,_,rfl,Lib.hid (by have:=HNN.out;simp;omega),Lib.hid hfr9,Lib.hid hs,HG5,Lib.hid (by have:=HCN2.out;have:=HLT.out.1;simp;omega),Lib.hid ((HB5.out.trans (HB6.out.mono (by have:=HS5.out;omega))).trans (HTS.out.mono (by omega))),Lib.hid (by have:=HS5.out;omega)⟩,?_⟩
      rw [hfr9.left_eq,HLT.out.2]
      exact HLT.out.1
theorem items1_any (w:World) (x:Ky) (A B t:Int) (g:Nat) (ht:0≤t∧t≤4294967295) (hA:u64 A) (hg:w.cell? ⟨g,0,none⟩=some (.int .u32 t)) (hgl:g < w.heap.size):Calls Tryz.prog 26 #[.agg #[.int .u8 x.k,.int .u32 x.a,.int .u32 x.b],.agg #[.int .u64 A,.int .u64 B],.pointer (some ⟨g,0,none⟩)] w fun e w'=>e=.returned (.int .u64 (itemS t x A B))∧Below w.heap.size w w':=by
  have IT:=Lib.hid (fun W=>items_any W x A B t ht hA)
  have X0:=(Box.new w #[.int .u8 x.k,.int .u32 x.a,.int .u32 x.b] 49).alloc (.cells #[.int .u64 A,.int .u64 B] 51)
  have X1:=Box.new (w.alloc (.cells #[.int .u8 x.k,.int .u32 x.a,.int .u32 x.b] 49)) #[.int .u64 A,.int .u64 B] 51
  rw [World.size_alloc] at X1
  have HB:=Lib.hid (new_ (new_ (Below.refl w.heap.size w) (.cells #[.int .u8 x.k,.int .u32 x.a,.int .u32 x.b] 49)) (.cells #[.int .u64 A,.int .u64 B] 51))
  have c0:=X0.cell
  have v0:=X1.cell
  have g0:=(HB.out.cell (p:=⟨g,0,none⟩) hgl).trans hg
  clear X0 X1
  go_enter Tryz.func26,Tryz.ntmps26
  go_wp2_with (go_at_call 27;(with_reducible refine (IT.out _).mono ?_);rintro e w' ⟨rfl,hq⟩)
  go_ret
  exact ⟨rfl,HB.out.trans (hq.mono HB.out.size)⟩
theorem sum_i (w:World) (p m n:Nat) (f:Wm) (h:WAt w p m n f) (hf:Wok f) (hn:n≤200000) (g:Nat) (t:Int) (ht:0≤t∧t≤4294967295) (hg:w.cell? ⟨g,0,none⟩=some (.int .u32 t)) (hgl:g < w.heap.size) :
    Calls Tryz.prog 24 #[.pointer (some ⟨p,0,none⟩),.func (.func 26) #[] #[.pointer (some ⟨g,0,none⟩)]] w fun e w'=>∃ L,Ents f L∧e=.returned (sumV (L.map (itemC t)))∧Below w.heap.size w w':=by
  obtain ⟨i0,hi0,hz0,hz1,hz2⟩:=info_parts u64_info
  obtain ⟨x0,hx0⟩:∃ x,w.heap.size=x:=⟨_,rfl⟩
  have k0:w.cell? ⟨p,0,none⟩=some (.map (some m)):=by rw [h.box.cell 0];rfl
  have HM:=Lib.hid h.fm
  have HN:=Lib.hid hn
  have HX0:=Lib.hid hx0
  have HWK:=Lib.hid hf
  have HGT:=Lib.hid (⟨ht,hg,by rw [← hx0];exact hgl⟩:(0≤t∧t≤4294967295)∧w.cell? ⟨g,0,none⟩=some (.int .u32 t)∧g < x0)
  clear ht hg hgl
  rw [hx0]
  clear h hn hf
  go_enter Tryz.func24,Tryz.ntmps24
  go_upto_region 2 with fail
  clear hx0
  go_wp2_with (first
    | (at_range;refine wpList_range_fm (E:=KK) (V:=vaEE) rfl _ _ rfl _ Tryz.underlying57 rfl HM.out ?_;intro w2 cnt hfr hcnt hbw hsz))
  rw [HX0.out] at hfr hbw hsz ⊢
  have HB2:=Lib.hid hbw
  have HFR:=Lib.hid hfr
  have HCN:=Lib.hid (show ([]:List Ce).length + cnt≤n from by simp;omega)
  have HG:=Lib.hid (Gc.start f)
  have HZ0:=Lib.hid (show x0 + 1≤w2.heap.size by rw [hsz];omega)
  clear hbw hfr hsz hcnt k0
  go_frame
  go_loopw [6] (fun s6 wr=>∃ (left:Ky→Bool) (cnt:Nat) (A:Option Addr) (nn c:Nat) (ks:List Ce),s6=.slice A nn c∧Hid (nn=ks.length)∧Hid (FR KK vaEE wr m x0 n f left cnt)∧Hid (wr.ownsRow (x0 + 1) 27 1 (.slice A nn c) nn ((ks.map (itemC t)).map (.int .u64)))∧Hid (Gc f left ks)∧Hid (ks.length + cnt≤n)∧Hid (Below x0 w wr)∧Hid (x0 + 1≤wr.heap.size)) (fun _ wr=>wr.rangeLeft m x0)
  case atStart=>exact ⟨_,_,none,0,0,[],rfl,Lib.hid rfl,HFR,Lib.hid (World.ownsRow_nil _ _ _ _),HG,HCN,HB2,HZ0⟩
  case round=>
    obtain ⟨left,cnt,A,nn,c5,ks,rfl,HNN,HFR2,HO,HG2,HCN2,HB,HZ⟩:=hrel
    obtain ⟨w2,rfl⟩:∃ w2,w2=wr:=⟨wr,rfl⟩
    clear HFR HB2 HCN HG HZ0
    go_wp2_with (first
      | (at_next;refine wpList_next_fm (E:=KK) (V:=vaEE) rfl _ rfl rfl HFR2.out ?_ ?_))
    · intro hl0
      have HE:=Lib.hid (show Ents f ks from HG2.out.ents (fun k v hk=>hl0 k (FMok HFR2.out.fm hk)))
      have HA:=Lib.hid (Money.all_any (.slice A nn c5) (ks.map (itemC t)) w2 (IR.of_own HO.out) (fun x hx=>by
        obtain ⟨c,hc,rfl⟩:=List.mem_map.1 hx
        have:=HWK.out _ _ ((HE.out.mem c).1 hc).2
        exact itemC_u this.1 this.2))
      have HBS:=Lib.hid (show ∀ w',Below w2.heap.size w2 w'→Below x0 w w' from fun w' hf=>HB.out.trans (hf.mono (by have:=HZ.out;omega)))
      obtain ⟨r,hr⟩:∃ r,Money.allS (ks.map (itemC t))=r:=⟨_,rfl⟩
      have HR:=Lib.hid (show sumV (ks.map (itemC t))=.tuple #[.int .u64 r.1,(.bool (r.2 == 0))] by unfold sumV;rw [hr])
      have ha:=HA.out
      rw [hr] at ha
      replace HA:=Lib.hid ha
      obtain ⟨r1,r2⟩:=r
      clear hl0 ha hr
      go_wp2_with (first
        | (go_at_call 36;(with_reducible refine HA.out.mono ?_);rintro e w' ⟨rfl,hq⟩))
      go_ret2
      exact ⟨ks,HE.out,by rw [HR.out];rfl,HBS.out _ hq⟩
    · intro x A' B' w3 cnt' hx hlx hfx hfr3 hlt hF3 hsz3 hen
      have ek:KK.kv x=.agg #[.int .u8 x.k,.int .u32 x.a,.int .u32 x.b]:=rfl
      have em:vaEE.ev (A',B')=.agg #[.int .u64 A',.int .u64 B']:=rfl
      rw [ek,em] at hen
      rw [ek,em]
      clear ek em
      go_upto_region 5 with fail
      obtain ⟨W5,hW5⟩:∃ W,(w3.alloc (.cells #[.int .u8 x.k,.int .u32 x.a,.int .u32 x.b] 49)).alloc (.cells #[.int .u64 A',.int .u64 B'] 51)=W:=⟨_,rfl⟩
      have hb5:Below w3.heap.size w3 W5:=by rw [← hW5];exact new_ (new_ (Below.refl _ _) _) _
      have kb:=((Box.new w3 #[.int .u8 x.k,.int .u32 x.a,.int .u32 x.b] 49).alloc (.cells #[.int .u64 A',.int .u64 B'] 51))
      have vb:=Box.new (w3.alloc (.cells #[.int .u8 x.k,.int .u32 x.a,.int .u32 x.b] 49)) #[.int .u64 A',.int .u64 B'] 51
      rw [World.size_alloc,hsz3] at vb
      rw [hsz3] at kb
      rw [hW5] at kb vb ⊢
      have kc:=kb.cell
      have vc:=vb.cell
      have HFR5:=Lib.hid (hfr3.fr (S:=fun _=>False) (Fr.of_below hb5) id id)
      have HLT:=Lib.hid (⟨hlt,HFR2.out.left_eq⟩:cnt' < cnt∧w2.rangeLeft m x0=cnt)
      have HO5:=Lib.hid (own_below (own_frs HO.out hF3 (fun b hb e=>by have:=(HO.out.lt b hb).1;omega)) hb5)
      have HB5:=Lib.hid (show Below x0 w W5 from (HB.out.trans (hF3.to_below (fun k hk=>by omega) (by have:=HZ.out;omega))).trans (hb5.mono (by have:=HZ.out;omega)))
      have HG5:=Lib.hid (HG2.out.take hfx hlx)
      have HS5:=Lib.hid (show x0 + 1≤W5.heap.size by have:=hb5.size;have:=HZ.out;omega)
      have HMX:=Lib.hid (show m < x0 by rw [← HX0.out];exact HM.out.lt)
      obtain ⟨u,hu⟩:∃ u,(itemC t) ⟨x.k,x.a,x.b,A',B',true⟩=u:=⟨_,rfl⟩
      have HU:=Lib.hid hu
      have HWV:=Lib.hid (HWK.out _ _ hfx)
      have CALL:=Lib.hid (show Calls Tryz.prog 26 #[.agg #[.int .u8 x.k,.int .u32 x.a,.int .u32 x.b],.agg #[.int .u64 A',.int .u64 B'],.pointer (some ⟨g,0,none⟩)] W5 (fun e w'=>e=.returned (.int .u64 u)∧Below W5.heap.size W5 w') by rw [← hu];exact items1_any W5 x A' B' t g HGT.out.1 HWV.out.1 ((HB5.out.cell (p:=⟨g,0,none⟩) HGT.out.2.2).trans HGT.out.2.1) (by have:=HS5.out;have:=HGT.out.2.2;omega))
      clear hW5 hb5 kb vb hen hF3 hsz3 hfr3 hfx hlx hx hlt hu
      go_wp2_with (first
        | (go_at_call 26;(with_reducible refine CALL.out.mono ?_);rintro e w6 ⟨rfl,hb6⟩
           have HB6:=Lib.hid (hb6.trans ((new_ (Below.refl _ _) (.cells #[.int .u64 u] 27)).mono hb6.size))
           have cz:=cell_new w6 #[.int .u64 u] 27 0
           have hz6:=hb6.size
           clear hb6)
        | (at_builtin;refine wpList_push _ rfl _ _ _ rfl (x0 + 1) 27 i0 .u64 8 Tryz.underlying89 hi0 hz0 hz1 hz2 (.slice A nn c5) nn (ks.map (itemC t)) rfl (own_below HO5.out HB6.out) w6.heap.size u rfl (cell_new w6 _ _ 0) (by have:=HNN.out;have:=HCN2.out;have:=HN.out;unfold maxLen;omega) (by have:=HNN.out;have:=HCN2.out;have:=HN.out;omega) (by have:=HS5.out;simp;omega) ?_;intro sv9 W9 hsn ts
           have HSN:=Lib.hid hsn
           have HTS:=Lib.hid ts
           clear hsn ts kc vc cz hz6))
      obtain ⟨A9,c9,rfl⟩:∃ A9 c9,sv9=.slice A9 (nn + 1) c9:=by
        rcases HSN.out.2 with ⟨e1,e2⟩ | ⟨g,cap,cur,e1,_⟩
        · omega
        · exact ⟨_,_,e1⟩
      have hs:=HSN.out
      have hmap:(ks++[(⟨x.k,x.a,x.b,A',B',true⟩:Ce)]).map (itemC t)=ks.map (itemC t)++[u]:=by rw [List.map_append,List.map_singleton,HU.out]
      rw [← hmap] at hs
      have hfr9:=(HFR5.out.fr (S:=fun _=>False) (Fr.of_below HB6.out) id id).fr (show Fr (fun g=>x0 + 1≤g) _ W9 from ⟨HTS.out.os,HTS.out.tape,HTS.out.output,HTS.out.size,fun k hk hn=>HTS.out.block k (Nat.lt_of_not_le hn)⟩) (by have:=HMX.out;omega) (by omega)
      have hz9:=HTS.out.size
      have hz10:=HB6.out.size
      refine ⟨⟨_,cnt',A9,nn + 1,c9,_,rfl,Lib.hid (by have:=HNN.out;simp;omega),Lib.hid hfr9,Lib.hid hs,HG5,Lib.hid (by have:=HCN2.out;have:=HLT.out.1;simp;omega),Lib.hid ((HB5.out.trans (HB6.out.mono (by have:=HS5.out;omega))).trans (HTS.out.mono (by omega))),Lib.hid (by have:=HS5.out;omega)⟩,?_⟩
      rw [hfr9.left_eq,HLT.out.2]
      exact HLT.out.1
theorem coins_w (w:World) (p m n:Nat) (f:Wm) (h:WAt w p m n f) (hf:Wok f) (hn:n≤200000) :
    Calls Tryz.prog 13 #[.pointer (some ⟨p,0,none⟩)] w fun e w'=>∃ L,Ents f L∧e=.returned (sumV (L.map coinC))∧Below w.heap.size w w':=by
  have H:=Lib.hid (sum_c w p m n f h hf hn)
  clear h hf
  go_enter Tryz.func13,Tryz.ntmps13
  go_wp2_with (go_at_call 24;(with_reducible refine H.out.mono ?_);rintro e w' ⟨L,hL,rfl,hq⟩
               obtain ⟨a,ha⟩:∃ a,(Money.allS (L.map coinC)).1=a:=⟨_,rfl⟩
               obtain ⟨b,hb⟩:∃ b,((Money.allS (L.map coinC)).2 == 0)=b:=⟨_,rfl⟩
               have HV:=Lib.hid (show sumV (L.map coinC)=.tuple #[.int .u64 a,.bool b] by unfold sumV;rw [ha,hb])
               rw [HV.out]
               clear ha hb)
  go_ret2
  exact ⟨L,hL,by rw [HV.out];rfl,hq⟩
theorem items_w (w:World) (p m n:Nat) (f:Wm) (h:WAt w p m n f) (hf:Wok f) (hn:n≤200000) (t:Int) (ht:0≤t∧t≤4294967295) :
    Calls Tryz.prog 14 #[.pointer (some ⟨p,0,none⟩),.int .u32 t] w fun e w'=>(t=0→e=.returned (.tuple #[.int .u64 0,.bool true]))∧(t≠0→∃ L,Ents f L∧e=.returned (sumV (L.map (itemC t))))∧Below w.heap.size w w':=by
  have b1:=new_ (Below.refl w.heap.size w) (.cells #[.int .u32 t] 23)
  have X:=(Box.new w #[.int .u32 t] 23)
  have hz:w.heap.size < (w.alloc (.cells #[.int .u32 t] 23)).heap.size:=by simp
  have H:=Lib.hid (sum_i (w.alloc (.cells #[.int .u32 t] 23)) p m n f (h.later b1) hf hn w.heap.size t ht (X.cell 0) hz)
  have c0:=X.cell 0
  simp only [List.getElem?_toArray,List.getElem?_cons_zero] at c0
  have HB:=Lib.hid b1
  clear h hf b1 X ht hn
  by_cases h0:t=0
  · subst h0
    go_enter Tryz.func14,Tryz.ntmps14
    go_wp2
    go_ret2
    exact ⟨fun _=>rfl,fun h=>absurd rfl h,HB.out⟩
  · have H0:=Lib.hid h0
    have d0:(t == 0)=false:=by simp [h0]
    clear h0
    go_enter Tryz.func14,Tryz.ntmps14
    go_wp2_with (go_at_call 24;(with_reducible refine H.out.mono ?_);rintro e w' ⟨L,hL,rfl,hq⟩
                 obtain ⟨a,ha⟩:∃ a,(Money.allS (L.map (itemC t))).1=a:=⟨_,rfl⟩
                 obtain ⟨b,hb⟩:∃ b,((Money.allS (L.map (itemC t))).2 == 0)=b:=⟨_,rfl⟩
                 have HV:=Lib.hid (show sumV (L.map (itemC t))=.tuple #[.int .u64 a,.bool b] by unfold sumV;rw [ha,hb])
                 rw [HV.out]
                 clear ha hb)
    go_ret2
    exact ⟨fun h=>absurd h H0.out,fun _=>⟨L,hL,by rw [HV.out];rfl⟩,HB.out.trans (hq.mono HB.out.size)⟩
end Go.Proofs.YtabckmadpdchnaaGreat.Rule
namespace Go.Proofs.YtabckmadpdchnaaGreat.Rule
open Go.ChangeShapes Go.WideShapes Go.ChangeAt Go.RowKit Go.IntWalk Go.Proofs.Mem
def cOt (q:Ot):List Value:=[.int .u8 q.kd,.int .u32 q.wh,.int .u32 q.wm,.int .u32 q.wt,.int .u32 q.id,.int .u64 q.n,.int .u64 q.pr]
section
variable {H:Type} {enc:TypeId × Value→H} {W:World} {base:Nat} {spare:Nat→Bool} {held:Bool}
theorem one_keyF {n:Nat} {a0 a1 a2:Value} {o:Option (DataW H × List MemPlace)} (h:DataW.trod enc Tryz.prog W base spare held n 49 [a0,a1,a2]=o) (ho:o.isSome=true):∃ k a b,a0=.int .u8 k∧a1=.int .u32 a∧a2=.int .u32 b∧kok k a b:=by
  cases o with
  | none=>cases ho
  | some y=>
    obtain ⟨xs,n',_,_,_,hl,hg⟩:=DataW.trod_struct Tryz.underlying49 h
    have h0:=hg 0 _ rfl
    have h1:=hg 1 _ rfl
    have h2:=hg 2 _ rfl
    simp [c8,c32] at h0 h1 h2 hl
    obtain ⟨x0,rfl,w0⟩:=one_int Tryz.underlying5 h0 (some_at (by omega))
    obtain ⟨x1,rfl,w1⟩:=one_int Tryz.underlying23 h1 (some_at (by omega))
    obtain ⟨x2,rfl,w2⟩:=one_int Tryz.underlying23 h2 (some_at (by omega))
    exact ⟨x0,x1,x2,rfl,rfl,rfl,bounds_u8 w0,bounds_u32 w1,bounds_u32 w2⟩
theorem open_cellsF {r:Reach} {b0:Nat} {v:Value} {d:DataW H} {p:List MemPlace} (hv:Value.okWide Tryz.prog W r b0 30 v) (h:DataW.Trod enc Tryz.prog W 0 (fun _=>true) true 30 v d p):∃ xs:List Ce,SeenAt W W.heap.size v xs∧∀ x∈xs,x.Fit:=by
  refine open_SS Ce.cells Ce.Fit Tryz.underlying30 cCell (by decide) (fun cs n y hcs hf=>?_) hv h
  obtain ⟨a0,a1,a2,a3,a4,a5,rfl⟩:=list6 hcs
  obtain ⟨xs,n',_,_,_,hl,hg⟩:=DataW.trod_struct Tryz.underlying53 hf
  have h0:=hg 0 _ rfl
  have h1:=hg 1 _ rfl
  have h2:=hg 2 _ rfl
  simp [cKey,cVal,cBool] at h0 h1 h2 hl
  obtain ⟨k,a,b,rfl,rfl,rfl,hk⟩:=one_keyF h0 (some_at (by omega))
  obtain ⟨A,B,rfl,rfl,hA,hB⟩:=one_val h1 (some_at (by omega))
  obtain ⟨is,rfl⟩:=one_bool Tryz.underlying4 h2 (some_at (by omega))
  exact ⟨⟨k,a,b,A,B,is⟩,rfl,hk,hA,hB⟩
theorem open_ops {r:Reach} {b0:Nat} {v:Value} {d:DataW H} {p:List MemPlace} (hv:Value.okWide Tryz.prog W r b0 22 v) (h:DataW.Trod enc Tryz.prog W 0 (fun _=>true) true 22 v d p):∃ xs:List Ot,SS cOt 7 W W.heap.size v xs∧∀ x∈xs,x.Ok:=by
  refine open_SS cOt Ot.Ok Tryz.underlying22 cOp (by decide) (fun cs n y hcs hf=>?_) hv h
  obtain ⟨a0,a1,a2,a3,a4,a5,a6,rfl⟩:=list7 hcs
  obtain ⟨xs,n',_,_,_,hl,hg⟩:=DataW.trod_struct Tryz.underlying29 hf
  have h0:=hg 0 _ rfl
  have h1:=hg 1 _ rfl
  have h2:=hg 2 _ rfl
  have h3:=hg 3 _ rfl
  have h4:=hg 4 _ rfl
  have h5:=hg 5 _ rfl
  have h6:=hg 6 _ rfl
  simp [c8,c32,c64] at h0 h1 h2 h3 h4 h5 h6 hl
  obtain ⟨x0,rfl,w0⟩:=one_int Tryz.underlying5 h0 (some_at (by omega))
  obtain ⟨x1,rfl,w1⟩:=one_int Tryz.underlying23 h1 (some_at (by omega))
  obtain ⟨x2,rfl,w2⟩:=one_int Tryz.underlying23 h2 (some_at (by omega))
  obtain ⟨x3,rfl,w3⟩:=one_int Tryz.underlying23 h3 (some_at (by omega))
  obtain ⟨x4,rfl,w4⟩:=one_int Tryz.underlying23 h4 (some_at (by omega))
  obtain ⟨x5,rfl,w5⟩:=one_int Tryz.underlying27 h5 (some_at (by omega))
  obtain ⟨x6,rfl,w6⟩:=one_int Tryz.underlying27 h6 (some_at (by omega))
  exact ⟨⟨x0,x1,x2,x3,x4,x5,x6⟩,rfl,bounds_u8 w0,bounds_u32 w1,bounds_u32 w2,bounds_u32 w3,bounds_u32 w4,bounds_u64 w5,bounds_u64 w6⟩
end
theorem same_cells (w:World) (u v:Value) (xs:List Ce) (hu:SeenAt w w.heap.size u xs) (hv:SeenAt w w.heap.size v xs):Calls Tryz.prog 10 #[u,v] w fun e w'=>e=.returned (.bool true)∧Below w.heap.size w w':=by
  obtain ⟨A,c,rfl,h1,h2⟩:=hu.form
  obtain ⟨B,d,rfl,h3,h4⟩:=hv.form
  have HU:=Lib.hid hu
  have HV:=Lib.hid hv
  unfold maxLen at h2 h4
  clear hu hv
  go_enter Tryz.func10,Tryz.ntmps10
  go_wp2
  go_loopw [5] (fun i wr=>∃ j:Nat,j≤xs.length∧i=.int .i64 j∧Hid (Below w.heap.size w wr)) (fun i _=>xs.length - (intOf i).toNat)
  case atStart=>exact ⟨0,by omega,rfl,Lib.hid (Below.refl _ _)⟩
  case round=>
    obtain ⟨j,hj,rfl,HB⟩:=hrel
    by_cases hlt:j < xs.length
    · have d1:decide ((j:Int) < (xs.length:Int))=true:=by simp;omega
      have d2:decide (j < xs.length)=true:=by simp;omega
      obtain ⟨x,hx⟩:∃ x,xs[j]?=some x:=⟨_,List.getElem?_eq_getElem hlt⟩
      obtain ⟨b0,o0,rfl,hb0,hc0⟩:=HU.out.at_ hx
      obtain ⟨b1,o1,rfl,hb1,hc1⟩:=HV.out.at_ hx
      obtain ⟨y0,y1,y2,y3,y4,y5⟩:=cell_at (w:=wr) (fun t u hu=>(HB.out.cell (p:=⟨b0,o0 + j * 6 + t,none⟩) hb0).trans (hc0 t u hu))
      obtain ⟨z0,z1,z2,z3,z4,z5⟩:=cell_at (w:=wr) (fun t u hu=>(HB.out.cell (p:=⟨b1,o1 + j * 6 + t,none⟩) hb1).trans (hc1 t u hu))
      clear hc0 hc1 hx
      go_upto_region 6 with fail
      go_quiet (fail)
      go_wp2
      exact ⟨⟨j + 1,by omega,rfl,Lib.hid (below_drewN HB.out nq)⟩,by simp [intOf];omega⟩
    · have d1:decide ((j:Int) < (xs.length:Int))=false:=by simp;omega
      have d2:decide (j < xs.length)=false:=by simp;omega
      go_wp2
      go_ret
      exact ⟨rfl,HB.out⟩
def q1:Ot:=⟨1,1,0,0,0,0,0⟩
def q2:Ot:=⟨2,1,0,0,0,5,0⟩
def q3:Ot:=⟨6,1,0,0,0,2,0⟩
def f0:Wm:=fun _=>none
theorem ev1:evD f0 q1=([⟨1,1,0,0,0,false⟩],0,⟨1,0,0⟩):=by kernel_rfl
theorem ev2:evD (opF f0 q1) q2=([⟨1,1,0,5,0,false⟩],0,⟨5,0,0⟩):=by kernel_rfl
theorem ev3:evD (opF (opF f0 q1) q2) q3=([⟨1,1,0,3,0,false⟩,⟨2,1,0,2,0,false⟩],0,⟨3,2,0⟩):=by kernel_rfl
def f3:Wm:=opF (opF (opF f0 q1) q2) q3
def sumI:List Int→Int
  | []=>0
  | x :: l=>x + sumI l
theorem sumI_perm {l m:List Int} (h:l.Perm m):sumI l=sumI m:=by
  induction h with
  | nil=>rfl
  | cons x _ ih=>simp only [sumI,ih]
  | swap x y l=>simp only [sumI];omega
  | trans _ _ h1 h2=>rw [h1,h2]
theorem sumI_pos:∀ {l:List Int},(∀ x∈l,0≤x)→0≤sumI l
  | [],_=>Int.le_refl _
  | x :: l,h=>by
    have:=h x (by simp)
    have:=sumI_pos (l:=l) (fun y hy=>h y (by simp [hy]))
    simp only [sumI]
    omega
theorem allF_sum:∀ {l:List Int} {s:Int},(∀ x∈l,0≤x)→0≤s→s≤4611686018427387904→(s + sumI l≤4611686018427387904→Money.allF l s=(s + sumI l,0))∧(¬ s + sumI l≤4611686018427387904→Money.allF l s=(0,30))
  | [],s,_,h0,h1=>by
    refine ⟨fun _=>?_,fun h=>absurd ?_ h⟩
    · show (s,(0:Int))=(s + 0,0)
      rw [Int.add_zero]
    · show s + 0≤_
      omega
  | x :: l,s,h,h0,h1=>by
    have hx:=h x (by simp)
    have hl:=fun y (hy:y∈l)=>h y (by simp [hy])
    have hp:=sumI_pos hl
    have e:sumI (x :: l)=x + sumI l:=rfl
    rw [e]
    by_cases hc:4611686018427387904 < s + x
    · have ha:Money.addS s x=(0,30):=if_pos (.inr (.inr hc))
      have hf:Money.allF (x :: l) s=(0,30):=by unfold Money.allF;rw [ha];rfl
      exact ⟨fun h=>by omega,fun _=>hf⟩
    · have ha:Money.addS s x=(s + x,0):=if_neg (by omega)
      have hf:Money.allF (x :: l) s=Money.allF l (s + x):=by
        show (if (Money.addS s x).2=0 then Money.allF l (Money.addS s x).1 else (0,(Money.addS s x).2))=_
        rw [ha];rfl
      have ih:=allF_sum hl (s:=s + x) (by omega) (by omega)
      rw [hf,← Int.add_assoc]
      exact ih
theorem allS_ok {l:List Int} (h:∀ x∈l,0≤x) (hs:sumI l≤4611686018427387904):Money.allS l=(sumI l,0):=by
  have:=(allF_sum h (Int.le_refl 0) (by decide)).1 (by omega)
  rw [Int.zero_add] at this
  exact this
theorem sumV_ok {l:List Int} (h:∀ x∈l,0≤x) (hs:sumI l≤4611686018427387904):sumV l=.tuple #[.int .u64 (sumI l),.bool true]:=by
  unfold sumV
  rw [allS_ok h hs]
  rfl
theorem Ents.nodup {f:Wm} {l:List Ce} (h:Ents f l):l.Nodup:=h.nd.imp (fun {x y} hn e=>hn (by rw [e]))
theorem Ents.perm {f:Wm} {l m:List Ce} (h:Ents f l) (k:Ents f m):l.Perm m:=(List.perm_ext_iff_of_nodup h.nodup k.nodup).2 (fun c=>(h.mem c).trans (k.mem c).symm)
theorem f3_ents:Ents f3 [⟨1,1,0,3,0,true⟩,⟨2,1,0,2,0,true⟩]:=by
  have e:f3=fun y=>if y=⟨2,1,0⟩ then some (2,0) else if y=⟨1,1,0⟩ then some (3,0) else none:=by
    funext y
    show putsF (putsF (putsF f0 (evD f0 q1).1) (evD (opF f0 q1) q2).1) (evD (opF (opF f0 q1) q2) q3).1 y=_
    rw [ev1,ev2,ev3]
    simp only [putsF,List.foldl,putF,f0]
    repeat' split
    all_goals first | rfl | simp_all
  refine ⟨fun c=>?_,by simp [Ce.ky]⟩
  rw [e]
  obtain ⟨k,a,b,A,B,is⟩:=c
  simp only [List.mem_cons,Ce.mk.injEq,List.not_mem_nil,or_false,Ce.ky]
  constructor
  · rintro (⟨rfl,rfl,rfl,rfl,rfl,rfl⟩ | ⟨rfl,rfl,rfl,rfl,rfl,rfl⟩)
    · exact ⟨rfl,by decide⟩
    · exact ⟨rfl,by decide⟩
  · rintro ⟨rfl,h⟩
    change (if (⟨k,a,b⟩:Ky)=⟨2,1,0⟩ then some (2,0) else if (⟨k,a,b⟩:Ky)=⟨1,1,0⟩ then some (3,0) else none)=some (A,B) at h
    by_cases h1:(⟨k,a,b⟩:Ky)=⟨2,1,0⟩
    · rw [if_pos h1] at h
      simp at h h1
      exact .inr ⟨h1.1,h1.2.1,h1.2.2,h.1.symm,h.2.symm,rfl⟩
    · rw [if_neg h1] at h
      by_cases h2:(⟨k,a,b⟩:Ky)=⟨1,1,0⟩
      · rw [if_pos h2] at h
        simp at h h2
        exact .inl ⟨h2.1,h2.2.1,h2.2.2,h.1.symm,h.2.symm,rfl⟩
      · rw [if_neg h2] at h
        cases h
theorem f3_coins {l:List Ce} (h:Ents f3 l):sumV (l.map coinC)=.tuple #[.int .u64 5,.bool true]:=by
  have hp:=(h.perm f3_ents).map coinC
  have e:=sumI_perm hp
  rw [show sumI (List.map coinC [⟨1,1,0,3,0,true⟩,⟨2,1,0,2,0,true⟩])=5 from by decide] at e
  rw [sumV_ok (fun x hx=>?_) (by omega),e]
  have:=hp.mem_iff.1 hx
  simp at this
  rcases this with rfl | rfl <;> decide
theorem f3_get:see f3 1 1 0=⟨1,1,0,3,0,true⟩:=by
  have:=(f3_ents.mem ⟨1,1,0,3,0,true⟩).1 (by simp)
  unfold see
  rw [show f3 ⟨1,1,0⟩=some (3,0) from this.2]
  rfl
theorem q_ok (q:Ot) (h:q=q1∨q=q2∨q=q3):q.Ok:=by
  rcases h with rfl | rfl | rfl <;> exact ⟨by decide,by decide,by decide,by decide,by decide,by decide,by decide⟩
theorem known_w (w:World):Calls Tryz.prog 6 #[] w fun e w'=>e=.returned (.bool true)∧Below w.heap.size w w':=by
  have k1:Wok f0:=Wok.none
  have k2:=k1.op (q_ok q1 (.inl rfl))
  have k3:=k2.op (q_ok q2 (.inr (.inl rfl)))
  have k4:=k3.op (q_ok q3 (.inr (.inr rfl)))
  have D1:=Lib.hid (fun W p m n (h:WAt W p m n f0) hn=>show Calls Tryz.prog 9 #[.pointer (some ⟨p,0,none⟩),.agg #[.int .u8 1,.int .u32 1,.int .u32 0,.int .u32 0,.int .u32 0,.int .u64 0,.int .u64 0]] W fun e w'=>e=.returned (.agg #[.int .u16 0,.int .u64 1,.int .u64 0,.int .u64 0])∧WAt w' p m (n + 9) (opF f0 q1)∧Fr (fun g=>g=m) W w' from by
    have:=do_w W p m n f0 h k1 q1 (q_ok q1 (.inl rfl)) hn
    rw [ev1] at this
    exact this)
  have D2:=Lib.hid (fun W p m n (h:WAt W p m n (opF f0 q1)) hn=>show Calls Tryz.prog 9 #[.pointer (some ⟨p,0,none⟩),.agg #[.int .u8 2,.int .u32 1,.int .u32 0,.int .u32 0,.int .u32 0,.int .u64 5,.int .u64 0]] W fun e w'=>e=.returned (.agg #[.int .u16 0,.int .u64 5,.int .u64 0,.int .u64 0])∧WAt w' p m (n + 9) (opF (opF f0 q1) q2)∧Fr (fun g=>g=m) W w' from by
    have:=do_w W p m n _ h k2 q2 (q_ok q2 (.inr (.inl rfl))) hn
    rw [ev2] at this
    exact this)
  have D3:=Lib.hid (fun W p m n (h:WAt W p m n (opF (opF f0 q1) q2)) hn=>show Calls Tryz.prog 9 #[.pointer (some ⟨p,0,none⟩),.agg #[.int .u8 6,.int .u32 1,.int .u32 0,.int .u32 0,.int .u32 0,.int .u64 2,.int .u64 0]] W fun e w'=>e=.returned (.agg #[.int .u16 0,.int .u64 3,.int .u64 2,.int .u64 0])∧WAt w' p m (n + 9) f3∧Fr (fun g=>g=m) W w' from by
    have:=do_w W p m n _ h k3 q3 (q_ok q3 (.inr (.inr rfl))) hn
    rw [ev3] at this
    exact this)
  have GET:=Lib.hid (fun W p m n (h:WAt W p m n f3)=>show Calls Tryz.prog 16 #[.pointer (some ⟨p,0,none⟩),.agg #[.int .u8 1,.int .u32 1,.int .u32 0]] W fun e w'=>e=.returned (.tuple #[.agg #[.int .u64 3,.int .u64 0],.bool true])∧Below W.heap.size W w' from by
    have:=get_any W p m n f3 h 1 1 0 (by unfold kok;omega)
    rw [f3_get] at this
    exact this)
  have CO:=Lib.hid (fun W p m n (h:WAt W p m n f3) hn=>show Calls Tryz.prog 13 #[.pointer (some ⟨p,0,none⟩)] W fun e w'=>e=.returned (.tuple #[.int .u64 5,.bool true])∧Below W.heap.size W w' from
    (coins_w W p m n f3 h k4 hn).mono fun e w' ⟨L,hL,he,hb⟩=>⟨by rw [he,f3_coins hL],hb⟩)
  have NW:=Lib.hid (new_w w)
  clear k1 k2 k3 k4
  go_enter Tryz.func6,Tryz.ntmps6
  go_wp2_with (first
    | (go_at_call 7;(with_reducible refine NW.out.mono ?_);rintro e w1 ⟨p,m,rfl,hp,hm,h1,hb1⟩;have HW1:=Lib.hid h1;have HB1:=Lib.hid hb1;have HP:=Lib.hid hp;have HM:=Lib.hid hm;clear h1 hb1 hp hm)
    | (go_at_call 9;(with_reducible refine (D1.out _ p m 0 HW1.out (by decide)).mono ?_);rintro e w2 ⟨rfl,h2,hf2⟩
       have HF2:=Lib.hid hf2
       have HL2:=Lib.hid h2.fm.lt
       have HW2:=Lib.hid (h2.later (new_ (Below.refl _ _) (.cells #[.int .u16 0,.int .u64 1,.int .u64 0,.int .u64 0] 35)))
       have R2:=Lib.hid (Box.new w2 #[.int .u16 0,.int .u64 1,.int .u64 0,.int .u64 0] 35)
       clear h2 hf2)
    | (go_at_call 9;(with_reducible refine (D2.out _ p m 9 HW2.out (by decide)).mono ?_);rintro e w3 ⟨rfl,h3,hf3⟩
       have HF3:=Lib.hid hf3
       have HL3:=Lib.hid h3.fm.lt
       have HW3:=Lib.hid (h3.later (new_ (Below.refl _ _) (.cells #[.int .u16 0,.int .u64 5,.int .u64 0,.int .u64 0] 35)))
       have R3:=Lib.hid (Box.new w3 #[.int .u16 0,.int .u64 5,.int .u64 0,.int .u64 0] 35)
       clear h3 hf3)
    | (go_at_call 9;(with_reducible refine (D3.out _ p m 18 HW3.out (by decide)).mono ?_);rintro e w4 ⟨rfl,h4,hf4⟩
       have HF4:=Lib.hid hf4
       have HL4:=Lib.hid h4.fm.lt
       have HW4:=Lib.hid (h4.later (new_ (Below.refl _ _) (.cells #[.int .u16 0,.int .u64 3,.int .u64 2,.int .u64 0] 35)))
       have R4:=Lib.hid (Box.new w4 #[.int .u16 0,.int .u64 3,.int .u64 2,.int .u64 0] 35)
       clear h4 hf4)
    | (go_at_call 16;(with_reducible refine (GET.out _ p m 27 HW4.out).mono ?_);rintro e w5 ⟨rfl,h5⟩
       have HB5:=Lib.hid (h5.trans ((new_ (Below.refl _ _) (.cells #[.int .u64 3,.int .u64 0] 51)).mono h5.size))
       have V5:=Lib.hid (Box.new w5 #[.int .u64 3,.int .u64 0] 51)
       clear h5)
    | (go_at_call 13;(with_reducible refine (CO.out _ p m 27 (HW4.out.later HB5.out) (by decide)).mono ?_);rintro e w6 ⟨rfl,h6⟩
       have v6:=V5.out.later h6
       have t2:=((((((R2.out.fr HF3.out (fun e=>by have:=HL2.out;omega)).alloc (.cells #[.int .u16 0,.int .u64 5,.int .u64 0,.int .u64 0] 35)).fr HF4.out (fun e=>by have:=HL2.out;omega)).alloc (.cells #[.int .u16 0,.int .u64 3,.int .u64 2,.int .u64 0] 35)).later HB5.out).later h6)
       have t3:=((((R3.out.fr HF4.out (fun e=>by have:=HL3.out;omega)).alloc (.cells #[.int .u16 0,.int .u64 3,.int .u64 2,.int .u64 0] 35)).later HB5.out).later h6)
       have t4:=(R4.out.later HB5.out).later h6
       have c2:=t2.cell
       have c3:=t3.cell
       have c4:=t4.cell
       have c6:=v6.cell
       have HB6:=Lib.hid h6
       clear t2 t3 t4 v6 h6))
  go_ret
  have hm:=HM.out
  have b1:=HB1.out
  have b2:=b1.trans (HF2.out.to_below (B:=w.heap.size) (fun k e=>by omega) b1.size)
  have b3:=(new_ b2 (.cells #[.int .u16 0,.int .u64 1,.int .u64 0,.int .u64 0] 35))
  have b4:=b3.trans (HF3.out.to_below (B:=w.heap.size) (fun k e=>by omega) b3.size)
  have b5:=(new_ b4 (.cells #[.int .u16 0,.int .u64 5,.int .u64 0,.int .u64 0] 35))
  have b6:=b5.trans (HF4.out.to_below (B:=w.heap.size) (fun k e=>by omega) b5.size)
  have b7:=(new_ b6 (.cells #[.int .u16 0,.int .u64 3,.int .u64 2,.int .u64 0] 35))
  have b8:=b7.trans (HB5.out.mono b7.size)
  have b9:=b8.trans (HB6.out.mono b8.size)
  exact ⟨rfl,by first | exact b9 | exact below_drewN b9 _ | exact Below.drew b9⟩
end Go.Proofs.YtabckmadpdchnaaGreat.Rule
namespace Go.Proofs.YtabckmadpdchnaaGreat.Rule
open Go.ChangeShapes Go.WideShapes Go.ChangeAt Go.RowKit Go.IntWalk Go.Proofs.Mem
theorem foldl_far {y:Ky}:∀ (l:List Ce) (f:Wm),(∀ c∈l,c.ky≠y)→l.foldl cF f y=f y
  | [],f,_=>rfl
  | c :: l,f,h=>by
    rw [List.foldl_cons,foldl_far l _ (fun x hx=>h x (by simp [hx]))]
    unfold cF
    split
    · show (if y=c.ky then _ else f y)=f y
      rw [if_neg (fun e=>h c (by simp) e.symm)]
    · rfl
theorem foldl_at {y:Ky}:∀ (l:List Ce) (f:Wm) (c:Ce),c∈l→l.Pairwise (fun x y=>x.ky≠y.ky)→c.is=true→c.ky=y→l.foldl cF f y=some (c.A,c.B)
  | [],_,c,h,_,_,_=>by cases h
  | d :: l,f,c,h,hp,hi,hk=>by
    rw [List.pairwise_cons] at hp
    rw [List.foldl_cons]
    rcases List.mem_cons.1 h with e | h1
    · subst e
      rw [foldl_far l _ (fun x hx e=>hp.1 x hx (by rw [hk,e]))]
      unfold cF
      rw [if_pos hi]
      show (if y=c.ky then _ else f y)=_
      rw [if_pos hk.symm]
      rfl
    · exact foldl_at l _ c h1 hp.2 hi hk
theorem Told.nd {f:Wm} {ks:List Ce} (h:Told f ks):ks.Pairwise (fun x y=>x.ky≠y.ky):=h.srt.imp (fun {x y} (hn:klt x.ky y.ky) (e:x.ky=y.ky)=>klt_irrefl y.ky (by rw [e] at hn;exact hn))
theorem Told.of {f:Wm} {ks:List Ce} (h:Told f ks):ofF ks=f:=by
  funext y
  unfold ofF
  cases e:f y with
  | none=>
    rw [foldl_far]
    intro c hc hk
    have:=((h.mem c).1 hc).2
    rw [hk,e] at this
    cases this
  | some v=>
    have hm:=(h.mem ⟨y.k,y.a,y.b,v.1,v.2,true⟩).2 ⟨rfl,e⟩
    exact foldl_at (y:=y) ks _ ⟨y.k,y.a,y.b,v.1,v.2,true⟩ hm h.nd rfl rfl
theorem Told.fit {w:World} {p m n:Nat} {f:Wm} {ks:List Ce} (h:Told f ks) (hw:WAt w p m n f) (hf:Wok f):∀ c∈ks,c.Fit:=by
  intro c hc
  have h1:=((h.mem c).1 hc).2
  have h2:=FMok hw.fm h1
  have h3:=hf _ _ h1
  exact ⟨⟨bounds_u8 h2.1,bounds_u32 h2.2.1,bounds_u32 h2.2.2⟩,h3.1,h3.2⟩
structure Two (w W:World) (p m n p' m' n':Nat) (f g:Wm):Prop where
  a:WAt W p m n f
  b:WAt W p' m' n' g
  bel:Below w.heap.size w W
  m0:w.heap.size≤m
  m1:w.heap.size≤m'
  mm:m≠m'
  mp:m≠p'
  pm:p≠m'
theorem Two.later {w W W':World} {p m n p' m' n':Nat} {f g:Wm} (h:Two w W p m n p' m' n' f g) (hb:Below W.heap.size W W'):Two w W' p m n p' m' n' f g:=
  ⟨h.a.later hb,h.b.later hb,h.bel.trans (hb.mono h.bel.size),h.m0,h.m1,h.mm,h.mp,h.pm⟩
theorem Two.left {w W W':World} {p m n p' m' n' n2:Nat} {f g f2:Wm} (h:Two w W p m n p' m' n' f g) (ha:WAt W' p m n2 f2) (hf:Fr (fun x=>x=m) W W'):Two w W' p m n2 p' m' n' f2 g:=
  ⟨ha,h.b.fr hf (fun e=>h.mp e.symm) (fun e=>h.mm e.symm),h.bel.trans (hf.to_below (fun k e=>by rw [e];exact h.m0) h.bel.size),h.m0,h.m1,h.mm,h.mp,h.pm⟩
theorem Two.right {w W W':World} {p m n p' m' n' n2:Nat} {f g g2:Wm} (h:Two w W p m n p' m' n' f g) (hb:WAt W' p' m' n2 g2) (hf:Fr (fun x=>x=m') W W'):Two w W' p m n p' m' n2 f g2:=
  ⟨h.a.fr hf h.pm h.mm,hb,h.bel.trans (hf.to_below (fun k e=>by rw [e];exact h.m1) h.bel.size),h.m0,h.m1,h.mm,h.mp,h.pm⟩
theorem op_cells {w:World} {b off j:Nat} {q:Ot} (h:∀ t u,(cOt q)[t]?=some u→w.cell? ⟨b,off + j * 7 + t,none⟩=some u) :
    w.cell? ⟨b,off + j * 7,none⟩=some (.int .u8 q.kd)∧w.cell? ⟨b,off + j * 7 + 1,none⟩=some (.int .u32 q.wh)∧w.cell? ⟨b,off + j * 7 + 2,none⟩=some (.int .u32 q.wm)∧w.cell? ⟨b,off + j * 7 + 3,none⟩=some (.int .u32 q.wt)∧w.cell? ⟨b,off + j * 7 + 4,none⟩=some (.int .u32 q.id)∧w.cell? ⟨b,off + j * 7 + 5,none⟩=some (.int .u64 q.n)∧w.cell? ⟨b,off + j * 7 + 6,none⟩=some (.int .u64 q.pr):=
  ⟨h 0 _ rfl,h 1 _ rfl,h 2 _ rfl,h 3 _ rfl,h 4 _ rfl,h 5 _ rfl,h 6 _ rfl⟩
theorem do_q (w:World) (p m n:Nat) (f:Wm) (h:WAt w p m n f) (hf:Wok f) (q:Ot) (hq:q.Ok) (hn:n≤100000) :
    Calls Tryz.prog 9 #[.pointer (some ⟨p,0,none⟩),.agg #[.int .u8 q.kd,.int .u32 q.wh,.int .u32 q.wm,.int .u32 q.wt,.int .u32 q.id,.int .u64 q.n,.int .u64 q.pr]] w fun e w'=>e=.returned (.agg #[.int .u16 (evD f q).2.1,.int .u64 (evD f q).2.2.A,.int .u64 (evD f q).2.2.B,.int .u64 (evD f q).2.2.C])∧WAt w' p m (n + 9) (opF f q)∧Fr (fun g=>g=m) w w':=do_w w p m n f h hf q hq hn
end Go.Proofs.YtabckmadpdchnaaGreat.Rule
