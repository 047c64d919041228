/- The law manciplelaw22.ModelKeeps returns true whatever it is called with, and what it was called with reads as it did. No condition. -/
import Derived.Test.YtabckmadpdchnaaGreatLaw
import Derived.Test.YtabckmadpdchnaaGreatMoF
set_option linter.unusedVariables false
set_option linter.unusedSimpArgs false
set_option maxRecDepth 100000
set_option maxHeartbeats 8000000
namespace Go.Proofs.YtabckmadpdchnaaGreat.LModelKeeps
open Go.ChangeShapes Go.WideShapes Go.ChangeAt Go.RowKit Go.IntWalk Go.Proofs.Mem Law
open Go.Proofs.YtabckmadpdchnaaGreat.Rule
theorem zz {p:Prop} (h:p):Hid p:=Lib.hid h
theorem walk (w:World) (l:Value) (xl:List Rule.Ot) (hl:SS Rule.cOt 7 w w.heap.size l xl) (bl:∀ o∈xl,Rule.Ot.Ok o) (item:Int) (hitem:0≤item∧item≤4294967295) :
    Calls Tryz.prog 3 #[l,.int .u32 item] w fun e w'=>e=.returned (.bool true)∧Below w.heap.size w w':=by
  have KN:=zz (fun W=>known_w W)
  have BL:=zz bl
  have HL:=zz hl
  have HT:=zz hitem
  obtain ⟨A2,c2,rfl,hl3,hl4⟩:=hl.form
  clear bl hl hitem
  by_cases h80:80 < xl.length
  · have d2:decide (80 < (xl.length:Int))=true:=decide_eq_true (by omega)
    have d2':decide (80 < xl.length)=true:=decide_eq_true h80
    go_enter Tryz.func3,Tryz.ntmps3
    go_wp2_with (go_at_call 6;(with_reducible refine (KN.out _).mono ?_);rintro e w1 ⟨rfl,hb1⟩)
    go_ret
    exact ⟨rfl,hb1⟩
  have d2:decide (80 < (xl.length:Int))=false:=decide_eq_false (by omega)
  have d2':decide (80 < xl.length)=false:=decide_eq_false h80
  go_enter Tryz.func3,Tryz.ntmps3
  go_wp2_with (first
    | (go_at_call 6;(with_reducible refine (KN.out _).mono ?_);rintro e w1 ⟨rfl,hb1⟩
       have HB1:=zz hb1
       clear hb1)
    | (go_at_call 7;(with_reducible refine (new_w _).mono ?_);rintro e w2 ⟨p,m,rfl,hp,hm,hw2,hb2⟩
       have HW2:=zz hw2
       have HB2:=zz (HB1.out.trans (hb2.mono HB1.out.size))
       have HM:=zz (show w.heap.size≤m from Nat.le_trans HB1.out.size hm)
       clear hp hm hw2 hb2))
  clear d2 d2'
  go_loopw [6,7,8] (fun c it i wr=>∃ (j:Nat) (f:Wm) (C I:Int),j≤xl.length∧c=.int .u64 C∧it=.int .u64 I∧i=.int .i64 j∧Hid (Kp f item j C I)∧Hid (WAt wr p m (9 * j) f)∧Hid (Below w.heap.size w wr)) (fun _ _ i _=>xl.length - (intOf i).toNat)
  case atStart=>exact ⟨0,_,0,0,Nat.zero_le _,rfl,rfl,rfl,zz (Kp.start item),HW2,HB2⟩
  case round=>
    clear HW2 HB2
    obtain ⟨j,f,C,I,hj,rfl,rfl,rfl,HK,HW,HB⟩:=hrel
    by_cases hlt:j < xl.length
    · obtain ⟨q,hq⟩:∃ x,xl[j]?=some x:=⟨_,List.getElem?_eq_getElem hlt⟩
      have d1:decide ((j:Int) < (xl.length:Int))=true:=by simp;omega
      have q1:decide (j < xl.length)=true:=by simp;omega
      obtain ⟨b,off,rfl,hb,hat⟩:=HL.out.at_ hq
      obtain ⟨y0,y1,y2,y3,y4,y5,y6⟩:=op_cells (w:=wr) (fun t u hu=>(HB.out.cell (p:=⟨b,off + j * 7 + t,none⟩) hb).trans (hat t u hu))
      have HQ:=zz (BL.out q (List.mem_of_getElem? hq))
      have HJ:=zz (show j < xl.length∧xl.length≤80 by omega)
      clear hat hb hq
      go_upto_region 11 with fail
      obtain ⟨W0,hW0⟩:∃ W,wr.alloc (.cells #[.int .u8 q.kd,.int .u32 q.wh,.int .u32 q.wm,.int .u32 q.wt,.int .u32 q.id,.int .u64 q.n,.int .u64 q.pr] 29)=W:=⟨_,rfl⟩
      have X:=Box.new wr #[.int .u8 q.kd,.int .u32 q.wh,.int .u32 q.wm,.int .u32 q.wt,.int .u32 q.id,.int .u64 q.n,.int .u64 q.pr] 29
      have hb0:Below wr.heap.size wr W0:=by rw [← hW0];exact new_ (Below.refl _ _) _
      rw [hW0] at X ⊢
      obtain ⟨g,hg⟩:∃ g,wr.heap.size=g:=⟨_,rfl⟩
      rw [hg] at X
      have HG:=zz (show m < g∧p < g∧w.heap.size≤g from by rw [← hg];exact ⟨HW.out.fm.lt,HW.out.box.lt,HB.out.size⟩)
      have HW0:=zz (HW.out.later hb0)
      have HB0:=zz (HB.out.trans (hb0.mono HB.out.size))
      have XX:=zz X
      have o:=X.cell
      have of:=X.frozen
      clear hb0 X hW0 y0 y1 y2 y3 y4 y5 y6 HW HB
      by_cases hN:1125899906842624 < q.n
      case' pos=>
        have dn:decide (1125899906842624 < q.n)=true:=decide_eq_true hN
        go_upto_region 13 with fail
        obtain ⟨W1,q',hW1,HQ',HN',XQ,HW1,HB1'⟩:∃ (W1:World) (q':Ot),W0.setCell ⟨g,5,none⟩ (.int .u64 (q.n % 1125899906842624))=W1∧Hid q'.Ok∧Hid (q'.n≤1125899906842624)∧Hid (Box W1 g #[.int .u8 q'.kd,.int .u32 q'.wh,.int .u32 q'.wm,.int .u32 q'.wt,.int .u32 q'.id,.int .u64 q'.n,.int .u64 q'.pr] 29)∧Hid (WAt W1 p m (9 * j) f)∧Hid (Below w.heap.size w W1):=by
          have hn:=HQ.out.n
          have hf:Fr (fun k=>k=g) W0 (W0.setCell ⟨g,5,none⟩ (.int .u64 (q.n % 1125899906842624))):=(Fr.refl (fun k=>k=g) W0).setCell (p:=⟨g,5,none⟩) (.inl rfl) _
          have hG:=HG.out
          refine ⟨_,⟨q.kd,q.wh,q.wm,q.wt,q.id,q.n % 1125899906842624,q.pr⟩,rfl,zz ⟨HQ.out.kd,HQ.out.wh,HQ.out.wm,HQ.out.wt,HQ.out.id,?_,HQ.out.pr⟩,zz ?_,zz (XX.out.set_ 5 _),zz (HW0.out.fr hf (by omega) (by omega)),zz (HB0.out.setCell (p:=⟨g,5,none⟩) hG.2.2 _)⟩
          · dsimp only;omega
          · dsimp only;omega
        try rw [hW1]
      case' neg=>
        have dn:decide (1125899906842624 < q.n)=false:=decide_eq_false hN
        go_upto_region 13 with fail
        obtain ⟨W1,q',hW1,HQ',HN',XQ,HW1,HB1'⟩:∃ (W1:World) (q':Ot),W0=W1∧Hid q'.Ok∧Hid (q'.n≤1125899906842624)∧Hid (Box W1 g #[.int .u8 q'.kd,.int .u32 q'.wh,.int .u32 q'.wm,.int .u32 q'.wt,.int .u32 q'.id,.int .u64 q'.n,.int .u64 q'.pr] 29)∧Hid (WAt W1 p m (9 * j) f)∧Hid (Below w.heap.size w W1):=⟨_,q,rfl,HQ,zz (by omega),XX,HW0,HB0⟩
        try rw [hW1]
      all_goals
        try rw [hg]
        clear hN dn hW1 o of XX HW0 HB0 hg HQ
        have o:=XQ.out.cell
        obtain ⟨d,hd⟩:∃ d,evD f q'=d:=⟨_,rfl⟩
        obtain ⟨dl,de,da,db,dc⟩:=d
        have AL:=zz (all_any W1 p m _ f HW1.out (by have:=HJ.out;omega))
        have DQ:=zz (fun W (h:WAt W p m (9 * j) f)=>(by have:=do_q W p m _ f h HK.out.ok q' HQ'.out (by have:=HJ.out;omega);rw [hd] at this;exact this:Calls Tryz.prog 9 #[.pointer (some ⟨p,0,none⟩),.agg #[.int .u8 q'.kd,.int .u32 q'.wh,.int .u32 q'.wm,.int .u32 q'.wt,.int .u32 q'.id,.int .u64 q'.n,.int .u64 q'.pr]] W fun e w'=>e=.returned (.agg #[.int .u16 de,.int .u64 da,.int .u64 db,.int .u64 dc])∧WAt w' p m (9 * j + 9) (opF f q')∧Fr (fun g=>g=m) W w'))
        have HD:=zz hd
        clear hd
        have e9:9 * (j + 1)=9 * j + 9:=by omega
        by_cases he:de=0
        case neg=>
          obtain ⟨hop,hk2⟩:=HK.out.stay HQ'.out (by rw [HD.out];exact he)
          rw [hop] at DQ
          have HK2:=zz hk2
          have de0:(de == 0)=false:=by simp [he]
          have de1:decide (de=0)=false:=by simp [he]
          have HDE:=zz he
          clear hop hk2 he
          go_wp2_with (first
            | (go_at_call 8;(with_reducible refine AL.out.mono ?_);rintro e w3 ⟨v3,ks,rfl,hr3,ht3,_,hb3⟩
               have HR3:=zz hr3
               have HT3:=zz ht3
               have HW3:=zz (HW1.out.later hb3)
               have HB3:=zz (HB1'.out.trans (hb3.mono HB1'.out.size))
               have o3:=(XQ.out.later hb3).cell
               have HM3:=zz (HW1.out.fm.lt)
               clear hr3 ht3 hb3 o AL))
          (with_reducible refine (DQ.out _ HW3.out).mono ?_)
          rintro e w4 ⟨rfl,h4,f4⟩
          have HW4:=zz (h4.later (new_ (Below.refl _ _) (.cells #[.int .u16 de,.int .u64 da,.int .u64 db,.int .u64 dc] 35)))
          have HB4:=zz (new_ (HB3.out.trans (f4.to_below (B:=w.heap.size) (fun k e=>by rw [e];exact HM.out) HB3.out.size)) (.cells #[.int .u16 de,.int .u64 da,.int .u64 db,.int .u64 dc] 35))
          have HR4:=zz ((HR3.out.fr f4 (fun k h1 h2 e=>by have:=HM3.out;have e2:k=m:=e;omega)).fr (Fr.of_below (new_ (Below.refl _ _) (.cells #[.int .u16 de,.int .u64 da,.int .u64 db,.int .u64 dc] 35)):Fr (fun _=>False) w4 _) (fun _ _ _ h=>h))
          have AL2:=zz (all_any _ p m _ f HW4.out (by have:=HJ.out;omega))
          clear h4 f4 o3
          go_wp2_with (first
            | (go_at_call 8;(with_reducible refine AL2.out.mono ?_);rintro e w5 ⟨v5,ks5,rfl,hr5,ht5,_,hb5⟩
               obtain rfl:=ht5.uniq HT3.out
               have SC:=zz (same_cells w5 v3 v5 ks5 ((HR4.out.ss.below hb5).more hb5.size) hr5.ss)
               have HW5:=zz (HW4.out.later hb5)
               have HB5:=zz (HB4.out.trans (hb5.mono HB4.out.size))
               clear hr5 ht5 hb5)
            | (go_at_call 10;(with_reducible refine SC.out.mono ?_);rintro e w6 ⟨rfl,hb6⟩
               have HW6:=zz (HW5.out.later hb6)
               have HB6:=zz (HB5.out.trans (hb6.mono HB5.out.size))
               clear hb6))
          exact ⟨⟨j + 1,f,C,I,HJ.out.1,rfl,rfl,rfl,HK2,by rw [e9];exact HW6,HB6⟩,by have:=HJ.out.1;simp [intOf];omega⟩
        case pos=>
          subst he
          obtain ⟨C',hC'⟩:∃ x,C + cC q'=x:=⟨_,rfl⟩
          obtain ⟨I',hI'⟩:∃ x,(if 0 < item then I + cI item q' else 0)=x:=⟨_,rfl⟩
          obtain ⟨fN,hfN⟩:∃ x,opF f q'=x:=⟨_,rfl⟩
          obtain ⟨n0,hc0⟩:∃ x,ifn (decide (q'.kd=2)) q'.n=x:=⟨_,rfl⟩
          obtain ⟨n1,hc1⟩:∃ x,ifn (decide (q'.kd=3)) q'.n=x:=⟨_,rfl⟩
          obtain ⟨n2,hc2⟩:∃ x,ifn (decide (q'.kd=4) && (decide (q'.wt=item) && decide (0 < item))) q'.n=x:=⟨_,rfl⟩
          obtain ⟨n3,hc3⟩:∃ x,ifn (decide (q'.kd=5) && (decide (q'.wt=item) && decide (0 < item))) q'.n=x:=⟨_,rfl⟩
          have hk2:=HK.out.step HQ'.out HN'.out HT.out.1 (by rw [HD.out])
          rw [hC',hI'] at hk2
          have hnu:=HK.out.nums (by have:=HJ.out;omega) HQ'.out HN'.out HT.out.1 hk2 hC'.symm hI'.symm hc0 hc1 hc2 hc3
          rw [hfN] at hk2 DQ
          have HK2:=zz hk2
          have HNU:=zz hnu
          have CH:=zz (fun W=>(by have:=change_law q' item W;rw [hc0,hc1,hc2,hc3] at this;exact this:Calls Tryz.prog 11 #[.agg #[.int .u8 q'.kd,.int .u32 q'.wh,.int .u32 q'.wm,.int .u32 q'.wt,.int .u32 q'.id,.int .u64 q'.n,.int .u64 q'.pr],.int .u32 item] W fun e w'=>e=.returned (.tuple #[.agg #[.int .u64 n0,.int .u64 n1],.agg #[.int .u64 n2,.int .u64 n3]])∧Below W.heap.size W w'))
          have CRA:=zz (fun W=>crafted_any q'.wt q'.n item HQ'.out.n W)
          have COI:=zz (fun W (h:WAt W p m (9 * j + 9) fN)=>show Calls Tryz.prog 13 #[.pointer (some ⟨p,0,none⟩)] W fun e w'=>e=.returned (.tuple #[.int .u64 C',.bool true])∧Below W.heap.size W w' from (coins_w W p m _ fN h HK2.out.ok (by have:=HJ.out;omega)).mono fun e w' ⟨L,hL,he,hb⟩=>⟨by rw [he,(HK2.out.tc.coins HK2.out.ok).2 HNU.out.c L hL],hb⟩)
          have ITE:=zz (fun W (h:WAt W p m (9 * j + 9) fN)=>show Calls Tryz.prog 14 #[.pointer (some ⟨p,0,none⟩),.int .u32 item] W fun e w'=>e=.returned (.tuple #[.int .u64 I',.bool true])∧Below W.heap.size W w' from (items_w W p m _ fN h HK2.out.ok (by have:=HJ.out;omega) item HT.out).mono fun e w' ⟨h1,h2,hb⟩=>⟨by
            by_cases h0:item=0
            · rw [h1 h0,HK2.out.z h0]
            · obtain ⟨L,hL,he⟩:=h2 h0
              rw [he,((HK2.out.ti (by have:=HT.out.1;omega)).items HK2.out.ok).2 HNU.out.i L hL],hb⟩)
          obtain ⟨a1,a2,a3,a4,_,_,_,_⟩:=hnu
          clear hC' hI' hfN hc0 hc1 hc2 hc3 hk2
          go_wp2_with (first
            | (go_at_call 8;(with_reducible refine AL.out.mono ?_);rintro e w3 ⟨v3,ks,rfl,_,_,_,hb3⟩
               have HW3:=zz (HW1.out.later hb3)
               have HB3:=zz (HB1'.out.trans (hb3.mono HB1'.out.size))
               have X3:=zz (XQ.out.later hb3)
               have o3:=X3.out.cell
               clear hb3 o AL))
          (with_reducible refine (DQ.out _ HW3.out).mono ?_)
          rintro e w4 ⟨rfl,h4,f4⟩
          have HW4:=zz (h4.later (new_ (Below.refl _ _) (.cells #[.int .u16 0,.int .u64 da,.int .u64 db,.int .u64 dc] 35)))
          have HB4:=zz (new_ (HB3.out.trans (f4.to_below (B:=w.heap.size) (fun k e=>by rw [e];exact HM.out) HB3.out.size)) (.cells #[.int .u16 0,.int .u64 da,.int .u64 db,.int .u64 dc] 35))
          have X4:=zz ((X3.out.fr f4 (by have:=HG.out.1;omega)).alloc (.cells #[.int .u16 0,.int .u64 da,.int .u64 db,.int .u64 dc] 35))
          have o4:=X4.out.cell
          clear h4 f4 o3
          by_cases k10:q'.kd=10
          case neg=>
            have a7:=HNU.out.a5 (fun h=>k10 h.1)
            have a9:IntKind.u64.wrap I'=I':=by rw [← a7];exact a4
            have k10':(q'.kd == 10)=false:=by simp [k10]
            go_wp2_with (first
              | (go_at_call 11;(with_reducible refine (CH.out _).mono ?_);rintro e w5 ⟨rfl,hb5⟩
                 have HB5:=zz (hb5.trans ((new_ (new_ (Below.refl w5.heap.size w5) (.cells #[.int .u64 n0,.int .u64 n1] 38)) (.cells #[.int .u64 n2,.int .u64 n3] 38)).mono hb5.size))
                 have o5:=(X4.out.later HB5.out).cell
                 have HW5:=zz (HW4.out.later HB5.out)
                 have HB5':=zz (HB4.out.trans (HB5.out.mono HB4.out.size))
                 clear hb5 o4)
              | (go_at_call 13;(with_reducible refine (COI.out _ HW5.out).mono ?_);rintro e w8 ⟨rfl,hb8⟩
                 have HW8:=zz (HW5.out.later hb8)
                 have HB8:=zz (HB5'.out.trans (hb8.mono HB5'.out.size))
                 clear hb8)
              | (go_at_call 14;(with_reducible refine (ITE.out _ HW8.out).mono ?_);rintro e w9 ⟨rfl,hb9⟩
                 have HW9:=zz (HW8.out.later hb9)
                 have HB9:=zz (HB8.out.trans (hb9.mono HB8.out.size))
                 clear hb9))
            exact ⟨⟨j + 1,fN,C',I',HJ.out.1,rfl,rfl,rfl,HK2,by rw [e9];exact HW9,HB9⟩,by have:=HJ.out.1;simp [intOf];omega⟩
          case pos=>
            have k10':(q'.kd == 10)=true:=by simp [k10]
            have K10:=zz k10
            clear k10
            by_cases h0:0 < item
            case neg=>
              have a7:=HNU.out.a5 (fun h=>h0 h.2)
              have a9:IntKind.u64.wrap I'=I':=by rw [← a7];exact a4
              have h0':decide (0 < item)=false:=decide_eq_false h0
              go_wp2_with (first
                | (go_at_call 11;(with_reducible refine (CH.out _).mono ?_);rintro e w5 ⟨rfl,hb5⟩
                   have HB5:=zz (hb5.trans ((new_ (new_ (Below.refl w5.heap.size w5) (.cells #[.int .u64 n0,.int .u64 n1] 38)) (.cells #[.int .u64 n2,.int .u64 n3] 38)).mono hb5.size))
                   have o5:=(X4.out.later HB5.out).cell
                   have HW5:=zz (HW4.out.later HB5.out)
                   have HB5':=zz (HB4.out.trans (HB5.out.mono HB4.out.size))
                   clear hb5 o4)
                | (go_at_call 13;(with_reducible refine (COI.out _ HW5.out).mono ?_);rintro e w8 ⟨rfl,hb8⟩
                   have HW8:=zz (HW5.out.later hb8)
                   have HB8:=zz (HB5'.out.trans (hb8.mono HB5'.out.size))
                   clear hb8)
                | (go_at_call 14;(with_reducible refine (ITE.out _ HW8.out).mono ?_);rintro e w9 ⟨rfl,hb9⟩
                   have HW9:=zz (HW8.out.later hb9)
                   have HB9:=zz (HB8.out.trans (hb9.mono HB8.out.size))
                   clear hb9))
              exact ⟨⟨j + 1,fN,C',I',HJ.out.1,rfl,rfl,rfl,HK2,by rw [e9];exact HW9,HB9⟩,by have:=HJ.out.1;simp [intOf];omega⟩
            case pos=>
              obtain ⟨a7,a8⟩:=HNU.out.a6 ⟨K10.out,h0⟩
              have h0':decide (0 < item)=true:=decide_eq_true h0
              obtain ⟨ig,hig⟩:∃ x,Stk.cnt item (Stk.inN q'.wt q'.n)=x:=⟨_,rfl⟩
              obtain ⟨og,hog⟩:∃ x,Stk.cnt item (Stk.outN q'.wt q'.n)=x:=⟨_,rfl⟩
              rw [hog] at a7
              rw [hog,hig] at a8
              rw [hog,hig] at CRA
              clear hog hig
              go_wp2_with (first
                | (go_at_call 11;(with_reducible refine (CH.out _).mono ?_);rintro e w5 ⟨rfl,hb5⟩
                   have HB5:=zz (hb5.trans ((new_ (new_ (Below.refl w5.heap.size w5) (.cells #[.int .u64 n0,.int .u64 n1] 38)) (.cells #[.int .u64 n2,.int .u64 n3] 38)).mono hb5.size))
                   have o5:=(X4.out.later HB5.out).cell
                   have HW5:=zz (HW4.out.later HB5.out)
                   have HB5':=zz (HB4.out.trans (HB5.out.mono HB4.out.size))
                   clear hb5 o4)
                | (go_at_call 12;(with_reducible refine (CRA.out _).mono ?_);rintro e w7 ⟨rfl,hb7⟩
                   have HW7:=zz (HW5.out.later hb7)
                   have HB7':=zz (HB5'.out.trans (hb7.mono HB5'.out.size))
                   clear hb7)
                | (go_at_call 13;(with_reducible refine (COI.out _ HW7.out).mono ?_);rintro e w8 ⟨rfl,hb8⟩
                   have HW8:=zz (HW7.out.later hb8)
                   have HB8:=zz (HB7'.out.trans (hb8.mono HB7'.out.size))
                   clear hb8)
                | (go_at_call 14;(with_reducible refine (ITE.out _ HW8.out).mono ?_);rintro e w9 ⟨rfl,hb9⟩
                   have HW9:=zz (HW8.out.later hb9)
                   have HB9:=zz (HB8.out.trans (hb9.mono HB8.out.size))
                   clear hb9))
              exact ⟨⟨j + 1,fN,C',I',HJ.out.1,rfl,rfl,rfl,HK2,by rw [e9];exact HW9,HB9⟩,by have:=HJ.out.1;simp [intOf];omega⟩
    · have d1:decide ((j:Int) < (xl.length:Int))=false:=by simp;omega
      have q1:decide (j < xl.length)=false:=by simp;omega
      go_wp2
      go_ret
      exact ⟨rfl,HB.out⟩


theorem lifted (os:Os) (started:os.Started) (H:Type) (enc:TypeId × Value→H) :
    ReturnsInHanded {} Tryz.checked os 3 .any (Rows.modelKeepsSpec.pre6 enc Tryz.prog Tryz.f3 Rows.modelKeepsRow.domain false) (Rows.modelKeepsSpec.post enc Tryz.prog Tryz.f3 false true false false):=by
  refine returnsInHanded_of_change (C:=Tryz.checked) own started (by kernel_rfl) Tryz.func3
    (ChangeSpec.witness6 (enc:=enc) (C:=Tryz.checked) false ⟨#[],#[.slice none 0 0,.int .u32 0],[]⟩ 8 (by kernel_rfl) (by kernel_rfl) (by kernel_rfl) (by kernel_rfl)) ?_
  intro W base args ds gs before hval0 hW hcnd _
  have hval:∀ (j:Nat) t v,Tryz.f3.params[j]?=some t→args[j]?=some v→Value.okWide Tryz.prog W .any base t v:=hval0
  have hW':=hW
  obtain ⟨p,q,hA0,hV,rfl,hfz,hnd⟩:=hW
  have hA1:DataW.TrodAll enc Tryz.prog W 0 (fun _=>true) true Tryz.f3.params.toList args.toList ds p:=hA0
  have hA:=hA1
  rw [Tryz.params3] at hA hval
  obtain ⟨v0,vs0,d0,ds0,p0,q0,hargs,rfl,rfl,h0,r0⟩:=trodAll_cons hA
  obtain ⟨v1,vs1,d1,ds1,p1,q1,rfl,rfl,rfl,h1,r1⟩:=trodAll_cons r0
  obtain ⟨rfl,rfl,rfl⟩:=trodAll_nil r1
  obtain rfl:args=#[v0,v1]:=by cases args;simp_all
  obtain ⟨rfl,rfl⟩:=trodVars_none hV
  obtain ⟨xl,i0,wf0⟩:=Rule.open_ops (hval 0 22 v0 rfl rfl) h0
  obtain ⟨item,rfl,rfl,rfl,wf1⟩:=open_int Tryz.underlying23 (hval 1 23 v1 rfl rfl) h1
  clear hA0 hval0
  refine (walk W v0 xl i0 wf0 item (bounds_u32 wf1)).mono fun e W' ⟨he,bel⟩=>?_
  subst he
  exact ⟨_,rfl,_,_,_,[],_,[],hW',trodAll_mk1 (shut_bool Tryz.underlying4 _),args_again laidOut bel (by kernel_rfl) hA1,rfl,bel.frame _,fun h=>by cases h⟩

theorem over:Rows.modelKeepsRow.holds Tryz.pinned (OpenSpec.ofChange Rows.modelKeepsSpec):=
  OpenClaim.holds_of_wide 3 Tryz.f3 rfl rfl rfl rfl rfl rfl rfl ⟨rfl,rfl,rfl,rfl,rfl⟩ rfl rfl rfl rfl rfl (by kernel_rfl) Tryz.func3 (by kernel_rfl)
    (of_decide_eq_true (by kernel_rfl)) (by unfold Func.isWrapper;first | (rw [if_pos (by decide +kernel)];kernel_rfl) | (rw [if_neg (by decide +kernel)];exact ⟨rfl,rfl⟩))
    (fun os started H enc _=>lifted os started H enc)

theorem proved:Rows.ModelKeepsSaid:=over
end Go.Proofs.YtabckmadpdchnaaGreat.LModelKeeps
