import Derived.Test.YtabckmadpdchnaaGreatBox
import Derived.Test.YtabckmadpdchnaaGreatFr
import Derived.Test.YtabckmadpdchnaaGreatLaw
import Derived.Test.YtabckmadpdchnaaGreatMem2
import Derived.Test.YtabckmadpdchnaaGreatMem3
import Derived.BigQuiet
import Derived.Deep.AppendLies
import Derived.Deep.DeepCutAuto
import Derived.Deep.DrawnRows
import Derived.Deep.QuietTactic
import Derived.Deep.RegionHeld3
import Derived.Deep.RegionLaw
import Derived.Deep.RegionWith
import Derived.Deep.Slices
import Derived.Defers
import Derived.Laws.AppendOwnNone
import Derived.Laws.BitsAllLaws
import Derived.Laws.MakeOwn
import Derived.Laws.MathBits
import Derived.Lib.Hide
import Derived.Maps.AppendAt
import Derived.OpenShut
import Derived.Outline
import Derived.ProofKit
import Derived.Recover
import Derived.RegionDies
import Derived.RegionTactic
import Derived.WalkKit
import Derived.WalkLawsBesides
set_option linter.unusedVariables false
set_option linter.unusedSimpArgs false
set_option linter.unnecessarySimpa false
set_option maxRecDepth 100000
set_option maxHeartbeats 8000000
namespace Go.Proofs.YtabckmadpdchnaaGreat.Rule
open Go.ChangeShapes Go.WideShapes Go.ChangeAt Go.RowKit Go.IntWalk Go.Proofs.Mem
def KeyP (k a b:Int) (w:World) (e:Ending) (w':World):Prop:=e=.returned (.agg #[.int .u8 k,.int .u32 a,.int .u32 b])∧Below w.heap.size w w'
theorem purse_any (a:Int) (w:World):Calls Tryz.prog 80 #[.int .u32 a] w (KeyP 1 a 0 w):=by
  go_enter Tryz.func80,Tryz.ntmps80
  go_wp2
  refine bodyPost_ret (v:=.agg #[.int .u8 1,.int .u32 a,.int .u32 0]) (by simp [results,Tryz.results80,go_sem];try rfl) rfl ?_
  exact ⟨rfl,new_ (Below.refl _ _) _⟩
theorem bank_any (a:Int) (w:World):Calls Tryz.prog 86 #[.int .u32 a] w (KeyP 2 a 0 w):=by
  go_enter Tryz.func86,Tryz.ntmps86
  go_wp2
  refine bodyPost_ret (v:=.agg #[.int .u8 2,.int .u32 a,.int .u32 0]) (by simp [results,Tryz.results86,go_sem];try rfl) rfl ?_
  exact ⟨rfl,new_ (Below.refl _ _) _⟩
theorem stack_any (a b:Int) (w:World):Calls Tryz.prog 85 #[.int .u32 a,.int .u32 b] w (KeyP 3 a b w):=by
  go_enter Tryz.func85,Tryz.ntmps85
  go_wp2
  refine bodyPost_ret (v:=.agg #[.int .u8 3,.int .u32 a,.int .u32 b]) (by simp [results,Tryz.results85,go_sem];try rfl) rfl ?_
  exact ⟨rfl,new_ (Below.refl _ _) _⟩
theorem trade_any (a:Int) (w:World):Calls Tryz.prog 93 #[.int .u32 a] w (KeyP 4 a 0 w):=by
  go_enter Tryz.func93,Tryz.ntmps93
  go_wp2
  refine bodyPost_ret (v:=.agg #[.int .u8 4,.int .u32 a,.int .u32 0]) (by simp [results,Tryz.results93,go_sem];try rfl) rfl ?_
  exact ⟨rfl,new_ (Below.refl _ _) _⟩
theorem offer_any (a b:Int) (w:World):Calls Tryz.prog 96 #[.int .u32 a,.int .u32 b] w (KeyP 5 a b w):=by
  go_enter Tryz.func96,Tryz.ntmps96
  go_wp2
  refine bodyPost_ret (v:=.agg #[.int .u8 5,.int .u32 a,.int .u32 b]) (by simp [results,Tryz.results96,go_sem];try rfl) rfl ?_
  exact ⟨rfl,new_ (Below.refl _ _) _⟩
theorem auction_any (a:Int) (w:World):Calls Tryz.prog 101 #[.int .u32 a] w (KeyP 6 a 0 w):=by
  go_enter Tryz.func101,Tryz.ntmps101
  go_wp2
  refine bodyPost_ret (v:=.agg #[.int .u8 6,.int .u32 a,.int .u32 0]) (by simp [results,Tryz.results101,go_sem];try rfl) rfl ?_
  exact ⟨rfl,new_ (Below.refl _ _) _⟩
theorem bid_any (a:Int) (w:World):Calls Tryz.prog 103 #[.int .u32 a] w (KeyP 7 a 0 w):=by
  go_enter Tryz.func103,Tryz.ntmps103
  go_wp2
  refine bodyPost_ret (v:=.agg #[.int .u8 7,.int .u32 a,.int .u32 0]) (by simp [results,Tryz.results103,go_sem];try rfl) rfl ?_
  exact ⟨rfl,new_ (Below.refl _ _) _⟩
theorem price_any (a:Int) (w:World):Calls Tryz.prog 102 #[.int .u32 a] w (KeyP 7 a 1 w):=by
  go_enter Tryz.func102,Tryz.ntmps102
  go_wp2
  refine bodyPost_ret (v:=.agg #[.int .u8 7,.int .u32 a,.int .u32 1]) (by simp [results,Tryz.results102,go_sem];try rfl) rfl ?_
  exact ⟨rfl,new_ (Below.refl _ _) _⟩
theorem count_any (a:Int) (ha:0≤a∧a≤255) (w:World):Calls Tryz.prog 111 #[.int .u8 a] w (KeyP 8 a 0 w):=by
  go_enter Tryz.func111,Tryz.ntmps111
  go_wp2
  refine bodyPost_ret (v:=.agg #[.int .u8 8,.int .u32 a,.int .u32 0]) (by simp [results,Tryz.results111,go_sem];try rfl) rfl ?_
  exact ⟨rfl,new_ (Below.refl _ _) _⟩
def raise_ (e:Int):List PanicEntry:=[{ v:=.iface 33 (.int .u16 e),recovered:=false }]
def raiseK (k a b:Int):List PanicEntry:=[{ v:=.iface 110 (.agg #[.int .u8 k,.int .u32 a,.int .u32 b]),recovered:=false }]
theorem deny_no (n:Int) (w:World):Calls Tryz.prog 60 #[.bool false,.int .u16 n] w fun e w'=>e=.returned (.tuple #[])∧w=w':=by
  go_enter Tryz.func60,Tryz.ntmps60
  go_wp2
  go_end0
  exact ⟨rfl,rfl⟩
theorem deny_yes (n:Int) (w:World):Calls Tryz.prog 60 #[.bool true,.int .u16 n] w fun e w'=>e=.panicked (raise_ n)∧w=w':=by
  go_enter Tryz.func60,Tryz.ntmps60
  go_wp2
  exact ⟨rfl,rfl,rfl⟩
def outE (e:Int):Array Value:=#[.slice none 0 0,.int .u16 e,.int .u64 0,.int .u64 0,.int .u64 0,.int .u8 0,.int .u32 0,.int .u32 0,.bool false]
def outK (k a b:Int):Array Value:=#[.slice none 0 0,.int .u16 0,.int .u64 0,.int .u64 0,.int .u64 0,.int .u8 k,.int .u32 a,.int .u32 b,.bool true]
def out0:Array Value:=#[.slice none 0 0,.int .u16 0,.int .u64 0,.int .u64 0,.int .u64 0,.int .u8 0,.int .u32 0,.int .u32 0,.bool false]
theorem ta_no (e:Int) (w:World):(Instr.typeAssert (.iface 33 (.int .u16 e)) 20 110 true).run Tryz.prog w=.ok (.tuple #[.agg #[.int .u8 0,.int .u32 0,.int .u32 0],.bool false]) w:=by kernel_rfl
theorem ta_yes (e:Int) (w:World):(Instr.typeAssert (.iface 33 (.int .u16 e)) 20 33 true).run Tryz.prog w=.ok (.tuple #[.int .u16 e,.bool true]) w:=by kernel_rfl
theorem tk_yes (k a b:Int) (w:World):(Instr.typeAssert (.iface 110 (.agg #[.int .u8 k,.int .u32 a,.int .u32 b])) 20 110 true).run Tryz.prog w=.ok (.tuple #[.agg #[.int .u8 k,.int .u32 a,.int .u32 b],.bool true]) w:=by kernel_rfl
theorem tn_1 (w:World):(Instr.typeAssert .nilIface 20 110 true).run Tryz.prog w=.ok (.tuple #[.agg #[.int .u8 0,.int .u32 0,.int .u32 0],.bool false]) w:=by kernel_rfl
theorem tn_2 (w:World):(Instr.typeAssert .nilIface 20 33 true).run Tryz.prog w=.ok (.tuple #[.int .u16 0,.bool false]) w:=by kernel_rfl
theorem catch_err (g:Nat) (e:Int) (w:World) (hb:Box w g out0 81) :
    CallsD Tryz.prog 49 #[.pointer (some ⟨g,0,none⟩)] (.panicking (raise_ e)) w fun en u' w'=>
      en=.returned (.tuple #[])∧u'=.panicking [{ v:=.iface 33 (.int .u16 e),recovered:=true }]∧Box w' g (outE e) 81∧Fr (fun k=>k=g) w w':=by
  unfold raise_
  refine callsD_of_wpS Tryz.func49 rfl fun c₀ cs hu=>?_
  simp only [Tryz.ntmps49,List.size_toArray,List.length_cons,List.length_nil,Nat.reduceAdd,Nat.reduceSub,Array.replicate_succ,Array.replicate_zero,List.push_toArray,List.append_toArray,List.nil_append,List.cons_append]
  apply wpS_seq
  apply wpS_region
  simp [wpOpsS,go_sem,recoverD,hu,Exit.thenS]
  have HB:=Lib.hid hb
  unfold out0 at hb
  have k0:=hb.cell 0
  have f0:=hb.frozen 0
  have k1:=hb.cell 1
  have f1:=hb.frozen 1
  have k2:=hb.cell 2
  have f2:=hb.frozen 2
  have k3:=hb.cell 3
  have f3:=hb.frozen 3
  have k4:=hb.cell 4
  have f4:=hb.frozen 4
  have k5:=hb.cell 5
  have f5:=hb.frozen 5
  have k6:=hb.cell 6
  have f6:=hb.frozen 6
  have k7:=hb.cell 7
  have f7:=hb.frozen 7
  have k8:=hb.cell 8
  have f8:=hb.frozen 8
  simp only [List.getElem?_toArray,List.getElem?_cons_zero,List.getElem?_cons_succ] at k0 k1 k2 k3 k4 k5 k6 k7 k8
  clear hb
  refine wpS_of_wp ?_
  have t1:=ta_no e
  have t2:=ta_yes e
  go_wp2
  generalize hW:(World.setCell _ (⟨g,8,none⟩:Addr) _)=W9
  have hb9:Box W9 g (outE e) 81:=by rw [← hW];exact (((((((((HB.out.set_ 0 _).set_ 1 _).set_ 2 _).set_ 3 _).set_ 4 _).set_ 5 _).set_ 6 _).set_ 7 _).set_ 8 _)
  have hf9:Fr (fun k=>k=g) w W9:=by rw [← hW];exact ((((((((((Fr.refl (fun k=>k=g) w).setCell (p:=⟨g,0,none⟩) (.inl rfl) _).setCell (p:=⟨g,1,none⟩) (.inl rfl) _).setCell (p:=⟨g,2,none⟩) (.inl rfl) _).setCell (p:=⟨g,3,none⟩) (.inl rfl) _).setCell (p:=⟨g,4,none⟩) (.inl rfl) _).setCell (p:=⟨g,5,none⟩) (.inl rfl) _).setCell (p:=⟨g,6,none⟩) (.inl rfl) _).setCell (p:=⟨g,7,none⟩) (.inl rfl) _).setCell (p:=⟨g,8,none⟩) (.inl rfl) _)
  clear hW
  simp [bodyPostS,results,Tryz.results49,hb9,hf9]
theorem catch_key (g:Nat) (k a b:Int) (w:World) (hb:Box w g out0 81) :
    CallsD Tryz.prog 49 #[.pointer (some ⟨g,0,none⟩)] (.panicking (raiseK k a b)) w fun en u' w'=>
      en=.returned (.tuple #[])∧u'=.panicking [{ v:=.iface 110 (.agg #[.int .u8 k,.int .u32 a,.int .u32 b]),recovered:=true }]∧Box w' g (outK k a b) 81∧Fr (fun k=>k=g) w w':=by
  unfold raiseK
  refine callsD_of_wpS Tryz.func49 rfl fun c₀ cs hu=>?_
  simp only [Tryz.ntmps49,List.size_toArray,List.length_cons,List.length_nil,Nat.reduceAdd,Nat.reduceSub,Array.replicate_succ,Array.replicate_zero,List.push_toArray,List.append_toArray,List.nil_append,List.cons_append]
  apply wpS_seq
  apply wpS_region
  simp [wpOpsS,go_sem,recoverD,hu,Exit.thenS]
  have HB:=Lib.hid hb
  have hlt:=hb.lt
  unfold out0 at hb
  have k0:=hb.cell 0
  have f0:=hb.frozen 0
  have k1:=hb.cell 1
  have f1:=hb.frozen 1
  have k2:=hb.cell 2
  have f2:=hb.frozen 2
  have k3:=hb.cell 3
  have f3:=hb.frozen 3
  have k4:=hb.cell 4
  have f4:=hb.frozen 4
  have k5:=hb.cell 5
  have f5:=hb.frozen 5
  have k6:=hb.cell 6
  have f6:=hb.frozen 6
  have k7:=hb.cell 7
  have f7:=hb.frozen 7
  have k8:=hb.cell 8
  have f8:=hb.frozen 8
  simp only [List.getElem?_toArray,List.getElem?_cons_zero,List.getElem?_cons_succ] at k0 k1 k2 k3 k4 k5 k6 k7 k8
  clear hb
  refine wpS_of_wp ?_
  have t1:=tk_yes k a b
  go_wp2
  generalize hW:(World.setCell _ (⟨g,8,none⟩:Addr) _)=W9
  have hb9:Box W9 g (outK k a b) 81:=by rw [← hW];exact (((((((((HB.out.set_ 0 _).set_ 1 _).set_ 2 _).set_ 3 _).set_ 4 _).set_ 5 _).set_ 6 _).set_ 7 _).set_ 8 _)
  have hf9:Fr (fun k=>k=g) w W9:=by rw [← hW];exact ((((((((((Fr.refl (fun k=>k=g) w).setCell (p:=⟨g,0,none⟩) (.inl rfl) _).setCell (p:=⟨g,1,none⟩) (.inl rfl) _).setCell (p:=⟨g,2,none⟩) (.inl rfl) _).setCell (p:=⟨g,3,none⟩) (.inl rfl) _).setCell (p:=⟨g,4,none⟩) (.inl rfl) _).setCell (p:=⟨g,5,none⟩) (.inl rfl) _).setCell (p:=⟨g,6,none⟩) (.inl rfl) _).setCell (p:=⟨g,7,none⟩) (.inl rfl) _).setCell (p:=⟨g,8,none⟩) (.inl rfl) _)
  clear hW
  have hb8:=fun o=>hb9.alloc o
  have hf8:=fun o=>hf9.alloc o
  simp [bodyPostS,results,Tryz.results49,hb8,hf8]
theorem catch_none (g:Nat) (w:World) :
    CallsD Tryz.prog 49 #[.pointer (some ⟨g,0,none⟩)] .returning w fun en u' w'=>en=.returned (.tuple #[])∧u'=.returning∧w=w':=by
  refine callsD_of_wpS Tryz.func49 rfl fun c₀ cs hu=>?_
  simp only [Tryz.ntmps49,List.size_toArray,List.length_cons,List.length_nil,Nat.reduceAdd,Nat.reduceSub,Array.replicate_succ,Array.replicate_zero,List.push_toArray,List.append_toArray,List.nil_append,List.cons_append]
  apply wpS_seq
  apply wpS_region
  simp [wpOpsS,go_sem,recoverD,hu,Exit.thenS]
  refine wpS_of_wp ?_
  have t1:=tn_1
  have t2:=tn_2
  go_wp2
  cases c₀
  simp_all [bodyPostS,results,Tryz.results49]
end Go.Proofs.YtabckmadpdchnaaGreat.Rule
namespace Go.Proofs.YtabckmadpdchnaaGreat.Rule
open Go.ChangeShapes Go.WideShapes Go.ChangeAt Go.RowKit Go.IntWalk Go.Proofs.Mem
structure Ot where
  kd:Int
  wh:Int
  wm:Int
  wt:Int
  id:Int
  n:Int
  pr:Int
def Ot.cells (q:Ot):Array Value:=#[.int .u8 q.kd,.int .u32 q.wh,.int .u32 q.wm,.int .u32 q.wt,.int .u32 q.id,.int .u64 q.n,.int .u64 q.pr]
structure Ot.Ok (q:Ot):Prop where
  kd:0≤q.kd∧q.kd≤255
  wh:0≤q.wh∧q.wh≤4294967295
  wm:0≤q.wm∧q.wm≤4294967295
  wt:0≤q.wt∧q.wt≤4294967295
  id:0≤q.id∧q.id≤4294967295
  n:0≤q.n∧q.n≤18446744073709551615
  pr:0≤q.pr∧q.pr≤18446744073709551615
def wk (q:Ot) (v:Value) (i:Int) (p:Value):Array Value:=#[.int .u8 q.kd,.int .u32 q.wh,.int .u32 q.wm,.int .u32 q.wt,.int .u32 q.id,.int .u64 q.n,.int .u64 q.pr,v,.int .i64 i,p]
abbrev WorkAt (w:World) (g:Nat) (q:Ot) (v:Value) (i:Int) (p:Value):Prop:=Box w g (wk q v i p) 109
structure WC (w:World) (g:Nat) (q:Ot) (v:Value) (i:Int) (p:Value):Prop where
  c0:w.cell? ⟨g,0,none⟩=some (.int .u8 q.kd)
  c1:w.cell? ⟨g,1,none⟩=some (.int .u32 q.wh)
  c2:w.cell? ⟨g,2,none⟩=some (.int .u32 q.wm)
  c3:w.cell? ⟨g,3,none⟩=some (.int .u32 q.wt)
  c4:w.cell? ⟨g,4,none⟩=some (.int .u32 q.id)
  c5:w.cell? ⟨g,5,none⟩=some (.int .u64 q.n)
  c6:w.cell? ⟨g,6,none⟩=some (.int .u64 q.pr)
  c7:w.cell? ⟨g,7,none⟩=some v
  c8:w.cell? ⟨g,8,none⟩=some (.int .i64 i)
  c9:w.cell? ⟨g,9,none⟩=some p
theorem wc_of {w:World} {g:Nat} {q:Ot} {v:Value} {i:Int} {p:Value} (h:WorkAt w g q v i p):WC w g q v i p:=
  ⟨h.cell 0,h.cell 1,h.cell 2,h.cell 3,h.cell 4,h.cell 5,h.cell 6,h.cell 7,h.cell 8,h.cell 9⟩
theorem chk_who (w:World) (g:Nat) (kd wh wm wt id n pr:Int) (v:Value) (i:Int) (p:Value) (hb:WorkAt w g ⟨kd,wh,wm,wt,id,n,pr⟩ v i p) (h0:wh=0) :
    Calls Tryz.prog 50 #[.pointer (some ⟨g,0,none⟩)] w fun e w'=>e=.panicked (raise_ 1)∧w=w':=by
  obtain ⟨c0,c1,c2,c3,c4,c5,c6,c7,c8,c9⟩:=wc_of hb
  dsimp only at c0 c1 c2 c3 c4 c5 c6
  subst h0
  clear hb
  go_enter Tryz.func50,Tryz.ntmps50
  go_wp2_with (go_at_call 60;(with_reducible refine (deny_yes 1 _).mono ?_);rintro e w1 ⟨rfl,rfl⟩)
  exact ⟨rfl,rfl,rfl⟩
theorem chk_kind (w:World) (g:Nat) (kd wh wm wt id n pr:Int) (v:Value) (i:Int) (p:Value) (hb:WorkAt w g ⟨kd,wh,wm,wt,id,n,pr⟩ v i p) (h0:wh≠0) (hk:kd=0∨19≤kd) :
    Calls Tryz.prog 50 #[.pointer (some ⟨g,0,none⟩)] w fun e w'=>e=.returned (.tuple #[])∧w=w':=by
  obtain ⟨c0,c1,c2,c3,c4,c5,c6,c7,c8,c9⟩:=wc_of hb
  dsimp only at c0 c1 c2 c3 c4 c5 c6
  have d0:(wh == 0)=false:=by simpa using h0
  have e1:(kd == 1)=false:=by simp;omega
  have e2:(kd == 2)=false:=by simp;omega
  have e3:(kd == 3)=false:=by simp;omega
  have e4:(kd == 4)=false:=by simp;omega
  have e5:(kd == 5)=false:=by simp;omega
  have e6:(kd == 6)=false:=by simp;omega
  have e7:(kd == 7)=false:=by simp;omega
  have e8:(kd == 8)=false:=by simp;omega
  have e9:(kd == 9)=false:=by simp;omega
  have e10:(kd == 10)=false:=by simp;omega
  have e11:(kd == 11)=false:=by simp;omega
  have e12:(kd == 12)=false:=by simp;omega
  have e13:(kd == 13)=false:=by simp;omega
  have e14:(kd == 14)=false:=by simp;omega
  have e15:(kd == 15)=false:=by simp;omega
  have e16:(kd == 16)=false:=by simp;omega
  have e17:(kd == 17)=false:=by simp;omega
  have e18:(kd == 18)=false:=by simp;omega
  clear hb
  go_enter Tryz.func50,Tryz.ntmps50
  go_wp2_with (go_at_call 60;(with_reducible refine (deny_no 1 _).mono ?_);rintro e w1 ⟨rfl,rfl⟩)
  go_end0
  exact ⟨rfl,rfl⟩
theorem do_none (w:World) (g:Nat) (kd wh wm wt id n pr:Int) (v:Value) (i:Int) (p:Value) (hb:WorkAt w g ⟨kd,wh,wm,wt,id,n,pr⟩ v i p) (hk:kd=0∨19≤kd) :
    Calls Tryz.prog 51 #[.pointer (some ⟨g,0,none⟩)] w fun e w'=>e=.returned (.agg #[.int .u16 1,.int .u64 0,.int .u64 0,.int .u64 0])∧Below w.heap.size w w':=by
  have hlt:=hb.lt
  obtain ⟨c0,c1,c2,c3,c4,c5,c6,c7,c8,c9⟩:=wc_of hb
  dsimp only at c0 c1 c2 c3 c4 c5 c6
  have e1:(kd == 1)=false:=by simp;omega
  have e2:(kd == 2)=false:=by simp;omega
  have e3:(kd == 3)=false:=by simp;omega
  have e4:(kd == 4)=false:=by simp;omega
  have e5:(kd == 5)=false:=by simp;omega
  have e6:(kd == 6)=false:=by simp;omega
  have e7:(kd == 7)=false:=by simp;omega
  have e8:(kd == 8)=false:=by simp;omega
  have e9:(kd == 9)=false:=by simp;omega
  have e10:(kd == 10)=false:=by simp;omega
  have e11:(kd == 11)=false:=by simp;omega
  have e12:(kd == 12)=false:=by simp;omega
  have e13:(kd == 13)=false:=by simp;omega
  have e14:(kd == 14)=false:=by simp;omega
  have e15:(kd == 15)=false:=by simp;omega
  have e16:(kd == 16)=false:=by simp;omega
  have e17:(kd == 17)=false:=by simp;omega
  have e18:(kd == 18)=false:=by simp;omega
  clear hb
  go_enter Tryz.func51,Tryz.ntmps51
  go_wp2
  refine bodyPost_ret (v:=.agg #[.int .u16 1,.int .u64 0,.int .u64 0,.int .u64 0]) (by simp [results,Tryz.results51,go_sem];try rfl) rfl ?_
  exact ⟨rfl,new_ (Below.refl _ _) _⟩
end Go.Proofs.YtabckmadpdchnaaGreat.Rule
namespace Go.Proofs.YtabckmadpdchnaaGreat.Rule
open Go.ChangeShapes Go.WideShapes Go.ChangeAt Go.RowKit Go.IntWalk Go.Proofs.Mem
structure OC (w:World) (g:Nat) (p e a b c k x y q:Value):Prop where
  c0:w.cell? ⟨g,0,none⟩=some p
  c1:w.cell? ⟨g,1,none⟩=some e
  c2:w.cell? ⟨g,2,none⟩=some a
  c3:w.cell? ⟨g,3,none⟩=some b
  c4:w.cell? ⟨g,4,none⟩=some c
  c5:w.cell? ⟨g,5,none⟩=some k
  c6:w.cell? ⟨g,6,none⟩=some x
  c7:w.cell? ⟨g,7,none⟩=some y
  c8:w.cell? ⟨g,8,none⟩=some q
theorem oc_of {w:World} {g:Nat} {p e a b c k x y q:Value} (hbx:Box w g #[p,e,a,b,c,k,x,y,q] 81):OC w g p e a b c k x y q:=
  ⟨hbx.cell 0,hbx.cell 1,hbx.cell 2,hbx.cell 3,hbx.cell 4,hbx.cell 5,hbx.cell 6,hbx.cell 7,hbx.cell 8⟩
theorem work_new (w:World) (q:Array Value) (k:Ot) (v:Value) :
    Box (((w.alloc (.cells q 29)).alloc (.cells out0 81)).alloc (.cells (wk k v 0 (.slice none 0 0)) 109)) (w.heap.size + 1) out0 81 ∧
    WorkAt (((w.alloc (.cells q 29)).alloc (.cells out0 81)).alloc (.cells (wk k v 0 (.slice none 0 0)) 109)) (w.heap.size + 1 + 1) k v 0 (.slice none 0 0):=by
  constructor
  · have:=(Box.new (w.alloc (.cells q 29)) out0 81).alloc (.cells (wk k v 0 (.slice none 0 0)) 109)
    rwa [World.size_alloc] at this
  · have:=Box.new ((w.alloc (.cells q 29)).alloc (.cells out0 81)) (wk k v 0 (.slice none 0 0)) 109
    rwa [World.size_alloc,World.size_alloc] at this
theorem run_none (w:World) (kd wh wm wt id n pr:Int) (A:Option Addr) (l c:Nat) (h0:wh≠0) (hk:kd=0∨19≤kd) :
    Calls Tryz.prog 33 #[.agg #[.int .u8 kd,.int .u32 wh,.int .u32 wm,.int .u32 wt,.int .u32 id,.int .u64 n,.int .u64 pr],.slice A l c] w fun en w'=>en=.returned (.agg (outE 1))∧Below w.heap.size w w':=by
  have hmf:∀ (fn:Fn) (first cap:Array Value) (w:World),(Instr.makeFunc fn first cap).run Tryz.prog w=.ok (.func fn first cap) w:=fun _ _ _ _=>rfl
  obtain ⟨hb1,hb2⟩:=work_new w #[.int .u8 kd,.int .u32 wh,.int .u32 wm,.int .u32 wt,.int .u32 id,.int .u64 n,.int .u64 pr] ⟨kd,wh,wm,wt,id,n,pr⟩ (.slice A l c)
  have call1:=chk_kind _ _ _ _ _ _ _ _ _ _ _ _ hb2 h0 hk
  have call2:=do_none _ _ _ _ _ _ _ _ _ _ _ _ hb2 hk
  have HB2:=Lib.hid hb2
  dsimp only [wk,out0] at call1 call2 hb1
  have CALL1:=Lib.hid call1
  have CALL2:=Lib.hid call2
  have HB1:=Lib.hid hb1
  clear hb1 hb2 call1 call2
  go_enter_defers Tryz.func33,Tryz.ntmps33
  go_wp2_with (first
    | (go_at_call 50;(with_reducible refine CALL1.out.mono ?_);rintro en w1 ⟨rfl,rfl⟩)
    | (go_at_call 51;(with_reducible refine CALL2.out.mono ?_);rintro en w1 ⟨rfl,hb3⟩;have HB3:=Lib.hid hb3;have hz3:=hb3.size;clear hb3))
  obtain ⟨W2,hW2⟩:∃ W2,w1.alloc (.cells #[.int .u16 1,.int .u64 0,.int .u64 0,.int .u64 0] 35)=W2:=⟨_,rfl⟩
  have bw:=(HB1.out.later HB3.out).alloc (.cells #[.int .u16 1,.int .u64 0,.int .u64 0,.int .u64 0] 35)
  have c9:W2.cell? ⟨w.heap.size + 1 + 1,9,none⟩=some (.slice none 0 0):=by
    rw [← hW2];exact ((HB2.out.later HB3.out).alloc _).cell 9
  have rb:Box W2 w1.heap.size #[.int .u16 1,.int .u64 0,.int .u64 0,.int .u64 0] 35:=by rw [← hW2];exact Box.new _ _ _
  have hb3:=Lib.hid (show Below w.heap.size w W2 by rw [← hW2];exact new_ ((new_ (new_ (new_ (Below.refl w.heap.size w) _) _) _).trans (HB3.out.mono (by simp;omega))) _)
  have r0:=rb.cell 0
  have r1:=rb.cell 1
  have r2:=rb.cell 2
  have r3:=rb.cell 3
  rw [hW2] at bw ⊢
  have BW:=Lib.hid bw
  have k0:=bw.cell 0
  have f0:=bw.frozen 0
  have k1:=bw.cell 1
  have f1:=bw.frozen 1
  have k2:=bw.cell 2
  have f2:=bw.frozen 2
  have k3:=bw.cell 3
  have f3:=bw.frozen 3
  have k4:=bw.cell 4
  have f4:=bw.frozen 4
  have k5:=bw.cell 5
  have f5:=bw.frozen 5
  have k6:=bw.cell 6
  have f6:=bw.frozen 6
  have k7:=bw.cell 7
  have f7:=bw.frozen 7
  have k8:=bw.cell 8
  have f8:=bw.frozen 8
  simp only [List.getElem?_toArray,List.getElem?_cons_zero,List.getElem?_cons_succ] at k0 k1 k2 k3 k4 k5 k6 k7 k8 r0 r1 r2 r3
  clear bw rb hW2 hz3
  go_region
  go_wp2
  generalize hW:(World.setCell _ (⟨w.heap.size + 1,8,none⟩:Addr) _)=W9
  have hb9:Box W9 (w.heap.size + 1) (outE 1) 81:=by rw [← hW];exact (((((((((BW.out.set_ 0 _).set_ 1 _).set_ 2 _).set_ 3 _).set_ 4 _).set_ 5 _).set_ 6 _).set_ 7 _).set_ 8 _)
  have hf9:Fr (fun k=>k=w.heap.size + 1) W2 W9:=by rw [← hW];exact ((((((((((Fr.refl (fun k=>k=w.heap.size + 1) W2).setCell (p:=⟨w.heap.size + 1,0,none⟩) (.inl rfl) _).setCell (p:=⟨w.heap.size + 1,1,none⟩) (.inl rfl) _).setCell (p:=⟨w.heap.size + 1,2,none⟩) (.inl rfl) _).setCell (p:=⟨w.heap.size + 1,3,none⟩) (.inl rfl) _).setCell (p:=⟨w.heap.size + 1,4,none⟩) (.inl rfl) _).setCell (p:=⟨w.heap.size + 1,5,none⟩) (.inl rfl) _).setCell (p:=⟨w.heap.size + 1,6,none⟩) (.inl rfl) _).setCell (p:=⟨w.heap.size + 1,7,none⟩) (.inl rfl) _).setCell (p:=⟨w.heap.size + 1,8,none⟩) (.inl rfl) _)
  clear hW k0 k1 k2 k3 k4 k5 k6 k7 k8
  refine leaves_cons (f:=49) (args:=#[.pointer (some ⟨w.heap.size + 1,0,none⟩)]) (by simp) (by simp [go_sem]) ?_
  refine (catch_none (w.heap.size + 1) _).mono ?_
  rintro en u' w'' ⟨rfl,rfl,rfl⟩
  obtain ⟨k0,k1,k2,k3,k4,k5,k6,k7,k8⟩:=oc_of (hbx:=hb9)
  refine ⟨.agg (outE 1),?_,rfl,?_⟩
  · simp [results,Tryz.results33,go_sem,k0,k1,k2,k3,k4,k5,k6,k7,k8,outE]
  · exact Below.drew (hb3.out.trans (hf9.to_below (fun k hk=>by rw [hk];omega) hb3.out.size))
def outc (p:Value) (e a b c k x y:Int) (q:Bool):Array Value:=#[p,.int .u16 e,.int .u64 a,.int .u64 b,.int .u64 c,.int .u8 k,.int .u32 x,.int .u32 y,.bool q]
def RunIs (op:Array Value) (v:Value) (w:World) (A:Option Addr) (l cc:Nat) (e a b c k x y:Int) (q:Bool) (P:World→Prop):Prop:=
  Calls Tryz.prog 33 #[.agg op,v] w fun en w'=>en=.returned (.agg (outc (.slice A l cc) e a b c k x y q))∧P w'∧Below w.heap.size w w'
def RunEx (op:Array Value) (v:Value) (w:World) (e a b c k x y:Int) (q:Bool) (P:Value→World→Prop):Prop:=
  Calls Tryz.prog 33 #[.agg op,v] w fun en w'=>∃ A l cc,en=.returned (.agg (outc (.slice A l cc) e a b c k x y q))∧P (.slice A l cc) w'∧Below w.heap.size w w'
theorem do_done (w:World) (kd wh wm wt id n pr:Int) (v:Value) (e a b c k x y:Int) (P:Value→World→Prop)
    (h:∀ W,Below w.heap.size w W→RunEx #[.int .u8 kd,.int .u32 wh,.int .u32 wm,.int .u32 wt,.int .u32 id,.int .u64 n,.int .u64 pr] v W e a b c k x y false P) :
    Calls Tryz.prog 21 #[.agg #[.int .u8 kd,.int .u32 wh,.int .u32 wm,.int .u32 wt,.int .u32 id,.int .u64 n,.int .u64 pr],v] w fun en w'=>∃ A l cc,en=.returned (.tuple #[.slice A l cc,.agg #[.int .u16 e,.int .u64 a,.int .u64 b,.int .u64 c]])∧Below w.heap.size w w'∧∃ w1,P (.slice A l cc) w1∧Box w1 (w.heap.size + 1) #[.int .u16 0,.int .u64 0,.int .u64 0,.int .u64 0] 35∧Fr (fun k=>k=w.heap.size + 1) w1 w':=by
  unfold RunEx outc at h
  have H:=Lib.hid (h _ (new_ (new_ (Below.refl w.heap.size w) (.cells #[.int .u8 kd,.int .u32 wh,.int .u32 wm,.int .u32 wt,.int .u32 id,.int .u64 n,.int .u64 pr] 29)) (.cells #[.int .u16 0,.int .u64 0,.int .u64 0,.int .u64 0] 35)))
  clear h
  go_enter Tryz.func21,Tryz.ntmps21
  go_wp2_with (go_at_call 33;(with_reducible refine H.out.mono ?_);rintro en w1 ⟨A,l,cc,rfl,hP,hb1⟩;have HP:=Lib.hid hP;have HB1:=Lib.hid hb1;have hz1:w.heap.size + 1 < w1.heap.size:=(by have:=hb1.size;simp at this;omega);clear hb1 hP)
  obtain ⟨W2,hW2⟩:∃ W2,w1.alloc (.cells #[.slice A l cc,.int .u16 e,.int .u64 a,.int .u64 b,.int .u64 c,.int .u8 k,.int .u32 x,.int .u32 y,.bool false] 81)=W2:=⟨_,rfl⟩
  have ob:Box W2 w1.heap.size #[.slice A l cc,.int .u16 e,.int .u64 a,.int .u64 b,.int .u64 c,.int .u8 k,.int .u32 x,.int .u32 y,.bool false] 81:=by rw [← hW2];exact Box.new _ _ _
  have rw1:Box w1 (w.heap.size + 1) #[.int .u16 0,.int .u64 0,.int .u64 0,.int .u64 0] 35:=by
    have:=Box.new (w.alloc (.cells #[.int .u8 kd,.int .u32 wh,.int .u32 wm,.int .u32 wt,.int .u32 id,.int .u64 n,.int .u64 pr] 29)) #[.int .u16 0,.int .u64 0,.int .u64 0,.int .u64 0] 35
    rw [World.size_alloc] at this
    exact this.later HB1.out
  have RW1:=Lib.hid rw1
  clear rw1
  have rb:Box W2 (w.heap.size + 1) #[.int .u16 0,.int .u64 0,.int .u64 0,.int .u64 0] 35:=by
    rw [← hW2]
    have:=Box.new (w.alloc (.cells #[.int .u8 kd,.int .u32 wh,.int .u32 wm,.int .u32 wt,.int .u32 id,.int .u64 n,.int .u64 pr] 29)) #[.int .u16 0,.int .u64 0,.int .u64 0,.int .u64 0] 35
    rw [World.size_alloc] at this
    exact (this.later HB1.out).alloc _
  have hb3:=Lib.hid (show Below w.heap.size w W2 by rw [← hW2];exact new_ ((new_ (new_ (Below.refl w.heap.size w) _) _).trans (HB1.out.mono (by simp;omega))) _)
  have hb4:=Lib.hid (show Fr (fun k=>k=w.heap.size + 1) w1 W2 by rw [← hW2];exact (Fr.refl _ _).alloc _)
  obtain ⟨o0,o1,o2,o3,o4,o5,o6,o7,o8⟩:=oc_of (hbx:=ob)
  have r0:=rb.cell 0
  have r1:=rb.cell 1
  have r2:=rb.cell 2
  have r3:=rb.cell 3
  have f0:=rb.frozen 0
  have f1:=rb.frozen 1
  have f2:=rb.frozen 2
  have f3:=rb.frozen 3
  simp only [List.getElem?_toArray,List.getElem?_cons_zero,List.getElem?_cons_succ] at r0 r1 r2 r3
  have RB:=Lib.hid rb
  rw [hW2]
  clear ob rb hW2 hz1
  go_wp2
  go_region
  all_goals
    go_wp2
    generalize hW:(World.setCell _ (⟨w.heap.size + 1,3,none⟩:Addr) _)=W9
    have hb9:Box W9 (w.heap.size + 1) #[.int .u16 e,.int .u64 a,.int .u64 b,.int .u64 c] 35:=by rw [← hW];exact ((((RB.out.set_ 0 _).set_ 1 _).set_ 2 _).set_ 3 _)
    have hf9:Fr (fun k=>k=w.heap.size + 1) W2 W9:=by rw [← hW];exact (((((Fr.refl (fun k=>k=w.heap.size + 1) W2).setCell (p:=⟨w.heap.size + 1,0,none⟩) (.inl rfl) _).setCell (p:=⟨w.heap.size + 1,1,none⟩) (.inl rfl) _).setCell (p:=⟨w.heap.size + 1,2,none⟩) (.inl rfl) _).setCell (p:=⟨w.heap.size + 1,3,none⟩) (.inl rfl) _)
    have t0:=hb9.cell 0
    have t1:=hb9.cell 1
    have t2:=hb9.cell 2
    have t3:=hb9.cell 3
    simp only [List.getElem?_toArray,List.getElem?_cons_zero,List.getElem?_cons_succ] at t0 t1 t2 t3
    clear hW
    refine bodyPost_ret (v:=.tuple #[.slice A l cc,.agg #[.int .u16 e,.int .u64 a,.int .u64 b,.int .u64 c]]) (by simp [results,Tryz.results21,go_sem,t0,t1,t2,t3];try rfl) rfl ?_
    exact ⟨A,l,cc,rfl,Below.drew (hb3.out.trans (hf9.to_below (fun k hk=>by rw [hk];omega) hb3.out.size)),w1,HP.out,RW1.out,(hb4.out.trans hf9).drew⟩
end Go.Proofs.YtabckmadpdchnaaGreat.Rule
namespace Go.Proofs.YtabckmadpdchnaaGreat.Money
open Go.ChangeShapes Go.WideShapes Go.ChangeAt Go.RowKit Go.IntWalk Go.Proofs.Mem
theorem ret_pair {a b:Int} {k k':IntKind} {x y:Int} (h:a=x) (h':b=y):Ending.returned (.tuple #[.int k a,.int k' b])=.returned (.tuple #[.int k x,.int k' y]):=by rw [h,h']
def great (l:List Int):Bool:=l.any fun x=>decide (4611686018427387904 < x)
theorem great_step (l:List Int) (j:Nat) (h:j < l.length):great (l.take (j + 1))=(great (l.take j) || decide (4611686018427387904 < l.getD j 0)):=by
  unfold great
  rw [List.take_succ_eq_append_getElem h,List.any_append]
  simp [List.getD,List.getElem?_eq_getElem h]
theorem great_front (l:List Int) (j:Nat) (h:great (l.take j)=true):great l=true:=by
  unfold great at *
  rw [List.any_eq_true] at *
  obtain ⟨x,hx,h⟩:=h
  exact ⟨x,List.mem_of_mem_take hx,h⟩
theorem tooGreat_any (v:Value) (xs:List Int) (w:World) (B:Nat) (hv:IR w B .u64 v xs) (hx:∀ x∈xs,0≤x∧x≤18446744073709551615) :
    Calls Tryz.prog 77 #[v] w fun e w'=>e=.returned (.bool (great xs))∧w=w':=by
  obtain ⟨A,c,rfl,hlc,hcm⟩:=hv.form
  unfold maxLen at hcm
  go_enter Tryz.func77,Tryz.ntmps77
  go_wp2
  go_loop [7] (fun i=>∃ j:Nat,j≤xs.length∧i=.int .i64 j∧great (xs.take j)=false) (fun i=>xs.length - (intOf i).toNat)
  case atStart=>exact ⟨0,by omega,rfl,by simp [great]⟩
  case round=>
    obtain ⟨j,hj,rfl,hg⟩:=hrel
    have HG:=Lib.hid hg
    clear hg
    by_cases hl:j < xs.length
    · obtain ⟨b,off,rfl,hb,hcell⟩:=IR.index hv j hl
      have hs:=great_step xs j hl
      rw [HG.out,Bool.false_or] at hs
      have hu:=hx (xs.getD j 0) (by simp [List.getD,List.getElem?_eq_getElem hl])
      generalize xs.getD j 0=u at *
      have HS:=Lib.hid hs
      clear hs
      have hd:decide ((j:Int) < (xs.length:Int))=true:=by simp;omega
      by_cases hgu:4611686018427387904 < u
      · go_wp2
        go_ret
        exact ⟨by rw [great_front xs (j + 1) (by rw [HS.out,decide_eq_true hgu])];rfl,rfl⟩
      · go_wp2
        go_round
        case rel=>exact ⟨j + 1,by omega,by go_num,by rw [HS.out];simpa using hgu⟩
        case measure=>simp [intOf];omega
    · have hd:decide ((j:Int) < (xs.length:Int))=false:=by simp;omega
      go_wp2
      go_ret
      have:=HG.out
      rw [List.take_of_length_le (by omega)] at this
      exact ⟨by rw [this];rfl,rfl⟩
def addS (a b:Int):Int × Int:=if 4611686018427387904 < a∨4611686018427387904 < b∨4611686018427387904 < a + b then (0,30) else (a + b,0)
theorem great_two (a b:Int):great [a,b]=(decide (4611686018427387904 < a) || decide (4611686018427387904 < b)):=by simp [great]
theorem range_two {a b:Int} (ha:0≤a∧a≤18446744073709551615) (hb:0≤b∧b≤18446744073709551615):∀ x∈[a,b],0≤x∧x≤18446744073709551615:=by
  intro x hx;simp at hx;rcases hx with rfl | rfl
  · exact ha
  · exact hb
theorem mul64_any (x y:Int) (hx:0≤x∧x≤18446744073709551615) (hy:0≤y∧y≤18446744073709551615) (w:World) :
    Calls Tryz.prog 115 #[.int .u64 x,.int .u64 y] w fun e w'=>e=.returned (.tuple #[.int .u64 (x * y / 18446744073709551616),.int .u64 (x * y % 18446744073709551616)])∧w=w':=by
  have a1:=and_low32 x hx.1 (by omega)
  have a2:=and_low32 y hy.1 (by omega)
  go_enter Tryz.func115,Tryz.ntmps115
  go_wp2
  go_ret2
  refine ⟨ret_pair ?_ ?_,rfl⟩
  · have e:=mul64_arith x y hx.1 (by omega) hy.1 (by omega)
    rw [← e]
    rw [and_low32 _ (by rw [IntKind.wrap_u64];omega) (by rw [IntKind.wrap_u64];omega)]
    simp only [IntKind.wrap_u64]
  · show IntKind.u64.wrap _=_
    rw [IntKind.wrap_u64]
def timesS (a n:Int):Int × Int:=if 4611686018427387904 < a∨4611686018427387904 < a * n then (0,30) else (a * n,0)
theorem mul_bd (x y:Int) (hx:0≤x∧x≤18446744073709551615) (hy:0≤y∧y≤18446744073709551615) :
    (0≤x * y / 18446744073709551616∧x * y / 18446744073709551616≤18446744073709551615)∧0≤x * y % 18446744073709551616∧x * y % 18446744073709551616≤18446744073709551615:=by
  have h0:0≤x * y:=Int.mul_nonneg hx.1 hy.1
  have h1:x * y≤18446744073709551615 * 18446744073709551615:=Int.mul_le_mul hx.2 hy.2 hy.1 (by omega)
  omega
theorem times_any (a n:Int) (ha:0≤a∧a≤18446744073709551615) (hn:0≤n∧n≤18446744073709551615) (w:World) :
    Calls Tryz.prog 112 #[.int .u64 a,.int .u64 n] w fun e w'=>e=.returned (.tuple #[.int .u64 (timesS a n).1,.int .u16 (timesS a n).2])∧Below w.heap.size w w':=by
  obtain ⟨⟨hh0,hh1⟩,hl0,hl1⟩:=mul_bd a n ha hn
  have hp0:0≤a * n:=Int.mul_nonneg ha.1 hn.1
  obtain ⟨H,hH⟩:∃ H,a * n / 18446744073709551616=H:=⟨_,rfl⟩
  obtain ⟨L,hL⟩:∃ L,a * n % 18446744073709551616=L:=⟨_,rfl⟩
  have hm:=mul64_any a n ha hn w
  rw [hH] at hm hh0 hh1
  rw [hL] at hm hl0 hl1
  have HM:=Lib.hid hm
  have hsum:a * n=H * 18446744073709551616 + L:=by omega
  have HS:=Lib.hid hsum
  clear hm hsum hH hL
  have hv:IR (w.alloc (.cells #[.int .u64 a,.int .u64 L] 27)) (w.heap.size + 1) .u64 (.slice (some ⟨w.heap.size,0,none⟩) 2 2) [a,L]:=IR.lit w .u64 [a,L] 27 (by simp)
  by_cases hg:great [a,L]=true
  · have hs:timesS a n=(0,30):=by
      rw [great_two] at hg
      simp at hg
      unfold timesS
      rw [if_pos]
      have:=HS.out
      omega
    have HT:=Lib.hid hs
    clear hs
    go_enter Tryz.func112,Tryz.ntmps112
    go_wp2_with fail
    (with_reducible refine HM.out.mono ?_)
    rintro e w' ⟨rfl,rfl⟩
    go_wp2_with fail
    (with_reducible refine (tooGreat_any _ [a,L] _ _ hv (range_two ha ⟨hl0,hl1⟩)).mono ?_)
    rintro e w' ⟨rfl,rfl⟩
    rw [hg]
    clear hg hv
    go_wp2
    go_ret2
    exact ⟨ret_pair (by rw [HT.out]) (by rw [HT.out]),(Below.refl _ _).alloc (Nat.le_refl _) _⟩
  · have hg':great [a,L]=false:=by simpa using hg
    have hq:=hg'
    rw [great_two] at hq
    simp at hq
    obtain ⟨hq1,hq2⟩:=hq
    clear hg
    by_cases hz:H=0
    · have hs:timesS a n=(L,0):=by
        unfold timesS
        have:=HS.out
        rw [hz] at this
        rw [if_neg (by omega)]
        simp;omega
      have HT:=Lib.hid hs
      subst hz
      clear hs
      go_enter Tryz.func112,Tryz.ntmps112
      go_wp2_with fail
      (with_reducible refine HM.out.mono ?_)
      rintro e w' ⟨rfl,rfl⟩
      go_wp2_with fail
      (with_reducible refine (tooGreat_any _ [a,L] _ _ hv (range_two ha ⟨hl0,hl1⟩)).mono ?_)
      rintro e w' ⟨rfl,rfl⟩
      rw [hg']
      clear hg' hv
      go_wp2
      go_ret2
      exact ⟨ret_pair (by rw [HT.out]) (by rw [HT.out]),(Below.refl _ _).alloc (Nat.le_refl _) _⟩
    · have hs:timesS a n=(0,30):=by
        unfold timesS
        have:=HS.out
        rw [if_pos (by omega)]
      have HT:=Lib.hid hs
      have hne:(H != 0)=true:=by simpa using hz
      clear hs
      go_enter Tryz.func112,Tryz.ntmps112
      go_wp2_with fail
      (with_reducible refine HM.out.mono ?_)
      rintro e w' ⟨rfl,rfl⟩
      go_wp2_with fail
      (with_reducible refine (tooGreat_any _ [a,L] _ _ hv (range_two ha ⟨hl0,hl1⟩)).mono ?_)
      rintro e w' ⟨rfl,rfl⟩
      rw [hg']
      clear hg' hv
      go_wp2
      go_ret2
      exact ⟨ret_pair (by rw [HT.out]) (by rw [HT.out]),(Below.refl _ _).alloc (Nat.le_refl _) _⟩
end Go.Proofs.YtabckmadpdchnaaGreat.Money
namespace Go.Proofs.YtabckmadpdchnaaGreat.Money
open Go.ChangeShapes Go.WideShapes Go.ChangeAt Go.RowKit Go.IntWalk Go.Proofs.Mem
theorem add_any (a b:Int) (ha:0≤a∧a≤18446744073709551615) (hb:0≤b∧b≤18446744073709551615) (w:World) :
    Calls Tryz.prog 54 #[.int .u64 a,.int .u64 b] w fun e w'=>e=.returned (.tuple #[.int .u64 (addS a b).1,.int .u16 (addS a b).2])∧Below w.heap.size w w':=by
  have hv:IR (w.alloc (.cells #[.int .u64 a,.int .u64 b] 27)) (w.heap.size + 1) .u64 (.slice (some ⟨w.heap.size,0,none⟩) 2 2) [a,b]:=IR.lit w .u64 [a,b] 27 (by simp)
  by_cases h:4611686018427387904 < a∨4611686018427387904 < b
  · have hg:great [a,b]=true:=by rw [great_two];simpa using h
    have hs:addS a b=(0,30):=by unfold addS;rw [if_pos (by omega)]
    have HS:=Lib.hid hs
    clear hs h
    go_enter Tryz.func54,Tryz.ntmps54
    go_wp2_with fail
    (with_reducible refine (tooGreat_any _ [a,b] _ _ hv (range_two ha hb)).mono ?_)
    rintro e w' ⟨rfl,rfl⟩
    rw [hg]
    clear hg hv
    go_wp2
    go_ret2
    exact ⟨ret_pair (by rw [HS.out]) (by rw [HS.out]),(Below.refl _ _).alloc (Nat.le_refl _) _⟩
  · have hg:great [a,b]=false:=by rw [great_two];simpa using h
    have h1:a≤4611686018427387904:=by omega
    have h2:b≤4611686018427387904:=by omega
    clear h
    by_cases h3:4611686018427387904 < a + b
    · have hs:addS a b=(0,30):=by unfold addS;rw [if_pos (by omega)]
      have HS:=Lib.hid hs
      clear hs
      go_enter Tryz.func54,Tryz.ntmps54
      go_wp2_with fail
      (with_reducible refine (tooGreat_any _ [a,b] _ _ hv (range_two ha hb)).mono ?_)
      rintro e w' ⟨rfl,rfl⟩
      rw [hg]
      clear hg hv
      go_wp2
      go_ret2
      exact ⟨ret_pair (by rw [HS.out]) (by rw [HS.out]),(Below.refl _ _).alloc (Nat.le_refl _) _⟩
    · have hs:addS a b=(a + b,0):=by unfold addS;rw [if_neg (by omega)]
      have HS:=Lib.hid hs
      clear hs
      go_enter Tryz.func54,Tryz.ntmps54
      go_wp2_with fail
      (with_reducible refine (tooGreat_any _ [a,b] _ _ hv (range_two ha hb)).mono ?_)
      rintro e w' ⟨rfl,rfl⟩
      rw [hg]
      clear hg hv
      go_wp2
      go_ret2
      exact ⟨ret_pair (by rw [HS.out]) (by rw [HS.out]),(Below.refl _ _).alloc (Nat.le_refl _) _⟩
def subS (a b:Int):Int × Int:=if 4611686018427387904 < a∨4611686018427387904 < b then (0,30) else if a < b then (0,31) else (a - b,0)
theorem sub_any (a b:Int) (ha:0≤a∧a≤18446744073709551615) (hb:0≤b∧b≤18446744073709551615) (w:World) :
    Calls Tryz.prog 104 #[.int .u64 a,.int .u64 b] w fun e w'=>e=.returned (.tuple #[.int .u64 (subS a b).1,.int .u16 (subS a b).2])∧Below w.heap.size w w':=by
  have hv:IR (w.alloc (.cells #[.int .u64 a,.int .u64 b] 27)) (w.heap.size + 1) .u64 (.slice (some ⟨w.heap.size,0,none⟩) 2 2) [a,b]:=IR.lit w .u64 [a,b] 27 (by simp)
  by_cases h:4611686018427387904 < a∨4611686018427387904 < b
  · have hg:great [a,b]=true:=by rw [great_two];simpa using h
    have hs:subS a b=(0,30):=by unfold subS;rw [if_pos (by omega)]
    have HS:=Lib.hid hs
    clear hs h
    go_enter Tryz.func104,Tryz.ntmps104
    go_wp2_with fail
    (with_reducible refine (tooGreat_any _ [a,b] _ _ hv (range_two ha hb)).mono ?_)
    rintro e w' ⟨rfl,rfl⟩
    rw [hg]
    clear hg hv
    go_wp2
    go_ret2
    exact ⟨ret_pair (by rw [HS.out]) (by rw [HS.out]),(Below.refl _ _).alloc (Nat.le_refl _) _⟩
  · have hg:great [a,b]=false:=by rw [great_two];simpa using h
    have h1:a≤4611686018427387904:=by omega
    have h2:b≤4611686018427387904:=by omega
    clear h
    by_cases h3:a < b
    · have hs:subS a b=(0,31):=by unfold subS;rw [if_neg (by omega),if_pos h3]
      have HS:=Lib.hid hs
      clear hs
      go_enter Tryz.func104,Tryz.ntmps104
      go_wp2_with fail
      (with_reducible refine (tooGreat_any _ [a,b] _ _ hv (range_two ha hb)).mono ?_)
      rintro e w' ⟨rfl,rfl⟩
      rw [hg]
      clear hg hv
      go_wp2
      go_ret2
      exact ⟨ret_pair (by rw [HS.out]) (by rw [HS.out]),(Below.refl _ _).alloc (Nat.le_refl _) _⟩
    · have hs:subS a b=(a - b,0):=by unfold subS;rw [if_neg (by omega),if_neg h3]
      have HS:=Lib.hid hs
      clear hs
      go_enter Tryz.func104,Tryz.ntmps104
      go_wp2_with fail
      (with_reducible refine (tooGreat_any _ [a,b] _ _ hv (range_two ha hb)).mono ?_)
      rintro e w' ⟨rfl,rfl⟩
      rw [hg]
      clear hg hv
      go_wp2
      go_ret2
      exact ⟨ret_pair (by rw [HS.out]) (by rw [HS.out]),(Below.refl _ _).alloc (Nat.le_refl _) _⟩
end Go.Proofs.YtabckmadpdchnaaGreat.Money
namespace Go.Proofs.Mem
open Go.RowKit Go.WideShapes Go.ChangeShapes Go.Deep
def SS {α:Type} (F:α→List Value) (sz:Nat) (w:World) (B:Nat) (v:Value) (xs:List α):Prop:=
  ∃ A c,v=.slice A xs.length c∧xs.length≤c∧c≤maxLen ∧
    ∀ i x,xs[i]?=some x→∃ b off,A=some ⟨b,off,none⟩∧b < B∧∀ j u,(F x)[j]?=some u→w.cell? ⟨b,off + i * sz + j,none⟩=some u
section
variable {α:Type} {F:α→List Value} {sz:Nat} {w w':World} {B B':Nat} {v:Value} {xs:List α}
theorem SS.nil (w:World) (B:Nat):SS F sz w B (.slice none 0 0) []:=⟨none,0,rfl,Nat.le_refl _,Nat.zero_le _,fun i x h=>by simp at h⟩
theorem SS.form (h:SS F sz w B v xs):∃ A c,v=.slice A xs.length c∧xs.length≤c∧c≤maxLen:=by
  obtain ⟨A,c,h1,h2,h3,_⟩:=h
  exact ⟨A,c,h1,h2,h3⟩
theorem SS.keep (h:SS F sz w B v xs) (hk:∀ p:Addr,p.block < B→w'.cell? p=w.cell? p):SS F sz w' B v xs:=by
  obtain ⟨A,c,h1,h2,h3,h5⟩:=h
  refine ⟨A,c,h1,h2,h3,fun i x hx=>?_⟩
  obtain ⟨b,off,e,hb,hc⟩:=h5 i x hx
  exact ⟨b,off,e,hb,fun j u hu=>(hk _ hb).trans (hc j u hu)⟩
theorem SS.more (h:SS F sz w B v xs) (hB:B≤B'):SS F sz w B' v xs:=by
  obtain ⟨A,c,h1,h2,h3,h5⟩:=h
  refine ⟨A,c,h1,h2,h3,fun i x hx=>?_⟩
  obtain ⟨b,off,e,hb,hc⟩:=h5 i x hx
  exact ⟨b,off,e,by omega,hc⟩
theorem SS.below (h:SS F sz w B v xs) (hb:Below B w w'):SS F sz w' B v xs:=h.keep fun _ hp=>hb.cell hp
theorem SS.at_ {A:Option Addr} {c n:Nat} (h:SS F sz w B (.slice A n c) xs) {i:Nat} {x:α} (hx:xs[i]?=some x):∃ b off,A=some ⟨b,off,none⟩∧b < B∧∀ j u,(F x)[j]?=some u→w.cell? ⟨b,off + i * sz + j,none⟩=some u:=by
  obtain ⟨A',c',e,_,_,h5⟩:=h
  injection e with e1 e2 e3
  subst e1
  exact h5 i x hx
end
section
variable {H:Type} {enc:TypeId × Value→H} {P:Program} {w:World}
theorem open_SS {α:Type} (F:α→List Value) (Q:α→Prop) {t e:TypeId} {sz:Nat} {v:Value} {d:DataW H} {p:List MemPlace} {r:Reach} {b0:Nat} (ht:P.underlying t=some (.slice e)) (hC:P.cellsOf e=sz) (hsz:0 < sz)
    (hel:∀ (cs:List Value) n y,cs.length=sz→DataW.trod enc P w 0 (fun _=>true) true n e cs=some y→∃ x,cs=F x∧Q x)
    (hv:Value.okWide P w r b0 t v) (h:DataW.Trod enc P w 0 (fun _=>true) true t v d p):∃ xs:List α,SS F sz w w.heap.size v xs∧∀ x∈xs,Q x:=by
  obtain ⟨a,len,cap,rfl⟩:=okWide_slice ht hv
  obtain ⟨fuel,hf⟩:=h
  rcases open_slice ht hf with ⟨hcs,_⟩ | ⟨x,l,c,m,n,D,Pl,hcs,_,hl,hm,hmm,_,hi⟩
  · simp [Value.cells] at hcs
    obtain ⟨rfl,rfl,rfl⟩:=hcs
    exact ⟨[],SS.nil _ _,fun n hn=>by cases hn⟩
  · simp [Value.cells] at hcs
    obtain ⟨rfl,rfl,rfl⟩:=hcs
    simp at hmm
    subst hmm
    have each:∀ i:Fin len,∃ y:α,(F y).length=sz∧Q y∧∀ j,j < sz→w.cell? ((x.add (i.1 * sz)).add j)=(F y)[j]?:=fun i=>by
      obtain ⟨cs',hc,ht'⟩:=hi i.1 (by have:=i.2;omega)
      rw [hC] at hc
      obtain ⟨_,hlen,hat⟩:=World.cells?_some hc
      obtain ⟨y,rfl,hq⟩:=hel cs' n _ hlen ht'
      exact ⟨y,hlen,hq,hat⟩
    obtain ⟨f,hf⟩:=Classical.skolem.1 each
    refine ⟨List.ofFn f,⟨some x,m,by rw [List.length_ofFn],by rw [List.length_ofFn];exact hl,hm,fun i y hy=>?_⟩,fun y hy=>?_⟩
    · have hil:i < len:=by
        have:=(List.getElem?_eq_some_iff.1 hy).1
        rwa [List.length_ofFn] at this
      obtain ⟨b,off,spot⟩:=x
      have hs:spot=none:=by
        obtain ⟨h1,_,h3⟩:=hf ⟨0,by omega⟩
        have h4:=h3 0 hsz
        rw [List.getElem?_eq_getElem (by omega)] at h4
        simpa [Addr.add] using World.cell?_spot h4
      subst hs
      obtain ⟨h1,_,h3⟩:=hf ⟨i,hil⟩
      rw [List.getElem?_ofFn] at hy
      simp [hil] at hy
      have hcell:∀ j u,(F y)[j]?=some u→w.cell? ⟨b,off + i * sz + j,none⟩=some u:=fun j u hu=>by
        rw [hy] at h1 h3
        have hj:j < sz:=by rw [← h1];exact (List.getElem?_eq_some_iff.1 hu).1
        have h4:=h3 j hj
        rw [Go.WideShapes.add_plain,Go.WideShapes.add_plain] at h4
        exact h4.trans hu
      refine ⟨b,off,rfl,?_,hcell⟩
      have h5:=hcell 0 ((F y)[0]'(by rw [hy] at h1;omega)) (List.getElem?_eq_getElem _)
      rcases Nat.lt_or_ge b w.heap.size with h6 | h6
      · exact h6
      · unfold World.cell? at h5
        simp [Array.getElem?_eq_none h6] at h5
    · obtain ⟨i,rfl⟩:=(List.mem_ofFn (f:=f)).1 hy
      exact (hf i).2.1
end
end Go.Proofs.Mem
namespace Go.Proofs.YtabckmadpdchnaaGreat.Rule
open Go.ChangeShapes Go.WideShapes Go.ChangeAt Go.RowKit Go.IntWalk Go.Proofs.Mem
theorem look_miss (w:World) (g:Nat) (q:Ot) (A:Option Addr) (l c:Nat) (i:Nat) (p:Value) (hb:WorkAt w g q (.slice A l c) i p) (hi:l≤i) (hm:i≤1000000) (k a b:Int) :
    Calls Tryz.prog 79 #[.pointer (some ⟨g,7,none⟩),.agg #[.int .u8 k,.int .u32 a,.int .u32 b]] w fun e w'=>e=.panicked (raiseK k a b)∧Below w.heap.size w w':=by
  have hlt:=hb.lt
  obtain ⟨c0,c1,c2,c3,c4,c5,c6,c7,c8,c9⟩:=wc_of hb
  have d1:decide ((l:Int)≤(i:Int))=true:=decide_eq_true (by omega)
  clear hb c0 c1 c2 c3 c4 c5 c6 c9
  go_enter Tryz.func79,Tryz.ntmps79
  go_wp2
  go_quiet (fail)
  go_wp2
  exact ⟨rfl,rfl,below_drewN (new_ (new_ (Below.refl _ _) _) _) _⟩
def thing (a b k x y:Int) (q:Bool):Array Value:=#[.int .u64 a,.int .u64 b,.int .u8 k,.int .u32 x,.int .u32 y,.bool q]
theorem look_hit (w:World) (g:Nat) (q:Ot) (b0 o0:Nat) (l c:Nat) (i:Nat) (p:Value) (hb:WorkAt w g q (.slice (some ⟨b0,o0,none⟩) l c) i p) (hi:i < l) (hl:l≤c) (hm:c≤9223372036854775807) (k a b:Int)
    (k' a' b' A B:Int) (is:Bool) (hbg:b0≠g) (h0:w.cell? ⟨b0,o0 + i * 6,none⟩=some (.int .u8 k')) (h1:w.cell? ⟨b0,o0 + i * 6 + 1,none⟩=some (.int .u32 a')) (h2:w.cell? ⟨b0,o0 + i * 6 + 2,none⟩=some (.int .u32 b'))
    (h3:w.cell? ⟨b0,o0 + i * 6 + 3,none⟩=some (.int .u64 A)) (h4:w.cell? ⟨b0,o0 + i * 6 + 4,none⟩=some (.int .u64 B)) (h5:w.cell? ⟨b0,o0 + i * 6 + 5,none⟩=some (.bool is)) :
    Calls Tryz.prog 79 #[.pointer (some ⟨g,7,none⟩),.agg #[.int .u8 k,.int .u32 a,.int .u32 b]] w fun e w'=>e=.returned (.agg (thing (if is then A else 0) (if is then B else 0) k a b is))∧WorkAt w' g q (.slice (some ⟨b0,o0,none⟩) l c) (i + 1:Nat) p∧Fr (fun x=>x=g) w w':=by
  have hlt:=hb.lt
  have HB:=Lib.hid hb
  obtain ⟨c0,c1,c2,c3,c4,c5,c6,c7,c8,c9⟩:=wc_of hb
  have f8:=hb.frozen 8
  have d1:decide ((l:Int)≤(i:Int))=false:=decide_eq_false (by omega)
  have hbl:=Law.lt_of_cell h0
  have t1:(0:Int)≤(i:Int):=by omega
  have t2:(i:Int) < (l:Int):=by omega
  clear hb c0 c1 c2 c3 c4 c5 c6 c9
  cases is
  · go_enter Tryz.func79,Tryz.ntmps79
    go_wp2
    go_quiet (fail)
    go_wp2
    obtain ⟨W2,hW2⟩:∃ W2,((w.alloc (.cells #[.int .u8 k,.int .u32 a,.int .u32 b] 49)).alloc (.cells #[.int .u64 0,.int .u64 0,.int .u8 0,.int .u32 0,.int .u32 0,.bool false] 130)).drewN nq=W2:=⟨_,rfl⟩
    have HW:=Lib.hid (show Below w.heap.size w W2 by rw [← hW2];exact below_drewN (new_ (new_ (Below.refl _ _) _) _) _)
    have hz2:W2.heap.size=w.heap.size + 2:=by rw [← hW2];simp
    have kb:Box W2 w.heap.size #[.int .u8 k,.int .u32 a,.int .u32 b] 49:=by rw [← hW2];exact ((Box.new _ _ _).alloc _).drewN _
    have tb:Box W2 (w.heap.size + 1) #[.int .u64 0,.int .u64 0,.int .u8 0,.int .u32 0,.int .u32 0,.bool false] 130:=by
      rw [← hW2]
      have:=Box.new (w.alloc (.cells #[.int .u8 k,.int .u32 a,.int .u32 b] 49)) #[.int .u64 0,.int .u64 0,.int .u8 0,.int .u32 0,.int .u32 0,.bool false] 130
      rw [World.size_alloc] at this
      exact this.drewN _
    have wb:WorkAt W2 g q (.slice (some ⟨b0,o0,none⟩) l c) i p:=HB.out.below HW.out hlt
    have c7':=(HW.out.cell (p:=⟨g,7,none⟩) (by exact hlt)).trans c7
    have c8':=(HW.out.cell (p:=⟨g,8,none⟩) (by exact hlt)).trans c8
    have h0':=(HW.out.cell (p:=⟨b0,o0 + i * 6,none⟩) (by exact hbl)).trans h0
    have h1':=(HW.out.cell (p:=⟨b0,o0 + i * 6 + 1,none⟩) (by exact hbl)).trans h1
    have h2':=(HW.out.cell (p:=⟨b0,o0 + i * 6 + 2,none⟩) (by exact hbl)).trans h2
    have h3':=(HW.out.cell (p:=⟨b0,o0 + i * 6 + 3,none⟩) (by exact hbl)).trans h3
    have h4':=(HW.out.cell (p:=⟨b0,o0 + i * 6 + 4,none⟩) (by exact hbl)).trans h4
    have h5':=(HW.out.cell (p:=⟨b0,o0 + i * 6 + 5,none⟩) (by exact hbl)).trans h5
    have f8':=wb.frozen 8
    have nc7:=(World.cell?_alloc_lt W2 (.cells #[.int .u8 0,.int .u32 0,.int .u32 0,.int .u64 0,.int .u64 0,.bool false] 53) _ (by show g < W2.heap.size;skip;omega)).trans c7'
    have nc8:=(World.cell?_alloc_lt W2 (.cells #[.int .u8 0,.int .u32 0,.int .u32 0,.int .u64 0,.int .u64 0,.bool false] 53) _ (by show g < W2.heap.size;skip;omega)).trans c8'
    have nh0:=(World.cell?_alloc_lt W2 (.cells #[.int .u8 0,.int .u32 0,.int .u32 0,.int .u64 0,.int .u64 0,.bool false] 53) _ (by show b0 < W2.heap.size;have:b0 < w.heap.size:=hbl;omega)).trans h0'
    have nh1:=(World.cell?_alloc_lt W2 (.cells #[.int .u8 0,.int .u32 0,.int .u32 0,.int .u64 0,.int .u64 0,.bool false] 53) _ (by show b0 < W2.heap.size;have:b0 < w.heap.size:=hbl;omega)).trans h1'
    have nh2:=(World.cell?_alloc_lt W2 (.cells #[.int .u8 0,.int .u32 0,.int .u32 0,.int .u64 0,.int .u64 0,.bool false] 53) _ (by show b0 < W2.heap.size;have:b0 < w.heap.size:=hbl;omega)).trans h2'
    have nh3:=(World.cell?_alloc_lt W2 (.cells #[.int .u8 0,.int .u32 0,.int .u32 0,.int .u64 0,.int .u64 0,.bool false] 53) _ (by show b0 < W2.heap.size;have:b0 < w.heap.size:=hbl;omega)).trans h3'
    have nh4:=(World.cell?_alloc_lt W2 (.cells #[.int .u8 0,.int .u32 0,.int .u32 0,.int .u64 0,.int .u64 0,.bool false] 53) _ (by show b0 < W2.heap.size;have:b0 < w.heap.size:=hbl;omega)).trans h4'
    have nh5:=(World.cell?_alloc_lt W2 (.cells #[.int .u8 0,.int .u32 0,.int .u32 0,.int .u64 0,.int .u64 0,.bool false] 53) _ (by show b0 < W2.heap.size;have:b0 < w.heap.size:=hbl;omega)).trans h5'
    rw [hW2]
    have WB:=Lib.hid wb
    have KB:=Lib.hid kb
    have TB:=Lib.hid tb
    have HZ:=Lib.hid hz2
    clear hW2 wb kb tb c7 c8 h0 h1 h2 h3 h4 h5 f8 hz2
    go_region
    all_goals
      obtain ⟨W3,hW3⟩:∃ W3,(W2.alloc (.cells #[.int .u8 k',.int .u32 a',.int .u32 b',.int .u64 A,.int .u64 B,.bool false] 53)).drew=W3:=⟨_,rfl⟩
      have s3:Below W2.heap.size W2 W3:=by rw [← hW3];exact Below.drew (new_ (Below.refl _ _) _)
      have cb:Box W3 W2.heap.size #[.int .u8 k',.int .u32 a',.int .u32 b',.int .u64 A,.int .u64 B,.bool false] 53:=by rw [← hW3];exact (Box.new _ _ _).drew
      have wb3:=WB.out.later s3
      have kb3:=KB.out.later s3
      have tb3:=TB.out.later s3
      have u8:=wb3.cell 8
      have g8:=wb3.frozen 8
      have kk0:=kb3.cell 0
      have kk1:=kb3.cell 1
      have kk2:=kb3.cell 2
      have e3:=cb.cell 3
      have e4:=cb.cell 4
      have e5:=cb.cell 5
      have q0:=tb3.cell 0
      have r0:=tb3.frozen 0
      have q1:=tb3.cell 1
      have r1:=tb3.frozen 1
      have q2:=tb3.cell 2
      have r2:=tb3.frozen 2
      have q3:=tb3.cell 3
      have r3:=tb3.frozen 3
      have q4:=tb3.cell 4
      have r4:=tb3.frozen 4
      have q5:=tb3.cell 5
      have r5:=tb3.frozen 5
      have hz3:g < w.heap.size∧w.heap.size + 2=W2.heap.size:=⟨hlt,HZ.out.symm⟩
      simp only [wk,List.getElem?_toArray,List.getElem?_cons_zero,List.getElem?_cons_succ] at u8 kk0 kk1 kk2 e3 e4 e5 q0 q1 q2 q3 q4 q5
      have WB3:=Lib.hid wb3
      have TB3:=Lib.hid tb3
      have HW3:=Lib.hid (HW.out.trans (s3.mono HW.out.size))
      have ng1:¬ g=w.heap.size:=by omega
      have ng2:¬ g=w.heap.size + 1:=by omega
      have ng3:¬ g=W2.heap.size:=by omega
      have ng4:¬ W2.heap.size=g:=by omega
      have ng5:¬ w.heap.size=g:=by omega
      have ng6:¬ w.heap.size + 1=g:=by omega
      rw [hW3]
      clear hW3 s3 cb wb3 kb3 tb3 hz3
      go_wp2
      generalize hW:(World.setCell _ (⟨w.heap.size + 1,5,none⟩:Addr) _)=W9
      have hf:Fr (fun x=>x=g∨x=w.heap.size + 1) W3 W9:=by
        rw [← hW]
        exact ((((((((Fr.refl _ W3).setCell (p:=⟨g,8,none⟩) (.inl (.inl rfl)) _).setCell (p:=⟨w.heap.size + 1,0,none⟩) (.inl (.inr rfl)) _).setCell (p:=⟨w.heap.size + 1,1,none⟩) (.inl (.inr rfl)) _).setCell (p:=⟨w.heap.size + 1,2,none⟩) (.inl (.inr rfl)) _).setCell (p:=⟨w.heap.size + 1,3,none⟩) (.inl (.inr rfl)) _).setCell (p:=⟨w.heap.size + 1,4,none⟩) (.inl (.inr rfl)) _).setCell (p:=⟨w.heap.size + 1,5,none⟩) (.inl (.inr rfl)) _)
      have wb9:WorkAt W9 g q (.slice (some ⟨b0,o0,none⟩) l c) (i + 1:Nat) p:=by
        rw [← hW]
        exact (((((((WB3.out.set_ 8 _).far (p:=⟨w.heap.size + 1,0,none⟩) (by show g≠w.heap.size + 1;omega) _).far (p:=⟨w.heap.size + 1,1,none⟩) (by show g≠w.heap.size + 1;omega) _).far (p:=⟨w.heap.size + 1,2,none⟩) (by show g≠w.heap.size + 1;omega) _).far (p:=⟨w.heap.size + 1,3,none⟩) (by show g≠w.heap.size + 1;omega) _).far (p:=⟨w.heap.size + 1,4,none⟩) (by show g≠w.heap.size + 1;omega) _).far (p:=⟨w.heap.size + 1,5,none⟩) (by show g≠w.heap.size + 1;omega) _)
      have tb9:Box W9 (w.heap.size + 1) #[.int .u64 0,.int .u64 0,.int .u8 k,.int .u32 a,.int .u32 b,.bool false] 130:=by
        rw [← hW]
        exact (((((((TB3.out.far (p:=⟨g,8,none⟩) (by show w.heap.size + 1≠g;omega) _).set_ 0 _).set_ 1 _).set_ 2 _).set_ 3 _).set_ 4 _).set_ 5 _)
      have v0:=tb9.cell 0
      have v1:=tb9.cell 1
      have v2:=tb9.cell 2
      have v3:=tb9.cell 3
      have v4:=tb9.cell 4
      have v5:=tb9.cell 5
      simp only [List.getElem?_toArray,List.getElem?_cons_zero,List.getElem?_cons_succ] at v0 v1 v2 v3 v4 v5
      clear hW
      refine bodyPost_ret (v:=.agg #[.int .u64 0,.int .u64 0,.int .u8 k,.int .u32 a,.int .u32 b,.bool false]) (by simp [results,Tryz.results79,go_sem,v0,v1,v2,v3,v4,v5];try rfl) rfl ?_
      exact ⟨rfl,wb9,((Fr.of_below HW3.out).trans' hf (fun x hx h=>by rcases h with h | h <;> first | exact h | (exfalso;omega)))⟩
  · go_enter Tryz.func79,Tryz.ntmps79
    go_wp2
    go_quiet (fail)
    go_wp2
    obtain ⟨W2,hW2⟩:∃ W2,((w.alloc (.cells #[.int .u8 k,.int .u32 a,.int .u32 b] 49)).alloc (.cells #[.int .u64 0,.int .u64 0,.int .u8 0,.int .u32 0,.int .u32 0,.bool false] 130)).drewN nq=W2:=⟨_,rfl⟩
    have HW:=Lib.hid (show Below w.heap.size w W2 by rw [← hW2];exact below_drewN (new_ (new_ (Below.refl _ _) _) _) _)
    have hz2:W2.heap.size=w.heap.size + 2:=by rw [← hW2];simp
    have kb:Box W2 w.heap.size #[.int .u8 k,.int .u32 a,.int .u32 b] 49:=by rw [← hW2];exact ((Box.new _ _ _).alloc _).drewN _
    have tb:Box W2 (w.heap.size + 1) #[.int .u64 0,.int .u64 0,.int .u8 0,.int .u32 0,.int .u32 0,.bool false] 130:=by
      rw [← hW2]
      have:=Box.new (w.alloc (.cells #[.int .u8 k,.int .u32 a,.int .u32 b] 49)) #[.int .u64 0,.int .u64 0,.int .u8 0,.int .u32 0,.int .u32 0,.bool false] 130
      rw [World.size_alloc] at this
      exact this.drewN _
    have wb:WorkAt W2 g q (.slice (some ⟨b0,o0,none⟩) l c) i p:=HB.out.below HW.out hlt
    have c7':=(HW.out.cell (p:=⟨g,7,none⟩) (by exact hlt)).trans c7
    have c8':=(HW.out.cell (p:=⟨g,8,none⟩) (by exact hlt)).trans c8
    have h0':=(HW.out.cell (p:=⟨b0,o0 + i * 6,none⟩) (by exact hbl)).trans h0
    have h1':=(HW.out.cell (p:=⟨b0,o0 + i * 6 + 1,none⟩) (by exact hbl)).trans h1
    have h2':=(HW.out.cell (p:=⟨b0,o0 + i * 6 + 2,none⟩) (by exact hbl)).trans h2
    have h3':=(HW.out.cell (p:=⟨b0,o0 + i * 6 + 3,none⟩) (by exact hbl)).trans h3
    have h4':=(HW.out.cell (p:=⟨b0,o0 + i * 6 + 4,none⟩) (by exact hbl)).trans h4
    have h5':=(HW.out.cell (p:=⟨b0,o0 + i * 6 + 5,none⟩) (by exact hbl)).trans h5
    have f8':=wb.frozen 8
    have nc7:=(World.cell?_alloc_lt W2 (.cells #[.int .u8 0,.int .u32 0,.int .u32 0,.int .u64 0,.int .u64 0,.bool false] 53) _ (by show g < W2.heap.size;skip;omega)).trans c7'
    have nc8:=(World.cell?_alloc_lt W2 (.cells #[.int .u8 0,.int .u32 0,.int .u32 0,.int .u64 0,.int .u64 0,.bool false] 53) _ (by show g < W2.heap.size;skip;omega)).trans c8'
    have nh0:=(World.cell?_alloc_lt W2 (.cells #[.int .u8 0,.int .u32 0,.int .u32 0,.int .u64 0,.int .u64 0,.bool false] 53) _ (by show b0 < W2.heap.size;have:b0 < w.heap.size:=hbl;omega)).trans h0'
    have nh1:=(World.cell?_alloc_lt W2 (.cells #[.int .u8 0,.int .u32 0,.int .u32 0,.int .u64 0,.int .u64 0,.bool false] 53) _ (by show b0 < W2.heap.size;have:b0 < w.heap.size:=hbl;omega)).trans h1'
    have nh2:=(World.cell?_alloc_lt W2 (.cells #[.int .u8 0,.int .u32 0,.int .u32 0,.int .u64 0,.int .u64 0,.bool false] 53) _ (by show b0 < W2.heap.size;have:b0 < w.heap.size:=hbl;omega)).trans h2'
    have nh3:=(World.cell?_alloc_lt W2 (.cells #[.int .u8 0,.int .u32 0,.int .u32 0,.int .u64 0,.int .u64 0,.bool false] 53) _ (by show b0 < W2.heap.size;have:b0 < w.heap.size:=hbl;omega)).trans h3'
    have nh4:=(World.cell?_alloc_lt W2 (.cells #[.int .u8 0,.int .u32 0,.int .u32 0,.int .u64 0,.int .u64 0,.bool false] 53) _ (by show b0 < W2.heap.size;have:b0 < w.heap.size:=hbl;omega)).trans h4'
    have nh5:=(World.cell?_alloc_lt W2 (.cells #[.int .u8 0,.int .u32 0,.int .u32 0,.int .u64 0,.int .u64 0,.bool false] 53) _ (by show b0 < W2.heap.size;have:b0 < w.heap.size:=hbl;omega)).trans h5'
    rw [hW2]
    have WB:=Lib.hid wb
    have KB:=Lib.hid kb
    have TB:=Lib.hid tb
    have HZ:=Lib.hid hz2
    clear hW2 wb kb tb c7 c8 h0 h1 h2 h3 h4 h5 f8 hz2
    go_region
    all_goals
      obtain ⟨W3,hW3⟩:∃ W3,(W2.alloc (.cells #[.int .u8 k',.int .u32 a',.int .u32 b',.int .u64 A,.int .u64 B,.bool true] 53)).drew=W3:=⟨_,rfl⟩
      have s3:Below W2.heap.size W2 W3:=by rw [← hW3];exact Below.drew (new_ (Below.refl _ _) _)
      have cb:Box W3 W2.heap.size #[.int .u8 k',.int .u32 a',.int .u32 b',.int .u64 A,.int .u64 B,.bool true] 53:=by rw [← hW3];exact (Box.new _ _ _).drew
      have wb3:=WB.out.later s3
      have kb3:=KB.out.later s3
      have tb3:=TB.out.later s3
      have u8:=wb3.cell 8
      have g8:=wb3.frozen 8
      have kk0:=kb3.cell 0
      have kk1:=kb3.cell 1
      have kk2:=kb3.cell 2
      have e3:=cb.cell 3
      have e4:=cb.cell 4
      have e5:=cb.cell 5
      have q0:=tb3.cell 0
      have r0:=tb3.frozen 0
      have q1:=tb3.cell 1
      have r1:=tb3.frozen 1
      have q2:=tb3.cell 2
      have r2:=tb3.frozen 2
      have q3:=tb3.cell 3
      have r3:=tb3.frozen 3
      have q4:=tb3.cell 4
      have r4:=tb3.frozen 4
      have q5:=tb3.cell 5
      have r5:=tb3.frozen 5
      have hz3:g < w.heap.size∧w.heap.size + 2=W2.heap.size:=⟨hlt,HZ.out.symm⟩
      simp only [wk,List.getElem?_toArray,List.getElem?_cons_zero,List.getElem?_cons_succ] at u8 kk0 kk1 kk2 e3 e4 e5 q0 q1 q2 q3 q4 q5
      have WB3:=Lib.hid wb3
      have TB3:=Lib.hid tb3
      have HW3:=Lib.hid (HW.out.trans (s3.mono HW.out.size))
      have ng1:¬ g=w.heap.size:=by omega
      have ng2:¬ g=w.heap.size + 1:=by omega
      have ng3:¬ g=W2.heap.size:=by omega
      have ng4:¬ W2.heap.size=g:=by omega
      have ng5:¬ w.heap.size=g:=by omega
      have ng6:¬ w.heap.size + 1=g:=by omega
      rw [hW3]
      clear hW3 s3 cb wb3 kb3 tb3 hz3
      go_wp2
      generalize hW:(World.setCell _ (⟨w.heap.size + 1,5,none⟩:Addr) _)=W9
      have hf:Fr (fun x=>x=g∨x=w.heap.size + 1) W3 W9:=by
        rw [← hW]
        exact ((((((((Fr.refl _ W3).setCell (p:=⟨g,8,none⟩) (.inl (.inl rfl)) _).setCell (p:=⟨w.heap.size + 1,0,none⟩) (.inl (.inr rfl)) _).setCell (p:=⟨w.heap.size + 1,1,none⟩) (.inl (.inr rfl)) _).setCell (p:=⟨w.heap.size + 1,2,none⟩) (.inl (.inr rfl)) _).setCell (p:=⟨w.heap.size + 1,3,none⟩) (.inl (.inr rfl)) _).setCell (p:=⟨w.heap.size + 1,4,none⟩) (.inl (.inr rfl)) _).setCell (p:=⟨w.heap.size + 1,5,none⟩) (.inl (.inr rfl)) _)
      have wb9:WorkAt W9 g q (.slice (some ⟨b0,o0,none⟩) l c) (i + 1:Nat) p:=by
        rw [← hW]
        exact (((((((WB3.out.set_ 8 _).far (p:=⟨w.heap.size + 1,0,none⟩) (by show g≠w.heap.size + 1;omega) _).far (p:=⟨w.heap.size + 1,1,none⟩) (by show g≠w.heap.size + 1;omega) _).far (p:=⟨w.heap.size + 1,2,none⟩) (by show g≠w.heap.size + 1;omega) _).far (p:=⟨w.heap.size + 1,3,none⟩) (by show g≠w.heap.size + 1;omega) _).far (p:=⟨w.heap.size + 1,4,none⟩) (by show g≠w.heap.size + 1;omega) _).far (p:=⟨w.heap.size + 1,5,none⟩) (by show g≠w.heap.size + 1;omega) _)
      have tb9:Box W9 (w.heap.size + 1) #[.int .u64 A,.int .u64 B,.int .u8 k,.int .u32 a,.int .u32 b,.bool true] 130:=by
        rw [← hW]
        exact (((((((TB3.out.far (p:=⟨g,8,none⟩) (by show w.heap.size + 1≠g;omega) _).set_ 0 _).set_ 1 _).set_ 2 _).set_ 3 _).set_ 4 _).set_ 5 _)
      have v0:=tb9.cell 0
      have v1:=tb9.cell 1
      have v2:=tb9.cell 2
      have v3:=tb9.cell 3
      have v4:=tb9.cell 4
      have v5:=tb9.cell 5
      simp only [List.getElem?_toArray,List.getElem?_cons_zero,List.getElem?_cons_succ] at v0 v1 v2 v3 v4 v5
      clear hW
      refine bodyPost_ret (v:=.agg #[.int .u64 A,.int .u64 B,.int .u8 k,.int .u32 a,.int .u32 b,.bool true]) (by simp [results,Tryz.results79,go_sem,v0,v1,v2,v3,v4,v5];try rfl) rfl ?_
      exact ⟨rfl,wb9,((Fr.of_below HW3.out).trans' hf (fun x hx h=>by rcases h with h | h <;> first | exact h | (exfalso;omega)))⟩
end Go.Proofs.YtabckmadpdchnaaGreat.Rule
namespace Go.Proofs.Mem
open Go.RowKit Go.WideShapes
def Sc (A B:World):Prop:=∀ (g:Nat) (C:Array Value) (t:TypeId) (f:Nat × Nat),A.heap[g]?=some (Obj.cells C t f)→B.heap[g]?=some (Obj.cells C t f)
section
variable {A B D w w':World} {base top n:Nat}
theorem Sc.refl (A:World):Sc A A:=fun _ _ _ _ h=>h
theorem Sc.trans (h:Sc A B) (k:Sc B D):Sc A D:=fun g C t f e=>k g C t f (h g C t f e)
theorem Sc.of_below (h:Below A.heap.size A B):Sc A B:=fun g C t f e=>(h.block g (Array.getElem?_eq_some_iff.1 e).1).trans e
theorem own_sc {e:TypeId} {size:Nat} {v:Value} {xs:List Value} (h:A.ownsRow base e size v n xs) (s:Sc A B):B.ownsRow base e size v n xs:=by
  refine ⟨h.1,?_⟩
  rcases h.2 with hn | ⟨g,cap,cur,rfl,hb,hgg,rest⟩
  · exact .inl hn
  · exact .inr ⟨g,cap,cur,rfl,hb,s _ _ _ _ hgg,rest⟩
theorem Box.sc {g:Nat} {C:Array Value} {t:TypeId} (h:Box A g C t) (s:Sc A B):Box B g C t:=s _ _ _ _ h
theorem cell_sc {p:Addr} {v:Value} (h:A.cell? p=some v) (s:Sc A B):B.cell? p=some v:=by
  unfold World.cell? at h ⊢
  cases e:A.heap[p.block]? with
  | none=>rw [e] at h;simp at h
  | some o=>
    cases o with
    | cells C t f=>rw [s _ _ _ _ e];rw [e] at h;exact h
    | _=>rw [e] at h;simp at h
theorem IR.sc {k:IntKind} {v:Value} {xs:List Int} (h:IR A top k v xs) (s:Sc A B):IR B top k v xs:=by
  obtain ⟨a,c,h1,h2,h3,h4,h5⟩:=h
  refine ⟨a,c,h1,h2,h3,h4,fun i hi=>?_⟩
  obtain ⟨b,off,e,hb,hc⟩:=h5 i hi
  exact ⟨b,off,e,hb,cell_sc hc s⟩
theorem SR.sc {v:Value} {vs:List (Value × List Int)} (h:SR A top v vs) (s:Sc A B):SR B top v vs:=by
  obtain ⟨a,c,h1,h2,h3,h5⟩:=h
  refine ⟨a,c,h1,h2,h3,fun i hi=>?_⟩
  obtain ⟨b,off,u,xs,e,hb,hv,hc,hr,hx⟩:=h5 i hi
  exact ⟨b,off,u,xs,e,hb,hv,cell_sc hc s,hr.sc s,hx⟩
structure RowAt (Tu:TypeId) (w:World) (base:Nat) (g:Nat) (u:Value) (xs:List Int):Prop where
  form:∃ cap,u=.slice (some ⟨g,0,none⟩) xs.length cap
  own:w.ownsRow base Tu 1 u xs.length (xs.map (.int .u8))
theorem RowAt.of_own {Tu:TypeId} {u:Value} {xs:List Int} (h:w.ownsRow base Tu 1 u xs.length (xs.map (.int .u8))) (hx:0 < xs.length):∃ g,RowAt Tu w base g u xs∧base≤g∧g < w.heap.size:=by
  rcases h.2 with ⟨_,hn⟩ | ⟨g,cap,cur,rfl,hb,hgg,rest⟩
  · omega
  · exact ⟨g,⟨⟨cap,rfl⟩,h⟩,hb,(Array.getElem?_eq_some_iff.1 hgg).1⟩
theorem RowAt.sc {Tu:TypeId} {g:Nat} {u:Value} {xs:List Int} (h:RowAt Tu A base g u xs) (s:Sc A B):RowAt Tu B base g u xs:=⟨h.form,own_sc h.own s⟩
theorem RowAt.heap {Tu:TypeId} {g:Nat} {u:Value} {xs:List Int} (h:RowAt Tu w base g u xs):∃ cur cap,u=.slice (some ⟨g,0,none⟩) xs.length cap∧base≤g∧w.heap[g]?=some (.cells cur Tu (0,0))∧xs.length≤cap∧cur.size=cap∧cap≤maxLen∧cur.toList.take xs.length=xs.map (.int .u8):=by
  obtain ⟨cap,rfl⟩:=h.form
  rcases h.own.2 with ⟨hn,_⟩ | ⟨g',cap',cur,e,hb,hgg,h1,h2,h3,h4⟩
  · cases hn
  · injection e with e1 e2 e3
    injection e1 with e1
    injection e1 with e1
    subst e1 e3
    exact ⟨cur,_,rfl,hb,hgg,h1,by omega,h2,by simpa using h4⟩
theorem RowAt.far {Tu:TypeId} {g:Nat} {u:Value} {xs:List Int} {row:Option Nat} (h:RowAt Tu A base g u xs) (hg:A.grownBy B row) (hne:row≠some g):RowAt Tu B base g u xs:=by
  refine ⟨h.form,h.own.kept hg (.inr ?_)⟩
  obtain ⟨cap,rfl⟩:=h.form
  simpa [Value.ownBlock] using Ne.symm hne
theorem RowAt.ir {Tu:TypeId} {g:Nat} {u:Value} {xs:List Int} (h:RowAt Tu w base g u xs):IR w (g + 1) .u8 u xs:=by
  obtain ⟨a,c,h1,h2,h3,h4,h5⟩:=IR.of_own h.own
  obtain ⟨cap,rfl⟩:=h.form
  injection h1 with e1 e2 e3
  subst e1 e3
  refine ⟨_,_,rfl,h2,h3,h4,fun i hi=>?_⟩
  obtain ⟨b,off,e,hb,hc⟩:=h5 i hi
  injection e with e
  injection e with e1 e2
  subst e1 e2
  exact ⟨_,_,rfl,by omega,hc⟩
abbrev Rw:=Nat × Value × List Int
structure Tab (Tu Ts:TypeId) (w:World) (base top:Nat) (v:Value) (l:List Rw):Prop where
  outer:w.ownsRow base Ts 1 v l.length (l.map (·.2.1))
  rows:∀ p∈l,RowAt Tu w base p.1 p.2.1 p.2.2∧p.1 < top
  apart:l.Pairwise (fun p q=>p.1≠q.1)
  vtop:∀ g,v.ownBlock=some g→g < top
variable {Tu Ts:TypeId} {v:Value} {l:List Rw}
theorem Tab.sc (h:Tab Tu Ts A base top v l) (s:Sc A B):Tab Tu Ts B base top v l:=⟨own_sc h.outer s,fun p hp=>⟨(h.rows p hp).1.sc s,(h.rows p hp).2⟩,h.apart,h.vtop⟩
theorem Tab.later (h:Tab Tu Ts A base top v l) (hb:Below A.heap.size A B):Tab Tu Ts B base top v l:=h.sc (.of_below hb)
theorem Tab.drew (h:Tab Tu Ts A base top v l):Tab Tu Ts A.drew base top v l:=h.sc (Sc.of_below (Below.drew (Below.refl _ _)))
theorem Tab.more {top':Nat} (h:Tab Tu Ts A base top v l) (ht:top≤top'):Tab Tu Ts A base top' v l:=⟨h.outer,fun p hp=>⟨(h.rows p hp).1,by have:=(h.rows p hp).2;omega⟩,h.apart,fun g hg=>by have:=h.vtop g hg;omega⟩
theorem Tab.below (h:Tab Tu Ts A base top v l) (hb:Below top A B):Tab Tu Ts B base top v l:=by
  have hg:∀ (g:Nat) (C:Array Value) (t:TypeId) (f:Nat × Nat),g < top→A.heap[g]?=some (Obj.cells C t f)→B.heap[g]?=some (Obj.cells C t f):=fun g C t f hlt e=>(hb.block g hlt).trans e
  refine ⟨?_,fun p hp=>?_,h.apart,h.vtop⟩
  · refine ⟨h.outer.1,?_⟩
    rcases h.outer.2 with hn | ⟨g,cap,cur,e,hb',hgg,rest⟩
    · exact .inl hn
    · exact .inr ⟨g,cap,cur,e,hb',hg g _ _ _ (h.vtop g (by rw [e];rfl)) hgg,rest⟩
  · obtain ⟨hr,hlt⟩:=h.rows p hp
    obtain ⟨cur,cap,e,hb',hgg,_⟩:=hr.heap
    refine ⟨⟨hr.form,hr.own.1,?_⟩,hlt⟩
    rcases hr.own.2 with hn | ⟨g,cap,cur,e',hb',hgg,rest⟩
    · exact .inl hn
    · refine .inr ⟨g,cap,cur,e',hb',hg g _ _ _ ?_ hgg,rest⟩
      rw [e] at e'
      injection e' with e1
      injection e1 with e1
      injection e1 with e1
      omega
theorem Tab.nil (w:World) (base top:Nat):Tab Tu Ts w base top (.slice none 0 0) []:=⟨World.ownsRow_nil _ _ _ _,(fun p hp=>by cases hp),List.Pairwise.nil,(fun g hg=>by cases hg)⟩
theorem Tab.push {g:Nat} {u v':Value} {xs:List Int} (h:Tab Tu Ts A base top v l) (ht:Tu≠Ts) (hr:RowAt Tu A top g u xs) (hbt:base≤top) (hgt:g < B.heap.size)
    (ho:B.ownsRow base Ts 1 v' (l.length + 1) (l.map (·.2.1)++[u])) (hg:A.grownBy B v.ownBlock) (hlt:top≤B.heap.size):Tab Tu Ts B base B.heap.size v' (l++[(g,u,xs)]):=by
  have hv:∀ p∈l++[(g,u,xs)],RowAt Tu A base p.1 p.2.1 p.2.2:=fun p hp=>by
    rcases List.mem_append.1 hp with hp | hp
    · exact (h.rows p hp).1
    · rw [List.mem_singleton.1 hp];exact ⟨hr.form,own_lower hr.own hbt⟩
  have hne:∀ p∈l++[(g,u,xs)],v.ownBlock≠some p.1:=fun p hp e=>by
    obtain ⟨cur,cap,e',hb',hgg,_⟩:=(hv p hp).heap
    rcases h.outer.2 with ⟨hn,_⟩ | ⟨g',cap',cur',e2,_,hgg',_⟩
    · rw [hn] at e;cases e
    · rw [e2] at e
      injection e with e
      simp only at e
      rw [e] at hgg'
      rw [hgg] at hgg'
      injection hgg' with hgg'
      injection hgg' with _ e3 _
      exact ht e3
  refine ⟨by simpa using ho,fun p hp=>⟨(hv p hp).far hg (hne p hp),?_⟩,?_,fun g' hg'=>?_⟩
  · rcases List.mem_append.1 hp with hp | hp
    · have:=(h.rows p hp).2;omega
    · rw [List.mem_singleton.1 hp];exact hgt
  · refine List.pairwise_append.2 ⟨h.apart,List.pairwise_singleton _ _,fun p hp q hq=>?_⟩
    rw [List.mem_singleton.1 hq]
    have:=(h.rows p hp).2
    obtain ⟨_,_,_,hb',_⟩:=hr.heap
    show p.1≠g
    omega
  · rcases ho.2 with ⟨hn,_⟩ | ⟨g2,cap',cur',e2,_,hgg',_⟩
    · rw [hn] at hg';cases hg'
    · rw [e2] at hg'
      injection hg' with hg'
      simp only at hg'
      rw [← hg']
      exact (Array.getElem?_eq_some_iff.1 hgg').1
theorem Tab.sr (h:Tab Tu Ts w base top v l) (hx:∀ p∈l,Bytes p.2.2):SR w top v (l.map (·.2)):=by
  rcases h.outer.2 with ⟨rfl,hn⟩ | ⟨g,cap,cur,rfl,hb,hgg,h1,h2,h3,h4⟩
  · have:l=[]:=List.eq_nil_of_length_eq_zero hn
    subst this
    exact SR.nil _ _
  · refine ⟨some ⟨g,0,none⟩,cap,by rw [List.length_map],by rw [List.length_map];exact h1,h2,fun i hi=>?_⟩
    rw [List.length_map] at hi
    have hp:l[i]∈l:=List.getElem_mem hi
    obtain ⟨hr,hlt⟩:=h.rows _ hp
    refine ⟨g,0,l[i].2.1,l[i].2.2,rfl,h.vtop g rfl,by simp [List.getElem?_eq_getElem hi],?_,hr.ir.more (by omega),hx _ hp⟩
    have hc:cur.toList[i]?=some l[i].2.1:=by
      have:=congrArg (fun z=>z[i]?) h4
      simp only [Nat.mul_one,List.getElem?_take,hi,if_true] at this
      rw [this]
      simp [List.getElem?_eq_getElem hi]
    rw [Nat.zero_add]
    unfold World.cell?
    rw [hgg]
    simpa using hc
theorem Tab.value (h:Tab Tu Ts w base top v l):v=.slice none 0 0∧l=[]∨∃ g cap,v=.slice (some ⟨g,0,none⟩) l.length cap∧base≤g∧g < top:=by
  rcases h.outer.2 with ⟨rfl,hn⟩ | ⟨g,cap,cur,rfl,hb,hgg,h1,h2,h3,h4⟩
  · exact .inl ⟨rfl,List.eq_nil_of_length_eq_zero hn⟩
  · exact .inr ⟨g,cap,rfl,hb,h.vtop g rfl⟩
theorem Box.grown {g:Nat} {C:Array Value} {t:TypeId} {row:Option Nat} (h:Box A g C t) (hg:A.grownBy B row) (hne:row≠some g):Box B g C t:=(hg.block g h.lt (Ne.symm hne)).trans h
theorem grownBy_set (w:World) (p:Addr) (u:Value):w.grownBy (w.setCell p u) (some p.block):=
  ⟨rfl,rfl,rfl,by simp [World.setCell],fun k _ hk=>Below.heap_setCell w p u k (fun e=>hk (by rw [e]))⟩
end
end Go.Proofs.Mem
namespace Go.Proofs.YtabckmadpdchnaaGreat.Rule
open Go.ChangeShapes Go.WideShapes Go.ChangeAt Go.RowKit Go.IntWalk Go.Proofs.Mem
attribute [local go_sem ↓] Go.wp_at_zero Go.wp_at_succ
theorem own_frs {A B:World} {S:Nat→Prop} {base n size:Nat} {e:TypeId} {v:Value} {us:List Value} (h:A.ownsRow base e size v n us) (hf:Fr S A B) (hn:∀ g,v.ownBlock=some g→¬ S g):B.ownsRow base e size v n us:=by
  refine ⟨h.1,?_⟩
  rcases h.2 with h0 | ⟨g,cap,cur,rfl,hb,hg,rest⟩
  · exact .inl h0
  · exact .inr ⟨g,cap,cur,rfl,hb,(hf.block g (Array.getElem?_eq_some_iff.1 hg).1 (hn g rfl)).trans hg,rest⟩
theorem own_not_box {W:World} {base n size g:Nat} {e t:TypeId} {v:Value} {us:List Value} {C:Array Value} (h:W.ownsRow base e size v n us) (hb:Box W g C t) (ht:t≠e):v.ownBlock≠some g:=fun e1=>by
  rcases h.2 with ⟨rfl,_⟩ | ⟨g',cap,cur,rfl,_,hg,_⟩
  · cases e1
  · injection e1 with e1
    simp only at e1
    unfold Box at hb
    rw [e1,hb] at hg
    injection hg with hg
    injection hg with _ h2 _
    exact ht h2
structure CellAt (w:World) (b0 o:Nat) (k a b A B:Int) (is:Bool):Prop where
  h0:w.cell? ⟨b0,o,none⟩=some (.int .u8 k)
  h1:w.cell? ⟨b0,o + 1,none⟩=some (.int .u32 a)
  h2:w.cell? ⟨b0,o + 2,none⟩=some (.int .u32 b)
  h3:w.cell? ⟨b0,o + 3,none⟩=some (.int .u64 A)
  h4:w.cell? ⟨b0,o + 4,none⟩=some (.int .u64 B)
  h5:w.cell? ⟨b0,o + 5,none⟩=some (.bool is)
theorem CellAt.below {w w':World} {b0 o Bn:Nat} {k a b A B:Int} {is:Bool} (h:CellAt w b0 o k a b A B is) (hb:Below Bn w w') (hlt:b0 < Bn):CellAt w' b0 o k a b A B is:=by
  have e:∀ x,w'.cell? ⟨b0,x,none⟩=w.cell? ⟨b0,x,none⟩:=fun x=>hb.cell (p:=⟨b0,x,none⟩) hlt
  exact ⟨(e _).trans h.h0,(e _).trans h.h1,(e _).trans h.h2,(e _).trans h.h3,(e _).trans h.h4,(e _).trans h.h5⟩
theorem there_miss (w:World) (g:Nat) (q:Ot) (A:Option Addr) (l c:Nat) (i:Nat) (p:Value) (hb:WorkAt w g q (.slice A l c) i p) (hi:l≤i) (hm:i≤1000000) (k a b:Int) :
    Calls Tryz.prog 82 #[.pointer (some ⟨g,7,none⟩),.agg #[.int .u8 k,.int .u32 a,.int .u32 b]] w fun e w'=>e=.panicked (raiseK k a b)∧Below w.heap.size w w':=by
  have HB:=Lib.hid ((hb.alloc (.cells #[.int .u8 k,.int .u32 a,.int .u32 b] 49)).alloc (.cells #[.int .u64 0,.int .u64 0,.int .u8 0,.int .u32 0,.int .u32 0,.bool false] 130))
  clear hb
  go_enter Tryz.func82,Tryz.ntmps82
  go_wp2_with (go_at_call 79;(with_reducible refine (look_miss _ _ _ _ _ _ _ _ HB.out hi hm _ _ _).mono ?_);rintro e w1 ⟨rfl,hb1⟩)
  exact ⟨rfl,rfl,(new_ (new_ (Below.refl _ _) _) _).trans (hb1.mono (by simp;omega))⟩
theorem there_hit (w:World) (g:Nat) (q:Ot) (b0 o0:Nat) (l c:Nat) (i:Nat) (p:Value) (hb:WorkAt w g q (.slice (some ⟨b0,o0,none⟩) l c) i p) (hi:i < l) (hl:l≤c) (hm:c≤9223372036854775807) (k a b:Int)
    (k' a' b' A B:Int) (hbg:b0≠g) (hc:CellAt w b0 (o0 + i * 6) k' a' b' A B true) :
    Calls Tryz.prog 82 #[.pointer (some ⟨g,7,none⟩),.agg #[.int .u8 k,.int .u32 a,.int .u32 b]] w fun e w'=>e=.returned (.agg (thing A B k a b true))∧WorkAt w' g q (.slice (some ⟨b0,o0,none⟩) l c) (i + 1:Nat) p∧Fr (fun x=>x=g) w w':=by
  have hlt:=hb.lt
  have hb2:=(hb.alloc (.cells #[.int .u8 k,.int .u32 a,.int .u32 b] 49)).alloc (.cells #[.int .u64 0,.int .u64 0,.int .u8 0,.int .u32 0,.int .u32 0,.bool false] 130)
  have hc2:=hc.below (new_ (new_ (Below.refl w.heap.size w) (.cells #[.int .u8 k,.int .u32 a,.int .u32 b] 49)) (.cells #[.int .u64 0,.int .u64 0,.int .u8 0,.int .u32 0,.int .u32 0,.bool false] 130)) (Law.lt_of_cell hc.h0)
  have call:=look_hit _ g q b0 o0 l c i p hb2 hi hl hm k a b k' a' b' A B true hbg hc2.h0 hc2.h1 hc2.h2 hc2.h3 hc2.h4 hc2.h5
  simp only [if_true] at call
  unfold thing at call
  have CALL:=Lib.hid call
  have tb:=Box.new (w.alloc (.cells #[.int .u8 k,.int .u32 a,.int .u32 b] 49)) #[.int .u64 0,.int .u64 0,.int .u8 0,.int .u32 0,.int .u32 0,.bool false] 130
  rw [World.size_alloc] at tb
  have TB:=Lib.hid tb
  clear hb hb2 hc hc2 call tb
  go_enter Tryz.func82,Tryz.ntmps82
  go_wp2_with (first
    | (go_at_call 79;(with_reducible refine CALL.out.mono ?_);rintro e w1 ⟨rfl,wb1,fr1⟩
       have tb1:=TB.out.fr fr1 (by omega)
       have zz1:w.heap.size + 2≤w1.heap.size:=(by have:=fr1.size;simp at this;omega)
       have tb2:=tb1.alloc (.cells #[.int .u64 A,.int .u64 B,.int .u8 k,.int .u32 a,.int .u32 b,.bool true] 130)
       have q0:=tb2.cell 0
       have q1:=tb2.cell 1
       have q2:=tb2.cell 2
       have q3:=tb2.cell 3
       have q4:=tb2.cell 4
       have q5:=tb2.cell 5
       have r0:=tb2.frozen 0
       have r1:=tb2.frozen 1
       have r2:=tb2.frozen 2
       have r3:=tb2.frozen 3
       have r4:=tb2.frozen 4
       have r5:=tb2.frozen 5
       simp only [List.getElem?_toArray,List.getElem?_cons_zero,List.getElem?_cons_succ] at q0 q1 q2 q3 q4 q5
       have WB1:=Lib.hid wb1
       have FR1:=Lib.hid fr1
       have TB2:=Lib.hid tb2
       clear wb1 fr1 tb1 tb2)
    | (go_at_call 60;(with_reducible refine (deny_no 211 _).mono ?_);rintro e w2 ⟨rfl,rfl⟩))
  obtain ⟨W3,hW3⟩:∃ W3,w1.alloc (.cells #[.int .u64 A,.int .u64 B,.int .u8 k,.int .u32 a,.int .u32 b,.bool true] 130)=W3:=⟨_,rfl⟩
  have tb3:Box W3 (w.heap.size + 1) #[.int .u64 0,.int .u64 0,.int .u8 0,.int .u32 0,.int .u32 0,.bool false] 130:=by rw [← hW3];exact TB2.out
  have wb3:WorkAt W3 g q (.slice (some ⟨b0,o0,none⟩) l c) (i + 1:Nat) p:=by rw [← hW3];exact WB1.out.alloc _
  have fr3:Fr (fun x=>x=g) w W3:=by
    rw [← hW3];exact (((Fr.of_below (new_ (new_ (Below.refl w.heap.size w) _) _)).trans FR1.out).alloc _)
  rw [hW3]
  generalize hW:(World.setCell _ (⟨w.heap.size + 1,5,none⟩:Addr) _)=W9
  have hf:Fr (fun x=>x=w.heap.size + 1) W3 W9:=by
    rw [← hW]
    exact (((((((Fr.refl (fun x=>x=w.heap.size + 1) W3).setCell (p:=⟨w.heap.size + 1,0,none⟩) (.inl rfl) _).setCell (p:=⟨w.heap.size + 1,1,none⟩) (.inl rfl) _).setCell (p:=⟨w.heap.size + 1,2,none⟩) (.inl rfl) _).setCell (p:=⟨w.heap.size + 1,3,none⟩) (.inl rfl) _).setCell (p:=⟨w.heap.size + 1,4,none⟩) (.inl rfl) _).setCell (p:=⟨w.heap.size + 1,5,none⟩) (.inl rfl) _)
  have wb9:WorkAt W9 g q (.slice (some ⟨b0,o0,none⟩) l c) (i + 1:Nat) p:=wb3.fr hf (by omega)
  have tb9:Box W9 (w.heap.size + 1) #[.int .u64 A,.int .u64 B,.int .u8 k,.int .u32 a,.int .u32 b,.bool true] 130:=by
    rw [← hW]
    exact ((((((tb3.set_ 0 _).set_ 1 _).set_ 2 _).set_ 3 _).set_ 4 _).set_ 5 _)
  have v0:=tb9.cell 0
  have v1:=tb9.cell 1
  have v2:=tb9.cell 2
  have v3:=tb9.cell 3
  have v4:=tb9.cell 4
  have v5:=tb9.cell 5
  simp only [List.getElem?_toArray,List.getElem?_cons_zero,List.getElem?_cons_succ] at v0 v1 v2 v3 v4 v5
  clear hW hW3 q0 q1 q2 q3 q4 q5 r0 r1 r2 r3 r4 r5
  refine bodyPost_ret (v:=.agg #[.int .u64 A,.int .u64 B,.int .u8 k,.int .u32 a,.int .u32 b,.bool true]) (by simp [results,Tryz.results82,go_sem,v0,v1,v2,v3,v4,v5];try rfl) rfl ?_
  exact ⟨rfl,wb9,fr3.trans' hf (fun x hx h=>by exfalso;omega)⟩
structure Pu where
  k:Int
  a:Int
  b:Int
  A:Int
  B:Int
  gone:Bool
def Pu.cells (x:Pu):List Value:=[.int .u8 x.k,.int .u32 x.a,.int .u32 x.b,.int .u64 x.A,.int .u64 x.B,.bool x.gone]
def putCells (l:List Pu):List Value:=l.flatMap Pu.cells
theorem put_info:(Tryz.prog.info? 69).map (fun i=>(i.zero,i.size,i.bytes))=some (some (.agg #[.int .u8 0,.int .u32 0,.int .u32 0,.int .u64 0,.int .u64 0,.bool false]),6,40):=by kernel_rfl
end Go.Proofs.YtabckmadpdchnaaGreat.Rule
namespace Go.Proofs.YtabckmadpdchnaaGreat.Rule
open Go.ChangeShapes Go.WideShapes Go.ChangeAt Go.RowKit Go.IntWalk Go.Proofs.Mem
attribute [local go_sem ↓] Go.wp_at_zero Go.wp_at_succ
def PutP (w:World) (g:Nat) (q:Ot) (v:Value) (i:Int) (p:Value) (base:Nat) (l:List Pu) (e:Ending) (w':World):Prop:=e=.returned (.tuple #[]) ∧
      ∃ p',WorkAt w' g q v i p'∧w'.ownsRow base 69 6 p' l.length (putCells l)∧Fr (fun x=>x=g∨p.ownBlock=some x) w w'
end Go.Proofs.YtabckmadpdchnaaGreat.Rule
namespace Go.Proofs.YtabckmadpdchnaaGreat.Rule
structure Ce where
  k:Int
  a:Int
  b:Int
  A:Int
  B:Int
  is:Bool
structure Ce.Ok (c:Ce):Prop where
  A:0≤c.A∧c.A≤18446744073709551615
  B:0≤c.B∧c.B≤18446744073709551615
def Ce.vA (c:Ce):Int:=if c.is then c.A else 0
def Ce.vB (c:Ce):Int:=if c.is then c.B else 0
inductive Tr (α:Type) where
  | ret (x:α)
  | err (e:Int)
  | look (k a b:Int) (next:Int→Int→Bool→Tr α)
def Tr.bind {α β:Type}:Tr α→(α→Tr β)→Tr β
  | .ret x,f=>f x
  | .err e,_=>.err e
  | .look k a b n,f=>.look k a b fun A B is=>(n A B is).bind f
inductive Re (α:Type) where
  | miss (k a b:Int)
  | err (e:Int)
  | ok (x:α) (i:Nat)
def runTr {α:Type} (seen:List Ce):Tr α→Nat→Re α
  | .ret x,i=>.ok x i
  | .err e,_=>.err e
  | .look k a b n,i=>match seen[i]? with
    | none=>.miss k a b
    | some c=>runTr seen (n c.vA c.vB c.is) (i + 1)
theorem runTr_bind {α β:Type} (seen:List Ce) (f:α→Tr β):∀ (t:Tr α) (i:Nat),runTr seen (t.bind f) i=match runTr seen t i with
    | .miss k a b=>.miss k a b
    | .err e=>.err e
    | .ok x j=>runTr seen (f x) j
  | .ret x,i=>rfl
  | .err e,i=>rfl
  | .look k a b n,i=>by
    have ih:=fun c:Ce=>runTr_bind seen f (n c.vA c.vB c.is) (i + 1)
    simp only [Tr.bind,runTr]
    cases seen[i]? with
    | none=>rfl
    | some c=>exact ih c
def Om (α:Type):Type:=List Pu→Tr (α × List Pu)
instance:Monad Om where
  pure x:=fun l=>.ret (x,l)
  bind m f:=fun l=>(m l).bind fun y=>f y.1 y.2
def runOm {α:Type} (seen:List Ce) (m:Om α) (i:Nat) (l:List Pu):Re (α × List Pu):=runTr seen (m l) i
theorem runOm_pure {α:Type} (seen:List Ce) (x:α) (i:Nat) (l:List Pu):runOm seen (pure x) i l=.ok (x,l) i:=rfl
theorem runOm_bind {α β:Type} (seen:List Ce) (m:Om α) (f:α→Om β) (i:Nat) (l:List Pu):runOm seen (m >>= f) i l=match runOm seen m i l with
    | .miss k a b=>.miss k a b
    | .err e=>.err e
    | .ok y j=>runOm seen (f y.1) j y.2:=by
  show runTr seen ((m l).bind fun y=>f y.1 y.2) i=_
  rw [runTr_bind]
  unfold runOm
  cases runTr seen (m l) i <;> rfl
structure Th where
  A:Int
  B:Int
  k:Int
  a:Int
  b:Int
  is:Bool
def oLook (k a b:Int):Om Th:=fun l=>.look k a b fun A B is=>.ret (⟨A,B,k,a,b,is⟩,l)
def oErr {α:Type} (e:Int):Om α:=fun _=>.err e
def oDeny (bad:Bool) (e:Int):Om Unit:=if bad then oErr e else pure ()
def oThere (k a b:Int):Om Th:=do
  let t ← oLook k a b
  oDeny (!t.is) 211
  return t
def oPut (x:Pu):Om Unit:=fun l=>.ret ((),l++[x])
def amt (k a b A:Int):Pu:=if k=3∧A=0 then ⟨k,a,b,0,0,true⟩ else ⟨k,a,b,A,0,false⟩
def oAmount (k a b A:Int):Om Unit:=oPut (amt k a b A)
def oGone (k a b:Int):Om Unit:=oPut ⟨k,a,b,0,0,true⟩
def oMore (a n:Int):Om Int:=if 4611686018427387904 < a∨4611686018427387904 < n∨4611686018427387904 < a + n then oErr 30 else pure (a + n)
def oLess (a n:Int):Om Int:=if 4611686018427387904 < a∨4611686018427387904 < n then oErr 30 else if a < n then oErr 215 else pure (a - n)
def hi32 (n:Int):Int:=n / 4294967296
def lo32 (n:Int):Int:=n % 4294967296
def pair (h l:Int):Int:=h * 4294967296 + l
def holdK (B:Int):Int:=if B=0 then 1 else 3
def holdW (B:Int):Int:=if B=0 then 0 else lo32 B
structure Rp where
  A:Int
  B:Int
  C:Int
def oOpen (q:Ot):Om Rp:=do
  let p ← oLook 1 q.wh 0
  oDeny p.is 210
  oAmount 1 q.wh 0 0
  return ⟨q.wh,0,0⟩
def oMint (q:Ot):Om Rp:=do
  let p ← oThere 1 q.wh 0
  let s ← if q.kd=2 then oMore p.A q.n else oLess p.A q.n
  oAmount 1 q.wh 0 s
  return ⟨s,0,0⟩
def oCreate (q:Ot):Om Rp:=do
  let _ ← oThere 1 q.wh 0
  let s ← oLook 3 q.wh q.wt
  let x ← if q.kd=4 then oMore s.A q.n else oLess s.A q.n
  oAmount 3 q.wh q.wt x
  return ⟨x,0,0⟩
def oDeposit (q:Ot):Om Rp:=do
  let p ← oThere 1 q.wh 0
  let b ← oLook 2 q.wh 0
  if q.kd=7 then
    let y ← oLess b.A q.n
    let x ← oMore p.A q.n
    oAmount 1 q.wh 0 x
    oAmount 2 q.wh 0 y
    return ⟨x,y,0⟩
  else
    let x ← oLess p.A q.n
    let y ← oMore b.A q.n
    oAmount 1 q.wh 0 x
    oAmount 2 q.wh 0 y
    return ⟨x,y,0⟩
def oMove (q:Ot) (k a b k' a' b':Int):Om Rp:=do
  let f ← oLook k a b
  let x ← oLess f.A q.n
  let t ← oLook k' a' b'
  let y ← oMore t.A q.n
  oAmount k a b x
  oAmount k' a' b' y
  return ⟨x,0,0⟩
def oPay (q:Ot):Om Rp:=do
  let _ ← oThere 1 q.wm 0
  oMove q 2 q.wh 0 2 q.wm 0
def oGive (q:Ot):Om Rp:=do
  let _ ← oThere 1 q.wh 0
  let _ ← oThere 1 q.wm 0
  oMove q 3 q.wh q.wt 3 q.wm q.wt
def oLookAt (q:Ot):Om Rp:=do
  let p ← oThere 1 q.wh 0
  let b ← oLook 2 q.wh 0
  let s ← oLook 3 q.wh q.wt
  return ⟨p.A,b.A,s.A⟩
def oNumber (kd:Int):Om Int:=do
  let c ← oLook 8 kd 0
  oDeny (decide (4294967295≤c.A)) 3
  return c.A + 1
def oTrade (q:Ot):Om Rp:=do
  let _ ← oThere 1 q.wh 0
  let _ ← oThere 1 q.wm 0
  let id ← oNumber 4
  oAmount 8 4 0 id
  oPut ⟨4,id,0,pair q.wh q.wm,0,false⟩
  return ⟨id,0,0⟩
def oSide (q:Ot) (A:Int):Om Int:=if q.wh=hi32 A then pure 0 else if q.wh=lo32 A then pure 1 else oErr 213
def oSettle (q:Ot) (t0 t1:Int):Om Rp:=do
  let f ← oLook 5 q.id 0
  let s ← oLook 5 q.id 1
  if f.is then
    let p ← oLook (holdK f.B) t0 (holdW f.B)
    let x ← oMore p.A f.A
    oAmount (holdK f.B) t0 (holdW f.B) x
  if s.is then
    let p ← oLook (holdK s.B) t1 (holdW s.B)
    let x ← oMore p.A s.A
    oAmount (holdK s.B) t1 (holdW s.B) x
  if f.is then oGone 5 q.id 0
  if s.is then oGone 5 q.id 1
  oGone 4 q.id 0
  return ⟨1,0,0⟩
def oAgree (q:Ot):Om Rp:=do
  let t ← oThere 4 q.id 0
  let s ← oSide q t.A
  if t.B≠2 - s∧t.B≠3 then
    oPut ⟨4,q.id,0,t.A,1 + s,false⟩
    return ⟨0,0,0⟩
  else oSettle q (lo32 t.A) (hi32 t.A)
def oBreak (q:Ot):Om Rp:=do
  let t ← oThere 4 q.id 0
  let _ ← oSide q t.A
  oSettle q (hi32 t.A) (lo32 t.A)
def oSell (q:Ot):Om Rp:=do
  let _ ← oThere 1 q.wh 0
  let s ← oLook 3 q.wh q.wt
  let x ← oLess s.A q.n
  let id ← oNumber 6
  oAmount 3 q.wh q.wt x
  oAmount 8 6 0 id
  oPut ⟨6,id,0,pair q.wh q.wt,q.n,false⟩
  oAmount 7 id 1 q.pr
  return ⟨id,0,0⟩
def oBid (q:Ot):Om Rp:=do
  let a ← oThere 6 q.id 0
  oDeny (decide (hi32 a.A=q.wh)) 213
  let pr ← oLook 7 q.id 1
  let was ← oLook 7 q.id 0
  oDeny (decide (q.n < pr.A) || was.is && decide (q.n≤was.A)) 214
  let p ← oThere 1 q.wh 0
  if was.is then
    if lo32 was.B≠q.wh then
      let o ← oLook 1 (lo32 was.B) 0
      let y ← oMore o.A was.A
      let x ← oLess p.A q.n
      oAmount 1 q.wh 0 x
      oAmount 1 (lo32 was.B) 0 y
    else
      let y ← oMore p.A was.A
      let x ← oLess y q.n
      oAmount 1 q.wh 0 x
  else
    let x ← oLess p.A q.n
    oAmount 1 q.wh 0 x
  oPut ⟨7,q.id,0,q.n,q.wh,false⟩
  return ⟨q.n,0,0⟩
def oClose (q:Ot):Om Rp:=do
  let a ← oThere 6 q.id 0
  oDeny (decide (hi32 a.A≠q.wh)) 213
  let bid ← oLook 7 q.id 0
  if bid.is then
    let p ← oLook 1 q.wh 0
    let x ← oMore p.A bid.A
    oAmount 1 q.wh 0 x
  let win:=if bid.is then lo32 bid.B else q.wh
  let s ← oLook 3 win (lo32 a.A)
  let y ← oMore s.A a.B
  oAmount 3 win (lo32 a.A) y
  oGone 6 q.id 0
  oGone 7 q.id 1
  if bid.is then oGone 7 q.id 0
  return ⟨bid.A,0,0⟩
def oOffer (q:Ot):Om Rp:=do
  let t ← oThere 4 q.id 0
  let s ← oSide q t.A
  let was ← oLook 5 q.id s
  let p ← oLook 1 q.wh 0
  if was.is∧was.B≠0 then
    let o ← oLook (holdK was.B) q.wh (holdW was.B)
    if q.n=0∨q.wt=0 then
      let y ← oMore o.A was.A
      let x ← if q.n≠0 then oLess p.A q.n else pure p.A
      oAmount 1 q.wh 0 x
      oAmount (holdK was.B) q.wh (holdW was.B) y
    else if q.wt=was.B then
      let y ← oMore o.A was.A
      let z ← oLess y q.n
      oAmount 1 q.wh 0 p.A
      oAmount (holdK was.B) q.wh (holdW was.B) z
    else
      let n ← oLook 3 q.wh q.wt
      let y ← oMore o.A was.A
      let z ← oLess n.A q.n
      oAmount 1 q.wh 0 p.A
      oAmount (holdK was.B) q.wh (holdW was.B) y
      oAmount 3 q.wh q.wt z
  else
    if q.n=0∨q.wt=0 then
      let y ← if was.is then oMore p.A was.A else pure p.A
      let x ← if q.n≠0 then oLess y q.n else pure y
      oAmount 1 q.wh 0 x
    else
      let n ← oLook 3 q.wh q.wt
      let y ← if was.is then oMore p.A was.A else pure p.A
      let z ← oLess n.A q.n
      oAmount 1 q.wh 0 y
      oAmount 3 q.wh q.wt z
  if q.n=0 then oGone 5 q.id s else oPut ⟨5,q.id,s,q.n,q.wt,false⟩
  oPut ⟨4,q.id,0,t.A,0,false⟩
  return ⟨q.n,0,0⟩
def Tr.deep {α:Type}:Nat→Tr α→Prop
  | _,.ret _=>True
  | _,.err _=>True
  | 0,.look _ _ _ _=>False
  | n + 1,.look _ _ _ f=>∀ A B is,(f A B is).deep n
end Go.Proofs.YtabckmadpdchnaaGreat.Rule
namespace Go.Proofs.YtabckmadpdchnaaGreat.Rule
theorem Tr.deep_mono {α:Type}:∀ (t:Tr α) (n m:Nat),n≤m→t.deep n→t.deep m
  | .ret _,_,_,_,_=>by unfold Tr.deep;trivial
  | .err _,_,_,_,_=>by unfold Tr.deep;trivial
  | .look _ _ _ _,0,_,_,h=>by unfold Tr.deep at h;exact h.elim
  | .look _ _ _ f,n + 1,0,hm,_=>by omega
  | .look _ _ _ f,n + 1,m + 1,hm,h=>by
    simp only [Tr.deep] at h ⊢
    exact fun A B is=>Tr.deep_mono (f A B is) n m (by omega) (h A B is)
theorem Tr.deep_bind {α β:Type} (f:α→Tr β) (b:Nat) (hf:∀ x,(f x).deep b):∀ (t:Tr α) (a:Nat),t.deep a→(t.bind f).deep (a + b)
  | .ret x,a,_=>Tr.deep_mono _ b _ (by omega) (hf x)
  | .err _,_,_=>by simp only [Tr.bind];unfold Tr.deep;trivial
  | .look _ _ _ g,0,h=>by unfold Tr.deep at h;exact h.elim
  | .look _ _ _ g,a + 1,h=>by
    simp only [Tr.deep,Tr.bind] at h ⊢
    rw [show a + 1 + b=(a + b) + 1 by omega]
    simp only [Tr.deep]
    exact fun A B is=>Tr.deep_bind f b hf (g A B is) a (h A B is)
def Om.deep {α:Type} (n:Nat) (m:Om α):Prop:=∀ l,(m l).deep n
section
variable {α β:Type} {n a b:Nat}
theorem Om.deep_mono {m:Om α} (h:Om.deep a m) (hn:a≤n):Om.deep n m:=fun l=>Tr.deep_mono _ _ _ hn (h l)
theorem Om.deep_pure (x:α):Om.deep n (pure x:Om α):=fun l=>by show (Tr.ret (x,l)).deep n;unfold Tr.deep;trivial
theorem Om.deep_err (e:Int):Om.deep n (oErr e:Om α):=fun l=>by show (Tr.err e:Tr (α × List Pu)).deep n;unfold Tr.deep;trivial
theorem Om.deep_bind {m:Om α} {f:α→Om β} (a b:Nat) (hm:Om.deep a m) (hf:∀ x,Om.deep b (f x)) (hn:a + b≤n):Om.deep n (m >>= f):=fun l=>
  Tr.deep_mono _ _ _ hn (Tr.deep_bind (fun y:α × List Pu=>f y.1 y.2) b (fun y=>hf y.1 y.2) (m l) a (hm l))
theorem Om.deep_look (x y z:Int):Om.deep 1 (oLook x y z):=fun l=>by
  unfold oLook
  simp only [Tr.deep]
  exact fun _ _ _=>trivial
theorem Om.deep_put (x:Pu):Om.deep 0 (oPut x):=fun l=>by unfold oPut;unfold Tr.deep;trivial
theorem Om.deep_deny (c:Bool) (e:Int):Om.deep 0 (oDeny c e):=by
  unfold oDeny
  split
  · exact Om.deep_err e
  · exact Om.deep_pure ()
theorem Om.deep_there (x y z:Int):Om.deep 1 (oThere x y z):=
  Om.deep_bind 1 0 (Om.deep_look x y z) (fun t=>Om.deep_bind 0 0 (Om.deep_deny _ _) (fun _=>Om.deep_pure t) (by omega)) (by omega)
theorem Om.deep_more (x y:Int):Om.deep 0 (oMore x y):=by
  unfold oMore
  split
  · exact Om.deep_err _
  · exact Om.deep_pure _
theorem Om.deep_less (x y:Int):Om.deep 0 (oLess x y):=by
  unfold oLess
  split
  · exact Om.deep_err _
  · split
    · exact Om.deep_err _
    · exact Om.deep_pure _
end
end Go.Proofs.YtabckmadpdchnaaGreat.Rule
namespace Go.Proofs.YtabckmadpdchnaaGreat.Rule
section
variable {α β:Type} {n:Nat}
theorem Om.deep_b0 {m:Om α} {f:α→Om β} (hm:Om.deep 0 m) (hf:∀ x,Om.deep n (f x)):Om.deep n (m >>= f):=Om.deep_bind 0 n hm hf (by omega)
theorem Om.deep_b1 {m:Om α} {f:α→Om β} (hm:Om.deep 1 m) (hf:∀ x,Om.deep n (f x)):Om.deep (n + 1) (m >>= f):=Om.deep_bind 1 n hm hf (by omega)
theorem Om.deep_amount (k a b A:Int):Om.deep 0 (oAmount k a b A):=Om.deep_put _
theorem Om.deep_gone (k a b:Int):Om.deep 0 (oGone k a b):=Om.deep_put _
end
theorem deep_one:(∀ (q:Ot),Om.deep 8 (oOpen q))∧(∀ (q:Ot),Om.deep 8 (oMint q))∧(∀ (q:Ot),Om.deep 8 (oCreate q))∧(∀ (q:Ot),Om.deep 8 (oDeposit q))∧(∀ (q:Ot) (k a b k2 a2 b2:Int),Om.deep 8 (oMove q k a b k2 a2 b2))∧(∀ (q:Ot),Om.deep 8 (oLookAt q))∧(∀ (kd:Int),Om.deep 1 (oNumber kd))∧(∀ (q:Ot) (A:Int),Om.deep 0 (oSide q A))∧(∀ (q:Ot) (t0 t1:Int),Om.deep 8 (oSettle q t0 t1))∧(∀ (q:Ot),Om.deep 12 (oBid q))∧(∀ (q:Ot),Om.deep 12 (oClose q)):=by
  refine ⟨?_,?_,?_,?_,?_,?_,?_,?_,?_,?_,?_⟩
  all_goals
    intros
    first | unfold oOpen | unfold oMint | unfold oCreate | unfold oDeposit | unfold oMove | unfold oLookAt | unfold oNumber | unfold oSide | unfold oSettle | unfold oBid | unfold oClose
    repeat' (first
      | with_reducible exact Om.deep_pure _
      | with_reducible exact Om.deep_err _
      | with_reducible refine Om.deep_b1 (Om.deep_there _ _ _) (fun _=>?_)
      | with_reducible refine Om.deep_b1 (Om.deep_look _ _ _) (fun _=>?_)
      | with_reducible refine Om.deep_b0 (Om.deep_more _ _) (fun _=>?_)
      | with_reducible refine Om.deep_b0 (Om.deep_less _ _) (fun _=>?_)
      | with_reducible refine Om.deep_b0 (Om.deep_deny _ _) (fun _=>?_)
      | with_reducible refine Om.deep_b0 (Om.deep_amount _ _ _ _) (fun _=>?_)
      | with_reducible refine Om.deep_b0 (Om.deep_gone _ _ _) (fun _=>?_)
      | with_reducible refine Om.deep_b0 (Om.deep_put _) (fun _=>?_)
      | with_reducible refine Om.deep_b0 (Om.deep_pure _) (fun _=>?_)
      | split
      | dsimp only)
theorem oOpen_deep (q:Ot):Om.deep 8 (oOpen q):=deep_one.1 q
theorem oMint_deep (q:Ot):Om.deep 8 (oMint q):=deep_one.2.1 q
theorem oCreate_deep (q:Ot):Om.deep 8 (oCreate q):=deep_one.2.2.1 q
theorem oDeposit_deep (q:Ot):Om.deep 8 (oDeposit q):=deep_one.2.2.2.1 q
theorem oMove_deep (q:Ot) (k a b k2 a2 b2:Int):Om.deep 8 (oMove q k a b k2 a2 b2):=deep_one.2.2.2.2.1 q k a b k2 a2 b2
theorem oLookAt_deep (q:Ot):Om.deep 8 (oLookAt q):=deep_one.2.2.2.2.2.1 q
theorem oNumber_deep (kd:Int):Om.deep 1 (oNumber kd):=deep_one.2.2.2.2.2.2.1 kd
theorem oSide_deep (q:Ot) (A:Int):Om.deep 0 (oSide q A):=deep_one.2.2.2.2.2.2.2.1 q A
theorem oSettle_deep (q:Ot) (t0 t1:Int):Om.deep 8 (oSettle q t0 t1):=deep_one.2.2.2.2.2.2.2.2.1 q t0 t1
theorem oBid_deep (q:Ot):Om.deep 12 (oBid q):=deep_one.2.2.2.2.2.2.2.2.2.1 q
theorem oClose_deep (q:Ot):Om.deep 12 (oClose q):=deep_one.2.2.2.2.2.2.2.2.2.2 q
theorem deep_two:(∀ (q:Ot),Om.deep 12 (oPay q))∧(∀ (q:Ot),Om.deep 12 (oGive q))∧(∀ (q:Ot),Om.deep 12 (oTrade q))∧(∀ (q:Ot),Om.deep 12 (oSell q))∧(∀ (q:Ot),Om.deep 12 (oBreak q))∧(∀ (q:Ot),Om.deep 12 (oAgree q))∧(∀ (q:Ot),Om.deep 12 (oOffer q)):=by
  refine ⟨?_,?_,?_,?_,?_,?_,?_⟩
  all_goals
    intros
    first | unfold oPay | unfold oGive | unfold oTrade | unfold oSell | unfold oBreak | unfold oAgree | unfold oOffer
    repeat' (first
      | with_reducible exact Om.deep_pure _
      | with_reducible exact Om.deep_err _
      | with_reducible refine Om.deep_b1 (Om.deep_there _ _ _) (fun _=>?_)
      | with_reducible refine Om.deep_b1 (Om.deep_look _ _ _) (fun _=>?_)
      | with_reducible refine Om.deep_b0 (Om.deep_more _ _) (fun _=>?_)
      | with_reducible refine Om.deep_b0 (Om.deep_less _ _) (fun _=>?_)
      | with_reducible refine Om.deep_b0 (Om.deep_deny _ _) (fun _=>?_)
      | with_reducible refine Om.deep_b0 (Om.deep_amount _ _ _ _) (fun _=>?_)
      | with_reducible refine Om.deep_b0 (Om.deep_gone _ _ _) (fun _=>?_)
      | with_reducible refine Om.deep_b0 (Om.deep_put _) (fun _=>?_)
      | with_reducible refine Om.deep_b0 (Om.deep_pure _) (fun _=>?_)
      | with_reducible refine Om.deep_b1 (oNumber_deep _) (fun _=>?_)
      | with_reducible refine Om.deep_b0 (oSide_deep _ _) (fun _=>?_)
      | with_reducible exact Om.deep_mono (oMove_deep _ _ _ _ _ _ _) (by omega)
      | with_reducible exact Om.deep_mono (oSettle_deep _ _ _) (by omega)
      | split
      | dsimp only)
theorem oPay_deep (q:Ot):Om.deep 12 (oPay q):=deep_two.1 q
theorem oGive_deep (q:Ot):Om.deep 12 (oGive q):=deep_two.2.1 q
theorem oTrade_deep (q:Ot):Om.deep 12 (oTrade q):=deep_two.2.2.1 q
theorem oSell_deep (q:Ot):Om.deep 12 (oSell q):=deep_two.2.2.2.1 q
theorem oBreak_deep (q:Ot):Om.deep 12 (oBreak q):=deep_two.2.2.2.2.1 q
theorem oAgree_deep (q:Ot):Om.deep 12 (oAgree q):=deep_two.2.2.2.2.2.1 q
theorem oOffer_deep (q:Ot):Om.deep 12 (oOffer q):=deep_two.2.2.2.2.2.2 q
end Go.Proofs.YtabckmadpdchnaaGreat.Rule
namespace Go.Proofs.YtabckmadpdchnaaGreat.Rule
def Pu.good (x:Pu):Prop:=(x.gone=true∧x.A=0∧x.B=0)∨(x.gone=false∧(x.k≠4→x.k≠6→x.A≤4611686018427387904)∧(x.k=3→x.A≠0))
def Tr.hold {α:Type} (P:α→Prop):Tr α→Prop
  | .ret x=>P x
  | .err _=>True
  | .look _ _ _ f=>∀ A B is,0≤A→A≤4611686018427387904→(f A B is).hold P
def Om.good {α:Type} (m:Om α) (P:α→Prop):Prop:=∀ l,(∀ x∈l,Pu.good x)→(m l).hold (fun y=>P y.1∧∀ x∈y.2,Pu.good x)
section
variable {α β:Type} {P:β→Prop} {Q:α→Prop}
end
end Go.Proofs.YtabckmadpdchnaaGreat.Rule
namespace Go.Proofs.YtabckmadpdchnaaGreat.Rule
open Go.ChangeShapes Go.WideShapes Go.ChangeAt Go.RowKit Go.IntWalk Go.Proofs.Mem
def itemB (n:Int):Bool:=decide (1≤n) && decide (n≤1000)
theorem item_any (n:Int) (w:World):Calls Tryz.prog 61 #[.int .u32 n] w fun e w'=>e=.returned (.bool (itemB n))∧w'=w:=by
  obtain ⟨a,ha⟩:∃ a,a=decide (1≤n):=⟨_,rfl⟩
  obtain ⟨b,hb⟩:∃ b,b=decide (n≤1000):=⟨_,rfl⟩
  have hq:itemB n=(a && b):=by unfold itemB;rw [ha,hb]
  rw [hq]
  have A:=ha.symm
  have B:=hb.symm
  clear ha hb hq
  go_enter Tryz.func61,Tryz.ntmps61
  cases a <;> cases b
  all_goals
    go_wp2
    go_ret
    exact ⟨rfl,rfl⟩
def ckE (q:Ot):Option Int:=
  if q.wh=0 then some 1
  else if q.kd=2∨q.kd=3∨q.kd=6∨q.kd=7 then (if q.n=0 then some 1 else none)
  else if q.kd=4∨q.kd=5 then (if q.n=0∨itemB q.wt=false then some 1 else none)
  else if q.kd=8 then (if q.n=0∨q.wm=0 then some 1 else if q.wm=q.wh then some 212 else none)
  else if q.kd=9 then (if q.n=0∨q.wm=0∨itemB q.wt=false then some 1 else if q.wm=q.wh then some 212 else none)
  else if q.kd=11 then (if q.wm=0 then some 1 else if q.wm=q.wh then some 212 else none)
  else if q.kd=12∨q.kd=18 then (if 1000 < q.wt then some 1 else none)
  else if q.kd=15 then (if q.n=0∨itemB q.wt=false∨4611686018427387904 < q.pr then some 1 else none)
  else if q.kd=16 then (if q.n=0∨4611686018427387904 < q.n then some 1 else none)
  else none
def CkQ (x:Option Int) (w:World) (e:Ending) (w':World):Prop:=(match x with
  | none=>e=.returned (.tuple #[])
  | some n=>e=.panicked (raise_ n))∧Below w.heap.size w w'
end Go.Proofs.YtabckmadpdchnaaGreat.Rule
namespace Go.Proofs.Mem
open Go.RowKit Go.WideShapes
end Go.Proofs.Mem
namespace Go.Proofs.Mem
open Go.RowKit Go.WideShapes
structure RowTo (w w':World) (v v':Value):Prop where
  fr:Fr (fun x=>v.ownBlock=some x) w w'
  own:v'.ownBlock=v.ownBlock∨∃ k,v'.ownBlock=some k∧w.heap.size≤k
section
variable {a b c:World} {u v x:Value}
theorem RowTo.refl (a:World) (u:Value):RowTo a a u u:=⟨Fr.refl _ _,.inl rfl⟩
theorem RowTo.trans (h:RowTo a b u v) (k:RowTo b c v x):RowTo a c u x:=by
  refine ⟨h.fr.trans' k.fr (fun i hi hs=>?_),?_⟩
  · rcases h.own with e | ⟨m,e,hm⟩
    · exact e ▸ hs
    · rw [e] at hs;injection hs with hs;omega
  · rcases k.own with e | ⟨m,e,hm⟩
    · rcases h.own with e' | ⟨m,e',hm⟩
      · exact .inl (e.trans e')
      · exact .inr ⟨m,e.trans e',hm⟩
    · exact .inr ⟨m,e,Nat.le_trans h.fr.size hm⟩
theorem RowTo.of_below (hb:Below a.heap.size a b) (u:Value):RowTo a b u u:=⟨Fr.of_below hb,.inl rfl⟩
theorem RowTo.later (h:RowTo a b u v) (hb:Below b.heap.size b c):RowTo a c u v:=h.trans (.of_below hb v)
theorem RowTo.made {n size:Nat} {e:TypeId} {xs:List Value} (hb:Below a.heap.size a b) (ho:b.ownsRow a.heap.size e size v n xs):RowTo a b (.slice none 0 0) v:=by
  refine ⟨Fr.of_below hb,?_⟩
  cases h:v.ownBlock with
  | none=>exact .inl rfl
  | some k=>exact .inr ⟨k,rfl,(ho.lt k h).1⟩
theorem RowTo.app (hg:a.grownBy b u.ownBlock) (ho:v.ownBlock=u.ownBlock∨v.ownBlock=some a.heap.size):RowTo a b u v:=
  ⟨(Fr.refl _ _).grown hg (fun k e=>.inl e),ho.imp id (fun e=>⟨_,e,Nat.le_refl _⟩)⟩
theorem RowTo.box {m:Nat} {C:Array Value} {t:TypeId} (h:RowTo a b u v) (hb:Box a m C t) (hu:u.ownBlock≠some m):Box b m C t:=hb.fr h.fr hu
theorem RowTo.below {B:Nat} (h:RowTo a b u v) (hu:∀ k,u.ownBlock=some k→B≤k) (hB:B≤a.heap.size):Below B a b:=h.fr.to_below hu hB
theorem RowTo.all (h:RowTo a b (.slice none 0 0) v):Below a.heap.size a b:=h.below (fun k e=>by cases e) (Nat.le_refl _)
theorem RowTo.far {m:Nat} (h:RowTo a b u v) (hm:m < a.heap.size) (hu:u.ownBlock≠some m):v.ownBlock≠some m:=fun e=>by
  rcases h.own with e' | ⟨k,e',hk⟩
  · exact hu (e'.symm.trans e)
  · rw [e'] at e;injection e with e;omega
end
end Go.Proofs.Mem
namespace Go.Proofs.NumMath
open Go.RowKit Go.IntWalk
def pw (k:Nat):Int:=if k < 64 then ((2 ^ k:Nat):Int) else 0
theorem pw_zero (k:Nat) (h:64≤k):pw k=0:=by
  unfold pw;rw [if_neg (by omega)]
theorem pw_of (k:Nat) (h:k < 64):pw k=2 ^ k:=by
  unfold pw;rw [if_pos h];simp
theorem wrap_u64 (x:Int):IntKind.u64.wrap x=x % 18446744073709551616:=by
  simp [IntKind.wrap,IntKind.signed,IntKind.bits]
theorem p2 (k:Nat):(0:Int) < 2 ^ k:=Int.pow_pos (by omega)
theorem left_eq (n:Int) (b:Nat):n * 2 ^ min b 64 % 18446744073709551616=n * pw b % 18446744073709551616:=by
  by_cases h:b < 64
  · rw [pw_of b h,Nat.min_eq_left (by omega)]
  · rw [pw_zero b (by omega),Nat.min_eq_right (by omega),show (2:Int) ^ 64=18446744073709551616 from by decide,Int.mul_zero,Int.mul_emod_left];rfl
def rightS (n:Int) (b:Int):Int:=n / 2 ^ min b.toNat 64
def signedS (n bits:Int):Int:=
  if bits≤0 then 0 else if 64≤bits then wrap64 n else if n % 2 ^ bits.toNat < 2 ^ (bits.toNat - 1) then n % 2 ^ bits.toNat else n % 2 ^ bits.toNat - 2 ^ bits.toNat
def foldS (v:Int):Int:=if 0≤v then 2 * v else -2 * v - 1
def unfoldS (n:Int):Int:=if n % 2=0 then n / 2 else -(n / 2) - 1
def turnS (n:Int) (K:Nat):Int:=(n % 2 ^ (64 - K)) * 2 ^ K + n / 2 ^ (64 - K)
theorem or_join_u64 (x y:Int) (i:Nat) (hx0:0≤x) (hx1:x≤18446744073709551615) (hy0:0≤y) (hy:y < 2 ^ i) (hy1:y≤18446744073709551615) (hx:x % 2 ^ i=0):bits .or .u64 x y=x + y:=by
  obtain ⟨a,rfl⟩:=Int.eq_ofNat_of_zero_le hx0
  obtain ⟨b,rfl⟩:=Int.eq_ofNat_of_zero_le hy0
  rw [u64_or_nat a b (by omega) (by omega),nat_join i a b]
  · omega
  · have e:((2:Int) ^ i)=((2 ^ i:Nat):Int):=by simp
    rw [e] at hx;omega
  · have e:((2:Int) ^ i)=((2 ^ i:Nat):Int):=by simp
    rw [e] at hy;omega
def turnTo (n:Int) (K j:Nat):Int:=if j≤64 - K then (n % 2 ^ j) * 2 ^ K else (n % 2 ^ (64 - K)) * 2 ^ K + (n % 2 ^ j) / 2 ^ (64 - K)
end Go.Proofs.NumMath
