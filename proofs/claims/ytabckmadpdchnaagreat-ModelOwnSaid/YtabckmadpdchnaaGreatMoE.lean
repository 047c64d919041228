import Derived.Test.YtabckmadpdchnaaGreatMoD
set_option linter.unusedVariables false
set_option linter.deprecated false
set_option linter.unusedSimpArgs false
set_option linter.unnecessarySimpa false
namespace Go.Proofs.YtabckmadpdchnaaGreat.Rule
open Go.ChangeShapes Go.WideShapes Go.ChangeAt Go.RowKit Go.IntWalk Go.Proofs.Mem
def Wb (W:World) (g N:Nat):Prop:=∃ C t z,W.heap[g]?=some (.cells C t z)∧N≤C.size∧∀ i,i < N→W.frozen? ⟨g,i,none⟩=false
theorem Wb.cell {W:World} {g N:Nat} (h:Wb W g N) {i:Nat} (hi:i < N):∃ u,W.cell? ⟨g,i,none⟩=some u:=by
  obtain ⟨C,t,z,h1,h2,_⟩:=h
  have hi2:i < C.size:=by omega
  exact ⟨C[i],by simp [World.cell?,h1,hi2]⟩
theorem Wb.frozen {W:World} {g N:Nat} (h:Wb W g N) {i:Nat} (hi:i < N):W.frozen? ⟨g,i,none⟩=false:=by
  obtain ⟨C,t,z,_,_,h3⟩:=h
  exact h3 i hi
theorem Wb.set {W:World} {g N:Nat} (h:Wb W g N) (i:Nat) (u:Value):Wb (W.setCell ⟨g,i,none⟩ u) g N:=by
  obtain ⟨C,t,z,h1,h2,h3⟩:=h
  have e:(W.setCell ⟨g,i,none⟩ u).heap[g]?=some (.cells (C.setIfInBounds i u) t z):=by simp [World.setCell,Array.getElem?_modify,h1]
  refine ⟨_,_,_,e,by simpa using h2,fun k hk=>?_⟩
  have:=h3 k hk
  simp only [World.frozen?,h1] at this
  simp only [World.frozen?,e]
  exact this
theorem Wb.of {W:World} {g:Nat} {ks:List Ce} (h:Sort.HoldsK Ce.cells 6 W g 0 ks.toArray) (hn:ks≠[]):Wb W g (ks.length * 6):=by
  have hlen:0 < ks.length:=List.length_pos_iff.2 hn
  have h':∀ j,j < ks.length * 6→(∃ u,W.cell? ⟨g,j,none⟩=some u)∧W.frozen? ⟨g,j,none⟩=false:=fun j hj=>by
    have h1:=h j (by simpa using hj)
    rw [Nat.zero_add] at h1
    refine ⟨?_,h1.2⟩
    rw [h1.1]
    exact ⟨_,rfl⟩
  obtain ⟨u,hu⟩:=(h' (ks.length * 6 - 1) (by omega)).1
  cases hb:W.heap[g]? with
  | none=>simp [World.cell?,hb] at hu
  | some o=>
    cases o <;> try (simp [World.cell?,hb] at hu;done)
    rename_i C t z
    refine ⟨C,t,z,hb,?_,fun i hi=>(h' i hi).2⟩
    simp [World.cell?,hb] at hu
    have h1:=(Array.getElem?_eq_some_iff.1 hu).1
    omega
theorem Wb.fr {S:Nat→Prop} {W W':World} {g N:Nat} (h:Wb W g N) (hf:Fr S W W') (hn:¬ S g):Wb W' g N:=by
  obtain ⟨C,t,z,h1,h2,h3⟩:=h
  have hlt:g < W.heap.size:=by
    rcases Nat.lt_or_ge g W.heap.size with hl | hl
    · exact hl
    · rw [Array.getElem?_eq_none hl] at h1;cases h1
  have e:W'.heap[g]?=some (.cells C t z):=(hf.block g hlt hn).trans h1
  refine ⟨C,t,z,e,h2,fun k hk=>?_⟩
  have:=h3 k hk
  simp only [World.frozen?,h1] at this
  simp only [World.frozen?,e]
  exact this
structure Wt (W0:World) (g N:Nat) (W:World):Prop where
  wb:Wb W g N
  fr:Fr (fun x=>x=g) W0 W
theorem Wt.set {W0 W:World} {g N:Nat} (h:Wt W0 g N W) (i:Nat) (u:Value):Wt W0 g N (W.setCell ⟨g,i,none⟩ u):=⟨h.wb.set i u,h.fr.setCell (p:=⟨g,i,none⟩) (.inl rfl) u⟩
theorem RowC.keep {base:Nat} {W W':World} {v:Value} {ks:List Ce} (h:RowC base W v ks) (hs:W.heap.size≤W'.heap.size) (hk:∀ k,base≤k→k < W.heap.size→W'.heap[k]?=W.heap[k]?):RowC base W' v ks:=by
  rcases h with h | ⟨g,cap,e,h1,h2,h3,h4⟩
  · exact .inl h
  · refine .inr ⟨g,cap,e,fun j hj=>?_,h2,by omega,h4⟩
    have hb:=hk g h2 h3
    have:=h1 j hj
    unfold World.cell? World.frozen? at *
    rw [hb]
    exact this
theorem RowC.fr {base:Nat} {S:Nat→Prop} {W W':World} {v:Value} {ks:List Ce} (h:RowC base W v ks) (hf:Fr S W W') (hn:∀ k,base≤k→k < W.heap.size→¬ S k):RowC base W' v ks:=h.keep hf.size (fun k h1 h2=>hf.block k h2 (hn k h1 h2))
theorem RowC.at_ {base:Nat} {W:World} {A:Option Addr} {n c:Nat} {ks:List Ce} (h:RowC base W (.slice A n c) ks) (hn:ks≠[]):∃ g,A=some ⟨g,0,none⟩∧base≤g∧g < W.heap.size∧Wb W g (ks.length * 6):=by
  rcases h with ⟨_,h⟩ | ⟨g,cap,e,h1,h2,h3,h4⟩
  · exact absurd h hn
  · injection e with e1 e2 e3
    exact ⟨g,e1,h2,h3,Wb.of h1 hn⟩
theorem Two.fr {S:Nat→Prop} {w W W':World} {p m n p' m' n':Nat} {f g:Wm} (h:Two w W p m n p' m' n' f g) (hf:Fr S W W') (hS:∀ k,S k→w.heap.size≤k∧p≠k∧m≠k∧p'≠k∧m'≠k):Two w W' p m n p' m' n' f g:=
  ⟨h.a.fr hf (fun e=>(hS _ e).2.1 rfl) (fun e=>(hS _ e).2.2.1 rfl),h.b.fr hf (fun e=>(hS _ e).2.2.2.1 rfl) (fun e=>(hS _ e).2.2.2.2 rfl),h.bel.trans (hf.to_below (fun k e=>(hS k e).1) h.bel.size),h.m0,h.m1,h.mm,h.mp,h.pm⟩
theorem st6_fr {S:Nat→Prop} {W0 W:World} {g:Nat} (h:Fr S W0 W) (hg:S g) (i:Nat) (a b c d e f:Value):Fr S W0 ((((((W.setCell ⟨g,i,none⟩ a).setCell ⟨g,i + 1,none⟩ b).setCell ⟨g,i + 2,none⟩ c).setCell ⟨g,i + 3,none⟩ d).setCell ⟨g,i + 4,none⟩ e).setCell ⟨g,i + 5,none⟩ f):=
  (((((h.setCell (p:=⟨g,i,none⟩) (.inl hg) a).setCell (p:=⟨g,i + 1,none⟩) (.inl hg) b).setCell (p:=⟨g,i + 2,none⟩) (.inl hg) c).setCell (p:=⟨g,i + 3,none⟩) (.inl hg) d).setCell (p:=⟨g,i + 4,none⟩) (.inl hg) e).setCell (p:=⟨g,i + 5,none⟩) (.inl hg) f
theorem st6_wb {W:World} {g N:Nat} (h:Wb W g N) (i:Nat) (a b c d e f:Value):Wb ((((((W.setCell ⟨g,i,none⟩ a).setCell ⟨g,i + 1,none⟩ b).setCell ⟨g,i + 2,none⟩ c).setCell ⟨g,i + 3,none⟩ d).setCell ⟨g,i + 4,none⟩ e).setCell ⟨g,i + 5,none⟩ f) g N:=(((((h.set i a).set (i + 1) b).set (i + 2) c).set (i + 3) d).set (i + 4) e).set (i + 5) f
end Go.Proofs.YtabckmadpdchnaaGreat.Rule
