import Derived.Test.YtplombkpefacgaaDkP
import Derived.Test.YtplombkpefacgaaAppNew
/- A device beside a list of rows of one's own; a fate that came in. -/
namespace Go.Proofs.Ytplombkpefacgaa.Disk
open Go.ChangeShapes Go.WideShapes Go.ChangeAt Go.RowKit Go.IntWalk Go.Proofs.Mem Go.Proofs.Each Law
set_option linter.unusedVariables false
section
variable {H : Type} {enc : TypeId × Value → H} {W : World}
theorem open_ft {r : Reach} {b0 : Nat} {v : Value} {d : DataW H} {p : List MemPlace} (hv : Value.okWide Try.prog W r b0 50 v) (h : DataW.Trod enc Try.prog W 0 (fun _ => true) true 50 v d p) : ∃ x : Ft, x.Ok ∧ v = .agg #[.int .u8 x.file, .int .i64 x.sec, .int .i64 x.keep, .int .i64 x.torn] := by
  obtain ⟨cs, rfl, hsz⟩ := okWide_struct Try.underlying50 hv
  obtain ⟨l⟩ := cs
  obtain ⟨fuel, hf⟩ := h
  obtain ⟨x, e, hx⟩ := ft_of (hsz.trans kFt) hf
  refine ⟨x, hx, ?_⟩
  have : l = cFt x := e
  rw [this]; rfl
end
theorem tab_fr {Tu Ts : TypeId} {A B : World} {base top : Nat} {v : Value} {l : List Rw} {S : Nat → Prop} (h : Tab Tu Ts A base top v l) (hf : Fr S A B) (h1 : ∀ p ∈ l, ¬ S p.1) (h2 : ∀ g, v.ownBlock = some g → ¬ S g) : Tab Tu Ts B base top v l := by
  refine ⟨own_frS h.outer hf h2, fun p hp => ⟨⟨(h.rows p hp).1.form, own_frS (h.rows p hp).1.own hf (fun g hg => ?_)⟩, (h.rows p hp).2⟩, h.apart, h.vtop⟩
  obtain ⟨cap, e⟩ := (h.rows p hp).1.form
  rw [e] at hg
  injection hg with hg
  rw [← hg]; exact h1 p hp
/-- a device, and a list of rows that is not its own -/
structure Pa (B0 : Nat) (w : World) (a : Nat) (D : Dv) (v : Value) (l : List Rw) : Prop where
  base : B0 ≤ w.heap.size
  tab : Tab 5 30 w B0 w.heap.size v l
  dev : ∃ S c f u, DA w S a D c f u ∧ (∀ x, S x → B0 ≤ x) ∧ (∀ p ∈ l, ¬ S p.1) ∧ ∀ g, v.ownBlock = some g → ¬ S g
section
variable {B0 a : Nat} {w w' : World} {D : Dv} {v : Value} {l : List Rw}
theorem Pa.later (h : Pa B0 w a D v l) (hb : Below w.heap.size w w') : Pa B0 w' a D v l := by
  obtain ⟨S, c, f, u, hd, h1, h2, h3⟩ := h.dev
  exact ⟨Nat.le_trans h.base hb.size, (h.tab.later hb).more hb.size, S, c, f, u, hd.later hb, h1, h2, h3⟩
/-- a write of a row that was made since -/
theorem Pa.write (h : Pa B0 w a D v l) (hb : Below w.heap.size w w') {g : Nat} {x : Value} {xs : List Int} (hr : RowAt 5 w' w.heap.size g x xs) (hg : w.heap.size ≤ g ∧ g < w'.heap.size) (hxl : xs.length = 128) (hxb : Bytes xs) (s : Se) (hs : (D.f 0)[0]? = some s) (hw : s.wait.length ≤ 100000) :
    Calls Try.prog 27 #[.pointer (some ⟨a, 0, none⟩), .int .u8 0, .int .i64 0, x] w' fun e w2 => e = .returned (.int .u16 0) ∧ Pa B0 w2 a (D.wr 0 0 s xs) v l ∧ Tab 5 30 w2 B0 w.heap.size v l ∧ RowAt 5 w2 w.heap.size g x xs ∧ (∃ S c f u, DA w2 S a (D.wr 0 0 s xs) c f u ∧ (∀ x, S x → B0 ≤ x) ∧ (∀ p ∈ l, ¬ S p.1) ∧ (∀ g, v.ownBlock = some g → ¬ S g) ∧ ¬ S g) ∧ Below B0 w' w2 := by
  obtain ⟨S, c, f, u, hd, h1, h2, h3⟩ := h.dev
  have hd' := hd.later hb
  have hgS : ¬ S g := fun hh => by have := hd.old g hh; omega
  have hbs := h.base
  refine (write_at 0 0 hd' 0 rfl (by decide) 0 s hs hw rfl x xs (fun W hf => own_far_ir (by have := hr.own; rwa [hxl] at this) hxl (fun y hy => hd.old y hy) hf) hxl hxb).mono ?_
  rintro e w2 ⟨rfl, ⟨c', u', hd2⟩, hf⟩
  have t2 := tab_fr (h.tab.later hb) hf h2 h3
  have hgr : ∀ y, y < w'.heap.size → ¬ S y → ¬ growS w' w2 S y := fun y hy hn hh => by
    rcases hh with hh | hh
    · exact hn hh
    · omega
  have hro : RowAt 5 w2 w.heap.size g x xs := ⟨hr.form, own_frS hr.own hf (fun k hk => by
    obtain ⟨cap, e⟩ := hr.form
    rw [e] at hk
    injection hk with hk
    rw [← hk]; exact hgS)⟩
  have hrows : ∀ p ∈ l, ¬ growS w' w2 S p.1 := fun p hp => hgr _ (by have := (h.tab.rows p hp).2; have := hb.size; omega) (h2 p hp)
  have hout : ∀ k, v.ownBlock = some k → ¬ growS w' w2 S k := fun k hk => hgr _ (by have := h.tab.vtop k hk; have := hb.size; omega) (h3 k hk)
  have hS0 : ∀ y, growS w' w2 S y → B0 ≤ y := fun y hy => by
    rcases hy with hy | hy
    · exact h1 y hy
    · have := hb.size; omega
  have hsz := hf.size
  exact ⟨rfl, ⟨by have := hb.size; omega, t2.more (by have := hb.size; omega), _, _, _, _, hd2, hS0, hrows, hout⟩, t2, hro, ⟨_, _, _, _, hd2, hS0, hrows, hout, hgr g hg.2 hgS⟩, hf.to_below h1 (by have := hb.size; omega)⟩
/-- a row more -/
theorem Pa.push {top g : Nat} {x v' : Value} {xs : List Int} {B : World} {o : Obj} (t : Tab 5 30 w B0 top v l) (hr : RowAt 5 w top g x xs) (hB : B0 ≤ top) (hg : top ≤ g ∧ g < w.heap.size)
    (hd : ∃ S c f u, DA w S a D c f u ∧ (∀ x, S x → B0 ≤ x) ∧ (∀ p ∈ l, ¬ S p.1) ∧ (∀ g, v.ownBlock = some g → ¬ S g) ∧ ¬ S g)
    (ho : B.ownsRow B0 30 1 v' (l.length + 1) (l.map (·.2.1) ++ [x])) (hgr : (w.alloc o).grownBy B v.ownBlock) (hn : ∀ k, v'.ownBlock = some k → v.ownBlock = some k ∨ (k = (w.alloc o).heap.size ∧ (w.alloc o).grownBy B none)) :
    Pa B0 B a D v' (l ++ [(g, x, xs)]) := by
  have hz : w.heap.size ≤ B.heap.size := by have := hgr.size; simp at this; omega
  obtain ⟨S, c, f, u, hd, h1, h2, h3, h4⟩ := hd
  refine ⟨by omega, Tab.push (t.later (B := w.alloc o) (new_ (Below.refl _ _) _)) (by decide) (hr.sc (Sc.of_below (new_ (Below.refl _ _) _))) hB (by omega) ho hgr (by omega), S, c, f, u, ?_, h1, fun p hp => ?_, fun k hk => ?_⟩
  · refine hd.far (T := fun k => v.ownBlock = some k) ((Fr.of_below (new_ (Below.refl w.heap.size w) o)).grown hgr (fun g hg => .inl hg)) (fun k hk hv => h3 k hv hk)
  · rcases List.mem_append.1 hp with hp | hp
    · exact h2 p hp
    · rw [List.mem_singleton.1 hp]; exact h4
  · rcases hn k hk with hk | ⟨hk, _⟩
    · exact h3 k hk
    · intro hS
      have := hd.old k hS
      simp at hk
      omega
end
end Go.Proofs.Ytplombkpefacgaa.Disk
