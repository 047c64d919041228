import Derived.Test.YtplombkpefacgaaDk1
import Derived.Test.YtplombkpefacgaaApp
import Derived.Lib.SliceRun
/- A sector's place in a device; Read, Waits. -/
namespace Go.Proofs.Ytplombkpefacgaa.Disk
open Go.ChangeShapes Go.WideShapes Go.ChangeAt Go.RowKit Go.IntWalk Go.Proofs.Mem
set_option linter.unusedVariables false
set_option linter.unusedSimpArgs false
theorem u8_info : (Try.prog.info? 5).map (fun i => (i.zero, i.size, i.bytes)) = some (some (.int .u8 0), 1, 1) := by kernel_rfl
theorem below_row {W w' a : World} {B base n size : Nat} {e : TypeId} {v : Value} {xs : List Value} (h : Below B a W) (hown : W.ownsRow base e size v n xs) (hg : W.grownBy w' v.ownBlock) (hb : B ≤ base) (hB : B ≤ W.heap.size) : Below B a w' :=
  h.trans ((Below.refl B W).grown hg hB (fun b hb' => by have := (hown.lt b hb').1; omega))
set_option maxHeartbeats 4000000 in
theorem clone_any (v : Value) (xs : List Int) (w : World) (B : Nat) (hv : IR w B .u8 v xs) (hB : B ≤ w.heap.size) (hl : xs.length ≤ 100000) :
    Calls Try.prog 42 #[v] w fun e w' => ∃ u, e = .returned u ∧ w'.ownsRow w.heap.size 5 1 u xs.length (xs.map (.int .u8)) ∧ Below w.heap.size w w' := by
  obtain ⟨i0, hi0, hz0, hz1, hz2⟩ := info_parts u8_info
  obtain ⟨A, c, rfl, hlc, hcm⟩ := hv.form
  cases A with
  | none =>
    have hc : c = 0 := by
      obtain ⟨A', c', e, _, _, h4, _⟩ := hv
      injection e with e1 e2 e3
      subst e1; subst e3
      exact h4 rfl
    subst hc
    have hx : xs = [] := List.eq_nil_of_length_eq_zero (by omega)
    subst hx
    have hq : ∀ W, (binOp .eql 30 (.slice none 0 0) (.slice none 0 0)).run Try.prog W = .ok (.bool true) W := fun W => Go.Lib.run_eql_slice_nil W 30 5 none 0 0 0 0 Try.underlying30
    go_enter Try.func42, Try.ntmps42
    go_wp2
    go_ret
    exact ⟨_, rfl, World.ownsRow_nil _ _ _ _, Below.refl _ _⟩
  | some a =>
    have HV := Lib.hid (hv.alloc hB (.cells #[] 5))
    have OW := Lib.hid (show (w.alloc (.cells #[] 5)).ownsRow w.heap.size 5 1 (.slice (some ⟨w.heap.size, 0, none⟩) 0 0) 0 (([] : List Int).map (.int .u8)) from ⟨rfl, .inr ⟨w.heap.size, 0, _, rfl, Nat.le_refl _, heap_alloc_new w _, Nat.le_refl _, Nat.zero_le _, rfl, rfl⟩⟩)
    clear hv
    have hq : ∀ W, (binOp .eql 30 (.slice (some a) xs.length c) (.slice none 0 0)).run Try.prog W = .ok (.bool false) W := fun W => Go.Lib.run_eql_slice_nil W 30 5 (some a) xs.length c 0 0 Try.underlying30
    go_enter Try.func42, Try.ntmps42
    go_wp2_with (at_builtin; refine wpList_append_tx _ rfl _ _ _ _ rfl w.heap.size 5 5 i0 .u8 1 Try.underlying30 Try.underlying30 hi0 hz0 hz1 hz2 _ 0 [] rfl OW.out B _ xs rfl HV.out (by unfold maxLen; omega) (by omega) (by simp) ?_; intro v2 w2 hown2 hg2 ho2; rw [Nat.zero_add, List.nil_append] at hown2; have OW2 := Lib.hid hown2; have HB2 := Lib.hid (below_row (new_ (Below.refl w.heap.size w) (.cells #[] 5)) OW.out hg2 (Nat.le_refl _) (by simp)); clear hown2 hg2 ho2)
    go_ret
    exact ⟨_, rfl, OW2.out, HB2.out⟩
theorem flat2 (uv : List Pl) : ∀ n p, uv[n]? = some p → (uv.flatMap cSe)[2 * n]? = some p.1 ∧ (uv.flatMap cSe)[2 * n + 1]? = some p.2.1 := by
  induction uv with
  | nil => intro n p h; simp at h
  | cons q uv ih =>
    intro n p h
    cases n with
    | zero => simp at h; subst h; exact ⟨rfl, rfl⟩
    | succ n =>
      simp only [List.getElem?_cons_succ] at h
      obtain ⟨h1, h2⟩ := ih n p h
      rw [List.flatMap_cons, show 2 * (n + 1) = 2 * n + 2 by omega, show 2 * n + 2 + 1 = 2 * n + 1 + 2 by omega]
      exact ⟨by simpa [cSe] using h1, by simpa [cSe] using h2⟩
theorem flat2_len (uv : List Pl) : (uv.flatMap cSe).length = 2 * uv.length := by
  induction uv with
  | nil => rfl
  | cons q uv ih => rw [List.flatMap_cons, List.length_append, ih]; simp [cSe]; omega
/-- where a sector stands -/
structure Spot (tS : TypeId) (w : World) (col : Nat → Nat) (c : Nat) (v : Value) (l : List Se) (uv : List Pl) (n : Nat) (g cap : Nat) (C : Array Value) (p : Pl) (s : Se) : Prop where
  hv : v = .slice (some ⟨g, 0, none⟩) l.length cap
  hcap : l.length ≤ cap
  hp : uv[n]? = some p
  hs : l[n]? = some s
  hcol : col g = c
  box : Box w g C tS
  c0 : C[2 * n]? = some p.1
  c1 : C[2 * n + 1]? = some p.2.1
  sec : SeAt w col (c + 1 + n) s p.1 p.2.1 p.2.2
  size : C.size = cap * 2 ∧ cap ≤ maxLen ∧ C.toList.take (l.length * 2) = uv.flatMap cSe
theorem FiAt.spot {tS : TypeId} {w : World} {col : Nat → Nat} {c : Nat} {v : Value} {l : List Se} {uv : List Pl} (h : FiAt tS w col c v l uv) (n : Nat) (hn : n < l.length) : ∃ g cap C p s, Spot tS w col c v l uv n g cap C p s := by
  have hp : n < uv.length := by rw [h.n]; exact hn
  rcases h.row.1.2 with ⟨_, h0⟩ | ⟨g, cap, cur, e1, _, hgg, h1, h2, h3, h4⟩
  · omega
  · have ep : uv[n]? = some uv[n] := List.getElem?_eq_getElem hp
    have es : l[n]? = some l[n] := List.getElem?_eq_getElem hn
    obtain ⟨f0, f1⟩ := flat2 uv n _ ep
    have hk : ∀ j, j < l.length * 2 → cur[j]? = (uv.flatMap cSe)[j]? := fun j hj => by
      rw [← h4, List.getElem?_take, if_pos hj, Array.getElem?_toList]
    refine ⟨g, cap, cur, uv[n], l[n], e1, h1, ep, es, h.row.2 g (by rw [e1]; rfl), hgg, ?_, ?_, h.sec n _ _ ep es, h3, h2, h4⟩
    · rw [hk _ (by omega)]; exact f0
    · rw [hk _ (by omega)]; exact f1
/-- what is read of a sector -/
def Se.cur (s : Se) : List Int := s.wait.getLast?.getD s.last
theorem SeAt.form_u {w : World} {col : Nat → Nat} {k : Nat} {s : Se} {u v : Value} {vs : List Value} (h : SeAt w col k s u v vs) : ∃ g c, u = .slice (some ⟨g, 0, none⟩) 128 c := by
  rcases h.last.1.2 with ⟨_, h0⟩ | ⟨g, cap, _, e1, _⟩
  · cases h0
  · exact ⟨g, cap, e1⟩
theorem SeAt.form_w {w : World} {col : Nat → Nat} {k : Nat} {s : Se} {u v : Value} {vs : List Value} (h : SeAt w col k s u v vs) : ∀ x ∈ vs, ∃ A c, x = .slice A 128 c := by
  intro x hx
  obtain ⟨j, hj, rfl⟩ := List.mem_iff_getElem.1 hx
  have hr := h.row j _ (s.wait[j]'(by rw [← h.n]; exact hj)) (List.getElem?_eq_getElem hj) (List.getElem?_eq_getElem _)
  rcases hr.1.2 with ⟨_, h0⟩ | ⟨g, cap, _, e1, _⟩
  · cases h0
  · exact ⟨_, cap, e1⟩
theorem SeAt.form_v {w : World} {col : Nat → Nat} {k : Nat} {s : Se} {u v : Value} {vs : List Value} (h : SeAt w col k s u v vs) : ∃ A c, v = .slice A vs.length c ∧ vs.length ≤ c := by
  rcases h.wait.1.2 with ⟨rfl, h0⟩ | ⟨g, cap, _, rfl, _, _, h1, _⟩
  · rw [h0]; exact ⟨none, 0, rfl, Nat.le_refl _⟩
  · exact ⟨_, cap, rfl, h1⟩
theorem Hd.ir {w : World} {col : Nat → Nat} {k n : Nat} {v : Value} {xs : List Int} (h : Hd w col k 5 1 v n (xs.map (.int .u8))) (hn : xs.length = n) : IR w w.heap.size .u8 v xs := by
  subst hn; exact IR.of_own h.1
theorem own_len {W : World} {b : Nat} {v : Value} {n : Nat} {xs : List Int} (h : W.ownsRow b 5 1 v xs.length (xs.map (.int .u8))) (hl : xs.length = n) : W.ownsRow b 5 1 v n (xs.map (.int .u8)) := hl ▸ h
end Go.Proofs.Ytplombkpefacgaa.Disk
