import Derived.Test.YteldfoplhcnljaaKn2
import Derived.Test.YteldfoplhcnljaaKn3
/- The search, called by itself. -/
namespace Go.Proofs.Yteldfoplhcnljaa.Knot
open Go.ChangeShapes Go.WideShapes Go.ChangeAt Go.RowKit Go.IntWalk Go.Proofs.Mem Go.Proofs.Each Srt Go.Proofs.Ring
set_option linter.unusedVariables false
set_option linter.unusedSimpArgs false
instance (x : Int) : Decidable (U32 x) := by unfold U32; infer_instance
/-- a set as a map -/
def sf (s : Seen) : Int → Option Unit := fun x => if U32 x ∧ s x = true then some () else none
/-- what the search sees: its captured variables, the rows, the way gone, those seen -/
structure CS (w : World) (B nb rb fb sb cb m base n : Nat) (f : Int → Option (Option (Nat × Nat × Nat))) (G : Int → List Int) (fr : Int) (cv : Value) (sm ns : Nat) (rv : Value) (ring : List Int) (s : Seen) : Prop where
  nbx : Box w nb #[.map (some m)] 37
  rbx : Box w rb #[rv] 24
  fbx : Box w fb #[.int .u32 fr] 23
  sbx : Box w sb #[.map (some sm)] 39
  cbx : Box w cb #[cv] 40
  grp : Grp w m base n f G
  seen : FM KU unEE w sm ns (sf s)
  row : w.ownsRow B 23 1 rv ring.length (ring.map (.int .u32))
  far : ∀ b, rv.ownBlock = some b → b ≠ fb ∧ ∀ x, (vOf f x).ownBlock ≠ some b
  apart : m ≠ sm
  low : B ≤ rb ∧ B ≤ sm ∧ B ≤ w.heap.size
section
variable {w w' : World} {B nb rb fb sb cb m base n : Nat} {f : Int → Option (Option (Nat × Nat × Nat))} {G : Int → List Int} {fr : Int} {cv : Value} {sm ns : Nat} {rv : Value} {ring : List Int} {s : Seen}
theorem CS.later (h : CS w B nb rb fb sb cb m base n f G fr cv sm ns rv ring s) (hb : Below w.heap.size w w') : CS w' B nb rb fb sb cb m base n f G fr cv sm ns rv ring s :=
  ⟨h.nbx.later hb, h.rbx.later hb, h.fbx.later hb, h.sbx.later hb, h.cbx.later hb, h.grp.later hb, h.seen.later hb, own_below h.row hb, h.far, h.apart, h.low.1, h.low.2.1, Nat.le_trans h.low.2.2 hb.size⟩
/-- whom x waits for, as it is read -/
theorem CS.to_ (h : CS w B nb rb fb sb cb m base n f G fr cv sm ns rv ring s) (x : Int) : IR w w.heap.size .u32 (vOf f x) (G x) := IR.of_own (h.grp.row x)
theorem box_ne {g g' : Nat} {C C' : Array Value} {t t' : TypeId} (h : Box w g C t) (h' : Box w g' C' t') (ht : t ≠ t') : g ≠ g' := by
  rintro rfl
  unfold Box at h h'
  rw [h] at h'
  injection h' with h'
  injection h' with _ h2 _
  exact ht h2
theorem own_box {g : Nat} {C : Array Value} {t : TypeId} {n0 : Nat} {v : Value} {xs : List Value} {b : Nat} (h : w.ownsRow B 23 1 v n0 xs) (h' : Box w g C t) (ht : t ≠ 23) (hb : v.ownBlock = some b) : b ≠ g := by
  rcases h.2 with ⟨e1, _⟩ | ⟨g', cap, cur, e1, _, hh, _⟩
  · rw [e1] at hb; cases hb
  · rw [e1] at hb
    injection hb with hb
    subst hb
    exact fun e => box_ne (show Box w g' cur 23 from hh) h' (fun e => ht e.symm) e
theorem own_map {g : Nat} {n0 n1 : Nat} {v : Value} {xs : List Value} {b : Nat} {R : Value → Option (DataW Unit × List MemPlace)} {β : Type} {V : EE R β} {f' : Int → Option β} (h : w.ownsRow B 23 1 v n0 xs) (h' : FM KU V w g n1 f') (hb : v.ownBlock = some b) : b ≠ g := by
  rcases h.2 with ⟨e1, _⟩ | ⟨g', cap, cur, e1, _, hh, _⟩
  · rw [e1] at hb; cases hb
  · rw [e1] at hb
    injection hb with hb
    subst hb
    exact h'.ne_box (show Box w g' cur 23 from hh)
/-- the way is stored anew -/
theorem CS.store (h : CS w B nb rb fb sb cb m base n f G fr cv sm ns rv ring s) {rv' : Value} {ring' : List Int} (hr : w.ownsRow B 23 1 rv' ring'.length (ring'.map (.int .u32))) (hf : ∀ b, rv'.ownBlock = some b → b ≠ fb ∧ ∀ x, (vOf f x).ownBlock ≠ some b) :
    CS (w.setCell ⟨rb, 0, none⟩ rv') B nb rb fb sb cb m base n f G fr cv sm ns rv' ring' s := by
  have hF : Fr (fun x => x = rb) w (w.setCell ⟨rb, 0, none⟩ rv') := Fr.setCell (S := fun x => x = rb) (p := ⟨rb, 0, none⟩) (Fr.refl _ _) (.inl rfl) _
  exact ⟨h.nbx.fr hF (box_ne h.nbx h.rbx (by decide)), h.rbx.set_ 0 rv', h.fbx.fr hF (box_ne h.fbx h.rbx (by decide)), h.sbx.fr hF (box_ne h.sbx h.rbx (by decide)), h.cbx.fr hF (box_ne h.cbx h.rbx (by decide)),
    h.grp.fr hF (fun e => h.grp.fm.ne_box h.rbx e.symm) (fun x b hb => own_box (h.grp.row x) h.rbx (by decide) hb), h.seen.fr hF (fun e => h.seen.ne_box h.rbx e.symm),
    own_frS hr hF (fun b hb => own_box hr h.rbx (by decide) hb), hf, h.apart, h.low.1, h.low.2.1, by simpa [World.setCell] using h.low.2.2⟩
/-- a longer way is stored -/
theorem CS.push (h : CS w B nb rb fb sb cb m base n f G fr cv sm ns rv ring s) {rv' : Value} {ring' : List Int} (hg : w.grownBy w' rv.ownBlock) (hr : w'.ownsRow B 23 1 rv' ring'.length (ring'.map (.int .u32))) (hl : rv'.ownBlock = rv.ownBlock ∨ ∀ b, rv'.ownBlock = some b → w.heap.size ≤ b) :
    CS (w'.setCell ⟨rb, 0, none⟩ rv') B nb rb fb sb cb m base n f G fr cv sm ns rv' ring' s := by
  have hF : Fr (fun x => rv.ownBlock = some x) w w' := Fr.grown (Fr.refl _ _) hg (fun g e => .inl e)
  have nb1 := h.nbx.fr hF (fun e => own_box h.row h.nbx (by decide) e rfl)
  have rb1 := h.rbx.fr hF (fun e => own_box h.row h.rbx (by decide) e rfl)
  have fb1 := h.fbx.fr hF (fun e => (h.far _ e).1 rfl)
  have sb1 := h.sbx.fr hF (fun e => own_box h.row h.sbx (by decide) e rfl)
  have cb1 := h.cbx.fr hF (fun e => own_box h.row h.cbx (by decide) e rfl)
  have gr1 := h.grp.fr hF (fun e => own_map h.row h.grp.fm e rfl) (fun x b hb e => (h.far b e).2 x hb)
  have se1 := h.seen.fr hF (fun e => own_map h.row h.seen e rfl)
  have hF2 : Fr (fun x => x = rb) w' (w'.setCell ⟨rb, 0, none⟩ rv') := Fr.setCell (S := fun x => x = rb) (p := ⟨rb, 0, none⟩) (Fr.refl _ _) (.inl rfl) _
  refine ⟨nb1.fr hF2 (box_ne nb1 rb1 (by decide)), rb1.set_ 0 rv', fb1.fr hF2 (box_ne fb1 rb1 (by decide)), sb1.fr hF2 (box_ne sb1 rb1 (by decide)), cb1.fr hF2 (box_ne cb1 rb1 (by decide)),
    gr1.fr hF2 (fun e => gr1.fm.ne_box rb1 e.symm) (fun x b hb => own_box (gr1.row x) rb1 (by decide) hb), se1.fr hF2 (fun e => se1.ne_box rb1 e.symm),
    own_frS hr hF2 (fun b hb => own_box hr rb1 (by decide) hb), fun b hb => ?_, h.apart, h.low.1, h.low.2.1, ?_⟩
  · rcases hl with e | e
    · rw [e] at hb; exact h.far b hb
    · have h2 := e b hb
      refine ⟨fun e2 => ?_, fun x hx => ?_⟩
      · have := h.fbx.lt; omega
      · have := ((h.grp.row x).lt b hx).2; omega
  · have := h.low.2.2
    have := hg.size
    simp [World.setCell]; omega
theorem CS.push_box (h : CS w B nb rb fb sb cb m base n f G fr cv sm ns rv ring s) (hg : w.grownBy w' rv.ownBlock) : Box w' rb #[rv] 24 :=
  h.rbx.fr (S := fun x => rv.ownBlock = some x) (Fr.grown (Fr.refl _ _) hg (fun g e => .inl e)) (fun e => own_box h.row h.rbx (by decide) e rfl)
theorem CS.push_below (h : CS w B nb rb fb sb cb m base n f G fr cv sm ns rv ring s) (hg : w.grownBy w' rv.ownBlock) (u : Value) : Below B w (w'.setCell ⟨rb, 0, none⟩ u) := by
  have h1 : Below B w w' := (Below.refl B w).grown hg h.low.2.2 (fun b hb => (h.row.lt b hb).1)
  exact ⟨h1.os, h1.tape, h1.output, by simpa [World.setCell] using h1.size, fun k hk => (Below.heap_setCell w' _ u k (by have := h.low.1; show k ≠ rb; omega)).trans (h1.block k hk)⟩
theorem own_form {w : World} {B n : Nat} {e : TypeId} {v : Value} {xs : List Value} (h : w.ownsRow B e 1 v n xs) (hn : 0 < n) : ∃ g c, v = .slice (some ⟨g, 0, none⟩) n c ∧ n ≤ c := by
  rcases h.2 with ⟨_, h0⟩ | ⟨g, cap, cur, rfl, _, _, h1, _⟩
  · omega
  · exact ⟨g, cap, rfl, h1⟩
/-- a row cut -/
theorem own_cut {w : World} {B n k g c : Nat} {e : TypeId} {xs : List Value} (h : w.ownsRow B e 1 (.slice (some ⟨g, 0, none⟩) n c) n xs) (hk : k ≤ n) : w.ownsRow B e 1 (.slice (some ⟨g, 0, none⟩) k c) k (xs.take k) := by
  obtain ⟨h1, ⟨h2, _⟩ | ⟨g', c', cur, e1, hb, hh, hn, hm, hs, ht⟩⟩ := h
  · cases h2
  · injection e1 with e1 e2 e3
    injection e1 with e1
    injection e1 with e1
    subst e1 e3
    refine ⟨by rw [List.length_take]; omega, .inr ⟨g, c, cur, rfl, hb, hh, by omega, hm, hs, ?_⟩⟩
    rw [← ht, List.take_take]
    congr 1
    omega
/-- one more has been seen -/
theorem CS.see (h : CS w B nb rb fb sb cb m base n f G fr cv sm ns rv ring s) {x : Int} (hx : U32 x) (hg : w.grownBy w' (some sm)) (hm : FM KU unEE w' sm (ns + 1) (fput (sf s) x ())) :
    CS w' B nb rb fb sb cb m base n f G fr cv sm (ns + 1) rv ring (ins s x) := by
  have hF : Fr (fun j => j = sm) w w' := Fr.grown (Fr.refl _ _) hg (fun g e => .inl (by injection e with e; exact e.symm))
  have e : fput (sf s) x () = sf (ins s x) := by
    funext y
    unfold fput sf ins
    by_cases h1 : y = x
    · subst h1; simp [hx]
    · simp [h1]
  rw [e] at hm
  exact ⟨h.nbx.fr hF (fun e => h.seen.ne_box h.nbx e), h.rbx.fr hF (fun e => h.seen.ne_box h.rbx e), h.fbx.fr hF (fun e => h.seen.ne_box h.fbx e), h.sbx.fr hF (fun e => h.seen.ne_box h.sbx e), h.cbx.fr hF (fun e => h.seen.ne_box h.cbx e),
    h.grp.fr hF (fun e => h.apart e) (fun x b hb => own_map (h.grp.row x) h.seen hb), hm, own_frS h.row hF (fun b hb => own_map h.row h.seen hb), h.far, h.apart, h.low.1, h.low.2.1, Nat.le_trans h.low.2.2 hF.size⟩
end
/-- what the search leaves -/
structure SO (us : List Int) (w : World) (B nb rb fb sb cb m base n : Nat) (f : Int → Option (Option (Nat × Nat × Nat))) (G : Int → List Int) (fr : Int) (cv : Value) (sm : Nat) (R : Res) : Prop where
  out : ∃ ns rv, CS w B nb rb fb sb cb m base n f G fr cv sm ns rv R.2.1 R.2.2 ∧ ns ≤ 2000 - left us R.2.2
theorem CS.app {w w5 w7 : World} {B nb rb fb sb cb m base n : Nat} {f : Int → Option (Option (Nat × Nat × Nat))} {G : Int → List Int} {fr : Int} {cv : Value} {sm ns : Nat} {rv : Value} {ring : List Int} {s : Seen} {x : Int} {v7 : Value}
    (h : CS w5 B nb rb fb sb cb m base n f G fr cv sm ns rv ring s) {N : Nat} (hN : N = ring.length + 1) (ho : w7.ownsRow B 23 1 v7 N (ring.map (.int .u32) ++ [.int .u32 x])) (hg : (w5.alloc (.cells #[.int .u32 x] 23)).grownBy w7 rv.ownBlock)
    (hl : v7.ownBlock = rv.ownBlock ∨ v7.ownBlock = some (w5.alloc (.cells #[.int .u32 x] 23)).heap.size) (hb : Below B w w5) : ∃ g7 c7, v7 = .slice (some ⟨g7, 0, none⟩) N c7 ∧ Box w7 rb #[rv] 24 ∧
      CS (w7.setCell ⟨rb, 0, none⟩ v7) B nb rb fb sb cb m base n f G fr cv sm ns v7 (ring ++ [x]) s ∧ Below B w (w7.setCell ⟨rb, 0, none⟩ v7) := by
  obtain ⟨g7, cp7, e7, _⟩ := own_form ho (by omega)
  have h6 := h.later (new_ (Below.refl w5.heap.size w5) (.cells #[.int .u32 x] 23))
  refine ⟨g7, cp7, e7, h6.push_box hg, h6.push hg (by rw [List.length_append, List.map_append]; subst hN; exact ho) ?_, (hb.alloc h.low.2.2 _).trans (h6.push_below hg v7)⟩
  rcases hl with e | e
  · exact .inl e
  · exact .inr (fun b hb => by rw [e] at hb; injection hb with hb; omega)
/-- what a search comes to -/
def fnd (b : Bool) : Int := if b then 2 else 0
theorem sf_some (s : Seen) {x : Int} (hx : U32 x) : (sf s x).isSome = s x := by
  unfold sf
  cases h : s x <;> simp [hx]
theorem zeroUn (w : World) : (zeroValue 43).run Try.prog w = .ok (unEE.ev ()) w := by kernel_rfl
set_option maxRecDepth 100000 in
set_option maxHeartbeats 8000000 in
theorem search_any (us : List Int) (B nb rb fb sb cb m base n : Nat) (f : Int → Option (Option (Nat × Nat × Nat))) (G : Int → List Int) (fr : Int) (hus : ∀ x, ∀ n ∈ G x, n ∈ us) (hu : ∀ x ∈ us, U32 x) (hsrt : ∀ x, (G x).Pairwise (· ≤ ·)) (hul : us.length ≤ 1000) (hlen : ∀ x, (G x).length ≤ 1000) : ∀ (k : Nat) (w : World) (D ns sm : Nat) (rv : Value) (pre : List Int) (cur : Int) (s : Seen),
    CS w B nb rb fb sb cb m base n f G fr (.func (.func 17) #[] #[.pointer (some ⟨nb, 0, none⟩), .pointer (some ⟨rb, 0, none⟩), .pointer (some ⟨fb, 0, none⟩), .pointer (some ⟨sb, 0, none⟩), .pointer (some ⟨cb, 0, none⟩)]) sm ns rv (pre ++ [cur]) s → left us s + 1 ≤ k → k ≤ D → D ≤ 262144 → pre.length + left us s ≤ 2000 → ns ≤ 2000 - left us s → U32 cur →
    Calls Try.prog 17 #[.int .i64 D, .pointer (some ⟨nb, 0, none⟩), .pointer (some ⟨rb, 0, none⟩), .pointer (some ⟨fb, 0, none⟩), .pointer (some ⟨sb, 0, none⟩), .pointer (some ⟨cb, 0, none⟩)] w fun e w' =>
      e = .returned (.int .i64 (fnd (dfs G fr k pre cur s).1)) ∧ SO us w' B nb rb fb sb cb m base n f G fr (.func (.func 17) #[] #[.pointer (some ⟨nb, 0, none⟩), .pointer (some ⟨rb, 0, none⟩), .pointer (some ⟨fb, 0, none⟩), .pointer (some ⟨sb, 0, none⟩), .pointer (some ⟨cb, 0, none⟩)]) sm (dfs G fr k pre cur s) ∧ Hid (Below B w w') := by
  intro k
  induction k with
  | zero => intro w D ns sm rv pre cur s h hk; omega
  | succ k ih =>
    intro w D ns sm rv pre cur s h hk hkD hD hpl hns hcur
    obtain ⟨cv, hcv⟩ : ∃ cv, cv = Value.func (.func 17) #[] #[.pointer (some ⟨nb, 0, none⟩), .pointer (some ⟨rb, 0, none⟩), .pointer (some ⟨fb, 0, none⟩), .pointer (some ⟨sb, 0, none⟩), .pointer (some ⟨cb, 0, none⟩)] := ⟨_, rfl⟩
    have HCV := Lib.hid hcv
    rw [← hcv] at h ih ⊢
    have HC := Lib.hid h
    have IH := Lib.hid ih
    clear ih
    have n0 := h.nbx.cell 0
    have r0 := h.rbx.cell 0
    have f0 := h.fbx.cell 0
    simp only [List.getElem?_toArray, List.getElem?_cons_zero] at n0 r0 f0
    obtain ⟨L, hL⟩ : ∃ L, L = pre.length := ⟨_, rfl⟩
    obtain ⟨M, hM⟩ : ∃ M, M = L + 1 := ⟨_, rfl⟩
    have hlenr : (pre ++ [cur]).length = M := by rw [hM, hL]; simp
    have hrow := h.row
    rw [hlenr] at hrow
    obtain ⟨g, cap, hrv⟩ : ∃ g c, rv = .slice (some ⟨g, 0, none⟩) M c := by
      rcases hrow.2 with ⟨_, h0⟩ | ⟨g, cap, cur', e, _⟩
      · omega
      · exact ⟨g, cap, e⟩
    subst hrv
    have kc := hrow.cells (g := g) rfl L (.int .u32 cur) (by rw [hL]; simp)
    rw [Go.WideShapes.add_plain, Nat.zero_add] at kc
    have hcap : M ≤ cap := by
      rcases hrow.2 with ⟨e, _⟩ | ⟨g', cap', cur', e, _, _, h1, _⟩
      · cases e
      · injection e with _ _ e3; omega
    have s1 : (M : Int) - 1 = (L : Int) := by omega
    have hLM : L < M := by omega
    have bL : (L : Int) ≤ 2000 := by omega
    have bM : (M : Int) ≤ 2001 := by omega
    have HM := Lib.hid (⟨hM, hL, hcap⟩ : M = L + 1 ∧ L = pre.length ∧ M ≤ cap)
    have lk : ∀ d, (Instr.lookup 37 (.map (some m)) (.int .u32 cur) false).run Try.prog (w.drewN d) = .ok (vOf f cur) (w.drewN d) := fun d => ((h.grp.fm.drewN d).look Try.underlying37 none (zeroSl _) cur (ku_ok.2 hcur)).1
    obtain ⟨A, lt, c, hto⟩ : ∃ A l c, vOf f cur = .slice A l c := by
      obtain ⟨A, c, e, _⟩ := (h.to_ cur).form
      exact ⟨A, _, c, e⟩
    obtain ⟨R, hR⟩ : ∃ R, dfs G fr (k + 1) pre cur s = R := ⟨_, rfl⟩
    rw [hR]
    rw [dfs_succ] at hR
    clear hrow hlenr hM hL hcv h
    go_enter Try.func17, Try.ntmps17
    go_upto_region 1 with fail
    go_quiet (fail)
    have HB1 := Lib.hid (below_drewN (Below.refl B w) nq)
    have HC1 := Lib.hid (HC.out.later (below_drewN (Below.refl _ w) nq))
    clear n0 r0 f0 kc lk HC
    generalize w.drewN nq = w1 at *
    have f0 := HC1.out.fbx.cell 0
    simp only [List.getElem?_toArray, List.getElem?_cons_zero] at f0
    have hto2 := HC1.out.to_ cur
    rw [hto] at hto2
    have hlt : lt = (G cur).length := by
      obtain ⟨A', c', e, _⟩ := hto2
      injection e
    have CB := Lib.hid (bs_any w1 w1.heap.size _ (G cur) fr hto2 (Nat.le_refl _) (hsrt cur) (by have := hlen cur; omega))
    have HTO := Lib.hid hto
    have HLT := Lib.hid hlt
    have HK := Lib.hid (⟨hk, hkD, hD, hpl, hns, hcur⟩ : left us s + 1 ≤ k + 1 ∧ k + 1 ≤ D ∧ D ≤ 262144 ∧ pre.length + left us s ≤ 2000 ∧ ns ≤ 2000 - left us s ∧ U32 cur)
    have bD : (D : Int) ≤ 262144 := by omega
    have blt : (lt : Int) ≤ 1000 := by have := hlen cur; omega
    have dD : decide ((D : Int) = 0) = false := by simp; omega
    have dD' : ((D : Int) == 0) = false := by simp; omega
    obtain ⟨D', hD'⟩ : ∃ D', D = D' + 1 := ⟨D - 1, by omega⟩
    have sD : (D : Int) - 1 = (D' : Int) := by omega
    have HD := Lib.hid hD'
    clear hto2 hto hlt hk hkD hD hpl hns hcur hD'
    by_cases hin : fr ∈ G cur
    · rw [if_pos hin] at hR
      have hd : decide (fr ∈ G cur) = true := decide_eq_true hin
      rw [hd] at CB
      subst hR
      clear hd hin
      go_wp2_with fail
      (with_reducible refine CB.out.mono ?_)
      rintro e w2 ⟨⟨i, rfl⟩, hb⟩
      have HB2 := Lib.hid hb
      clear hb
      go_wp2
      go_ret
      exact ⟨rfl, ⟨ns, _, HC1.out.later HB2.out, show ns ≤ 2000 - left us s by have := HK.out; omega⟩, Lib.hid (HB1.out.trans (HB2.out.mono HC1.out.low.2.2))⟩
    · rw [if_neg hin] at hR
      have hd : decide (fr ∈ G cur) = false := decide_eq_false hin
      rw [hd] at CB
      have HRR := Lib.hid hR
      clear hd hin hR
      go_wp2_with fail
      (with_reducible refine CB.out.mono ?_)
      rintro e w2 ⟨⟨i, rfl⟩, hb⟩
      have HB2 := Lib.hid (HB1.out.trans (hb.mono HC1.out.low.2.2))
      have HC2 := Lib.hid (HC1.out.later hb)
      clear hb HC1 HB1 CB f0
      go_wp2
      obtain ⟨F, hF⟩ : ∃ F, F = fun n s => dfs G fr k (pre ++ [cur]) n s := ⟨_, rfl⟩
      rw [← hF] at HRR
      have HFF := Lib.hid hF
      have HM0 := Lib.hid (show left us s ≤ k ∧ ns ≤ 2000 - left us s by have := HK.out; omega)
      clear hF
      go_loopw [35] (fun t wr => ∃ (i ns2 : Nat) (rv2 : Value) (s2 : Seen), i ≤ lt ∧ t = .int .i64 i ∧ Hid (CS wr B nb rb fb sb cb m base n f G fr cv sm ns2 rv2 (pre ++ [cur]) s2) ∧ Hid (loop F pre ((G cur).drop i) s2 = R) ∧ Hid (left us s2 ≤ k ∧ left us s2 ≤ left us s ∧ ns2 ≤ 2000 - left us s2) ∧ Hid (Below B w wr)) (fun t _ => lt - (intOf t).toNat)
      case atStart => exact ⟨0, ns, _, s, Nat.zero_le _, rfl, HC2, HRR, Lib.hid ⟨HM0.out.1, Nat.le_refl _, HM0.out.2⟩, HB2⟩
      case round =>
        obtain ⟨i, ns2, rv2, s2, hi, rfl, HC3, HR3, HN3, HB3⟩ := hrel
        obtain ⟨w3, rfl⟩ : ∃ w3, w3 = wr := ⟨wr, rfl⟩
        clear HC2 HRR HB2 HM0
        have s0 := HC3.out.sbx.cell 0
        have r0 := HC3.out.rbx.cell 0
        have c0 := HC3.out.cbx.cell 0
        simp only [List.getElem?_toArray, List.getElem?_cons_zero] at s0 r0 c0
        by_cases hl : i < lt
        · have d1 : decide ((i : Int) < (lt : Int)) = true := by simp; omega
          have d1' : decide (i < lt) = true := by simp; omega
          have bi : (i : Int) ≤ 1000 := by omega
          obtain ⟨i', hi'⟩ : ∃ i', i' = i + 1 := ⟨_, rfl⟩
          have si : (i : Int) + 1 = (i' : Int) := by omega
          have hto2 := HC3.out.to_ cur
          rw [HTO.out] at hto2
          obtain ⟨b, off, hA, hb, hcell⟩ := hto2.index i hl
          subst hA
          obtain ⟨x, hx⟩ : ∃ x, (G cur).getD i 0 = x := ⟨_, rfl⟩
          rw [hx] at hcell
          have hxm : x ∈ G cur := by rw [← hx]; exact getD_mem (by have := HLT.out; omega)
          have HXM := Lib.hid (⟨hxm, hus cur x hxm, hu x (hus cur x hxm)⟩ : x ∈ G cur ∧ x ∈ us ∧ U32 x)
          have hdrop : (G cur).drop i = x :: (G cur).drop i' := by
            rw [List.drop_eq_getElem_cons (by have := HLT.out; omega)]
            subst hi'
            rw [← hx]
            simp [List.getD_eq_getElem?_getD, show i < (G cur).length by have := HLT.out; omega]
          have HR4 := Lib.hid (show loop F pre (x :: (G cur).drop i') s2 = R by rw [← hdrop]; exact HR3.out)
          have HII := Lib.hid (⟨hi', hl⟩ : i' = i + 1 ∧ i < lt)
          obtain ⟨q, hq⟩ : ∃ q, s2 x = q := ⟨_, rfl⟩
          have HQ := Lib.hid hq
          have lk : ∀ W, Below w3.heap.size w3 W → (Instr.lookup 39 (.map (some sm)) (.int .u32 x) true).run Try.prog W = .ok (.tuple #[.agg #[], .bool q]) W := fun W hb => by
            have h1 := ((HC3.out.seen.later hb).look Try.underlying39 () (zeroUn W) x (ku_ok.2 HXM.out.2.2)).2
            rw [sf_some s2 HXM.out.2.2, hq] at h1
            exact h1
          have lk0 := lk w3 (Below.refl _ _)
          clear hx hxm hdrop hi' hq hto2 hb hi lk
          cases q with
          | true =>
            go_wp2
            go_roundw
            case rel => exact ⟨i', ns2, rv2, s2, by have := HII.out; omega, rfl, Lib.hid (HC3.out.later ((Below.refl _ _).alloc (Nat.le_refl _) _)), Lib.hid (by have h := HR4.out; unfold loop at h; rwa [if_pos HQ.out] at h), HN3, Lib.hid (HB3.out.alloc (Nat.le_trans HC3.out.low.2.2 (Nat.le_refl _)) _)⟩
            case measure => simp [intOf]; have := HII.out; omega
          | false =>
            obtain ⟨j0, hj0, hj1, hj2, hj3⟩ := info_parts u32_info
            have hb3 := new_ (Below.refl w3.heap.size w3) (.cells #[] 43)
            have HC4 := Lib.hid (HC3.out.later hb3)
            have HB4 := Lib.hid (HB3.out.trans (hb3.mono HC3.out.low.2.2))
            have s4 := HC4.out.sbx.cell 0
            simp only [List.getElem?_toArray, List.getElem?_cons_zero] at s4
            have HM2 := Lib.hid (show M = (pre ++ [cur]).length by have := HM.out; simp; omega)
            have hns3 : ns2 < maxLen := by unfold maxLen; have := HN3.out; omega
            clear hb3 r0 c0
            go_wp2_with (first
              | (at_mapUpdate; refine wpList_put_fm (E := KU) (V := unEE) rfl _ _ _ _ rfl _ Try.underlying39 rfl HC4.out.seen hns3 x (ku_ok.2 HXM.out.2.2) rfl () rfl ?_; intro w5 hfm hg5; have HC5 := Lib.hid (HC4.out.see HXM.out.2.2 hg5 hfm); have HB5 := Lib.hid (show Below B w w5 from (HB4.out.trans ((Below.refl B _).grown hg5 HC4.out.low.2.2 (fun j hj => by injection hj with hj; have := HC4.out.low; omega)))); have r5 := HC5.out.rbx.cell 0; simp only [List.getElem?_toArray, List.getElem?_cons_zero] at r5; clear hfm hg5 s4)
              | (at_builtin; refine wpList_append_own_at _ rfl _ _ 24 rfl B 23 j0 (.int .u32 0) 1 4 Try.underlying24 hj0 hj1 hj2 hj3 rfl (by decide) _ _ _ rfl (show World.ownsRow (w5.alloc (.cells #[.int .u32 x] 23)) B 23 1 rv2 M ((pre ++ [cur]).map (.int .u32)) by rw [HM2.out]; exact HC5.out.row.alloc _) ⟨w5.heap.size, 0, none⟩ 1 1 [.int .u32 x] rfl rfl (cell_one_new _ _ _) (ints_oneCell .u32 [x]) (by have := HM.out; have := HK.out; simp only [maxLen]; omega) (by have := HM.out; have := HK.out; omega) (by have := HC5.out.low.2.2; simp; omega) ?_; intro v7 w7 hown7 hgr7 hnil7 hloc7
                 obtain ⟨g7, cp7, e7, rb7, hc7, hb7⟩ := HC5.out.app (N := M + 1) (by rw [HM2.out]) hown7 hgr7 hloc7 HB5.out
                 subst e7
                 have q7 := rb7.cell 0
                 have z7 := rb7.frozen 0
                 simp only [List.getElem?_toArray, List.getElem?_cons_zero] at q7
                 have c7 := hc7.cbx.cell 0
                 simp only [List.getElem?_toArray, List.getElem?_cons_zero] at c7
                 rw [HCV.out] at c7
                 have HC7 := Lib.hid hc7
                 have HB7 := Lib.hid hb7
                 clear hown7 hgr7 hnil7 hloc7 rb7 r5 hc7 hb7))
            obtain ⟨Rn, hRn⟩ : ∃ Rn, dfs G fr k (pre ++ [cur]) x (ins s2 x) = Rn := ⟨_, rfl⟩
            have hli := left_ins HXM.out.2.1 HQ.out
            have CI := Lib.hid (IH.out _ D' _ sm _ (pre ++ [cur]) x (ins s2 x) HC7.out (by have := HN3.out; omega) (by have := HK.out; have := HD.out; omega) (by have := HK.out; have := HD.out; omega) (by have := HK.out; have := HN3.out; rw [List.length_append]; simp only [List.length_cons, List.length_nil]; omega) (by have := HK.out; have := HN3.out; omega) HXM.out.2.2)
            rw [hRn] at CI
            have HRn := Lib.hid hRn
            have HR5 := Lib.hid (show (if Rn.1 then Rn else loop F pre ((G cur).drop i') Rn.2.2) = R by
              have h := HR4.out
              unfold loop at h
              rw [if_neg (by rw [HQ.out]; decide), HFF.out] at h
              simp only [hRn] at h
              rw [HFF.out]
              exact h)
            have HLM := Lib.hid (show left us Rn.2.2 ≤ left us (ins s2 x) from left_mono (by rw [← hRn]; exact dfs_mono G fr k _ x _))
            have HLI := Lib.hid hli
            clear hRn hli
            go_wp2_with fail
            obtain ⟨r1, r2, r3⟩ := Rn
            cases r1 with
            | true =>
              have CI2 := CI.out
              rw [show fnd ((true, r2, r3) : Res).1 = 2 from rfl] at CI2
              (with_reducible refine CI2.mono ?_)
              rintro e w8 ⟨rfl, h8, hb8⟩
              obtain ⟨ns8, rv8, k8, hn8⟩ := h8.out
              have HC8 := Lib.hid k8
              have HN8 := Lib.hid hn8
              have HB8 := Lib.hid (HB7.out.trans hb8.out)
              clear h8 hb8 k8 hn8 CI2
              have eR := Lib.hid (show (true, r2, r3) = R from HR5.out)
              go_wp2
              go_ret
              exact ⟨by rw [← eR.out]; rfl, ⟨ns8, rv8, by rw [← eR.out]; exact HC8.out, by rw [← eR.out]; exact HN8.out⟩, HB8⟩
            | false =>
              have CI2 := CI.out
              rw [show fnd ((false, r2, r3) : Res).1 = 0 from rfl] at CI2
              (with_reducible refine CI2.mono ?_)
              rintro e w8 ⟨rfl, h8, hb8⟩
              obtain ⟨ns8, rv8, k8, hn8⟩ := h8.out
              have HC8 := Lib.hid k8
              have HN8 := Lib.hid hn8
              have HB8 := Lib.hid (HB7.out.trans hb8.out)
              clear h8 hb8 k8 hn8 CI2
              have er2 : r2 = pre ++ [cur] := by
                have h := dfs_dead G fr k (pre ++ [cur]) x (ins s2 x)
                rw [HRn.out] at h
                exact h rfl
              subst er2
              have HR6 := Lib.hid (show loop F pre ((G cur).drop i') r3 = R from HR5.out)
              go_wp2
              go_roundw
              case rel => exact ⟨i', ns8, rv8, r3, by have := HII.out; omega, rfl, HC8, HR6, Lib.hid (by have h1 := HLM.out; have h2 := HLI.out; have h3 := HN3.out; have h4 := HN8.out; have h5 : left us r3 ≤ left us (ins s2 x) := h1; have h6 : ns8 ≤ 2000 - left us r3 := h4; omega), HB8⟩
              case measure => simp [intOf]; have := HII.out; omega
        · have d1 : decide ((i : Int) < (lt : Int)) = false := by simp; omega
          have d1' : decide (i < lt) = false := by simp; omega
          have eR := Lib.hid (show ((false, pre, s2) : Res) = R by
            have h := HR3.out
            rw [List.drop_eq_nil_of_le (by have := HLT.out; omega)] at h
            exact h)
          have hrow := HC3.out.row
          have HM2 := Lib.hid (show M = (pre ++ [cur]).length by have := HM.out; simp; omega)
          rw [← HM2.out] at hrow
          obtain ⟨g3, c3, e3, hc3⟩ := own_form hrow (by omega)
          subst e3
          have hcut := own_cut hrow (k := L) (by omega)
          have z3 := HC3.out.rbx.frozen 0
          have HC9 := Lib.hid (HC3.out.store (rv' := .slice (some ⟨g3, 0, none⟩) L c3) (ring' := pre) (by
            have e : ((pre ++ [cur]).map (Value.int .u32)).take L = pre.map (.int .u32) := by
              rw [HM.out.2.1, ← List.map_take]; simp
            rw [e] at hcut
            rw [← HM.out.2.1]
            exact hcut) (fun b hb => HC3.out.far b hb))
          have HB9 := Lib.hid (show Below B w (w3.setCell ⟨rb, 0, none⟩ (.slice (some ⟨g3, 0, none⟩) L c3)) from ⟨HB3.out.os, HB3.out.tape, HB3.out.output, by simpa [World.setCell] using HB3.out.size, fun j hj => (Below.heap_setCell w3 _ _ j (by have := HC3.out.low; show j ≠ rb; omega)).trans (HB3.out.block j hj)⟩)
          have hl1 : L < c3 := by omega
          have hl2 : ¬ L = c3 := by omega
          have hl3 : ¬ c3 = L := by omega
          clear hrow hcut s0 c0
          go_wp2
          all_goals go_ret
          all_goals exact ⟨by rw [← eR.out]; rfl, ⟨ns2, _, by rw [← eR.out]; exact HC9.out, by rw [← eR.out]; exact HN3.out.2.2⟩, HB9⟩
end Go.Proofs.Yteldfoplhcnljaa.Knot
