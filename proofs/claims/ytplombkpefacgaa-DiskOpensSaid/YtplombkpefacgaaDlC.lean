import Derived.Test.YtplombkpefacgaaDkX
/- New. -/
/- A device's file gets one sector more; the document's New. -/
namespace Go.Proofs.Ytplombkpefacgaa.Disk
open Go.ChangeShapes Go.WideShapes Go.ChangeAt Go.RowKit Go.IntWalk Go.Proofs.Mem Go.Proofs.Each
set_option linter.unusedVariables false
set_option linter.unusedSimpArgs false
def Dv.push (D : Dv) (i : Nat) (s : Se) : Dv := { D with f := fun k => if k = i then D.f i ++ [s] else D.f k }
/-- the blocks of a sector more: x its row's, y the file's -/
def colP (w : World) (col : Nat → Nat) (k c : Nat) (x y : Option Nat) : Nat → Nat := fun g => if g < w.heap.size then col g else if x = some g then k else if y = some g then c else 0
theorem FiAt.push' {tS : TypeId} {w W : World} {col col' : Nat → Nat} {c : Nat} {v v' u : Value} {l : List Se} {uv : List Pl} {xs : List Int} {S : Nat → Prop} (h : FiAt tS w col c v l uv) (hf : Fr S w W) (hS : ∀ x, x < w.heap.size → S x → col x = 0 ∨ v.ownBlock = some x) (hc : 0 < c) (hco : ∀ x, x < w.heap.size → col' x = col x)
    (ho : W.ownsRow 0 tS 2 v' (l.length + 1) (uv.flatMap cSe ++ [u, .slice none 0 0])) (hv : ∀ g, v'.ownBlock = some g → col' g = c) (hu : W.ownsRow w.heap.size 5 1 u 128 (xs.map (.int .u8))) (hxl : xs.length = 128) (hxb : Bytes xs) (huc : ∀ g, u.ownBlock = some g → col' g = c + 1 + l.length) :
    FiAt tS W col' c v' (l ++ [⟨xs, []⟩]) (uv ++ [(u, .slice none 0 0, [])]) := by
  refine ⟨by simp [h.n], ⟨by rw [List.length_append, List.flatMap_append]; exact ho, hv⟩, fun j q r hq hr => ?_⟩
  by_cases hj : j < l.length
  · rw [List.getElem?_append_left (by rw [h.n]; exact hj)] at hq
    rw [List.getElem?_append_left hj] at hr
    refine (h.sec j q r hq hr).fr hf (fun x hx e => ?_) hco
    rcases hS x hx e with h1 | h1
    · omega
    · have := h.row.2 x h1; omega
  · have hjl : j = l.length := by
      have := (List.getElem?_eq_some_iff.1 hr).1
      rw [List.length_append] at this
      simp at this; omega
    subst hjl
    rw [← h.n, List.getElem?_append_right (Nat.le_refl _), Nat.sub_self] at hq
    rw [List.getElem?_append_right (Nat.le_refl _), Nat.sub_self] at hr
    simp at hq hr
    subst hq hr
    exact SeAt.bare ⟨own_lower hu (Nat.zero_le _), huc⟩ hxl hxb
theorem colP_old {w : World} {col : Nat → Nat} {k c : Nat} {x y : Option Nat} {g : Nat} (h : g < w.heap.size) : colP w col k c x y g = col g := by unfold colP; rw [if_pos h]
theorem colP_x {w : World} {col : Nat → Nat} {k c : Nat} {x y : Option Nat} {g : Nat} (h : w.heap.size ≤ g) (e : x = some g) : colP w col k c x y g = k := by unfold colP; rw [if_neg (by omega), if_pos e]
theorem colP_y {w : World} {col : Nat → Nat} {k c : Nat} {x y : Option Nat} {g : Nat} (h : w.heap.size ≤ g) (e : y = some g) (hn : x ≠ some g) : colP w col k c x y g = c := by unfold colP; rw [if_neg (by omega), if_neg hn, if_pos e]
theorem DvAt.push {tS tD : TypeId} {w W : World} {S : Nat → Prop} {b : Nat} {D : Dv} {col : Nat → Nat} {fv : Nat → Value} {uv : Nat → List Pl} (h : DvAt tS tD w S b D col fv uv) {i : Nat} (hi : i < 2) {u v' : Value} {xs : List Int} (hm : (D.f i).length < 4096)
    (hf : Fr (fun x => (fv i).ownBlock = some x ∨ x = b) w W) (ho : W.ownsRow 0 tS 2 v' ((D.f i).length + 1) ((uv i).flatMap cSe ++ [u, .slice none 0 0])) (hv : v'.ownBlock = (fv i).ownBlock ∨ ∀ k, v'.ownBlock = some k → w.heap.size ≤ k)
    (hu : W.ownsRow w.heap.size 5 1 u 128 (xs.map (.int .u8))) (hxl : xs.length = 128) (hxb : Bytes xs) (hb : Box W b ((dC fv D.lim D.left D.dead).setIfInBounds i v') tD) (hT : tS ≠ 5) :
    ∃ col', DvAt tS tD W (growS w W S) b (D.push i ⟨xs, []⟩) col' (fun k => if k = i then v' else fv k) (fun k => if k = i then uv i ++ [(u, .slice none 0 0, [])] else uv k) := by
  have hbl := h.box.lt
  have hbc := h.bcol
  have hcv : ∀ g, (fv i).ownBlock = some g → col g = fc i := (h.file i hi).row.2
  have hsep : ∀ g, u.ownBlock = some g → v'.ownBlock ≠ some g := fun g hg => own_apart hu ho (Ne.symm hT) g hg
  refine ⟨colP w col (fc i + 1 + (D.f i).length) (fc i) u.ownBlock v'.ownBlock, ?_⟩
  have hco : ∀ x, x < w.heap.size → colP w col (fc i + 1 + (D.f i).length) (fc i) u.ownBlock v'.ownBlock x = col x := fun x hx => colP_old hx
  refine ⟨?_, .inl h.here, by rw [hco _ hbl]; exact hbc, fun k hk => ?_, fun k hk => ?_, fun x hx => ?_, fun x hx => ?_, h.left⟩
  · have e : (dC fv D.lim D.left D.dead).setIfInBounds i v' = dC (fun k => if k = i then v' else fv k) D.lim D.left D.dead := by
      rcases two hi with rfl | rfl <;> rfl
    rw [← show (dC fv D.lim D.left D.dead).setIfInBounds i v' = #[if 0 = i then v' else fv 0, if 1 = i then v' else fv 1, .bool (D.push i ⟨xs, []⟩).lim, .int .i64 (D.push i ⟨xs, []⟩).left, .bool (D.push i ⟨xs, []⟩).dead] from e]
    exact hb
  · by_cases hki : k = i
    · subst hki
      simp only [Dv.push, if_true]
      refine (h.file k hk).push' hf (fun x hx hs => ?_) (by unfold fc; omega) hco ho (fun g hg => ?_) hu hxl hxb (fun g hg => colP_x (hu.lt g hg).1 hg)
      · rcases hs with hs | hs
        · exact .inr hs
        · exact .inl (by rw [hs]; exact hbc)
      · by_cases hlt : g < w.heap.size
        · rw [hco g hlt]
          rcases hv with hv | hv
          · exact hcv g (by rw [← hv]; exact hg)
          · have := hv g hg; omega
        · exact colP_y (by omega) hg (fun e => hsep g e hg)
    · simp only [Dv.push, if_neg hki]
      refine (h.file k hk).fr hf (fun x hx hs => ?_) hco
      have := h.most k hk
      rcases hs with hs | hs
      · have := hcv x hs; unfold fc at *; omega
      · rw [hs, hbc]; unfold fc; omega
  · by_cases hki : k = i
    · subst hki; simp only [Dv.push, if_true, List.length_append, List.length_singleton]; omega
    · simp only [Dv.push, if_neg hki]; exact h.most k hk
  · by_cases hlt : x < w.heap.size
    · rw [hco x hlt] at hx; exact .inl (h.mine x hx)
    · refine .inr ⟨by omega, ?_⟩
      unfold colP at hx
      rw [if_neg hlt] at hx
      by_cases h1 : u.ownBlock = some x
      · exact (hu.lt x h1).2
      · rw [if_neg h1] at hx
        by_cases h2 : v'.ownBlock = some x
        · exact (ho.lt x h2).2
        · rw [if_neg h2] at hx; exact absurd rfl hx
  · rcases hx with hx | hx
    · exact Nat.lt_of_lt_of_le (h.old x hx) hf.size
    · exact hx.2
/-- a device of so many sectors of noughts -/
def mk2 (a c : Nat) : Dv := ⟨fun k => if k = 0 then List.replicate a zSe else if k = 1 then List.replicate c zSe else [], false, 0, false⟩
theorem mk2_push0 (a c : Nat) : mk2 (a + 1) c = (mk2 a c).push 0 zSe := by
  unfold mk2 Dv.push
  congr 1
  funext k
  by_cases h : k = 0
  · simp only [h, if_true]; exact List.replicate_succ'
  · simp only [if_neg h]
theorem mk2_push1 (a c : Nat) : mk2 a (c + 1) = (mk2 a c).push 1 zSe := by
  unfold mk2 Dv.push
  congr 1
  funext k
  by_cases h : k = 1
  · simp only [h, if_true]; exact List.replicate_succ'
  · simp only [if_neg h]
theorem mk2_new (a c : Nat) : newTo (fun k => if k = 0 then a else c) 2 = mk2 a c := by
  unfold newTo mk2
  congr 1
  funext k
  by_cases h0 : k = 0
  · subst h0; rfl
  · by_cases h1 : k = 1
    · subst h1; rfl
    · simp only [if_neg h0, if_neg h1]
      rw [if_neg (by omega)]
theorem rsec_info : (Try.prog.info? 74).map (fun i => (i.zero, i.size, i.bytes)) = some (some (.agg #[.slice none 0 0, .slice none 0 0]), 2, 48) := by kernel_rfl
theorem made_row {W : World} {g : Nat} (h : Box W g (madeCells #[Value.int .u8 0] (128 * 1)) 5) : W.ownsRow g 5 1 (.slice (some ⟨g, 0, none⟩) 128 128) 128 (z128.map (.int .u8)) :=
  ⟨by simp [z128], .inr ⟨g, 128, _, rfl, Nat.le_refl _, h, Nat.le_refl _, by decide, size_madeCells _ _, by rw [zero_row]; rfl⟩⟩
def OutR (w wr : World) (D : Dv) : Prop := ∃ col fv uv, DR wr (newS w wr) w.heap.size D col fv uv ∧ Below w.heap.size w wr
set_option maxRecDepth 100000 in
set_option maxHeartbeats 16000000 in
theorem rnew_yes (w : World) (N0 N1 : Nat) (h0 : N0 ≤ 4096) (h1 : N1 ≤ 4096) :
    Calls Try.prog 12 #[.int .i64 N0, .int .i64 N1] w fun e w' => e = .returned (.pointer (some ⟨w.heap.size, 0, none⟩)) ∧ OutR w w' (mk2 N0 N1) := by
  obtain ⟨i0, hi0, hz0, hz1, hz2⟩ := info_parts u8_info
  obtain ⟨j0, hj0, hj1, hj2, hj3⟩ := info_parts rsec_info
  have MK8 := Lib.hid (show ∀ W, (Instr.makeSlice 30 (.int .i64 128) (.int .i64 128)).run Try.prog W = .ok (.slice (some ⟨W.heap.size, 0, none⟩) 128 128) (W.alloc (.cells (madeCells #[Value.int .u8 0] (128 * 1)) 5)) from fun W => by
    have := run_make (w := W) 30 5 i0 _ Try.underlying30 hi0 hz0 .i64 .i64 128 128 (by decide) (by decide) (by rw [hz2]; decide) (by decide)
    rw [hz1] at this; exact this)
  have OU0 := Lib.hid (show OutR w (w.alloc (.cells #[.slice none 0 0, .slice none 0 0, .bool false, .int .i64 0, .bool false] 72)) (mk2 0 0) from
    ⟨fun _ => 0, fun _ => .slice none 0 0, fun _ => [], ⟨Box.new _ _ _, ⟨Nat.le_refl _, by simp⟩, rfl, fun k hk => by rcases two hk with rfl | rfl <;> exact ⟨rfl, Hd.nil _ _ _ _ _, fun i p s h => by simp at h⟩, fun k hk => by rcases two hk with rfl | rfl <;> simp [mk2], fun g hg => absurd rfl hg, fun g hg => hg.2, ⟨Int.le_refl _, by show (0 : Int) ≤ _; decide⟩⟩, new_ (Below.refl _ _) _⟩)
  have d0 : decide ((N0 : Int) < 0) = false := by simp
  have d1 : decide ((N1 : Int) < 0) = false := by simp
  have d2 : decide ((4096 : Int) < (N0 : Int)) = false := by simp; omega
  have d3 : decide ((4096 : Int) < (N1 : Int)) = false := by simp; omega
  go_enter Try.func12, Try.ntmps12
  go_wp2
  go_loopw [6] (fun x wr => ∃ j : Nat, j ≤ N0 ∧ x = .int .i64 j ∧ Hid (OutR w wr (mk2 j 0))) (fun x _ => N0 - (intOf x).toNat)
  case atStart => exact ⟨0, Nat.zero_le _, rfl, OU0⟩
  case round =>
    obtain ⟨j, hj, rfl, HO⟩ := hrel
    by_cases hlt : j < N0
    · have dj : decide ((j : Int) < (N0 : Int)) = true := by simp; omega
      obtain ⟨w1, rfl⟩ : ∃ w1, w1 = wr := ⟨wr, rfl⟩
      obtain ⟨col, fv, uv, hd, hbel⟩ := HO.out
      obtain ⟨D, hD⟩ : ∃ D, D = mk2 j 0 := ⟨_, rfl⟩
      rw [← hD] at hd
      have hlen : (D.f 0).length = j := by rw [hD]; simp [mk2]
      obtain ⟨b, hbw⟩ : ∃ b, b = w.heap.size := ⟨_, rfl⟩
      rw [← hbw] at hd ⊢
      obtain ⟨Av, cv, ev, hlc⟩ : ∃ A c, fv 0 = .slice A (D.f 0).length c ∧ (D.f 0).length ≤ c := by
        rcases (hd.file 0 (by decide)).row.1.2 with ⟨e, h0⟩ | ⟨g, cap, _, e, _, _, h1, _⟩
        · rw [h0]; exact ⟨none, 0, e, Nat.le_refl _⟩
        · exact ⟨_, cap, e, h1⟩
      obtain ⟨LQ, hL⟩ : ∃ LQ, LQ = (D.f 0).length := ⟨_, rfl⟩
      rw [← hL] at ev hlc hlen
      obtain ⟨vs, hvs⟩ : ∃ vs, vs = (uv 0).flatMap cSe := ⟨_, rfl⟩
      have HLB := Lib.hid (show LQ ≤ 4096 by omega)
      have OW1 := Lib.hid (show w1.ownsRow 0 74 2 (.slice Av LQ cv) LQ vs by rw [← ev, hvs, hL]; exact (hd.file 0 (by decide)).row.1)
      have BX1 := Lib.hid (show Box w1 b (dC fv D.lim D.left D.dead) 72 from hd.box)
      have CB1 := Lib.hid (show (dC fv D.lim D.left D.dead)[0]? = some (.slice Av LQ cv) by rw [← ev]; rfl)
      have HRL := Lib.hid (show ∀ k, (Value.slice Av LQ cv).ownBlock = some k → k < w1.heap.size from fun k hk => (OW1.out.lt k hk).2)
      have HRG : (Value.slice Av LQ cv).ownBlock ≠ some b := fun e => by
        have h2 := (hd.file 0 (by decide)).row.2 b (by rw [ev]; exact e)
        have h3 := hd.bcol
        unfold fc at h2
        omega
      have HD := Lib.hid hd
      have EV := Lib.hid ev
      have HLL := Lib.hid (And.intro hL hlen)
      have HVS := Lib.hid hvs
      have HDD := Lib.hid hD
      have HBW := Lib.hid hbw
      have HBEL := Lib.hid hbel
      clear hd ev hL hvs hD hbw hbel HO hlen
      go_wp2_with fail
      refine wp_region_app (by kernel_rfl) (by kernel_rfl) (Value.slice Av LQ cv).ownBlock b 9 13 72 (fun v => (dC fv D.lim D.left D.dead).setIfInBounds 0 v) [(fun v _ => v = .pointer (some ⟨b, 0, none⟩)), (fun v _ => v = .pointer (some ⟨b, 0, none⟩)), (fun v _ => v = .pointer (some ⟨b, 0, none⟩)), (fun v _ => v = .pointer (some ⟨b, 0, none⟩)), (fun v _ => v = .pointer (some ⟨b, 0, none⟩)), (fun v _ => v = .slice Av LQ cv), (fun v W => W.ownsRow w1.heap.size 5 1 v 128 (z128.map (.int .u8))), (fun v W => ∃ x, v = .agg #[x, .slice none 0 0] ∧ W.ownsRow w1.heap.size 5 1 x 128 (z128.map (.int .u8))), (fun v W => ∃ g1, v = .slice (some ⟨g1, 0, none⟩) 1 1 ∧ w1.heap.size ≤ g1 ∧ ∃ x, Box W g1 #[x, .slice none 0 0] 74 ∧ W.ownsRow w1.heap.size 5 1 x 128 (z128.map (.int .u8))), (fun v W => ∃ x, W.ownsRow 0 74 2 v (LQ + 1) (vs ++ [x, .slice none 0 0]) ∧ W.ownsRow w1.heap.size 5 1 x 128 (z128.map (.int .u8)) ∧ (v.ownBlock = (Value.slice Av LQ cv).ownBlock ∨ ∀ k, v.ownBlock = some k → w1.heap.size ≤ k)), (fun v _ => v = .pointer (some ⟨b, 0, none⟩)), (fun v _ => v = .pointer (some ⟨b, 0, none⟩)), (fun v _ => v = .pointer (some ⟨b, 0, none⟩)), (fun v _ => v = undef)] (by decide) (by intro o ho; injection ho with ho; subst ho; exact ⟨⟨9, .data⟩, by simp, rfl, rfl⟩) HRG ?_ (fun vals => ?_) (fun vals W hfr hbx hall _ => ?_) (by decide)
      · intro j v W W' hj hsz hf h
        match j, hj, h with
        | 0, _, h => exact h
        | 1, _, h => exact h
        | 2, _, h => exact h
        | 3, _, h => exact h
        | 4, _, h => exact h
        | 5, _, h => exact h
        | 6, _, h => exact own_frS h hf (fun k hk hs => by have := (h.lt k hk).1; rcases hs with ⟨_, h1⟩ | h1; (have := HRL.out _ h1; omega); (have := BX1.out.lt; omega))
        | 7, _, h => obtain ⟨x, e1, e4⟩ := h; exact ⟨x, e1, own_frS e4 hf (fun k hk hs => by have := (e4.lt k hk).1; rcases hs with ⟨_, h1⟩ | h1; (have := HRL.out _ h1; omega); (have := BX1.out.lt; omega))⟩
        | 8, _, h => obtain ⟨g1, e1, e2, x, e3, e4⟩ := h; exact ⟨g1, e1, e2, x, e3.fr hf (fun hk => by rcases hk with ⟨_, h1⟩ | h1; (have := HRL.out _ h1; omega); (have := BX1.out.lt; omega)), own_frS e4 hf (fun k hk hs => by have := (e4.lt k hk).1; rcases hs with ⟨_, h1⟩ | h1; (have := HRL.out _ h1; omega); (have := BX1.out.lt; omega))⟩
        | 9, _, h => obtain ⟨x, e1, e2, e3⟩ := h; exact ⟨x, own_frS e1 hf (fun k hk hs => by rcases hs with ⟨h1, _⟩ | h1; (exact h1 rfl); (subst h1; rcases e3 with h3 | h3; (rw [h3] at hk; exact HRG hk); (have := h3 _ hk; have := BX1.out.lt; omega))), own_frS e2 hf (fun k hk hs => by have := (e2.lt k hk).1; rcases hs with ⟨h1, _⟩ | h1; (exact h1 rfl); (have := BX1.out.lt; omega)), e3⟩
        | 10, _, h => exact h
        | 11, _, h => exact h
        | 12, _, h => exact h
        | 13, hj, _ => exact absurd rfl hj
        | _ + 14, _, _ => trivial
      · simp only [ObL, Act.put, List.setIfInBounds_toArray, List.set_cons_succ, List.set_cons_zero]
        refine ⟨?_, ?_, ?_, ?_, ?_, ?_, ?_, ?_, ?_, ?_, ?_, ?_, ?_, ?_, trivial⟩
        · intro L W hL hk hC hw
          clear hw
          clear hL hC hk
          refine step_plain rfl ?_
          go_simp
          first | exact ⟨Ra.same _, Fa.val (by decide) rfl rfl⟩ | exact ⟨_, rfl, Ra.same _, Fa.val (by decide) rfl rfl⟩
        · intro L W hL hk hC hw
          clear hw
          clear hL hC hk
          refine step_plain rfl ?_
          go_simp
          first | exact ⟨Ra.same _, Fa.val (by decide) rfl rfl⟩ | exact ⟨_, rfl, Ra.same _, Fa.val (by decide) rfl rfl⟩
        · intro L W hL hk hC hw
          have f1 : vals 1 = .pointer (some ⟨b, 0, none⟩) := Fa.get (hw ⟨1, .data⟩ (by simp) rfl) (by decide)
          clear hw
          clear hL hC hk
          refine step_plain rfl ?_
          go_simp
          first | exact ⟨Ra.same _, Fa.val (by decide) rfl rfl⟩ | exact ⟨_, rfl, Ra.same _, Fa.val (by decide) rfl rfl⟩
        · intro L W hL hk hC hw
          have f2 : vals 2 = .pointer (some ⟨b, 0, none⟩) := Fa.get (hw ⟨2, .data⟩ (by simp) rfl) (by decide)
          clear hw
          clear hL hC hk
          refine step_plain rfl ?_
          go_simp
          first | exact ⟨Ra.same _, Fa.val (by decide) rfl rfl⟩ | exact ⟨_, rfl, Ra.same _, Fa.val (by decide) rfl rfl⟩
        · intro L W hL hk hC hw
          have f3 : vals 3 = .pointer (some ⟨b, 0, none⟩) := Fa.get (hw ⟨3, .data⟩ (by simp) rfl) (by decide)
          clear hw
          clear hL hC hk
          refine step_plain rfl ?_
          go_simp
          first | exact ⟨Ra.same _, Fa.val (by decide) rfl rfl⟩ | exact ⟨_, rfl, Ra.same _, Fa.val (by decide) rfl rfl⟩
        · intro L W hL hk hC hw
          have f4 : vals 4 = .pointer (some ⟨b, 0, none⟩) := Fa.get (hw ⟨4, .data⟩ (by simp) rfl) (by decide)
          clear hw
          have bx := hC.box BX1.out (hL.not_yet hk 13 8 (by decide +kernel)) HRG
          have kc : W.cell? ⟨b, 0, none⟩ = some (.slice Av LQ cv) := by rw [bx.cell]; exact CB1.out
          clear hL hC hk bx
          refine step_plain rfl ?_
          go_simp
          first | exact ⟨Ra.same _, Fa.val (by decide) rfl rfl⟩ | exact ⟨_, rfl, Ra.same _, Fa.val (by decide) rfl rfl⟩
        · intro L W hL hk hC hw
          clear hw
          have hb := hC.below (hL.not_yet hk 9 8 (by decide +kernel)) (hL.not_yet hk 13 8 (by decide +kernel))
          have hsz := hb.size
          have mk := MK8.out W
          clear hL hC hk hb
          refine step_plain rfl ?_
          go_simp
          have hz := new_ (Below.refl W.heap.size W) (.cells (madeCells #[Value.int .u8 0] (128 * 1)) 5)
          have hr := own_lower (made_row (Box.new W (madeCells #[Value.int .u8 0] (128 * 1)) 5)) hsz
          first | exact ⟨Ra.of_below hz, Fa.val (by decide) rfl hr⟩ | exact ⟨_, rfl, Ra.of_below hz, Fa.val (by decide) rfl hr⟩
        · intro L W hL hk hC hw
          have f6 : W.ownsRow w1.heap.size 5 1 (vals 6) 128 (z128.map (.int .u8)) := Fa.get (hw ⟨6, .data⟩ (by simp) rfl) (by decide)
          clear hw
          have hsz := Lib.hid (show w1.heap.size ≤ W.heap.size from hC.size)
          obtain ⟨A6, c6, e6⟩ := own_slice' f6
          rw [e6] at f6
          have F6 := Lib.hid f6
          clear hL hC hk f6
          refine step_plain rfl ?_
          go_simp
          first | exact ⟨Ra.same _, Fa.val (by decide) rfl ⟨_, rfl, F6.out⟩⟩ | exact ⟨_, rfl, Ra.same _, Fa.val (by decide) rfl ⟨_, rfl, F6.out⟩⟩
        · intro L W hL hk hC hw
          have f7 : ∃ x, (vals 7) = .agg #[x, .slice none 0 0] ∧ W.ownsRow w1.heap.size 5 1 x 128 (z128.map (.int .u8)) := Fa.get (hw ⟨7, .data⟩ (by simp) rfl) (by decide)
          clear hw
          have hsz := Lib.hid (show w1.heap.size ≤ W.heap.size from hC.size)
          obtain ⟨x, e7, hx⟩ := f7
          obtain ⟨A6, c6, e6⟩ := own_slice' hx
          subst e6
          have F6 := Lib.hid hx
          clear hL hC hk hx
          refine step_plain rfl ?_
          go_simp
          have hz := new_ (Below.refl W.heap.size W) (.cells #[.slice A6 128 c6, .slice none 0 0] 74)
          first | exact ⟨Ra.of_below hz, Fa.val (by decide) rfl ⟨_, rfl, hsz.out, _, Box.new _ _ _, own_below F6.out hz⟩⟩ | exact ⟨_, rfl, Ra.of_below hz, Fa.val (by decide) rfl ⟨_, rfl, hsz.out, _, Box.new _ _ _, own_below F6.out hz⟩⟩
        · intro L W hL hk hC hw
          have f5 : vals 5 = .slice Av LQ cv := Fa.get (hw ⟨5, .data⟩ (by simp) rfl) (by decide)
          have f8 : ∃ g1, (vals 8) = .slice (some ⟨g1, 0, none⟩) 1 1 ∧ w1.heap.size ≤ g1 ∧ ∃ x, Box W g1 #[x, .slice none 0 0] 74 ∧ W.ownsRow w1.heap.size 5 1 x 128 (z128.map (.int .u8)) := Fa.get (hw ⟨8, .data⟩ (by simp) rfl) (by decide)
          clear hw
          have hb := hC.below hk (hL.not_yet hk 13 8 (by decide +kernel))
          have ow := own_below OW1.out hb
          obtain ⟨g1, e7, hg1, x, hbx1, hx1⟩ := f8
          obtain ⟨Ax, cx, ex⟩ := own_slice' hx1
          subst ex
          clear hL hC hk
          refine step_plain rfl ?_
          refine wp_push W _ _ _ rfl 0 74 j0 _ 2 48 Try.underlying69 hj0 hj1 hj2 hj3 rfl (by decide) [.slice Ax 128 cx, .slice none 0 0] rfl (by intro u hu; simp only [List.mem_cons, List.not_mem_nil, or_false] at hu; rcases hu with rfl | rfl <;> rfl) (.slice Av LQ cv) LQ vs f5 ow g1 _ e7 hbx1 (by simp only [maxLen]; have := HLB.out; omega) (by have := HLB.out; omega) (Nat.zero_le _) ?_
          intro v1 w2 ho1 hgr1 hb1
          have hk1 : (Value.slice Ax 128 cx).ownBlock = none ∨ (Value.slice Ax 128 cx).ownBlock ≠ (Value.slice Av LQ cv).ownBlock := by
                refine .inr (fun e9 => ?_)
                cases hAx : (Value.slice Ax 128 cx).ownBlock with
                | none => rcases hx1.2 with ⟨_, h0⟩ | ⟨q, _, _, eq, _⟩; (cases h0); (rw [eq] at hAx; cases hAx)
                | some q => have h8 := (hx1.lt q hAx).1; rw [hAx] at e9; have := HRL.out q e9.symm; omega
          have hk2 : v1.ownBlock = (Value.slice Av LQ cv).ownBlock ∨ ∀ k, v1.ownBlock = some k → w1.heap.size ≤ k := by
                rcases hb1 with h | h
                · exact .inl h
                · exact .inr (fun k hk => by rw [h] at hk; injection hk with hk; have := hb.size; omega)
          exact ⟨_, rfl, Fr.grown (Fr.refl _ _) hgr1 (fun g e => .inl (.inl ⟨rfl, e⟩)), Fa.val (by decide) rfl ⟨_, ho1, hx1.kept hgr1 hk1, hk2⟩⟩
        · intro L W hL hk hC hw
          have f0 : vals 0 = .pointer (some ⟨b, 0, none⟩) := Fa.get (hw ⟨0, .data⟩ (by simp) rfl) (by decide)
          clear hw
          clear hL hC hk
          refine step_plain rfl ?_
          go_simp
          first | exact ⟨Ra.same _, Fa.val (by decide) rfl rfl⟩ | exact ⟨_, rfl, Ra.same _, Fa.val (by decide) rfl rfl⟩
        · intro L W hL hk hC hw
          have f10 : vals 10 = .pointer (some ⟨b, 0, none⟩) := Fa.get (hw ⟨10, .data⟩ (by simp) rfl) (by decide)
          clear hw
          clear hL hC hk
          refine step_plain rfl ?_
          go_simp
          first | exact ⟨Ra.same _, Fa.val (by decide) rfl rfl⟩ | exact ⟨_, rfl, Ra.same _, Fa.val (by decide) rfl rfl⟩
        · intro L W hL hk hC hw
          have f11 : vals 11 = .pointer (some ⟨b, 0, none⟩) := Fa.get (hw ⟨11, .data⟩ (by simp) rfl) (by decide)
          clear hw
          clear hL hC hk
          refine step_plain rfl ?_
          go_simp
          first | exact ⟨Ra.same _, Fa.val (by decide) rfl rfl⟩ | exact ⟨_, rfl, Ra.same _, Fa.val (by decide) rfl rfl⟩
        · intro L W hL hk hC hw
          have f12 : vals 12 = .pointer (some ⟨b, 0, none⟩) := Fa.get (hw ⟨12, .data⟩ (by simp) rfl) (by decide)
          have f9 : ∃ x, W.ownsRow 0 74 2 (vals 9) (LQ + 1) (vs ++ [x, .slice none 0 0]) ∧ W.ownsRow w1.heap.size 5 1 x 128 (z128.map (.int .u8)) ∧ ((vals 9).ownBlock = (Value.slice Av LQ cv).ownBlock ∨ ∀ k, (vals 9).ownBlock = some k → w1.heap.size ≤ k) := Fa.get (hw ⟨9, .data⟩ (by simp) rfl) (by decide)
          clear hw
          have bx := hC.box BX1.out hk HRG
          obtain ⟨x, hx8, hxx, hx9⟩ := f9
          obtain ⟨A2, l2, e21⟩ := own_slice' hx8
          have kc : ∃ z, W.cell? ⟨b, 0, none⟩ = some z := ⟨_, by rw [bx.cell]; exact CB1.out⟩
          obtain ⟨z, kc⟩ := kc
          have fc := bx.frozen 0
          clear hL hC hk
          refine step_plain rfl ?_
          go_simp
          have hb9 := Box.set_ bx 0 (.slice A2 (LQ + 1) l2)
          exact ⟨Fr.setCell (Fr.refl _ _) (p := ⟨b, 0, none⟩) (.inl (.inr ⟨rfl, rfl⟩)) _, undef, Fa.last (by decide) (by rw [e21]; exact hb9)⟩
      · simp only [TL, Act.put, List.setIfInBounds_toArray, List.set_cons_succ, List.set_cons_zero]
        obtain ⟨x, hx1, hx2, hx3⟩ := hall 9 (by decide) (by decide)
        have hpu := HD.out.push (i := 0) (by decide) (u := x) (xs := z128) (v' := vals 9) (by rw [← HLL.out.1]; have := HLB.out; have := HLL.out.2; omega) (by rw [EV.out]; exact hfr) (by rw [← HLL.out.1, ← HVS.out]; exact hx1) (by rw [EV.out]; exact hx3) hx2 (by decide) z128_bytes hbx (by decide)
        obtain ⟨col', hpu⟩ := hpu
        have HNX := Lib.hid (show OutR w W (mk2 (j + 1) 0) from ⟨col', _, _, by
          have e9 : (mk2 (j + 1) 0) = D.push 0 zSe := by rw [HDD.out]; exact mk2_push0 _ _
          rw [e9, ← HBW.out]
          refine hpu.mono (fun y hy => ?_) (fun y hy => hy.2)
          rcases hy with hy | hy
          · exact ⟨hy.1, Nat.lt_of_lt_of_le hy.2 hfr.size⟩
          · exact ⟨Nat.le_trans HBEL.out.size hy.1, hy.2⟩, HBEL.out.trans (hfr.to_below (B := w.heap.size) (fun y hy => by
            rcases hy with hy | hy
            · exact (HD.out.mine y (by rw [(HD.out.file 0 (by decide)).row.2 y (by rw [EV.out]; exact hy)]; unfold fc; omega)).1
            · have := HBW.out; omega) HBEL.out.size)⟩)
        clear hfr hbx hall hx1 hx2 hx3 hpu
        go_wp2
        go_roundw
        case rel => exact ⟨j + 1, by omega, by go_num, HNX⟩
        case measure => simp [intOf]; omega
    · have ejN : j = N0 := by omega
      have dj : decide ((j : Int) < (N0 : Int)) = false := by simp; omega
      have HOF := Lib.hid (show OutR w wr (mk2 N0 0) by rw [← ejN]; exact HO.out)
      clear hj hlt HO
      go_wp2
      go_loopw [7] (fun x wr => ∃ j : Nat, j ≤ N1 ∧ x = .int .i64 j ∧ Hid (OutR w wr (mk2 N0 j))) (fun x _ => N1 - (intOf x).toNat)
      case atStart => exact ⟨0, Nat.zero_le _, rfl, HOF⟩
      case round =>
        obtain ⟨j, hj, rfl, HO⟩ := hrel
        by_cases hlt : j < N1
        · have dj : decide ((j : Int) < (N1 : Int)) = true := by simp; omega
          obtain ⟨w1, rfl⟩ : ∃ w1, w1 = wr := ⟨wr, rfl⟩
          obtain ⟨col, fv, uv, hd, hbel⟩ := HO.out
          obtain ⟨D, hD⟩ : ∃ D, D = mk2 N0 j := ⟨_, rfl⟩
          rw [← hD] at hd
          have hlen : (D.f 1).length = j := by rw [hD]; simp [mk2]
          obtain ⟨b, hbw⟩ : ∃ b, b = w.heap.size := ⟨_, rfl⟩
          rw [← hbw] at hd ⊢
          obtain ⟨Av, cv, ev, hlc⟩ : ∃ A c, fv 1 = .slice A (D.f 1).length c ∧ (D.f 1).length ≤ c := by
            rcases (hd.file 1 (by decide)).row.1.2 with ⟨e, h0⟩ | ⟨g, cap, _, e, _, _, h1, _⟩
            · rw [h0]; exact ⟨none, 0, e, Nat.le_refl _⟩
            · exact ⟨_, cap, e, h1⟩
          obtain ⟨LQ, hL⟩ : ∃ LQ, LQ = (D.f 1).length := ⟨_, rfl⟩
          rw [← hL] at ev hlc hlen
          obtain ⟨vs, hvs⟩ : ∃ vs, vs = (uv 1).flatMap cSe := ⟨_, rfl⟩
          have HLB := Lib.hid (show LQ ≤ 4096 by omega)
          have OW1 := Lib.hid (show w1.ownsRow 0 74 2 (.slice Av LQ cv) LQ vs by rw [← ev, hvs, hL]; exact (hd.file 1 (by decide)).row.1)
          have BX1 := Lib.hid (show Box w1 b (dC fv D.lim D.left D.dead) 72 from hd.box)
          have CB1 := Lib.hid (show (dC fv D.lim D.left D.dead)[1]? = some (.slice Av LQ cv) by rw [← ev]; rfl)
          have HRL := Lib.hid (show ∀ k, (Value.slice Av LQ cv).ownBlock = some k → k < w1.heap.size from fun k hk => (OW1.out.lt k hk).2)
          have HRG : (Value.slice Av LQ cv).ownBlock ≠ some b := fun e => by
            have h2 := (hd.file 1 (by decide)).row.2 b (by rw [ev]; exact e)
            have h3 := hd.bcol
            unfold fc at h2
            omega
          have HD := Lib.hid hd
          have EV := Lib.hid ev
          have HLL := Lib.hid (And.intro hL hlen)
          have HVS := Lib.hid hvs
          have HDD := Lib.hid hD
          have HBW := Lib.hid hbw
          have HBEL := Lib.hid hbel
          clear hd ev hL hvs hD hbw hbel HO hlen
          go_wp2_with fail
          refine wp_region_app (by kernel_rfl) (by kernel_rfl) (Value.slice Av LQ cv).ownBlock b 9 13 72 (fun v => (dC fv D.lim D.left D.dead).setIfInBounds 1 v) [(fun v _ => v = .pointer (some ⟨b, 0, none⟩)), (fun v _ => v = .pointer (some ⟨b, 0, none⟩)), (fun v _ => v = .pointer (some ⟨b, 0, none⟩)), (fun v _ => v = .pointer (some ⟨b, 0, none⟩)), (fun v _ => v = .pointer (some ⟨b, 1, none⟩)), (fun v _ => v = .slice Av LQ cv), (fun v W => W.ownsRow w1.heap.size 5 1 v 128 (z128.map (.int .u8))), (fun v W => ∃ x, v = .agg #[x, .slice none 0 0] ∧ W.ownsRow w1.heap.size 5 1 x 128 (z128.map (.int .u8))), (fun v W => ∃ g1, v = .slice (some ⟨g1, 0, none⟩) 1 1 ∧ w1.heap.size ≤ g1 ∧ ∃ x, Box W g1 #[x, .slice none 0 0] 74 ∧ W.ownsRow w1.heap.size 5 1 x 128 (z128.map (.int .u8))), (fun v W => ∃ x, W.ownsRow 0 74 2 v (LQ + 1) (vs ++ [x, .slice none 0 0]) ∧ W.ownsRow w1.heap.size 5 1 x 128 (z128.map (.int .u8)) ∧ (v.ownBlock = (Value.slice Av LQ cv).ownBlock ∨ ∀ k, v.ownBlock = some k → w1.heap.size ≤ k)), (fun v _ => v = .pointer (some ⟨b, 0, none⟩)), (fun v _ => v = .pointer (some ⟨b, 0, none⟩)), (fun v _ => v = .pointer (some ⟨b, 1, none⟩)), (fun v _ => v = undef)] (by decide) (by intro o ho; injection ho with ho; subst ho; exact ⟨⟨9, .data⟩, by simp, rfl, rfl⟩) HRG ?_ (fun vals => ?_) (fun vals W hfr hbx hall _ => ?_) (by decide)
          · intro j v W W' hj hsz hf h
            match j, hj, h with
            | 0, _, h => exact h
            | 1, _, h => exact h
            | 2, _, h => exact h
            | 3, _, h => exact h
            | 4, _, h => exact h
            | 5, _, h => exact h
            | 6, _, h => exact own_frS h hf (fun k hk hs => by have := (h.lt k hk).1; rcases hs with ⟨_, h1⟩ | h1; (have := HRL.out _ h1; omega); (have := BX1.out.lt; omega))
            | 7, _, h => obtain ⟨x, e1, e4⟩ := h; exact ⟨x, e1, own_frS e4 hf (fun k hk hs => by have := (e4.lt k hk).1; rcases hs with ⟨_, h1⟩ | h1; (have := HRL.out _ h1; omega); (have := BX1.out.lt; omega))⟩
            | 8, _, h => obtain ⟨g1, e1, e2, x, e3, e4⟩ := h; exact ⟨g1, e1, e2, x, e3.fr hf (fun hk => by rcases hk with ⟨_, h1⟩ | h1; (have := HRL.out _ h1; omega); (have := BX1.out.lt; omega)), own_frS e4 hf (fun k hk hs => by have := (e4.lt k hk).1; rcases hs with ⟨_, h1⟩ | h1; (have := HRL.out _ h1; omega); (have := BX1.out.lt; omega))⟩
            | 9, _, h => obtain ⟨x, e1, e2, e3⟩ := h; exact ⟨x, own_frS e1 hf (fun k hk hs => by rcases hs with ⟨h1, _⟩ | h1; (exact h1 rfl); (subst h1; rcases e3 with h3 | h3; (rw [h3] at hk; exact HRG hk); (have := h3 _ hk; have := BX1.out.lt; omega))), own_frS e2 hf (fun k hk hs => by have := (e2.lt k hk).1; rcases hs with ⟨h1, _⟩ | h1; (exact h1 rfl); (have := BX1.out.lt; omega)), e3⟩
            | 10, _, h => exact h
            | 11, _, h => exact h
            | 12, _, h => exact h
            | 13, hj, _ => exact absurd rfl hj
            | _ + 14, _, _ => trivial
          · simp only [ObL, Act.put, List.setIfInBounds_toArray, List.set_cons_succ, List.set_cons_zero]
            refine ⟨?_, ?_, ?_, ?_, ?_, ?_, ?_, ?_, ?_, ?_, ?_, ?_, ?_, ?_, trivial⟩
            · intro L W hL hk hC hw
              clear hw
              clear hL hC hk
              refine step_plain rfl ?_
              go_simp
              first | exact ⟨Ra.same _, Fa.val (by decide) rfl rfl⟩ | exact ⟨_, rfl, Ra.same _, Fa.val (by decide) rfl rfl⟩
            · intro L W hL hk hC hw
              clear hw
              clear hL hC hk
              refine step_plain rfl ?_
              go_simp
              first | exact ⟨Ra.same _, Fa.val (by decide) rfl rfl⟩ | exact ⟨_, rfl, Ra.same _, Fa.val (by decide) rfl rfl⟩
            · intro L W hL hk hC hw
              have f1 : vals 1 = .pointer (some ⟨b, 0, none⟩) := Fa.get (hw ⟨1, .data⟩ (by simp) rfl) (by decide)
              clear hw
              clear hL hC hk
              refine step_plain rfl ?_
              go_simp
              first | exact ⟨Ra.same _, Fa.val (by decide) rfl rfl⟩ | exact ⟨_, rfl, Ra.same _, Fa.val (by decide) rfl rfl⟩
            · intro L W hL hk hC hw
              have f2 : vals 2 = .pointer (some ⟨b, 0, none⟩) := Fa.get (hw ⟨2, .data⟩ (by simp) rfl) (by decide)
              clear hw
              clear hL hC hk
              refine step_plain rfl ?_
              go_simp
              first | exact ⟨Ra.same _, Fa.val (by decide) rfl rfl⟩ | exact ⟨_, rfl, Ra.same _, Fa.val (by decide) rfl rfl⟩
            · intro L W hL hk hC hw
              have f3 : vals 3 = .pointer (some ⟨b, 0, none⟩) := Fa.get (hw ⟨3, .data⟩ (by simp) rfl) (by decide)
              clear hw
              clear hL hC hk
              refine step_plain rfl ?_
              go_simp
              first | exact ⟨Ra.same _, Fa.val (by decide) rfl rfl⟩ | exact ⟨_, rfl, Ra.same _, Fa.val (by decide) rfl rfl⟩
            · intro L W hL hk hC hw
              have f4 : vals 4 = .pointer (some ⟨b, 1, none⟩) := Fa.get (hw ⟨4, .data⟩ (by simp) rfl) (by decide)
              clear hw
              have bx := hC.box BX1.out (hL.not_yet hk 13 8 (by decide +kernel)) HRG
              have kc : W.cell? ⟨b, 1, none⟩ = some (.slice Av LQ cv) := by rw [bx.cell]; exact CB1.out
              clear hL hC hk bx
              refine step_plain rfl ?_
              go_simp
              first | exact ⟨Ra.same _, Fa.val (by decide) rfl rfl⟩ | exact ⟨_, rfl, Ra.same _, Fa.val (by decide) rfl rfl⟩
            · intro L W hL hk hC hw
              clear hw
              have hb := hC.below (hL.not_yet hk 9 8 (by decide +kernel)) (hL.not_yet hk 13 8 (by decide +kernel))
              have hsz := hb.size
              have mk := MK8.out W
              clear hL hC hk hb
              refine step_plain rfl ?_
              go_simp
              have hz := new_ (Below.refl W.heap.size W) (.cells (madeCells #[Value.int .u8 0] (128 * 1)) 5)
              have hr := own_lower (made_row (Box.new W (madeCells #[Value.int .u8 0] (128 * 1)) 5)) hsz
              first | exact ⟨Ra.of_below hz, Fa.val (by decide) rfl hr⟩ | exact ⟨_, rfl, Ra.of_below hz, Fa.val (by decide) rfl hr⟩
            · intro L W hL hk hC hw
              have f6 : W.ownsRow w1.heap.size 5 1 (vals 6) 128 (z128.map (.int .u8)) := Fa.get (hw ⟨6, .data⟩ (by simp) rfl) (by decide)
              clear hw
              have hsz := Lib.hid (show w1.heap.size ≤ W.heap.size from hC.size)
              obtain ⟨A6, c6, e6⟩ := own_slice' f6
              rw [e6] at f6
              have F6 := Lib.hid f6
              clear hL hC hk f6
              refine step_plain rfl ?_
              go_simp
              first | exact ⟨Ra.same _, Fa.val (by decide) rfl ⟨_, rfl, F6.out⟩⟩ | exact ⟨_, rfl, Ra.same _, Fa.val (by decide) rfl ⟨_, rfl, F6.out⟩⟩
            · intro L W hL hk hC hw
              have f7 : ∃ x, (vals 7) = .agg #[x, .slice none 0 0] ∧ W.ownsRow w1.heap.size 5 1 x 128 (z128.map (.int .u8)) := Fa.get (hw ⟨7, .data⟩ (by simp) rfl) (by decide)
              clear hw
              have hsz := Lib.hid (show w1.heap.size ≤ W.heap.size from hC.size)
              obtain ⟨x, e7, hx⟩ := f7
              obtain ⟨A6, c6, e6⟩ := own_slice' hx
              subst e6
              have F6 := Lib.hid hx
              clear hL hC hk hx
              refine step_plain rfl ?_
              go_simp
              have hz := new_ (Below.refl W.heap.size W) (.cells #[.slice A6 128 c6, .slice none 0 0] 74)
              first | exact ⟨Ra.of_below hz, Fa.val (by decide) rfl ⟨_, rfl, hsz.out, _, Box.new _ _ _, own_below F6.out hz⟩⟩ | exact ⟨_, rfl, Ra.of_below hz, Fa.val (by decide) rfl ⟨_, rfl, hsz.out, _, Box.new _ _ _, own_below F6.out hz⟩⟩
            · intro L W hL hk hC hw
              have f5 : vals 5 = .slice Av LQ cv := Fa.get (hw ⟨5, .data⟩ (by simp) rfl) (by decide)
              have f8 : ∃ g1, (vals 8) = .slice (some ⟨g1, 0, none⟩) 1 1 ∧ w1.heap.size ≤ g1 ∧ ∃ x, Box W g1 #[x, .slice none 0 0] 74 ∧ W.ownsRow w1.heap.size 5 1 x 128 (z128.map (.int .u8)) := Fa.get (hw ⟨8, .data⟩ (by simp) rfl) (by decide)
              clear hw
              have hb := hC.below hk (hL.not_yet hk 13 8 (by decide +kernel))
              have ow := own_below OW1.out hb
              obtain ⟨g1, e7, hg1, x, hbx1, hx1⟩ := f8
              obtain ⟨Ax, cx, ex⟩ := own_slice' hx1
              subst ex
              clear hL hC hk
              refine step_plain rfl ?_
              refine wp_push W _ _ _ rfl 0 74 j0 _ 2 48 Try.underlying69 hj0 hj1 hj2 hj3 rfl (by decide) [.slice Ax 128 cx, .slice none 0 0] rfl (by intro u hu; simp only [List.mem_cons, List.not_mem_nil, or_false] at hu; rcases hu with rfl | rfl <;> rfl) (.slice Av LQ cv) LQ vs f5 ow g1 _ e7 hbx1 (by simp only [maxLen]; have := HLB.out; omega) (by have := HLB.out; omega) (Nat.zero_le _) ?_
              intro v1 w2 ho1 hgr1 hb1
              have hk1 : (Value.slice Ax 128 cx).ownBlock = none ∨ (Value.slice Ax 128 cx).ownBlock ≠ (Value.slice Av LQ cv).ownBlock := by
                    refine .inr (fun e9 => ?_)
                    cases hAx : (Value.slice Ax 128 cx).ownBlock with
                    | none => rcases hx1.2 with ⟨_, h0⟩ | ⟨q, _, _, eq, _⟩; (cases h0); (rw [eq] at hAx; cases hAx)
                    | some q => have h8 := (hx1.lt q hAx).1; rw [hAx] at e9; have := HRL.out q e9.symm; omega
              have hk2 : v1.ownBlock = (Value.slice Av LQ cv).ownBlock ∨ ∀ k, v1.ownBlock = some k → w1.heap.size ≤ k := by
                    rcases hb1 with h | h
                    · exact .inl h
                    · exact .inr (fun k hk => by rw [h] at hk; injection hk with hk; have := hb.size; omega)
              exact ⟨_, rfl, Fr.grown (Fr.refl _ _) hgr1 (fun g e => .inl (.inl ⟨rfl, e⟩)), Fa.val (by decide) rfl ⟨_, ho1, hx1.kept hgr1 hk1, hk2⟩⟩
            · intro L W hL hk hC hw
              have f0 : vals 0 = .pointer (some ⟨b, 0, none⟩) := Fa.get (hw ⟨0, .data⟩ (by simp) rfl) (by decide)
              clear hw
              clear hL hC hk
              refine step_plain rfl ?_
              go_simp
              first | exact ⟨Ra.same _, Fa.val (by decide) rfl rfl⟩ | exact ⟨_, rfl, Ra.same _, Fa.val (by decide) rfl rfl⟩
            · intro L W hL hk hC hw
              have f10 : vals 10 = .pointer (some ⟨b, 0, none⟩) := Fa.get (hw ⟨10, .data⟩ (by simp) rfl) (by decide)
              clear hw
              clear hL hC hk
              refine step_plain rfl ?_
              go_simp
              first | exact ⟨Ra.same _, Fa.val (by decide) rfl rfl⟩ | exact ⟨_, rfl, Ra.same _, Fa.val (by decide) rfl rfl⟩
            · intro L W hL hk hC hw
              have f11 : vals 11 = .pointer (some ⟨b, 0, none⟩) := Fa.get (hw ⟨11, .data⟩ (by simp) rfl) (by decide)
              clear hw
              clear hL hC hk
              refine step_plain rfl ?_
              go_simp
              first | exact ⟨Ra.same _, Fa.val (by decide) rfl rfl⟩ | exact ⟨_, rfl, Ra.same _, Fa.val (by decide) rfl rfl⟩
            · intro L W hL hk hC hw
              have f12 : vals 12 = .pointer (some ⟨b, 1, none⟩) := Fa.get (hw ⟨12, .data⟩ (by simp) rfl) (by decide)
              have f9 : ∃ x, W.ownsRow 0 74 2 (vals 9) (LQ + 1) (vs ++ [x, .slice none 0 0]) ∧ W.ownsRow w1.heap.size 5 1 x 128 (z128.map (.int .u8)) ∧ ((vals 9).ownBlock = (Value.slice Av LQ cv).ownBlock ∨ ∀ k, (vals 9).ownBlock = some k → w1.heap.size ≤ k) := Fa.get (hw ⟨9, .data⟩ (by simp) rfl) (by decide)
              clear hw
              have bx := hC.box BX1.out hk HRG
              obtain ⟨x, hx8, hxx, hx9⟩ := f9
              obtain ⟨A2, l2, e21⟩ := own_slice' hx8
              have kc : ∃ z, W.cell? ⟨b, 1, none⟩ = some z := ⟨_, by rw [bx.cell]; exact CB1.out⟩
              obtain ⟨z, kc⟩ := kc
              have fc := bx.frozen 1
              clear hL hC hk
              refine step_plain rfl ?_
              go_simp
              have hb9 := Box.set_ bx 1 (.slice A2 (LQ + 1) l2)
              exact ⟨Fr.setCell (Fr.refl _ _) (p := ⟨b, 1, none⟩) (.inl (.inr ⟨rfl, rfl⟩)) _, undef, Fa.last (by decide) (by rw [e21]; exact hb9)⟩
          · simp only [TL, Act.put, List.setIfInBounds_toArray, List.set_cons_succ, List.set_cons_zero]
            obtain ⟨x, hx1, hx2, hx3⟩ := hall 9 (by decide) (by decide)
            have hpu := HD.out.push (i := 1) (by decide) (u := x) (xs := z128) (v' := vals 9) (by rw [← HLL.out.1]; have := HLB.out; have := HLL.out.2; omega) (by rw [EV.out]; exact hfr) (by rw [← HLL.out.1, ← HVS.out]; exact hx1) (by rw [EV.out]; exact hx3) hx2 (by decide) z128_bytes hbx (by decide)
            obtain ⟨col', hpu⟩ := hpu
            have HNX := Lib.hid (show OutR w W (mk2 N0 (j + 1)) from ⟨col', _, _, by
              have e9 : (mk2 N0 (j + 1)) = D.push 1 zSe := by rw [HDD.out]; exact mk2_push1 _ _
              rw [e9, ← HBW.out]
              refine hpu.mono (fun y hy => ?_) (fun y hy => hy.2)
              rcases hy with hy | hy
              · exact ⟨hy.1, Nat.lt_of_lt_of_le hy.2 hfr.size⟩
              · exact ⟨Nat.le_trans HBEL.out.size hy.1, hy.2⟩, HBEL.out.trans (hfr.to_below (B := w.heap.size) (fun y hy => by
                rcases hy with hy | hy
                · exact (HD.out.mine y (by rw [(HD.out.file 1 (by decide)).row.2 y (by rw [EV.out]; exact hy)]; unfold fc; omega)).1
                · have := HBW.out; omega) HBEL.out.size)⟩)
            clear hfr hbx hall hx1 hx2 hx3 hpu
            go_wp2
            go_roundw
            case rel => exact ⟨j + 1, by omega, by go_num, HNX⟩
            case measure => simp [intOf]; omega
        · have ejN : j = N1 := by omega
          have dj : decide ((j : Int) < (N1 : Int)) = false := by simp; omega
          have HOF := Lib.hid (show OutR w wr (mk2 N0 N1) by rw [← ejN]; exact HO.out)
          clear hj hlt HO
          go_wp2
          go_ret
          exact ⟨rfl, HOF.out⟩
end Go.Proofs.Ytplombkpefacgaa.Disk

/- New of sizes that may not be. -/
namespace Go.Proofs.Ytplombkpefacgaa.Disk
open Go.ChangeShapes Go.WideShapes Go.ChangeAt Go.RowKit Go.IntWalk Go.Proofs.Mem Go.Proofs.Each
set_option linter.unusedVariables false
set_option linter.unusedSimpArgs false
set_option maxRecDepth 100000 in
set_option maxHeartbeats 16000000 in
theorem new_bad (w : World) (A B : Int) (K : Nat) (hK : K < 2) (X : Int) (hX : X < 0) (M : Nat → Nat) (hM : ∀ k, M k ≤ 4096)
    (hix0 : ∀ j : Nat, j < K → ∀ W, (Instr.index 66 (.agg #[.int .i64 A, .int .i64 B]) (.int .i64 j)).run Try.prog W = .ok (.int .i64 (M j)) W) (hixK : ∀ j : Nat, j = K → ∀ W, (Instr.index 66 (.agg #[.int .i64 A, .int .i64 B]) (.int .i64 j)).run Try.prog W = .ok (.int .i64 X) W) :
    Calls Try.prog 11 #[.int .i64 A, .int .i64 B] w fun e w' => e = .returned (.pointer none) ∧ Below w.heap.size w w' := by
  have HM := Lib.hid hM
  have HIX := Lib.hid hix0
  have HIK := Lib.hid hixK
  obtain ⟨i0, hi0, hz0, hz1, hz2⟩ := info_parts u8_info
  obtain ⟨k0, hk0, hy0, hy1, hy2⟩ := info_parts sec_info
  have MK8 := Lib.hid (show ∀ W, (Instr.makeSlice 30 (.int .i64 128) (.int .i64 128)).run Try.prog W = .ok (.slice (some ⟨W.heap.size, 0, none⟩) 128 128) (W.alloc (.cells (madeCells #[Value.int .u8 0] (128 * 1)) 5)) from fun W => by
    have := run_make (w := W) 30 5 i0 _ Try.underlying30 hi0 hz0 .i64 .i64 128 128 (by decide) (by decide) (by rw [hz2]; decide) (by decide)
    rw [hz1] at this; exact this)
  have MKS := Lib.hid (show ∀ (N : Nat), N ≤ 4096 → ∀ W, (Instr.makeSlice 62 (.int .i64 N) (.int .i64 N)).run Try.prog W = .ok (.slice (some ⟨W.heap.size, 0, none⟩) N N) (W.alloc (.cells (madeCells #[Value.slice none 0 0, Value.slice none 0 0] (N * 2)) 68)) from fun N hN W => by
    have := run_make (w := W) 62 68 k0 _ Try.underlying62 hk0 hy0 .i64 .i64 N N (by omega) (by omega) (by rw [hy2]; omega) (by omega)
    rw [hy1, Int.toNat_natCast] at this; exact this)
  have OU0 := Lib.hid (show Out w (w.alloc (.cells #[.slice none 0 0, .slice none 0 0, .bool false, .int .i64 0, .bool false] 65)) M 0 from
    ⟨fun _ => 0, fun _ => .slice none 0 0, fun _ => [], ⟨Box.new _ _ _, ⟨Nat.le_refl _, by simp⟩, rfl, fun k hk => ⟨rfl, Hd.nil _ _ _ _ _, fun i p s h => by simp at h⟩, fun k hk => by simp [newTo], fun g hg => absurd rfl hg, fun g hg => hg.2, ⟨Int.le_refl _, by show (0 : Int) ≤ _; decide⟩⟩, fun _ _ => rfl, new_ (Below.refl _ _) _⟩)
  clear hM hix0 hixK
  go_enter Try.func11, Try.ntmps11
  go_wp2
  go_loopw [14] (fun x wr => ∃ j : Nat, j ≤ K ∧ x = .int .i64 j ∧ Hid (Out w wr M j)) (fun x _ => 2 - (intOf x).toNat)
  case atStart => exact ⟨0, Nat.zero_le _, rfl, OU0⟩
  case round =>
    obtain ⟨j, hj, rfl, HO⟩ := hrel
    by_cases hltK : j < K
    · have hlt : j < 2 := by omega
      have dj : decide ((j : Int) < 2) = true := by simp; omega
      have hix := HIX.out j hltK
      obtain ⟨N, hN⟩ : ∃ N, N = M j := ⟨_, rfl⟩
      rw [← hN] at hix
      have hN4 : N ≤ 4096 := by rw [hN]; exact HM.out j
      have HN := Lib.hid hN
      have HJ := Lib.hid hlt
      have dn0 : decide ((N : Int) < 0) = false := by simp
      have dn1 : decide ((4096 : Int) < (N : Int)) = false := by simp; omega
      have hj2 : (j : Int) < 2 := by omega
      have mks := MKS.out N hN4
      obtain ⟨AC, hAC⟩ : ∃ AC, AC = madeCells #[Value.slice none 0 0, Value.slice none 0 0] (N * 2) := ⟨_, rfl⟩
      rw [← hAC] at mks
      have HAC := Lib.hid hAC
      obtain ⟨w1, hw1⟩ : ∃ w1, w1 = wr := ⟨_, rfl⟩
      obtain ⟨col, fv, uv, hd, hnil, hbel⟩ := HO.out
      rw [← hw1] at hd hbel ⊢
      have HD := Lib.hid hd
      have HNI := Lib.hid hnil
      have HBE := Lib.hid hbel
      have BB1 := Lib.hid (show Box w1 w.heap.size (dC fv false 0 false) 65 from hd.box)
      have HCJ := Lib.hid (show (dC fv false 0 false)[j]? = some (fv j) by rcases two hlt with rfl | rfl <;> rfl)
      clear hN hAC hd hnil hbel HO hw1
      go_wp2
      refine wp_region_end (by kernel_rfl) (by kernel_rfl) 7 (fun W W' => Fr (fun x => x = w.heap.size) W W') (fun W => Fr (fun x => x = w.heap.size) w1 W ∧ ∃ g1, w1.heap.size ≤ g1 ∧ Box W g1 AC 68 ∧ Box W w.heap.size ((dC fv false 0 false).setIfInBounds j (.slice (some ⟨g1, 0, none⟩) N N)) 65) [(fun v _ => v = .pointer (some ⟨w.heap.size, 0, none⟩)), (fun v _ => v = .int .i64 j), (fun v _ => v = .int .i64 N), (fun v W => ∃ g1, v = .slice (some ⟨g1, 0, none⟩) N N ∧ w1.heap.size ≤ g1 ∧ Box W g1 AC 68), (fun v _ => v = .pointer (some ⟨w.heap.size, 0, none⟩)), (fun v _ => v = .pointer (some ⟨w.heap.size, 0, none⟩)), (fun v _ => v = .pointer (some ⟨w.heap.size, j, none⟩)), (fun v _ => v = undef)] (fun W W' hb h => ⟨h.1.below hb, by obtain ⟨g1, h1, h2, h3⟩ := h.2; exact ⟨g1, h1, h2.later hb, h3.later hb⟩⟩) ?_ (fun vals => ?_) (fun vals W hfin hall => ?_) (by decide)
      · intro j v W W' hj hr h
        match j, hj, h with
        | 0, _, h => exact h
        | 1, _, h => exact h
        | 2, _, h => exact h
        | 3, _, h => obtain ⟨g1, e1, e2, e3⟩ := h; exact ⟨g1, e1, e2, by rcases hr with h9 | h9; (exact e3.fr h9 (fun e => by have := BB1.out.lt; omega)); (exact e3.later h9)⟩
        | 4, _, h => exact h
        | 5, _, h => exact h
        | 6, _, h => exact h
        | 7, hj, _ => exact absurd rfl hj
        | _ + 8, _, _ => trivial
      · simp only [ObL, Act.put, List.setIfInBounds_toArray, List.set_cons_succ, List.set_cons_zero]
        refine ⟨?_, ?_, ?_, ?_, ?_, ?_, ?_, ?_, trivial⟩
        · intro L W hL hk hC hw
          clear hw
          clear hL hC hk
          refine step_plain rfl ?_
          go_simp
          first | exact ⟨Re.same (by decide), Fe.val (by decide) rfl rfl⟩ | exact ⟨_, rfl, Re.same (by decide), Fe.val (by decide) rfl rfl⟩
        · intro L W hL hk hC hw
          clear hw
          clear hL hC hk
          refine step_plain rfl ?_
          go_simp
          first | exact ⟨Re.same (by decide), Fe.val (by decide) rfl rfl⟩ | exact ⟨_, rfl, Re.same (by decide), Fe.val (by decide) rfl rfl⟩
        · intro L W hL hk hC hw
          clear hw
          clear hL hC hk
          refine step_plain rfl ?_
          go_simp
          first | exact ⟨Re.same (by decide), Fe.val (by decide) rfl rfl⟩ | exact ⟨_, rfl, Re.same (by decide), Fe.val (by decide) rfl rfl⟩
        · intro L W hL hk hC hw
          have f2 : vals 2 = .int .i64 N := Fe.get (hw ⟨2, .data⟩ (by simp) rfl) (by decide)
          clear hw
          have hb := hC (hL.not_yet hk 7 8 (by decide +kernel))
          have hsz := Lib.hid hb.size
          clear hL hC hk hb
          refine step_plain rfl ?_
          go_simp
          have hz := new_ (Below.refl W.heap.size W) (.cells AC 68)
          first | exact ⟨Re.of (by decide) hz, Fe.val (by decide) rfl ⟨_, rfl, hsz.out, Box.new _ _ _⟩⟩ | exact ⟨_, rfl, Re.of (by decide) hz, Fe.val (by decide) rfl ⟨_, rfl, hsz.out, Box.new _ _ _⟩⟩
        · intro L W hL hk hC hw
          have f0 : vals 0 = .pointer (some ⟨w.heap.size, 0, none⟩) := Fe.get (hw ⟨0, .data⟩ (by simp) rfl) (by decide)
          clear hw
          clear hL hC hk
          refine step_plain rfl ?_
          go_simp
          first | exact ⟨Re.same (by decide), Fe.val (by decide) rfl rfl⟩ | exact ⟨_, rfl, Re.same (by decide), Fe.val (by decide) rfl rfl⟩
        · intro L W hL hk hC hw
          have f4 : vals 4 = .pointer (some ⟨w.heap.size, 0, none⟩) := Fe.get (hw ⟨4, .data⟩ (by simp) rfl) (by decide)
          clear hw
          clear hL hC hk
          refine step_plain rfl ?_
          go_simp
          first | exact ⟨Re.same (by decide), Fe.val (by decide) rfl rfl⟩ | exact ⟨_, rfl, Re.same (by decide), Fe.val (by decide) rfl rfl⟩
        · intro L W hL hk hC hw
          have f5 : vals 5 = .pointer (some ⟨w.heap.size, 0, none⟩) := Fe.get (hw ⟨5, .data⟩ (by simp) rfl) (by decide)
          have f1 : vals 1 = .int .i64 j := Fe.get (hw ⟨1, .data⟩ (by simp) rfl) (by decide)
          clear hw
          clear hL hC hk
          refine step_plain rfl ?_
          go_simp
          first | exact ⟨Re.same (by decide), Fe.val (by decide) rfl rfl⟩ | exact ⟨_, rfl, Re.same (by decide), Fe.val (by decide) rfl rfl⟩
        · intro L W hL hk hC hw
          have f6 : vals 6 = .pointer (some ⟨w.heap.size, j, none⟩) := Fe.get (hw ⟨6, .data⟩ (by simp) rfl) (by decide)
          have f3 : ∃ g1, (vals 3) = .slice (some ⟨g1, 0, none⟩) N N ∧ w1.heap.size ≤ g1 ∧ Box W g1 AC 68 := Fe.get (hw ⟨3, .data⟩ (by simp) rfl) (by decide)
          clear hw
          have hb := hC hk
          obtain ⟨g1, e3, hg1, hbx1⟩ := f3
          have bx := BB1.out.later hb
          have kc : ∃ y, W.cell? ⟨w.heap.size, j, none⟩ = some y := ⟨_, (bx.cell j).trans HCJ.out⟩
          obtain ⟨y, kc⟩ := kc
          have fc9 := bx.frozen j
          have HBX := Lib.hid bx
          have HG1 := Lib.hid hg1
          have HB1 := Lib.hid hbx1
          have HBB := Lib.hid hb
          clear hL hC hk hb bx hg1 hbx1
          refine step_plain rfl ?_
          go_simp
          have hfr := Fr.setCell (Fr.refl (fun x => x = w.heap.size) W) (p := ⟨w.heap.size, j, none⟩) (.inl rfl) (.slice (some ⟨g1, 0, none⟩) N N)
          exact ⟨Re.last hfr, undef, Fe.last ⟨(Fr.of_below HBB.out).trans hfr, g1, HG1.out, HB1.out.fr hfr (fun e => by have := HG1.out; have := BB1.out.lt; omega), by have h9 := HBX.out.set_ j (.slice (some ⟨g1, 0, none⟩) N N); first | exact h9 | simpa only [List.setIfInBounds_toArray] using h9⟩⟩
      · simp only [TL, Act.put, List.setIfInBounds_toArray, List.set_cons_succ, List.set_cons_zero]
        obtain ⟨hfr7, g, hg7, hG7, hB7⟩ := hfin
        have hst := Nw.start HJ.out (HM.out j) HD.out HNI.out HBE.out hfr7 hg7 (by rw [← HN.out, ← HAC.out]; exact hG7) (by rw [← HN.out]; exact hB7)
        have HST := Lib.hid hst
        have kb : W.cell? ⟨w.heap.size, j, none⟩ = some (.slice (some ⟨g, 0, none⟩) N N) := (hst.box.cell j).trans (show (dC (fun k => if k = j then Value.slice (some ⟨g, 0, none⟩) (M j) (M j) else fv k) false 0 false)[j]? = some (.slice (some ⟨g, 0, none⟩) N N) by rw [HN.out]; rcases two HJ.out with h9 | h9 <;> (subst h9; rfl))
        clear hfr7 hg7 hG7 hB7 hst hall mks
        go_wp2
        clear kb
        go_loopw [38] (fun x wr => ∃ i : Nat, i ≤ N ∧ x = .int .i64 i ∧ Hid (∃ col fv uv C, Nw w wr M j g i col fv uv C)) (fun x _ => N - (intOf x).toNat)
        case atStart => exact ⟨0, Nat.zero_le _, rfl, Lib.hid ⟨_, _, _, _, HST.out⟩⟩
        case round =>
          obtain ⟨i, hi, rfl, HI⟩ := hrel
          by_cases hlt2 : i < N
          · obtain ⟨w2, hw2⟩ : ∃ w2, w2 = wr := ⟨_, rfl⟩
            obtain ⟨col2, fv2, uv2, C, hnw⟩ := HI.out
            rw [← hw2] at hnw ⊢
            have di : decide ((i : Int) < (N : Int)) = true := by simp; omega
            have HNW := Lib.hid hnw
            have BB2 := Lib.hid hnw.box
            have BG2 := Lib.hid hnw.row
            have HCJ2 := Lib.hid (show (dC fv2 false 0 false)[j]? = some (.slice (some ⟨g, 0, none⟩) N N) by rw [HN.out, ← HNW.out.here]; rcases two HJ.out with h9 | h9 <;> (subst h9; rfl))
            have HCI := Lib.hid (show C[i * 2]? = some (.slice none 0 0) from hnw.rest _ (by omega) (by rw [← HN.out]; omega))
            have HI2 := Lib.hid hlt2
            have mk8 := MK8.out
            obtain ⟨ZC, hZC⟩ : ∃ ZC, ZC = madeCells #[Value.int .u8 0] (128 * 1) := ⟨_, rfl⟩
            rw [← hZC] at mk8
            have HZC := Lib.hid hZC
            clear hnw hw2 HI hZC
            go_wp2
            refine wp_region_end (by kernel_rfl) (by kernel_rfl) 10 (fun W W' => Fr (fun x => x = g) W W') (fun W => Fr (fun x => x = g) w2 W ∧ ∃ g1, w2.heap.size ≤ g1 ∧ Box W g1 ZC 5 ∧ Box W g (C.setIfInBounds (i * 2) (.slice (some ⟨g1, 0, none⟩) 128 128)) 68) [(fun v _ => v = .pointer (some ⟨w.heap.size, 0, none⟩)), (fun v _ => v = .int .i64 j), (fun v _ => v = .pointer (some ⟨w.heap.size, 0, none⟩)), (fun v _ => v = .pointer (some ⟨w.heap.size, 0, none⟩)), (fun v _ => v = .pointer (some ⟨w.heap.size, j, none⟩)), (fun v _ => v = .slice (some ⟨g, 0, none⟩) N N), (fun v _ => v = .int .i64 i), (fun v W => ∃ g1, v = .slice (some ⟨g1, 0, none⟩) 128 128 ∧ w2.heap.size ≤ g1 ∧ Box W g1 ZC 5), (fun v _ => v = .pointer (some ⟨g, i * 2, none⟩)), (fun v _ => v = .pointer (some ⟨g, i * 2, none⟩)), (fun v _ => v = undef)] (fun W W' hb h => ⟨h.1.below hb, by obtain ⟨g1, h1, h2, h3⟩ := h.2; exact ⟨g1, h1, h2.later hb, h3.later hb⟩⟩) ?_ (fun vals => ?_) (fun vals W hfin hall => ?_) (by decide)
            · intro j v W W' hj hr h
              match j, hj, h with
              | 0, _, h => exact h
              | 1, _, h => exact h
              | 2, _, h => exact h
              | 3, _, h => exact h
              | 4, _, h => exact h
              | 5, _, h => exact h
              | 6, _, h => exact h
              | 7, _, h => obtain ⟨g1, e1, e2, e3⟩ := h; exact ⟨g1, e1, e2, by rcases hr with h9 | h9; (exact e3.fr h9 (fun e => by have := BG2.out.lt; omega)); (exact e3.later h9)⟩
              | 8, _, h => exact h
              | 9, _, h => exact h
              | 10, hj, _ => exact absurd rfl hj
              | _ + 11, _, _ => trivial
            · simp only [ObL, Act.put, List.setIfInBounds_toArray, List.set_cons_succ, List.set_cons_zero]
              refine ⟨?_, ?_, ?_, ?_, ?_, ?_, ?_, ?_, ?_, ?_, ?_, trivial⟩
              · intro L W hL hk hC hw
                clear hw
                clear hL hC hk
                refine step_plain rfl ?_
                go_simp
                first | exact ⟨Re.same (by decide), Fe.val (by decide) rfl rfl⟩ | exact ⟨_, rfl, Re.same (by decide), Fe.val (by decide) rfl rfl⟩
              · intro L W hL hk hC hw
                clear hw
                clear hL hC hk
                refine step_plain rfl ?_
                go_simp
                first | exact ⟨Re.same (by decide), Fe.val (by decide) rfl rfl⟩ | exact ⟨_, rfl, Re.same (by decide), Fe.val (by decide) rfl rfl⟩
              · intro L W hL hk hC hw
                have f0 : vals 0 = .pointer (some ⟨w.heap.size, 0, none⟩) := Fe.get (hw ⟨0, .data⟩ (by simp) rfl) (by decide)
                clear hw
                clear hL hC hk
                refine step_plain rfl ?_
                go_simp
                first | exact ⟨Re.same (by decide), Fe.val (by decide) rfl rfl⟩ | exact ⟨_, rfl, Re.same (by decide), Fe.val (by decide) rfl rfl⟩
              · intro L W hL hk hC hw
                have f2 : vals 2 = .pointer (some ⟨w.heap.size, 0, none⟩) := Fe.get (hw ⟨2, .data⟩ (by simp) rfl) (by decide)
                clear hw
                clear hL hC hk
                refine step_plain rfl ?_
                go_simp
                first | exact ⟨Re.same (by decide), Fe.val (by decide) rfl rfl⟩ | exact ⟨_, rfl, Re.same (by decide), Fe.val (by decide) rfl rfl⟩
              · intro L W hL hk hC hw
                have f3 : vals 3 = .pointer (some ⟨w.heap.size, 0, none⟩) := Fe.get (hw ⟨3, .data⟩ (by simp) rfl) (by decide)
                have f1 : vals 1 = .int .i64 j := Fe.get (hw ⟨1, .data⟩ (by simp) rfl) (by decide)
                clear hw
                clear hL hC hk
                refine step_plain rfl ?_
                go_simp
                first | exact ⟨Re.same (by decide), Fe.val (by decide) rfl rfl⟩ | exact ⟨_, rfl, Re.same (by decide), Fe.val (by decide) rfl rfl⟩
              · intro L W hL hk hC hw
                have f4 : vals 4 = .pointer (some ⟨w.heap.size, j, none⟩) := Fe.get (hw ⟨4, .data⟩ (by simp) rfl) (by decide)
                clear hw
                have hb := hC (hL.not_yet hk 10 8 (by decide +kernel))
                have bx := BB2.out.later hb
                have kc : W.cell? ⟨w.heap.size, j, none⟩ = some (.slice (some ⟨g, 0, none⟩) N N) := (bx.cell j).trans HCJ2.out
                clear hL hC hk hb bx
                refine step_plain rfl ?_
                go_simp
                first | exact ⟨Re.same (by decide), Fe.val (by decide) rfl rfl⟩ | exact ⟨_, rfl, Re.same (by decide), Fe.val (by decide) rfl rfl⟩
              · intro L W hL hk hC hw
                clear hw
                clear hL hC hk
                refine step_plain rfl ?_
                go_simp
                first | exact ⟨Re.same (by decide), Fe.val (by decide) rfl rfl⟩ | exact ⟨_, rfl, Re.same (by decide), Fe.val (by decide) rfl rfl⟩
              · intro L W hL hk hC hw
                clear hw
                have hb := hC (hL.not_yet hk 10 8 (by decide +kernel))
                have hsz := Lib.hid hb.size
                clear hL hC hk hb
                refine step_plain rfl ?_
                go_simp
                have hz := new_ (Below.refl W.heap.size W) (.cells ZC 5)
                first | exact ⟨Re.of (by decide) hz, Fe.val (by decide) rfl ⟨_, rfl, hsz.out, Box.new _ _ _⟩⟩ | exact ⟨_, rfl, Re.of (by decide) hz, Fe.val (by decide) rfl ⟨_, rfl, hsz.out, Box.new _ _ _⟩⟩
              · intro L W hL hk hC hw
                have f5 : vals 5 = .slice (some ⟨g, 0, none⟩) N N := Fe.get (hw ⟨5, .data⟩ (by simp) rfl) (by decide)
                have f6 : vals 6 = .int .i64 i := Fe.get (hw ⟨6, .data⟩ (by simp) rfl) (by decide)
                clear hw
                clear hL hC hk
                refine step_plain rfl ?_
                go_simp
                first | exact ⟨Re.same (by decide), Fe.val (by decide) rfl rfl⟩ | exact ⟨_, rfl, Re.same (by decide), Fe.val (by decide) rfl rfl⟩
              · intro L W hL hk hC hw
                have f8 : vals 8 = .pointer (some ⟨g, i * 2, none⟩) := Fe.get (hw ⟨8, .data⟩ (by simp) rfl) (by decide)
                clear hw
                clear hL hC hk
                refine step_plain rfl ?_
                go_simp
                first | exact ⟨Re.same (by decide), Fe.val (by decide) rfl rfl⟩ | exact ⟨_, rfl, Re.same (by decide), Fe.val (by decide) rfl rfl⟩
              · intro L W hL hk hC hw
                have f9 : vals 9 = .pointer (some ⟨g, i * 2, none⟩) := Fe.get (hw ⟨9, .data⟩ (by simp) rfl) (by decide)
                have f7 : ∃ g1, (vals 7) = .slice (some ⟨g1, 0, none⟩) 128 128 ∧ w2.heap.size ≤ g1 ∧ Box W g1 ZC 5 := Fe.get (hw ⟨7, .data⟩ (by simp) rfl) (by decide)
                clear hw
                have hb := hC hk
                obtain ⟨g1, e7, hg1, hbx1⟩ := f7
                have bx := BG2.out.later hb
                have kc : W.cell? ⟨g, i * 2, none⟩ = some (.slice none 0 0) := (bx.cell (i * 2)).trans HCI.out
                have fc9 := bx.frozen (i * 2)
                have HBX := Lib.hid bx
                have HG1 := Lib.hid hg1
                have HB1 := Lib.hid hbx1
                have HBB := Lib.hid hb
                clear hL hC hk hb bx hg1 hbx1
                refine step_plain rfl ?_
                go_simp
                have hfr := Fr.setCell (Fr.refl (fun x => x = g) W) (p := ⟨g, i * 2, none⟩) (.inl rfl) (.slice (some ⟨g1, 0, none⟩) 128 128)
                exact ⟨Re.last hfr, undef, Fe.last ⟨(Fr.of_below HBB.out).trans hfr, g1, HG1.out, HB1.out.fr hfr (fun e => by have := HG1.out; have := BG2.out.lt; omega), HBX.out.set_ (i * 2) _⟩⟩
            · simp only [TL, Act.put, List.setIfInBounds_toArray, List.set_cons_succ, List.set_cons_zero]
              obtain ⟨hfr11, r, hr11, hR11, hG11⟩ := hfin
              have hst := Nw.step HJ.out HM.out HNW.out (by rw [← HN.out]; exact HI2.out) hfr11 hr11 (by rw [← HZC.out]; exact hR11) hG11
              have HST2 := Lib.hid hst
              clear hst hfr11 hr11 hR11 hG11 hall mk8
              go_wp2
              go_roundw
              case rel => exact ⟨i + 1, by omega, by go_num, Lib.hid ⟨_, _, _, _, HST2.out⟩⟩
              case measure => simp [intOf]; omega
          · have hiN : i = N := by omega
            have di : decide ((i : Int) < (N : Int)) = false := by simp; omega
            obtain ⟨col2, fv2, uv2, C, hnw⟩ := HI.out
            rw [hiN, HN.out] at hnw
            have HDN := Lib.hid (Nw.done HJ.out HM.out hnw)
            clear hnw hiN
            go_wp2
            go_roundw
            case rel => exact ⟨j + 1, by omega, by go_num, HDN⟩
            case measure => simp [intOf]; omega
    · have hjK : j = K := by omega
      have dj : decide ((j : Int) < 2) = true := by simp; omega
      have hj2 : (j : Int) < 2 := by omega
      have hix := HIK.out j hjK
      have dn0 : decide (X < 0) = true := by simpa using hX
      obtain ⟨_, _, _, _, _, hbel⟩ := HO.out
      have HBE := Lib.hid hbel
      clear hbel HO hjK
      go_wp2
      go_ret
      exact ⟨rfl, HBE.out⟩
theorem new_no (w : World) (A B : Int) (hA : A ≤ 4096) (h : A < 0 ∨ B < 0) :
    Calls Try.prog 11 #[.int .i64 A, .int .i64 B] w fun e w' => e = .returned (.pointer none) ∧ Below w.heap.size w w' := by
  by_cases h0 : A < 0
  · exact new_bad w A B 0 (by decide) A h0 (fun _ => 0) (fun _ => Nat.zero_le _) (fun j hj => by omega) (fun j hj W => by subst hj; rfl)
  · exact new_bad w A B 1 (by decide) B (by omega) (fun _ => A.toNat) (fun _ => by omega) (fun j hj W => by
      obtain rfl : j = 0 := by omega
      rw [show ((A.toNat : Nat) : Int) = A by omega]; rfl) (fun j hj W => by subst hj; rfl)
theorem rnew_no (w : World) (A B : Int) (hA : A ≤ 4096) (h : A < 0 ∨ B < 0) :
    Calls Try.prog 12 #[.int .i64 A, .int .i64 B] w fun e w' => e = .returned (.pointer none) ∧ Below w.heap.size w w' := by
  by_cases h0 : A < 0
  · have d0 : decide (A < 0) = true := decide_eq_true h0
    clear h
    go_enter Try.func12, Try.ntmps12
    go_wp2
    go_ret
    exact ⟨rfl, Below.refl _ _⟩
  · have d0 : decide (A < 0) = false := decide_eq_false h0
    have d1 : decide (4096 < A) = false := decide_eq_false (by omega)
    have d2 : decide (B < 0) = true := decide_eq_true (by omega)
    clear h
    go_enter Try.func12, Try.ntmps12
    go_wp2
    go_ret
    exact ⟨rfl, Below.refl _ _⟩
end Go.Proofs.Ytplombkpefacgaa.Disk
