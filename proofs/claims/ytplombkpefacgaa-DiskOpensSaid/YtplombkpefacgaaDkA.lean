import Derived.Test.YtplombkpefacgaaDk9
/- New. -/
namespace Go.Proofs.Ytplombkpefacgaa.Disk
open Go.ChangeShapes Go.WideShapes Go.ChangeAt Go.RowKit Go.IntWalk Go.Proofs.Mem Go.Proofs.Each
set_option linter.unusedVariables false
set_option linter.unusedSimpArgs false
def newTo (M : Nat → Nat) (j : Nat) : Dv := ⟨fun k => if k < j then List.replicate (M k) zSe else [], false, 0, false⟩
def newS (w wr : World) : Nat → Prop := fun x => w.heap.size ≤ x ∧ x < wr.heap.size
/-- file j is being made: i sectors of N are -/
structure Nw (w wr : World) (M : Nat → Nat) (j g i : Nat) (col : Nat → Nat) (fv : Nat → Value) (uv : Nat → List Pl) (C : Array Value) : Prop where
  box : Box wr w.heap.size (dC fv false 0 false) 65
  file : ∀ k, k < 2 → FiAt 68 wr col (fc k) (if k = j then .slice (some ⟨g, 0, none⟩) i (M j) else fv k) (if k = j then List.replicate i zSe else (newTo M j).f k) (uv k)
  bcol : col w.heap.size = 0
  mine : ∀ x, col x ≠ 0 → newS w wr x
  nils : ∀ k, j < k → fv k = .slice none 0 0
  here : fv j = .slice (some ⟨g, 0, none⟩) (M j) (M j)
  row : Box wr g C 68
  size : C.size = M j * 2
  rest : ∀ m, 2 * i ≤ m → m < M j * 2 → C[m]? = some (.slice none 0 0)
  bel : Below w.heap.size w wr
def Out (w wr : World) (M : Nat → Nat) (j : Nat) : Prop := ∃ col fv uv, DA wr (newS w wr) w.heap.size (newTo M j) col fv uv ∧ (∀ k, j ≤ k → fv k = .slice none 0 0) ∧ Below w.heap.size w wr
theorem Nw.start {w w1 W : World} {M : Nat → Nat} {j g : Nat} {col : Nat → Nat} {fv : Nat → Value} {uv : Nat → List Pl} (hj : j < 2) (hM : M j ≤ 4096) (h : DA w1 (newS w w1) w.heap.size (newTo M j) col fv uv) (hn : ∀ k, j ≤ k → fv k = .slice none 0 0) (hb : Below w.heap.size w w1)
    (hf : Fr (fun x => x = w.heap.size) w1 W) (hg : w1.heap.size ≤ g) (hG : Box W g (madeCells #[Value.slice none 0 0, Value.slice none 0 0] (M j * 2)) 68) (hB : Box W w.heap.size ((dC fv false 0 false).setIfInBounds j (.slice (some ⟨g, 0, none⟩) (M j) (M j))) 65) :
    Nw w W M j g 0 (colN w1 W col (fc j)) (fun k => if k = j then .slice (some ⟨g, 0, none⟩) (M j) (M j) else fv k) (fun k => if k = j then [] else uv k) (madeCells #[Value.slice none 0 0, Value.slice none 0 0] (M j * 2)) := by
  have hbl := h.box.lt
  have hco : ∀ x, x < w1.heap.size → colN w1 W col (fc j) x = col x := fun x hx => colN_old hx
  refine ⟨?_, fun k hk => ?_, by rw [hco _ hbl]; exact h.bcol, fun x hx => ?_, fun k hk => ?_, by simp, hG, size_madeCells _ _, fun m _ hm => nil_cells _ _ hm, ?_⟩
  · have e : (dC fv false 0 false).setIfInBounds j (.slice (some ⟨g, 0, none⟩) (M j) (M j)) = dC (fun k => if k = j then .slice (some ⟨g, 0, none⟩) (M j) (M j) else fv k) false 0 false := by
      rcases two hj with rfl | rfl <;> rfl
    rw [← e]; exact hB
  · by_cases hkj : k = j
    · subst hkj
      simp only [if_true, List.replicate_zero]
      refine ⟨rfl, ⟨⟨rfl, .inr ⟨g, M k, _, rfl, Nat.zero_le _, hG, Nat.zero_le _, by unfold maxLen; omega, size_madeCells _ _, rfl⟩⟩, fun x hx => ?_⟩, fun i p s h1 _ => by simp at h1⟩
      injection hx with hx
      rw [← hx]; exact colN_new hg hG.lt
    · simp only [if_neg hkj]
      have hr : (if k = j then Value.slice (some ⟨g, 0, none⟩) (M j) (M j) else fv k) = fv k := if_neg hkj
      refine (h.file k hk).fr hf (fun x hx e => by rw [e, h.bcol]; unfold fc; omega) hco
  · by_cases hlt : x < w1.heap.size
    · rw [hco x hlt] at hx
      have := h.mine x hx
      exact ⟨this.1, Nat.lt_of_lt_of_le this.2 hf.size⟩
    · by_cases hlt' : x < W.heap.size
      · exact ⟨by have := hb.size; omega, hlt'⟩
      · unfold colN at hx; rw [if_neg hlt, if_neg hlt'] at hx; exact absurd rfl hx
  · show (if k = j then _ else fv k) = _
    rw [if_neg (by omega)]; exact hn k (by omega)
  · exact hb.trans (hf.to_below (B := w.heap.size) (fun k hk => by omega) hb.size)
theorem Nw.step {w w2 W : World} {M : Nat → Nat} {j g i r : Nat} {col : Nat → Nat} {fv : Nat → Value} {uv : Nat → List Pl} {C : Array Value} (hj : j < 2) (hM : ∀ k, M k ≤ 4096) (h : Nw w w2 M j g i col fv uv C) (hi : i < M j)
    (hf : Fr (fun x => x = g) w2 W) (hr : w2.heap.size ≤ r) (hR : Box W r (madeCells #[Value.int .u8 0] (128 * 1)) 5) (hG : Box W g (C.setIfInBounds (i * 2) (.slice (some ⟨r, 0, none⟩) 128 128)) 68) :
    Nw w W M j g (i + 1) (colN w2 W col (fc j + 1 + i)) fv (fun k => if k = j then uv j ++ [(.slice (some ⟨r, 0, none⟩) 128 128, .slice none 0 0, [])] else uv k) (C.setIfInBounds (i * 2) (.slice (some ⟨r, 0, none⟩) 128 128)) := by
  have hco : ∀ x, x < w2.heap.size → colN w2 W col (fc j + 1 + i) x = col x := fun x hx => colN_old hx
  have hgl := h.row.lt
  have hbl := h.box.lt
  have hfj := h.file j hj
  simp only [if_true] at hfj
  have hgc : col g = fc j := hfj.row.2 g rfl
  have hbg : w.heap.size ≠ g := fun e => by have := h.bcol; rw [e, hgc] at this; unfold fc at this; omega
  refine ⟨h.box.fr hf hbg, fun k hk => ?_, by rw [hco _ hbl]; exact h.bcol, fun x hx => ?_, h.nils, h.here, hG, by simpa using h.size, fun m h1 h2 => ?_, ?_⟩
  · by_cases hkj : k = j
    · subst hkj
      simp only [if_true]
      have hl : (List.replicate i zSe).length = i := List.length_replicate
      have hse : SeAt W (colN w2 W col (fc k + 1 + i)) (fc k + 1 + i) zSe (.slice (some ⟨r, 0, none⟩) 128 128) (.slice none 0 0) [] :=
        SeAt.bare ⟨⟨by simp [z128], .inr ⟨r, 128, _, rfl, Nat.zero_le _, hR, Nat.le_refl _, by decide, size_madeCells _ _, by rw [zero_row]; rfl⟩⟩, fun x hx => by injection hx with hx; rw [← hx]; exact colN_new hr hR.lt⟩ List.length_replicate z128_bytes
      have hp := FiAt.push (l := List.replicate i zSe) (p := (.slice (some ⟨r, 0, none⟩) 128 128, .slice none 0 0, [])) (col' := colN w2 W col (fc k + 1 + i)) (s := zSe) (by rw [hl]; exact hfj) h.row hf (by
        rw [hl, set_same _ (2 * i + 1), show 2 * i = i * 2 by omega]
        · exact hG
        · rw [Array.getElem?_setIfInBounds_ne (by omega)]; exact h.rest _ (by omega) (by omega)) (by rw [hl]; exact hi) hco (by rw [hl]; exact hse)
      rw [List.length_append, hl] at hp
      rw [List.replicate_succ']
      exact hp
    · have hfk := h.file k hk
      simp only [if_neg hkj] at hfk ⊢
      refine hfk.fr hf (fun x hx e => ?_) hco
      have hlen : ((newTo M j).f k).length ≤ 4096 := by
        unfold newTo; simp only; split
        · rw [List.length_replicate]; exact hM k
        · simp
      rw [e, hgc]; unfold fc at *; omega
  · by_cases hlt : x < w2.heap.size
    · rw [hco x hlt] at hx
      have := h.mine x hx
      exact ⟨this.1, Nat.lt_of_lt_of_le this.2 hf.size⟩
    · by_cases hlt' : x < W.heap.size
      · exact ⟨by have := h.bel.size; omega, hlt'⟩
      · unfold colN at hx; rw [if_neg hlt, if_neg hlt'] at hx; exact absurd rfl hx
  · rw [Array.getElem?_setIfInBounds_ne (by omega)]; exact h.rest m (by omega) h2
  · exact h.bel.trans (hf.to_below (B := w.heap.size) (fun k hk => by have := (h.mine g (by rw [hgc]; unfold fc; omega)).1; omega) h.bel.size)
theorem Nw.done {w wr : World} {M : Nat → Nat} {j g : Nat} {col : Nat → Nat} {fv : Nat → Value} {uv : Nat → List Pl} {C : Array Value} (hj : j < 2) (hM : ∀ k, M k ≤ 4096) (h : Nw w wr M j g (M j) col fv uv C) : Out w wr M (j + 1) := by
  refine ⟨col, fv, uv, ⟨h.box, ⟨Nat.le_refl _, h.box.lt⟩, h.bcol, fun k hk => ?_, fun k hk => ?_, h.mine, fun x hx => hx.2, ⟨Int.le_refl _, by show (0 : Int) ≤ _; decide⟩⟩, fun k hk => h.nils k (by omega), h.bel⟩
  · have hfk := h.file k hk
    by_cases hkj : k = j
    · subst hkj
      simp only [if_true] at hfk
      have e : (newTo M (k + 1)).f k = List.replicate (M k) zSe := by unfold newTo; simp
      rw [e, h.here]; exact hfk
    · simp only [if_neg hkj] at hfk
      have e : (newTo M (j + 1)).f k = (newTo M j).f k := by
        unfold newTo; simp only
        by_cases h1 : k < j
        · rw [if_pos h1, if_pos (by omega)]
        · rw [if_neg h1, if_neg (by omega)]
      rw [e]; exact hfk
  · unfold newTo; simp only; split
    · rw [List.length_replicate]; exact hM k
    · simp
set_option maxRecDepth 100000 in
set_option maxHeartbeats 16000000 in
theorem new_yes (w : World) (N0 N1 : Nat) (h0 : N0 ≤ 4096) (h1 : N1 ≤ 4096) :
    Calls Try.prog 11 #[.int .i64 N0, .int .i64 N1] w fun e w' => e = .returned (.pointer (some ⟨w.heap.size, 0, none⟩)) ∧ Out w w' (fun k => if k = 0 then N0 else N1) 2 := by
  obtain ⟨M, hM⟩ : ∃ M : Nat → Nat, M = fun k => if k = 0 then N0 else N1 := ⟨_, rfl⟩
  rw [← hM]
  have HM := Lib.hid (show ∀ k, M k ≤ 4096 from fun k => by rw [hM]; simp only; split <;> assumption)
  have HIX := Lib.hid (show ∀ j : Nat, j < 2 → ∀ W, (Instr.index 66 (.agg #[.int .i64 N0, .int .i64 N1]) (.int .i64 j)).run Try.prog W = .ok (.int .i64 (M j)) W from fun j hj W => by
    rw [hM]
    rcases two hj with rfl | rfl
    · rfl
    · rfl)
  obtain ⟨i0, hi0, hz0, hz1, hz2⟩ := info_parts u8_info
  obtain ⟨k0, hk0, hy0, hy1, hy2⟩ := info_parts sec_info
  have MK8 := Lib.hid (show ∀ W, (Instr.makeSlice 30 (.int .i64 128) (.int .i64 128)).run Try.prog W = .ok (.slice (some ⟨W.heap.size, 0, none⟩) 128 128) (W.alloc (.cells (madeCells #[Value.int .u8 0] (128 * 1)) 5)) from fun W => by
    have := run_make (w := W) 30 5 i0 _ Try.underlying30 hi0 hz0 .i64 .i64 128 128 (by decide) (by decide) (by rw [hz2]; decide) (by decide)
    rw [hz1] at this; exact this)
  have MKS := Lib.hid (show ∀ (N : Nat), N ≤ 4096 → ∀ W, (Instr.makeSlice 62 (.int .i64 N) (.int .i64 N)).run Try.prog W = .ok (.slice (some ⟨W.heap.size, 0, none⟩) N N) (W.alloc (.cells (madeCells #[Value.slice none 0 0, Value.slice none 0 0] (N * 2)) 68)) from fun N hN W => by
    have := run_make (w := W) 62 68 k0 _ Try.underlying62 hk0 hy0 .i64 .i64 N N (by omega) (by omega) (by rw [hy2]; omega) (by omega)
    rw [hy1, Int.toNat_natCast] at this; exact this)
  have OU0 := Lib.hid (show Out w (w.alloc (.cells #[.slice none 0 0, .slice none 0 0, .bool false, .int .i64 0, .bool false] 65)) M 0 from
    ⟨fun _ => 0, fun _ => .slice none 0 0, fun _ => [], ⟨Box.new _ _ _, ⟨Nat.le_refl _, by simp⟩, rfl, fun k hk => ⟨rfl, Hd.nil _ _ _ _ _, fun i p s h => by simp at h⟩, fun k hk => by simp [newTo], fun g hg => absurd rfl hg, fun g hg => hg.2, ⟨Int.le_refl _, by show (0 : Int) ≤ _; decide⟩⟩, fun _ _ => rfl, new_ (Below.refl _ _) _⟩)
  clear hM h0 h1
  go_enter Try.func11, Try.ntmps11
  go_wp2
  go_loopw [14] (fun x wr => ∃ j : Nat, j ≤ 2 ∧ x = .int .i64 j ∧ Hid (Out w wr M j)) (fun x _ => 2 - (intOf x).toNat)
  case atStart => exact ⟨0, by decide, rfl, OU0⟩
  case round =>
    obtain ⟨j, hj, rfl, HO⟩ := hrel
    by_cases hlt : j < 2
    · have dj : decide ((j : Int) < 2) = true := by simp; omega
      have hix := HIX.out j hlt
      obtain ⟨N, hN⟩ : ∃ N, N = M j := ⟨_, rfl⟩
      rw [← hN] at hix
      have hN4 : N ≤ 4096 := by rw [hN]; exact HM.out j
      have HN := Lib.hid hN
      have HJ := Lib.hid hlt
      have dn0 : decide ((N : Int) < 0) = false := by simp
      have dn1 : decide ((4096 : Int) < (N : Int)) = false := by simp; omega
      have hj2 : (j : Int) < 2 := by omega
      have mks := MKS.out N hN4
      obtain ⟨AC, hAC⟩ : ∃ AC, AC = madeCells #[Value.slice none 0 0, Value.slice none 0 0] (N * 2) := ⟨_, rfl⟩
      rw [← hAC] at mks
      have HAC := Lib.hid hAC
      obtain ⟨w1, hw1⟩ : ∃ w1, w1 = wr := ⟨_, rfl⟩
      obtain ⟨col, fv, uv, hd, hnil, hbel⟩ := HO.out
      rw [← hw1] at hd hbel ⊢
      have HD := Lib.hid hd
      have HNI := Lib.hid hnil
      have HBE := Lib.hid hbel
      have BB1 := Lib.hid (show Box w1 w.heap.size (dC fv false 0 false) 65 from hd.box)
      have HCJ := Lib.hid (show (dC fv false 0 false)[j]? = some (fv j) by rcases two hlt with rfl | rfl <;> rfl)
      clear hN hAC hd hnil hbel HO hw1
      go_wp2
      refine wp_region_end (by kernel_rfl) (by kernel_rfl) 7 (fun W W' => Fr (fun x => x = w.heap.size) W W') (fun W => Fr (fun x => x = w.heap.size) w1 W ∧ ∃ g1, w1.heap.size ≤ g1 ∧ Box W g1 AC 68 ∧ Box W w.heap.size ((dC fv false 0 false).setIfInBounds j (.slice (some ⟨g1, 0, none⟩) N N)) 65) [(fun v _ => v = .pointer (some ⟨w.heap.size, 0, none⟩)), (fun v _ => v = .int .i64 j), (fun v _ => v = .int .i64 N), (fun v W => ∃ g1, v = .slice (some ⟨g1, 0, none⟩) N N ∧ w1.heap.size ≤ g1 ∧ Box W g1 AC 68), (fun v _ => v = .pointer (some ⟨w.heap.size, 0, none⟩)), (fun v _ => v = .pointer (some ⟨w.heap.size, 0, none⟩)), (fun v _ => v = .pointer (some ⟨w.heap.size, j, none⟩)), (fun v _ => v = undef)] (fun W W' hb h => ⟨h.1.below hb, by obtain ⟨g1, h1, h2, h3⟩ := h.2; exact ⟨g1, h1, h2.later hb, h3.later hb⟩⟩) ?_ (fun vals => ?_) (fun vals W hfin hall => ?_) (by decide)
      · intro j v W W' hj hr h
        match j, hj, h with
        | 0, _, h => exact h
        | 1, _, h => exact h
        | 2, _, h => exact h
        | 3, _, h => obtain ⟨g1, e1, e2, e3⟩ := h; exact ⟨g1, e1, e2, by rcases hr with h9 | h9; (exact e3.fr h9 (fun e => by have := BB1.out.lt; omega)); (exact e3.later h9)⟩
        | 4, _, h => exact h
        | 5, _, h => exact h
        | 6, _, h => exact h
        | 7, hj, _ => exact absurd rfl hj
        | _ + 8, _, _ => trivial
      · simp only [ObL, Act.put, List.setIfInBounds_toArray, List.set_cons_succ, List.set_cons_zero]
        refine ⟨?_, ?_, ?_, ?_, ?_, ?_, ?_, ?_, trivial⟩
        · intro L W hL hk hC hw
          clear hw
          clear hL hC hk
          refine step_plain rfl ?_
          go_simp
          first | exact ⟨Re.same (by decide), Fe.val (by decide) rfl rfl⟩ | exact ⟨_, rfl, Re.same (by decide), Fe.val (by decide) rfl rfl⟩
        · intro L W hL hk hC hw
          clear hw
          clear hL hC hk
          refine step_plain rfl ?_
          go_simp
          first | exact ⟨Re.same (by decide), Fe.val (by decide) rfl rfl⟩ | exact ⟨_, rfl, Re.same (by decide), Fe.val (by decide) rfl rfl⟩
        · intro L W hL hk hC hw
          clear hw
          clear hL hC hk
          refine step_plain rfl ?_
          go_simp
          first | exact ⟨Re.same (by decide), Fe.val (by decide) rfl rfl⟩ | exact ⟨_, rfl, Re.same (by decide), Fe.val (by decide) rfl rfl⟩
        · intro L W hL hk hC hw
          have f2 : vals 2 = .int .i64 N := Fe.get (hw ⟨2, .data⟩ (by simp) rfl) (by decide)
          clear hw
          have hb := hC (hL.not_yet hk 7 8 (by decide +kernel))
          have hsz := Lib.hid hb.size
          clear hL hC hk hb
          refine step_plain rfl ?_
          go_simp
          have hz := new_ (Below.refl W.heap.size W) (.cells AC 68)
          first | exact ⟨Re.of (by decide) hz, Fe.val (by decide) rfl ⟨_, rfl, hsz.out, Box.new _ _ _⟩⟩ | exact ⟨_, rfl, Re.of (by decide) hz, Fe.val (by decide) rfl ⟨_, rfl, hsz.out, Box.new _ _ _⟩⟩
        · intro L W hL hk hC hw
          have f0 : vals 0 = .pointer (some ⟨w.heap.size, 0, none⟩) := Fe.get (hw ⟨0, .data⟩ (by simp) rfl) (by decide)
          clear hw
          clear hL hC hk
          refine step_plain rfl ?_
          go_simp
          first | exact ⟨Re.same (by decide), Fe.val (by decide) rfl rfl⟩ | exact ⟨_, rfl, Re.same (by decide), Fe.val (by decide) rfl rfl⟩
        · intro L W hL hk hC hw
          have f4 : vals 4 = .pointer (some ⟨w.heap.size, 0, none⟩) := Fe.get (hw ⟨4, .data⟩ (by simp) rfl) (by decide)
          clear hw
          clear hL hC hk
          refine step_plain rfl ?_
          go_simp
          first | exact ⟨Re.same (by decide), Fe.val (by decide) rfl rfl⟩ | exact ⟨_, rfl, Re.same (by decide), Fe.val (by decide) rfl rfl⟩
        · intro L W hL hk hC hw
          have f5 : vals 5 = .pointer (some ⟨w.heap.size, 0, none⟩) := Fe.get (hw ⟨5, .data⟩ (by simp) rfl) (by decide)
          have f1 : vals 1 = .int .i64 j := Fe.get (hw ⟨1, .data⟩ (by simp) rfl) (by decide)
          clear hw
          clear hL hC hk
          refine step_plain rfl ?_
          go_simp
          first | exact ⟨Re.same (by decide), Fe.val (by decide) rfl rfl⟩ | exact ⟨_, rfl, Re.same (by decide), Fe.val (by decide) rfl rfl⟩
        · intro L W hL hk hC hw
          have f6 : vals 6 = .pointer (some ⟨w.heap.size, j, none⟩) := Fe.get (hw ⟨6, .data⟩ (by simp) rfl) (by decide)
          have f3 : ∃ g1, (vals 3) = .slice (some ⟨g1, 0, none⟩) N N ∧ w1.heap.size ≤ g1 ∧ Box W g1 AC 68 := Fe.get (hw ⟨3, .data⟩ (by simp) rfl) (by decide)
          clear hw
          have hb := hC hk
          obtain ⟨g1, e3, hg1, hbx1⟩ := f3
          have bx := BB1.out.later hb
          have kc : ∃ y, W.cell? ⟨w.heap.size, j, none⟩ = some y := ⟨_, (bx.cell j).trans HCJ.out⟩
          obtain ⟨y, kc⟩ := kc
          have fc9 := bx.frozen j
          have HBX := Lib.hid bx
          have HG1 := Lib.hid hg1
          have HB1 := Lib.hid hbx1
          have HBB := Lib.hid hb
          clear hL hC hk hb bx hg1 hbx1
          refine step_plain rfl ?_
          go_simp
          have hfr := Fr.setCell (Fr.refl (fun x => x = w.heap.size) W) (p := ⟨w.heap.size, j, none⟩) (.inl rfl) (.slice (some ⟨g1, 0, none⟩) N N)
          exact ⟨Re.last hfr, undef, Fe.last ⟨(Fr.of_below HBB.out).trans hfr, g1, HG1.out, HB1.out.fr hfr (fun e => by have := HG1.out; have := BB1.out.lt; omega), by have h9 := HBX.out.set_ j (.slice (some ⟨g1, 0, none⟩) N N); first | exact h9 | simpa only [List.setIfInBounds_toArray] using h9⟩⟩
      · simp only [TL, Act.put, List.setIfInBounds_toArray, List.set_cons_succ, List.set_cons_zero]
        obtain ⟨hfr7, g, hg7, hG7, hB7⟩ := hfin
        have hst := Nw.start HJ.out (HM.out j) HD.out HNI.out HBE.out hfr7 hg7 (by rw [← HN.out, ← HAC.out]; exact hG7) (by rw [← HN.out]; exact hB7)
        have HST := Lib.hid hst
        have kb : W.cell? ⟨w.heap.size, j, none⟩ = some (.slice (some ⟨g, 0, none⟩) N N) := (hst.box.cell j).trans (show (dC (fun k => if k = j then Value.slice (some ⟨g, 0, none⟩) (M j) (M j) else fv k) false 0 false)[j]? = some (.slice (some ⟨g, 0, none⟩) N N) by rw [HN.out]; rcases two HJ.out with h9 | h9 <;> (subst h9; rfl))
        clear hfr7 hg7 hG7 hB7 hst hall mks
        go_wp2
        clear kb
        go_loopw [38] (fun x wr => ∃ i : Nat, i ≤ N ∧ x = .int .i64 i ∧ Hid (∃ col fv uv C, Nw w wr M j g i col fv uv C)) (fun x _ => N - (intOf x).toNat)
        case atStart => exact ⟨0, Nat.zero_le _, rfl, Lib.hid ⟨_, _, _, _, HST.out⟩⟩
        case round =>
          obtain ⟨i, hi, rfl, HI⟩ := hrel
          by_cases hlt2 : i < N
          · obtain ⟨w2, hw2⟩ : ∃ w2, w2 = wr := ⟨_, rfl⟩
            obtain ⟨col2, fv2, uv2, C, hnw⟩ := HI.out
            rw [← hw2] at hnw ⊢
            have di : decide ((i : Int) < (N : Int)) = true := by simp; omega
            have HNW := Lib.hid hnw
            have BB2 := Lib.hid hnw.box
            have BG2 := Lib.hid hnw.row
            have HCJ2 := Lib.hid (show (dC fv2 false 0 false)[j]? = some (.slice (some ⟨g, 0, none⟩) N N) by rw [HN.out, ← HNW.out.here]; rcases two HJ.out with h9 | h9 <;> (subst h9; rfl))
            have HCI := Lib.hid (show C[i * 2]? = some (.slice none 0 0) from hnw.rest _ (by omega) (by rw [← HN.out]; omega))
            have HI2 := Lib.hid hlt2
            have mk8 := MK8.out
            obtain ⟨ZC, hZC⟩ : ∃ ZC, ZC = madeCells #[Value.int .u8 0] (128 * 1) := ⟨_, rfl⟩
            rw [← hZC] at mk8
            have HZC := Lib.hid hZC
            clear hnw hw2 HI hZC
            go_wp2
            refine wp_region_end (by kernel_rfl) (by kernel_rfl) 10 (fun W W' => Fr (fun x => x = g) W W') (fun W => Fr (fun x => x = g) w2 W ∧ ∃ g1, w2.heap.size ≤ g1 ∧ Box W g1 ZC 5 ∧ Box W g (C.setIfInBounds (i * 2) (.slice (some ⟨g1, 0, none⟩) 128 128)) 68) [(fun v _ => v = .pointer (some ⟨w.heap.size, 0, none⟩)), (fun v _ => v = .int .i64 j), (fun v _ => v = .pointer (some ⟨w.heap.size, 0, none⟩)), (fun v _ => v = .pointer (some ⟨w.heap.size, 0, none⟩)), (fun v _ => v = .pointer (some ⟨w.heap.size, j, none⟩)), (fun v _ => v = .slice (some ⟨g, 0, none⟩) N N), (fun v _ => v = .int .i64 i), (fun v W => ∃ g1, v = .slice (some ⟨g1, 0, none⟩) 128 128 ∧ w2.heap.size ≤ g1 ∧ Box W g1 ZC 5), (fun v _ => v = .pointer (some ⟨g, i * 2, none⟩)), (fun v _ => v = .pointer (some ⟨g, i * 2, none⟩)), (fun v _ => v = undef)] (fun W W' hb h => ⟨h.1.below hb, by obtain ⟨g1, h1, h2, h3⟩ := h.2; exact ⟨g1, h1, h2.later hb, h3.later hb⟩⟩) ?_ (fun vals => ?_) (fun vals W hfin hall => ?_) (by decide)
            · intro j v W W' hj hr h
              match j, hj, h with
              | 0, _, h => exact h
              | 1, _, h => exact h
              | 2, _, h => exact h
              | 3, _, h => exact h
              | 4, _, h => exact h
              | 5, _, h => exact h
              | 6, _, h => exact h
              | 7, _, h => obtain ⟨g1, e1, e2, e3⟩ := h; exact ⟨g1, e1, e2, by rcases hr with h9 | h9; (exact e3.fr h9 (fun e => by have := BG2.out.lt; omega)); (exact e3.later h9)⟩
              | 8, _, h => exact h
              | 9, _, h => exact h
              | 10, hj, _ => exact absurd rfl hj
              | _ + 11, _, _ => trivial
            · simp only [ObL, Act.put, List.setIfInBounds_toArray, List.set_cons_succ, List.set_cons_zero]
              refine ⟨?_, ?_, ?_, ?_, ?_, ?_, ?_, ?_, ?_, ?_, ?_, trivial⟩
              · intro L W hL hk hC hw
                clear hw
                clear hL hC hk
                refine step_plain rfl ?_
                go_simp
                first | exact ⟨Re.same (by decide), Fe.val (by decide) rfl rfl⟩ | exact ⟨_, rfl, Re.same (by decide), Fe.val (by decide) rfl rfl⟩
              · intro L W hL hk hC hw
                clear hw
                clear hL hC hk
                refine step_plain rfl ?_
                go_simp
                first | exact ⟨Re.same (by decide), Fe.val (by decide) rfl rfl⟩ | exact ⟨_, rfl, Re.same (by decide), Fe.val (by decide) rfl rfl⟩
              · intro L W hL hk hC hw
                have f0 : vals 0 = .pointer (some ⟨w.heap.size, 0, none⟩) := Fe.get (hw ⟨0, .data⟩ (by simp) rfl) (by decide)
                clear hw
                clear hL hC hk
                refine step_plain rfl ?_
                go_simp
                first | exact ⟨Re.same (by decide), Fe.val (by decide) rfl rfl⟩ | exact ⟨_, rfl, Re.same (by decide), Fe.val (by decide) rfl rfl⟩
              · intro L W hL hk hC hw
                have f2 : vals 2 = .pointer (some ⟨w.heap.size, 0, none⟩) := Fe.get (hw ⟨2, .data⟩ (by simp) rfl) (by decide)
                clear hw
                clear hL hC hk
                refine step_plain rfl ?_
                go_simp
                first | exact ⟨Re.same (by decide), Fe.val (by decide) rfl rfl⟩ | exact ⟨_, rfl, Re.same (by decide), Fe.val (by decide) rfl rfl⟩
              · intro L W hL hk hC hw
                have f3 : vals 3 = .pointer (some ⟨w.heap.size, 0, none⟩) := Fe.get (hw ⟨3, .data⟩ (by simp) rfl) (by decide)
                have f1 : vals 1 = .int .i64 j := Fe.get (hw ⟨1, .data⟩ (by simp) rfl) (by decide)
                clear hw
                clear hL hC hk
                refine step_plain rfl ?_
                go_simp
                first | exact ⟨Re.same (by decide), Fe.val (by decide) rfl rfl⟩ | exact ⟨_, rfl, Re.same (by decide), Fe.val (by decide) rfl rfl⟩
              · intro L W hL hk hC hw
                have f4 : vals 4 = .pointer (some ⟨w.heap.size, j, none⟩) := Fe.get (hw ⟨4, .data⟩ (by simp) rfl) (by decide)
                clear hw
                have hb := hC (hL.not_yet hk 10 8 (by decide +kernel))
                have bx := BB2.out.later hb
                have kc : W.cell? ⟨w.heap.size, j, none⟩ = some (.slice (some ⟨g, 0, none⟩) N N) := (bx.cell j).trans HCJ2.out
                clear hL hC hk hb bx
                refine step_plain rfl ?_
                go_simp
                first | exact ⟨Re.same (by decide), Fe.val (by decide) rfl rfl⟩ | exact ⟨_, rfl, Re.same (by decide), Fe.val (by decide) rfl rfl⟩
              · intro L W hL hk hC hw
                clear hw
                clear hL hC hk
                refine step_plain rfl ?_
                go_simp
                first | exact ⟨Re.same (by decide), Fe.val (by decide) rfl rfl⟩ | exact ⟨_, rfl, Re.same (by decide), Fe.val (by decide) rfl rfl⟩
              · intro L W hL hk hC hw
                clear hw
                have hb := hC (hL.not_yet hk 10 8 (by decide +kernel))
                have hsz := Lib.hid hb.size
                clear hL hC hk hb
                refine step_plain rfl ?_
                go_simp
                have hz := new_ (Below.refl W.heap.size W) (.cells ZC 5)
                first | exact ⟨Re.of (by decide) hz, Fe.val (by decide) rfl ⟨_, rfl, hsz.out, Box.new _ _ _⟩⟩ | exact ⟨_, rfl, Re.of (by decide) hz, Fe.val (by decide) rfl ⟨_, rfl, hsz.out, Box.new _ _ _⟩⟩
              · intro L W hL hk hC hw
                have f5 : vals 5 = .slice (some ⟨g, 0, none⟩) N N := Fe.get (hw ⟨5, .data⟩ (by simp) rfl) (by decide)
                have f6 : vals 6 = .int .i64 i := Fe.get (hw ⟨6, .data⟩ (by simp) rfl) (by decide)
                clear hw
                clear hL hC hk
                refine step_plain rfl ?_
                go_simp
                first | exact ⟨Re.same (by decide), Fe.val (by decide) rfl rfl⟩ | exact ⟨_, rfl, Re.same (by decide), Fe.val (by decide) rfl rfl⟩
              · intro L W hL hk hC hw
                have f8 : vals 8 = .pointer (some ⟨g, i * 2, none⟩) := Fe.get (hw ⟨8, .data⟩ (by simp) rfl) (by decide)
                clear hw
                clear hL hC hk
                refine step_plain rfl ?_
                go_simp
                first | exact ⟨Re.same (by decide), Fe.val (by decide) rfl rfl⟩ | exact ⟨_, rfl, Re.same (by decide), Fe.val (by decide) rfl rfl⟩
              · intro L W hL hk hC hw
                have f9 : vals 9 = .pointer (some ⟨g, i * 2, none⟩) := Fe.get (hw ⟨9, .data⟩ (by simp) rfl) (by decide)
                have f7 : ∃ g1, (vals 7) = .slice (some ⟨g1, 0, none⟩) 128 128 ∧ w2.heap.size ≤ g1 ∧ Box W g1 ZC 5 := Fe.get (hw ⟨7, .data⟩ (by simp) rfl) (by decide)
                clear hw
                have hb := hC hk
                obtain ⟨g1, e7, hg1, hbx1⟩ := f7
                have bx := BG2.out.later hb
                have kc : W.cell? ⟨g, i * 2, none⟩ = some (.slice none 0 0) := (bx.cell (i * 2)).trans HCI.out
                have fc9 := bx.frozen (i * 2)
                have HBX := Lib.hid bx
                have HG1 := Lib.hid hg1
                have HB1 := Lib.hid hbx1
                have HBB := Lib.hid hb
                clear hL hC hk hb bx hg1 hbx1
                refine step_plain rfl ?_
                go_simp
                have hfr := Fr.setCell (Fr.refl (fun x => x = g) W) (p := ⟨g, i * 2, none⟩) (.inl rfl) (.slice (some ⟨g1, 0, none⟩) 128 128)
                exact ⟨Re.last hfr, undef, Fe.last ⟨(Fr.of_below HBB.out).trans hfr, g1, HG1.out, HB1.out.fr hfr (fun e => by have := HG1.out; have := BG2.out.lt; omega), HBX.out.set_ (i * 2) _⟩⟩
            · simp only [TL, Act.put, List.setIfInBounds_toArray, List.set_cons_succ, List.set_cons_zero]
              obtain ⟨hfr11, r, hr11, hR11, hG11⟩ := hfin
              have hst := Nw.step HJ.out HM.out HNW.out (by rw [← HN.out]; exact HI2.out) hfr11 hr11 (by rw [← HZC.out]; exact hR11) hG11
              have HST2 := Lib.hid hst
              clear hst hfr11 hr11 hR11 hG11 hall mk8
              go_wp2
              go_roundw
              case rel => exact ⟨i + 1, by omega, by go_num, Lib.hid ⟨_, _, _, _, HST2.out⟩⟩
              case measure => simp [intOf]; omega
          · have hiN : i = N := by omega
            have di : decide ((i : Int) < (N : Int)) = false := by simp; omega
            obtain ⟨col2, fv2, uv2, C, hnw⟩ := HI.out
            rw [hiN, HN.out] at hnw
            have HDN := Lib.hid (Nw.done HJ.out HM.out hnw)
            clear hnw hiN
            go_wp2
            go_roundw
            case rel => exact ⟨j + 1, by omega, by go_num, HDN⟩
            case measure => simp [intOf]; omega
    · have hj2 : j = 2 := by omega
      subst hj2
      go_wp2
      go_ret
      exact ⟨rfl, HO.out⟩
end Go.Proofs.Ytplombkpefacgaa.Disk
