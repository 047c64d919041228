import Derived.Test.YteggcehjpfmikaaLaw
import Derived.Test.YteggcehjpfmikaaMem3
import Derived.Test.YteggcehjpfmikaaWt1
import Derived.Test.YteggcehjpfmikaaWt3
import Derived.DeepKeys4
import Derived.Laws.MakeOwn
import Derived.Lib.Hide
import Derived.Lib.SmallJoins
import Derived.Maps.Own
import Derived.Maps.OwnOps
import Derived.Maps.OwnSet
import Derived.Maps.Views
import Derived.ProofKit
import Derived.WalkKit
namespace Go.Proofs.Yteggcehjpfmikaa.Disk
open Go.ChangeShapes Go.WideShapes Go.ChangeAt Go.RowKit Go.IntWalk Go.Proofs.Mem
set_option linter.unusedVariables false
set_option linter.unusedSimpArgs false
theorem set_two (L : List Value) (a : Nat) (x y : Value) (h : a + 1 < L.length) : ((L.set a x).set (a + 1) y).take (a + 2) = L.take a ++ [x, y] := by
  apply List.ext_getElem?
  intro m
  by_cases h1 : m < a
  · rw [List.getElem?_take, if_pos (by omega), List.getElem?_set_ne (by omega), List.getElem?_set_ne (by omega), List.getElem?_append_left (by rw [List.length_take]; omega), List.getElem?_take, if_pos h1]
  · by_cases h2 : m = a
    · subst h2
      rw [List.getElem?_take, if_pos (by omega), List.getElem?_set_ne (by omega), List.getElem?_set_self (by omega), List.getElem?_append_right (by rw [List.length_take]; omega), List.length_take, Nat.min_eq_left (by omega), Nat.sub_self]
      rfl
    · by_cases h3 : m = a + 1
      · subst h3
        rw [List.getElem?_take, if_pos (by omega), List.getElem?_set_self (by rw [List.length_set]; omega), List.getElem?_append_right (by rw [List.length_take]; omega), List.length_take, Nat.min_eq_left (by omega), show a + 1 - a = 1 by omega]
        rfl
      · rw [List.getElem?_take, if_neg (by omega), List.getElem?_eq_none (by rw [List.length_append, List.length_take]; simp; omega)]
theorem FiAt.push {tS : TypeId} {w w' : World} {col col' : Nat → Nat} {c g cap : Nat} {l : List Se} {uv : List Pl} {C : Array Value} {s : Se} {p : Pl} (h : FiAt tS w col c (.slice (some ⟨g, 0, none⟩) l.length cap) l uv) (hC : Box w g C tS) (hf : Fr (fun x => x = g) w w')
    (hC' : Box w' g ((C.setIfInBounds (2 * l.length) p.1).setIfInBounds (2 * l.length + 1) p.2.1) tS) (hlt : l.length < cap) (hco : ∀ x, x < w.heap.size → col' x = col x) (hs : SeAt w' col' (c + 1 + l.length) s p.1 p.2.1 p.2.2) :
    FiAt tS w' col' c (.slice (some ⟨g, 0, none⟩) (l ++ [s]).length cap) (l ++ [s]) (uv ++ [p]) := by
  have hgl := hC.lt
  have hgc := h.row.2 g rfl
  obtain ⟨cur, hcur⟩ : ∃ cur, Box w g cur tS ∧ cap ≤ maxLen ∧ cur.size = cap * 2 ∧ cur.toList.take (l.length * 2) = uv.flatMap cSe := by
    rcases h.row.1.2 with ⟨h0, _⟩ | ⟨g', cap', cur, e, _, hg, h1, h2, h3, h4⟩
    · cases h0
    · injection e with e1 e2 e3
      injection e1 with e1
      injection e1 with e1
      subst e1 e3
      exact ⟨cur, hg, h2, h3, h4⟩
  obtain ⟨hb, hm, hz, ht⟩ := hcur
  have eC : cur = C := by
    unfold Box at hb hC
    rw [hb] at hC
    injection hC with hC
    injection hC
  subst eC
  refine ⟨by simp [h.n], ⟨⟨by rw [flat2_len]; simp [h.n]; omega, .inr ⟨g, cap, _, rfl, Nat.zero_le _, hC', by simp; omega, hm, by simpa using hz, ?_⟩⟩, fun x hx => ?_⟩, fun j q r hq hr => ?_⟩
  · have e1 : (l ++ [s]).length * 2 = 2 * l.length + 2 := by simp; omega
    have hz9 : 2 * l.length + 1 < cur.toList.length := by have h9 : cur.toList.length = cur.size := Array.length_toList; omega
    rw [e1, Array.toList_setIfInBounds, Array.toList_setIfInBounds, set_two _ _ _ _ hz9, show 2 * l.length = l.length * 2 by omega, ht, List.flatMap_append]
    rfl
  · injection hx with hx
    rw [← hx, hco g hgl]; exact hgc
  · by_cases hj : j < l.length
    · rw [List.getElem?_append_left (by rw [h.n]; exact hj)] at hq
      rw [List.getElem?_append_left hj] at hr
      exact (h.sec j q r hq hr).fr hf (fun x hx e => by rw [e, hgc]; omega) hco
    · have hjl : j = l.length := by
        have := (List.getElem?_eq_some_iff.1 hr).1
        rw [List.length_append] at this
        simp at this; omega
      subst hjl
      rw [← h.n, List.getElem?_append_right (Nat.le_refl _), Nat.sub_self] at hq
      rw [List.getElem?_append_right (Nat.le_refl _), Nat.sub_self] at hr
      simp at hq hr
      subst hq hr
      exact hs
theorem sec_info : (Try.prog.info? 78).map (fun i => (i.zero, i.size, i.bytes)) = some (some (.agg #[.slice none 0 0, .slice none 0 0]), 2, 48) := by kernel_rfl
theorem nil_cells (n m : Nat) (h : m < n * 2) : (madeCells #[Value.slice none 0 0, Value.slice none 0 0] (n * 2))[m]? = some (.slice none 0 0) := by
  unfold madeCells
  have h2 : m % 2 = 0 ∨ m % 2 = 1 := by omega
  rw [Array.getElem?_map, Array.getElem?_range]
  rw [if_pos h]
  rcases h2 with h2 | h2
  · simp [h2]
  · simp [h2]
theorem zero_row (m : Nat) : (madeCells #[Value.int .u8 0] (m * 1)).toList = (List.replicate m (0 : Int)).map (.int .u8) := by
  apply List.ext_getElem?
  intro i
  unfold madeCells
  by_cases h : i < m
  · simp [h, Nat.mod_one]
  · simp [h]
def z128 : List Int := List.replicate 128 0
def zSe : Se := ⟨z128, []⟩
theorem z128_bytes : Bytes z128 := fun x hx => by rw [(List.mem_replicate.1 hx).2]; omega
end Go.Proofs.Yteggcehjpfmikaa.Disk
namespace Go.Proofs.Yteggcehjpfmikaa.Disk
open Go.ChangeShapes Go.WideShapes Go.ChangeAt Go.RowKit Go.IntWalk Go.Proofs.Mem Go.Proofs.Each
set_option linter.unusedVariables false
set_option linter.unusedSimpArgs false
def newTo (M : Nat → Nat) (j : Nat) : Dv := ⟨fun k => if k < j then List.replicate (M k) zSe else [], false, 0, false⟩
def newS (w wr : World) : Nat → Prop := fun x => w.heap.size ≤ x ∧ x < wr.heap.size
structure Nw (w wr : World) (M : Nat → Nat) (j g i : Nat) (col : Nat → Nat) (fv : Nat → Value) (uv : Nat → List Pl) (C : Array Value) : Prop where
  box : Box wr w.heap.size (dC fv false 0 false) 75
  file : ∀ k, k < 2 → FiAt 78 wr col (fc k) (if k = j then .slice (some ⟨g, 0, none⟩) i (M j) else fv k) (if k = j then List.replicate i zSe else (newTo M j).f k) (uv k)
  bcol : col w.heap.size = 0
  mine : ∀ x, col x ≠ 0 → newS w wr x
  nils : ∀ k, j < k → fv k = .slice none 0 0
  here : fv j = .slice (some ⟨g, 0, none⟩) (M j) (M j)
  row : Box wr g C 78
  size : C.size = M j * 2
  rest : ∀ m, 2 * i ≤ m → m < M j * 2 → C[m]? = some (.slice none 0 0)
  bel : Below w.heap.size w wr
def Out (w wr : World) (M : Nat → Nat) (j : Nat) : Prop := ∃ col fv uv, DA wr (newS w wr) w.heap.size (newTo M j) col fv uv ∧ (∀ k, j ≤ k → fv k = .slice none 0 0) ∧ Below w.heap.size w wr
theorem Nw.start {w w1 W : World} {M : Nat → Nat} {j g : Nat} {col : Nat → Nat} {fv : Nat → Value} {uv : Nat → List Pl} (hj : j < 2) (hM : M j ≤ 4096) (h : DA w1 (newS w w1) w.heap.size (newTo M j) col fv uv) (hn : ∀ k, j ≤ k → fv k = .slice none 0 0) (hb : Below w.heap.size w w1)
    (hf : Fr (fun x => x = w.heap.size) w1 W) (hg : w1.heap.size ≤ g) (hG : Box W g (madeCells #[Value.slice none 0 0, Value.slice none 0 0] (M j * 2)) 78) (hB : Box W w.heap.size ((dC fv false 0 false).setIfInBounds j (.slice (some ⟨g, 0, none⟩) (M j) (M j))) 75) :
    Nw w W M j g 0 (colN w1 W col (fc j)) (fun k => if k = j then .slice (some ⟨g, 0, none⟩) (M j) (M j) else fv k) (fun k => if k = j then [] else uv k) (madeCells #[Value.slice none 0 0, Value.slice none 0 0] (M j * 2)) := by
  have hbl := h.box.lt
  have hco : ∀ x, x < w1.heap.size → colN w1 W col (fc j) x = col x := fun x hx => colN_old hx
  refine ⟨?_, fun k hk => ?_, by rw [hco _ hbl]; exact h.bcol, fun x hx => ?_, fun k hk => ?_, by simp, hG, size_madeCells _ _, fun m _ hm => nil_cells _ _ hm, ?_⟩
  · have e : (dC fv false 0 false).setIfInBounds j (.slice (some ⟨g, 0, none⟩) (M j) (M j)) = dC (fun k => if k = j then .slice (some ⟨g, 0, none⟩) (M j) (M j) else fv k) false 0 false := by
      rcases two hj with rfl | rfl <;> rfl
    rw [← e]; exact hB
  · by_cases hkj : k = j
    · subst hkj
      simp only [if_true, List.replicate_zero]
      refine ⟨rfl, ⟨⟨rfl, .inr ⟨g, M k, _, rfl, Nat.zero_le _, hG, Nat.zero_le _, by unfold maxLen; omega, size_madeCells _ _, rfl⟩⟩, fun x hx => ?_⟩, fun i p s h1 _ => by simp at h1⟩
      injection hx with hx
      rw [← hx]; exact colN_new hg hG.lt
    · simp only [if_neg hkj]
      have hr : (if k = j then Value.slice (some ⟨g, 0, none⟩) (M j) (M j) else fv k) = fv k := if_neg hkj
      refine (h.file k hk).fr hf (fun x hx e => by rw [e, h.bcol]; unfold fc; omega) hco
  · by_cases hlt : x < w1.heap.size
    · rw [hco x hlt] at hx
      have := h.mine x hx
      exact ⟨this.1, Nat.lt_of_lt_of_le this.2 hf.size⟩
    · by_cases hlt' : x < W.heap.size
      · exact ⟨by have := hb.size; omega, hlt'⟩
      · unfold colN at hx; rw [if_neg hlt, if_neg hlt'] at hx; exact absurd rfl hx
  · show (if k = j then _ else fv k) = _
    rw [if_neg (by omega)]; exact hn k (by omega)
  · exact hb.trans (hf.to_below (B := w.heap.size) (fun k hk => by omega) hb.size)
theorem Nw.step {w w2 W : World} {M : Nat → Nat} {j g i r : Nat} {col : Nat → Nat} {fv : Nat → Value} {uv : Nat → List Pl} {C : Array Value} (hj : j < 2) (hM : ∀ k, M k ≤ 4096) (h : Nw w w2 M j g i col fv uv C) (hi : i < M j)
    (hf : Fr (fun x => x = g) w2 W) (hr : w2.heap.size ≤ r) (hR : Box W r (madeCells #[Value.int .u8 0] (128 * 1)) 5) (hG : Box W g (C.setIfInBounds (i * 2) (.slice (some ⟨r, 0, none⟩) 128 128)) 78) :
    Nw w W M j g (i + 1) (colN w2 W col (fc j + 1 + i)) fv (fun k => if k = j then uv j ++ [(.slice (some ⟨r, 0, none⟩) 128 128, .slice none 0 0, [])] else uv k) (C.setIfInBounds (i * 2) (.slice (some ⟨r, 0, none⟩) 128 128)) := by
  have hco : ∀ x, x < w2.heap.size → colN w2 W col (fc j + 1 + i) x = col x := fun x hx => colN_old hx
  have hgl := h.row.lt
  have hbl := h.box.lt
  have hfj := h.file j hj
  simp only [if_true] at hfj
  have hgc : col g = fc j := hfj.row.2 g rfl
  have hbg : w.heap.size ≠ g := fun e => by have := h.bcol; rw [e, hgc] at this; unfold fc at this; omega
  refine ⟨h.box.fr hf hbg, fun k hk => ?_, by rw [hco _ hbl]; exact h.bcol, fun x hx => ?_, h.nils, h.here, hG, by simpa using h.size, fun m h1 h2 => ?_, ?_⟩
  · by_cases hkj : k = j
    · subst hkj
      simp only [if_true]
      have hl : (List.replicate i zSe).length = i := List.length_replicate
      have hse : SeAt W (colN w2 W col (fc k + 1 + i)) (fc k + 1 + i) zSe (.slice (some ⟨r, 0, none⟩) 128 128) (.slice none 0 0) [] :=
        SeAt.bare ⟨⟨by simp [z128], .inr ⟨r, 128, _, rfl, Nat.zero_le _, hR, Nat.le_refl _, by decide, size_madeCells _ _, by rw [zero_row]; rfl⟩⟩, fun x hx => by injection hx with hx; rw [← hx]; exact colN_new hr hR.lt⟩ List.length_replicate z128_bytes
      have hp := FiAt.push (l := List.replicate i zSe) (p := (.slice (some ⟨r, 0, none⟩) 128 128, .slice none 0 0, [])) (col' := colN w2 W col (fc k + 1 + i)) (s := zSe) (by rw [hl]; exact hfj) h.row hf (by
        rw [hl, set_same _ (2 * i + 1), show 2 * i = i * 2 by omega]
        · exact hG
        · rw [Array.getElem?_setIfInBounds_ne (by omega)]; exact h.rest _ (by omega) (by omega)) (by rw [hl]; exact hi) hco (by rw [hl]; exact hse)
      rw [List.length_append, hl] at hp
      rw [List.replicate_succ']
      exact hp
    · have hfk := h.file k hk
      simp only [if_neg hkj] at hfk ⊢
      refine hfk.fr hf (fun x hx e => ?_) hco
      have hlen : ((newTo M j).f k).length ≤ 4096 := by
        unfold newTo; simp only; split
        · rw [List.length_replicate]; exact hM k
        · simp
      rw [e, hgc]; unfold fc at *; omega
  · by_cases hlt : x < w2.heap.size
    · rw [hco x hlt] at hx
      have := h.mine x hx
      exact ⟨this.1, Nat.lt_of_lt_of_le this.2 hf.size⟩
    · by_cases hlt' : x < W.heap.size
      · exact ⟨by have := h.bel.size; omega, hlt'⟩
      · unfold colN at hx; rw [if_neg hlt, if_neg hlt'] at hx; exact absurd rfl hx
  · rw [Array.getElem?_setIfInBounds_ne (by omega)]; exact h.rest m (by omega) h2
  · exact h.bel.trans (hf.to_below (B := w.heap.size) (fun k hk => by have := (h.mine g (by rw [hgc]; unfold fc; omega)).1; omega) h.bel.size)
theorem Nw.done {w wr : World} {M : Nat → Nat} {j g : Nat} {col : Nat → Nat} {fv : Nat → Value} {uv : Nat → List Pl} {C : Array Value} (hj : j < 2) (hM : ∀ k, M k ≤ 4096) (h : Nw w wr M j g (M j) col fv uv C) : Out w wr M (j + 1) := by
  refine ⟨col, fv, uv, ⟨h.box, ⟨Nat.le_refl _, h.box.lt⟩, h.bcol, fun k hk => ?_, fun k hk => ?_, h.mine, fun x hx => hx.2, ⟨Int.le_refl _, by show (0 : Int) ≤ _; decide⟩⟩, fun k hk => h.nils k (by omega), h.bel⟩
  · have hfk := h.file k hk
    by_cases hkj : k = j
    · subst hkj
      simp only [if_true] at hfk
      have e : (newTo M (k + 1)).f k = List.replicate (M k) zSe := by unfold newTo; simp
      rw [e, h.here]; exact hfk
    · simp only [if_neg hkj] at hfk
      have e : (newTo M (j + 1)).f k = (newTo M j).f k := by
        unfold newTo; simp only
        by_cases h1 : k < j
        · rw [if_pos h1, if_pos (by omega)]
        · rw [if_neg h1, if_neg (by omega)]
      rw [e]; exact hfk
  · unfold newTo; simp only; split
    · rw [List.length_replicate]; exact hM k
    · simp
set_option maxRecDepth 100000 in
set_option maxHeartbeats 16000000 in
theorem new_yes (w : World) (N0 N1 : Nat) (h0 : N0 ≤ 4096) (h1 : N1 ≤ 4096) :
    Calls Try.prog 27 #[.int .i64 N0, .int .i64 N1] w fun e w' => e = .returned (.pointer (some ⟨w.heap.size, 0, none⟩)) ∧ Out w w' (fun k => if k = 0 then N0 else N1) 2 := by
  obtain ⟨M, hM⟩ : ∃ M : Nat → Nat, M = fun k => if k = 0 then N0 else N1 := ⟨_, rfl⟩
  rw [← hM]
  have HM := Lib.hid (show ∀ k, M k ≤ 4096 from fun k => by rw [hM]; simp only; split <;> assumption)
  have HIX := Lib.hid (show ∀ j : Nat, j < 2 → ∀ W, (Instr.index 107 (.agg #[.int .i64 N0, .int .i64 N1]) (.int .i64 j)).run Try.prog W = .ok (.int .i64 (M j)) W from fun j hj W => by
    rw [hM]
    rcases two hj with rfl | rfl
    · rfl
    · rfl)
  obtain ⟨i0, hi0, hz0, hz1, hz2⟩ := info_parts u8_info
  obtain ⟨k0, hk0, hy0, hy1, hy2⟩ := info_parts sec_info
  have MK8 := Lib.hid (show ∀ W, (Instr.makeSlice 48 (.int .i64 128) (.int .i64 128)).run Try.prog W = .ok (.slice (some ⟨W.heap.size, 0, none⟩) 128 128) (W.alloc (.cells (madeCells #[Value.int .u8 0] (128 * 1)) 5)) from fun W => by
    have := run_make (w := W) 48 5 i0 _ Try.underlying48 hi0 hz0 .i64 .i64 128 128 (by decide) (by decide) (by rw [hz2]; decide) (by decide)
    rw [hz1] at this; exact this)
  have MKS := Lib.hid (show ∀ (N : Nat), N ≤ 4096 → ∀ W, (Instr.makeSlice 72 (.int .i64 N) (.int .i64 N)).run Try.prog W = .ok (.slice (some ⟨W.heap.size, 0, none⟩) N N) (W.alloc (.cells (madeCells #[Value.slice none 0 0, Value.slice none 0 0] (N * 2)) 78)) from fun N hN W => by
    have := run_make (w := W) 72 78 k0 _ Try.underlying72 hk0 hy0 .i64 .i64 N N (by omega) (by omega) (by rw [hy2]; omega) (by omega)
    rw [hy1, Int.toNat_natCast] at this; exact this)
  have OU0 := Lib.hid (show Out w (w.alloc (.cells #[.slice none 0 0, .slice none 0 0, .bool false, .int .i64 0, .bool false] 75)) M 0 from
    ⟨fun _ => 0, fun _ => .slice none 0 0, fun _ => [], ⟨Box.new _ _ _, ⟨Nat.le_refl _, by simp⟩, rfl, fun k hk => ⟨rfl, Hd.nil _ _ _ _ _, fun i p s h => by simp at h⟩, fun k hk => by simp [newTo], fun g hg => absurd rfl hg, fun g hg => hg.2, ⟨Int.le_refl _, by show (0 : Int) ≤ _; decide⟩⟩, fun _ _ => rfl, new_ (Below.refl _ _) _⟩)
  clear hM h0 h1
  go_enter Try.func27, Try.ntmps27
  go_wp2
  go_loopw [14] (fun x wr => ∃ j : Nat, j ≤ 2 ∧ x = .int .i64 j ∧ Hid (Out w wr M j)) (fun x _ => 2 - (intOf x).toNat)
  case atStart => exact ⟨0, by decide, rfl, OU0⟩
  case round =>
    obtain ⟨j, hj, rfl, HO⟩ := hrel
    by_cases hlt : j < 2
    · have dj : decide ((j : Int) < 2) = true := by simp; omega
      have hix := HIX.out j hlt
      obtain ⟨N, hN⟩ : ∃ N, N = M j := ⟨_, rfl⟩
      rw [← hN] at hix
      have hN4 : N ≤ 4096 := by rw [hN]; exact HM.out j
      have HN := Lib.hid hN
      have HJ := Lib.hid hlt
      have dn0 : decide ((N : Int) < 0) = false := by simp
      have dn1 : decide ((4096 : Int) < (N : Int)) = false := by simp; omega
      have hj2 : (j : Int) < 2 := by omega
      have mks := MKS.out N hN4
      obtain ⟨AC, hAC⟩ : ∃ AC, AC = madeCells #[Value.slice none 0 0, Value.slice none 0 0] (N * 2) := ⟨_, rfl⟩
      rw [← hAC] at mks
      have HAC := Lib.hid hAC
      obtain ⟨w1, hw1⟩ : ∃ w1, w1 = wr := ⟨_, rfl⟩
      obtain ⟨col, fv, uv, hd, hnil, hbel⟩ := HO.out
      rw [← hw1] at hd hbel ⊢
      have HD := Lib.hid hd
      have HNI := Lib.hid hnil
      have HBE := Lib.hid hbel
      have BB1 := Lib.hid (show Box w1 w.heap.size (dC fv false 0 false) 75 from hd.box)
      have HCJ := Lib.hid (show (dC fv false 0 false)[j]? = some (fv j) by rcases two hlt with rfl | rfl <;> rfl)
      clear hN hAC hd hnil hbel HO hw1
      go_wp2
      refine wp_region_end (by kernel_rfl) (by kernel_rfl) 7 (fun W W' => Fr (fun x => x = w.heap.size) W W') (fun W => Fr (fun x => x = w.heap.size) w1 W ∧ ∃ g1, w1.heap.size ≤ g1 ∧ Box W g1 AC 78 ∧ Box W w.heap.size ((dC fv false 0 false).setIfInBounds j (.slice (some ⟨g1, 0, none⟩) N N)) 75) [(fun v _ => v = .pointer (some ⟨w.heap.size, 0, none⟩)), (fun v _ => v = .int .i64 j), (fun v _ => v = .int .i64 N), (fun v W => ∃ g1, v = .slice (some ⟨g1, 0, none⟩) N N ∧ w1.heap.size ≤ g1 ∧ Box W g1 AC 78), (fun v _ => v = .pointer (some ⟨w.heap.size, 0, none⟩)), (fun v _ => v = .pointer (some ⟨w.heap.size, 0, none⟩)), (fun v _ => v = .pointer (some ⟨w.heap.size, j, none⟩)), (fun v _ => v = undef)] (fun W W' hb h => ⟨h.1.below hb, by obtain ⟨g1, h1, h2, h3⟩ := h.2; exact ⟨g1, h1, h2.later hb, h3.later hb⟩⟩) ?_ (fun vals => ?_) (fun vals W hfin hall => ?_) (by decide)
      · intro j v W W' hj hr h
        match j, hj, h with
        | 0, _, h => exact h
        | 1, _, h => exact h
        | 2, _, h => exact h
        | 3, _, h => obtain ⟨g1, e1, e2, e3⟩ := h; exact ⟨g1, e1, e2, by rcases hr with h9 | h9; (exact e3.fr h9 (fun e => by have := BB1.out.lt; omega)); (exact e3.later h9)⟩
        | 4, _, h => exact h
        | 5, _, h => exact h
        | 6, _, h => exact h
        | 7, hj, _ => exact absurd rfl hj
        | _ + 8, _, _ => trivial
      · simp only [ObL, Act.put, List.setIfInBounds_toArray, List.set_cons_succ, List.set_cons_zero]
        refine ⟨?_, ?_, ?_, ?_, ?_, ?_, ?_, ?_, trivial⟩
        · intro L W hL hk hC hw
          clear hw
          clear hL hC hk
          refine step_plain rfl ?_
          go_simp
          first | exact ⟨Re.same (by decide), Fe.val (by decide) rfl rfl⟩ | exact ⟨_, rfl, Re.same (by decide), Fe.val (by decide) rfl rfl⟩
        · intro L W hL hk hC hw
          clear hw
          clear hL hC hk
          refine step_plain rfl ?_
          go_simp
          first | exact ⟨Re.same (by decide), Fe.val (by decide) rfl rfl⟩ | exact ⟨_, rfl, Re.same (by decide), Fe.val (by decide) rfl rfl⟩
        · intro L W hL hk hC hw
          clear hw
          clear hL hC hk
          refine step_plain rfl ?_
          go_simp
          first | exact ⟨Re.same (by decide), Fe.val (by decide) rfl rfl⟩ | exact ⟨_, rfl, Re.same (by decide), Fe.val (by decide) rfl rfl⟩
        · intro L W hL hk hC hw
          have f2 : vals 2 = .int .i64 N := Fe.get (hw ⟨2, .data⟩ (by simp) rfl) (by decide)
          clear hw
          have hb := hC (hL.not_yet hk 7 8 (by decide +kernel))
          have hsz := Lib.hid hb.size
          clear hL hC hk hb
          refine step_plain rfl ?_
          go_simp
          have hz := new_ (Below.refl W.heap.size W) (.cells AC 78)
          first | exact ⟨Re.of (by decide) hz, Fe.val (by decide) rfl ⟨_, rfl, hsz.out, Box.new _ _ _⟩⟩ | exact ⟨_, rfl, Re.of (by decide) hz, Fe.val (by decide) rfl ⟨_, rfl, hsz.out, Box.new _ _ _⟩⟩
        · intro L W hL hk hC hw
          have f0 : vals 0 = .pointer (some ⟨w.heap.size, 0, none⟩) := Fe.get (hw ⟨0, .data⟩ (by simp) rfl) (by decide)
          clear hw
          clear hL hC hk
          refine step_plain rfl ?_
          go_simp
          first | exact ⟨Re.same (by decide), Fe.val (by decide) rfl rfl⟩ | exact ⟨_, rfl, Re.same (by decide), Fe.val (by decide) rfl rfl⟩
        · intro L W hL hk hC hw
          have f4 : vals 4 = .pointer (some ⟨w.heap.size, 0, none⟩) := Fe.get (hw ⟨4, .data⟩ (by simp) rfl) (by decide)
          clear hw
          clear hL hC hk
          refine step_plain rfl ?_
          go_simp
          first | exact ⟨Re.same (by decide), Fe.val (by decide) rfl rfl⟩ | exact ⟨_, rfl, Re.same (by decide), Fe.val (by decide) rfl rfl⟩
        · intro L W hL hk hC hw
          have f5 : vals 5 = .pointer (some ⟨w.heap.size, 0, none⟩) := Fe.get (hw ⟨5, .data⟩ (by simp) rfl) (by decide)
          have f1 : vals 1 = .int .i64 j := Fe.get (hw ⟨1, .data⟩ (by simp) rfl) (by decide)
          clear hw
          clear hL hC hk
          refine step_plain rfl ?_
          go_simp
          first | exact ⟨Re.same (by decide), Fe.val (by decide) rfl rfl⟩ | exact ⟨_, rfl, Re.same (by decide), Fe.val (by decide) rfl rfl⟩
        · intro L W hL hk hC hw
          have f6 : vals 6 = .pointer (some ⟨w.heap.size, j, none⟩) := Fe.get (hw ⟨6, .data⟩ (by simp) rfl) (by decide)
          have f3 : ∃ g1, (vals 3) = .slice (some ⟨g1, 0, none⟩) N N ∧ w1.heap.size ≤ g1 ∧ Box W g1 AC 78 := Fe.get (hw ⟨3, .data⟩ (by simp) rfl) (by decide)
          clear hw
          have hb := hC hk
          obtain ⟨g1, e3, hg1, hbx1⟩ := f3
          have bx := BB1.out.later hb
          have kc : ∃ y, W.cell? ⟨w.heap.size, j, none⟩ = some y := ⟨_, (bx.cell j).trans HCJ.out⟩
          obtain ⟨y, kc⟩ := kc
          have fc9 := bx.frozen j
          have HBX := Lib.hid bx
          have HG1 := Lib.hid hg1
          have HB1 := Lib.hid hbx1
          have HBB := Lib.hid hb
          clear hL hC hk hb bx hg1 hbx1
          refine step_plain rfl ?_
          go_simp
          have hfr := Fr.setCell (Fr.refl (fun x => x = w.heap.size) W) (p := ⟨w.heap.size, j, none⟩) (.inl rfl) (.slice (some ⟨g1, 0, none⟩) N N)
          exact ⟨Re.last hfr, undef, Fe.last ⟨(Fr.of_below HBB.out).trans hfr, g1, HG1.out, HB1.out.fr hfr (fun e => by have := HG1.out; have := BB1.out.lt; omega), by have h9 := HBX.out.set_ j (.slice (some ⟨g1, 0, none⟩) N N); first | exact h9 | simpa only [List.setIfInBounds_toArray] using h9⟩⟩
      · simp only [TL, Act.put, List.setIfInBounds_toArray, List.set_cons_succ, List.set_cons_zero]
        obtain ⟨hfr7, g, hg7, hG7, hB7⟩ := hfin
        have hst := Nw.start HJ.out (HM.out j) HD.out HNI.out HBE.out hfr7 hg7 (by rw [← HN.out, ← HAC.out]; exact hG7) (by rw [← HN.out]; exact hB7)
        have HST := Lib.hid hst
        have kb : W.cell? ⟨w.heap.size, j, none⟩ = some (.slice (some ⟨g, 0, none⟩) N N) := (hst.box.cell j).trans (show (dC (fun k => if k = j then Value.slice (some ⟨g, 0, none⟩) (M j) (M j) else fv k) false 0 false)[j]? = some (.slice (some ⟨g, 0, none⟩) N N) by rw [HN.out]; rcases two HJ.out with h9 | h9 <;> (subst h9; rfl))
        clear hfr7 hg7 hG7 hB7 hst hall mks
        go_wp2
        clear kb
        go_loopw [38] (fun x wr => ∃ i : Nat, i ≤ N ∧ x = .int .i64 i ∧ Hid (∃ col fv uv C, Nw w wr M j g i col fv uv C)) (fun x _ => N - (intOf x).toNat)
        case atStart => exact ⟨0, Nat.zero_le _, rfl, Lib.hid ⟨_, _, _, _, HST.out⟩⟩
        case round =>
          obtain ⟨i, hi, rfl, HI⟩ := hrel
          by_cases hlt2 : i < N
          · obtain ⟨w2, hw2⟩ : ∃ w2, w2 = wr := ⟨_, rfl⟩
            obtain ⟨col2, fv2, uv2, C, hnw⟩ := HI.out
            rw [← hw2] at hnw ⊢
            have di : decide ((i : Int) < (N : Int)) = true := by simp; omega
            have HNW := Lib.hid hnw
            have BB2 := Lib.hid hnw.box
            have BG2 := Lib.hid hnw.row
            have HCJ2 := Lib.hid (show (dC fv2 false 0 false)[j]? = some (.slice (some ⟨g, 0, none⟩) N N) by rw [HN.out, ← HNW.out.here]; rcases two HJ.out with h9 | h9 <;> (subst h9; rfl))
            have HCI := Lib.hid (show C[i * 2]? = some (.slice none 0 0) from hnw.rest _ (by omega) (by rw [← HN.out]; omega))
            have HI2 := Lib.hid hlt2
            have mk8 := MK8.out
            obtain ⟨ZC, hZC⟩ : ∃ ZC, ZC = madeCells #[Value.int .u8 0] (128 * 1) := ⟨_, rfl⟩
            rw [← hZC] at mk8
            have HZC := Lib.hid hZC
            clear hnw hw2 HI hZC
            go_wp2
            refine wp_region_end (by kernel_rfl) (by kernel_rfl) 10 (fun W W' => Fr (fun x => x = g) W W') (fun W => Fr (fun x => x = g) w2 W ∧ ∃ g1, w2.heap.size ≤ g1 ∧ Box W g1 ZC 5 ∧ Box W g (C.setIfInBounds (i * 2) (.slice (some ⟨g1, 0, none⟩) 128 128)) 78) [(fun v _ => v = .pointer (some ⟨w.heap.size, 0, none⟩)), (fun v _ => v = .int .i64 j), (fun v _ => v = .pointer (some ⟨w.heap.size, 0, none⟩)), (fun v _ => v = .pointer (some ⟨w.heap.size, 0, none⟩)), (fun v _ => v = .pointer (some ⟨w.heap.size, j, none⟩)), (fun v _ => v = .slice (some ⟨g, 0, none⟩) N N), (fun v _ => v = .int .i64 i), (fun v W => ∃ g1, v = .slice (some ⟨g1, 0, none⟩) 128 128 ∧ w2.heap.size ≤ g1 ∧ Box W g1 ZC 5), (fun v _ => v = .pointer (some ⟨g, i * 2, none⟩)), (fun v _ => v = .pointer (some ⟨g, i * 2, none⟩)), (fun v _ => v = undef)] (fun W W' hb h => ⟨h.1.below hb, by obtain ⟨g1, h1, h2, h3⟩ := h.2; exact ⟨g1, h1, h2.later hb, h3.later hb⟩⟩) ?_ (fun vals => ?_) (fun vals W hfin hall => ?_) (by decide)
            · intro j v W W' hj hr h
              match j, hj, h with
              | 0, _, h => exact h
              | 1, _, h => exact h
              | 2, _, h => exact h
              | 3, _, h => exact h
              | 4, _, h => exact h
              | 5, _, h => exact h
              | 6, _, h => exact h
              | 7, _, h => obtain ⟨g1, e1, e2, e3⟩ := h; exact ⟨g1, e1, e2, by rcases hr with h9 | h9; (exact e3.fr h9 (fun e => by have := BG2.out.lt; omega)); (exact e3.later h9)⟩
              | 8, _, h => exact h
              | 9, _, h => exact h
              | 10, hj, _ => exact absurd rfl hj
              | _ + 11, _, _ => trivial
            · simp only [ObL, Act.put, List.setIfInBounds_toArray, List.set_cons_succ, List.set_cons_zero]
              refine ⟨?_, ?_, ?_, ?_, ?_, ?_, ?_, ?_, ?_, ?_, ?_, trivial⟩
              · intro L W hL hk hC hw
                clear hw
                clear hL hC hk
                refine step_plain rfl ?_
                go_simp
                first | exact ⟨Re.same (by decide), Fe.val (by decide) rfl rfl⟩ | exact ⟨_, rfl, Re.same (by decide), Fe.val (by decide) rfl rfl⟩
              · intro L W hL hk hC hw
                clear hw
                clear hL hC hk
                refine step_plain rfl ?_
                go_simp
                first | exact ⟨Re.same (by decide), Fe.val (by decide) rfl rfl⟩ | exact ⟨_, rfl, Re.same (by decide), Fe.val (by decide) rfl rfl⟩
              · intro L W hL hk hC hw
                have f0 : vals 0 = .pointer (some ⟨w.heap.size, 0, none⟩) := Fe.get (hw ⟨0, .data⟩ (by simp) rfl) (by decide)
                clear hw
                clear hL hC hk
                refine step_plain rfl ?_
                go_simp
                first | exact ⟨Re.same (by decide), Fe.val (by decide) rfl rfl⟩ | exact ⟨_, rfl, Re.same (by decide), Fe.val (by decide) rfl rfl⟩
              · intro L W hL hk hC hw
                have f2 : vals 2 = .pointer (some ⟨w.heap.size, 0, none⟩) := Fe.get (hw ⟨2, .data⟩ (by simp) rfl) (by decide)
                clear hw
                clear hL hC hk
                refine step_plain rfl ?_
                go_simp
                first | exact ⟨Re.same (by decide), Fe.val (by decide) rfl rfl⟩ | exact ⟨_, rfl, Re.same (by decide), Fe.val (by decide) rfl rfl⟩
              · intro L W hL hk hC hw
                have f3 : vals 3 = .pointer (some ⟨w.heap.size, 0, none⟩) := Fe.get (hw ⟨3, .data⟩ (by simp) rfl) (by decide)
                have f1 : vals 1 = .int .i64 j := Fe.get (hw ⟨1, .data⟩ (by simp) rfl) (by decide)
                clear hw
                clear hL hC hk
                refine step_plain rfl ?_
                go_simp
                first | exact ⟨Re.same (by decide), Fe.val (by decide) rfl rfl⟩ | exact ⟨_, rfl, Re.same (by decide), Fe.val (by decide) rfl rfl⟩
              · intro L W hL hk hC hw
                have f4 : vals 4 = .pointer (some ⟨w.heap.size, j, none⟩) := Fe.get (hw ⟨4, .data⟩ (by simp) rfl) (by decide)
                clear hw
                have hb := hC (hL.not_yet hk 10 8 (by decide +kernel))
                have bx := BB2.out.later hb
                have kc : W.cell? ⟨w.heap.size, j, none⟩ = some (.slice (some ⟨g, 0, none⟩) N N) := (bx.cell j).trans HCJ2.out
                clear hL hC hk hb bx
                refine step_plain rfl ?_
                go_simp
                first | exact ⟨Re.same (by decide), Fe.val (by decide) rfl rfl⟩ | exact ⟨_, rfl, Re.same (by decide), Fe.val (by decide) rfl rfl⟩
              · intro L W hL hk hC hw
                clear hw
                clear hL hC hk
                refine step_plain rfl ?_
                go_simp
                first | exact ⟨Re.same (by decide), Fe.val (by decide) rfl rfl⟩ | exact ⟨_, rfl, Re.same (by decide), Fe.val (by decide) rfl rfl⟩
              · intro L W hL hk hC hw
                clear hw
                have hb := hC (hL.not_yet hk 10 8 (by decide +kernel))
                have hsz := Lib.hid hb.size
                clear hL hC hk hb
                refine step_plain rfl ?_
                go_simp
                have hz := new_ (Below.refl W.heap.size W) (.cells ZC 5)
                first | exact ⟨Re.of (by decide) hz, Fe.val (by decide) rfl ⟨_, rfl, hsz.out, Box.new _ _ _⟩⟩ | exact ⟨_, rfl, Re.of (by decide) hz, Fe.val (by decide) rfl ⟨_, rfl, hsz.out, Box.new _ _ _⟩⟩
              · intro L W hL hk hC hw
                have f5 : vals 5 = .slice (some ⟨g, 0, none⟩) N N := Fe.get (hw ⟨5, .data⟩ (by simp) rfl) (by decide)
                have f6 : vals 6 = .int .i64 i := Fe.get (hw ⟨6, .data⟩ (by simp) rfl) (by decide)
                clear hw
                clear hL hC hk
                refine step_plain rfl ?_
                go_simp
                first | exact ⟨Re.same (by decide), Fe.val (by decide) rfl rfl⟩ | exact ⟨_, rfl, Re.same (by decide), Fe.val (by decide) rfl rfl⟩
              · intro L W hL hk hC hw
                have f8 : vals 8 = .pointer (some ⟨g, i * 2, none⟩) := Fe.get (hw ⟨8, .data⟩ (by simp) rfl) (by decide)
                clear hw
                clear hL hC hk
                refine step_plain rfl ?_
                go_simp
                first | exact ⟨Re.same (by decide), Fe.val (by decide) rfl rfl⟩ | exact ⟨_, rfl, Re.same (by decide), Fe.val (by decide) rfl rfl⟩
              · intro L W hL hk hC hw
                have f9 : vals 9 = .pointer (some ⟨g, i * 2, none⟩) := Fe.get (hw ⟨9, .data⟩ (by simp) rfl) (by decide)
                have f7 : ∃ g1, (vals 7) = .slice (some ⟨g1, 0, none⟩) 128 128 ∧ w2.heap.size ≤ g1 ∧ Box W g1 ZC 5 := Fe.get (hw ⟨7, .data⟩ (by simp) rfl) (by decide)
                clear hw
                have hb := hC hk
                obtain ⟨g1, e7, hg1, hbx1⟩ := f7
                have bx := BG2.out.later hb
                have kc : W.cell? ⟨g, i * 2, none⟩ = some (.slice none 0 0) := (bx.cell (i * 2)).trans HCI.out
                have fc9 := bx.frozen (i * 2)
                have HBX := Lib.hid bx
                have HG1 := Lib.hid hg1
                have HB1 := Lib.hid hbx1
                have HBB := Lib.hid hb
                clear hL hC hk hb bx hg1 hbx1
                refine step_plain rfl ?_
                go_simp
                have hfr := Fr.setCell (Fr.refl (fun x => x = g) W) (p := ⟨g, i * 2, none⟩) (.inl rfl) (.slice (some ⟨g1, 0, none⟩) 128 128)
                exact ⟨Re.last hfr, undef, Fe.last ⟨(Fr.of_below HBB.out).trans hfr, g1, HG1.out, HB1.out.fr hfr (fun e => by have := HG1.out; have := BG2.out.lt; omega), HBX.out.set_ (i * 2) _⟩⟩
            · simp only [TL, Act.put, List.setIfInBounds_toArray, List.set_cons_succ, List.set_cons_zero]
              obtain ⟨hfr11, r, hr11, hR11, hG11⟩ := hfin
              have hst := Nw.step HJ.out HM.out HNW.out (by rw [← HN.out]; exact HI2.out) hfr11 hr11 (by rw [← HZC.out]; exact hR11) hG11
              have HST2 := Lib.hid hst
              clear hst hfr11 hr11 hR11 hG11 hall mk8
              go_wp2
              go_roundw
              case rel => exact ⟨i + 1, by omega, by go_num, Lib.hid ⟨_, _, _, _, HST2.out⟩⟩
              case measure => simp [intOf]; omega
          · have hiN : i = N := by omega
            have di : decide ((i : Int) < (N : Int)) = false := by simp; omega
            obtain ⟨col2, fv2, uv2, C, hnw⟩ := HI.out
            rw [hiN, HN.out] at hnw
            have HDN := Lib.hid (Nw.done HJ.out HM.out hnw)
            clear hnw hiN
            go_wp2
            go_roundw
            case rel => exact ⟨j + 1, by omega, by go_num, HDN⟩
            case measure => simp [intOf]; omega
    · have hj2 : j = 2 := by omega
      subst hj2
      go_wp2
      go_ret
      exact ⟨rfl, HO.out⟩
end Go.Proofs.Yteggcehjpfmikaa.Disk
namespace Go.Proofs.Yteggcehjpfmikaa.Disk
open Go.ChangeShapes Go.WideShapes Go.ChangeAt Go.RowKit Go.IntWalk Go.Proofs.Mem Law
set_option linter.unusedVariables false
set_option maxRecDepth 100000
set_option linter.unusedSimpArgs false
theorem rowK : (111 : TypeId) < Try.prog.types.size := of_decide_eq_true (by kernel_rfl)
theorem cellsK : Try.prog.cellsOf 111 = 2 := by kernel_rfl
theorem wideK : (match Try.prog.underlying 111 with | some (.array _ _) | some (.struct _) => true | _ => false) = true := by rw [Try.underlying111]
theorem keyedK : Maps.Keyed Try.prog 111 := Maps.Keyed.of_law (deep_law_laid laidOut (m := 2) (by omega) rowK (by kernel_rfl) wideK)
theorem keyTypeK : Try.prog.keyType 111 = true := by kernel_rfl
def pk (f s : Int) : Value := .agg #[.int .u8 f, .int .i64 s]
theorem keyOf_pk (f s : Int) (hf : 0 ≤ f ∧ f ≤ 255) (hs : -9223372036854775808 ≤ s ∧ s ≤ 9223372036854775807) : ∃ kl, keyOf Try.prog 111 (pk f s) = some kl := by
  have w1 : (Lit.int .u8 f).wf = true := by
    have a1 : IntKind.u8.min = 0 := by decide
    have a2 : IntKind.u8.max = 255 := by decide
    simp [Lit.wf, a1, a2]; exact hf
  have w2 : (Lit.int .i64 s).wf = true := by
    have a1 : IntKind.i64.min = -9223372036854775808 := by decide
    have a2 : IntKind.i64.max = 9223372036854775807 := by decide
    simp [Lit.wf, a1, a2]; exact hs
  have hformed : (pk f s).formed Try.prog 111 = true := by simp [pk, Value.formed, Try.underlying111, cellsK]
  unfold keyOf
  rw [Try.underlying111]
  simp only [keyTypeK, hformed, Bool.and_self, if_true]
  obtain ⟨m, hm⟩ : ∃ m, Try.prog.types.size = m + 1 := ⟨Try.prog.types.size - 1, by have h : 0 < Try.prog.types.size := Nat.lt_of_le_of_lt (Nat.zero_le _) rowK; omega⟩
  rw [hm]
  have hl : Try.prog.keyLits (m + 1 + 1) 111 (pk f s).cells.toList = some [.int .u8 f, .int .i64 s] := by
    have c8 : Try.prog.cellsOf 5 = 1 := by kernel_rfl
    have c64 : Try.prog.cellsOf 3 = 1 := by kernel_rfl
    simp [Program.keyLits, Try.underlying111, Try.underlying5, Try.underlying3, pk, cellsK, c8, c64, w1, w2, Value.cells]
  rw [hl]
  exact ⟨_, rfl⟩
end Go.Proofs.Yteggcehjpfmikaa.Disk
namespace Go.Proofs.Yteggcehjpfmikaa.Disk
open Go.ChangeShapes Go.WideShapes Go.ChangeAt Go.RowKit Go.IntWalk Go.Proofs.Mem Law
set_option linter.unusedVariables false
set_option maxRecDepth 100000
set_option linter.unusedSimpArgs false
structure Ft where
  file : Int
  sec : Int
  keep : Int
  torn : Int
def Ft.Ok (x : Ft) : Prop := (0 ≤ x.file ∧ x.file ≤ 255) ∧ (-9223372036854775808 ≤ x.sec ∧ x.sec ≤ 9223372036854775807)
def cFt (x : Ft) : List Value := [.int .u8 x.file, .int .i64 x.sec, .int .i64 x.keep, .int .i64 x.torn]
@[reducible] def Ft.v (x : Ft) : Value := .agg #[.int .u8 x.file, .int .i64 x.sec, .int .i64 x.keep, .int .i64 x.torn]
def Ft.d (x : Ft) : DataW Unit := .agg [.lit (.int .u8 x.file), .lit (.int .i64 x.sec), .lit (.int .i64 x.keep), .lit (.int .i64 x.torn)]
def noFt : Ft := ⟨0, 0, 0, 0⟩
def RF (v : Value) : Option (DataW Unit × List MemPlace) :=
  match v with
  | .agg cs => match cs.toList with
    | [.int .u8 a, .int .i64 b, .int .i64 c, .int .i64 d] => some (Ft.d ⟨a, b, c, d⟩, [])
    | _ => none
  | _ => none
theorem RF_mk (x : Ft) : RF x.v = some (x.d, []) := rfl
theorem RF_inv {v : Value} {x : Ft} {ps : List MemPlace} (h : RF v = some (x.d, ps)) : v = x.v := by
  unfold RF at h
  split at h
  · rename_i cs
    split at h
    · rename_i a b c d e
      injection h with h
      injection h with h1 _
      unfold Ft.d at h1
      injection h1 with h1
      simp only [List.cons.injEq, DataW.lit.injEq, Lit.int.injEq, true_and, and_true] at h1
      obtain ⟨h1, h2, h3, h4⟩ := h1
      have hc : cs = #[.int .u8 a, .int .i64 b, .int .i64 c, .int .i64 d] := by
        apply Array.ext'
        exact e
      rw [hc, h1, h2, h3, h4]
    · cases h
  · cases h
def hits (f s : Int) (x : Ft) : Bool := decide (x.file = f) && decide (x.sec = s)
def fateAt (l : List Ft) (f s : Int) : Ft := (l.find? (hits f s)).getD noFt
def MapAt (w : World) (m : Nat) (l : List Ft) : Prop :=
  ∃ (n : Nat) (D : DataW Unit), w.ownsMap Try.prog 111 RF m n D ∧ n ≤ l.length ∧ Maps.IsMap D ∧
    ∀ f s kl, keyOf Try.prog 111 (pk f s) = some kl → D.atKey kl noFt.d = (fateAt l f s).d ∧ Maps.has D kl = (l.find? (hits f s)).isSome
theorem MapAt.kept {w w' : World} {m : Nat} {l : List Ft} {row : Option Nat} (h : MapAt w m l) (hg : w.grownBy w' row) (hne : some m ≠ row) : MapAt w' m l := by
  obtain ⟨n, D, h1, h2⟩ := h
  exact ⟨n, D, h1.kept hg hne, h2⟩
theorem MapAt.later {w w' : World} {m : Nat} {l : List Ft} (h : MapAt w m l) (hb : Below w.heap.size w w') : MapAt w' m l :=
  h.kept (row := none) ⟨hb.os, hb.tape, hb.output, hb.size, fun k hk _ => hb.block k hk⟩ (by simp)
theorem MapAt.lt {w : World} {m : Nat} {l : List Ft} (h : MapAt w m l) : m < w.heap.size := by
  obtain ⟨n, D, h1, _⟩ := h
  exact h1.lt
theorem MapAt.made (w : World) : MapAt (w.alloc (.map #[] 0)) w.heap.size [] :=
  ⟨0, .map [], World.ownsMap_made _ _ _ _, Nat.le_refl _, ⟨[], rfl⟩, fun f s kl _ => ⟨rfl, rfl⟩⟩
theorem zeroFt (w : World) : (zeroValue 81).run Try.prog w = .ok noFt.v w := by kernel_rfl
theorem MapAt.look {w : World} {m : Nat} {l : List Ft} (h : MapAt w m l) (f s : Int) (hf : 0 ≤ f ∧ f ≤ 255) (hs : -9223372036854775808 ≤ s ∧ s ≤ 9223372036854775807) :
    (Instr.lookup 109 (.map (some m)) (pk f s) false).run Try.prog w = .ok (fateAt l f s).v w ∧
    (Instr.lookup 109 (.map (some m)) (pk f s) true).run Try.prog w = .ok (.tuple #[(fateAt l f s).v, .bool (l.find? (hits f s)).isSome]) w := by
  obtain ⟨n, D, h1, h2, h3, h4⟩ := h
  obtain ⟨kl, hk⟩ := keyOf_pk f s hf hs
  obtain ⟨e1, e2⟩ := h4 f s kl hk
  obtain ⟨v, ps, hr, hv⟩ := h1.lookup keyedK Try.underlying109 (zeroFt w) (RF_mk noFt) hk
  obtain ⟨v', ps', hr', hv'⟩ := h1.look_ok keyedK Try.underlying109 (zeroFt w) (RF_mk noFt) hk
  rw [e1] at hv hv'
  rw [RF_inv hv] at hr
  rw [RF_inv hv', e2] at hr'
  exact ⟨hr, hr'⟩
theorem pk_inj {f s f' s' : Int} (h : pk f s = pk f' s') : f = f' ∧ s = s' := by
  unfold pk at h
  injection h with h
  simp at h
  exact h
theorem find_snoc (l : List Ft) (x : Ft) (f s : Int) : (l ++ [x]).find? (hits f s) = (l.find? (hits f s)).or (if hits f s x then some x else none) := by
  rw [List.find?_append]
  congr 1
  rw [List.find?_cons]
  cases hits f s x <;> rfl
theorem MapAt.same {w : World} {m : Nat} {l : List Ft} {x : Ft} (h : MapAt w m l) (hs : (l.find? (hits x.file x.sec)).isSome = true) : MapAt w m (l ++ [x]) := by
  obtain ⟨n, D, h1, h2, h3, h4⟩ := h
  refine ⟨n, D, h1, by rw [List.length_append]; omega, h3, fun f s kl hk => ?_⟩
  have e : (l ++ [x]).find? (hits f s) = l.find? (hits f s) := by
    rw [find_snoc]
    by_cases hh : hits f s x = true
    · have : x.file = f ∧ x.sec = s := by simpa [hits] using hh
      obtain ⟨rfl, rfl⟩ := this
      cases e9 : l.find? (hits x.file x.sec) with
      | none => rw [e9] at hs; cases hs
      | some y => rfl
    · rw [if_neg hh]; cases l.find? (hits f s) <;> rfl
  unfold fateAt
  rw [e]
  exact h4 f s kl hk
theorem MapAt.put {w : World} {m : Nat} {l : List Ft} {x : Ft} (h : MapAt w m l) (hx : x.Ok) (hl : l.length ≤ 100000) (hs : (l.find? (hits x.file x.sec)).isSome = false) :
    ∃ w', (Instr.mapUpdate 109 (.map (some m)) (pk x.file x.sec) x.v).run Try.prog w = .ok () w' ∧ MapAt w' m (l ++ [x]) ∧ w.grownBy w' (some m) := by
  obtain ⟨n, D, h1, h2, h3, h4⟩ := h
  obtain ⟨kl, hk⟩ := keyOf_pk x.file x.sec hx.1 hx.2
  obtain ⟨w', hr, ho, hg⟩ := h1.update keyedK Try.underlying109 (by unfold maxLen; omega) hk (RF_mk x)
  refine ⟨w', hr, ⟨n + 1, D.put kl x.d, ho, by rw [List.length_append]; simp; omega, ?_, fun f s kl' hk' => ?_⟩, hg⟩
  · obtain ⟨es, rfl⟩ := h3; exact ⟨_, rfl⟩
  · by_cases hh : hits f s x = true
    · have : x.file = f ∧ x.sec = s := by simpa [hits] using hh
      obtain ⟨rfl, rfl⟩ := this
      rw [hk] at hk'
      injection hk' with hk'
      subst hk'
      have e9 : l.find? (hits x.file x.sec) = none := by cases e9 : l.find? (hits x.file x.sec) with
        | none => rfl
        | some y => rw [e9] at hs; cases hs
      have e : (l ++ [x]).find? (hits x.file x.sec) = some x := by rw [find_snoc, e9, if_pos hh]; rfl
      unfold fateAt
      rw [e]
      exact ⟨Maps.atKey_put_same h3 (keyedK.key hk) _ _, Maps.has_put_same h3 (keyedK.key hk) _⟩
    · have hne : kl' ≠ kl := fun e => by
        subst e
        obtain ⟨e1, e2⟩ := pk_inj (keyedK.inj hk' hk)
        exact hh (by simp [hits, e1, e2])
      have e : (l ++ [x]).find? (hits f s) = l.find? (hits f s) := by rw [find_snoc, if_neg hh]; cases l.find? (hits f s) <;> rfl
      unfold fateAt
      rw [e, Maps.atKey_put_other hne, Maps.has_put_other hne]
      exact h4 f s kl' hk'
theorem fate_any (w : World) (q m : Nat) (l : List Ft) (hq : Box w q #[.map (some m)] 109) (hm : MapAt w m l) (f s : Int) (hf : 0 ≤ f ∧ f ≤ 255) (hs : -9223372036854775808 ≤ s ∧ s ≤ 9223372036854775807) :
    Calls Try.prog 51 #[.int .u8 f, .int .i64 s, .pointer (some ⟨q, 0, none⟩)] w fun e w' => e = .returned (fateAt l f s).v ∧ Below w.heap.size w w' := by
  obtain ⟨W, hW⟩ : ∃ W, W = w.alloc (.cells #[.int .u8 0, .int .i64 0, .int .i64 0, .int .i64 0] 81) := ⟨_, rfl⟩
  have hbw := new_ (Below.refl w.heap.size w) (.cells #[.int .u8 0, .int .i64 0, .int .i64 0, .int .i64 0] 81)
  rw [← hW] at hbw
  have hl := ((hm.later hbw).look f s hf hs).1
  have kq : W.cell? ⟨q, 0, none⟩ = some (.map (some m)) := (hq.later hbw).cell 0
  have HB := Lib.hid hbw
  generalize fateAt l f s = x at hl ⊢
  unfold pk at hl
  rw [hW] at hl kq
  clear hbw hq hm
  go_enter Try.func51, Try.ntmps51
  go_wp2
  refine bodyPost_ret (v := x.v) (by simp [results, Try.results51, go_sem]; try rfl) rfl ?_
  exact ⟨rfl, new_ (Below.refl _ _) _⟩
end Go.Proofs.Yteggcehjpfmikaa.Disk
namespace Go.Proofs.Yteggcehjpfmikaa.Disk
open Go.ChangeShapes Go.WideShapes Go.ChangeAt Go.RowKit Go.IntWalk Go.Proofs.Mem Law
set_option linter.unusedVariables false
set_option maxRecDepth 100000
set_option linter.unusedSimpArgs false
set_option maxRecDepth 100000 in
set_option maxHeartbeats 8000000 in
theorem fates_any (w : World) (v : Value) (l : List Ft) (hv : SS cFt 4 w w.heap.size v l) (ho : ∀ x ∈ l, x.Ok) (hl : l.length ≤ 100000) :
    Calls Try.prog 31 #[v] w fun e w' => ∃ q m, e = .returned (.func (.func 51) #[] #[.pointer (some ⟨q, 0, none⟩)]) ∧ Box w' q #[.map (some m)] 109 ∧ MapAt w' m l ∧ (w.heap.size ≤ q ∧ w.heap.size ≤ m) ∧ Below w.heap.size w w' := by
  have hmf : ∀ (fn : Fn) (first cap : Array Value) (w : World), (Instr.makeFunc fn first cap).run Try.prog w = .ok (.func fn first cap) w := fun _ _ _ _ => rfl
  have hmm : ∀ W : World, (Instr.makeMap 109 none).run Try.prog W = .ok (.map (some W.heap.size)) (W.alloc (.map #[] 0)) := fun W => run_makeMap _ W
  obtain ⟨A, c, rfl, hlc, hcm⟩ := hv.form
  unfold maxLen at hcm
  obtain ⟨L, hL⟩ : ∃ L, L = l.length := ⟨_, rfl⟩
  rw [← hL] at hv hlc hl ⊢
  have HL := Lib.hid hL
  have HV := Lib.hid hv
  have HO := Lib.hid ho
  have M0 := Lib.hid (MapAt.made w)
  have W0 := Lib.hid (new_ (new_ (Below.refl w.heap.size w) (.map #[] 0)) (.cells #[.map (some w.heap.size)] 109))
  have B0 := Lib.hid (Box.new (w.alloc (.map #[] 0)) #[.map (some w.heap.size)] 109)
  clear hv ho hL
  go_enter Try.func31, Try.ntmps31
  go_wp2
  go_loopw [12] (fun x wr => ∃ j : Nat, j ≤ L ∧ x = .int .i64 j ∧ Hid (Box wr (w.heap.size + 1) #[.map (some w.heap.size)] 109 ∧ MapAt wr w.heap.size (l.take j)) ∧ Below w.heap.size w wr) (fun x _ => L - (intOf x).toNat)
  case atStart =>
    refine ⟨0, Nat.zero_le _, rfl, Lib.hid ⟨?_, ?_⟩, W0.out⟩
    · have := B0.out; rw [World.size_alloc] at this; exact this
    · rw [List.take_zero]; exact M0.out.later (new_ (Below.refl _ _) _)
  case round =>
    obtain ⟨j, hj, rfl, HI, hbel⟩ := hrel
    have HB := Lib.hid hbel
    by_cases hlt : j < L
    · have hjl : j < l.length := by rw [← HL.out]; exact hlt
      obtain ⟨x, hx⟩ : ∃ x, x = l[j] := ⟨_, rfl⟩
      have hok : x.Ok := by rw [hx]; exact HO.out _ (List.getElem_mem _)
      have hxe : l[j]? = some x := by rw [hx]; exact List.getElem?_eq_getElem hjl
      obtain ⟨b, off, eA, hb, hcell⟩ := (HV.out.below hbel).at_ hxe
      subst eA
      have k0 : wr.cell? ⟨b, off + j * 4, none⟩ = some (.int .u8 x.file) := hcell 0 _ rfl
      have k1 : wr.cell? ⟨b, off + j * 4 + 1, none⟩ = some (.int .i64 x.sec) := hcell 1 _ rfl
      have k2 : wr.cell? ⟨b, off + j * 4 + 2, none⟩ = some (.int .i64 x.keep) := hcell 2 _ rfl
      have k3 : wr.cell? ⟨b, off + j * 4 + 3, none⟩ = some (.int .i64 x.torn) := hcell 3 _ rfl
      have dj : decide ((j : Int) < (L : Int)) = true := by simp; omega
      obtain ⟨O5, hO5⟩ : ∃ O : Obj, O = .cells #[.int .u8 x.file, .int .i64 x.sec, .int .i64 x.keep, .int .i64 x.torn] 81 := ⟨_, rfl⟩
      obtain ⟨O6, hO6⟩ : ∃ O : Obj, O = .cells #[.int .u8 x.file, .int .i64 x.sec] 111 := ⟨_, rfl⟩
      have hb2 : Below wr.heap.size wr ((wr.alloc O5).alloc O6) := new_ (new_ (Below.refl _ _) _) _
      have hlk := ((HI.out.2.later hb2).look x.file x.sec hok.1 hok.2).2
      obtain ⟨y, hy⟩ : ∃ y, y = fateAt (l.take j) x.file x.sec := ⟨_, rfl⟩
      obtain ⟨qs, hqs⟩ : ∃ q, q = ((l.take j).find? (hits x.file x.sec)).isSome := ⟨_, rfl⟩
      rw [← hy, ← hqs] at hlk
      unfold pk at hlk
      have kq : ((wr.alloc O5).alloc O6).cell? ⟨w.heap.size + 1, 0, none⟩ = some (.map (some w.heap.size)) := (HI.out.1.later hb2).cell 0
      have e1 : l.take j ++ [x] = l.take (j + 1) := by rw [List.take_succ_eq_append_getElem hjl, hx]
      have HX := Lib.hid hx
      have E1 := Lib.hid e1
      have HQ := Lib.hid hqs
      have HOK := Lib.hid hok
      obtain ⟨O7, hO7⟩ : ∃ O : Obj, O = .cells #[.int .u8 y.file, .int .i64 y.sec, .int .i64 y.keep, .int .i64 y.torn] 81 := ⟨_, rfl⟩
      have hb3 : Below wr.heap.size wr (((wr.alloc O5).alloc O6).alloc O7) := new_ hb2 _
      have M3 := HI.out.2.later hb3
      have X3 := HI.out.1.later hb3
      have kq3 := X3.cell 0
      have k53 : ∀ i, (((wr.alloc O5).alloc O6).alloc O7).cell? ⟨wr.heap.size, i, none⟩ = (#[.int .u8 x.file, .int .i64 x.sec, .int .i64 x.keep, .int .i64 x.torn] : Array Value)[i]? := fun i => by
        have h9 := Box.new wr #[.int .u8 x.file, .int .i64 x.sec, .int .i64 x.keep, .int .i64 x.torn] 81
        rw [← hO5] at h9
        exact ((h9.alloc O6).alloc O7).cell i
      have k63 : ∀ i, (((wr.alloc O5).alloc O6).alloc O7).cell? ⟨wr.heap.size + 1, i, none⟩ = (#[.int .u8 x.file, .int .i64 x.sec] : Array Value)[i]? := fun i => by
        have h9 := Box.new (wr.alloc O5) #[.int .u8 x.file, .int .i64 x.sec] 111
        rw [← hO6, World.size_alloc] at h9
        exact (h9.alloc O7).cell i
      have HB3 := Lib.hid (HB.out.trans (hb3.mono HB.out.size))
      cases qs
      case true =>
        have hfin := M3.same (x := x) (by rw [← HQ.out])
        rw [E1.out] at hfin
        have HF := Lib.hid hfin
        have HX3 := Lib.hid X3
        rw [hO5, hO6] at hlk kq
        rw [hO5, hO6, hO7] at HF HX3 HB3
        clear hcell hb2 hb3 M3 X3 kq3 k53 k63 hfin hx hqs hy e1 hok hxe hbel HI hO5 hO6 hO7
        go_wp2
        go_roundw
        case rel => exact ⟨j + 1, by omega, by go_num, Lib.hid ⟨HX3.out, HF.out⟩, HB3.out⟩
        case measure => simp [intOf]; omega
      case false =>
        obtain ⟨w4, hrun, hm4, hg4⟩ := M3.put HOK.out (by rw [List.length_take]; omega) (by rw [← HQ.out])
        rw [E1.out] at hm4
        have hx4 := X3.grown hg4 (by intro e; injection e with e; omega)
        have hb4 := HB3.out.trans ((Below.refl w.heap.size (((wr.alloc O5).alloc O6).alloc O7)).grown hg4 HB3.out.size (fun b hb => by injection hb with hb; omega))
        have HM4 := Lib.hid hm4
        have HX4 := Lib.hid hx4
        have HB4 := Lib.hid hb4
        unfold pk at hrun
        rw [hO5, hO6] at hlk kq
        rw [hO5, hO6, hO7] at hrun kq3 k53 k63
        clear hcell hb2 hb3 M3 X3 hm4 hx4 hb4 hg4 hx hqs hy e1 hok hxe hbel HI hO5 hO6 hO7 HB3
        go_wp2
        go_roundw
        case rel => exact ⟨j + 1, by omega, by go_num, Lib.hid ⟨HX4.out, HM4.out⟩, HB4.out⟩
        case measure => simp [intOf]; omega
    · have hjL : j = L := by omega
      have dj : decide ((j : Int) < (L : Int)) = false := by simp; omega
      have hfin : MapAt wr w.heap.size l := by have := HI.out.2; rw [hjL, HL.out, List.take_length] at this; exact this
      have HF := Lib.hid hfin
      clear hbel hjL hfin
      go_wp2
      go_ret
      exact ⟨_, _, rfl, HI.out.1, HF.out, ⟨Nat.le_succ _, Nat.le_refl _⟩, HB.out⟩
end Go.Proofs.Yteggcehjpfmikaa.Disk
namespace Go.Proofs.Yteggcehjpfmikaa.CrcA
open Go.ChangeShapes Go.WideShapes Go.ChangeAt Go.RowKit Go.IntWalk Go.Proofs.Mem Go.Proofs.CrcMath
set_option linter.unusedVariables false
theorem ret_int {k : IntKind} {a b : Int} (h : a = b) : Ending.returned (.int k a) = .returned (.int k b) := by rw [h]
set_option maxHeartbeats 800000 in
theorem next_any (s b : BitVec 32) (hb : tn b ≤ 255) (w : World) :
    Calls Try.prog 84 #[.int .u32 (tn s), .int .u8 (tn b)] w fun e w' => e = .returned (.int .u32 (tn (nextB s b))) ∧ w = w' := by
  have r1 := xor_ones s
  have r2 := xor_tn (~~~s) b
  have hb0 := (tn_bd b).1
  go_enter Try.func84, Try.ntmps84
  go_wp2
  clear r1 r2
  go_loop [5, 12] (fun m i => ∃ (q : BitVec 32) (j : Nat), j ≤ 8 ∧ m = .int .u32 (tn q) ∧ i = .int .i64 j ∧ itB (8 - j) q = itB 8 (~~~s ^^^ b)) (fun _ i => 8 - (intOf i).toNat)
  case atStart => exact ⟨_, 0, by omega, rfl, rfl, rfl⟩
  case round =>
    obtain ⟨q, j, hj, rfl, rfl, hq⟩ := hrel
    have HQ := Lib.hid hq
    clear hq
    by_cases hl : j < 8
    · have r3 := and_tn q
      have hs : itB (8 - (j + 1)) (stepB q) = itB 8 (~~~s ^^^ b) := by
        rw [← HQ.out, show 8 - j = (8 - (j + 1)) + 1 by omega]; rfl
      have HS := Lib.hid hs
      clear hs
      cases h0 : q.getLsbD 0 with
      | true =>
        rw [h0, if_pos rfl] at r3
        have hst : stepB q = q >>> 1 ^^^ poly := by unfold stepB; rw [h0, if_pos rfl]
        have HT := Lib.hid hst
        clear hst h0
        go_wp2
        go_round
        case rel => exact ⟨q >>> 1 ^^^ poly, j + 1, by omega, by rw [half_tn q, xor_poly], by go_num, by rw [← HT.out]; exact HS.out⟩
        case measure => simp [intOf]; omega
      | false =>
        rw [h0, if_neg (by simp)] at r3
        have hst : stepB q = q >>> 1 := by unfold stepB; rw [h0, if_neg (by simp)]
        have HT := Lib.hid hst
        clear hst h0
        go_wp2
        go_round
        case rel => exact ⟨q >>> 1, j + 1, by omega, by rw [half_tn q], by go_num, by rw [← HT.out]; exact HS.out⟩
        case measure => simp [intOf]; omega
    · have : j = 8 := by omega
      subst this
      have r6 := xor_ones q
      go_wp2
      go_ret
      have := HQ.out
      exact ⟨ret_int (by rw [show 8 - 8 = 0 from rfl] at this; unfold nextB; rw [← this]; rfl), rfl⟩
theorem byte_tn (u : Int) (h : 0 ≤ u ∧ u ≤ 255) : u = tn (BitVec.ofInt 32 u) := tn_of u (by omega)
theorem next_byte_any (s : BitVec 32) (u : Int) (h : 0 ≤ u ∧ u ≤ 255) (w : World) :
    Calls Try.prog 84 #[.int .u32 (tn s), .int .u8 u] w fun e w' => e = .returned (.int .u32 (tn (nextB s (BitVec.ofInt 32 u)))) ∧ w = w' := by
  have := next_any s (BitVec.ofInt 32 u) (by rw [← byte_tn u h]; exact h.2) w
  rwa [← byte_tn u h] at this
theorem drop_at (l : List Int) (j : Nat) (h : j < l.length) : l.drop j = l.getD j 0 :: l.drop (j + 1) := by
  rw [List.drop_eq_getElem_cons h]; simp [List.getD, List.getElem?_eq_getElem h]
def flat (vs : List (Value × List Int)) : List Int := vs.flatMap (·.2)
theorem flat_drop (vs : List (Value × List Int)) (j : Nat) (u : Value) (xs : List Int) (h : vs[j]? = some (u, xs)) : flat (vs.drop j) = xs ++ flat (vs.drop (j + 1)) := by
  obtain ⟨hl, e⟩ := List.getElem?_eq_some_iff.1 h
  rw [List.drop_eq_getElem_cons hl, e]; rfl
set_option maxHeartbeats 1600000 in
theorem sum_any (v : Value) (vs : List (Value × List Int)) (w : World) (B : Nat) (hv : SR w B v vs) :
    Calls Try.prog 71 #[v] w fun e w' => e = .returned (.int .u32 (tn (sumF 0#32 (flat vs)))) ∧ w = w' := by
  obtain ⟨A, c, rfl, hlc, hcm⟩ := hv.form
  unfold maxLen at hcm
  go_enter Try.func71, Try.ntmps71
  go_wp2
  go_loop [3, 10] (fun m i => ∃ (q : BitVec 32) (j : Nat), j ≤ vs.length ∧ m = .int .u32 (tn q) ∧ i = .int .i64 j ∧ sumF q (flat (vs.drop j)) = sumF 0#32 (flat vs)) (fun _ i => vs.length - (intOf i).toNat)
  case atStart => exact ⟨0#32, 0, by omega, rfl, rfl, rfl⟩
  case round =>
    obtain ⟨q, j, hj, rfl, rfl, hq⟩ := hrel
    have HQ := Lib.hid hq
    clear hq
    by_cases hl : j < vs.length
    · obtain ⟨b, off, u, xs, rfl, hb, hvj, hcell, hr, hx⟩ := SR.index hv j hl
      have hd := HQ.out
      rw [flat_drop vs j u xs hvj] at hd
      have HD := Lib.hid hd
      clear hd hvj
      have hdl : decide ((j : Int) < (vs.length : Int)) = true := by simp; omega
      obtain ⟨A2, c2, rfl, hlc2, hcm2⟩ := hr.form
      unfold maxLen at hcm2
      go_wp2
      go_loop [3, 16] (fun m i => ∃ (p : BitVec 32) (k : Nat), k ≤ xs.length ∧ m = .int .u32 (tn p) ∧ i = .int .i64 k ∧ sumF p (xs.drop k ++ flat (vs.drop (j + 1))) = sumF 0#32 (flat vs)) (fun _ i => xs.length - (intOf i).toNat)
      case atStart => exact ⟨q, 0, by omega, rfl, rfl, HD.out⟩
      case round =>
        obtain ⟨p, k, hk, rfl, rfl, hp⟩ := hrel
        have HP := Lib.hid hp
        clear hp
        by_cases hkl : k < xs.length
        · obtain ⟨b2, off2, rfl, hb2, hcell2⟩ := IR.index hr k hkl
          have hu := hx.at_ k
          have hd2 := HP.out
          rw [drop_at xs k hkl] at hd2
          generalize xs.getD k 0 = y at *
          have HD2 := Lib.hid hd2
          clear hd2
          have hdl2 : decide ((k : Int) < (xs.length : Int)) = true := by simp; omega
          go_wp2_with (go_at_call 84; (with_reducible refine (next_byte_any p y hu _).mono ?_); rintro e w' ⟨rfl, rfl⟩)
          go_round
          case rel => exact ⟨_, k + 1, by omega, rfl, by go_num, HD2.out⟩
          case measure => simp [intOf]; omega
        · have hdl2 : decide ((k : Int) < (xs.length : Int)) = false := by simp; omega
          go_wp2
          go_round
          case rel =>
            have h := HP.out
            rw [List.drop_eq_nil_of_le (by omega)] at h
            exact ⟨p, j + 1, by omega, rfl, by go_num, h⟩
          case measure => simp [intOf]; omega
    · have hdl : decide ((j : Int) < (vs.length : Int)) = false := by simp; omega
      go_wp2
      go_ret
      have h := HQ.out
      rw [List.drop_eq_nil_of_le (by omega)] at h
      exact ⟨ret_int (by rw [← h]; rfl), rfl⟩
theorem sum_one (v : Value) (xs : List Int) (w : World) (hv : IR w w.heap.size .u8 v xs) (hx : Bytes xs) :
    Calls Try.prog 71 #[.slice (some ⟨w.heap.size, 0, none⟩) 1 1] (w.alloc (.cells #[v] 48)) fun e w' => e = .returned (.int .u32 (tn (sumF 0#32 xs))) ∧ w.alloc (.cells #[v] 48) = w' := by
  have h2 : SR (w.alloc (.cells #[v] 48)) (w.heap.size + 1) (.slice (some ⟨w.heap.size, 0, none⟩) 1 1) [(v, xs)] :=
    SR.lit w [(v, xs)] 48 _ w.heap.size rfl (Nat.le_refl _) (by simp) (by intro p hp; simp at hp; subst hp; exact ⟨hv, hx⟩)
  have := sum_any _ _ _ _ h2
  rw [show flat [(v, xs)] = xs by simp [flat]] at this
  exact this
end Go.Proofs.Yteggcehjpfmikaa.CrcA
