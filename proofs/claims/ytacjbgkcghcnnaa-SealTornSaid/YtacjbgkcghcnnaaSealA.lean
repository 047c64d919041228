import Derived.Test.YtacjbgkcghcnnaaSeal9
/- The chapter's example. -/
namespace Go.Proofs.Ytacjbgkcghcnnaa.Seal
open Go.ChangeShapes Go.WideShapes Go.ChangeAt Go.RowKit Go.IntWalk Go.Shelf Go.Proofs.NumMath Go.Proofs.Mem NumBytes
set_option linter.unusedVariables false
theorem bytes_rep (n : Nat) : Bytes (List.replicate n 0) := fun x hx => by rw [List.eq_of_mem_replicate hx]; decide
def zero4 : List (List Int) := sealS (List.replicate 448 0) 0
def one4 : List (List Int) := zero4.set 3 ((zero4.getD 3 []).set 127 1)
theorem one4_stamps : one4.flatMap stampOf = [0, 0, 0, 0, 0, 0, 0, 72057594037927936] := by kernel_rfl
theorem zero4_lens : zero4.map (·.length) = [128, 128, 128, 128] := by kernel_rfl
theorem one4_bytes : ∀ xs ∈ one4, Bytes xs := by
  intro xs hx
  have h0 : ∀ xs ∈ zero4, Bytes xs := fun xs hx => by
    unfold zero4 sealS at hx
    obtain ⟨a, _, rfl⟩ := List.mem_map.1 hx
    exact sec_bytes (bytes_rep 448) 0 _
  rcases List.mem_or_eq_of_mem_set hx with h | rfl
  · exact h0 _ h
  · intro y hy
    rcases List.mem_or_eq_of_mem_set hy with h | rfl
    · have : (zero4.getD 3 []) ∈ zero4 := by
        have h4 : zero4.length = 4 := by have := congrArg List.length zero4_lens; simpa using this
        rw [List.getD_eq_getElem?_getD, List.getElem?_eq_getElem (by omega)]
        exact List.getElem_mem _
      exact h0 _ this y h
    · decide
theorem sr_of_tab {W : World} {base top : Nat} {v : Value} {ls : List Rw} {L : List (List Int)} (h : Tab 5 22 W base top v ls) (hL : ls.map (·.2.2) = L) (hb : ∀ xs ∈ L, Bytes xs) : SR W top v (ls.map (·.2)) ∧ (ls.map (·.2)).map (·.2) = L :=
  ⟨h.sr (fun p hp => hb _ (by rw [← hL]; exact List.mem_map.2 ⟨p, hp, rfl⟩)), by rw [List.map_map]; exact hL⟩
theorem list_4 {α : Type} {l : List α} (h : l.length = 4) : ∃ a b c d, l = [a, b, c, d] := by
  match l, h with
  | [a, b, c, d], _ => exact ⟨a, b, c, d, rfl⟩
theorem tab3 {W0 : World} {base top : Nat} {v : Value} {ls : List Rw} (tab : Tab 5 22 W0 base top v ls) (hls : ls.map (·.2.2) = zero4) :
    ∃ go cap g3 cap3 ls' y, v = .slice (some ⟨go, 0, none⟩) 4 cap ∧ 4 ≤ cap ∧ base ≤ g3 ∧ ls'.map (·.2.2) = one4 ∧ ∀ W, Tab 5 22 W base top v ls →
      W.cell? ⟨go, 3, none⟩ = some (.slice (some ⟨g3, 0, none⟩) 128 cap3) ∧ 128 ≤ cap3 ∧ W.cell? ⟨g3, 127, none⟩ = some (.int .u8 y) ∧ W.frozen? ⟨g3, 127, none⟩ = false ∧
      Tab 5 22 (W.setCell ⟨g3, 127, none⟩ (.int .u8 1)) base top v ls' := by
  have hll : ls.length = 4 := by
    have h4 : zero4.length = 4 := by have := congrArg List.length zero4_lens; simpa using this
    have := congrArg List.length hls
    simpa [h4] using this
  obtain ⟨a, b, c, ⟨g3, u3, x3⟩, rfl⟩ := list_4 hll
  obtain ⟨go, cap, rfl, _, _, hc, _⟩ := tab.cell 3 (by simp)
  have hx3 : x3 = zero4.getD 3 [] := by rw [← hls]; rfl
  have hl3 : x3.length = 128 := by
    have := congrArg (fun z => z[3]?) zero4_lens
    rw [← hls] at this
    simpa using this
  obtain ⟨r3a, r3b⟩ := tab.rows (g3, u3, x3) (by simp)
  obtain ⟨_, cap3, e3, hb3, _, hc3, _⟩ := r3a.heap
  rw [hl3] at e3
  refine ⟨go, cap, g3, cap3, [a, b, c, (g3, u3, x3.set 127 1)], x3.getD 127 0, rfl, hc, hb3, ?_, fun W h => ?_⟩
  · have e : ([a, b, c, (g3, u3, x3.set 127 1)] : List Rw).map (·.2.2) = (([a, b, c, (g3, u3, x3)] : List Rw).map (·.2.2)).set 3 (x3.set 127 1) := rfl
    rw [e, hls, hx3]; rfl
  · obtain ⟨go', cap', e, hc4, _⟩ := h.cell 3 (by simp)
    injection e with e1 e2 e4
    injection e1 with e1
    injection e1 with e1
    subst e1
    have hr := (h.rows (g3, u3, x3) (by simp)).1
    exact ⟨by rw [hc4]; exact congrArg some e3, by (have : x3.length ≤ cap3 := by assumption); omega, row_cell hr 127 (by show 127 < x3.length; omega), row_frozen hr 127, h.put (by decide) 3 (by simp) 127 1⟩
set_option maxRecDepth 100000 in
set_option maxHeartbeats 8000000 in
theorem known_any (w : World) : Calls Try.prog 7 #[] w fun e w' => e = .returned (.bool true) ∧ Below w.heap.size w w' := by
  obtain ⟨i0, hi0, hz0, hz1, hz2⟩ := info_parts u8_info
  obtain ⟨AC, hAC, hACs, hmk⟩ := made_run (P := Try.prog) Try.underlying22 hi0 hz0 hz1 448 448 (by decide) (by rw [hz2]; decide) (by decide)
  rw [show ((448 : Nat) : Int) = 448 from rfl] at hmk
  have hcs : AC = ((List.replicate 448 (0 : Int)).map (.int .u8)).toArray := by
    apply Array.toList_inj.1
    rw [hAC, madeZero]
  have IR0 := Lib.hid (show IR (w.alloc (.cells AC 5)) (w.heap.size + 1) .u8 (.slice (some ⟨w.heap.size, 0, none⟩) 448 448) (List.replicate 448 0) by
    rw [hcs]
    have := IR.lit w .u8 (List.replicate 448 (0 : Int)) 5 (by simp)
    simpa using this)
  have HAC := Lib.hid hAC
  clear hAC hcs hACs hi0 hz0 hz1 hz2
  go_enter Try.func7, Try.ntmps7
  go_wp2_with fail
  (with_reducible refine (seal_any _ (w.heap.size + 1) _ (List.replicate 448 0) 0 IR0.out (by simp) (by decide)).mono ?_)
  rintro e w1 ⟨v, ls, rfl, tab, hls, hb1⟩
  rw [if_pos (by simp)] at hls
  obtain ⟨sr1, mp1⟩ := sr_of_tab tab hls (fun xs hx => by
    unfold sealS at hx
    obtain ⟨a, _, rfl⟩ := List.mem_map.1 hx
    exact sec_bytes (bytes_rep 448) 0 _)
  have SD := Lib.hid (sealed (n := 0) (xb := List.replicate 448 0) (by decide) (by simp) mp1)
  obtain ⟨go, cap, g3, cap3, ls', y3, rfl, hcap, hg3, hm3, hW⟩ := tab3 tab hls
  have hg3' : w.heap.size ≤ g3 := by simp at hg3; omega
  have SR1 := Lib.hid sr1
  have TAB := Lib.hid tab
  have HB1 := Lib.hid ((new_ (Below.refl w.heap.size w) (.cells AC 5)).trans (hb1.mono (by simp)))
  have HW := Lib.hid hW
  have MP3 := Lib.hid hm3
  have HG3 := Lib.hid hg3'
  clear sr1 mp1 tab hb1 hls hg3 hg3' hm3 hW
  go_wp2_with fail
  (with_reducible refine (open_any w1 w1.heap.size _ _ SR1.out (Nat.le_refl _)).mono ?_)
  rintro e w2 h2
  rcases h2 with ⟨wh, v2, rfl, ow2, hb2⟩ | ⟨nw, _⟩
  · obtain ⟨gb, cb, rfl⟩ := ownsRow_succ (k := 447) ow2
    have HB2 := Lib.hid (step_ HB1.out hb2)
    obtain ⟨x1, x2, x3, x4, x5⟩ := HW.out _ (TAB.out.later hb2)
    have hh := SD.out.2.1
    rw [hh]
    have T3_ := Lib.hid x5
    have S3 := Lib.hid (sr_of_tab x5 MP3.out one4_bytes)
    have ST := Lib.hid (show stampsOf (ls'.map (·.2)) = [0, 0, 0, 0, 0, 0, 0, 72057594037927936] by rw [stampsOf_map, S3.out.2]; exact one4_stamps)
    have NW := Lib.hid (show ¬ Whole (ls'.map (·.2)) from fun h => by
      have a := h.2.2 0 (by rw [ST.out]; simp)
      have b := h.2.2 72057594037927936 (by rw [ST.out]; simp)
      omega)
    have MS := Lib.hid (show most (stampsOf (ls'.map (·.2))) = 72057594037927936 by rw [ST.out]; rfl)
    have HZ := Lib.hid hb2.size
    have HB3 := Lib.hid (HB2.out.setCell (p := ⟨g3, 127, none⟩) HG3.out (.int .u8 1))
    clear wh ow2 hb2 hh x5
    go_wp2_with fail
    (with_reducible refine (open_any _ w1.heap.size _ _ S3.out.1 (by have := HZ.out; simp [World.setCell]; omega)).mono ?_)
    rintro e w4 h4
    rcases h4 with ⟨wh, _⟩ | ⟨_, rfl, hb4⟩
    · exact absurd wh NW.out
    · have HB4 := Lib.hid (step_ HB3.out hb4)
      have S4 := Lib.hid (S3.out.1.keep (fun p hp => hb4.cell (by have := HZ.out; simp [World.setCell]; omega)))
      have HZ4 := Lib.hid (show w1.heap.size ≤ w4.heap.size by have := HZ.out; have := hb4.size; simp [World.setCell] at this; omega)
      clear hb4
      go_wp2_with fail
      (with_reducible refine (greatest_any _ w1.heap.size _ _ S4.out HZ4.out).mono ?_)
      rintro e w5 ⟨rfl, hb5⟩
      rw [MS.out]
      have HB5 := Lib.hid (step_ HB4.out hb5)
      clear hb5
      go_wp2
      go_ret
      exact ⟨rfl, HB5.out⟩
  · exact absurd SD.out.1 nw
end Go.Proofs.Ytacjbgkcghcnnaa.Seal
