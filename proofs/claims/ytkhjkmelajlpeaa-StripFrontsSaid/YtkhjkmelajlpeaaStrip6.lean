import Derived.Test.YtkhjkmelajlpeaaStrip5
/- The chapter's example. -/
namespace Go.Proofs.Ytkhjkmelajlpeaa.Strip
open Go.ChangeShapes Go.WideShapes Go.ChangeAt Go.RowKit Go.IntWalk Go.Shelf Go.Proofs.Mem Blk
set_option linter.unusedVariables false
theorem sr_of_tab {W : World} {base top : Nat} {v : Value} {ls : List Rw} {L : List (List Int)} (h : Tab 5 22 W base top v ls) (hL : ls.map (·.2.2) = L) (hb : ∀ xs ∈ L, Bytes xs) : SR W top v (ls.map (·.2)) ∧ (ls.map (·.2)).map (·.2) = L :=
  ⟨h.sr (fun p hp => hb _ (by rw [← hL]; exact List.mem_map.2 ⟨p, hp, rfl⟩)), by rw [List.map_map]; exact hL⟩
def zs : List Int := List.replicate 128 0
theorem zs_lay : lay7 zs = [sec7 zs 0, sec7 zs 1] := by kernel_rfl
theorem zs0 : (sec7 zs 0).getD 127 0 = 127 := by kernel_rfl
theorem zs1 : (sec7 zs 1).getD 127 0 = 1 := by kernel_rfl
theorem read_zs : readS (lay7 zs) = zs := by have := read_lay zs [] (by simp [readS]); rwa [List.append_nil] at this
theorem row_at {W : World} {B : Nat} {A : Option Addr} {n c : Nat} {vs : List (Value × List Int)} (h : SR W B (.slice A n c) vs) (j : Nat) (hj : j < vs.length) (x : List Int) (hx : (vs.map (·.2))[j]? = some x) (hl : x.length = 128) :
    ∃ b off b0 o0 c0, A = some ⟨b, off, none⟩ ∧ W.cell? ⟨b, off + j, none⟩ = some (.slice (some ⟨b0, o0, none⟩) 128 c0) ∧ 128 ≤ c0 ∧ c0 ≤ 9223372036854775807 ∧ W.cell? ⟨b0, o0 + 127, none⟩ = some (.int .u8 (x.getD 127 0)) := by
  obtain ⟨b, off, u, xs, rfl, hb, hv, hc, hr, hx'⟩ := h.index j hj
  rw [List.getElem?_map, hv] at hx
  injection hx with hx
  simp only at hx
  subst hx
  obtain ⟨A0, c0, rfl, h1, h2⟩ := hr.form
  rw [hl] at *
  unfold maxLen at h2
  obtain ⟨b0, o0, rfl, _, hc0⟩ := hr.index 127 (by omega)
  exact ⟨b, off, b0, o0, c0, rfl, hc, h1, by omega, hc0⟩
set_option maxRecDepth 100000 in
set_option maxHeartbeats 8000000 in
theorem known_any (w : World) : Calls Try.prog 8 #[] w fun e w' => e = .returned (.bool true) ∧ Below w.heap.size w w' := by
  obtain ⟨i0, hi0, hz0, hz1, hz2⟩ := info_parts u8_info
  obtain ⟨AC, hAC, hACs, hmk⟩ := made_run (P := Try.prog) Try.underlying22 hi0 hz0 hz1 128 128 (by decide) (by rw [hz2]; decide) (by decide)
  rw [show ((128 : Nat) : Int) = 128 from rfl] at hmk
  have I0 := Lib.hid (show IR (w.alloc (.cells AC 5)) (w.heap.size + 1) .u8 (.slice (some ⟨w.heap.size, 0, none⟩) 128 128) zs from (row_made w AC 128 hAC (by decide)).ir)
  have C2 := Lib.hid (fun W => count_any 128 (by decide) W)
  clear hAC hACs hi0 hz0 hz1 hz2
  go_enter Try.func8, Try.ntmps8
  go_wp2_with fail
  (with_reducible refine (lay_any _ _ _ zs I0.out (by simp) (by decide)).mono ?_)
  rintro e w1 ⟨v1, ls, rfl, tab1, hls, hb1⟩
  have HB1 := Lib.hid ((new_ (Below.refl w.heap.size w) (.cells AC 5)).trans (hb1.mono (by simp)))
  obtain ⟨sr1, hm1⟩ := sr_of_tab tab1 hls (lay_bytes (bytes_rep 128))
  obtain ⟨A, c, rfl, hlc, hcm⟩ := sr1.form
  have hl2 : ls.length = 2 := by have := congrArg List.length hls; rw [zs_lay] at this; simpa using this
  rw [List.length_map, hl2] at sr1
  rw [List.length_map, hl2]
  rw [List.length_map, hl2] at hlc
  unfold maxLen at hcm
  obtain ⟨b, off, b0, o0, c0, rfl, hc0, k0, k0', hy0⟩ := row_at sr1 0 (by rw [List.length_map]; omega) (sec7 zs 0) (by rw [hm1, zs_lay]; rfl) (sec_len _ _)
  obtain ⟨b', off', b1, o1, c1, e, hc1, k1, k1', hy1⟩ := row_at sr1 1 (by rw [List.length_map]; omega) (sec7 zs 1) (by rw [hm1, zs_lay]; rfl) (sec_len _ _)
  injection e with e
  injection e with e1 e2
  subst e1 e2
  rw [zs0] at hy0
  rw [zs1] at hy1
  rw [Nat.add_zero] at hc0
  have SR1 := Lib.hid sr1
  have HM1 := Lib.hid hm1
  have HL2 := Lib.hid hl2
  clear hb1 tab1 hls sr1 hm1 hl2
  go_wp2_with fail
  (with_reducible refine (read_any _ _ _ _ SR1.out (Nat.le_refl _) (by rw [List.length_map, HL2.out]; decide)).mono ?_)
  rintro e w2 ⟨v2, rfl, hown2, hb2⟩
  rw [HM1.out, read_zs] at hown2
  obtain ⟨A2, c2, rfl, hl2, hm2⟩ := (IR.of_own hown2).form
  rw [show zs.length = 128 by decide] at *
  have HB2 := Lib.hid (step_ HB1.out hb2)
  unfold maxLen at hm2
  clear hown2 hb2
  go_wp2_with fail
  (with_reducible refine (C2.out _).mono ?_)
  rintro e w3 ⟨rfl, rfl⟩
  go_wp2
  go_ret
  exact ⟨rfl, HB2.out⟩
theorem sr_bytes {w : World} {B : Nat} {v : Value} {vs : List (Value × List Int)} (h : SR w B v vs) : ∀ b ∈ vs.map (·.2), Bytes b := fun x hx => by
  obtain ⟨p, hp, rfl⟩ := List.mem_map.1 hx
  obtain ⟨k, hk, rfl⟩ := List.mem_iff_getElem.1 hp
  obtain ⟨A, c, rfl, _⟩ := h.form
  obtain ⟨_, _, u, xs, _, _, g, _, _, hb⟩ := h.index k hk
  rw [List.getElem?_eq_getElem hk] at g
  injection g with g
  rw [g]; exact hb
theorem sr_take {w : World} {B : Nat} {A : Option Addr} {n c m : Nat} {vs : List (Value × List Int)} (h : SR w B (.slice A n c) vs) (hm : m ≤ n) : SR w B (.slice A m c) (vs.take m) := by
  obtain ⟨A', c', e, h2, h3, h5⟩ := h
  injection e with e1 e2 e3
  subst e1 e2 e3
  have hl : (vs.take m).length = m := by rw [List.length_take]; omega
  refine ⟨A, c, by rw [hl], by omega, h3, fun i hi => ?_⟩
  obtain ⟨b, off, u, xs, e, hb, hv, hc, hr, hx⟩ := h5 i (by omega)
  exact ⟨b, off, u, xs, e, hb, by rw [List.getElem?_take, if_pos (by omega)]; exact hv, hc, hr, hx⟩
theorem read_noughts : ∀ k, readS (List.replicate k zs) = []
  | 0 => by simp [readS]
  | k + 1 => by
    rw [List.replicate_succ, read_last _ (by simp [zs]) (by simp [zs])]
    rw [show zs.getD 127 0 = 0 by simp [zs]]; rfl
end Go.Proofs.Ytkhjkmelajlpeaa.Strip
