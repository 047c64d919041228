import Derived.Test.YtplombkpefacgaaDkQ
/- What a crash leaves of one sector: pure; and beside a list of rows. -/
namespace Go.Proofs.Ytplombkpefacgaa.Disk
open Go.ChangeShapes Go.WideShapes Go.ChangeAt Go.RowKit Go.IntWalk Go.Proofs.Mem Go.Proofs.Each Law
set_option linter.unusedVariables false
theorem Pa.crash {B0 a : Nat} {w : World} {D : Dv} {v : Value} {l : List Rw} (h : Pa B0 w a D v l) (fv : Value) (fl : List Ft) (hv : SS cFt 4 w w.heap.size fv fl) (ho : ∀ x ∈ fl, x.Ok) (hl : fl.length ≤ 100000) (hw : D.Few 100000) :
    Calls Try.prog 20 #[.pointer (some ⟨a, 0, none⟩), fv] w fun e w' => e = .returned (.tuple #[]) ∧ Pa B0 w' a (D.crash fl) v l ∧ Below B0 w w' := by
  obtain ⟨S, c, f, u, hd, h1, h2, h3⟩ := h.dev
  have hbs := h.base
  refine (crash_yes hd fv fl hv ho hl hw).mono ?_
  rintro e w2 ⟨rfl, ⟨c', u', hd2⟩, hf⟩
  have hgr : ∀ y, y < w.heap.size → ¬ S y → ¬ growS w w2 S y := fun y hy hn hh => by
    rcases hh with hh | hh
    · exact hn hh
    · omega
  exact ⟨rfl, ⟨Nat.le_trans hbs hf.size, (tab_fr h.tab hf h2 h3).more hf.size, _, _, _, _, hd2, fun y hy => by
    rcases hy with hy | hy
    · exact h1 y hy
    · omega, fun p hp => hgr _ (h.tab.rows p hp).2 (h2 p hp), fun k hk => hgr _ (h.tab.vtop k hk) (h3 k hk)⟩, hf.to_below h1 hbs⟩
/-- one sector, that so many writes wait for -/
structure PR (D : Dv) (ws : List (List Int)) : Prop where
  lim : D.lim = false
  f0 : D.f 0 = [⟨z128, ws⟩]
  f1 : D.f 1 = []
theorem PR.few {D : Dv} {ws : List (List Int)} (h : PR D ws) {m : Nat} (hm : ws.length ≤ m) : D.Few m := fun k hk s hs => by
  rcases two hk with rfl | rfl
  · rw [h.f0, List.mem_singleton] at hs
    rw [hs]; exact hm
  · rw [h.f1] at hs; cases hs
theorem PR.at_ {D : Dv} {ws : List (List Int)} (h : PR D ws) : (D.f 0)[0]? = some ⟨z128, ws⟩ := by rw [h.f0]; rfl
theorem PR.wr {D : Dv} {ws : List (List Int)} (h : PR D ws) (xs : List Int) : PR (D.wr 0 0 ⟨z128, ws⟩ xs) (ws ++ [xs]) := by
  rw [wr_free h.lim]
  refine ⟨h.lim, ?_, ?_⟩
  · show (D.f 0).set 0 _ = _
    rw [h.f0]; rfl
  · show D.f 1 = _
    exact h.f1
/-- what is left -/
def left_ (ws : List (List Int)) (K T : Int) : List Int := ((⟨z128, ws⟩ : Se).crash K T).last
theorem PR.crash {D : Dv} {ws : List (List Int)} (h : PR D ws) (K T : Int) : ((D.crash [⟨0, 0, K, T⟩]).f 0).map (·.last) = [left_ ws K T] := by
  have e : (D.crash [⟨0, 0, K, T⟩]).f 0 = (D.f 0).mapIdx (fun n s => if (0 : Nat) < 2 ∨ ((0 : Nat) = 2 ∧ n < 0) then crS [⟨0, 0, K, T⟩] 0 n s else s) := rfl
  rw [e, h.f0]
  rfl
/-- the row at a place, and the one behind it, if there is one -/
def over (all : List (List Int)) (i : Nat) : List Int := if i + 1 < all.length then all.getD (i + 1) [] else all.getD i []
theorem part_at (ws : List (List Int)) (hw : ∀ x ∈ ws, x.length = 128) (K T : Int) : ∃ n t : Nat, n < (z128 :: ws).length ∧ (∀ k, k < 128 → k < t → (left_ ws K T).getD k 0 = (over (z128 :: ws) n).getD k 0) ∧ (∀ k, k < 128 → t ≤ k → (left_ ws K T).getD k 0 = ((z128 :: ws).getD n []).getD k 0) ∧ (left_ ws K T).length = 128 := by
  have hkp : kp K ws.length ≤ ws.length := Nat.min_le_right _ _
  have hkeep : (⟨z128, ws⟩ : Se).keep (kp K ws.length) = (z128 :: ws).getD (kp K ws.length) [] := by
    unfold Se.keep
    split
    · rename_i h; rw [h]; rfl
    · rename_i h
      obtain ⟨m, hm⟩ : ∃ m, kp K ws.length = m + 1 := ⟨kp K ws.length - 1, by omega⟩
      have hml : m < ws.length := by omega
      rw [hm, Nat.add_sub_cancel, List.getD_cons_succ, List.getD_eq_getElem?_getD, List.getD_eq_getElem?_getD, List.getElem?_eq_getElem hml]
      rfl
  have hlen : ∀ n, n < (z128 :: ws).length → ((z128 :: ws).getD n []).length = 128 := fun n hn => by
    rw [List.getD_eq_getElem?_getD, List.getElem?_eq_getElem hn]
    rcases List.mem_cons.1 (List.getElem_mem hn) with h | h
    · show (z128 :: ws)[n].length = 128
      rw [h]; rfl
    · exact hw _ h
  have hn : kp K ws.length < (z128 :: ws).length := by simp only [List.length_cons]; omega
  refine ⟨kp K ws.length, tp T, hn, ?_⟩
  unfold left_ Se.crash
  simp only
  by_cases hk : kp K ws.length < ws.length
  · rw [if_pos hk, hkeep]
    have ho : over (z128 :: ws) (kp K ws.length) = ws.getD (kp K ws.length) [] := by
      unfold over
      rw [if_pos (by simp only [List.length_cons]; omega), List.getD_cons_succ]
    have hl1 : (ws.getD (kp K ws.length) []).length = 128 := by
      rw [List.getD_eq_getElem?_getD, List.getElem?_eq_getElem hk]; exact hw _ (List.getElem_mem hk)
    have ht : tp T ≤ 128 := Nat.min_le_right _ _
    have hl2 := hlen _ hn
    rw [ho]
    refine ⟨fun k h1 h2 => ?_, fun k h1 h2 => ?_, ?_⟩
    · simp only [List.getD_eq_getElem?_getD]
      simp only [List.getD_eq_getElem?_getD] at hl1
      rw [List.getElem?_append_left (by rw [List.length_take]; omega), List.getElem?_take_of_lt h2]
    · rw [List.getD_eq_getElem?_getD, List.getElem?_append_right (by rw [List.length_take]; omega), List.length_take, List.getElem?_drop, List.getD_eq_getElem?_getD]
      congr 2
      omega
    · rw [List.length_append, List.length_take, List.length_drop]; omega
  · have he : kp K ws.length = ws.length := by omega
    rw [if_neg hk, hkeep]
    have ho : over (z128 :: ws) (kp K ws.length) = (z128 :: ws).getD (kp K ws.length) [] := by
      unfold over
      rw [if_neg (by simp only [List.length_cons]; omega)]
    rw [ho]
    exact ⟨fun k _ _ => rfl, fun k _ _ => rfl, hlen _ hn⟩
/-- a device that was just made, and one row behind it -/
theorem Pa.start {B0 : Nat} {w1 w2 w3 : World} {M : Nat → Nat} {u : Value} {xs : List Int} (h : Out w1 w2 M 2) (hB : B0 ≤ w1.heap.size) (hu : w3.ownsRow w2.heap.size 5 1 u 128 (xs.map (.int .u8))) (hx : xs.length = 128) (hb : Below w2.heap.size w2 w3) :
    ∃ g, Pa B0 (w3.alloc (.cells #[u] 30)) w1.heap.size (newTo M 2) (.slice (some ⟨w3.heap.size, 0, none⟩) 1 1) [(g, u, xs)] := by
  obtain ⟨c, f, uv, hd, _, hb1⟩ := h
  have s1 := hb1.size
  have s2 := hb.size
  obtain ⟨g, hr, hg1, hg2⟩ := RowAt.of_own (Tu := 5) (xs := xs) (by rw [hx]; exact hu) (by rw [hx]; decide)
  refine ⟨g, by simp; omega, ?_, newS w1 w2, c, f, uv, (hd.later hb).later (new_ (Below.refl _ _) _), fun x hx => Nat.le_trans hB hx.1, fun p hp => ?_, fun k hk => ?_⟩
  · have t := Tab.push (g := g) (u := u) (xs := xs) (v' := .slice (some ⟨w3.heap.size, 0, none⟩) 1 1) (B := w3.alloc (.cells #[u] 30)) (Tab.nil (Tu := 5) (Ts := 30) w3 B0 w2.heap.size) (by decide) hr (by omega) (by simp; omega)
      ⟨rfl, .inr ⟨w3.heap.size, 1, _, rfl, by omega, heap_alloc_new w3 _, Nat.le_refl _, by decide, rfl, rfl⟩⟩ (World.grownBy_alloc w3 _ _) (by simp; omega)
    exact t
  · rw [List.mem_singleton.1 hp]
    intro hS
    have := hS.2
    simp only at this
    omega
  · simp [Value.ownBlock] at hk
    intro hS
    have := hS.2
    omega
/-- what is done ahead of all of it leaves it -/
theorem Pa.far {B0 a : Nat} {w w' : World} {D : Dv} {v : Value} {l : List Rw} {S : Nat → Prop} (h : Pa B0 w a D v l) (hf : Fr S w w') (hS : ∀ x, S x → x < B0) : Pa B0 w' a D v l := by
  obtain ⟨T, c, f, u, hd, h1, h2, h3⟩ := h.dev
  refine ⟨Nat.le_trans h.base hf.size, (tab_fr h.tab hf (fun p hp hs => ?_) (fun k hk hs => ?_)).more hf.size, T, c, f, u, hd.far hf (fun g hg hs => ?_), h1, h2, h3⟩
  · obtain ⟨_, _, _, hb, _⟩ := (h.tab.rows p hp).1.heap
    have := hS _ hs
    omega
  · have := (h.tab.outer.lt k hk).1
    have := hS _ hs
    omega
  · have := h1 g hg
    have := hS _ hs
    omega
theorem Pa.image {B0 a : Nat} {w : World} {D : Dv} {v : Value} {l : List Rw} (h : Pa B0 w a D v l) :
    Calls Try.prog 19 #[.pointer (some ⟨a, 0, none⟩), .int .u8 0] w fun e w' => ∃ (u : Value) (l' : List (Value × List Int)), e = .returned u ∧ SR w' w'.heap.size u l' ∧ l'.map (·.2) = (D.f 0).map (·.last) ∧ Pa B0 w' a D v l ∧ Below w.heap.size w w' := by
  obtain ⟨T, c, f, u, hd, h1, h2, h3⟩ := h.dev
  refine (image_at 0 hd 0 rfl (by decide)).mono ?_
  rintro e w' ⟨x, l', rfl, t, m, hb⟩
  exact ⟨x, l'.map (·.2), rfl, t.sr (img_bytes hd (by decide) m), by rw [List.map_map]; exact m, h.later hb, hb⟩
theorem fate_ok (K T : Int) : ∀ x ∈ [(⟨0, 0, K, T⟩ : Ft)], x.Ok := fun x hx => by
  rw [List.mem_singleton.1 hx]
  exact ⟨⟨Int.le_refl _, by show (0 : Int) ≤ 255; decide⟩, by show (-9223372036854775808 : Int) ≤ 0; decide, by show (0 : Int) ≤ 9223372036854775807; decide⟩
theorem one_map {α β : Type} {f : α → β} {l : List α} {y : β} (h : l.map f = [y]) : ∃ p, l = [p] ∧ f p = y := by
  match l, h with
  | [p], h => exact ⟨p, rfl, by injection h⟩
/-- a row of a list of rows, at its place -/
theorem row_at {VS : List (Value × List Int)} {all : List (List Int)} (h : VS.map (·.2) = all) {i : Nat} {u : Value} {xs : List Int} (hi : VS[i]? = some (u, xs)) : xs = all.getD i [] := by
  rw [← h, List.getD_eq_getElem?_getD, List.getElem?_map, hi]; rfl
theorem all_len {ws : List (List Int)} (hw : ∀ x ∈ ws, x.length = 128) {i : Nat} (hi : i < (z128 :: ws).length) : ((z128 :: ws).getD i []).length = 128 := by
  rw [List.getD_eq_getElem?_getD, List.getElem?_eq_getElem hi]
  rcases List.mem_cons.1 (List.getElem_mem hi) with h | h
  · show (z128 :: ws)[i].length = 128
    rw [h]; rfl
  · exact hw _ h
theorem new10 : PR (newTo (fun k => if k = 0 then 1 else 0) 2) [] := ⟨rfl, rfl, rfl⟩
theorem full_nil : fullS [] = z128 := by decide +kernel
end Go.Proofs.Ytplombkpefacgaa.Disk
