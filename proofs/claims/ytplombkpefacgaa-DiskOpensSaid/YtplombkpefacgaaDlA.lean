import Derived.Test.YtplombkpefacgaaDkN
/- The document's device: its small calls, Read, Waits, Write, Sync, Image. -/
/- The document's device: its small calls. -/
namespace Go.Proofs.Ytplombkpefacgaa.Disk
open Go.ChangeShapes Go.WideShapes Go.ChangeAt Go.RowKit Go.IntWalk Go.Proofs.Mem
set_option linter.unusedVariables false
set_option linter.unusedSimpArgs false
abbrev DR (w : World) (S : Nat → Prop) (b : Nat) (D : Dv) (col : Nat → Nat) (fv : Nat → Value) (uv : Nat → List Pl) : Prop := DvAt 74 72 w S b D col fv uv
theorem stopped_any (w : World) (b : Nat) (fv : Nat → Value) (lim : Bool) (left : Int) (dead : Bool) (hb : Box w b (dC fv lim left dead) 72) (h0 : 0 ≤ left ∧ left ≤ 9223372036854775807) :
    Calls Try.prog 52 #[.pointer (some ⟨b, 0, none⟩)] w fun e w' => e = .returned (.bool (!cntB lim left)) ∧ Box w' b (dC fv lim (cntL lim left) (cntD lim left dead)) 72 ∧ Fr (fun x => x = b) w w' := by
  have k2 : w.cell? ⟨b, 2, none⟩ = some (.bool lim) := hb.cell 2
  have k3 : w.cell? ⟨b, 3, none⟩ = some (.int .i64 left) := hb.cell 3
  have k4 : w.cell? ⟨b, 4, none⟩ = some (.bool dead) := hb.cell 4
  have f3 := hb.frozen 3
  have f4 := hb.frozen 4
  have HB := Lib.hid hb
  clear hb
  cases lim
  · go_enter Try.func52, Try.ntmps52
    go_wp2
    go_ret
    exact ⟨by simp [cntB], by simpa [cntL, cntD, cntB] using HB.out, Fr.refl _ _⟩
  · by_cases hl : 0 < left
    · have d1 : decide (0 < left) = true := by simpa using hl
      have wl : wrap64 (left - 1) = left - 1 := wrap64_in _ (by omega)
      go_enter Try.func52, Try.ntmps52
      go_wp2
      go_ret
      have hb := HB.out.set_ 3 (.int .i64 (left - 1))
      have hf := Fr.setCell (Fr.refl (fun x => x = b) w) (p := ⟨b, 3, none⟩) (.inl rfl) (.int .i64 (left - 1))
      simp only [List.setIfInBounds_toArray, List.set_cons_zero, List.set_cons_succ] at hb
      exact ⟨by simp [cntB, hl], by simpa [cntL, cntD, cntB, hl] using hb, hf⟩
    · have d1 : decide (0 < left) = false := by simpa using hl
      go_enter Try.func52, Try.ntmps52
      go_wp2
      go_ret
      have hb := HB.out.set_ 4 (.bool true)
      have hf := Fr.setCell (Fr.refl (fun x => x = b) w) (p := ⟨b, 4, none⟩) (.inl rfl) (.bool true)
      simp only [List.setIfInBounds_toArray, List.set_cons_zero, List.set_cons_succ] at hb
      have e0 : cntB true left = false := by simp [cntB]; omega
      have e1 : cntL true left = left := by simp [cntL]; omega
      have e2 : cntD true left dead = true := by simp [cntD, e0]
      rw [e0, e1, e2]
      exact ⟨rfl, hb, hf⟩
theorem rhalted_any (w : World) (b : Nat) (fv : Nat → Value) (lim : Bool) (left : Int) (dead : Bool) (hb : Box w b (dC fv lim left dead) 72) :
    Calls Try.prog 40 #[.pointer (some ⟨b, 0, none⟩)] w fun e w' => e = .returned (.bool dead) ∧ w = w' := by
  have k4 : w.cell? ⟨b, 4, none⟩ = some (.bool dead) := hb.cell 4
  clear hb
  go_enter Try.func40, Try.ntmps40
  go_wp2
  go_ret
  exact ⟨rfl, rfl⟩
theorem rhalt_any (w : World) (b : Nat) (fv : Nat → Value) (lim : Bool) (left : Int) (dead : Bool) (hb : Box w b (dC fv lim left dead) 72) (n : Int) :
    Calls Try.prog 32 #[.pointer (some ⟨b, 0, none⟩), .int .i64 n] w fun e w' => e = .returned (.tuple #[]) ∧ Box w' b (dC fv true (max n 0) dead) 72 ∧ Fr (fun x => x = b) w w' := by
  have k2 : w.cell? ⟨b, 2, none⟩ = some (.bool lim) := hb.cell 2
  have k3 : w.cell? ⟨b, 3, none⟩ = some (.int .i64 left) := hb.cell 3
  have f2 := hb.frozen 2
  have f3 := hb.frozen 3
  have HB := Lib.hid hb
  clear hb
  have hd : ∀ z : Int, Box ((w.setCell ⟨b, 2, none⟩ (.bool true)).setCell ⟨b, 3, none⟩ (.int .i64 z)) b (dC fv true z dead) 72 ∧ Fr (fun x => x = b) w ((w.setCell ⟨b, 2, none⟩ (.bool true)).setCell ⟨b, 3, none⟩ (.int .i64 z)) := fun z => by
    have hb := (HB.out.set_ 2 (.bool true)).set_ 3 (.int .i64 z)
    simp only [List.setIfInBounds_toArray, List.set_cons_zero, List.set_cons_succ] at hb
    exact ⟨hb, Fr.setCell (Fr.setCell (Fr.refl (fun x => x = b) w) (p := ⟨b, 2, none⟩) (.inl rfl) _) (p := ⟨b, 3, none⟩) (.inl rfl) _⟩
  have HD := Lib.hid hd
  clear hd
  by_cases hn : n < 0
  · have hm : max n 0 = 0 := by omega
    rw [hm]
    go_enter Try.func32, Try.ntmps32
    go_wp2
    go_end0
    exact ⟨rfl, HD.out _⟩
  · have hm : max n 0 = n := by omega
    have hn0 : 0 ≤ n := by omega
    rw [hm]
    go_enter Try.func32, Try.ntmps32
    go_wp2
    go_end0
    exact ⟨rfl, HD.out _⟩
theorem rsize_any (w : World) (b : Nat) (fv : Nat → Value) (lim : Bool) (left : Int) (dead : Bool) (hb : Box w b (dC fv lim left dead) 72) (i : Nat) (hi : i ≤ 255) (A : Option Addr) (n c : Nat) (hv : i < 2 → fv i = .slice A n c) (hn : ¬ i < 2 → n = 0) :
    Calls Try.prog 37 #[.pointer (some ⟨b, 0, none⟩), .int .u8 i] w fun e w' => e = .returned (.int .i64 n) ∧ w = w' := by
  have wi := i8_wrap i hi
  by_cases h : i < 2
  · have hv' := hv h
    have kc : w.cell? ⟨b, i, none⟩ = some (.slice A n c) := by
      rw [hb.cell i]
      rcases two h with rfl | rfl
      · rw [← hv']; rfl
      · rw [← hv']; rfl
    have d1 : decide ((1 : Int) < (i : Int)) = false := by simp; omega
    have hi2 : (i : Int) < 2 := by omega
    clear hv hn hv'
    go_enter Try.func37, Try.ntmps37
    go_wp2
    go_ret
    exact ⟨rfl, rfl⟩
  · obtain rfl := hn h
    have d1 : decide ((1 : Int) < (i : Int)) = true := by simp; omega
    clear hv hn hb
    go_enter Try.func37, Try.ntmps37
    go_wp2
    go_ret
    exact ⟨rfl, rfl⟩
theorem rnone_no (w : World) (b : Nat) (fv : Nat → Value) (lim : Bool) (left : Int) (dead : Bool) (hb : Box w b (dC fv lim left dead) 72) (i : Nat) (hi : i < 2) (A : Option Addr) (L c : Nat) (hv : fv i = .slice A L c) (n : Nat) (hn : n < L) (N : Int) (hN : N = n) :
    Calls Try.prog 50 #[.pointer (some ⟨b, 0, none⟩), .int .u8 i, .int .i64 N] w fun e w' => e = .returned (.bool false) ∧ w = w' := by
  subst hN
  have wi := i8_wrap i (by omega)
  have kc : w.cell? ⟨b, i, none⟩ = some (.slice A L c) := by
    rw [hb.cell i]
    rcases two hi with rfl | rfl
    · rw [← hv]; rfl
    · rw [← hv]; rfl
  have d0 : decide ((1 : Int) < (i : Int)) = false := by simp; omega
  have hi2 : (i : Int) < 2 := by omega
  have d1 : decide ((n : Int) < 0) = false := by simp
  have d2 : decide ((L : Int) ≤ (n : Int)) = false := by simp; omega
  have d3 : decide (L ≤ n) = false := by simp; omega
  clear hv hb
  go_enter Try.func50, Try.ntmps50
  go_wp2
  go_ret
  exact ⟨rfl, rfl⟩
theorem rnone_yes (w : World) (b : Nat) (fv : Nat → Value) (lim : Bool) (left : Int) (dead : Bool) (hb : Box w b (dC fv lim left dead) 72) (i : Nat) (hi : i ≤ 255) (A : Option Addr) (L c : Nat) (hv : i < 2 → fv i = .slice A L c) (n : Int) (hno : i < 2 → n < 0 ∨ (L : Int) ≤ n) :
    Calls Try.prog 50 #[.pointer (some ⟨b, 0, none⟩), .int .u8 i, .int .i64 n] w fun e w' => e = .returned (.bool true) ∧ w = w' := by
  have wi := i8_wrap i hi
  by_cases h : i < 2
  · have hv' := hv h
    have kc : w.cell? ⟨b, i, none⟩ = some (.slice A L c) := by
      rw [hb.cell i]
      rcases two h with rfl | rfl
      · rw [← hv']; rfl
      · rw [← hv']; rfl
    have d0 : decide ((1 : Int) < (i : Int)) = false := by simp; omega
    have hi2 : (i : Int) < 2 := by omega
    have hno' := hno h
    by_cases h1 : n < 0
    · have d1 : decide (n < 0) = true := decide_eq_true h1
      clear hv hb hv' hno hno'
      go_enter Try.func50, Try.ntmps50
      go_wp2
      go_ret
      exact ⟨rfl, rfl⟩
    · have d1 : decide (n < 0) = false := decide_eq_false h1
      have d2 : decide ((L : Int) ≤ n) = true := decide_eq_true (by omega)
      clear hv hb hv' hno hno'
      go_enter Try.func50, Try.ntmps50
      go_wp2
      go_ret
      exact ⟨rfl, rfl⟩
  · have d0 : decide ((1 : Int) < (i : Int)) = true := by simp; omega
    clear hv hb hno
    go_enter Try.func50, Try.ntmps50
    go_wp2
    go_ret
    exact ⟨rfl, rfl⟩
theorem rlent_any (v : Value) (xs : List Int) (w : World) (B : Nat) (hv : IR w B .u8 v xs) (hl : xs.length ≤ 100000) :
    Calls Try.prog 51 #[v] w fun e w' => ∃ u, e = .returned u ∧ w'.ownsRow w.heap.size 5 1 u xs.length (xs.map (.int .u8)) ∧ Below w.heap.size w w' := by
  obtain ⟨i0, hi0, hz0, hz1, hz2⟩ := info_parts u8_info
  go_enter Try.func51, Try.ntmps51
  go_wp2_with (at_builtin; refine wpList_append_all _ rfl _ _ _ rfl w.heap.size 5 i0 .u8 1 Try.underlying30 hi0 hz0 hz1 hz2 _ 0 [] rfl (World.ownsRow_nil _ _ _ _) B _ xs rfl hv (by simp only [maxLen]; omega) (by omega) (Nat.le_refl _) ?_; intro v1 w1 hown1 hb1)
  go_ret
  exact ⟨_, rfl, by simpa using hown1, hb1⟩
end Go.Proofs.Ytplombkpefacgaa.Disk

/- The document's Read, Waits; the program's, where there is no sector. -/
namespace Go.Proofs.Ytplombkpefacgaa.Disk
open Go.ChangeShapes Go.WideShapes Go.ChangeAt Go.RowKit Go.IntWalk Go.Proofs.Mem
set_option linter.unusedVariables false
set_option linter.unusedSimpArgs false
set_option maxRecDepth 100000 in
set_option maxHeartbeats 4000000 in
theorem rread_yes {w : World} {S : Nat → Prop} {b : Nat} {D : Dv} {col : Nat → Nat} {fv : Nat → Value} {uv : Nat → List Pl} (h : DR w S b D col fv uv) (i : Nat) (hi : i < 2) (n : Nat) (s : Se) (hs : (D.f i)[n]? = some s) (hw : s.wait.length ≤ 100000) (N : Int) (hN : N = n) :
    Calls Try.prog 33 #[.pointer (some ⟨b, 0, none⟩), .int .u8 i, .int .i64 N] w fun e w' => ∃ u, e = .returned (.tuple #[u, .int .i64 0]) ∧ w'.ownsRow w.heap.size 5 1 u 128 (s.cur.map (.int .u8)) ∧ Below w.heap.size w w' := by
  subst hN
  have hn : n < (D.f i).length := (List.getElem?_eq_some_iff.1 hs).1
  obtain ⟨g, cap, C, p, s', sp⟩ := (h.file i hi).spot n hn
  obtain rfl : s' = s := Option.some.inj (sp.hs.symm.trans hs)
  have AT := Lib.hid (rnone_no w b fv D.lim D.left D.dead h.box i hi _ _ cap sp.hv n hn (n : Int) rfl)
  have wi := i8_wrap i (by omega)
  have hi2 : (i : Int) < 2 := by omega
  have kc : w.cell? ⟨b, i, none⟩ = some (.slice (some ⟨g, 0, none⟩) (D.f i).length cap) := by
    rw [h.box.cell i, ← sp.hv]
    rcases two hi with rfl | rfl <;> rfl
  obtain ⟨LL, hLL⟩ : ∃ LL, LL = (D.f i).length := ⟨_, rfl⟩
  rw [← hLL] at kc hn
  have hcapL : LL ≤ cap := by rw [hLL]; exact sp.hcap
  obtain ⟨gu, cu, eu⟩ := sp.sec.form_u
  obtain ⟨Av, cv, ev, hlv⟩ := sp.sec.form_v
  have k0 : w.cell? ⟨g, n * 2, none⟩ = some p.1 := by rw [sp.box.cell, Nat.mul_comm]; exact sp.c0
  have k1 : w.cell? ⟨g, n * 2 + 1, none⟩ = some p.2.1 := by rw [sp.box.cell, Nat.mul_comm]; exact sp.c1
  rw [eu] at k0
  rw [ev] at k1
  have HV := Lib.hid sp.sec
  have hvl := sp.sec.n
  obtain ⟨V, hV⟩ : ∃ V, V = p.2.2.length := ⟨_, rfl⟩
  rw [← hV] at k1 hvl hlv
  have hVb : V ≤ 100000 := by omega
  by_cases hz : V = 0
  · have hcur : s'.cur = s'.last := by unfold Se.cur; rw [List.eq_nil_of_length_eq_zero (by omega : s'.wait.length = 0)]; rfl
    rw [hcur]
    subst hz
    have CL := Lib.hid (rlent_any _ s'.last (w.alloc (.cells #[.slice (some ⟨gu, 0, none⟩) 128 cu, .slice Av 0 cv] 74)) w.heap.size ((HV.out.last.ir HV.out.len).alloc (Nat.le_refl _) _) (by rw [HV.out.len]; decide))
    rw [eu, HV.out.len] at CL
    clear hvl hlv hV sp ev hs
    go_enter Try.func33, Try.ntmps33
    go_wp2_with fail
    (with_reducible refine AT.out.mono ?_)
    rintro e w1 ⟨rfl, rfl⟩
    go_wp2_with fail
    (with_reducible refine CL.out.mono ?_)
    rintro e w1 ⟨u, rfl, hu, hb⟩
    have HU := Lib.hid hu
    have HB := Lib.hid hb
    clear hu hb
    go_wp2
    go_ret2
    exact ⟨_, rfl, own_lower HU.out (by simp), (new_ (Below.refl _ _) _).trans (HB.out.mono (by simp))⟩
  · have hlt : V - 1 < p.2.2.length := by omega
    have hlw : V - 1 < s'.wait.length := by omega
    have hcur : s'.cur = s'.wait[V - 1] := by
      unfold Se.cur
      rw [List.getLast?_eq_getElem?, ← hvl, List.getElem?_eq_getElem hlw]; rfl
    rw [hcur]
    obtain ⟨Ax, cx, ex⟩ := HV.out.form_w p.2.2[V - 1] (List.getElem_mem hlt)
    have hrow := HV.out.row (V - 1) _ _ (List.getElem?_eq_getElem hlt) (List.getElem?_eq_getElem hlw)
    have hrl := HV.out.lens _ (List.getElem_mem hlw)
    have CL := Lib.hid (rlent_any _ (s'.wait[V - 1]) (w.alloc (.cells #[.slice (some ⟨gu, 0, none⟩) 128 cu, .slice Av V cv] 74)) w.heap.size ((hrow.ir hrl).alloc (Nat.le_refl _) _) (by rw [hrl]; decide))
    rw [ex, hrl] at CL
    generalize s'.wait[V - 1] = X at CL hrow hrl hcur ⊢
    obtain ⟨gv, eg⟩ : ∃ gv, Av = some ⟨gv, 0, none⟩ := by
      have hwt := HV.out.wait.1.2
      rw [ev] at hwt
      rcases hwt with ⟨_, h0⟩ | ⟨gv, cap, _, e1, _⟩
      · omega
      · injection e1 with e1; exact ⟨gv, e1⟩
    subst eg
    have kx : w.cell? ⟨gv, V - 1, none⟩ = some (.slice Ax 128 cx) := by
      have hwt := HV.out.wait.1
      rw [ev] at hwt
      rw [hwt.cellAt (V - 1) (by omega), List.getElem?_eq_getElem hlt, ex]
    obtain ⟨m, hm⟩ : ∃ m, m = V - 1 := ⟨_, rfl⟩
    rw [← hm] at kx
    have hgv : gv < w.heap.size := by
      have hwt := HV.out.wait.1
      rw [ev] at hwt
      exact (hwt.lt gv rfl).2
    have kx' : ∀ o : Obj, (w.alloc o).cell? ⟨gv, m, none⟩ = some (.slice Ax 128 cx) := fun o => ((new_ (Below.refl w.heap.size w) o).cell (p := ⟨gv, m, none⟩) hgv).trans kx
    have d1 : decide (0 < (V : Int)) = true := by simp; omega
    have d1n : decide (0 < V) = true := by simp; omega
    have wn : wrap64 ((V : Int) - 1) = (m : Int) := by rw [wrap64_in _ (by omega)]; omega
    have wn' : IntKind.i64.wrap ((V : Int) - 1) = (m : Int) := by rw [IntWalk.i64_in _ (by omega)]; omega
    have hm1 : m < V := by omega
    clear hvl hV sp ev hs hrow hrl hcur hm hz ex
    go_enter Try.func33, Try.ntmps33
    go_wp2_with fail
    (with_reducible refine AT.out.mono ?_)
    rintro e w1 ⟨rfl, rfl⟩
    go_wp2_with fail
    (with_reducible refine CL.out.mono ?_)
    rintro e w1 ⟨u, rfl, hu, hb⟩
    have HU := Lib.hid hu
    have HB := Lib.hid hb
    clear hu hb
    go_wp2
    go_ret2
    exact ⟨_, rfl, own_lower HU.out (by simp), (new_ (Below.refl _ _) _).trans (HB.out.mono (by simp))⟩
theorem rwaits_yes {w : World} {S : Nat → Prop} {b : Nat} {D : Dv} {col : Nat → Nat} {fv : Nat → Value} {uv : Nat → List Pl} (h : DR w S b D col fv uv) (i : Nat) (hi : i < 2) (n : Nat) (s : Se) (hs : (D.f i)[n]? = some s) (N : Int) (hN : N = n) :
    Calls Try.prog 36 #[.pointer (some ⟨b, 0, none⟩), .int .u8 i, .int .i64 N] w fun e w' => e = .returned (.int .i64 s.wait.length) ∧ w = w' := by
  subst hN
  have hn : n < (D.f i).length := (List.getElem?_eq_some_iff.1 hs).1
  obtain ⟨g, cap, C, p, s', sp⟩ := (h.file i hi).spot n hn
  obtain rfl : s' = s := Option.some.inj (sp.hs.symm.trans hs)
  have AT := Lib.hid (rnone_no w b fv D.lim D.left D.dead h.box i hi _ _ cap sp.hv n hn (n : Int) rfl)
  have wi := i8_wrap i (by omega)
  have hi2 : (i : Int) < 2 := by omega
  have kc : w.cell? ⟨b, i, none⟩ = some (.slice (some ⟨g, 0, none⟩) (D.f i).length cap) := by
    rw [h.box.cell i, ← sp.hv]
    rcases two hi with rfl | rfl <;> rfl
  obtain ⟨LL, hLL⟩ : ∃ LL, LL = (D.f i).length := ⟨_, rfl⟩
  rw [← hLL] at kc hn
  have hcapL : LL ≤ cap := by rw [hLL]; exact sp.hcap
  obtain ⟨Av, cv, ev, hlv⟩ := sp.sec.form_v
  have k1 : w.cell? ⟨g, n * 2 + 1, none⟩ = some p.2.1 := by rw [sp.box.cell, Nat.mul_comm]; exact sp.c1
  rw [ev, sp.sec.n] at k1
  clear sp ev hs h hlv
  go_enter Try.func36, Try.ntmps36
  go_wp2_with fail
  (with_reducible refine AT.out.mono ?_)
  rintro e w1 ⟨rfl, rfl⟩
  go_wp2
  go_ret
  exact ⟨rfl, rfl⟩
theorem read_no {w : World} {S : Nat → Prop} {b : Nat} {D : Dv} {col : Nat → Nat} {fv : Nat → Value} {uv : Nat → List Pl} (h : DA w S b D col fv uv) (i : Nat) (hi : i ≤ 255) (N : Int) (hno : ¬ D.has i N) :
    Calls Try.prog 31 #[.pointer (some ⟨b, 0, none⟩), .int .u8 i, .int .i64 N] w fun e w' => e = .returned (.tuple #[.slice none 0 0, .int .u16 50]) ∧ w = w' := by
  obtain ⟨A, L, c, h1, h2⟩ := h.formv i
  have AT := Lib.hid (at_no w b fv D.lim D.left D.dead h.box i hi A L c (fun h => (h1 h).1) h2 N (by by_cases hi2 : i < 2; (have := (h1 hi2).2; unfold Dv.has at hno; omega); (have := (h2 hi2).2.1; omega)))
  clear h h1 h2 hno
  go_enter Try.func31, Try.ntmps31
  go_wp2_with fail
  (with_reducible refine AT.out.mono ?_)
  rintro e w1 ⟨rfl, rfl⟩
  go_wp2
  go_ret2
  exact ⟨rfl, rfl⟩
theorem waits_no {w : World} {S : Nat → Prop} {b : Nat} {D : Dv} {col : Nat → Nat} {fv : Nat → Value} {uv : Nat → List Pl} (h : DA w S b D col fv uv) (i : Nat) (hi : i ≤ 255) (N : Int) (hno : ¬ D.has i N) :
    Calls Try.prog 23 #[.pointer (some ⟨b, 0, none⟩), .int .u8 i, .int .i64 N] w fun e w' => e = .returned (.int .i64 0) ∧ w = w' := by
  obtain ⟨A, L, c, h1, h2⟩ := h.formv i
  have AT := Lib.hid (at_no w b fv D.lim D.left D.dead h.box i hi A L c (fun h => (h1 h).1) h2 N (by by_cases hi2 : i < 2; (have := (h1 hi2).2; unfold Dv.has at hno; omega); (have := (h2 hi2).2.1; omega)))
  clear h h1 h2 hno
  go_enter Try.func23, Try.ntmps23
  go_wp2_with fail
  (with_reducible refine AT.out.mono ?_)
  rintro e w1 ⟨rfl, rfl⟩
  go_wp2
  go_ret
  exact ⟨rfl, rfl⟩
theorem rread_no {w : World} {S : Nat → Prop} {b : Nat} {D : Dv} {col : Nat → Nat} {fv : Nat → Value} {uv : Nat → List Pl} (h : DR w S b D col fv uv) (i : Nat) (hi : i ≤ 255) (N : Int) (hno : ¬ D.has i N) :
    Calls Try.prog 33 #[.pointer (some ⟨b, 0, none⟩), .int .u8 i, .int .i64 N] w fun e w' => e = .returned (.tuple #[.slice none 0 0, .int .i64 50]) ∧ w = w' := by
  obtain ⟨A, L, c, h1, h2⟩ := h.formv i
  have AT := Lib.hid (rnone_yes w b fv D.lim D.left D.dead h.box i hi A L c (fun h => (h1 h).1) N (fun hi2 => by have := (h1 hi2).2; unfold Dv.has at hno; omega))
  clear h h1 h2 hno
  go_enter Try.func33, Try.ntmps33
  go_wp2_with fail
  (with_reducible refine AT.out.mono ?_)
  rintro e w1 ⟨rfl, rfl⟩
  go_wp2
  go_ret2
  exact ⟨rfl, rfl⟩
theorem rwaits_no {w : World} {S : Nat → Prop} {b : Nat} {D : Dv} {col : Nat → Nat} {fv : Nat → Value} {uv : Nat → List Pl} (h : DR w S b D col fv uv) (i : Nat) (hi : i ≤ 255) (N : Int) (hno : ¬ D.has i N) :
    Calls Try.prog 36 #[.pointer (some ⟨b, 0, none⟩), .int .u8 i, .int .i64 N] w fun e w' => e = .returned (.int .i64 0) ∧ w = w' := by
  obtain ⟨A, L, c, h1, h2⟩ := h.formv i
  have AT := Lib.hid (rnone_yes w b fv D.lim D.left D.dead h.box i hi A L c (fun h => (h1 h).1) N (fun hi2 => by have := (h1 hi2).2; unfold Dv.has at hno; omega))
  clear h h1 h2 hno
  go_enter Try.func36, Try.ntmps36
  go_wp2_with fail
  (with_reducible refine AT.out.mono ?_)
  rintro e w1 ⟨rfl, rfl⟩
  go_wp2
  go_ret
  exact ⟨rfl, rfl⟩
end Go.Proofs.Ytplombkpefacgaa.Disk

/- The document's Write. -/
namespace Go.Proofs.Ytplombkpefacgaa.Disk
open Go.ChangeShapes Go.WideShapes Go.ChangeAt Go.RowKit Go.IntWalk Go.Proofs.Mem Go.Proofs.Each
set_option linter.unusedVariables false
set_option linter.unusedSimpArgs false
set_option maxRecDepth 100000 in
set_option maxHeartbeats 8000000 in
theorem rwrite_yes {w : World} {S : Nat → Prop} {b : Nat} {D : Dv} {col : Nat → Nat} {fv : Nat → Value} {uv : Nat → List Pl} (h : DR w S b D col fv uv) (i : Nat) (hi : i < 2) (n : Nat) (s : Se) (hs : (D.f i)[n]? = some s) (hw : s.wait.length ≤ 100000) (N : Int) (hN : N = n)
    (dv : Value) (xs : List Int) (hdf : ∀ w', Fr S w w' → IR w' w'.heap.size .u8 dv xs) (hxl : xs.length = 128) (hxb : Bytes xs) :
    Calls Try.prog 39 #[.pointer (some ⟨b, 0, none⟩), .int .u8 i, .int .i64 N, dv] w fun e w' => e = .returned (.int .i64 0) ∧ (∃ col' uv', DR w' (growS w w' S) b (D.wr i n s xs) col' fv uv') ∧ Fr S w w' := by
  subst hN
  have hn : n < (D.f i).length := (List.getElem?_eq_some_iff.1 hs).1
  obtain ⟨g, cap, C, p, s', sp⟩ := (h.file i hi).spot n hn
  obtain rfl : s' = s := Option.some.inj (sp.hs.symm.trans hs)
  obtain ⟨j0, hj0, hj1, hj2, hj3⟩ := info_parts bs_info
  have AT := Lib.hid (rnone_no w b fv D.lim D.left D.dead h.box i hi _ _ cap sp.hv n hn (n : Int) rfl)
  have CT := Lib.hid (stopped_any w b fv D.lim D.left D.dead h.box h.left)
  have wi := i8_wrap i (by omega)
  have hi2 : (i : Int) < 2 := by omega
  have hd := hdf w (Fr.refl _ _)
  obtain ⟨Ad, cd, ed, hld, hcd⟩ := hd.form
  rw [hxl] at ed
  subst ed
  have HH := Lib.hid h
  have SP := Lib.hid sp
  have HDF := Lib.hid hdf
  have HXL := Lib.hid hxl
  have HXB := Lib.hid hxb
  have HWL := Lib.hid hw
  have gb : g ≠ b := fun e => by have h1 := h.bcol; have h2 := sp.hcol; rw [e] at h2; rw [h1] at h2; unfold fc at h2; omega
  obtain ⟨q, hq⟩ : ∃ q, q = cntB D.lim D.left := ⟨_, rfl⟩
  rw [← hq] at CT
  have HQ := Lib.hid hq
  clear hs hd hdf hxl hxb hld hcd h sp hq hw
  go_enter Try.func39, Try.ntmps39
  go_wp2_with fail
  (with_reducible refine AT.out.mono ?_)
  rintro e w0 ⟨rfl, rfl⟩
  go_wp2_with fail
  (with_reducible refine CT.out.mono ?_)
  rintro e w1 ⟨rfl, hb1, hf1⟩
  have h1 := HH.out.head hf1 D.lim _ _ (cnt_left HH.out.left) hb1
  have H1 := Lib.hid h1
  have F1 := Lib.hid hf1
  clear h1 hb1
  cases q
  case false =>
    go_wp2
    go_ret
    refine ⟨rfl, ⟨col, uv, ?_⟩, F1.out.mono (fun k _ hk => by rw [hk]; exact HH.out.here)⟩
    unfold Dv.wr
    rw [if_neg (by rw [← HQ.out]; decide)]
    exact H1.out.grow
  case true =>
    have hsec := SP.out.sec.fr hf1 (fun x hx e => by rw [e, HH.out.bcol]; unfold fc; omega) (fun _ _ => rfl)
    have bx1 := SP.out.box.fr hf1 gb
    obtain ⟨Av, cv, ev, hlv⟩ := hsec.form_v
    obtain ⟨vs, hvs⟩ : ∃ vs, vs = p.2.2 := ⟨_, rfl⟩
    rw [← hvs] at ev hlv hsec
    obtain ⟨V, hV⟩ : ∃ V, V = vs.length := ⟨_, rfl⟩
    rw [← hV] at ev hlv
    have HVB := Lib.hid (show V ≤ 100000 by have := hsec.n; have := HWL.out; omega)
    have C1 := Lib.hid (show C[2 * n + 1]? = some (.slice Av V cv) by rw [← ev]; exact SP.out.c1)
    have BX1 := Lib.hid bx1
    obtain ⟨LL, hLL⟩ : ∃ LL, LL = (D.f i).length := ⟨_, rfl⟩
    have BB1 := Lib.hid (show Box w1 b (dC fv D.lim (cntL D.lim D.left) (cntD D.lim D.left D.dead)) 72 from H1.out.box)
    have CB1 := Lib.hid (show (dC fv D.lim (cntL D.lim D.left) (cntD D.lim D.left D.dead))[i]? = some (.slice (some ⟨g, 0, none⟩) LL cap) by rw [hLL, ← SP.out.hv]; rcases two hi with h9 | h9 <;> (subst h9; rfl))
    have hcapL : LL ≤ cap := by rw [hLL]; exact SP.out.hcap
    have hnL : n < LL := by rw [hLL]; exact hn
    have HLL := Lib.hid hLL
    clear hLL hn
    have OW1 := Lib.hid (show w1.ownsRow 0 30 1 (.slice Av V cv) V vs by have := hsec.wait.1; rw [ev, ← hV] at this; exact this)
    have HRG : (Value.slice Av V cv).ownBlock ≠ some g := fun e => by
      have h2 := hsec.wait.2 g (by rw [ev]; exact e)
      have h3 := SP.out.hcol
      omega
    have HRB : (Value.slice Av V cv).ownBlock ≠ some b := fun e => by
      have h2 := hsec.wait.2 b (by rw [ev]; exact e)
      have h3 := HH.out.bcol
      omega
    have HRL := Lib.hid (show ∀ k, (Value.slice Av V cv).ownBlock = some k → k < w1.heap.size from fun k e => (OW1.out.lt k e).2)
    have HD1 := Lib.hid (show IR w1 w1.heap.size .u8 (.slice Ad 128 cd) xs from HDF.out w1 (F1.out.mono (fun k _ hk => by rw [hk]; exact HH.out.here)))
    have SEC := Lib.hid hsec
    have EV := Lib.hid ev
    have HVS := Lib.hid hvs
    have HVL := Lib.hid hV
    clear hf1 hsec bx1 ev hvs hV hlv
    go_wp2
    refine wp_region_app (by kernel_rfl) (by kernel_rfl) (Value.slice Av V cv).ownBlock g 20 23 74 (fun v => C.setIfInBounds (2 * n + 1) v) [(fun v _ => v = .pointer (some ⟨b, 0, none⟩)), (fun v _ => v = .int .u8 i), (fun v _ => v = .pointer (some ⟨b, 0, none⟩)), (fun v _ => v = .pointer (some ⟨b, 0, none⟩)), (fun v _ => v = .pointer (some ⟨b, i, none⟩)), (fun v _ => v = .slice (some ⟨g, 0, none⟩) LL cap), (fun v _ => v = .int .i64 n), (fun v _ => v = .pointer (some ⟨b, 0, none⟩)), (fun v _ => v = .int .u8 i), (fun v _ => v = .pointer (some ⟨b, 0, none⟩)), (fun v _ => v = .pointer (some ⟨b, 0, none⟩)), (fun v _ => v = .pointer (some ⟨b, i, none⟩)), (fun v _ => v = .slice (some ⟨g, 0, none⟩) LL cap), (fun v _ => v = .int .i64 n), (fun v _ => v = .pointer (some ⟨g, n * 2, none⟩)), (fun v _ => v = .pointer (some ⟨g, n * 2 + 1, none⟩)), (fun v _ => v = .slice Av V cv), (fun v _ => v = .slice Ad 128 cd), (fun v W => W.ownsRow w1.heap.size 5 1 v 128 (xs.map (.int .u8))), (fun v W => ∃ g1, v = .slice (some ⟨g1, 0, none⟩) 1 1 ∧ w1.heap.size ≤ g1 ∧ ∃ x, Box W g1 #[x] 30 ∧ W.ownsRow w1.heap.size 5 1 x 128 (xs.map (.int .u8))), (fun v W => ∃ x, W.ownsRow 0 30 1 v (V + 1) (vs ++ [x]) ∧ W.ownsRow w1.heap.size 5 1 x 128 (xs.map (.int .u8)) ∧ (v.ownBlock = (Value.slice Av V cv).ownBlock ∨ ∀ k, v.ownBlock = some k → w1.heap.size ≤ k)), (fun v _ => v = .pointer (some ⟨g, n * 2, none⟩)), (fun v _ => v = .pointer (some ⟨g, n * 2 + 1, none⟩)), (fun v _ => v = undef)] (by decide) (by intro o ho; injection ho with ho; subst ho; exact ⟨⟨20, .data⟩, by simp, rfl, rfl⟩) HRG ?_ (fun vals => ?_) (fun vals W hfr hbx hall _ => ?_) (by decide)
    · intro j v W W' hj hsz hf h
      match j, hj, h with
      | 0, _, h => exact h
      | 1, _, h => exact h
      | 2, _, h => exact h
      | 3, _, h => exact h
      | 4, _, h => exact h
      | 5, _, h => exact h
      | 6, _, h => exact h
      | 7, _, h => exact h
      | 8, _, h => exact h
      | 9, _, h => exact h
      | 10, _, h => exact h
      | 11, _, h => exact h
      | 12, _, h => exact h
      | 13, _, h => exact h
      | 14, _, h => exact h
      | 15, _, h => exact h
      | 16, _, h => exact h
      | 17, _, h => exact h
      | 18, _, h => exact own_frS h hf (fun k hk hs => by have := (h.lt k hk).1; rcases hs with ⟨_, h1⟩ | h1; (have := HRL.out _ h1; omega); (have := BX1.out.lt; omega))
      | 19, _, h => obtain ⟨g1, e1, e2, x, e3, e4⟩ := h; exact ⟨g1, e1, e2, x, e3.fr hf (fun hk => by rcases hk with ⟨_, h1⟩ | h1; (have := HRL.out _ h1; omega); (have := BX1.out.lt; omega)), own_frS e4 hf (fun k hk hs => by have := (e4.lt k hk).1; rcases hs with ⟨_, h1⟩ | h1; (have := HRL.out _ h1; omega); (have := BX1.out.lt; omega))⟩
      | 20, _, h => obtain ⟨x, e1, e2, e3⟩ := h; exact ⟨x, own_frS e1 hf (fun k hk hs => by rcases hs with ⟨h1, _⟩ | h1; (exact h1 rfl); (subst h1; rcases e3 with h3 | h3; (rw [h3] at hk; exact HRG hk); (have := h3 _ hk; have := BX1.out.lt; omega))), own_frS e2 hf (fun k hk hs => by have := (e2.lt k hk).1; rcases hs with ⟨h1, _⟩ | h1; (exact h1 rfl); (have := BX1.out.lt; omega)), e3⟩
      | 21, _, h => exact h
      | 22, _, h => exact h
      | 23, hj, _ => exact absurd rfl hj
      | _ + 24, _, _ => trivial
    · simp only [ObL, Act.put, List.setIfInBounds_toArray, List.set_cons_succ, List.set_cons_zero]
      refine ⟨?_, ?_, ?_, ?_, ?_, ?_, ?_, ?_, ?_, ?_, ?_, ?_, ?_, ?_, ?_, ?_, ?_, ?_, ?_, ?_, ?_, ?_, ?_, ?_, trivial⟩
      · intro L W hL hk hC hw
        clear hw
        clear hL hC hk
        refine step_plain rfl ?_
        go_simp
        first | exact ⟨Ra.same _, Fa.val (by decide) rfl rfl⟩ | exact ⟨_, rfl, Ra.same _, Fa.val (by decide) rfl rfl⟩
      · intro L W hL hk hC hw
        clear hw
        clear hL hC hk
        refine step_plain rfl ?_
        go_simp
        first | exact ⟨Ra.same _, Fa.val (by decide) rfl rfl⟩ | exact ⟨_, rfl, Ra.same _, Fa.val (by decide) rfl rfl⟩
      · intro L W hL hk hC hw
        have f0 : vals 0 = .pointer (some ⟨b, 0, none⟩) := Fa.get (hw ⟨0, .data⟩ (by simp) rfl) (by decide)
        clear hw
        clear hL hC hk
        refine step_plain rfl ?_
        go_simp
        first | exact ⟨Ra.same _, Fa.val (by decide) rfl rfl⟩ | exact ⟨_, rfl, Ra.same _, Fa.val (by decide) rfl rfl⟩
      · intro L W hL hk hC hw
        have f2 : vals 2 = .pointer (some ⟨b, 0, none⟩) := Fa.get (hw ⟨2, .data⟩ (by simp) rfl) (by decide)
        clear hw
        clear hL hC hk
        refine step_plain rfl ?_
        go_simp
        first | exact ⟨Ra.same _, Fa.val (by decide) rfl rfl⟩ | exact ⟨_, rfl, Ra.same _, Fa.val (by decide) rfl rfl⟩
      · intro L W hL hk hC hw
        have f3 : vals 3 = .pointer (some ⟨b, 0, none⟩) := Fa.get (hw ⟨3, .data⟩ (by simp) rfl) (by decide)
        have f1 : vals 1 = .int .u8 i := Fa.get (hw ⟨1, .data⟩ (by simp) rfl) (by decide)
        clear hw
        clear hL hC hk
        refine step_plain rfl ?_
        go_simp
        first | exact ⟨Ra.same _, Fa.val (by decide) rfl rfl⟩ | exact ⟨_, rfl, Ra.same _, Fa.val (by decide) rfl rfl⟩
      · intro L W hL hk hC hw
        have f4 : vals 4 = .pointer (some ⟨b, i, none⟩) := Fa.get (hw ⟨4, .data⟩ (by simp) rfl) (by decide)
        clear hw
        have bx := BB1.out.fr hC (fun hk => by rcases hk with ⟨_, h1⟩ | ⟨_, h1⟩; (exact HRB h1); (exact gb h1.symm))
        have kc : W.cell? ⟨b, i, none⟩ = some (.slice (some ⟨g, 0, none⟩) LL cap) := (bx.cell i).trans CB1.out
        clear hL hC hk bx
        refine step_plain rfl ?_
        go_simp
        first | exact ⟨Ra.same _, Fa.val (by decide) rfl rfl⟩ | exact ⟨_, rfl, Ra.same _, Fa.val (by decide) rfl rfl⟩
      · intro L W hL hk hC hw
        clear hw
        clear hL hC hk
        refine step_plain rfl ?_
        go_simp
        first | exact ⟨Ra.same _, Fa.val (by decide) rfl rfl⟩ | exact ⟨_, rfl, Ra.same _, Fa.val (by decide) rfl rfl⟩
      · intro L W hL hk hC hw
        clear hw
        clear hL hC hk
        refine step_plain rfl ?_
        go_simp
        first | exact ⟨Ra.same _, Fa.val (by decide) rfl rfl⟩ | exact ⟨_, rfl, Ra.same _, Fa.val (by decide) rfl rfl⟩
      · intro L W hL hk hC hw
        clear hw
        clear hL hC hk
        refine step_plain rfl ?_
        go_simp
        first | exact ⟨Ra.same _, Fa.val (by decide) rfl rfl⟩ | exact ⟨_, rfl, Ra.same _, Fa.val (by decide) rfl rfl⟩
      · intro L W hL hk hC hw
        have f7 : vals 7 = .pointer (some ⟨b, 0, none⟩) := Fa.get (hw ⟨7, .data⟩ (by simp) rfl) (by decide)
        clear hw
        clear hL hC hk
        refine step_plain rfl ?_
        go_simp
        first | exact ⟨Ra.same _, Fa.val (by decide) rfl rfl⟩ | exact ⟨_, rfl, Ra.same _, Fa.val (by decide) rfl rfl⟩
      · intro L W hL hk hC hw
        have f9 : vals 9 = .pointer (some ⟨b, 0, none⟩) := Fa.get (hw ⟨9, .data⟩ (by simp) rfl) (by decide)
        clear hw
        clear hL hC hk
        refine step_plain rfl ?_
        go_simp
        first | exact ⟨Ra.same _, Fa.val (by decide) rfl rfl⟩ | exact ⟨_, rfl, Ra.same _, Fa.val (by decide) rfl rfl⟩
      · intro L W hL hk hC hw
        have f10 : vals 10 = .pointer (some ⟨b, 0, none⟩) := Fa.get (hw ⟨10, .data⟩ (by simp) rfl) (by decide)
        have f8 : vals 8 = .int .u8 i := Fa.get (hw ⟨8, .data⟩ (by simp) rfl) (by decide)
        clear hw
        clear hL hC hk
        refine step_plain rfl ?_
        go_simp
        first | exact ⟨Ra.same _, Fa.val (by decide) rfl rfl⟩ | exact ⟨_, rfl, Ra.same _, Fa.val (by decide) rfl rfl⟩
      · intro L W hL hk hC hw
        have f11 : vals 11 = .pointer (some ⟨b, i, none⟩) := Fa.get (hw ⟨11, .data⟩ (by simp) rfl) (by decide)
        clear hw
        have bx := BB1.out.fr hC (fun hk => by rcases hk with ⟨_, h1⟩ | ⟨_, h1⟩; (exact HRB h1); (exact gb h1.symm))
        have kc : W.cell? ⟨b, i, none⟩ = some (.slice (some ⟨g, 0, none⟩) LL cap) := (bx.cell i).trans CB1.out
        clear hL hC hk bx
        refine step_plain rfl ?_
        go_simp
        first | exact ⟨Ra.same _, Fa.val (by decide) rfl rfl⟩ | exact ⟨_, rfl, Ra.same _, Fa.val (by decide) rfl rfl⟩
      · intro L W hL hk hC hw
        clear hw
        clear hL hC hk
        refine step_plain rfl ?_
        go_simp
        first | exact ⟨Ra.same _, Fa.val (by decide) rfl rfl⟩ | exact ⟨_, rfl, Ra.same _, Fa.val (by decide) rfl rfl⟩
      · intro L W hL hk hC hw
        have f12 : vals 12 = .slice (some ⟨g, 0, none⟩) LL cap := Fa.get (hw ⟨12, .data⟩ (by simp) rfl) (by decide)
        have f13 : vals 13 = .int .i64 n := Fa.get (hw ⟨13, .data⟩ (by simp) rfl) (by decide)
        clear hw
        clear hL hC hk
        refine step_plain rfl ?_
        go_simp
        first | exact ⟨Ra.same _, Fa.val (by decide) rfl rfl⟩ | exact ⟨_, rfl, Ra.same _, Fa.val (by decide) rfl rfl⟩
      · intro L W hL hk hC hw
        have f14 : vals 14 = .pointer (some ⟨g, n * 2, none⟩) := Fa.get (hw ⟨14, .data⟩ (by simp) rfl) (by decide)
        clear hw
        clear hL hC hk
        refine step_plain rfl ?_
        go_simp
        first | exact ⟨Ra.same _, Fa.val (by decide) rfl rfl⟩ | exact ⟨_, rfl, Ra.same _, Fa.val (by decide) rfl rfl⟩
      · intro L W hL hk hC hw
        have f15 : vals 15 = .pointer (some ⟨g, n * 2 + 1, none⟩) := Fa.get (hw ⟨15, .data⟩ (by simp) rfl) (by decide)
        clear hw
        have bx := hC.box BX1.out (hL.not_yet hk 23 8 (by decide +kernel)) HRG
        have kc : W.cell? ⟨g, n * 2 + 1, none⟩ = some (.slice Av V cv) := by rw [bx.cell, Nat.mul_comm]; exact C1.out
        clear hL hC hk bx
        refine step_plain rfl ?_
        go_simp
        first | exact ⟨Ra.same _, Fa.val (by decide) rfl rfl⟩ | exact ⟨_, rfl, Ra.same _, Fa.val (by decide) rfl rfl⟩
      · intro L W hL hk hC hw
        clear hw
        clear hL hC hk
        refine step_plain rfl ?_
        go_simp
        first | exact ⟨Ra.same _, Fa.val (by decide) rfl rfl⟩ | exact ⟨_, rfl, Ra.same _, Fa.val (by decide) rfl rfl⟩
      · intro L W hL hk hC hw
        have f17 : vals 17 = .slice Ad 128 cd := Fa.get (hw ⟨17, .data⟩ (by simp) rfl) (by decide)
        clear hw
        have hb := hC.below (hL.not_yet hk 20 8 (by decide +kernel)) (hL.not_yet hk 23 8 (by decide +kernel))
        have hsz := hb.size
        have CL := Lib.hid (rlent_any _ xs W W.heap.size ((HD1.out.below hb).more hb.size) (by have := HXL.out; omega))
        clear hL hC hk hb
        refine step_plain rfl ?_
        go_simp
        (with_reducible refine CL.out.mono ?_)
        rintro e w8 ⟨u, rfl, hu, hb8⟩
        have hu2 := own_len (own_lower hu hsz) HXL.out
        first | exact ⟨Ra.of_below hb8, Fa.val (by decide) rfl hu2⟩ | exact ⟨_, rfl, Ra.of_below hb8, Fa.val (by decide) rfl hu2⟩
      · intro L W hL hk hC hw
        have f18 : W.ownsRow w1.heap.size 5 1 (vals 18) 128 (xs.map (.int .u8)) := Fa.get (hw ⟨18, .data⟩ (by simp) rfl) (by decide)
        clear hw
        have hsz := Lib.hid (show w1.heap.size ≤ W.heap.size from hC.size)
        obtain ⟨A6, c6, e6⟩ := own_slice' f18
        rw [e6] at f18
        have F6 := Lib.hid f18
        clear hL hC hk f18
        refine step_plain rfl ?_
        go_simp
        have hz := new_ (Below.refl W.heap.size W) (.cells #[.slice A6 128 c6] 30)
        first | exact ⟨Ra.of_below hz, Fa.val (by decide) rfl ⟨_, rfl, hsz.out, _, Box.new _ _ _, own_below F6.out hz⟩⟩ | exact ⟨_, rfl, Ra.of_below hz, Fa.val (by decide) rfl ⟨_, rfl, hsz.out, _, Box.new _ _ _, own_below F6.out hz⟩⟩
      · intro L W hL hk hC hw
        have f16 : vals 16 = .slice Av V cv := Fa.get (hw ⟨16, .data⟩ (by simp) rfl) (by decide)
        have f19 : ∃ g1, (vals 19) = .slice (some ⟨g1, 0, none⟩) 1 1 ∧ w1.heap.size ≤ g1 ∧ ∃ x, Box W g1 #[x] 30 ∧ W.ownsRow w1.heap.size 5 1 x 128 (xs.map (.int .u8)) := Fa.get (hw ⟨19, .data⟩ (by simp) rfl) (by decide)
        clear hw
        have hb := hC.below hk (hL.not_yet hk 23 8 (by decide +kernel))
        have ow := own_below OW1.out hb
        obtain ⟨g1, e7, hg1, x, hbx1, hx1⟩ := f19
        obtain ⟨Ax, cx, ex⟩ := own_slice' hx1
        subst ex
        clear hL hC hk
        refine step_plain rfl ?_
        refine wp_push W _ _ _ rfl 0 30 j0 _ 1 24 Try.underlying35 hj0 hj1 hj2 hj3 rfl (by decide) [.slice Ax 128 cx] rfl (by intro u hu; simp only [List.mem_singleton] at hu; subst hu; rfl) (.slice Av V cv) V vs f16 ow g1 _ e7 hbx1 (by simp only [maxLen]; have := HVB.out; omega) (by have := HVB.out; omega) (Nat.zero_le _) ?_
        intro v1 w2 ho1 hgr1 hb1
        have hk1 : (Value.slice Ax 128 cx).ownBlock = none ∨ (Value.slice Ax 128 cx).ownBlock ≠ (Value.slice Av V cv).ownBlock := by
              refine .inr (fun e9 => ?_)
              cases hAx : (Value.slice Ax 128 cx).ownBlock with
              | none => rcases hx1.2 with ⟨_, h0⟩ | ⟨q, _, _, eq, _⟩; (cases h0); (rw [eq] at hAx; cases hAx)
              | some q => have h8 := (hx1.lt q hAx).1; rw [hAx] at e9; have := HRL.out q e9.symm; omega
        have hk2 : v1.ownBlock = (Value.slice Av V cv).ownBlock ∨ ∀ k, v1.ownBlock = some k → w1.heap.size ≤ k := by
              rcases hb1 with h | h
              · exact .inl h
              · exact .inr (fun k hk => by rw [h] at hk; injection hk with hk; have := hb.size; omega)
        exact ⟨_, rfl, Fr.grown (Fr.refl _ _) hgr1 (fun g e => .inl (.inl ⟨rfl, e⟩)), Fa.val (by decide) rfl ⟨_, ho1, hx1.kept hgr1 hk1, hk2⟩⟩
      · intro L W hL hk hC hw
        have f5 : vals 5 = .slice (some ⟨g, 0, none⟩) LL cap := Fa.get (hw ⟨5, .data⟩ (by simp) rfl) (by decide)
        have f6 : vals 6 = .int .i64 n := Fa.get (hw ⟨6, .data⟩ (by simp) rfl) (by decide)
        clear hw
        clear hL hC hk
        refine step_plain rfl ?_
        go_simp
        first | exact ⟨Ra.same _, Fa.val (by decide) rfl rfl⟩ | exact ⟨_, rfl, Ra.same _, Fa.val (by decide) rfl rfl⟩
      · intro L W hL hk hC hw
        have f21 : vals 21 = .pointer (some ⟨g, n * 2, none⟩) := Fa.get (hw ⟨21, .data⟩ (by simp) rfl) (by decide)
        clear hw
        clear hL hC hk
        refine step_plain rfl ?_
        go_simp
        first | exact ⟨Ra.same _, Fa.val (by decide) rfl rfl⟩ | exact ⟨_, rfl, Ra.same _, Fa.val (by decide) rfl rfl⟩
      · intro L W hL hk hC hw
        have f22 : vals 22 = .pointer (some ⟨g, n * 2 + 1, none⟩) := Fa.get (hw ⟨22, .data⟩ (by simp) rfl) (by decide)
        have f20 : ∃ x, W.ownsRow 0 30 1 (vals 20) (V + 1) (vs ++ [x]) ∧ W.ownsRow w1.heap.size 5 1 x 128 (xs.map (.int .u8)) ∧ ((vals 20).ownBlock = (Value.slice Av V cv).ownBlock ∨ ∀ k, (vals 20).ownBlock = some k → w1.heap.size ≤ k) := Fa.get (hw ⟨20, .data⟩ (by simp) rfl) (by decide)
        clear hw
        have bx := hC.box BX1.out hk HRG
        obtain ⟨x, hx8, hxx, hx9⟩ := f20
        obtain ⟨A2, l2, e21⟩ := own_slice' hx8
        have kc : ∃ z, W.cell? ⟨g, n * 2 + 1, none⟩ = some z := ⟨_, by rw [bx.cell, Nat.mul_comm]; exact C1.out⟩
        obtain ⟨z, kc⟩ := kc
        have fc := bx.frozen (n * 2 + 1)
        clear hL hC hk
        refine step_plain rfl ?_
        go_simp
        have hb9 := Box.set_ bx (n * 2 + 1) (.slice A2 (V + 1) l2)
        exact ⟨Fr.setCell (Fr.refl _ _) (p := ⟨g, n * 2 + 1, none⟩) (.inl (.inr ⟨rfl, rfl⟩)) _, undef, Fa.last (by decide) (by rw [e21, Nat.mul_comm 2 n]; exact hb9)⟩
    · simp only [TL, Act.put, List.setIfInBounds_toArray, List.set_cons_succ, List.set_cons_zero]
      have f8 : ∃ x, W.ownsRow 0 30 1 (vals 20) (V + 1) (vs ++ [x]) ∧ W.ownsRow w1.heap.size 5 1 x 128 (xs.map (.int .u8)) ∧ ((vals 20).ownBlock = (Value.slice Av V cv).ownBlock ∨ ∀ k, (vals 20).ownBlock = some k → w1.heap.size ≤ k) := hall 20 (by decide) (by decide)
      obtain ⟨x, o8, ox, h8⟩ := f8
      have hse := SEC.out.wr (g := g) (by have := SP.out.hcol; omega) HXL.out HXB.out (v' := vals 20) (x := x) (by rw [EV.out]; exact hfr) (by rw [← HVL.out]; exact o8) (by rw [EV.out]; exact h8) ox
      have hsp1 : Spot 74 w1 col (fc i) (fv i) (D.cnt.f i) (uv i) n g cap C p s' := ⟨SP.out.hv, SP.out.hcap, SP.out.hp, SP.out.hs, SP.out.hcol, BX1.out, SP.out.c0, SP.out.c1, by have := SEC.out; rw [HVS.out] at this; exact this, SP.out.size⟩
      have hfin := H1.out.upd hi hsp1 (w' := W) (hfr.mono (fun k hk hS => by
        rcases hS with hS | hS
        · exact .inr (SEC.out.wait.2 k (by rw [EV.out]; exact hS))
        · exact .inl hS)) (s'.wr xs) (p.1, vals 20, vs ++ [x]) (by show Box W g ((C.setIfInBounds (2 * n) p.1).setIfInBounds (2 * n + 1) (vals 20)) _; rw [set_same C _ _ SP.out.c0]; exact hbx) hse
      have HF := Lib.hid hfin
      have HFR := Lib.hid hfr
      clear hfin hse hsp1 o8 ox h8 hbx hfr hall
      go_wp2
      go_ret
      rw [show D.wr i n s' xs = D.cnt.upd i n (s'.wr xs) from if_pos HQ.out.symm]
      have hgw := HF.out.mono (S' := growS w W S) (fun x hx => by rcases hx with hx | hx; (exact .inl hx); (exact .inr ⟨Nat.le_trans F1.out.size hx.1, hx.2⟩)) (fun x hx => by rcases hx with hx | hx; (exact Nat.lt_of_lt_of_le (HH.out.old x hx) (Nat.le_trans F1.out.size HFR.out.size)); (exact hx.2))
      exact ⟨rfl, ⟨_, _, hgw⟩, Fr.trans' (F1.out.mono (fun k _ hk => by rw [hk]; exact HH.out.here)) HFR.out (fun k _ hk => HH.out.mine k (by rcases hk with hk | hk; (have := SEC.out.wait.2 k (by rw [EV.out]; exact hk); omega); (rw [hk, SP.out.hcol]; unfold fc; omega)))⟩
end Go.Proofs.Ytplombkpefacgaa.Disk

/- The document's Write, Sync, Image, of any file. -/
namespace Go.Proofs.Ytplombkpefacgaa.Disk
open Go.ChangeShapes Go.WideShapes Go.ChangeAt Go.RowKit Go.IntWalk Go.Proofs.Mem Go.Proofs.Each
set_option linter.unusedVariables false
set_option linter.unusedSimpArgs false
theorem rwrite_any {w : World} {S : Nat → Prop} {b : Nat} {D : Dv} {col : Nat → Nat} {fv : Nat → Value} {uv : Nat → List Pl} (h : DR w S b D col fv uv) (I N : Int) (i : Nat) (hI : I = i) (hi : i ≤ 255) (hw : ∀ k, k < 2 → ∀ s ∈ D.f k, s.wait.length ≤ 100000)
    (dv : Value) (xs : List Int) (hdf : ∀ w', Fr S w w' → IR w' w'.heap.size .u8 dv xs) (hxb : Bytes xs) :
    Calls Try.prog 39 #[.pointer (some ⟨b, 0, none⟩), .int .u8 I, .int .i64 N, dv] w fun e w' => e = .returned (.int .i64 (D.wrE i N xs.length)) ∧ (∃ col' uv', DR w' (growS w w' S) b (D.wrA i N xs) col' fv uv') ∧ Fr S w w' := by
  subst hI
  by_cases hh : D.has i N
  · obtain ⟨n, hn⟩ : ∃ n : Nat, N = n := ⟨N.toNat, by have := hh.2.1; omega⟩
    subst hn
    have hnl : n < (D.f i).length := by have := hh.2.2; omega
    have hs : (D.f i)[n]? = some (D.f i)[n] := List.getElem?_eq_getElem hnl
    by_cases hx : xs.length = 128
    · have e1 : D.wrE i n xs.length = 0 := by unfold Dv.wrE; rw [if_pos hh, if_pos hx]
      have e2 : D.wrA i n xs = D.wr i n (D.f i)[n] xs := by unfold Dv.wrA; rw [if_pos ⟨hh, hx⟩, Int.toNat_natCast, List.getD_eq_getElem?_getD, hs]; rfl
      rw [e1, e2]
      exact rwrite_yes h i hh.1 n _ hs (hw i hh.1 _ (List.getElem_mem hnl)) n rfl dv xs hdf hx hxb
    · have e1 : D.wrE i n xs.length = 1 := by unfold Dv.wrE; rw [if_pos hh, if_neg hx]
      have e2 : D.wrA i n xs = D := by unfold Dv.wrA; rw [if_neg (fun h => hx h.2)]
      rw [e1, e2]
      obtain ⟨g, cap, C, p, s', sp⟩ := (h.file i hh.1).spot n hnl
      have AT := Lib.hid (rnone_no w b fv D.lim D.left D.dead h.box i hh.1 _ _ cap sp.hv n hnl (n : Int) rfl)
      obtain ⟨Ad, cd, ed, hld, hcd⟩ := (hdf w (Fr.refl _ _)).form
      subst ed
      have hxi : ¬ ((xs.length : Int) = 128) := by omega
      have dx : ((xs.length : Int) != 128) = true := by simpa using hxi
      have HH := Lib.hid h
      clear h hdf hs sp hld hcd hh e1 e2
      go_enter Try.func39, Try.ntmps39
      go_wp2_with fail
      (with_reducible refine AT.out.mono ?_)
      rintro e w1 ⟨rfl, rfl⟩
      go_wp2
      go_ret
      exact ⟨rfl, ⟨col, uv, HH.out.grow⟩, Fr.refl _ _⟩
  · have e1 : D.wrE i N xs.length = 50 := by unfold Dv.wrE; rw [if_neg hh]
    have e2 : D.wrA i N xs = D := by unfold Dv.wrA; rw [if_neg (fun h => hh h.1)]
    rw [e1, e2]
    obtain ⟨A, L, c, f1, f2⟩ := h.formv i
    have AT := Lib.hid (rnone_yes w b fv D.lim D.left D.dead h.box i hi A L c (fun h => (f1 h).1) N (fun hi2 => by
      have := (f1 hi2).2
      unfold Dv.has at hh
      omega))
    have HH := Lib.hid h
    clear h hdf f1 f2 hh e1 e2
    go_enter Try.func39, Try.ntmps39
    go_wp2_with fail
    (with_reducible refine AT.out.mono ?_)
    rintro e w1 ⟨rfl, rfl⟩
    go_wp2
    go_ret
    exact ⟨rfl, ⟨col, uv, HH.out.grow⟩, Fr.refl _ _⟩
set_option maxRecDepth 100000 in
set_option maxHeartbeats 8000000 in
theorem rsync_yes {w : World} {S : Nat → Prop} {b : Nat} {D : Dv} {col : Nat → Nat} {fv : Nat → Value} {uv : Nat → List Pl} (h : DR w S b D col fv uv) (i : Nat) (hi : i < 2) (hw : ∀ s ∈ D.f i, s.wait.length ≤ 100000) :
    Calls Try.prog 34 #[.pointer (some ⟨b, 0, none⟩), .int .u8 i] w fun e w' => e = .returned (.tuple #[]) ∧ (∃ col' uv', DR w' (growS w w' S) b (D.syn i) col' fv uv') ∧ Fr S w w' := by
  have CT := Lib.hid (stopped_any w b fv D.lim D.left D.dead h.box h.left)
  have HH := Lib.hid h
  have HWT := Lib.hid hw
  obtain ⟨A, c, ev, hlc⟩ : ∃ A c, fv i = .slice A (D.f i).length c ∧ (D.f i).length ≤ c := by
    rcases (h.file i hi).row.1.2 with ⟨e, h0⟩ | ⟨g, cap, _, e, _, _, h1, _⟩
    · rw [h0]; exact ⟨none, 0, e, Nat.le_refl _⟩
    · exact ⟨_, cap, e, h1⟩
  have hmo := h.most i hi
  obtain ⟨L, hL⟩ : ∃ L, L = (D.f i).length := ⟨_, rfl⟩
  rw [← hL] at ev hlc hmo
  have EV := Lib.hid ev
  have HL := Lib.hid hL
  have wi := i8_wrap i (by omega)
  have d1 : decide ((1 : Int) < (i : Int)) = false := by simp; omega
  have hi2 : (i : Int) < 2 := by omega
  obtain ⟨q, hq⟩ : ∃ q, q = cntB D.lim D.left := ⟨_, rfl⟩
  rw [← hq] at CT
  have HQ := Lib.hid hq
  clear h hw hq ev hL
  go_enter Try.func34, Try.ntmps34
  go_wp2_with fail
  (with_reducible refine CT.out.mono ?_)
  rintro e w1 ⟨rfl, hb1, hf1⟩
  have h1 := HH.out.head hf1 D.lim _ _ (cnt_left HH.out.left) hb1
  have H1 := Lib.hid h1
  have F1 := Lib.hid (hf1.mono (S' := S) (fun k _ hk => by rw [hk]; exact HH.out.here))
  have kc : w1.cell? ⟨b, i, none⟩ = some (.slice A L c) := by
    rw [hb1.cell i]
    rcases two hi with rfl | rfl
    · rw [← EV.out]; rfl
    · rw [← EV.out]; rfl
  clear h1 hb1 hf1
  cases q
  case false =>
    go_wp2
    refine bodyPost_ret (results_none rfl _ _ _) rfl ?_
    refine ⟨rfl, ⟨col, uv, ?_⟩, F1.out⟩
    unfold Dv.syn
    rw [if_neg (by rw [← HQ.out]; decide)]
    exact H1.out.grow
  case true =>
    go_wp2
    clear kc
    go_loopw [5] (fun x wr => ∃ (j : Nat), j ≤ L ∧ x = .int .i64 j ∧ (∃ col' uv', DR wr (growS w wr S) b (D.cnt.synTo i j) col' fv uv') ∧ Fr S w wr) (fun x _ => L - (intOf x).toNat)
    case atStart => exact ⟨0, Nat.zero_le _, rfl, ⟨col, uv, by rw [synTo_zero]; exact H1.out.grow⟩, F1.out⟩
    case round =>
      obtain ⟨j, hj, rfl, ⟨col1, uv1, hd⟩, hfr⟩ := hrel
      by_cases hlt : j < L
      · have hjl : j < (D.cnt.f i).length := by rw [← show L = (D.cnt.f i).length from HL.out]; exact hlt
        obtain ⟨g, cap, C, p, s, sp⟩ := (hd.file i hi).spot j (by rw [synTo_len]; exact hjl)
        have es : s = (D.cnt.f i)[j] := Option.some.inj (sp.hs.symm.trans (synTo_at D.cnt i j hjl))
        have hwl : s.wait.length ≤ 100000 := HWT.out s (by rw [es]; exact List.getElem_mem _)
        have kc : wr.cell? ⟨b, i, none⟩ = some (.slice A L c) := by
          rw [hd.box.cell i]
          rcases two hi with rfl | rfl
          · rw [← EV.out]; rfl
          · rw [← EV.out]; rfl
        have eA : A = some ⟨g, 0, none⟩ := by
          have := sp.hv
          rw [EV.out] at this
          injection this
        subst eA
        have SP := Lib.hid sp
        have HD := Lib.hid hd
        have HFR := Lib.hid hfr
        have ES := Lib.hid es
        have RD := Lib.hid (rread_yes hd i hi j s sp.hs hwl (j : Int) rfl)
        have GL := Lib.hid sp.box.lt
        have d2 : decide ((j : Int) < (L : Int)) = true := by simp; omega
        have KC := Lib.hid kc
        have BXB := Lib.hid (show Box wr b (dC fv (D.cnt.synTo i j).lim (D.cnt.synTo i j).left (D.cnt.synTo i j).dead) 72 from hd.box)
        clear sp hd hfr es hwl
        go_wp2_with fail
        (with_reducible refine RD.out.mono ?_)
        rintro e w2 ⟨u, rfl, hu, hb2⟩
        clear kc
        have bx2 := SP.out.box.later hb2
        have bb2 := BXB.out.later hb2
        obtain ⟨gu, cu, rfl, _⟩ := own_g hu (by decide)
        have kc : w2.cell? ⟨b, i, none⟩ = some (.slice (some ⟨g, 0, none⟩) L c) := by
          rw [bb2.cell i, ← EV.out]
          rcases two hi with h9 | h9 <;> (subst h9; rfl)
        have kc0 : ∃ y, w2.cell? ⟨g, j * 2, none⟩ = some y := ⟨_, by rw [bx2.cell, Nat.mul_comm]; exact SP.out.c0⟩
        have kc1 : ∃ y, w2.cell? ⟨g, j * 2 + 1, none⟩ = some y := ⟨_, by rw [bx2.cell, Nat.mul_comm]; exact SP.out.c1⟩
        obtain ⟨y0, kc0⟩ := kc0
        obtain ⟨y1, kc1⟩ := kc1
        have fc0 := bx2.frozen (j * 2)
        have fc1 := bx2.frozen (j * 2 + 1)
        have BX2 := Lib.hid bx2
        have HB2 := Lib.hid hb2
        have HU := Lib.hid hu
        clear bx2 bb2 hb2 hu
        obtain ⟨w3, hw3⟩ : ∃ w3, (w2.setCell ⟨g, j * 2, none⟩ (.slice (some ⟨gu, 0, none⟩) 128 cu)).setCell ⟨g, j * 2 + 1, none⟩ (.slice none 0 0) = w3 := ⟨_, rfl⟩
        go_wp2
        clear kc kc0 kc1 fc0 fc1
        have hb3 := (BX2.out.set_ (j * 2) (.slice (some ⟨gu, 0, none⟩) 128 cu)).set_ (j * 2 + 1) (.slice none 0 0)
        have hf23 := Fr.setCell (Fr.setCell (Fr.refl (fun x => x = g) w2) (p := ⟨g, j * 2, none⟩) (.inl rfl) (.slice (some ⟨gu, 0, none⟩) 128 cu)) (p := ⟨g, j * 2 + 1, none⟩) (.inl rfl) (.slice none 0 0)
        rw [hw3] at hb3 hf23
        have hf3 : Fr (fun x => x = g) wr w3 := (Fr.of_below HB2.out).trans hf23
        have hff := hf3.mono (S' := fun x => x = g ∨ col1 x = fc i + 1 + j) (fun k _ hk => .inl hk)
        have hgu := HU.out.lt gu rfl
        have hse : SeAt w3 (colN wr w3 col1 (fc i + 1 + j)) (fc i + 1 + j) s.syn (.slice (some ⟨gu, 0, none⟩) 128 cu) (.slice none 0 0) [] := by
          have hsl : s.syn.last = s.cur := (cur_keep s).symm
          have hkp := SP.out.sec.keep s.wait.length (by rw [SP.out.sec.n]; exact Nat.le_refl _)
          refine SeAt.bare (xs := s.keep s.wait.length) ?_ hkp.2.1 hkp.2.2
          rw [← cur_keep]
          refine ⟨own_lower (own_frS HU.out hf23 (fun k hk hs => by
            injection hk with hk
            have := GL.out
            simp only at hk
            omega)) (Nat.zero_le _), fun x hx => ?_⟩
          injection hx with hx
          rw [← hx]
          exact colN_new hgu.1 (Nat.lt_of_lt_of_le hgu.2 hf23.size)
        have hup := HD.out.upd hi SP.out hff s.syn (.slice (some ⟨gu, 0, none⟩) 128 cu, .slice none 0 0, []) (by show Box w3 g ((C.setIfInBounds (2 * j) _).setIfInBounds (2 * j + 1) (.slice none 0 0)) _; rw [show 2 * j = j * 2 from Nat.mul_comm 2 j]; exact hb3) hse
        rw [ES.out, synTo_succ D.cnt i j hjl] at hup
        have hgr := hup.mono (S' := growS w w3 S) (fun x hx => by
          have := HFR.out.size
          rcases hx with (hx | hx) | hx
          · exact .inl hx
          · exact .inr ⟨hx.1, Nat.lt_of_lt_of_le hx.2 hf3.size⟩
          · exact .inr ⟨by omega, hx.2⟩) (fun x hx => by
          rcases hx with hx | hx
          · exact Nat.lt_of_lt_of_le (HH.out.old x hx) (Nat.le_trans HFR.out.size hf3.size)
          · exact hx.2)
        have hfw : Fr S w w3 := Fr.sub HFR.out hf3 (fun x hx hxg => by
          rcases HD.out.mine x (by rw [hxg, SP.out.hcol]; unfold fc; omega) with h9 | h9
          · exact h9
          · omega)
        have HGR := Lib.hid hgr
        have HFW := Lib.hid hfw
        clear hb3 hf3 hf23 hff hse hup hgr hfw d2 hgu
        try rw [hw3]
        clear hw3
        go_roundw
        case rel => exact ⟨j + 1, by omega, by go_num, ⟨_, _, HGR.out⟩, HFW.out⟩
        case measure => simp [intOf]; omega
      · have hjL : j = L := by omega
        have HD := Lib.hid hd
        have HFR := Lib.hid hfr
        have d2 : decide ((j : Int) < (L : Int)) = false := by simp; omega
        have HJ := Lib.hid hjL
        have kc : wr.cell? ⟨b, i, none⟩ = some (.slice A L c) := by
          rw [hd.box.cell i]
          rcases two hi with rfl | rfl
          · rw [← EV.out]; rfl
          · rw [← EV.out]; rfl
        clear hd hfr hjL
        go_wp2
        go_end0
        refine ⟨rfl, ⟨col1, uv1, ?_⟩, HFR.out⟩
        unfold Dv.syn
        rw [if_pos HQ.out.symm, ← HL.out, ← HJ.out]
        exact HD.out
theorem rsync_any {w : World} {S : Nat → Prop} {b : Nat} {D : Dv} {col : Nat → Nat} {fv : Nat → Value} {uv : Nat → List Pl} (h : DR w S b D col fv uv) (I : Int) (i : Nat) (hI : I = i) (hi : i ≤ 255) (hw : ∀ k, k < 2 → ∀ s ∈ D.f k, s.wait.length ≤ 100000) :
    Calls Try.prog 34 #[.pointer (some ⟨b, 0, none⟩), .int .u8 I] w fun e w' => e = .returned (.tuple #[]) ∧ (∃ col' uv', DR w' (growS w w' S) b (D.synA i) col' fv uv') ∧ Fr S w w' := by
  subst hI
  by_cases h2 : i < 2
  · have e : D.synA i = D.syn i := if_pos h2
    rw [e]
    exact rsync_yes h i h2 (hw i h2)
  · have e : D.synA i = D := if_neg h2
    rw [e]
    have wi := i8_wrap i hi
    have d1 : decide ((1 : Int) < (i : Int)) = true := by simp; omega
    have HH := Lib.hid h
    clear h e
    go_enter Try.func34, Try.ntmps34
    go_wp2
    refine bodyPost_ret (results_none rfl _ _ _) rfl ?_
    exact ⟨rfl, ⟨col, uv, HH.out.grow⟩, Fr.refl _ _⟩
set_option maxRecDepth 100000 in
set_option maxHeartbeats 8000000 in
theorem rimage_yes {w : World} {S : Nat → Prop} {b : Nat} {D : Dv} {col : Nat → Nat} {fv : Nat → Value} {uv : Nat → List Pl} (h : DR w S b D col fv uv) (i : Nat) (hi : i < 2) :
    Calls Try.prog 41 #[.pointer (some ⟨b, 0, none⟩), .int .u8 i] w fun e w' => ∃ (v : Value) (l : List Rw), e = .returned v ∧ Tab 5 30 w' w.heap.size w'.heap.size v l ∧ l.map (·.2.2) = (D.f i).map (·.last) ∧ Below w.heap.size w w' := by
  obtain ⟨A, c, ev, hlc⟩ : ∃ A c, fv i = .slice A (D.f i).length c ∧ (D.f i).length ≤ c := by
    rcases (h.file i hi).row.1.2 with ⟨e, h0⟩ | ⟨g, cap, _, e, _, _, h1, _⟩
    · rw [h0]; exact ⟨none, 0, e, Nat.le_refl _⟩
    · exact ⟨_, cap, e, h1⟩
  have wi := i8_wrap i (by omega)
  have hi2 : (i : Int) < 2 := by omega
  have d1 : decide ((1 : Int) < (i : Int)) = false := by simp; omega
  have kcb := h.box.cell i
  have BB := Lib.hid (show Box w b (dC fv D.lim D.left D.dead) 72 from h.box)
  have hmo := h.most i hi
  obtain ⟨L, hL⟩ : ∃ L, L = (D.f i).length := ⟨_, rfl⟩
  rw [← hL] at ev hlc hmo
  clear kcb
  have HH := Lib.hid h
  have HL := Lib.hid hL
  have EV := Lib.hid ev
  obtain ⟨j0, hj0, hy0, hy1, hy2⟩ := info_parts bs_info
  clear h hL ev
  go_enter Try.func41, Try.ntmps41
  go_wp2
  go_loopw [5, 6] (fun o x wr => ∃ (j : Nat) (l : List Rw), j ≤ L ∧ x = .int .i64 j ∧ Hid (l.length = j ∧ Tab 5 30 wr w.heap.size wr.heap.size o l ∧ l.map (·.2.2) = ((D.f i).take j).map (·.last)) ∧ Below w.heap.size w wr) (fun _ x _ => L - (intOf x).toNat)
  case atStart => exact ⟨0, [], Nat.zero_le _, rfl, Lib.hid ⟨rfl, Tab.nil _ _ _, rfl⟩, Below.refl _ _⟩
  case round =>
    obtain ⟨j, l, hj, rfl, HT, hbel⟩ := hrel
    have HB := Lib.hid hbel
    clear hbel
    have kc : wr.cell? ⟨b, i, none⟩ = some (.slice A L c) := by
      rw [(BB.out.later HB.out).cell i, ← EV.out]
      rcases two hi with h9 | h9 <;> (subst h9; rfl)
    by_cases hlt : j < L
    · have hdj := HH.out.later HB.out
      obtain ⟨g, cap, C, p, s, sp⟩ := (hdj.file i hi).spot j (by rw [← HL.out]; exact hlt)
      have eA : A = some ⟨g, 0, none⟩ := by
        have := sp.hv
        rw [EV.out] at this
        injection this
      subst eA
      obtain ⟨gu, cu, eu⟩ := sp.sec.form_u
      obtain ⟨Av, cv, evv, hlv⟩ := sp.sec.form_v
      have k0 : wr.cell? ⟨g, j * 2, none⟩ = some p.1 := by rw [sp.box.cell, Nat.mul_comm]; exact sp.c0
      have k1 : wr.cell? ⟨g, j * 2 + 1, none⟩ = some p.2.1 := by rw [sp.box.cell, Nat.mul_comm]; exact sp.c1
      rw [eu] at k0
      rw [evv] at k1
      have SP := Lib.hid sp
      have d2 : decide ((j : Int) < (L : Int)) = true := by simp; omega
      have CL := Lib.hid (rlent_any (.slice (some ⟨gu, 0, none⟩) 128 cu) s.last wr wr.heap.size (by
        have h1 := sp.sec.last.ir sp.sec.len
        rw [eu] at h1
        exact h1) (by rw [sp.sec.len]; decide))
      have HLL := Lib.hid HT.out.1
      clear sp eu evv hlv hdj
      go_wp2_with fail
      (with_reducible refine CL.out.mono ?_)
      rintro e w2 ⟨u, rfl, hu, hb2⟩
      obtain ⟨g4, row4, hg4, hl4⟩ := RowAt.of_own hu (by rw [SP.out.sec.len]; decide)
      obtain ⟨cap4, rfl⟩ := row4.form
      have ROW4 := Lib.hid row4
      have G4 := Lib.hid (And.intro hg4 hl4)
      have HB2 := Lib.hid (show Below wr.heap.size wr w2 from hb2)
      have TAB4 := Lib.hid (HT.out.2.1.below HB2.out)
      have HO := Lib.hid HT.out.2.2
      have HS2 := Lib.hid HB.out.size
      clear hu hb2 row4 hg4 hl4 k0 k1
      go_wp2_with (at_builtin; refine wpList_append_own _ rfl _ _ _ rfl w.heap.size 30 j0 (.slice none 0 0) 1 24 Try.underlying35 hj0 hy0 hy1 hy2 rfl (by decide) _ l.length (l.map (·.2.1)) rfl (TAB4.out.outer.alloc _) ⟨w2.heap.size, 0, none⟩ 1 1 [_] rfl rfl (cell_one_new _ _ _) (by simp [Value.oneCell']) (by have := HLL.out; unfold maxLen; omega) (by have := HLL.out; omega) (by have := HB2.out.size; have := HS2.out; simp; omega) ?_; intro v5 w5 hown5 hg5 _; have OWN5 := Lib.hid hown5; have HG5 := Lib.hid hg5; clear hown5 hg5)
      have z54 : w2.heap.size < w5.heap.size := by have := HG5.out.size; simp at this; omega
      have T5 := Tab.push (TAB4.out.later (B := w2.alloc _) (new_ (Below.refl _ _) _)) (by decide) ((row_low ROW4.out (base' := wr.heap.size) (Nat.le_refl _)).sc (Sc.of_below (new_ (Below.refl _ _) _))) HS2.out (by have := G4.out; omega) OWN5.out HG5.out (by have := HB2.out.size; omega)
      have LS5 := Lib.hid (show (l ++ [(g4, Value.slice (some ⟨g4, 0, none⟩) s.last.length cap4, s.last)]).map (·.2.2) = ((D.f i).take (j + 1)).map (·.last) by
        have h9 := (List.getElem?_eq_some_iff.1 SP.out.hs)
        rw [List.map_append, HO.out, List.take_succ_eq_append_getElem h9.1, List.map_append, h9.2]; rfl)
      have TT := Lib.hid T5
      have HLN := Lib.hid (show (l ++ [(g4, Value.slice (some ⟨g4, 0, none⟩) s.last.length cap4, s.last)]).length = j + 1 by rw [List.length_append, HLL.out]; rfl)
      have HB5 := Lib.hid (below_row (HB.out.trans ((HB2.out.mono HS2.out).trans ((Below.refl w.heap.size w2).alloc (by have := HB2.out.size; have := HS2.out; omega) _))) (TAB4.out.outer.alloc _) HG5.out (Nat.le_refl _) (by have := HB2.out.size; have := HS2.out; simp; omega))
      clear T5 z54
      go_wp2
      go_roundw
      case rel => exact ⟨j + 1, _, by omega, by go_num, Lib.hid ⟨HLN.out, TT.out, LS5.out⟩, HB5.out⟩
      case measure => simp [intOf]; omega
    · have hjL : j = L := by omega
      have d2 : decide ((j : Int) < (L : Int)) = false := by simp; omega
      have HJ := Lib.hid hjL
      clear hjL
      go_wp2
      go_ret
      exact ⟨_, l, rfl, HT.out.2.1, by rw [HT.out.2.2, HJ.out, HL.out, List.take_length], HB.out⟩
end Go.Proofs.Ytplombkpefacgaa.Disk
