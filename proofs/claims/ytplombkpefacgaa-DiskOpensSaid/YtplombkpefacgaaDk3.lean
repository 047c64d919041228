import Derived.Test.YtplombkpefacgaaDk2
/- Read, Waits. -/
namespace Go.Proofs.Ytplombkpefacgaa.Disk
open Go.ChangeShapes Go.WideShapes Go.ChangeAt Go.RowKit Go.IntWalk Go.Proofs.Mem
set_option linter.unusedVariables false
set_option linter.unusedSimpArgs false
abbrev DA (w : World) (S : Nat → Prop) (b : Nat) (D : Dv) (col : Nat → Nat) (fv : Nat → Value) (uv : Nat → List Pl) : Prop := DvAt 68 65 w S b D col fv uv
theorem Se.cur_len {s : Se} (h1 : s.last.length = 128) (h2 : ∀ x ∈ s.wait, x.length = 128) : s.cur.length = 128 := by
  unfold Se.cur
  cases e : s.wait.getLast? with
  | none => exact h1
  | some x => exact h2 x (List.mem_of_getLast? e)
set_option maxRecDepth 100000 in
set_option maxHeartbeats 4000000 in
theorem read_yes {w : World} {S : Nat → Prop} {b : Nat} {D : Dv} {col : Nat → Nat} {fv : Nat → Value} {uv : Nat → List Pl} (h : DA w S b D col fv uv) (i : Nat) (hi : i < 2) (n : Nat) (s : Se) (hs : (D.f i)[n]? = some s) (hw : s.wait.length ≤ 100000) (N : Int) (hN : N = n) :
    Calls Try.prog 31 #[.pointer (some ⟨b, 0, none⟩), .int .u8 i, .int .i64 N] w fun e w' => ∃ u, e = .returned (.tuple #[u, .int .u16 0]) ∧ w'.ownsRow w.heap.size 5 1 u 128 (s.cur.map (.int .u8)) ∧ Below w.heap.size w w' := by
  subst hN
  have hn : n < (D.f i).length := (List.getElem?_eq_some_iff.1 hs).1
  obtain ⟨g, cap, C, p, s', sp⟩ := (h.file i hi).spot n hn
  obtain rfl : s' = s := Option.some.inj (sp.hs.symm.trans hs)
  have AT := Lib.hid (at_yes w b fv D.lim D.left D.dead h.box i hi g _ cap sp.hv n hn (h.most i hi) sp.hcap (n : Int) rfl)
  obtain ⟨gu, cu, eu⟩ := sp.sec.form_u
  obtain ⟨Av, cv, ev, hlv⟩ := sp.sec.form_v
  have k0 : w.cell? ⟨g, 2 * n, none⟩ = some p.1 := by rw [sp.box.cell]; exact sp.c0
  have k1 : w.cell? ⟨g, 2 * n + 1, none⟩ = some p.2.1 := by rw [sp.box.cell]; exact sp.c1
  rw [eu] at k0
  rw [ev] at k1
  have HV := Lib.hid sp.sec
  have hvl := sp.sec.n
  obtain ⟨V, hV⟩ : ∃ V, V = p.2.2.length := ⟨_, rfl⟩
  rw [← hV] at k1 hvl hlv
  have hVb : V ≤ 100000 := by omega
  by_cases hz : V = 0
  · have hcur : s'.cur = s'.last := by unfold Se.cur; rw [List.eq_nil_of_length_eq_zero (by omega : s'.wait.length = 0)]; rfl
    rw [hcur]
    subst hz
    have CL := Lib.hid (clone_any _ s'.last w w.heap.size (by have := HV.out.last.ir HV.out.len; exact this) (Nat.le_refl _) (by rw [HV.out.len]; decide))
    rw [eu, HV.out.len] at CL
    clear hvl hlv hV sp ev hs
    go_enter Try.func31, Try.ntmps31
    go_wp2_with fail
    (with_reducible refine AT.out.mono ?_)
    rintro e w1 ⟨rfl, rfl⟩
    go_wp2_with fail
    (with_reducible refine CL.out.mono ?_)
    rintro e w1 ⟨u, rfl, hu, hb⟩
    have HU := Lib.hid hu
    have HB := Lib.hid hb
    clear hu hb
    go_wp2
    go_ret2
    exact ⟨_, rfl, HU.out, HB.out⟩
  · have hlt : V - 1 < p.2.2.length := by omega
    have hlw : V - 1 < s'.wait.length := by omega
    have hcur : s'.cur = s'.wait[V - 1] := by
      unfold Se.cur
      rw [List.getLast?_eq_getElem?, ← hvl, List.getElem?_eq_getElem hlw]; rfl
    rw [hcur]
    obtain ⟨Ax, cx, ex⟩ := HV.out.form_w p.2.2[V - 1] (List.getElem_mem hlt)
    have hrow := HV.out.row (V - 1) _ _ (List.getElem?_eq_getElem hlt) (List.getElem?_eq_getElem hlw)
    have hrl := HV.out.lens _ (List.getElem_mem hlw)
    have CL := Lib.hid (clone_any _ (s'.wait[V - 1]) w w.heap.size (hrow.ir hrl) (Nat.le_refl _) (by rw [hrl]; decide))
    rw [ex, hrl] at CL
    generalize s'.wait[V - 1] = X at CL hrow hrl hcur ⊢
    obtain ⟨gv, eg⟩ : ∃ gv, Av = some ⟨gv, 0, none⟩ := by
      have hwt := HV.out.wait.1.2
      rw [ev] at hwt
      rcases hwt with ⟨_, h0⟩ | ⟨gv, cap, _, e1, _⟩
      · omega
      · injection e1 with e1; exact ⟨gv, e1⟩
    subst eg
    have kx : w.cell? ⟨gv, V - 1, none⟩ = some (.slice Ax 128 cx) := by
      have hwt := HV.out.wait.1
      rw [ev] at hwt
      rw [hwt.cellAt (V - 1) (by omega), List.getElem?_eq_getElem hlt, ex]
    obtain ⟨m, hm⟩ : ∃ m, m = V - 1 := ⟨_, rfl⟩
    rw [← hm] at kx
    have d1 : decide (0 < (V : Int)) = true := by simp; omega
    have d1n : decide (0 < V) = true := by simp; omega
    have wn : wrap64 ((V : Int) - 1) = (m : Int) := by rw [wrap64_in _ (by omega)]; omega
    have wn' : IntKind.i64.wrap ((V : Int) - 1) = (m : Int) := by rw [IntWalk.i64_in _ (by omega)]; omega
    have hm1 : m < V := by omega
    clear hvl hV sp ev hs hrow hrl hcur hm hz ex
    go_enter Try.func31, Try.ntmps31
    go_wp2_with fail
    (with_reducible refine AT.out.mono ?_)
    rintro e w1 ⟨rfl, rfl⟩
    go_wp2_with fail
    (with_reducible refine CL.out.mono ?_)
    rintro e w1 ⟨u, rfl, hu, hb⟩
    have HU := Lib.hid hu
    have HB := Lib.hid hb
    clear hu hb
    go_wp2
    go_ret2
    exact ⟨_, rfl, HU.out, HB.out⟩
theorem waits_yes {w : World} {S : Nat → Prop} {b : Nat} {D : Dv} {col : Nat → Nat} {fv : Nat → Value} {uv : Nat → List Pl} (h : DA w S b D col fv uv) (i : Nat) (hi : i < 2) (n : Nat) (s : Se) (hs : (D.f i)[n]? = some s) (N : Int) (hN : N = n) :
    Calls Try.prog 23 #[.pointer (some ⟨b, 0, none⟩), .int .u8 i, .int .i64 N] w fun e w' => e = .returned (.int .i64 s.wait.length) ∧ w = w' := by
  subst hN
  have hn : n < (D.f i).length := (List.getElem?_eq_some_iff.1 hs).1
  obtain ⟨g, cap, C, p, s', sp⟩ := (h.file i hi).spot n hn
  obtain rfl : s' = s := Option.some.inj (sp.hs.symm.trans hs)
  have AT := Lib.hid (at_yes w b fv D.lim D.left D.dead h.box i hi g _ cap sp.hv n hn (h.most i hi) sp.hcap (n : Int) rfl)
  obtain ⟨Av, cv, ev, hlv⟩ := sp.sec.form_v
  have k1 : w.cell? ⟨g, 2 * n + 1, none⟩ = some p.2.1 := by rw [sp.box.cell]; exact sp.c1
  rw [ev, sp.sec.n] at k1
  clear sp ev hs h hlv
  go_enter Try.func23, Try.ntmps23
  go_wp2_with fail
  (with_reducible refine AT.out.mono ?_)
  rintro e w1 ⟨rfl, rfl⟩
  go_wp2
  go_ret
  exact ⟨rfl, rfl⟩
end Go.Proofs.Ytplombkpefacgaa.Disk
