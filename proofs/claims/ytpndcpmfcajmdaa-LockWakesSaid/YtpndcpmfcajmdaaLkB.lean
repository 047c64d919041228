import Derived.Test.YtpndcpmfcajmdaaLkA
import Derived.Test.YtpndcpmfcajmdaaEachJ
import Derived.Shelf.SlSortCmp.WholeK
/- Keys that are compared; rows of keys are sorted. -/
namespace Go.Proofs
open Go.Shelf
def layN_ren : Go.Shelf.Ren := ⟨fun | 6 => 58 | 15 => 57 | 14 => 73 | 28 => 71 | 29 => 72 | 20 => 84 | 21 => 85 | 22 => 86 | 23 => 87 | 24 => 88 | 25 => 89 | 26 => 90 | 27 => 91 | 46 => 95 | 47 => 79 | 48 => 80 | 49 => 96 | 50 => 97 | 57 => 98 | n => n, fun | 22 => 79 | 24 => 81 | 25 => 108 | 3 => 3 | 39 => 106 | 0 => 0 | 53 => 29 | 55 => 123 | 4 => 4 | 46 => 114 | 45 => 113 | 50 => 119 | 5 => 5 | 9 => 9 | 66 => 128 | 70 => 132 | 76 => 142 | 77 => 143 | n => n, fun | n => n⟩
theorem layN : Go.Proofs.SlLaysF0.n6 Try.prog layN_ren := {
  mixed := by kernel_rfl
  f6 := ⟨Try.f58.name, by decide, Try.func58.trans (congrArg some (by kernel_rfl))⟩
  f14 := ⟨Try.f73.name, by decide, Try.func73.trans (congrArg some (by kernel_rfl))⟩
  f15 := Try.func57.trans (congrArg some (by kernel_rfl))
  f20 := ⟨Try.f84.name, by decide, Try.func84.trans (congrArg some (by kernel_rfl))⟩
  f21 := ⟨Try.f85.name, by decide, Try.func85.trans (congrArg some (by kernel_rfl))⟩
  f22 := ⟨Try.f86.name, by decide, Try.func86.trans (congrArg some (by kernel_rfl))⟩
  f23 := ⟨Try.f87.name, by decide, Try.func87.trans (congrArg some (by kernel_rfl))⟩
  f24 := ⟨Try.f88.name, by decide, Try.func88.trans (congrArg some (by kernel_rfl))⟩
  f25 := ⟨Try.f89.name, by decide, Try.func89.trans (congrArg some (by kernel_rfl))⟩
  f26 := ⟨Try.f90.name, by decide, Try.func90.trans (congrArg some (by kernel_rfl))⟩
  f27 := ⟨Try.f91.name, by decide, Try.func91.trans (congrArg some (by kernel_rfl))⟩
  f28 := Try.func71.trans (congrArg some (by kernel_rfl))
  f29 := Try.func72.trans (congrArg some (by kernel_rfl))
  f46 := ⟨Try.f95.name, by decide, Try.func95.trans (congrArg some (by kernel_rfl))⟩
  f47 := Try.func79.trans (congrArg some (by kernel_rfl))
  f48 := Try.func80.trans (congrArg some (by kernel_rfl))
  f49 := ⟨Try.f96.name, by decide, Try.func96.trans (congrArg some (by kernel_rfl))⟩
  f50 := ⟨Try.f97.name, by decide, Try.func97.trans (congrArg some (by kernel_rfl))⟩
  f57 := ⟨Try.f98.name, by decide, Try.func98.trans (congrArg some (by kernel_rfl))⟩
  t0 := Try.underlying0
  a0 := Try.isAgg0
  z0 := Try.sizeOf0
  v0 := Try.zeroValue0
  t3 := Try.underlying3
  a3 := Try.isAgg3
  z3 := Try.sizeOf3
  v3 := Try.zeroValue3
  t4 := Try.underlying4
  a4 := Try.isAgg4
  z4 := Try.sizeOf4
  v4 := Try.zeroValue4
  t5 := Try.underlying5
  a5 := Try.isAgg5
  z5 := Try.sizeOf5
  v5 := Try.zeroValue5
  t9 := Try.underlying9
  a9 := Try.isAgg9
  z9 := Try.sizeOf9
  v9 := Try.zeroValue9
  t22 := Try.underlying79
  a22 := Try.isAgg79
  z22 := Try.sizeOf79
  v22 := Try.zeroValue79
  t25 := Try.underlying108
  a25 := Try.isAgg108
  z25 := Try.sizeOf108
  v25 := Try.zeroValue108
  t39 := Try.underlying106
  a39 := Try.isAgg106
  z39 := Try.sizeOf106
  v39 := Try.zeroValue106
  t45 := Try.underlying113
  a45 := Try.isAgg113
  z45 := Try.sizeOf113
  v45 := Try.zeroValue113
  t46 := Try.underlying114
  a46 := Try.isAgg114
  z46 := Try.sizeOf114
  v46 := Try.zeroValue114
  t50 := Try.underlying119
  a50 := Try.isAgg119
  z50 := Try.sizeOf119
  v50 := Try.zeroValue119
  t53 := Try.underlying29
  a53 := Try.isAgg29
  z53 := Try.sizeOf29
  v53 := Try.zeroValue29
  t55 := Try.underlying123
  a55 := Try.isAgg123
  z55 := Try.sizeOf123
  v55 := Try.zeroValue123
  t66 := Try.underlying128
  a66 := Try.isAgg128
  z66 := Try.sizeOf128
  v66 := Try.zeroValue128
  t70 := Try.underlying132
  a70 := Try.isAgg132
  z70 := Try.sizeOf132
  v70 := Try.zeroValue132
  t76 := Try.underlying142
  a76 := Try.isAgg142
  z76 := Try.sizeOf142
  v76 := Try.zeroValue142
  t77 := Try.underlying143
  a77 := Try.isAgg143
  z77 := Try.sizeOf143
  v77 := Try.zeroValue143 }

end Go.Proofs
namespace Go.Proofs.Ytpndcpmfcajmdaa.Lock
open Go.ChangeShapes Go.WideShapes Go.ChangeAt Go.RowKit Go.IntWalk Go.Proofs.Mem Law Go.Sort Go.Lib Go.Proofs.Each
set_option linter.unusedVariables false
set_option linter.unusedSimpArgs false
instance : Inhabited Ky := ⟨⟨0, 0, 0⟩⟩
def cKy (x : Ky) : List Value := [.int .u8 x.k, .int .u32 x.a, .int .u32 x.b]
def cmpI (a b : Int) : Int := if a < b then -1 else if b < a then 1 else 0
def orI (a b : Int) : Int := if a ≠ 0 then a else b
def cmpK (x y : Ky) : Int := orI (cmpI x.k y.k) (orI (cmpI x.a y.a) (cmpI x.b y.b))
set_option maxRecDepth 100000 in
set_option maxHeartbeats 4000000 in
theorem cmp8_any (w : World) (a b : Int) : Calls Try.prog 75 #[.int .u8 a, .int .u8 b] w fun e w' => e = .returned (.int .i64 (cmpI a b)) ∧ w = w' := by
  obtain ⟨c, hc⟩ : ∃ c, cmpI a b = c := ⟨_, rfl⟩
  rw [hc]
  have HC := Lib.hid hc
  clear hc
  by_cases h1 : a < b
  · have d1 : decide (a < b) = true := by simpa using h1
    have HH := Lib.hid (show cmpI a b = -1 by unfold cmpI; rw [if_pos h1])
    clear h1
    go_enter Try.func75, Try.ntmps75
    go_wp2
    go_ret
    exact ⟨by rw [← HC.out, HH.out]; rfl, rfl⟩
  · have d1 : decide (a < b) = false := by simpa using h1
    by_cases h2 : b < a
    · have d2 : decide (b < a) = true := by simpa using h2
      have HH := Lib.hid (show cmpI a b = 1 by unfold cmpI; rw [if_neg h1, if_pos h2])
      clear h1 h2
      go_enter Try.func75, Try.ntmps75
      go_wp2
      go_ret
      exact ⟨by rw [← HC.out, HH.out]; rfl, rfl⟩
    · have d2 : decide (b < a) = false := by simpa using h2
      have HH := Lib.hid (show cmpI a b = 0 by unfold cmpI; rw [if_neg h1, if_neg h2])
      clear h1 h2
      go_enter Try.func75, Try.ntmps75
      go_wp2
      go_ret
      exact ⟨by rw [← HC.out, HH.out]; rfl, rfl⟩
set_option maxRecDepth 100000 in
set_option maxHeartbeats 4000000 in
theorem cmp32_any (w : World) (a b : Int) : Calls Try.prog 76 #[.int .u32 a, .int .u32 b] w fun e w' => e = .returned (.int .i64 (cmpI a b)) ∧ w = w' := by
  obtain ⟨c, hc⟩ : ∃ c, cmpI a b = c := ⟨_, rfl⟩
  rw [hc]
  have HC := Lib.hid hc
  clear hc
  by_cases h1 : a < b
  · have d1 : decide (a < b) = true := by simpa using h1
    have HH := Lib.hid (show cmpI a b = -1 by unfold cmpI; rw [if_pos h1])
    clear h1
    go_enter Try.func76, Try.ntmps76
    go_wp2
    go_ret
    exact ⟨by rw [← HC.out, HH.out]; rfl, rfl⟩
  · have d1 : decide (a < b) = false := by simpa using h1
    by_cases h2 : b < a
    · have d2 : decide (b < a) = true := by simpa using h2
      have HH := Lib.hid (show cmpI a b = 1 by unfold cmpI; rw [if_neg h1, if_pos h2])
      clear h1 h2
      go_enter Try.func76, Try.ntmps76
      go_wp2
      go_ret
      exact ⟨by rw [← HC.out, HH.out]; rfl, rfl⟩
    · have d2 : decide (b < a) = false := by simpa using h2
      have HH := Lib.hid (show cmpI a b = 0 by unfold cmpI; rw [if_neg h1, if_neg h2])
      clear h1 h2
      go_enter Try.func76, Try.ntmps76
      go_wp2
      go_ret
      exact ⟨by rw [← HC.out, HH.out]; rfl, rfl⟩
def orL : List Int → Int
  | [] => 0
  | x :: l => if x ≠ 0 then x else orL l
theorem orL_drop {L : List Int} {k : Nat} {x : Int} (h : L[k]? = some x) : orL (L.drop k) = if x ≠ 0 then x else orL (L.drop (k + 1)) := by
  have hk : k < L.length := (List.getElem?_eq_some_iff.1 h).1
  have hx : L[k] = x := (List.getElem?_eq_some_iff.1 h).2
  rw [List.drop_eq_getElem_cons hk, hx]
  rfl
set_option maxRecDepth 100000 in
set_option maxHeartbeats 4000000 in
theorem orL_any (w : World) (g N : Nat) (L : List Int) (hN : L.length = N) (hn : N ≤ 1000) (h : ∀ j x, L[j]? = some x → w.cell? ⟨g, j, none⟩ = some (.int .i64 x)) : Calls Try.prog 74 #[.slice (some ⟨g, 0, none⟩) N N] w fun e w' => e = .returned (.int .i64 (orL L)) ∧ w = w' := by
  obtain ⟨r, hr⟩ : ∃ r, orL L = r := ⟨_, rfl⟩
  rw [hr]
  have HR := Lib.hid (show orL (L.drop 0) = r from hr)
  have H := Lib.hid h
  have HN := Lib.hid hN
  clear hr h hN
  go_enter Try.func74, Try.ntmps74
  go_wp2
  go_loopw [5, 8] (fun _ s wr => ∃ k : Nat, k ≤ N ∧ s = .int .i64 k ∧ Hid (orL (L.drop k) = r) ∧ w = wr) (fun _ s _ => N - (intOf s).toNat)
  case atStart => exact ⟨0, Nat.zero_le _, rfl, HR, rfl⟩
  case round =>
    obtain ⟨k, hk, rfl, HF, rfl⟩ := hrel
    by_cases hl : k < N
    · have d1 : decide ((k : Int) < (N : Int)) = true := by simp; omega
      have d1' : decide (k < N) = true := by simp; omega
      obtain ⟨x, hx⟩ : ∃ x, L[k]? = some x := ⟨_, List.getElem?_eq_getElem (by have := HN.out; omega)⟩
      have k1 := H.out k x hx
      have HX := Lib.hid (orL_drop hx)
      clear hx
      by_cases hx0 : x = 0
      · subst hx0
        have hw2 : IntKind.i64.wrap ((k : Int) + 1) = ((k + 1 : Nat) : Int) := by rw [IntKind.wrap_i64]; omega
        go_wp2
        go_roundw
        case rel => exact ⟨k + 1, by omega, by go_num, Lib.hid (by rw [← HF.out, HX.out]; rfl), trivial⟩
        case measure => simp [intOf]; omega
      · have d2 : (x != 0) = true := by simpa using hx0
        have d3 : (x == 0) = false := by simpa using hx0
        have HE := Lib.hid (show r = x by rw [← HF.out, HX.out, if_pos hx0])
        clear hx0
        go_wp2
        go_ret
        exact ⟨by rw [HE.out]; rfl, rfl⟩
    · have d1 : decide ((k : Int) < (N : Int)) = false := by simp; omega
      have d1' : decide (k < N) = false := by simp; omega
      have HE := Lib.hid (show r = 0 by rw [← HF.out, List.drop_eq_nil_of_le (by rw [HN.out]; omega)]; rfl)
      go_wp2
      go_ret
      exact ⟨by rw [HE.out]; rfl, rfl⟩
theorem or_any (w : World) (g : Nat) (a b c : Int) (h : Box w g #[.int .i64 a, .int .i64 b, .int .i64 c] 3) : Calls Try.prog 74 #[.slice (some ⟨g, 0, none⟩) 3 3] w fun e w' => e = .returned (.int .i64 (orI a (orI b c))) ∧ w = w' := by
  have := orL_any w g 3 [a, b, c] rfl (by omega) (fun j x hj => by
    rw [h.cell j]
    match j, hj with
    | 0, hj => simp at hj; subst hj; rfl
    | 1, hj => simp at hj; subst hj; rfl
    | 2, hj => simp at hj; subst hj; rfl
    | j + 3, hj => simp at hj)
  refine this.mono fun e w' h => ?_
  have e1 : orL [a, b, c] = orI a (orI b c) := by
    simp only [orL, orI]
    split
    · rfl
    · split
      · rfl
      · split
        · rfl
        · rename_i h; simp at h; exact h.symm
  rw [← e1]; exact h
set_option maxRecDepth 100000 in
set_option maxHeartbeats 4000000 in
theorem compare_any (w : World) (x y : Ky) : Calls Try.prog 59 #[.agg #[.int .u8 x.k, .int .u32 x.a, .int .u32 x.b], .agg #[.int .u8 y.k, .int .u32 y.a, .int .u32 y.b]] w fun e w' => e = .returned (.int .i64 (cmpK x y)) ∧ Gr w w' := by
  obtain ⟨xk, xa, xb⟩ := x
  obtain ⟨yk, ya, yb⟩ := y
  have C1 := fun W => cmp8_any W xk yk
  have C2 := fun W => cmp32_any W xa ya
  have C3 := fun W => cmp32_any W xb yb
  have C4 := fun W g h => or_any W g (cmpI xk yk) (cmpI xa ya) (cmpI xb yb) h
  have hr : cmpK ⟨xk, xa, xb⟩ ⟨yk, ya, yb⟩ = orI (cmpI xk yk) (orI (cmpI xa ya) (cmpI xb yb)) := rfl
  rw [hr]
  clear hr
  generalize orI (cmpI xk yk) (orI (cmpI xa ya) (cmpI xb yb)) = r at C4 ⊢
  generalize cmpI xk yk = c1 at C1 C4
  generalize cmpI xa ya = c2 at C2 C4
  generalize cmpI xb yb = c3 at C3 C4
  have H1 := Lib.hid C1
  have H2 := Lib.hid C2
  have H3 := Lib.hid C3
  have H4 := Lib.hid C4
  clear C1 C2 C3 C4
  go_enter Try.func59, Try.ntmps59
  have X0 := (Box.new w #[.int .u8 xk, .int .u32 xa, .int .u32 xb] 81).alloc (.cells #[.int .u8 yk, .int .u32 ya, .int .u32 yb] 81)
  have X1 := Box.new (w.alloc (.cells #[.int .u8 xk, .int .u32 xa, .int .u32 xb] 81)) #[.int .u8 yk, .int .u32 ya, .int .u32 yb] 81
  have HG := Lib.hid ((Gr.alloc w (.cells #[.int .u8 xk, .int .u32 xa, .int .u32 xb] 81)).trans (Gr.alloc _ (.cells #[.int .u8 yk, .int .u32 ya, .int .u32 yb] 81)))
  have s1 : (w.alloc (.cells #[.int .u8 xk, .int .u32 xa, .int .u32 xb] 81)).heap.size = w.heap.size + 1 := by simp
  obtain ⟨x0, hx0⟩ : ∃ x0, w.heap.size = x0 := ⟨_, rfl⟩
  obtain ⟨x1, hx1⟩ : ∃ x1, x0 + 1 = x1 := ⟨_, rfl⟩
  rw [s1, hx0, hx1] at X1
  rw [hx0] at X0
  clear s1
  go_upto_region 1 with fail
  generalize (w.alloc (.cells #[.int .u8 xk, .int .u32 xa, .int .u32 xb] 81)).alloc (.cells #[.int .u8 yk, .int .u32 ya, .int .u32 yb] 81) = W0 at X0 X1 HG ⊢
  have X0 := Lib.hid X0
  have X1 := Lib.hid X1
  clear hx0 hx1
  refine wp_region_gr (by kernel_rfl) (by kernel_rfl) [(fun v _ => v = .pointer (some ⟨x0, 0, none⟩)), (fun v _ => v = .int .u8 xk), (fun v _ => v = .pointer (some ⟨x1, 0, none⟩)), (fun v _ => v = .int .u8 yk), (fun v _ => v = .int .i64 c1), (fun v _ => v = .pointer (some ⟨x0, 1, none⟩)), (fun v _ => v = .int .u32 xa), (fun v _ => v = .pointer (some ⟨x1, 1, none⟩)), (fun v _ => v = .int .u32 ya), (fun v _ => v = .int .i64 c2), (fun v _ => v = .pointer (some ⟨x0, 2, none⟩)), (fun v _ => v = .int .u32 xb), (fun v _ => v = .pointer (some ⟨x1, 2, none⟩)), (fun v _ => v = .int .u32 yb), (fun v _ => v = .int .i64 c3), (fun v W => ∃ g, v = .slice (some ⟨g, 0, none⟩) 3 3 ∧ Box W g #[.int .i64 c1, .int .i64 c2, .int .i64 c3] 3), (fun v _ => v = .int .i64 r), (fun v _ => v = .int .i64 r)] ?_ (fun vals => ?_) (fun vals W hgr hall => ?_)
  · intro j v W W' hr h
    match j, h with
    | 0, h => exact h
    | 1, h => exact h
    | 2, h => exact h
    | 3, h => exact h
    | 4, h => exact h
    | 5, h => exact h
    | 6, h => exact h
    | 7, h => exact h
    | 8, h => exact h
    | 9, h => exact h
    | 10, h => exact h
    | 11, h => exact h
    | 12, h => exact h
    | 13, h => exact h
    | 14, h => exact h
    | 15, h => obtain ⟨g, e1, e2⟩ := h; exact ⟨g, e1, e2.later hr.below⟩
    | 16, h => exact h
    | 17, h => exact h
    | _ + 18, _ => trivial
  · simp only [ObC, Act.put, List.setIfInBounds_toArray, List.set_cons_succ, List.set_cons_zero]
    refine ⟨?_, ?_, ?_, ?_, ?_, ?_, ?_, ?_, ?_, ?_, ?_, ?_, ?_, ?_, ?_, ?_, ?_, ?_, trivial⟩
    · intro W hC hw
      clear hw
      clear hC
      refine step_plain rfl ?_
      go_simp
      first | exact ⟨Gr.refl _, Fz.val rfl rfl⟩ | exact ⟨_, rfl, Gr.refl _, Fz.val rfl rfl⟩
    · intro W hC hw
      have f0 : vals 0 = .pointer (some ⟨x0, 0, none⟩) := hw ⟨0, .data⟩ (by simp) rfl
      clear hw
      have kc : W.cell? ⟨x0, 0, none⟩ = some (.int .u8 xk) := by rw [(X0.out.later (hC.below)).cell]; rfl
      clear hC
      refine step_plain rfl ?_
      go_simp
      first | exact ⟨Gr.refl _, Fz.val rfl rfl⟩ | exact ⟨_, rfl, Gr.refl _, Fz.val rfl rfl⟩
    · intro W hC hw
      clear hw
      clear hC
      refine step_plain rfl ?_
      go_simp
      first | exact ⟨Gr.refl _, Fz.val rfl rfl⟩ | exact ⟨_, rfl, Gr.refl _, Fz.val rfl rfl⟩
    · intro W hC hw
      have f2 : vals 2 = .pointer (some ⟨x1, 0, none⟩) := hw ⟨2, .data⟩ (by simp) rfl
      clear hw
      have kc : W.cell? ⟨x1, 0, none⟩ = some (.int .u8 yk) := by rw [(X1.out.later (hC.below)).cell]; rfl
      clear hC
      refine step_plain rfl ?_
      go_simp
      first | exact ⟨Gr.refl _, Fz.val rfl rfl⟩ | exact ⟨_, rfl, Gr.refl _, Fz.val rfl rfl⟩
    · intro W hC hw
      have f1 : vals 1 = .int .u8 xk := hw ⟨1, .data⟩ (by simp) rfl
      have f3 : vals 3 = .int .u8 yk := hw ⟨3, .data⟩ (by simp) rfl
      clear hw
      clear hC
      refine step_plain rfl ?_
      go_simp
      (with_reducible refine (H1.out W).mono ?_)
      rintro e9 w9 ⟨rfl, rfl⟩
      first | exact ⟨Gr.refl _, Fz.val rfl rfl⟩ | exact ⟨_, rfl, Gr.refl _, Fz.val rfl rfl⟩
    · intro W hC hw
      clear hw
      clear hC
      refine step_plain rfl ?_
      go_simp
      first | exact ⟨Gr.refl _, Fz.val rfl rfl⟩ | exact ⟨_, rfl, Gr.refl _, Fz.val rfl rfl⟩
    · intro W hC hw
      have f5 : vals 5 = .pointer (some ⟨x0, 1, none⟩) := hw ⟨5, .data⟩ (by simp) rfl
      clear hw
      have kc : W.cell? ⟨x0, 1, none⟩ = some (.int .u32 xa) := by rw [(X0.out.later (hC.below)).cell]; rfl
      clear hC
      refine step_plain rfl ?_
      go_simp
      first | exact ⟨Gr.refl _, Fz.val rfl rfl⟩ | exact ⟨_, rfl, Gr.refl _, Fz.val rfl rfl⟩
    · intro W hC hw
      clear hw
      clear hC
      refine step_plain rfl ?_
      go_simp
      first | exact ⟨Gr.refl _, Fz.val rfl rfl⟩ | exact ⟨_, rfl, Gr.refl _, Fz.val rfl rfl⟩
    · intro W hC hw
      have f7 : vals 7 = .pointer (some ⟨x1, 1, none⟩) := hw ⟨7, .data⟩ (by simp) rfl
      clear hw
      have kc : W.cell? ⟨x1, 1, none⟩ = some (.int .u32 ya) := by rw [(X1.out.later (hC.below)).cell]; rfl
      clear hC
      refine step_plain rfl ?_
      go_simp
      first | exact ⟨Gr.refl _, Fz.val rfl rfl⟩ | exact ⟨_, rfl, Gr.refl _, Fz.val rfl rfl⟩
    · intro W hC hw
      have f6 : vals 6 = .int .u32 xa := hw ⟨6, .data⟩ (by simp) rfl
      have f8 : vals 8 = .int .u32 ya := hw ⟨8, .data⟩ (by simp) rfl
      clear hw
      clear hC
      refine step_plain rfl ?_
      go_simp
      (with_reducible refine (H2.out W).mono ?_)
      rintro e9 w9 ⟨rfl, rfl⟩
      first | exact ⟨Gr.refl _, Fz.val rfl rfl⟩ | exact ⟨_, rfl, Gr.refl _, Fz.val rfl rfl⟩
    · intro W hC hw
      clear hw
      clear hC
      refine step_plain rfl ?_
      go_simp
      first | exact ⟨Gr.refl _, Fz.val rfl rfl⟩ | exact ⟨_, rfl, Gr.refl _, Fz.val rfl rfl⟩
    · intro W hC hw
      have f10 : vals 10 = .pointer (some ⟨x0, 2, none⟩) := hw ⟨10, .data⟩ (by simp) rfl
      clear hw
      have kc : W.cell? ⟨x0, 2, none⟩ = some (.int .u32 xb) := by rw [(X0.out.later (hC.below)).cell]; rfl
      clear hC
      refine step_plain rfl ?_
      go_simp
      first | exact ⟨Gr.refl _, Fz.val rfl rfl⟩ | exact ⟨_, rfl, Gr.refl _, Fz.val rfl rfl⟩
    · intro W hC hw
      clear hw
      clear hC
      refine step_plain rfl ?_
      go_simp
      first | exact ⟨Gr.refl _, Fz.val rfl rfl⟩ | exact ⟨_, rfl, Gr.refl _, Fz.val rfl rfl⟩
    · intro W hC hw
      have f12 : vals 12 = .pointer (some ⟨x1, 2, none⟩) := hw ⟨12, .data⟩ (by simp) rfl
      clear hw
      have kc : W.cell? ⟨x1, 2, none⟩ = some (.int .u32 yb) := by rw [(X1.out.later (hC.below)).cell]; rfl
      clear hC
      refine step_plain rfl ?_
      go_simp
      first | exact ⟨Gr.refl _, Fz.val rfl rfl⟩ | exact ⟨_, rfl, Gr.refl _, Fz.val rfl rfl⟩
    · intro W hC hw
      have f11 : vals 11 = .int .u32 xb := hw ⟨11, .data⟩ (by simp) rfl
      have f13 : vals 13 = .int .u32 yb := hw ⟨13, .data⟩ (by simp) rfl
      clear hw
      clear hC
      refine step_plain rfl ?_
      go_simp
      (with_reducible refine (H3.out W).mono ?_)
      rintro e9 w9 ⟨rfl, rfl⟩
      first | exact ⟨Gr.refl _, Fz.val rfl rfl⟩ | exact ⟨_, rfl, Gr.refl _, Fz.val rfl rfl⟩
    · intro W hC hw
      have f4 : vals 4 = .int .i64 c1 := hw ⟨4, .data⟩ (by simp) rfl
      have f9 : vals 9 = .int .i64 c2 := hw ⟨9, .data⟩ (by simp) rfl
      have f14 : vals 14 = .int .i64 c3 := hw ⟨14, .data⟩ (by simp) rfl
      clear hw
      clear hC
      refine step_plain rfl ?_
      go_simp
      have hbn := Box.new W #[.int .i64 c1, .int .i64 c2, .int .i64 c3] 3
      first | exact ⟨Gr.alloc _ _, Fz.val rfl ⟨_, rfl, hbn⟩⟩ | exact ⟨_, rfl, Gr.alloc _ _, Fz.val rfl ⟨_, rfl, hbn⟩⟩
    · intro W hC hw
      have f15 : ∃ g, (vals 15) = .slice (some ⟨g, 0, none⟩) 3 3 ∧ Box W g #[.int .i64 c1, .int .i64 c2, .int .i64 c3] 3 := hw ⟨15, .data⟩ (by simp) rfl
      clear hw
      obtain ⟨g, f15a, f15b⟩ := f15
      have HF := Lib.hid (H4.out W g f15b)
      clear f15b hC
      refine step_plain rfl ?_
      go_simp
      (with_reducible refine HF.out.mono ?_)
      rintro e9 w9 ⟨rfl, rfl⟩
      first | exact ⟨Gr.refl _, Fz.val rfl rfl⟩ | exact ⟨_, rfl, Gr.refl _, Fz.val rfl rfl⟩
    · intro W hC hw
      have f16 : vals 16 = .int .i64 r := hw ⟨16, .data⟩ (by simp) rfl
      clear hw
      clear hC
      refine step_plain rfl ?_
      go_simp
      first | exact ⟨Gr.refl _, Fz.val rfl rfl⟩ | exact ⟨_, rfl, Gr.refl _, Fz.val rfl rfl⟩
  · simp only [TL, Act.put, List.setIfInBounds_toArray, List.set_cons_succ, List.set_cons_zero]
    have f17 : vals 17 = .int .i64 r := hall 17 (by decide)
    have HQ := Lib.hid (HG.out.trans hgr)
    clear hall hgr
    simp only [f17]
    go_wp2
    go_ret
    exact ⟨rfl, HQ.out⟩
end Go.Proofs.Ytpndcpmfcajmdaa.Lock
