import Derived.Test.YtpndcpmfcajmdaaLn0
import Derived.Test.YtpndcpmfcajmdaaLn1
import Derived.RangeFuncSeq
import Derived.Shelf.SlSortCmp.NoneTotal
import Derived.Shelf.SlSortCmp.WholeK
import Derived.Sort.AssemblyPlain
import Derived.Sort.MapsRangeIn
import Derived.WalkKit
namespace Go.Proofs
open Go.Shelf
def layN_ren : Go.Shelf.Ren := ⟨fun | 6 => 58 | 15 => 57 | 14 => 73 | 28 => 71 | 29 => 72 | 20 => 84 | 21 => 85 | 22 => 86 | 23 => 87 | 24 => 88 | 25 => 89 | 26 => 90 | 27 => 91 | 46 => 95 | 47 => 79 | 48 => 80 | 49 => 96 | 50 => 97 | 57 => 98 | n => n, fun | 22 => 79 | 24 => 81 | 25 => 108 | 3 => 3 | 39 => 106 | 0 => 0 | 53 => 29 | 55 => 123 | 4 => 4 | 46 => 114 | 45 => 113 | 50 => 119 | 5 => 5 | 9 => 9 | 66 => 128 | 70 => 132 | 76 => 142 | 77 => 143 | n => n, fun | n => n⟩
theorem layN : Go.Proofs.SlLaysF0.n6 Try.prog layN_ren := {
  mixed := by kernel_rfl
  f6 := ⟨Try.f58.name, by decide, Try.func58.trans (congrArg some (by kernel_rfl))⟩
  f14 := ⟨Try.f73.name, by decide, Try.func73.trans (congrArg some (by kernel_rfl))⟩
  f15 := Try.func57.trans (congrArg some (by kernel_rfl))
  f20 := ⟨Try.f84.name, by decide, Try.func84.trans (congrArg some (by kernel_rfl))⟩
  f21 := ⟨Try.f85.name, by decide, Try.func85.trans (congrArg some (by kernel_rfl))⟩
  f22 := ⟨Try.f86.name, by decide, Try.func86.trans (congrArg some (by kernel_rfl))⟩
  f23 := ⟨Try.f87.name, by decide, Try.func87.trans (congrArg some (by kernel_rfl))⟩
  f24 := ⟨Try.f88.name, by decide, Try.func88.trans (congrArg some (by kernel_rfl))⟩
  f25 := ⟨Try.f89.name, by decide, Try.func89.trans (congrArg some (by kernel_rfl))⟩
  f26 := ⟨Try.f90.name, by decide, Try.func90.trans (congrArg some (by kernel_rfl))⟩
  f27 := ⟨Try.f91.name, by decide, Try.func91.trans (congrArg some (by kernel_rfl))⟩
  f28 := Try.func71.trans (congrArg some (by kernel_rfl))
  f29 := Try.func72.trans (congrArg some (by kernel_rfl))
  f46 := ⟨Try.f95.name, by decide, Try.func95.trans (congrArg some (by kernel_rfl))⟩
  f47 := Try.func79.trans (congrArg some (by kernel_rfl))
  f48 := Try.func80.trans (congrArg some (by kernel_rfl))
  f49 := ⟨Try.f96.name, by decide, Try.func96.trans (congrArg some (by kernel_rfl))⟩
  f50 := ⟨Try.f97.name, by decide, Try.func97.trans (congrArg some (by kernel_rfl))⟩
  f57 := ⟨Try.f98.name, by decide, Try.func98.trans (congrArg some (by kernel_rfl))⟩
  t0 := Try.underlying0
  a0 := Try.isAgg0
  z0 := Try.sizeOf0
  v0 := Try.zeroValue0
  t3 := Try.underlying3
  a3 := Try.isAgg3
  z3 := Try.sizeOf3
  v3 := Try.zeroValue3
  t4 := Try.underlying4
  a4 := Try.isAgg4
  z4 := Try.sizeOf4
  v4 := Try.zeroValue4
  t5 := Try.underlying5
  a5 := Try.isAgg5
  z5 := Try.sizeOf5
  v5 := Try.zeroValue5
  t9 := Try.underlying9
  a9 := Try.isAgg9
  z9 := Try.sizeOf9
  v9 := Try.zeroValue9
  t22 := Try.underlying79
  a22 := Try.isAgg79
  z22 := Try.sizeOf79
  v22 := Try.zeroValue79
  t25 := Try.underlying108
  a25 := Try.isAgg108
  z25 := Try.sizeOf108
  v25 := Try.zeroValue108
  t39 := Try.underlying106
  a39 := Try.isAgg106
  z39 := Try.sizeOf106
  v39 := Try.zeroValue106
  t45 := Try.underlying113
  a45 := Try.isAgg113
  z45 := Try.sizeOf113
  v45 := Try.zeroValue113
  t46 := Try.underlying114
  a46 := Try.isAgg114
  z46 := Try.sizeOf114
  v46 := Try.zeroValue114
  t50 := Try.underlying119
  a50 := Try.isAgg119
  z50 := Try.sizeOf119
  v50 := Try.zeroValue119
  t53 := Try.underlying29
  a53 := Try.isAgg29
  z53 := Try.sizeOf29
  v53 := Try.zeroValue29
  t55 := Try.underlying123
  a55 := Try.isAgg123
  z55 := Try.sizeOf123
  v55 := Try.zeroValue123
  t66 := Try.underlying128
  a66 := Try.isAgg128
  z66 := Try.sizeOf128
  v66 := Try.zeroValue128
  t70 := Try.underlying132
  a70 := Try.isAgg132
  z70 := Try.sizeOf132
  v70 := Try.zeroValue132
  t76 := Try.underlying142
  a76 := Try.isAgg142
  z76 := Try.sizeOf142
  v76 := Try.zeroValue142
  t77 := Try.underlying143
  a77 := Try.isAgg143
  z77 := Try.sizeOf143
  v77 := Try.zeroValue143 }
end Go.Proofs
namespace Go.Proofs.Ytpndcpmfcajmdaa.Lock
open Go.ChangeShapes Go.WideShapes Go.ChangeAt Go.RowKit Go.IntWalk Go.Proofs.Mem Law Go.Sort Go.Lib Go.Proofs.Each
set_option linter.unusedVariables false
set_option linter.unusedSimpArgs false
instance : Inhabited Ky := ⟨⟨0, 0, 0⟩⟩
def cKy (x : Ky) : List Value := [.int .u8 x.k, .int .u32 x.a, .int .u32 x.b]
def cmpI (a b : Int) : Int := if a < b then -1 else if b < a then 1 else 0
def orI (a b : Int) : Int := if a ≠ 0 then a else b
def cmpK (x y : Ky) : Int := orI (cmpI x.k y.k) (orI (cmpI x.a y.a) (cmpI x.b y.b))
set_option maxRecDepth 100000 in
set_option maxHeartbeats 4000000 in
theorem cmp8_any (w : World) (a b : Int) : Calls Try.prog 75 #[.int .u8 a, .int .u8 b] w fun e w' => e = .returned (.int .i64 (cmpI a b)) ∧ w = w' := by
  obtain ⟨c, hc⟩ : ∃ c, cmpI a b = c := ⟨_, rfl⟩
  rw [hc]
  have HC := Lib.hid hc
  clear hc
  by_cases h1 : a < b
  · have d1 : decide (a < b) = true := by simpa using h1
    have HH := Lib.hid (show cmpI a b = -1 by unfold cmpI; rw [if_pos h1])
    clear h1
    go_enter Try.func75, Try.ntmps75
    go_wp2
    go_ret
    exact ⟨by rw [← HC.out, HH.out]; rfl, rfl⟩
  · have d1 : decide (a < b) = false := by simpa using h1
    by_cases h2 : b < a
    · have d2 : decide (b < a) = true := by simpa using h2
      have HH := Lib.hid (show cmpI a b = 1 by unfold cmpI; rw [if_neg h1, if_pos h2])
      clear h1 h2
      go_enter Try.func75, Try.ntmps75
      go_wp2
      go_ret
      exact ⟨by rw [← HC.out, HH.out]; rfl, rfl⟩
    · have d2 : decide (b < a) = false := by simpa using h2
      have HH := Lib.hid (show cmpI a b = 0 by unfold cmpI; rw [if_neg h1, if_neg h2])
      clear h1 h2
      go_enter Try.func75, Try.ntmps75
      go_wp2
      go_ret
      exact ⟨by rw [← HC.out, HH.out]; rfl, rfl⟩
set_option maxRecDepth 100000 in
set_option maxHeartbeats 4000000 in
theorem cmp32_any (w : World) (a b : Int) : Calls Try.prog 76 #[.int .u32 a, .int .u32 b] w fun e w' => e = .returned (.int .i64 (cmpI a b)) ∧ w = w' := by
  obtain ⟨c, hc⟩ : ∃ c, cmpI a b = c := ⟨_, rfl⟩
  rw [hc]
  have HC := Lib.hid hc
  clear hc
  by_cases h1 : a < b
  · have d1 : decide (a < b) = true := by simpa using h1
    have HH := Lib.hid (show cmpI a b = -1 by unfold cmpI; rw [if_pos h1])
    clear h1
    go_enter Try.func76, Try.ntmps76
    go_wp2
    go_ret
    exact ⟨by rw [← HC.out, HH.out]; rfl, rfl⟩
  · have d1 : decide (a < b) = false := by simpa using h1
    by_cases h2 : b < a
    · have d2 : decide (b < a) = true := by simpa using h2
      have HH := Lib.hid (show cmpI a b = 1 by unfold cmpI; rw [if_neg h1, if_pos h2])
      clear h1 h2
      go_enter Try.func76, Try.ntmps76
      go_wp2
      go_ret
      exact ⟨by rw [← HC.out, HH.out]; rfl, rfl⟩
    · have d2 : decide (b < a) = false := by simpa using h2
      have HH := Lib.hid (show cmpI a b = 0 by unfold cmpI; rw [if_neg h1, if_neg h2])
      clear h1 h2
      go_enter Try.func76, Try.ntmps76
      go_wp2
      go_ret
      exact ⟨by rw [← HC.out, HH.out]; rfl, rfl⟩
def orL : List Int → Int
  | [] => 0
  | x :: l => if x ≠ 0 then x else orL l
theorem orL_drop {L : List Int} {k : Nat} {x : Int} (h : L[k]? = some x) : orL (L.drop k) = if x ≠ 0 then x else orL (L.drop (k + 1)) := by
  have hk : k < L.length := (List.getElem?_eq_some_iff.1 h).1
  have hx : L[k] = x := (List.getElem?_eq_some_iff.1 h).2
  rw [List.drop_eq_getElem_cons hk, hx]
  rfl
set_option maxRecDepth 100000 in
set_option maxHeartbeats 4000000 in
theorem orL_any (w : World) (g N : Nat) (L : List Int) (hN : L.length = N) (hn : N ≤ 1000) (h : ∀ j x, L[j]? = some x → w.cell? ⟨g, j, none⟩ = some (.int .i64 x)) : Calls Try.prog 74 #[.slice (some ⟨g, 0, none⟩) N N] w fun e w' => e = .returned (.int .i64 (orL L)) ∧ w = w' := by
  obtain ⟨r, hr⟩ : ∃ r, orL L = r := ⟨_, rfl⟩
  rw [hr]
  have HR := Lib.hid (show orL (L.drop 0) = r from hr)
  have H := Lib.hid h
  have HN := Lib.hid hN
  clear hr h hN
  go_enter Try.func74, Try.ntmps74
  go_wp2
  go_loopw [5, 8] (fun _ s wr => ∃ k : Nat, k ≤ N ∧ s = .int .i64 k ∧ Hid (orL (L.drop k) = r) ∧ w = wr) (fun _ s _ => N - (intOf s).toNat)
  case atStart => exact ⟨0, Nat.zero_le _, rfl, HR, rfl⟩
  case round =>
    obtain ⟨k, hk, rfl, HF, rfl⟩ := hrel
    by_cases hl : k < N
    · have d1 : decide ((k : Int) < (N : Int)) = true := by simp; omega
      have d1' : decide (k < N) = true := by simp; omega
      obtain ⟨x, hx⟩ : ∃ x, L[k]? = some x := ⟨_, List.getElem?_eq_getElem (by have := HN.out; omega)⟩
      have k1 := H.out k x hx
      have HX := Lib.hid (orL_drop hx)
      clear hx
      by_cases hx0 : x = 0
      · subst hx0
        have hw2 : IntKind.i64.wrap ((k : Int) + 1) = ((k + 1 : Nat) : Int) := by rw [IntKind.wrap_i64]; omega
        go_wp2
        go_roundw
        case rel => exact ⟨k + 1, by omega, by go_num, Lib.hid (by rw [← HF.out, HX.out]; rfl), trivial⟩
        case measure => simp [intOf]; omega
      · have d2 : (x != 0) = true := by simpa using hx0
        have d3 : (x == 0) = false := by simpa using hx0
        have HE := Lib.hid (show r = x by rw [← HF.out, HX.out, if_pos hx0])
        clear hx0
        go_wp2
        go_ret
        exact ⟨by rw [HE.out]; rfl, rfl⟩
    · have d1 : decide ((k : Int) < (N : Int)) = false := by simp; omega
      have d1' : decide (k < N) = false := by simp; omega
      have HE := Lib.hid (show r = 0 by rw [← HF.out, List.drop_eq_nil_of_le (by rw [HN.out]; omega)]; rfl)
      go_wp2
      go_ret
      exact ⟨by rw [HE.out]; rfl, rfl⟩
theorem or_any (w : World) (g : Nat) (a b c : Int) (h : Box w g #[.int .i64 a, .int .i64 b, .int .i64 c] 3) : Calls Try.prog 74 #[.slice (some ⟨g, 0, none⟩) 3 3] w fun e w' => e = .returned (.int .i64 (orI a (orI b c))) ∧ w = w' := by
  have := orL_any w g 3 [a, b, c] rfl (by omega) (fun j x hj => by
    rw [h.cell j]
    match j, hj with
    | 0, hj => simp at hj; subst hj; rfl
    | 1, hj => simp at hj; subst hj; rfl
    | 2, hj => simp at hj; subst hj; rfl
    | j + 3, hj => simp at hj)
  refine this.mono fun e w' h => ?_
  have e1 : orL [a, b, c] = orI a (orI b c) := by
    simp only [orL, orI]
    split
    · rfl
    · split
      · rfl
      · split
        · rfl
        · rename_i h; simp at h; exact h.symm
  rw [← e1]; exact h
set_option maxRecDepth 100000 in
set_option maxHeartbeats 4000000 in
theorem compare_any (w : World) (x y : Ky) : Calls Try.prog 59 #[.agg #[.int .u8 x.k, .int .u32 x.a, .int .u32 x.b], .agg #[.int .u8 y.k, .int .u32 y.a, .int .u32 y.b]] w fun e w' => e = .returned (.int .i64 (cmpK x y)) ∧ Gr w w' := by
  obtain ⟨xk, xa, xb⟩ := x
  obtain ⟨yk, ya, yb⟩ := y
  have C1 := fun W => cmp8_any W xk yk
  have C2 := fun W => cmp32_any W xa ya
  have C3 := fun W => cmp32_any W xb yb
  have C4 := fun W g h => or_any W g (cmpI xk yk) (cmpI xa ya) (cmpI xb yb) h
  have hr : cmpK ⟨xk, xa, xb⟩ ⟨yk, ya, yb⟩ = orI (cmpI xk yk) (orI (cmpI xa ya) (cmpI xb yb)) := rfl
  rw [hr]
  clear hr
  generalize orI (cmpI xk yk) (orI (cmpI xa ya) (cmpI xb yb)) = r at C4 ⊢
  generalize cmpI xk yk = c1 at C1 C4
  generalize cmpI xa ya = c2 at C2 C4
  generalize cmpI xb yb = c3 at C3 C4
  have H1 := Lib.hid C1
  have H2 := Lib.hid C2
  have H3 := Lib.hid C3
  have H4 := Lib.hid C4
  clear C1 C2 C3 C4
  go_enter Try.func59, Try.ntmps59
  have X0 := (Box.new w #[.int .u8 xk, .int .u32 xa, .int .u32 xb] 81).alloc (.cells #[.int .u8 yk, .int .u32 ya, .int .u32 yb] 81)
  have X1 := Box.new (w.alloc (.cells #[.int .u8 xk, .int .u32 xa, .int .u32 xb] 81)) #[.int .u8 yk, .int .u32 ya, .int .u32 yb] 81
  have HG := Lib.hid ((Gr.alloc w (.cells #[.int .u8 xk, .int .u32 xa, .int .u32 xb] 81)).trans (Gr.alloc _ (.cells #[.int .u8 yk, .int .u32 ya, .int .u32 yb] 81)))
  have s1 : (w.alloc (.cells #[.int .u8 xk, .int .u32 xa, .int .u32 xb] 81)).heap.size = w.heap.size + 1 := by simp
  obtain ⟨x0, hx0⟩ : ∃ x0, w.heap.size = x0 := ⟨_, rfl⟩
  obtain ⟨x1, hx1⟩ : ∃ x1, x0 + 1 = x1 := ⟨_, rfl⟩
  rw [s1, hx0, hx1] at X1
  rw [hx0] at X0
  clear s1
  go_upto_region 1 with fail
  generalize (w.alloc (.cells #[.int .u8 xk, .int .u32 xa, .int .u32 xb] 81)).alloc (.cells #[.int .u8 yk, .int .u32 ya, .int .u32 yb] 81) = W0 at X0 X1 HG ⊢
  have X0 := Lib.hid X0
  have X1 := Lib.hid X1
  clear hx0 hx1
  refine wp_region_gr (by kernel_rfl) (by kernel_rfl) [(fun v _ => v = .pointer (some ⟨x0, 0, none⟩)), (fun v _ => v = .int .u8 xk), (fun v _ => v = .pointer (some ⟨x1, 0, none⟩)), (fun v _ => v = .int .u8 yk), (fun v _ => v = .int .i64 c1), (fun v _ => v = .pointer (some ⟨x0, 1, none⟩)), (fun v _ => v = .int .u32 xa), (fun v _ => v = .pointer (some ⟨x1, 1, none⟩)), (fun v _ => v = .int .u32 ya), (fun v _ => v = .int .i64 c2), (fun v _ => v = .pointer (some ⟨x0, 2, none⟩)), (fun v _ => v = .int .u32 xb), (fun v _ => v = .pointer (some ⟨x1, 2, none⟩)), (fun v _ => v = .int .u32 yb), (fun v _ => v = .int .i64 c3), (fun v W => ∃ g, v = .slice (some ⟨g, 0, none⟩) 3 3 ∧ Box W g #[.int .i64 c1, .int .i64 c2, .int .i64 c3] 3), (fun v _ => v = .int .i64 r), (fun v _ => v = .int .i64 r)] ?_ (fun vals => ?_) (fun vals W hgr hall => ?_)
  · intro j v W W' hr h
    match j, h with
    | 0, h => exact h
    | 1, h => exact h
    | 2, h => exact h
    | 3, h => exact h
    | 4, h => exact h
    | 5, h => exact h
    | 6, h => exact h
    | 7, h => exact h
    | 8, h => exact h
    | 9, h => exact h
    | 10, h => exact h
    | 11, h => exact h
    | 12, h => exact h
    | 13, h => exact h
    | 14, h => exact h
    | 15, h => obtain ⟨g, e1, e2⟩ := h; exact ⟨g, e1, e2.later hr.below⟩
    | 16, h => exact h
    | 17, h => exact h
    | _ + 18, _ => trivial
  · simp only [ObC, Act.put, List.setIfInBounds_toArray, List.set_cons_succ, List.set_cons_zero]
    refine ⟨?_, ?_, ?_, ?_, ?_, ?_, ?_, ?_, ?_, ?_, ?_, ?_, ?_, ?_, ?_, ?_, ?_, ?_, trivial⟩
    · intro W hC hw
      clear hw
      clear hC
      refine step_plain rfl ?_
      go_simp
      first | exact ⟨Gr.refl _, Fz.val rfl rfl⟩ | exact ⟨_, rfl, Gr.refl _, Fz.val rfl rfl⟩
    · intro W hC hw
      have f0 : vals 0 = .pointer (some ⟨x0, 0, none⟩) := hw ⟨0, .data⟩ (by simp) rfl
      clear hw
      have kc : W.cell? ⟨x0, 0, none⟩ = some (.int .u8 xk) := by rw [(X0.out.later (hC.below)).cell]; rfl
      clear hC
      refine step_plain rfl ?_
      go_simp
      first | exact ⟨Gr.refl _, Fz.val rfl rfl⟩ | exact ⟨_, rfl, Gr.refl _, Fz.val rfl rfl⟩
    · intro W hC hw
      clear hw
      clear hC
      refine step_plain rfl ?_
      go_simp
      first | exact ⟨Gr.refl _, Fz.val rfl rfl⟩ | exact ⟨_, rfl, Gr.refl _, Fz.val rfl rfl⟩
    · intro W hC hw
      have f2 : vals 2 = .pointer (some ⟨x1, 0, none⟩) := hw ⟨2, .data⟩ (by simp) rfl
      clear hw
      have kc : W.cell? ⟨x1, 0, none⟩ = some (.int .u8 yk) := by rw [(X1.out.later (hC.below)).cell]; rfl
      clear hC
      refine step_plain rfl ?_
      go_simp
      first | exact ⟨Gr.refl _, Fz.val rfl rfl⟩ | exact ⟨_, rfl, Gr.refl _, Fz.val rfl rfl⟩
    · intro W hC hw
      have f1 : vals 1 = .int .u8 xk := hw ⟨1, .data⟩ (by simp) rfl
      have f3 : vals 3 = .int .u8 yk := hw ⟨3, .data⟩ (by simp) rfl
      clear hw
      clear hC
      refine step_plain rfl ?_
      go_simp
      (with_reducible refine (H1.out W).mono ?_)
      rintro e9 w9 ⟨rfl, rfl⟩
      first | exact ⟨Gr.refl _, Fz.val rfl rfl⟩ | exact ⟨_, rfl, Gr.refl _, Fz.val rfl rfl⟩
    · intro W hC hw
      clear hw
      clear hC
      refine step_plain rfl ?_
      go_simp
      first | exact ⟨Gr.refl _, Fz.val rfl rfl⟩ | exact ⟨_, rfl, Gr.refl _, Fz.val rfl rfl⟩
    · intro W hC hw
      have f5 : vals 5 = .pointer (some ⟨x0, 1, none⟩) := hw ⟨5, .data⟩ (by simp) rfl
      clear hw
      have kc : W.cell? ⟨x0, 1, none⟩ = some (.int .u32 xa) := by rw [(X0.out.later (hC.below)).cell]; rfl
      clear hC
      refine step_plain rfl ?_
      go_simp
      first | exact ⟨Gr.refl _, Fz.val rfl rfl⟩ | exact ⟨_, rfl, Gr.refl _, Fz.val rfl rfl⟩
    · intro W hC hw
      clear hw
      clear hC
      refine step_plain rfl ?_
      go_simp
      first | exact ⟨Gr.refl _, Fz.val rfl rfl⟩ | exact ⟨_, rfl, Gr.refl _, Fz.val rfl rfl⟩
    · intro W hC hw
      have f7 : vals 7 = .pointer (some ⟨x1, 1, none⟩) := hw ⟨7, .data⟩ (by simp) rfl
      clear hw
      have kc : W.cell? ⟨x1, 1, none⟩ = some (.int .u32 ya) := by rw [(X1.out.later (hC.below)).cell]; rfl
      clear hC
      refine step_plain rfl ?_
      go_simp
      first | exact ⟨Gr.refl _, Fz.val rfl rfl⟩ | exact ⟨_, rfl, Gr.refl _, Fz.val rfl rfl⟩
    · intro W hC hw
      have f6 : vals 6 = .int .u32 xa := hw ⟨6, .data⟩ (by simp) rfl
      have f8 : vals 8 = .int .u32 ya := hw ⟨8, .data⟩ (by simp) rfl
      clear hw
      clear hC
      refine step_plain rfl ?_
      go_simp
      (with_reducible refine (H2.out W).mono ?_)
      rintro e9 w9 ⟨rfl, rfl⟩
      first | exact ⟨Gr.refl _, Fz.val rfl rfl⟩ | exact ⟨_, rfl, Gr.refl _, Fz.val rfl rfl⟩
    · intro W hC hw
      clear hw
      clear hC
      refine step_plain rfl ?_
      go_simp
      first | exact ⟨Gr.refl _, Fz.val rfl rfl⟩ | exact ⟨_, rfl, Gr.refl _, Fz.val rfl rfl⟩
    · intro W hC hw
      have f10 : vals 10 = .pointer (some ⟨x0, 2, none⟩) := hw ⟨10, .data⟩ (by simp) rfl
      clear hw
      have kc : W.cell? ⟨x0, 2, none⟩ = some (.int .u32 xb) := by rw [(X0.out.later (hC.below)).cell]; rfl
      clear hC
      refine step_plain rfl ?_
      go_simp
      first | exact ⟨Gr.refl _, Fz.val rfl rfl⟩ | exact ⟨_, rfl, Gr.refl _, Fz.val rfl rfl⟩
    · intro W hC hw
      clear hw
      clear hC
      refine step_plain rfl ?_
      go_simp
      first | exact ⟨Gr.refl _, Fz.val rfl rfl⟩ | exact ⟨_, rfl, Gr.refl _, Fz.val rfl rfl⟩
    · intro W hC hw
      have f12 : vals 12 = .pointer (some ⟨x1, 2, none⟩) := hw ⟨12, .data⟩ (by simp) rfl
      clear hw
      have kc : W.cell? ⟨x1, 2, none⟩ = some (.int .u32 yb) := by rw [(X1.out.later (hC.below)).cell]; rfl
      clear hC
      refine step_plain rfl ?_
      go_simp
      first | exact ⟨Gr.refl _, Fz.val rfl rfl⟩ | exact ⟨_, rfl, Gr.refl _, Fz.val rfl rfl⟩
    · intro W hC hw
      have f11 : vals 11 = .int .u32 xb := hw ⟨11, .data⟩ (by simp) rfl
      have f13 : vals 13 = .int .u32 yb := hw ⟨13, .data⟩ (by simp) rfl
      clear hw
      clear hC
      refine step_plain rfl ?_
      go_simp
      (with_reducible refine (H3.out W).mono ?_)
      rintro e9 w9 ⟨rfl, rfl⟩
      first | exact ⟨Gr.refl _, Fz.val rfl rfl⟩ | exact ⟨_, rfl, Gr.refl _, Fz.val rfl rfl⟩
    · intro W hC hw
      have f4 : vals 4 = .int .i64 c1 := hw ⟨4, .data⟩ (by simp) rfl
      have f9 : vals 9 = .int .i64 c2 := hw ⟨9, .data⟩ (by simp) rfl
      have f14 : vals 14 = .int .i64 c3 := hw ⟨14, .data⟩ (by simp) rfl
      clear hw
      clear hC
      refine step_plain rfl ?_
      go_simp
      have hbn := Box.new W #[.int .i64 c1, .int .i64 c2, .int .i64 c3] 3
      first | exact ⟨Gr.alloc _ _, Fz.val rfl ⟨_, rfl, hbn⟩⟩ | exact ⟨_, rfl, Gr.alloc _ _, Fz.val rfl ⟨_, rfl, hbn⟩⟩
    · intro W hC hw
      have f15 : ∃ g, (vals 15) = .slice (some ⟨g, 0, none⟩) 3 3 ∧ Box W g #[.int .i64 c1, .int .i64 c2, .int .i64 c3] 3 := hw ⟨15, .data⟩ (by simp) rfl
      clear hw
      obtain ⟨g, f15a, f15b⟩ := f15
      have HF := Lib.hid (H4.out W g f15b)
      clear f15b hC
      refine step_plain rfl ?_
      go_simp
      (with_reducible refine HF.out.mono ?_)
      rintro e9 w9 ⟨rfl, rfl⟩
      first | exact ⟨Gr.refl _, Fz.val rfl rfl⟩ | exact ⟨_, rfl, Gr.refl _, Fz.val rfl rfl⟩
    · intro W hC hw
      have f16 : vals 16 = .int .i64 r := hw ⟨16, .data⟩ (by simp) rfl
      clear hw
      clear hC
      refine step_plain rfl ?_
      go_simp
      first | exact ⟨Gr.refl _, Fz.val rfl rfl⟩ | exact ⟨_, rfl, Gr.refl _, Fz.val rfl rfl⟩
  · simp only [TL, Act.put, List.setIfInBounds_toArray, List.set_cons_succ, List.set_cons_zero]
    have f17 : vals 17 = .int .i64 r := hall 17 (by decide)
    have HQ := Lib.hid (HG.out.trans hgr)
    clear hall hgr
    simp only [f17]
    go_wp2
    go_ret
    exact ⟨rfl, HQ.out⟩
end Go.Proofs.Ytpndcpmfcajmdaa.Lock
namespace Go.Proofs.Ytpndcpmfcajmdaa.Lock
open Go.ChangeShapes Go.WideShapes Go.ChangeAt Go.RowKit Go.IntWalk Go.Proofs.Mem Law Go.Proofs.Each
set_option linter.unusedVariables false
set_option linter.unusedSimpArgs false
def klt (x y : Ky) : Prop := x.k < y.k ∨ (x.k = y.k ∧ (x.a < y.a ∨ (x.a = y.a ∧ x.b < y.b)))
instance (x y : Ky) : Decidable (klt x y) := by unfold klt; infer_instance
theorem cmpI_cases (a b : Int) : (a < b ∧ cmpI a b = -1) ∨ (a = b ∧ cmpI a b = 0) ∨ (b < a ∧ cmpI a b = 1) := by
  unfold cmpI
  by_cases h1 : a < b
  · exact .inl ⟨h1, if_pos h1⟩
  · by_cases h2 : b < a
    · exact .inr (.inr ⟨h2, by rw [if_neg h1, if_pos h2]⟩)
    · exact .inr (.inl ⟨by omega, by rw [if_neg h1, if_neg h2]⟩)
theorem cmpK_neg (x y : Ky) : cmpK x y < 0 ↔ klt x y := by
  unfold cmpK klt
  rcases cmpI_cases x.k y.k with ⟨h1, e1⟩ | ⟨h1, e1⟩ | ⟨h1, e1⟩ <;> rcases cmpI_cases x.a y.a with ⟨h2, e2⟩ | ⟨h2, e2⟩ | ⟨h2, e2⟩ <;> rcases cmpI_cases x.b y.b with ⟨h3, e3⟩ | ⟨h3, e3⟩ | ⟨h3, e3⟩ <;>
    (simp [orI, e1, e2, e3]; omega)
theorem klt_ltOf (x y : Ky) : ltOf cmpK x y = decide (klt x y) := by
  unfold ltOf
  exact decide_eq_decide.2 (cmpK_neg x y)
theorem klt_irrefl (x : Ky) : ¬ klt x x := by unfold klt; omega
theorem klt_trans {x y z : Ky} (h : klt x y) (k : klt y z) : klt x z := by unfold klt at *; omega
theorem klt_total {x y : Ky} (h : ¬ klt x y) (k : ¬ klt y x) : x = y := by
  obtain ⟨a, b, c⟩ := x
  obtain ⟨a', b', c'⟩ := y
  unfold klt at h k
  simp only at h k
  have : a = a' := by omega
  have : b = b' := by omega
  have : c = c' := by omega
  subst_vars
  rfl
theorem klt_swo : Sort.SWO (ltOf cmpK) where
  irrefl x := by rw [klt_ltOf]; simpa using klt_irrefl x
  trans x y z h k := by rw [klt_ltOf] at *; simp at *; exact klt_trans h k
  ntrans x y z h k := by rw [klt_ltOf] at *; simp at *; unfold klt at *; omega
theorem cKy_len (x : Ky) : (cKy x).length = 3 := rfl
theorem cKy_one (y : Ky) : ∀ u ∈ cKy y, u.oneCell' = true := by
  intro u hu
  simp [cKy] at hu
  rcases hu with rfl | rfl | rfl <;> rfl
theorem cmpLaysK (blk off size : Nat) (w : World) : CmpLays Try.prog 59 #[] cKy 3 cmpK blk off size w := fun _ _ _ _ x y => compare_any _ x y
theorem sortWorld_fr (w : World) (b n : Nat) (d : Array Ky) (os : Array Obj) : Fr (fun x => x = b) w (sortWorldK cKy 3 w b 0 n d os) := by
  refine ⟨rfl, rfl, rfl, ?_, fun k hk hn => ?_⟩
  · simp [sortWorldK, Sort.putRowK, Sort.putRow, Sort.mapBlock, Sort.grow, Sort.ahead]
  · simp only [sortWorldK, Sort.putRowK, Sort.putRow, Sort.mapBlock, Sort.grow, Sort.ahead]
    rw [Array.getElem?_append_left (by simpa using hk), Array.getElem?_modify, if_neg (fun e => hn e.symm)]
theorem holdsK_own {w : World} {base b cap : Nat} {ks : List Ky} (h : w.ownsRow base 81 3 (.slice (some ⟨b, 0, none⟩) ks.length cap) ks.length (ks.flatMap cKy)) : Sort.HoldsK cKy 3 w b 0 ks.toArray := by
  intro j hj
  have hj' : j < ks.length * 3 := by simpa using hj
  rw [Nat.zero_add, h.cellAt j hj', h.frozenAt j]
  refine ⟨?_, rfl⟩
  have hq : j / 3 < ks.length := by omega
  have e := flat_at cKy_len ks (j / 3) ks[j / 3] (j % 3) (List.getElem?_eq_getElem hq) (by omega)
  rw [show j / 3 * 3 + j % 3 = j by omega] at e
  rw [e, Sort.get_flatK _ _ _ _ (by simpa using hj')]
  have h3 : j % 3 < (cKy ks[j / 3]).length := by rw [cKy_len]; omega
  simp [hq, List.getElem?_eq_getElem h3]
theorem ss_holds {w : World} {b n cap : Nat} {d : Array Ky} (h : Sort.HoldsK cKy 3 w b 0 d) (hn : d.size = n) (hb : b < w.heap.size) (h1 : n ≤ cap) (h2 : cap ≤ maxLen) : SS cKy 3 w w.heap.size (.slice (some ⟨b, 0, none⟩) n cap) d.toList := by
  refine ⟨_, cap, by rw [← hn, Array.length_toList], by rw [Array.length_toList, hn]; exact h1, h2, fun i x hx => ⟨b, 0, rfl, hb, fun j u hu => ?_⟩⟩
  have hi : i < d.size := by simpa using (List.getElem?_eq_some_iff.1 hx).1
  have hj : j < 3 := by rw [← cKy_len x]; exact (List.getElem?_eq_some_iff.1 hu).1
  rw [(Sort.HoldsK.cell h hi hj).1]
  have hx2 : d[i]! = x := by
    rw [getElem!_pos d i hi]
    have := (List.getElem?_eq_some_iff.1 hx).2
    simpa using this
  have h3 : j < (cKy x).length := by rw [cKy_len]; exact hj
  rw [hx2, getElem!_pos (cKy x) j h3]
  rw [List.getElem?_eq_getElem h3] at hu
  exact hu
end Go.Proofs.Ytpndcpmfcajmdaa.Lock
namespace Go.Proofs.Ytpndcpmfcajmdaa.Lock
open Go.ChangeShapes Go.WideShapes Go.ChangeAt Go.RowKit Go.IntWalk Go.Proofs.Mem Law
set_option linter.unusedVariables false
set_option linter.unusedSimpArgs false
instance : DecidableEq Ky := fun x y =>
  if h : x.k = y.k ∧ x.a = y.a ∧ x.b = y.b then .isTrue (by obtain ⟨a, b, c⟩ := x; obtain ⟨a', b', c'⟩ := y; simp only at h; obtain ⟨rfl, rfl, rfl⟩ := h; rfl)
  else .isFalse (fun e => h (by rw [e]; exact ⟨rfl, rfl, rfl⟩))
structure En where
  hv : Int → Option Int
  line : List Pl
structure Tb where
  ent : Ky → En
  wt : Int → Option Hd
def En.none : En := ⟨fun _ => Option.none, []⟩
def hdOf (k : Ky) (m : Int) : Hd := ⟨k.k, k.a, k.b, m⟩
def mdOf (m : Int) : Int := if m = 1 then 1 else 2
def Tb.at_ (T : Tb) (k : Ky) : En := T.ent k
def Tb.set (T : Tb) (k : Ky) (e : En) : Tb := ⟨fun y => if y = k then e else T.ent y, T.wt⟩
theorem set_same (T : Tb) (k : Ky) (e : En) : (T.set k e).ent k = e := if_pos rfl
theorem set_other (T : Tb) {k y : Ky} (e : En) (h : y ≠ k) : (T.set k e).ent y = T.ent y := if_neg h
theorem set_self (T : Tb) (k : Ky) : T.set k (T.at_ k) = T := by
  cases T with
  | mk ent wt =>
    unfold Tb.set Tb.at_
    simp only [Tb.mk.injEq, and_true]
    funext y
    split
    · rename_i h; rw [h]
    · rfl
def Tb.stop (T : Tb) (t : Int) : Tb := ⟨T.ent, fdel T.wt t⟩
def Tb.wait (T : Tb) (t : Int) (h : Hd) : Tb := ⟨T.ent, fput T.wt t h⟩
def hasE (h : Option Int) (md : Int) : Bool := match h with
  | some x => decide (x = 2) || decide (x = md)
  | none => false
noncomputable def askB (T : Tb) (t : Int) (k : Ky) (m : Int) : Bool :=
  if hasE ((T.at_ k).hv t) (mdOf m) then true else if (T.wt t).isSome then false else fit (T.at_ k).hv t (mdOf m) && (((T.at_ k).hv t).isSome || (T.at_ k).line.isEmpty)
noncomputable def askT (T : Tb) (t : Int) (k : Ky) (m : Int) : Tb :=
  if hasE ((T.at_ k).hv t) (mdOf m) then T else if (T.wt t).isSome then T
  else if fit (T.at_ k).hv t (mdOf m) && (((T.at_ k).hv t).isSome || (T.at_ k).line.isEmpty) then T.set k ⟨fput (T.at_ k).hv t (mdOf m), (T.at_ k).line⟩
  else (T.set k ⟨(T.at_ k).hv, insP (T.at_ k).hv ⟨t, mdOf m⟩ (T.at_ k).line⟩).wait t (hdOf k (mdOf m))
def En.has (e : En) (t : Int) : Bool := (e.hv t).isSome || e.line.any (isT t)
def Tb.has (T : Tb) (k : Ky) (t : Int) : Bool := (T.ent k).has t
theorem none_has (t : Int) : En.none.has t = false := rfl
structure EntAt (col : Nat → Option (Ky × Nat)) (w : World) (S : Nat → Prop) (N L : Nat) (k : Ky) (e m n : Nat) (lv : Value) (en : En) : Prop where
  box : Box w e #[.map (some m), lv] 86
  fm : FM KU VM w m n en.hv
  hn : n ≤ N
  ln : LnAt w 0 lv en.line
  hl : en.line.length ≤ L
  ok : ∀ x ∈ en.line, U32 x.t
  se : S e
  sm : S m
  sb : ∀ b, lv.ownBlock = some b → S b
  ce : col e = some (k, 0)
  cm : col m = some (k, 1)
  cb : ∀ b, lv.ownBlock = some b → col b = some (k, 2)
def OneAt (col : Nat → Option (Ky × Nat)) (w : World) (S : Nat → Prop) (N L : Nat) (k : Ky) (en : En) : Option (Option Nat) → Prop
  | none => en = En.none
  | some (some e) => ∃ m n lv, EntAt col w S N L k e m n lv en
  | _ => False
structure TabW (w : World) (S : Nat → Prop) (N L : Nat) (t : Nat) (T : Tb) (col : Nat → Option (Ky × Nat)) (mk mw nk nw : Nat) (K : Ky → Option (Option Nat)) : Prop where
  box : Box w t #[.map (some mk), .map (some mw)] 59
  fk : FM KK ptrEE w mk nk K
  fw : FM KU hdEE w mw nw T.wt
  hk : nk ≤ N
  hw : nw ≤ N
  ne : mk ≠ mw
  st : S t
  sk : S mk
  sw : S mw
  old : ∀ x, S x → x < w.heap.size
  ct : col t = none
  ck : col mk = none
  cw : col mw = none
  ents : ∀ k, OneAt col w S N L k (T.ent k) (K k)
def TabAt (w : World) (S : Nat → Prop) (N L t : Nat) (T : Tb) : Prop := ∃ col mk mw nk nw K, TabW w S N L t T col mk mw nk nw K
def grS (w0 w : World) (S : Nat → Prop) (x : Nat) : Prop := S x ∨ (w0.heap.size ≤ x ∧ x < w.heap.size)
section
variable {col col' : Nat → Option (Ky × Nat)} {w w' : World} {S S' R : Nat → Prop} {N L N' L' t : Nat} {k : Ky} {e m n : Nat} {lv : Value} {en : En} {T : Tb} {mk mw nk nw : Nat} {K : Ky → Option (Option Nat)}
theorem EntAt.lts (h : EntAt col w S N L k e m n lv en) : e < w.heap.size ∧ m < w.heap.size ∧ ∀ b, lv.ownBlock = some b → b < w.heap.size := ⟨h.box.lt, h.fm.lt, fun b hb => (h.ln.lt b hb).2⟩
theorem EntAt.fr (h : EntAt col w S N L k e m n lv en) (hf : Fr R w w') (hr : ∀ x i, col x = some (k, i) → ¬ R x) (hc : ∀ x, x < w.heap.size → col' x = col x) (hS : ∀ x, S x → S' x) (hN : N ≤ N') (hL : L ≤ L') : EntAt col' w' S' N' L' k e m n lv en := by
  obtain ⟨l1, l2, l3⟩ := h.lts
  exact ⟨h.box.fr hf (hr e 0 h.ce), h.fm.fr hf (hr m 1 h.cm), Nat.le_trans h.hn hN, h.ln.fr hf (fun b hb => hr b 2 (h.cb b hb)), Nat.le_trans h.hl hL, h.ok, hS _ h.se, hS _ h.sm, fun b hb => hS _ (h.sb b hb),
    (hc e l1).trans h.ce, (hc m l2).trans h.cm, fun b hb => (hc b (l3 b hb)).trans (h.cb b hb)⟩
theorem OneAt.fr {ke : Option (Option Nat)} {oe : En} (h : OneAt col w S N L k oe ke) (hf : Fr R w w') (hr : ∀ x i, col x = some (k, i) → ¬ R x) (hc : ∀ x, x < w.heap.size → col' x = col x) (hS : ∀ x, S x → S' x) (hN : N ≤ N') (hL : L ≤ L') : OneAt col' w' S' N' L' k oe ke := by
  match ke, h with
  | none, h => exact h
  | some (some e), ⟨m, n, lv, h⟩ => exact ⟨m, n, lv, h.fr hf hr hc hS hN hL⟩
theorem TabW.later (h : TabW w S N L t T col mk mw nk nw K) (hb : Below w.heap.size w w') : TabW w' S N L t T col mk mw nk nw K :=
  ⟨h.box.later hb, h.fk.later hb, h.fw.later hb, h.hk, h.hw, h.ne, h.st, h.sk, h.sw, fun x hx => Nat.lt_of_lt_of_le (h.old x hx) hb.size, h.ct, h.ck, h.cw, fun k => (h.ents k).fr (R := fun _ => False) (Fr.of_below hb) (fun _ _ _ => id) (fun _ _ => rfl) (fun _ => id) (Nat.le_refl _) (Nat.le_refl _)⟩
theorem TabAt.later (h : TabAt w S N L t T) (hb : Below w.heap.size w w') : TabAt w' S N L t T := by
  obtain ⟨col, mk, mw, nk, nw, K, h⟩ := h
  exact ⟨col, mk, mw, nk, nw, K, h.later hb⟩
theorem TabW.far (h : TabW w S N L t T col mk mw nk nw K) (hf : Fr R w w') (hr : ∀ x, S x → ¬ R x) : TabW w' S N L t T col mk mw nk nw K := by
  refine ⟨h.box.fr hf (hr _ h.st), h.fk.fr hf (hr _ h.sk), h.fw.fr hf (hr _ h.sw), h.hk, h.hw, h.ne, h.st, h.sk, h.sw, fun x hx => Nat.lt_of_lt_of_le (h.old x hx) hf.size, h.ct, h.ck, h.cw, fun k => ?_⟩
  have := h.ents k
  match hK : K k, this with
  | none, h => exact h
  | some (some e), ⟨m, n, lv, q⟩ =>
    exact ⟨m, n, lv, ⟨q.box.fr hf (hr _ q.se), q.fm.fr hf (hr _ q.sm), q.hn, q.ln.fr hf (fun b hb => hr _ (q.sb b hb)), q.hl, q.ok, q.se, q.sm, q.sb, q.ce, q.cm, q.cb⟩⟩
theorem TabAt.far (h : TabAt w S N L t T) (hf : Fr R w w') (hr : ∀ x, S x → ¬ R x) : TabAt w' S N L t T := by
  obtain ⟨col, mk, mw, nk, nw, K, h⟩ := h
  exact ⟨col, mk, mw, nk, nw, K, h.far hf hr⟩
theorem EntAt.later (h : EntAt col w S N L k e m n lv en) (hb : Below w.heap.size w w') : EntAt col w' S N L k e m n lv en :=
  h.fr (R := fun _ => False) (Fr.of_below hb) (fun _ _ _ => id) (fun _ _ => rfl) (fun _ => id) (Nat.le_refl _) (Nat.le_refl _)
theorem TabW.none_ (h : TabW w S N L t T col mk mw nk nw K) {k : Ky} (hk : K k = none) : T.ent k = En.none := by
  have := h.ents k
  rw [hk] at this
  exact this
theorem TabW.is (h : TabW w S N L t T col mk mw nk nw K) {k : Ky} {b : Option Nat} (hk : K k = some b) : ∃ e m n lv, b = some e ∧ EntAt col w S N L k e m n lv (T.ent k) := by
  have := h.ents k
  rw [hk] at this
  match b, this with
  | some e, ⟨m, n, lv, q⟩ => exact ⟨e, m, n, lv, rfl, q⟩
theorem TabW.has_ (h : TabW w S N L t T col mk mw nk nw K) {k : Ky} {x : Int} (hk : T.has k x = true) : ∃ b, K k = some b := by
  cases e : K k with
  | none => unfold Tb.has at hk; rw [h.none_ e, none_has] at hk; cases hk
  | some b => exact ⟨b, rfl⟩
end
theorem holders_u32 {w : World} {m n : Nat} {h : Int → Option Int} (hf : FM KU VM w m n h) : ∀ x md, h x = some md → U32 x := by
  intro x md hx
  obtain ⟨D, _, _, h2⟩ := hf
  by_cases hok : KU.ok x
  · exact ku_ok.1 hok
  · rw [h2 x hok] at hx; cases hx
theorem FMok {w : World} {m n : Nat} {K : Ky → Option (Option Nat)} (hf : FM KK ptrEE w m n K) {k : Ky} {b : Option Nat} (hk : K k = some b) : k.ok := by
  obtain ⟨D, _, _, h2⟩ := hf
  by_cases hok : KK.ok k
  · exact hok
  · rw [h2 k hok] at hk; cases hk
end Go.Proofs.Ytpndcpmfcajmdaa.Lock
namespace Go.Proofs.Mem
open Go.RowKit Go.WideShapes Go.Maps Go.Shelf
set_option linter.unusedVariables false
section
variable {P : Program} {K : TypeId} {α β : Type} {R : Value → Option (DataW Unit × List MemPlace)} {E : KE P K α} {V : EE R β} {f : α → Option β} {m n : Nat} {F : Fence} {nF : Nat}
theorem wpListIn_range_fm (w : World) {ops : Array Oper} {rest : List Oper} {o : Oper} {a : Act} {Q : Exit → Act → World → Prop} (hg : o.guard = none) (mo : Operand) (t : TypeId) (hop : o.op = Op.range t mo) (e : TypeId) (ht : P.underlying t = some (.map K e))
    (hm : a.eval mo = .map (some m)) (h : FM E V w m n f)
    (hK : ∀ w' cnt, FR E V w' m w.heap.size n f (fun x => (f x).isSome) cnt → cnt ≤ n → w.grownBy w' none → wpListIn F nF P ops Q rest (a.put o.dst (.pointer (some ⟨w.heap.size, 0, none⟩))) w') :
    wpListIn F nF P ops Q (o :: rest) a w := by
  refine wpListIn_plain hg fun K' hK' => ?_
  obtain ⟨w', cnt, hrun, r1, r0, r2, r3⟩ := h.range ht
  unfold Oper.wpIn
  refine ⟨by simp [Oper.about, hop], ?_⟩
  rw [Oper.semAt_plain F _ _ (by rw [hop]; intro c hc'; cases hc')]
  simp [execOp, hop, hm, hrun, Result.andThen]
  exact hK' _ _ (hK w' cnt r1 r0 r2)
theorem wpListIn_next_fm [DecidableEq α] (w : World) {ops : Array Oper} {rest : List Oper} {o : Oper} {a : Act} {Q : Exit → Act → World → Prop} {r cnt : Nat} {left : α → Bool} (hg : o.guard = none) (it : Operand) (hop : o.op = Op.next it false)
    (hit : a.eval it = .pointer (some ⟨r, 0, none⟩)) (h : FR E V w m r n f left cnt)
    (hDone : (∀ x, E.ok x → left x = false) → wpListIn F nF P ops Q rest (a.put o.dst (.tuple #[.bool false])) w)
    (hMore : ∀ (x : α) (b : β) (w' : World) (cnt' : Nat), E.ok x → left x = true → f x = some b → FR E V w' m r n f (but left x) cnt' → cnt' < cnt → Fr (fun g => g = r) w w' → w'.heap.size = w.heap.size →
      (Instr.entry (.pointer (some ⟨r, 0, none⟩))).run P w' = .ok (.tuple #[E.kv x, V.ev b]) w' → wpListIn F nF P ops Q rest (a.put o.dst (.tuple #[.bool true, E.kv x, V.ev b])) w') :
    wpListIn F nF P ops Q (o :: rest) a w := by
  refine wpListIn_plain hg fun K' hK' => ?_
  unfold Oper.wpIn
  refine ⟨by simp [Oper.about, hop], ?_⟩
  rw [Oper.semAt_plain F _ _ (by rw [hop]; intro c hc'; cases hc')]
  rcases h.next o.type with ⟨h0, hl, hrun⟩ | ⟨x, b, w', cnt', k1, k2, k3, hrun, k5, k6, k7, k8, k9⟩
  · simp [execOp, hop, hit, hrun, Result.andThen]
    exact hK' _ _ (hDone hl)
  · simp [execOp, hop, hit, hrun, Result.andThen]
    exact hK' _ _ (hMore x b w' cnt' k1 k2 k3 k5 k6 k7 k8 k9)
end
end Go.Proofs.Mem
namespace Go.Proofs.Ytpndcpmfcajmdaa.Lock
open Go.ChangeShapes Go.WideShapes Go.ChangeAt Go.RowKit Go.IntWalk Go.Proofs.Mem Law Go.Shelf
set_option linter.unusedVariables false
set_option maxRecDepth 100000 in
set_option maxHeartbeats 1000000 in
theorem keys_in (F : Fence) (n : Nat) (h0 : F.fn 30) (hro : F.round = none) (mb : Option Nat) (w : World) :
    CallsIn F n Try.prog 30 #[.map mb] w fun e w' => e = .returned (.func (.func 44) #[] #[.pointer (some ⟨w.heap.size, 0, none⟩)]) ∧ w' = w.alloc (.cells #[.map mb] 57) := by
  refine callsIn_of_wp Try.func30 rfl h0 ?_ hro
  simp only [Try.ntmps30, List.size_toArray, List.length_cons, List.length_nil, Nat.reduceAdd, Nat.reduceSub, Array.replicate_succ, Array.replicate_zero, List.push_toArray, List.append_toArray, List.nil_append, List.cons_append]
  gi_wp2
  go_ret
  exact ⟨rfl, rfl⟩
end Go.Proofs.Ytpndcpmfcajmdaa.Lock
namespace Go.Proofs.Ytpndcpmfcajmdaa.Lock
open Go.ChangeShapes Go.WideShapes Go.ChangeAt Go.RowKit Go.IntWalk Go.Proofs.Mem Law Go.Shelf
set_option linter.unusedVariables false
theorem FR.of_walks {P : Program} {K : TypeId} {α β : Type} {R : Value → Option (DataW Unit × List MemPlace)} {E : KE P K α} {V : EE R β} {f : α → Option β} {w w' : World} {m r n cnt : Nat} {left : α → Bool} (h : FR E V w m r n f left cnt) (k : KeepsWalks w w') : FR E V w' m r n f left cnt := by
  obtain ⟨D, lf, h1, h2, h3⟩ := h
  exact ⟨D, lf, h1.of_walks k, h2, h3⟩
theorem FR.walk {P : Program} {K : TypeId} {α β : Type} {R : Value → Option (DataW Unit × List MemPlace)} {E : KE P K α} {V : EE R β} {f : α → Option β} {w : World} {m r n cnt : Nat} {left : α → Bool} (h : FR E V w m r n f left cnt) : ∃ o : Obj, w.heap[r]? = some o ∧ o.isWalk = true := by
  obtain ⟨D, lf, h1, _⟩ := h
  exact h1.iter_walk
end Go.Proofs.Ytpndcpmfcajmdaa.Lock
namespace Go.Proofs.Ytpndcpmfcajmdaa.Lock
open Go.ChangeShapes Go.WideShapes Go.ChangeAt Go.RowKit Go.IntWalk Go.Proofs.Mem Law Go.Shelf
set_option linter.unusedVariables false
structure KeysOf (f : Int → Option Hd) (nn : Nat) (ss : List Int) : Prop where
  nd : ss.Nodup
  mem : ∀ x, x ∈ ss ↔ (f x).isSome
  len : ss.length ≤ nn
set_option maxRecDepth 100000 in
set_option maxHeartbeats 1000000 in
theorem keysS_in (F : Fence) (n : Nat) (h0 : F.fn 44) (hro : F.round = none) (hn : 1 ≤ n) (l Bm b nn : Nat) (f : Int → Option Hd) (J Jx : List Int → World → Prop)
    (hY : ∀ pre x W, J pre W → pre.length < nn → U32 x → YieldAt F (n - 1) Try.prog l #[KU.kv x] W fun e W' => (e = .returned (.bool true) ∧ J (pre ++ [x]) W' ∧ KeepsWalks W W') ∨ (e = .returned (.bool false) ∧ Jx (pre ++ [x]) W'))
    (W : World) (hJ : AbidesFrom W.heap.size J) (hm : W.cell? ⟨Bm, 0, none⟩ = some (.map (some b))) (hf : FM KU hdEE W b nn f) (h00 : J [] W) :
    CallsIn F n Try.prog 44 #[.func (.yield l) #[] #[], .pointer (some ⟨Bm, 0, none⟩)] W fun e W' => (∃ v, e = .returned v) ∧ ((∃ ss : List Int, KeysOf f nn ss ∧ J ss W') ∨ (∃ pre : List Int, True ∧ Jx pre W')) := by
  refine callsIn_of_wp Try.func44 rfl h0 ?_ hro
  simp only [Try.ntmps44, List.size_toArray, List.length_cons, List.length_nil, Nat.reduceAdd, Nat.reduceSub, Array.replicate_succ, Array.replicate_zero, List.push_toArray, List.append_toArray, List.nil_append, List.cons_append]
  gi_wp2_with (first
    | (gi_at_range; refine wpListIn_range_fm (E := KU) (V := hdEE) _ rfl _ _ rfl _ Try.underlying57 rfl hf ?_; intro w0 cnt0 hr0 hc0 hg0)
    | gi_in)
  go_frame
  gi_loopw [3] (fun _ wr => ∃ (left : Int → Bool) (cnt : Nat) (ss : List Int), FR KU hdEE wr b W.heap.size nn f left cnt ∧ ss.length + cnt ≤ nn ∧ Hid (ss.Nodup ∧ ∀ x, x ∈ ss ↔ ((f x).isSome = true ∧ left x = false)) ∧ Hid (J ss wr))
    (fun _ wr => wr.rangeLeft b W.heap.size)
  case atStart =>
    refine ⟨_, _, [], hr0, by simpa using hc0, Lib.hid ⟨List.nodup_nil, fun x => ⟨fun h => (by cases h), fun ⟨h1, h2⟩ => ?_⟩⟩, Lib.hid (hJ [] W w0 none h00 hg0 (fun r e => by cases e))⟩
    rw [h1] at h2; cases h2
  case round =>
    obtain ⟨left, cnt, ss, hrg, hcs, HC, HJs⟩ := hrel
    gi_wp2_with (first
      | (gi_at_next; refine wpListIn_next_fm (E := KU) (V := hdEE) _ rfl _ rfl rfl hrg ?_ ?_)
      | gi_in)
    · intro hl0
      gi_wp2
      go_end0
      refine ⟨⟨_, rfl⟩, .inl ⟨ss, ⟨HC.out.1, fun x => (HC.out.2 x).trans ⟨fun h => h.1, fun h => ⟨h, ?_⟩⟩, by omega⟩, HJs.out⟩⟩
      by_cases hx : KU.ok x
      · exact hl0 x hx
      · obtain ⟨D, lf, _, h2, _⟩ := hrg
        rw [h2.2 x hx] at h; cases h
    · intro x c w2 cnt2 hxk hlx hfx hrg2 hlt hg2 hs2 hen
      have hgr : wr.grownBy w2 (some W.heap.size) := ⟨hg2.os, hg2.tape, hg2.output, hg2.size, fun i hi hne => hg2.block i hi (fun e => hne (by rw [e]))⟩
      have hJ2 : J ss w2 := hJ ss wr w2 (some W.heap.size) HJs.out hgr (fun r e => by cases e; exact ⟨Nat.le_refl _, FR.walk hrg⟩)
      obtain ⟨fn, tmps, assign, body, hy, hR⟩ := hY ss x w2 hJ2 (by omega) (ku_ok.1 hxk)
      clear hs2
      gi_wp2
      refine hR.mono ?_
      rintro e W3 (⟨rfl, hJ3, hk3⟩ | ⟨rfl, hx3⟩)
      · have HJ3 := Lib.hid hJ3
        gi_wp2
        have hrg3 := FR.of_walks hrg2 hk3
        go_roundw
        case rel =>
          refine ⟨_, cnt2, ss ++ [x], hrg3, by simp; omega, Lib.hid ⟨?_, fun y => ?_⟩, HJ3⟩
          · rw [List.nodup_append]
            exact ⟨HC.out.1, by simp, fun a ha b hb e => by
              rw [List.mem_singleton.1 hb] at e
              have := ((HC.out.2 a).1 ha).2
              rw [e, hlx] at this; cases this⟩
          · rw [List.mem_append, List.mem_singleton, HC.out.2 y]
            unfold but
            by_cases e : y = x
            · subst e; simp [hfx]
            · simp [e]
        case measure => rw [hrg3.left_eq, hrg.left_eq]; exact hlt
      · have HX3 := Lib.hid hx3
        clear hx3
        gi_wp2
        refine bodyPost_ret (results_none rfl _ _ _) rfl ?_
        exact ⟨⟨_, rfl⟩, .inr ⟨_, trivial, HX3.out⟩⟩
theorem keys_stops (F : Fence) (n : Nat) (h0 : F.fn 44) (hro : F.round = none) (hn : 1 ≤ n) (Bm b nn : Nat) (f : Int → Option Hd) (w : World) (hBm : Bm < w.heap.size) (hm : w.cell? ⟨Bm, 0, none⟩ = some (.map (some b))) (hf : FM KU hdEE w b nn f) :
    SeqStopsK F n Try.prog 44 #[.pointer (some ⟨Bm, 0, none⟩)] (fun x : Int => #[KU.kv x]) KeepsWalks (KeysOf f nn) (fun _ => True) nn w := fun l J Jx W hW hJ hJx hY h00 =>
  keysS_in F n h0 hro hn l Bm b nn f J Jx (fun pre x W h hl _ => hY pre x W h hl) W hJ ((hW.cell (p := ⟨Bm, 0, none⟩) hBm).trans hm) (hf.later hW) h00
end Go.Proofs.Ytpndcpmfcajmdaa.Lock
namespace Go.Proofs.Ytpndcpmfcajmdaa.Srt
open Go.ChangeShapes Go.WideShapes Go.ChangeAt Go.RowKit Go.IntWalk Go.Proofs.Mem
set_option linter.unusedVariables false
theorem insOuter_go {a b i : Nat} {d : Array Int} (h : i < b) : Sort.insOuter lt a b i d = Sort.insOuter lt a b (i + 1) (Sort.insInner lt a i d) := by
  rw [Sort.insOuter, if_pos h]
theorem insOuter_end {a b i : Nat} {d : Array Int} (h : ¬ i < b) : Sort.insOuter lt a b i d = d := by
  rw [Sort.insOuter, if_neg h]
theorem insInner_end {a j : Nat} {d : Array Int} (h : j ≤ a) : Sort.insInner lt a j d = d := by
  cases j with
  | zero => rfl
  | succ j => rw [Sort.insInner, if_neg (by simp; omega)]
theorem insInner_no {a j : Nat} {d : Array Int} (h : lt d[j + 1]! d[j]! = false) : Sort.insInner lt a (j + 1) d = d := by
  rw [Sort.insInner, if_neg (by simp [h])]
theorem insInner_go {a j : Nat} {d : Array Int} (h1 : a < j + 1) (h : lt d[j + 1]! d[j]! = true) : Sort.insInner lt a (j + 1) d = Sort.insInner lt a j (Sort.swp d (j + 1) j) := by
  rw [Sort.insInner, if_pos (by simp [h]; omega)]
theorem ins_no {a i j : Nat} {d : Array Int} (e : j = i + 1) (h : lt d[j]! d[i]! = false) : Sort.insInner lt a j d = d := by
  subst e; exact insInner_no h
theorem ins_go {a i j : Nat} {d : Array Int} (e : j = i + 1) (h1 : a < j) (h : lt d[j]! d[i]! = true) : Sort.insInner lt a j d = Sort.insInner lt a i (Sort.swp d j i) := by
  subst e; exact insInner_go h1 h
set_option maxRecDepth 100000 in
set_option maxHeartbeats 4000000 in
theorem isort_any (w : World) (g n cap a b : Nat) (d : Array Int) (h : RA w g cap d) (hn : d.size = n) (h0 : n ≤ 1000000) (h1 : a ≤ b) (h2 : b ≤ n) :
    Calls Try.prog 62 #[.slice (some ⟨g, 0, none⟩) n cap, .int .i64 a, .int .i64 b] w fun e w' => e = .returned (.tuple #[]) ∧ RA w' g cap (Sort.insertionSort lt d a b) ∧ Fr (fun x => x = g) w w' := by
  have HR := Lib.hid h
  have HN := Lib.hid hn
  have HS := Lib.hid (show Sort.insOuter lt a b (a + 1) d = Sort.insertionSort lt d a b from rfl)
  generalize Sort.insertionSort lt d a b = R at *
  obtain ⟨a', ha'⟩ : ∃ a', a' = a + 1 := ⟨_, rfl⟩
  have HA := Lib.hid ha'
  have sa : (a : Int) + 1 = (a' : Int) := by omega
  have ba : (a : Int) ≤ 1000000 := by omega
  have bb : (b : Int) ≤ 1000000 := by omega
  rw [← ha'] at HS
  clear h hn ha'
  go_enter Try.func62, Try.ntmps62
  go_wp2
  go_loopw [6] (fun s wr => ∃ (k : Nat) (ys : Array Int), a + 1 ≤ k ∧ k ≤ b + 1 ∧ s = .int .i64 k ∧ Hid (RA wr g cap ys) ∧ Hid (ys.size = n) ∧ Hid (Sort.insOuter lt a b k ys = R) ∧ Hid (Fr (fun x => x = g) w wr)) (fun s _ => b + 1 - (intOf s).toNat)
  case atStart => exact ⟨a', d, by have := HA.out; omega, by have := HA.out; omega, rfl, HR, HN, HS, Lib.hid (Fr.refl _ _)⟩
  case round =>
    obtain ⟨k, ys, hk1, hk, rfl, HO, HZ, HE, HF⟩ := hrel
    obtain ⟨w1, rfl⟩ : ∃ w1, w1 = wr := ⟨wr, rfl⟩
    by_cases hl : k < b
    · have d1 : decide ((k : Int) < (b : Int)) = true := by simp; omega
      have HL := Lib.hid hl
      go_wp2
      obtain ⟨k', hk'⟩ : ∃ k', k' = k + 1 := ⟨_, rfl⟩
      have hks : (k : Int) + 1 = (k' : Int) := by omega
      have HK := Lib.hid hk'
      have HE2 := Lib.hid (show Sort.insOuter lt a b k' (Sort.insInner lt a k ys) = R by rw [hk', ← insOuter_go hl]; exact HE.out)
      have bk : (k : Int) ≤ 1000000 := by omega
      clear hk'
      go_loopw [7] (fun s wr => ∃ (j : Nat) (zs : Array Int), a ≤ j ∧ j ≤ k ∧ s = .int .i64 j ∧ Hid (RA wr g cap zs) ∧ Hid (zs.size = n) ∧ Hid (Sort.insOuter lt a b k' (Sort.insInner lt a j zs) = R) ∧ Hid (Fr (fun x => x = g) w wr)) (fun s _ => (intOf s).toNat)
      case atStart => exact ⟨k, ys, by omega, Nat.le_refl _, rfl, HO, HZ, HE2, HF⟩
      case round =>
        obtain ⟨j, zs, hj1, hj, rfl, HY, HZ2, HD, HG⟩ := hrel
        obtain ⟨w2, rfl⟩ : ∃ w2, w2 = wr := ⟨wr, rfl⟩
        by_cases hja : j ≤ a
        · have d2 : decide ((a : Int) < (j : Int)) = false := by simp; omega
          have d3 : decide (a < j) = false := by simp; omega
          go_upto_region 4 with fail
          go_quiet (fail)
          go_wp2
          go_roundw
          case rel => exact ⟨k', zs, by have := HK.out; omega, by have := HK.out; omega, rfl, Lib.hid (HY.out.drewN nq), HZ2, Lib.hid (by rw [← HD.out, insInner_end hja]), Lib.hid (HG.out.drewN nq)⟩
          case measure => simp [intOf]; have := HK.out; omega
        · obtain ⟨i, hi⟩ : ∃ i, j = i + 1 := ⟨j - 1, by omega⟩
          have d2 : decide ((a : Int) < (j : Int)) = true := by simp; omega
          have d3 : decide (a < j) = true := by simp; omega
          have s2 : (j : Int) - 1 = (i : Int) := by omega
          have ca := fun d => (HY.out.drewN d).cell j (by have := HZ2.out; omega)
          have cb := fun d => (HY.out.drewN d).cell i (by have := HZ2.out; omega)
          have hin : j < n := by omega
          have hin' : i < n := by omega
          have HI := Lib.hid hi
          clear hi
          obtain ⟨q, hq⟩ : ∃ q, lt zs[j]! zs[i]! = q := ⟨_, rfl⟩
          obtain ⟨x, hx⟩ : ∃ x, zs[j]! = x := ⟨_, rfl⟩
          obtain ⟨y, hy⟩ : ∃ y, zs[i]! = y := ⟨_, rfl⟩
          have HX := Lib.hid hx
          have HYY := Lib.hid hy
          have HQ := Lib.hid hq
          rw [hx] at ca hq
          rw [hy] at cb hq
          clear hx hy
          cases q with
          | true =>
            have CL := less_as _ _ hq
            clear hq
            go_upto_region 4 with fail
            go_quiet (first | (go_at_call 68; exact quiet_l (CL.out _)))
            have fa := fun d => (HY.out.drewN d).frozen j
            have fb := fun d => (HY.out.drewN d).frozen i
            go_upto_region 6 with fail
            go_region
            go_wp2
            go_roundw
            case rel => exact ⟨i, Sort.swp zs j i, by have := HI.out; omega, by have := HI.out; omega, rfl, Lib.hid (by rw [← HX.out, ← HYY.out]; exact (HY.out.drewN (nq + 1)).swp j i), Lib.hid (by rw [Sort.swp_size]; exact HZ2.out), Lib.hid (by rw [← HD.out, ins_go HI.out (by omega) HQ.out]), Lib.hid (fr_swp (HG.out.drewN (nq + 1)))⟩
            case measure => simp [intOf]; have := HI.out; omega
          | false =>
            have CL := less_as _ _ hq
            clear hq
            go_upto_region 4 with fail
            go_quiet (first | (go_at_call 68; exact quiet_l (CL.out _)))
            go_wp2
            go_roundw
            case rel => exact ⟨k', zs, by have := HK.out; omega, by have := HK.out; omega, rfl, Lib.hid (HY.out.drewN nq), HZ2, Lib.hid (by rw [← HD.out, ins_no HI.out HQ.out]), Lib.hid (HG.out.drewN nq)⟩
            case measure => simp [intOf]; have := HK.out; omega
    · have d1 : decide ((k : Int) < (b : Int)) = false := by simp; omega
      have e1 := Lib.hid (show ys = R by rw [← HE.out, insOuter_end hl])
      go_wp2
      go_end0
      exact ⟨rfl, by rw [← e1.out]; exact HO.out, HF.out⟩
end Go.Proofs.Ytpndcpmfcajmdaa.Srt
namespace Go.Proofs.Ytpndcpmfcajmdaa.Srt
open Go.ChangeShapes Go.WideShapes Go.ChangeAt Go.RowKit Go.IntWalk Go.Proofs.Mem
set_option linter.unusedVariables false
theorem sd_end {hi F r : Nat} {d : Array Int} (h : hi ≤ 2 * r + 1) : Sort.siftDown lt hi F r d = d := by
  rw [Sort.siftDown, dif_pos h]
theorem sd_two {hi F r : Nat} {d : Array Int} {q : Bool} (h : 2 * r + 2 < hi) (h1 : lt d[F + (2 * r + 1)]! d[F + (2 * r + 1) + 1]! = true) (h2 : lt d[F + r]! d[F + (2 * r + 2)]! = q) :
    Sort.siftDown lt hi F r d = if q then Sort.siftDown lt hi F (2 * r + 2) (Sort.swp d (F + r) (F + (2 * r + 2))) else d := by
  rw [Sort.siftDown, dif_neg (by omega), if_pos (by rw [h1]; simp; omega), h2]
  cases q with
  | true => rw [if_neg (by decide), dif_pos h]; rfl
  | false => rfl
theorem sd_one {hi F r : Nat} {d : Array Int} {q : Bool} (h : 2 * r + 1 < hi) (h1 : hi ≤ 2 * r + 2 ∨ lt d[F + (2 * r + 1)]! d[F + (2 * r + 1) + 1]! = false) (h2 : lt d[F + r]! d[F + (2 * r + 1)]! = q) :
    Sort.siftDown lt hi F r d = if q then Sort.siftDown lt hi F (2 * r + 1) (Sort.swp d (F + r) (F + (2 * r + 1))) else d := by
  rw [Sort.siftDown, dif_neg (by omega), if_neg (by rcases h1 with h1 | h1 <;> simp [h1]; omega), h2]
  cases q <;> rfl
set_option maxRecDepth 100000 in
set_option maxHeartbeats 4000000 in
theorem sift_any (w : World) (g n cap lo hi F : Nat) (loI : Int) (hlo : loI = lo) (d : Array Int) (h : RA w g cap d) (hn : d.size = n) (h0 : n ≤ 1000000) (h1 : lo ≤ n) (h2 : F + hi ≤ n) :
    Calls Try.prog 78 #[.slice (some ⟨g, 0, none⟩) n cap, .int .i64 loI, .int .i64 hi, .int .i64 F] w fun e w' => e = .returned (.tuple #[]) ∧ RA w' g cap (Sort.siftDown lt hi F lo d) ∧ (Sort.siftDown lt hi F lo d).size = n ∧ Fr (fun x => x = g) w w' := by
  subst hlo
  have HR := Lib.hid h
  have HN := Lib.hid hn
  obtain ⟨R, hRR⟩ : ∃ R, Sort.siftDown lt hi F lo d = R := ⟨_, rfl⟩
  rw [hRR]
  have HS := Lib.hid hRR
  have bF : (F : Int) ≤ 1000000 := by omega
  have bh : (hi : Int) ≤ 1000000 := by omega
  have HB := Lib.hid h2
  have HL := Lib.hid h1
  have H0 := Lib.hid h0
  clear h hn hRR h1 h2 h0
  go_enter Try.func78, Try.ntmps78
  go_wp2
  go_loopw [8] (fun s wr => ∃ (r : Nat) (ys : Array Int), r ≤ n ∧ s = .int .i64 r ∧ Hid (RA wr g cap ys) ∧ Hid (ys.size = n) ∧ Hid (Sort.siftDown lt hi F r ys = R) ∧ Hid (Fr (fun x => x = g) w wr)) (fun s _ => n - (intOf s).toNat)
  case atStart => exact ⟨lo, d, HL.out, rfl, HR, HN, HS, Lib.hid (Fr.refl _ _)⟩
  case round =>
    obtain ⟨r, ys, hr, rfl, HO, HZ, HE, HF⟩ := hrel
    obtain ⟨w1, rfl⟩ : ∃ w1, w1 = wr := ⟨wr, rfl⟩
    obtain ⟨c1, hc1⟩ : ∃ c1, c1 = 2 * r + 1 := ⟨_, rfl⟩
    have sc : 2 * (r : Int) + 1 = (c1 : Int) := by omega
    have HC := Lib.hid hc1
    have br : (r : Int) ≤ 1000000 := by have := H0.out; omega
    have HRR := Lib.hid hr
    clear hc1 hr
    by_cases hl : hi ≤ c1
    · have d1 : decide ((hi : Int) ≤ (c1 : Int)) = true := by simp; omega
      have d1' : decide (hi ≤ c1) = true := by simp; omega
      have e1 := Lib.hid (show ys = R by rw [← HE.out, sd_end (by rw [← HC.out]; exact hl)])
      go_wp2
      go_end0
      exact ⟨rfl, by rw [← e1.out]; exact HO.out, by rw [← e1.out]; exact HZ.out, HF.out⟩
    · have d1 : decide ((hi : Int) ≤ (c1 : Int)) = false := by simp; omega
      have d1' : decide (hi ≤ c1) = false := by simp; omega
      have HLL := Lib.hid hl
      clear hl
      obtain ⟨c2, hc2⟩ : ∃ c2, c2 = c1 + 1 := ⟨_, rfl⟩
      obtain ⟨FR, hFR⟩ : ∃ x, x = F + r := ⟨_, rfl⟩
      obtain ⟨F1, hF1⟩ : ∃ x, x = F + c1 := ⟨_, rfl⟩
      obtain ⟨F2, hF2⟩ : ∃ x, x = F1 + 1 := ⟨_, rfl⟩
      have t0 : (c1 : Int) + 1 = (c2 : Int) := by omega
      have t1 : (F : Int) + (r : Int) = (FR : Int) := by omega
      have t2 : (F : Int) + (c1 : Int) = (F1 : Int) := by omega
      have t3 : (F1 : Int) + 1 = (F2 : Int) := by omega
      have t4 : (F : Int) + (c2 : Int) = (F2 : Int) := by omega
      have bc : (c1 : Int) ≤ 2000001 := by omega
      have iR : FR < n := by have := HB.out; have := HC.out; have := HLL.out; omega
      have i1 : F1 < n := by have := HB.out; have := HC.out; have := HLL.out; omega
      have cR := fun k => (HO.out.drewN k).cell FR (by have := HZ.out; omega)
      have cA := fun k => (HO.out.drewN k).cell F1 (by have := HZ.out; omega)
      have HX := Lib.hid (⟨hc2, hFR, hF1, hF2⟩ : c2 = c1 + 1 ∧ FR = F + r ∧ F1 = F + c1 ∧ F2 = F1 + 1)
      have eR : FR = F + r := hFR
      clear hc2 hFR hF1 hF2 eR
      obtain ⟨x, hx⟩ : ∃ x, ys[FR]! = x := ⟨_, rfl⟩
      obtain ⟨y, hy⟩ : ∃ y, ys[F1]! = y := ⟨_, rfl⟩
      have HXX := Lib.hid hx
      have HY := Lib.hid hy
      rw [hx] at cR
      rw [hy] at cA
      clear hx hy
      by_cases h2 : c2 < hi
      · have d2 : decide ((c2 : Int) < (hi : Int)) = true := by simp; omega
        have d2' : decide (c2 < hi) = true := by simp; omega
        have i2 : F2 < n := by have := HB.out; have := HX.out; omega
        have cB := fun k => (HO.out.drewN k).cell F2 (by have := HZ.out; omega)
        obtain ⟨z, hz⟩ : ∃ z, ys[F2]! = z := ⟨_, rfl⟩
        have HZZ := Lib.hid hz
        rw [hz] at cB
        have H2 := Lib.hid h2
        clear hz h2
        obtain ⟨p, hp⟩ : ∃ p, lt y z = p := ⟨_, rfl⟩
        have CP := less_as _ _ hp
        have HP := Lib.hid hp
        clear hp
        cases p with
        | true =>
          go_upto_region 3 with fail
          go_quiet (first | (go_at_call 68; exact quiet_l (CP.out _)))
          obtain ⟨q, hq⟩ : ∃ q, lt x z = q := ⟨_, rfl⟩
          have CL := less_as _ _ hq
          have HQ := Lib.hid (show Sort.siftDown lt hi F r ys = if q then Sort.siftDown lt hi F c2 (Sort.swp ys FR F2) else ys by
            obtain ⟨e1, e2, e3, e4⟩ := HX.out
            have e5 := HC.out
            have e6 := HXX.out
            have e7 := HZZ.out
            have e8 := HP.out; have e9 := H2.out; subst e4 e3 e2 e1 e5; rw [← e6, ← e7] at hq; rw [← HY.out, ← HZZ.out] at e8; exact sd_two (by omega) e8 hq)
          clear hq
          cases q with
          | true =>
            go_upto_region 5 with fail
            go_quiet (first | (go_at_call 68; exact quiet_add (CL.out _)))
            have fR := fun k => (HO.out.drewN k).frozen FR
            have fA := fun k => (HO.out.drewN k).frozen F2
            go_upto_region 6 with fail
            go_region
            go_wp2
            go_roundw
            case rel => exact ⟨c2, Sort.swp ys FR F2, by have := HX.out; have := HLL.out; have := HB.out; omega, rfl, Lib.hid (by rw [← HXX.out, ← HZZ.out]; exact (HO.out.drewN _).swp FR F2), Lib.hid (by rw [Sort.swp_size]; exact HZ.out), Lib.hid (by rw [← HE.out, HQ.out]; rfl), Lib.hid (fr_swp (HF.out.drewN _))⟩
            case measure => simp [intOf]; have := HX.out; have := HC.out; have := HLL.out; have := HB.out; omega
          | false =>
            go_upto_region 5 with fail
            go_quiet (first | (go_at_call 68; exact quiet_add (CL.out _)))
            have e1 := Lib.hid (show ys = R by rw [← HE.out, HQ.out]; rfl)
            go_wp2
            refine bodyPost_ret (results_none rfl _ _ _) rfl ?_
            exact ⟨rfl, by rw [← e1.out]; exact (HO.out.drewN _).drewN _, by rw [← e1.out]; exact HZ.out, (HF.out.drewN _).drewN _⟩
        | false =>
          go_upto_region 3 with fail
          go_quiet (first | (go_at_call 68; exact quiet_l (CP.out _)))
          obtain ⟨q, hq⟩ : ∃ q, lt x y = q := ⟨_, rfl⟩
          have CL := less_as _ _ hq
          have HQ := Lib.hid (show Sort.siftDown lt hi F r ys = if q then Sort.siftDown lt hi F c1 (Sort.swp ys FR F1) else ys by
            obtain ⟨e1, e2, e3, e4⟩ := HX.out
            have e5 := HC.out
            have e6 := HXX.out
            have e7 := HY.out
            have e8 := HP.out; have e9 := H2.out; subst e4 e3 e2 e1 e5; rw [← e6, ← e7] at hq; rw [← HY.out, ← HZZ.out] at e8; exact sd_one (by omega) (.inr e8) hq)
          clear hq
          cases q with
          | true =>
            go_upto_region 5 with fail
            go_quiet (first | (go_at_call 68; exact quiet_add (CL.out _)))
            have fR := fun k => (HO.out.drewN k).frozen FR
            have fA := fun k => (HO.out.drewN k).frozen F1
            go_upto_region 6 with fail
            go_region
            go_wp2
            go_roundw
            case rel => exact ⟨c1, Sort.swp ys FR F1, by have := HX.out; have := HLL.out; have := HB.out; omega, rfl, Lib.hid (by rw [← HXX.out, ← HY.out]; exact (HO.out.drewN _).swp FR F1), Lib.hid (by rw [Sort.swp_size]; exact HZ.out), Lib.hid (by rw [← HE.out, HQ.out]; rfl), Lib.hid (fr_swp (HF.out.drewN _))⟩
            case measure => simp [intOf]; have := HX.out; have := HC.out; have := HLL.out; have := HB.out; omega
          | false =>
            go_upto_region 5 with fail
            go_quiet (first | (go_at_call 68; exact quiet_add (CL.out _)))
            have e1 := Lib.hid (show ys = R by rw [← HE.out, HQ.out]; rfl)
            go_wp2
            refine bodyPost_ret (results_none rfl _ _ _) rfl ?_
            exact ⟨rfl, by rw [← e1.out]; exact (HO.out.drewN _).drewN _, by rw [← e1.out]; exact HZ.out, (HF.out.drewN _).drewN _⟩
      · have d2 : decide ((c2 : Int) < (hi : Int)) = false := by simp; omega
        have d2' : decide (c2 < hi) = false := by simp; omega
        have H2 := Lib.hid h2
        clear h2
        go_upto_region 3 with fail
        go_quiet (fail)
        obtain ⟨q, hq⟩ : ∃ q, lt x y = q := ⟨_, rfl⟩
        have CL := less_as _ _ hq
        have HQ := Lib.hid (show Sort.siftDown lt hi F r ys = if q then Sort.siftDown lt hi F c1 (Sort.swp ys FR F1) else ys by
          obtain ⟨e1, e2, e3, e4⟩ := HX.out
          have e5 := HC.out
          have e6 := HXX.out
          have e7 := HY.out
          have e9 := H2.out; have e10 := HLL.out; subst e4 e3 e2 e1 e5; rw [← e6, ← e7] at hq; exact sd_one (by omega) (.inl (by omega)) hq)
        clear hq
        cases q with
        | true =>
          go_upto_region 5 with fail
          go_quiet (first | (go_at_call 68; exact quiet_add (CL.out _)))
          have fR := fun k => (HO.out.drewN k).frozen FR
          have fA := fun k => (HO.out.drewN k).frozen F1
          go_upto_region 6 with fail
          go_region
          go_wp2
          go_roundw
          case rel => exact ⟨c1, Sort.swp ys FR F1, by have := HX.out; have := HLL.out; have := HB.out; omega, rfl, Lib.hid (by rw [← HXX.out, ← HY.out]; exact (HO.out.drewN _).swp FR F1), Lib.hid (by rw [Sort.swp_size]; exact HZ.out), Lib.hid (by rw [← HE.out, HQ.out]; rfl), Lib.hid (fr_swp (HF.out.drewN _))⟩
          case measure => simp [intOf]; have := HX.out; have := HC.out; have := HLL.out; have := HB.out; omega
        | false =>
          go_upto_region 5 with fail
          go_quiet (first | (go_at_call 68; exact quiet_add (CL.out _)))
          have e1 := Lib.hid (show ys = R by rw [← HE.out, HQ.out]; rfl)
          go_wp2
          refine bodyPost_ret (results_none rfl _ _ _) rfl ?_
          exact ⟨rfl, by rw [← e1.out]; exact (HO.out.drewN _).drewN _, by rw [← e1.out]; exact HZ.out, (HF.out.drewN _).drewN _⟩
set_option maxRecDepth 100000 in
set_option maxHeartbeats 4000000 in
theorem heap_any (w : World) (g n cap a b : Nat) (d : Array Int) (h : RA w g cap d) (hn : d.size = n) (h0 : n ≤ 1000000) (h1 : a < b) (h2 : b ≤ n) :
    Calls Try.prog 63 #[.slice (some ⟨g, 0, none⟩) n cap, .int .i64 a, .int .i64 b] w fun e w' => e = .returned (.tuple #[]) ∧ RA w' g cap (Sort.heapSort lt d a b) ∧ Fr (fun x => x = g) w w' := by
  have HR := Lib.hid h
  have HN := Lib.hid hn
  obtain ⟨R, hRR⟩ : ∃ R, Sort.heapSort lt d a b = R := ⟨_, rfl⟩
  rw [hRR]
  have HS := Lib.hid hRR
  clear hRR
  obtain ⟨hi, hhi⟩ : ∃ x, x = b - a := ⟨_, rfl⟩
  obtain ⟨h1', hh1⟩ : ∃ x, x = hi - 1 := ⟨_, rfl⟩
  obtain ⟨m, hm⟩ : ∃ x, x = h1' / 2 := ⟨_, rfl⟩
  obtain ⟨M, hM⟩ : ∃ M, Sort.heapBuild lt hi a (m + 1) d = M := ⟨_, rfl⟩
  have HM := Lib.hid hM
  have HP := Lib.hid (show Sort.heapPop lt a hi M = R by rw [← HS.out, ← hM, hm, hh1, hhi]; rfl)
  have s1 : (b : Int) - (a : Int) = (hi : Int) := by omega
  have s2 : (hi : Int) - 1 = (h1' : Int) := by omega
  have s3 : Int.tdiv (h1' : Int) 2 = (m : Int) := by rw [Int.tdiv_eq_ediv_of_nonneg (by omega)]; omega
  have ba : (a : Int) ≤ 1000000 := by omega
  have bb : (b : Int) ≤ 1000000 := by omega
  have bm : (m : Int) ≤ 1000000 := by omega
  have bh : (hi : Int) ≤ 1000000 := by omega
  have HX := Lib.hid (⟨h0, h1, h2, hhi, hh1, hm⟩ : n ≤ 1000000 ∧ a < b ∧ b ≤ n ∧ hi = b - a ∧ h1' = hi - 1 ∧ m = h1' / 2)
  clear h hn hM h0 h1 h2 hhi hh1 hm HS
  go_enter Try.func63, Try.ntmps63
  go_wp2
  go_loopw [9] (fun s wr => ∃ (k : Nat) (ys : Array Int), k ≤ m + 1 ∧ s = .int .i64 ((k : Int) - 1) ∧ Hid (RA wr g cap ys) ∧ Hid (ys.size = n) ∧ Hid (Sort.heapBuild lt hi a k ys = M) ∧ Hid (Fr (fun x => x = g) w wr)) (fun s _ => (intOf s + 1).toNat)
  case atStart => exact ⟨m + 1, d, Nat.le_refl _, by simp, HR, HN, HM, Lib.hid (Fr.refl _ _)⟩
  case round =>
    obtain ⟨k, ys, hk, rfl, HO, HZ, HE, HF⟩ := hrel
    obtain ⟨w1, rfl⟩ : ∃ w1, w1 = wr := ⟨wr, rfl⟩
    cases k with
    | zero =>
      have z1 : ((0 : Nat) : Int) - 1 = -1 := by decide
      rw [z1]
      have d1 : decide (0 ≤ (-1 : Int)) = false := by decide
      have eM := Lib.hid (show Sort.heapPop lt a hi ys = R by rw [← HP.out, ← HE.out]; rfl)
      have H0 := HO
      clear hk
      go_wp2
      go_loopw [10] (fun s wr => ∃ (k : Nat) (ys : Array Int), k ≤ hi ∧ s = .int .i64 ((k : Int) - 1) ∧ Hid (RA wr g cap ys) ∧ Hid (ys.size = n) ∧ Hid (Sort.heapPop lt a k ys = R) ∧ Hid (Fr (fun x => x = g) w wr)) (fun s _ => (intOf s + 1).toNat)
      case atStart => exact ⟨hi, ys, Nat.le_refl _, by have := HX.out; congr 1; omega, HO, HZ, eM, HF⟩
      case round =>
        obtain ⟨k, zs, hk, rfl, HO2, HZ2, HE2, HF2⟩ := hrel
        obtain ⟨w2, rfl⟩ : ∃ w2, w2 = wr := ⟨wr, rfl⟩
        cases k with
        | zero =>
          have z1 : ((0 : Nat) : Int) - 1 = -1 := by decide
          rw [z1]
          have d1 : decide (0 ≤ (-1 : Int)) = false := by decide
          have e1 := Lib.hid (show zs = R from HE2.out)
          go_wp2
          go_end0
          exact ⟨rfl, by rw [← e1.out]; exact HO2.out, HF2.out⟩
        | succ k =>
          have s4 : ((k + 1 : Nat) : Int) - 1 = (k : Int) := by omega
          rw [s4]
          have d1 : decide (0 ≤ (k : Int)) = true := by simp
          have bk : (k : Int) ≤ 1000000 := by omega
          have hkk := Lib.hid hk
          obtain ⟨FK, hFK⟩ : ∃ x, x = a + k := ⟨_, rfl⟩
          have t1 : (a : Int) + (k : Int) = (FK : Int) := by omega
          have i0 : a < n := by have := HX.out; omega
          have i1 : FK < n := by have := HX.out; omega
          have c0 := HO2.out.cell a (by have := HZ2.out; omega)
          have cA := HO2.out.cell FK (by have := HZ2.out; omega)
          obtain ⟨x, hx⟩ : ∃ x, zs[a]! = x := ⟨_, rfl⟩
          obtain ⟨y, hy⟩ : ∃ y, zs[FK]! = y := ⟨_, rfl⟩
          rw [hx] at c0
          rw [hy] at cA
          have HXX := Lib.hid hx
          have HY := Lib.hid hy
          have f0 := HO2.out.frozen a
          have fA := HO2.out.frozen FK
          have c2 := (HO2.out.set_ a y).cell FK (by rw [Array.size_setIfInBounds]; have := HZ2.out; omega)
          have f2 := (HO2.out.set_ a y).frozen FK
          generalize (zs.setIfInBounds a y)[FK]! = v2 at c2
          have HFK := Lib.hid hFK
          clear hk s4 hx hy hFK
          go_upto_region 10 with fail
          go_region
          have HO3 : RA ((w2.setCell ⟨g, a, none⟩ (.int .u32 y)).setCell ⟨g, FK, none⟩ (.int .u32 x)).drew g cap (Sort.swp zs a FK) := by rw [← HXX.out, ← HY.out]; exact (HO2.out.swp a FK).drew
          have HF3 := Lib.hid (show Fr (fun x => x = g) w ((w2.setCell ⟨g, a, none⟩ (.int .u32 y)).setCell ⟨g, FK, none⟩ (.int .u32 x)).drew from (fr_swp HF2.out).drew)
          have CL := Lib.hid (sift_any _ g n cap 0 k a 0 rfl (Sort.swp zs a FK) HO3 (by rw [Sort.swp_size]; exact HZ2.out) HX.out.1 (by omega) (by have := HX.out; omega))
          clear HO3
          go_wp2_with fail
          (with_reducible refine CL.out.mono ?_)
          rintro e w3 ⟨rfl, q1, q2, q3⟩
          have Q1 := Lib.hid q1
          have Q2 := Lib.hid q2
          have Q3 := Lib.hid q3
          clear q1 q2 q3
          go_wp2
          go_roundw
          case rel => exact ⟨k, _, by have := hkk.out; omega, rfl, Q1, Q2, Lib.hid (by rw [← HE2.out, HFK.out]; rfl), Lib.hid (HF3.out.trans Q3.out)⟩
          case measure => simp [intOf]
    | succ k =>
      have s4 : ((k + 1 : Nat) : Int) - 1 = (k : Int) := by omega
      rw [s4]
      have d1 : decide (0 ≤ (k : Int)) = true := by simp
      have bk : (k : Int) ≤ 1000000 := by omega
      have hkk := Lib.hid hk
      have CL := Lib.hid (sift_any w1 g n cap k hi a k rfl ys HO.out HZ.out HX.out.1 (by have := HX.out; omega) (by have := HX.out; omega))
      clear hk s4
      go_wp2_with fail
      (with_reducible refine CL.out.mono ?_)
      rintro e w2 ⟨rfl, q1, q2, q3⟩
      have Q1 := Lib.hid q1
      have Q2 := Lib.hid q2
      have Q3 := Lib.hid q3
      clear q1 q2 q3
      go_wp2
      go_roundw
      case rel => exact ⟨k, _, by have := hkk.out; omega, rfl, Q1, Q2, Lib.hid (by rw [← HE.out]; rfl), Lib.hid (HF.out.trans Q3.out)⟩
      case measure => simp [intOf]
end Go.Proofs.Ytpndcpmfcajmdaa.Srt
namespace Go.Proofs.Ytpndcpmfcajmdaa.Srt
open Go.ChangeShapes Go.WideShapes Go.ChangeAt Go.RowKit Go.IntWalk Go.Proofs.Mem
set_option linter.unusedVariables false
set_option maxRecDepth 100000 in
set_option maxHeartbeats 4000000 in
theorem rev_any (w : World) (g n cap a b : Nat) (d : Array Int) (h : RA w g cap d) (hn : d.size = n) (h0 : n ≤ 1000000) (h1 : a < b) (h2 : b ≤ n) :
    Calls Try.prog 66 #[.slice (some ⟨g, 0, none⟩) n cap, .int .i64 a, .int .i64 b] w fun e w' => e = .returned (.tuple #[]) ∧ (∃ d', RA w' g cap d' ∧ Sort.PermIn a b d d') ∧ Fr (fun x => x = g) w w' := by
  have HR := Lib.hid h
  have HN := Lib.hid hn
  obtain ⟨b1, hb1⟩ : ∃ x, x = b - 1 := ⟨_, rfl⟩
  have s1 : (b : Int) - 1 = (b1 : Int) := by omega
  have ba : (a : Int) ≤ 1000000 := by omega
  have bb : (b : Int) ≤ 1000000 := by omega
  have HX := Lib.hid (⟨h0, h1, h2, hb1⟩ : n ≤ 1000000 ∧ a < b ∧ b ≤ n ∧ b1 = b - 1)
  clear h hn h0 h1 h2 hb1
  go_enter Try.func66, Try.ntmps66
  go_wp2
  go_loopw [6, 7] (fun s t wr => ∃ (i j : Nat) (ys : Array Int), a ≤ i ∧ i ≤ b ∧ j < b ∧ i + j = a + b1 ∧ s = .int .i64 i ∧ t = .int .i64 j ∧ Hid (RA wr g cap ys) ∧ Hid (Sort.PermIn a b d ys) ∧ Hid (Fr (fun x => x = g) w wr)) (fun s t _ => b - (intOf s).toNat)
  case atStart => exact ⟨a, b1, d, Nat.le_refl _, by have := HX.out; omega, by have := HX.out; omega, rfl, rfl, rfl, HR, Lib.hid (Sort.permIn_refl _ _ _), Lib.hid (Fr.refl _ _)⟩
  case round =>
    obtain ⟨i, j, ys, hi1, hi2, hj, hij, rfl, rfl, HO, HP, HF⟩ := hrel
    obtain ⟨w1, rfl⟩ : ∃ w1, w1 = wr := ⟨wr, rfl⟩
    have hsz : ys.size = n := by rw [HP.out.1]; exact HN.out
    by_cases hl : i < j
    · have d1 : decide ((i : Int) < (j : Int)) = true := by simp; omega
      have d1' : decide (i < j) = true := by simp; omega
      obtain ⟨i', hi'⟩ : ∃ x, x = i + 1 := ⟨_, rfl⟩
      obtain ⟨j', hj'⟩ : ∃ x, x = j - 1 := ⟨_, rfl⟩
      have s2 : (i : Int) + 1 = (i' : Int) := by omega
      have s3 : (j : Int) - 1 = (j' : Int) := by omega
      have bi : (i : Int) ≤ 1000000 := by omega
      have bj : (j : Int) ≤ 1000000 := by omega
      have in1 : i < n := by have := HX.out; omega
      have in2 : j < n := by have := HX.out; omega
      have c0 := HO.out.cell i (by omega)
      have c1 := HO.out.cell j (by omega)
      obtain ⟨x, hx⟩ : ∃ x, ys[i]! = x := ⟨_, rfl⟩
      obtain ⟨y, hy⟩ : ∃ y, ys[j]! = y := ⟨_, rfl⟩
      rw [hx] at c0
      rw [hy] at c1
      have HXX := Lib.hid hx
      have HY := Lib.hid hy
      have f0 := HO.out.frozen i
      have f1 := HO.out.frozen j
      have c2 := (HO.out.set_ i y).cell j (by rw [Array.size_setIfInBounds]; omega)
      have f2 := (HO.out.set_ i y).frozen j
      generalize (ys.setIfInBounds i y)[j]! = v2 at c2
      have HI := Lib.hid (⟨hi1, hi2, hj, hij, hl, hi', hj', hsz⟩ : a ≤ i ∧ i ≤ b ∧ j < b ∧ i + j = a + b1 ∧ i < j ∧ i' = i + 1 ∧ j' = j - 1 ∧ ys.size = n)
      clear hi1 hi2 hj hij hl hi' hj' hsz hx hy
      go_upto_region 3 with fail
      go_region
      go_wp2
      go_roundw
      case rel => exact ⟨i', j', Sort.swp ys i j, by have := HI.out; omega, by have := HI.out; omega, by have := HI.out; omega, by have := HI.out; omega, rfl, rfl, Lib.hid (by rw [← HXX.out, ← HY.out]; exact (HO.out.swp i j).drew), Lib.hid (Sort.permIn_trans _ _ _ _ _ HP.out (Sort.swp_permIn _ _ _ _ _ (by have := HI.out; omega) (by have := HI.out; omega) (by have := HI.out; omega) (by have := HI.out; omega) (by have := HI.out; have := HX.out; omega))), Lib.hid (fr_swp HF.out).drew⟩
      case measure => simp [intOf]; have := HI.out; omega
    · have d1 : decide ((i : Int) < (j : Int)) = false := by simp; omega
      have d1' : decide (i < j) = false := by simp; omega
      go_wp2
      go_end0
      exact ⟨rfl, ⟨ys, HO.out, HP.out⟩, HF.out⟩
end Go.Proofs.Ytpndcpmfcajmdaa.Srt
namespace Go.Proofs.Srt0
open Go.Sort
theorem lt_false {x y : Int} : ltInt x y = false ↔ y ≤ x := by simp [ltInt]
theorem lt_true {x y : Int} : ltInt x y = true ↔ x < y := by simp [ltInt]
def Ord (a0 b0 a b : Nat) (d : Array Int) : Prop := ∀ i j, a0 ≤ i → i < j → j < b0 → (i < a ∨ b ≤ j) → d[i]! ≤ d[j]!
structure Inv (a0 b0 : Nat) (d0 : Array Int) (a b : Nat) (d : Array Int) : Prop where
  h1 : a0 ≤ a
  h2 : a ≤ b
  h3 : b ≤ b0
  h4 : b0 ≤ d.size
  perm : PermIn a0 b0 d0 d
  ord : Ord a0 b0 a b d
  below : Below ltInt a b d
section
variable {a0 b0 a b mid : Nat} {d0 d d' : Array Int}
theorem Inv.start (h1 : a ≤ b) (h2 : b ≤ d.size) (hB : Below ltInt a b d) : Inv a b d a b d :=
  ⟨Nat.le_refl _, h1, Nat.le_refl _, h2, permIn_refl _ _ _, fun i j _ _ _ h => by omega, hB⟩
theorem Ord.perm (h : Ord a0 b0 a b d) (ha : a0 ≤ a) (hb : b ≤ b0) (hs : b ≤ d.size) (hp : PermIn a b d d') : Ord a0 b0 a b d' := by
  intro i j hi hij hj ho
  by_cases hia : a ≤ i ∧ i < b
  · have hbj : b ≤ j := by omega
    rw [hp.2.1 j (.inr hbj)]
    exact permIn_all d d' a b (fun x => x ≤ d[j]!) hs hp (fun k hk1 hk2 => h k j (by omega) (by omega) hj (.inr hbj)) i hia.1 hia.2
  · rw [hp.2.1 i (by omega)]
    by_cases hja : a ≤ j ∧ j < b
    · exact permIn_all d d' a b (fun x => d[i]! ≤ x) hs hp (fun k hk1 hk2 => h i k hi (by omega) (by omega) (.inl (by omega))) j hja.1 hja.2
    · rw [hp.2.1 j (by omega)]
      exact h i j hi hij hj ho
theorem Inv.step (h : Inv a0 b0 d0 a b d) (hp : PermIn a b d d') : Inv a0 b0 d0 a b d' :=
  ⟨h.h1, h.h2, h.h3, by rw [hp.1]; exact h.h4, permIn_trans _ _ _ _ _ h.perm (permIn_mono _ _ _ _ _ _ h.h1 h.h3 h.h4 hp), h.ord.perm h.h1 h.h3 (by have := h.h3; have := h.h4; omega) hp, h.below.perm (by have := h.h3; have := h.h4; omega) hp⟩
theorem Inv.done (h : Inv a0 b0 d0 a b d) (hs : SortedIn ltInt a b d) : PermIn a0 b0 d0 d ∧ SortedIn ltInt a0 b0 d :=
  ⟨h.perm, fun i j hi hij hj => by
    rw [lt_false]
    by_cases ho : i < a ∨ b ≤ j
    · exact h.ord i j hi hij hj ho
    · exact lt_false.1 (hs i j (by omega) hij (by omega))⟩
structure Prt (a b mid : Nat) (d : Array Int) : Prop where
  h1 : a ≤ mid
  h2 : mid < b
  left : ∀ i, a ≤ i → i < mid → d[i]! ≤ d[mid]!
  right : ∀ i, mid < i → i < b → d[mid]! ≤ d[i]!
theorem Prt.belowR (h : Prt a b mid d) : Below ltInt (mid + 1) b d := .inr fun i h1 h2 => by
  rw [Nat.add_sub_cancel]; exact lt_false.2 (h.right i (by omega) h2)
theorem Inv.prt_ord (h : Inv a0 b0 d0 a b d) (hp : Prt a b mid d) (i j : Nat) (hi : a0 ≤ i) (hij : i < j) (hj : j < b0) (ho : i ≤ mid ∧ mid ≤ j ∨ i < a ∨ b ≤ j) : d[i]! ≤ d[j]! := by
  rcases ho with ⟨h1, h2⟩ | ho
  · by_cases h3 : i < a ∨ b ≤ j
    · exact h.ord i j hi hij hj h3
    · by_cases e1 : i = mid
      · subst e1; exact hp.right j hij (by omega)
      · by_cases e2 : j = mid
        · subst e2; exact hp.left i (by omega) hij
        · exact Int.le_trans (hp.left i (by omega) (by omega)) (hp.right j (by omega) (by omega))
  · exact h.ord i j hi hij hj ho
theorem Inv.left (h : Inv a0 b0 d0 a b d) (hp : Prt a b mid d) (hq : PermIn a mid d d') (hs : SortedIn ltInt a mid d') : Inv a0 b0 d0 (mid + 1) b d' := by
  have k1 := hp.h1; have k2 := hp.h2; have k3 := h.h1; have k4 := h.h3; have k5 := h.h4
  have hq' : PermIn a b d d' := permIn_mono _ _ _ _ _ _ (Nat.le_refl _) (by omega) (by omega) hq
  have hI := h.step hq'
  have hp' : Prt a b mid d' := by
    have em : d'[mid]! = d[mid]! := hq.2.1 mid (.inr (Nat.le_refl _))
    refine ⟨k1, k2, fun i h1 h2 => ?_, fun i h1 h2 => ?_⟩
    · rw [em]; exact permIn_all d d' a mid (fun x => x ≤ d[mid]!) (by omega) hq hp.left i h1 h2
    · rw [em, hq.2.1 i (.inr (by omega))]; exact hp.right i h1 h2
  refine ⟨by omega, by omega, k4, hI.h4, hI.perm, fun i j hi hij hj ho => ?_, hp'.belowR⟩
  by_cases hc : i ≤ mid ∧ mid ≤ j ∨ i < a ∨ b ≤ j
  · exact hI.prt_ord hp' i j hi hij hj hc
  · exact lt_false.1 (hs i j (by omega) hij (by omega))
theorem Inv.right (h : Inv a0 b0 d0 a b d) (hp : Prt a b mid d) (hq : PermIn (mid + 1) b d d') (hs : SortedIn ltInt (mid + 1) b d') : Inv a0 b0 d0 a mid d' := by
  have k1 := hp.h1; have k2 := hp.h2; have k3 := h.h1; have k4 := h.h3; have k5 := h.h4
  have hq' : PermIn a b d d' := permIn_mono _ _ _ _ _ _ (by omega) (Nat.le_refl _) (by omega) hq
  have hI := h.step hq'
  have hp' : Prt a b mid d' := by
    have em : d'[mid]! = d[mid]! := hq.2.1 mid (.inl (by omega))
    refine ⟨k1, k2, fun i h1 h2 => ?_, fun i h1 h2 => ?_⟩
    · rw [em, hq.2.1 i (.inl (by omega))]; exact hp.left i h1 h2
    · rw [em]; exact permIn_all d d' (mid + 1) b (fun x => d[mid]! ≤ x) (by omega) hq (fun k h3 h4 => hp.right k (by omega) h4) i (by omega) h2
  refine ⟨k3, k1, by omega, hI.h4, hI.perm, fun i j hi hij hj ho => ?_, hI.below.mono (by omega)⟩
  by_cases hc : i ≤ mid ∧ mid ≤ j ∨ i < a ∨ b ≤ j
  · exact hI.prt_ord hp' i j hi hij hj hc
  · exact lt_false.1 (hs i j (by omega) hij (by omega))
theorem prt_of (a b p : Nat) (d : Array Int) (h1 : a ≤ p) (h2 : p < b) (h3 : b ≤ d.size) :
    PermIn a b d (partition ltInt d a b p).2.2 ∧ Prt a b (partition ltInt d a b p).1 (partition ltInt d a b p).2.2 := by
  obtain ⟨k1, k2, k3, k4, k5⟩ := partition_holds _ swo_ltInt d a b p h1 h2 h3
  exact ⟨k3, k1, k2, fun i h1 h2 => by have := lt_true.1 (k4 i h1 h2); omega, fun i h1 h2 => lt_false.1 (k5 i h1 h2)⟩
theorem Inv.equal (h : Inv a0 b0 d0 a b d) {p : Nat} (h1 : a ≤ p) (h2 : p < b) (ha : 0 < a) (he : ltInt d[a - 1]! d[p]! = false) :
    Inv a0 b0 d0 (partitionEqual ltInt d a b p).1 b (partitionEqual ltInt d a b p).2 ∧ a < (partitionEqual ltInt d a b p).1 := by
  have k3 := h.h1; have k4 := h.h3; have k5 := h.h4
  have hlo : ∀ i, a ≤ i → i < b → d[a - 1]! ≤ d[i]! := fun i hi1 hi2 => by
    rcases h.below with e | hb
    · omega
    · exact lt_false.1 (hb i hi1 hi2)
  have hpv : d[p]! ≤ d[a - 1]! := lt_false.1 he
  obtain ⟨e1, e2, e3, e4, e5⟩ := partitionEqual_holds _ swo_ltInt d a b p h1 h2 (by omega) fun i hi1 hi2 => lt_false.2 (Int.le_trans hpv (hlo i hi1 hi2))
  generalize (partitionEqual ltInt d a b p).1 = m at *
  generalize (partitionEqual ltInt d a b p).2 = d' at *
  have hI := h.step e3
  have hlo' : ∀ i, a ≤ i → i < b → d[p]! ≤ d'[i]! := permIn_all d d' a b (fun x => d[p]! ≤ x) (by omega) e3 fun k hk1 hk2 => Int.le_trans hpv (hlo k hk1 hk2)
  refine ⟨⟨by omega, e2, k4, hI.h4, hI.perm, fun i j hi hij hj ho => ?_, .inr fun i hi1 hi2 => ?_⟩, e1⟩
  · by_cases hc : i < a ∨ b ≤ j
    · exact hI.ord i j hi hij hj hc
    · exact Int.le_trans (lt_false.1 (e4 i (by omega) (by omega))) (hlo' j (by omega) (by omega))
  · have q1 := lt_false.1 (e4 (m - 1) (by omega) (by omega))
    have q2 := hlo' i (by omega) hi2
    exact lt_false.2 (Int.le_trans q1 q2)
end
end Go.Proofs.Srt0
namespace Go.Proofs.Ytpndcpmfcajmdaa.Lock
open Go.ChangeShapes Go.WideShapes Go.ChangeAt Go.RowKit Go.IntWalk Go.Proofs.Mem Law Go.Proofs.Each
set_option linter.unusedVariables false
set_option linter.unusedSimpArgs false
set_option maxRecDepth 100000 in
set_option maxHeartbeats 4000000 in
theorem sorted_any (w : World) (v : Value) (ks : List Ky) (base : Nat) (hlen : ks.length ≤ 100000) (ho : w.ownsRow base 81 3 v ks.length (ks.flatMap cKy)) :
    Calls Try.prog 50 #[v] w fun e w' => e = .returned v ∧ ∃ ks', SS cKy 3 w' w'.heap.size v ks' ∧ ks'.Perm ks ∧ ks'.Pairwise (fun x y => ¬ klt y x) ∧ Fr (fun x => v.ownBlock = some x) w w' := by
  have ho' := ho
  rcases ho.2 with ⟨rfl, hn⟩ | ⟨g, cap, cur, rfl, hg, hh, hnc, hm, _, _⟩
  · have hk : ks = [] := List.eq_nil_of_length_eq_zero hn
    have hcon := AnyF.slices_SortFunc_none layN none 0 (.func (.func 59) #[] #[]) w
    change Calls Try.prog 58 _ _ _ at hcon
    subst hk
    have HC := Lib.hid hcon
    clear ho ho' hcon
    go_enter Try.func50, Try.ntmps50
    go_wp2_with (go_at_call 58; (with_reducible refine HC.out.mono ?_); rintro e w' ⟨rfl, rfl⟩)
    go_ret
    exact ⟨rfl, [], SS.nil _ _, List.Perm.refl _, List.Pairwise.nil, Fr.refl _ _⟩
  · have hlt := (ho'.lt g rfl).2
    have eg : ∀ args w, (callFunc 59 args).run Try.prog w = .ok (.enter 59 args) w := enters_of Try.func59 (by kernel_rfl) rfl
    have hH := holdsK_own ho'
    have hsz : ks.toArray.size = ks.length := by simp
    have hcon := AnyQ.slices_SortFunc layN 3 Try.isAgg81 Try.sizeOf81 cKy cKy_len cKy_one cmpK klt_swo 59 #[] g 0 cap ks.toArray w eg (cmpLaysK _ _ _ _) hH hlt (by rw [hsz]; omega)
    change Calls Try.prog 58 _ _ _ at hcon
    rw [hsz] at hcon
    have HO : ∀ (d' : Array Ky) (n : Nat) (os : Array Obj), Sort.PermIn 0 ks.length ks.toArray d' → Sort.SortedIn (ltOf cmpK) 0 ks.length d' → ∃ ks', SS cKy 3 (sortWorldK cKy 3 w g 0 n d' os) (sortWorldK cKy 3 w g 0 n d' os).heap.size (.slice (some ⟨g, 0, none⟩) ks.length cap) ks' ∧ ks'.Perm ks ∧ ks'.Pairwise (fun x y => ¬ klt y x) ∧ Fr (fun x => (Value.slice (some ⟨g, 0, none⟩) ks.length cap).ownBlock = some x) w (sortWorldK cKy 3 w g 0 n d' os) := fun d' n os hp hs => by
      have hds : d'.size = ks.length := by rw [hp.1, hsz]
      have hfr := sortWorld_fr w g n d' os
      refine ⟨d'.toList, ?_, ?_, ?_, hfr.mono (fun k _ h => by rw [h]; rfl)⟩
      · refine ss_holds ?_ hds (Nat.lt_of_lt_of_le hlt hfr.size) hnc hm
        unfold sortWorldK
        have h1 := Sort.holdsK_putRowK cKy 3 (Sort.ahead w n) g 0 ks.toArray d' (Sort.holdsK_ahead cKy 3 w n g 0 _ hH) (by rw [hds, hsz])
        exact Sort.holdsK_grow cKy 3 _ os g 0 d' (by simpa [Sort.putRowK, Sort.putRow, Sort.mapBlock, Sort.ahead] using hlt) h1
      · have h1 := hp.2.2
        have e1 : d'.extract 0 ks.length = d' := by rw [← hds]; simp
        have e2 : ks.toArray.extract 0 ks.length = ks.toArray := by rw [← hsz]; simp
        rw [e1, e2] at h1
        simpa using h1
      · rw [List.pairwise_iff_getElem]
        intro i j hi hj hij
        have hi' : i < d'.size := by simpa using hi
        have hj' : j < d'.size := by simpa using hj
        have h1 := hs i j (Nat.zero_le _) hij (by rw [← hds]; exact hj')
        rw [klt_ltOf, getElem!_pos d' i hi', getElem!_pos d' j hj'] at h1
        simpa using h1
    have HC := Lib.hid hcon
    have HOO := Lib.hid HO
    generalize ks.length = N at HC HOO hnc ⊢
    clear ho ho' hcon HO hH hsz eg hlt hh hg hnc hm
    go_enter Try.func50, Try.ntmps50
    go_wp2_with (go_at_call 58; (with_reducible refine HC.out.mono ?_); rintro e w' ⟨rfl, d', n, os, hp, hs, rfl⟩)
    go_ret
    exact ⟨rfl, HOO.out d' n os hp hs⟩
end Go.Proofs.Ytpndcpmfcajmdaa.Lock
namespace Go.Proofs.Ytpndcpmfcajmdaa.Lock
open Go.ChangeShapes Go.WideShapes Go.ChangeAt Go.RowKit Go.IntWalk Go.Proofs.Mem Law Go.Shelf Go.Proofs.Each
set_option linter.unusedVariables false
set_option linter.unusedSimpArgs false
def into (l : List Int) (n : Int) : List Int :=
  if (l.dropWhile fun x => decide (x < n)).head? = some n then l else (l.takeWhile fun x => decide (x < n)) ++ n :: (l.dropWhile fun x => decide (x < n))
theorem into_mem {l : List Int} {n x : Int} : x ∈ into l n ↔ x = n ∨ x ∈ l := by
  have e := List.takeWhile_append_dropWhile (p := fun x => decide (x < n)) (l := l)
  unfold into
  split
  · rename_i h
    constructor
    · exact .inr
    · rintro (h1 | h1)
      · rw [h1, ← e]
        exact List.mem_append_right _ (List.mem_of_mem_head? h)
      · exact h1
  · conv => rhs; rw [← e]
    simp only [List.mem_append, List.mem_cons]
    constructor
    · rintro (h1 | h1 | h1)
      · exact .inr (.inl h1)
      · exact .inl h1
      · exact .inr (.inr h1)
    · rintro (h1 | h1 | h1)
      · exact .inr (.inl h1)
      · exact .inl h1
      · exact .inr (.inr h1)
theorem into_at {l : List Int} {n : Int} {i : Nat} (h1 : ∀ x ∈ l.take i, x < n) (h2 : ∀ x, l[i]? = some x → ¬ x < n) (hi : i ≤ l.length) : (l.takeWhile fun x => decide (x < n)) = l.take i ∧ (l.dropWhile fun x => decide (x < n)) = l.drop i := by
  induction l generalizing i with
  | nil => simp
  | cons y l ih =>
    cases i with
    | zero =>
      have := h2 y rfl
      simp [this]
    | succ i =>
      have hy : y < n := h1 y (by simp)
      obtain ⟨e1, e2⟩ := ih (i := i) (fun x hx => h1 x (by simp [hx])) (fun x hx => h2 x (by simpa using hx)) (by simpa using hi)
      simp [hy, e1, e2]
theorem u32_inf : (Try.prog.info? 29).map (fun i => (i.zero, i.size, i.bytes)) = some (some (.int .u32 0), 1, 4) := by kernel_rfl
theorem ir_drop {w : World} {B : Nat} {k : IntKind} {A : Option Addr} {n c m : Nat} {xs : List Int} (h : IR w B k (.slice A n c) xs) (hm : m ≤ n) : IR w B k (.slice (if c = m then A else A.map (·.add m)) (n - m) (c - m)) (xs.drop m) := by
  obtain ⟨A', c', e, h2, h3, h4, h5⟩ := h
  injection e with e1 e2 e3
  subst e1; subst e2; subst e3
  refine ⟨_, c - m, by rw [List.length_drop], by rw [List.length_drop]; omega, by omega, ?_, fun i hi => ?_⟩
  · intro hh
    split at hh
    · omega
    · cases A with
      | none => have := h4 rfl; omega
      | some a => cases hh
  · rw [List.length_drop] at hi
    obtain ⟨b, off, e, hb, hc⟩ := h5 (m + i) (by omega)
    subst e
    refine ⟨b, off + m, ?_, hb, ?_⟩
    · rw [if_neg (by omega)]; simp [Go.WideShapes.add_plain]
    · rw [Nat.add_assoc, hc]; simp [List.getD]
set_option maxRecDepth 100000 in
set_option maxHeartbeats 8000000 in
theorem into_any (w : World) (B : Nat) (v : Value) (l : List Int) (n : Int) (hB : B ≤ w.heap.size) (hlen : l.length ≤ 10000) (ho : w.ownsRow B 29 1 v l.length (l.map (.int .u32))) :
    Calls Try.prog 22 #[v, .int .u32 n] w fun e w' => ∃ v', e = .returned v' ∧ w'.ownsRow B 29 1 v' (into l n).length ((into l n).map (.int .u32)) ∧ (v' = v ∨ ∀ b, v'.ownBlock = some b → w.heap.size ≤ b) ∧ Below w.heap.size w w' := by
  obtain ⟨j0, hj0, hj1, hj2, hj3⟩ := info_parts u32_inf
  have hir := IR.of_own ho
  obtain ⟨A, c, rfl, hc1, hc2⟩ := hir.form
  have hform : (A = none ∧ c = 0) ∨ ∃ g, A = some ⟨g, 0, none⟩ := by
    rcases ho.2 with ⟨h1, _⟩ | ⟨g, cap, cur, h1, _⟩
    · injection h1 with h1 _ h3; exact .inl ⟨h1, h3⟩
    · injection h1 with h1 _ _; exact .inr ⟨g, h1⟩
  have HFM := Lib.hid hform
  clear hform
  obtain ⟨N, hN⟩ : ∃ N, l.length = N := ⟨_, rfl⟩
  have HIR := Lib.hid hir
  have HO := Lib.hid ho
  have HNL := Lib.hid hN
  have hN63 : (N : Int) ≤ 10000 := by omega
  have hNc : N ≤ c := by omega
  have HB := Lib.hid hB
  rw [hN]
  rw [hN] at HIR
  clear hir ho hc1 hc2 hN hlen hB
  go_enter Try.func22, Try.ntmps22
  go_wp2
  go_loopw [5] (fun s wr => ∃ i : Nat, i ≤ N ∧ s = .int .i64 i ∧ Hid (∀ x ∈ l.take i, x < n) ∧ w = wr) (fun s _ => N - (intOf s).toNat)
  case atStart => exact ⟨0, Nat.zero_le _, rfl, Lib.hid (fun x hx => by simp at hx), rfl⟩
  case round =>
    obtain ⟨i, hi, rfl, HF, rfl⟩ := hrel
    by_cases hl : i < N
    · have d1 : decide ((i : Int) < (N : Int)) = true := by simp; omega
      have d1' : decide (i < N) = true := by simp; omega
      obtain ⟨x, hx⟩ : ∃ x, l[i]? = some x := ⟨_, List.getElem?_eq_getElem (by have := HNL.out; omega)⟩
      obtain ⟨b, off, hA, hb, hcell⟩ := HIR.out.index i hl
      have hxe : l.getD i 0 = x := by rw [List.getD, hx]; rfl
      rw [hxe] at hcell
      have HX := Lib.hid hx
      subst hA
      clear hb hx hxe
      by_cases hlt : x < n
      · have d2 : decide (x < n) = true := by simpa using hlt
        have hw2 : IntKind.i64.wrap ((i : Int) + 1) = ((i + 1 : Nat) : Int) := by rw [IntKind.wrap_i64]; omega
        have HN2 := Lib.hid (show ∀ y ∈ l.take (i + 1), y < n from fun y hy => by
          rw [List.take_add_one, HX.out] at hy
          rcases List.mem_append.1 hy with h | h
          · exact HF.out y h
          · simp at h; rw [h]; exact hlt)
        clear hlt
        go_wp2
        go_roundw
        case rel => exact ⟨i + 1, by omega, by go_num, HN2, trivial⟩
        case measure => simp [intOf]; omega
      · have d2 : decide (x < n) = false := by simpa using hlt
        have HAT := Lib.hid (into_at HF.out (fun y hy => by rw [HX.out] at hy; injection hy with hy; rw [← hy]; exact hlt) (by have := HNL.out; omega))
        clear hlt
        by_cases he : x = n
        · have d3 : (x == n) = true := by simpa using he
          have d3' : decide (x = n) = true := by simpa using he
          have HE := Lib.hid (show into l n = l by
            unfold into
            rw [HAT.out.2, if_pos]
            rw [List.head?_drop, HX.out, he])
          clear he
          go_wp2
          go_ret
          refine ⟨_, rfl, ?_, .inl rfl, Below.refl _ _⟩
          rw [HE.out]
          have := HO.out
          rw [HNL.out] at this ⊢
          exact this
        · have d3 : (x == n) = false := by simpa using he
          have d3' : decide (x = n) = false := by simpa using he
          have HE := Lib.hid (show into l n = l.take i ++ n :: l.drop i by
            unfold into
            rw [HAT.out.1, HAT.out.2, if_neg]
            rw [List.head?_drop, HX.out]
            intro h; injection h with h; exact he h)
          clear he
          have hL1 : (l.take i).length = i := by rw [List.length_take, HNL.out]; omega
          have hL2 : (l.drop i).length = N - i := by rw [List.length_drop, HNL.out]
          obtain ⟨L1, hl1⟩ : ∃ L1, l.take i = L1 := ⟨_, rfl⟩
          obtain ⟨L2, hl2⟩ : ∃ L2, l.drop i = L2 := ⟨_, rfl⟩
          have HI1 := Lib.hid (HIR.out.take hi)
          have hI2 := ir_drop HIR.out hi
          rw [hl1] at HI1 hL1 HE
          rw [hl2] at hI2 hL2 HE
          have HL := Lib.hid (⟨hL1, hL2⟩ : L1.length = i ∧ L2.length = N - i)
          clear hL1 hL2 hl1 hl2
          have hfm := HFM.out
          have hsz : (IntKind.i64.wrap (i : Int)) = (i : Int) := by rw [IntKind.wrap_i64]; omega
          obtain ⟨g, hg⟩ : ∃ g, (some ⟨b, off, none⟩ : Option Addr) = some ⟨g, 0, none⟩ := hfm.resolve_left (fun h => by cases h.1)
          injection hg with hg
          injection hg with hg1 hg2
          subst hg1
          subst hg2
          rw [Nat.zero_add] at hcell
          have hci : ¬ c = i := by omega
          have HI2 := Lib.hid (show IR w w.heap.size .u32 (.slice (some ⟨b, i, none⟩) (N - i) (c - i)) L2 by
            rw [if_neg hci] at hI2; simpa [Go.WideShapes.add_plain] using hI2)
          clear hI2
          all_goals
            go_wp2_with (first
              | (at_builtin; refine wpList_append_all _ rfl _ _ _ rfl w.heap.size 29 j0 .u32 4 Try.underlying38 hj0 hj1 hj2 hj3 _ 0 [] rfl (World.ownsRow_nil _ _ _ _) w.heap.size _ L1 rfl HI1.out (by have := HL.out; unfold maxLen; omega) (by have := HL.out; omega) (Nat.le_refl _) ?_; intro v1 w1 hown1 hb1; have HO1 := Lib.hid hown1; have HB1 := Lib.hid hb1; clear hown1 hb1)
              | (at_builtin; refine wpList_push _ rfl _ _ _ rfl w.heap.size 29 j0 .u32 4 Try.underlying38 hj0 hj1 hj2 hj3 v1 _ _ rfl (own_below HO1.out (new_ (Below.refl _ _) (.cells #[.int .u32 n] 29))) w1.heap.size n rfl (cell_new _ _ _ 0) (by have := HL.out; unfold maxLen; omega) (by have := HL.out; omega) (by have := HB1.out.size; simp; omega) ?_; intro v2 w2 hown2 hb2; have HO2 := Lib.hid hown2; have HB2 := Lib.hid (HB1.out.trans ((new_ (Below.refl w1.heap.size w1) (.cells #[.int .u32 n] 29)).mono HB1.out.size |>.trans hb2)); clear hown2 hb2)
              | (at_builtin; refine wpList_append_all _ rfl _ _ _ rfl w.heap.size 29 j0 .u32 4 Try.underlying38 hj0 hj1 hj2 hj3 v2 _ _ rfl HO2.out w.heap.size _ L2 rfl (HI2.out.below HB2.out) (by have := HL.out; unfold maxLen; omega) (by have := HL.out; omega) HB2.out.size ?_; intro v3 w3 hown3 hb3; have HO3 := Lib.hid hown3; have HB3 := Lib.hid (HB2.out.trans hb3); clear hown3 hb3))
            go_ret
            refine ⟨_, rfl, ?_, .inr (fun b hb => (HO3.out.lt b hb).1), HB3.out⟩
            have h1 := own_lower HO3.out HB.out
            rw [HE.out, show (L1 ++ n :: L2).length = 0 + L1.length + 1 + L2.length by simp; omega, show L1 ++ n :: L2 = [] ++ L1 ++ [n] ++ L2 by simp]
            exact h1
    · have hiN : i = N := by omega
      have d1 : decide ((i : Int) < (N : Int)) = false := by simp; omega
      have d1' : decide (i < N) = false := by simp; omega
      have HAT := Lib.hid (into_at HF.out (fun y hy => by rw [List.getElem?_eq_none (by rw [HNL.out]; omega)] at hy; cases hy) (by have := HNL.out; omega))
      have HE := Lib.hid (show into l n = l.take i ++ n :: l.drop i by
        unfold into
        rw [HAT.out.1, HAT.out.2, if_neg]
        rw [List.head?_drop, List.getElem?_eq_none (by rw [HNL.out]; omega)]
        intro h; cases h)
      clear hiN
      have hL1 : (l.take i).length = i := by rw [List.length_take, HNL.out]; omega
      have hL2 : (l.drop i).length = N - i := by rw [List.length_drop, HNL.out]
      obtain ⟨L1, hl1⟩ : ∃ L1, l.take i = L1 := ⟨_, rfl⟩
      obtain ⟨L2, hl2⟩ : ∃ L2, l.drop i = L2 := ⟨_, rfl⟩
      have HI1 := Lib.hid (HIR.out.take hi)
      have hI2 := ir_drop HIR.out hi
      rw [hl1] at HI1 hL1 HE
      rw [hl2] at hI2 hL2 HE
      have HL := Lib.hid (⟨hL1, hL2⟩ : L1.length = i ∧ L2.length = N - i)
      clear hL1 hL2 hl1 hl2
      have hfm := HFM.out
      have hsz : (IntKind.i64.wrap (i : Int)) = (i : Int) := by rw [IntKind.wrap_i64]; omega
      rcases hfm with ⟨rfl, hc0⟩ | ⟨g, rfl⟩
      case' inl =>
        have hN0 : N = 0 := by omega
        have hi0 : i = 0 := by omega
        subst hc0
        have HI2 := Lib.hid (show IR w w.heap.size .u32 (.slice none 0 0) L2 by subst hN0 hi0; simpa using hI2)
        subst hi0
        clear hI2
      case' inr =>
        by_cases hci : c = i
        case' pos =>
          have hNi : N = i := by omega
          have HI2 := Lib.hid (show IR w w.heap.size .u32 (.slice (some ⟨g, 0, none⟩) 0 0) L2 by
            rw [if_pos hci] at hI2; subst hci; subst hNi; simpa using hI2)
          subst hci
          subst hNi
          clear hI2
        case' neg =>
          have HI2 := Lib.hid (show IR w w.heap.size .u32 (.slice (some ⟨g, i, none⟩) (N - i) (c - i)) L2 by
            rw [if_neg hci] at hI2; simpa [Go.WideShapes.add_plain] using hI2)
          clear hI2
      all_goals
        go_wp2_with (first
          | (at_builtin; refine wpList_append_all _ rfl _ _ _ rfl w.heap.size 29 j0 .u32 4 Try.underlying38 hj0 hj1 hj2 hj3 _ 0 [] rfl (World.ownsRow_nil _ _ _ _) w.heap.size _ L1 rfl HI1.out (by have := HL.out; unfold maxLen; omega) (by have := HL.out; omega) (Nat.le_refl _) ?_; intro v1 w1 hown1 hb1; have HO1 := Lib.hid hown1; have HB1 := Lib.hid hb1; clear hown1 hb1)
          | (at_builtin; refine wpList_push _ rfl _ _ _ rfl w.heap.size 29 j0 .u32 4 Try.underlying38 hj0 hj1 hj2 hj3 v1 _ _ rfl (own_below HO1.out (new_ (Below.refl _ _) (.cells #[.int .u32 n] 29))) w1.heap.size n rfl (cell_new _ _ _ 0) (by have := HL.out; unfold maxLen; omega) (by have := HL.out; omega) (by have := HB1.out.size; simp; omega) ?_; intro v2 w2 hown2 hb2; have HO2 := Lib.hid hown2; have HB2 := Lib.hid (HB1.out.trans ((new_ (Below.refl w1.heap.size w1) (.cells #[.int .u32 n] 29)).mono HB1.out.size |>.trans hb2)); clear hown2 hb2)
          | (at_builtin; refine wpList_append_all _ rfl _ _ _ rfl w.heap.size 29 j0 .u32 4 Try.underlying38 hj0 hj1 hj2 hj3 v2 _ _ rfl HO2.out w.heap.size _ L2 rfl (HI2.out.below HB2.out) (by have := HL.out; unfold maxLen; omega) (by have := HL.out; omega) HB2.out.size ?_; intro v3 w3 hown3 hb3; have HO3 := Lib.hid hown3; have HB3 := Lib.hid (HB2.out.trans hb3); clear hown3 hb3))
        go_ret
        refine ⟨_, rfl, ?_, .inr (fun b hb => (HO3.out.lt b hb).1), HB3.out⟩
        have h1 := own_lower HO3.out HB.out
        rw [HE.out, show (L1 ++ n :: L2).length = 0 + L1.length + 1 + L2.length by simp; omega, show L1 ++ n :: L2 = [] ++ L1 ++ [n] ++ L2 by simp]
        exact h1
end Go.Proofs.Ytpndcpmfcajmdaa.Lock
