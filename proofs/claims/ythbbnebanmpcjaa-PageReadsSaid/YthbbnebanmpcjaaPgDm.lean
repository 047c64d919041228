import Derived.Test.YthbbnebanmpcjaaPgDk
/- The document's Read. -/
namespace Go.Proofs.Ythbbnebanmpcjaa.Pg
open Go.ChangeShapes Go.WideShapes Go.ChangeAt Go.RowKit Go.IntWalk Go.Proofs.Mem Go.Proofs.Each
set_option linter.unusedVariables false
set_option linter.unusedSimpArgs false
def hdD (l n : Int) : Dp := ⟨l, n, fun _ => 0, fun _ => 0, fun _ => 0⟩
theorem hdD_built (l n : Int) : Try.prog.built 68 [(0, .int .u64 l), (1, .int .u32 n)] = some (dpC (hdD l n)) := by kernel_rfl
theorem wp_build_dp2 (w : World) {o : Oper} {ac : Act} {K : Act → World → Prop} {Q : Exit → Act → World → Prop} (hgd : o.guard = none) (x y : Operand) (ho : o.op = .build 68 #[(0, x), (1, y)]) (l n : Int) (V : Array Value) (hV : V = dpC (hdD l n)) (hx : ac.eval x = .int .u64 l) (hy : ac.eval y = .int .u32 n)
    (h : K (ac.put o.dst (.agg V)) w) : o.wp Try.prog ac w K Q := by
  unfold Oper.wp execOp
  have e : (#[((0 : Nat), x), (1, y)].map fun (i, x) => (i, ac.eval x)) = #[(0, .int .u64 l), (1, .int .u32 n)] := by simp [hx, hy]
  simp only [ho, e, Sem.run_bind, run_build w 68 _ _ (hdD_built l n), Result.andThen_ok]
  rw [← hV]; exact h
theorem stays_box (B : Nat) (V : Array Value) (t : TypeId) : Stays (fun v W => ∃ q, v = .pointer (some ⟨q, 0, none⟩) ∧ B ≤ q ∧ Box W q V t) := fun v W W' hb h => by
  obtain ⟨q, h1, h2, h3⟩ := h
  exact ⟨q, h1, h2, h3.later hb⟩
/-! the bytes that are used -/
def useC (C : List Int) : Array Value := (C.map (fun c => .bool (decide (c ≠ 0)))).toArray
structure UsAt (w : World) (u : Nat) (C : List Int) : Prop where
  box : Box w u (useC C) 71
  len : C.length = 448
theorem zeroUs (W : World) : (zeroValue 71).run Try.prog W = .ok (.agg (useC z448)) W := by kernel_rfl
section
variable {w w' : World} {u : Nat} {C : List Int}
theorem UsAt.fr {S : Nat → Prop} (h : UsAt w u C) (hf : Fr S w w') (hn : ¬ S u) : UsAt w' u C := ⟨h.box.fr hf hn, h.len⟩
theorem UsAt.cell (h : UsAt w u C) (i : Nat) (hi : i < 448) : w.cell? ⟨u, i, none⟩ = some (.bool (decide (C.getD i 0 ≠ 0))) := by
  rw [h.box.cell]
  unfold useC
  have : i < C.length := by rw [h.len]; exact hi
  simp [List.getD, List.getElem?_eq_getElem this]
theorem UsAt.set_ (h : UsAt w u C) (i : Nat) : UsAt (w.setCell ⟨u, i, none⟩ (.bool true)) u (C.set i 1) := by
  refine ⟨?_, by rw [List.length_set]; exact h.len⟩
  have h9 := h.box.set_ i (.bool true)
  have e : (useC C).setIfInBounds i (.bool true) = useC (C.set i 1) := by unfold useC; simp [List.map_set]
  rw [e] at h9; exact h9
end
theorem ir_cells {w : World} {B : Nat} {g o n c : Nat} {xs : List Int} (h : IR w B .u8 (.slice (some ⟨g, o, none⟩) n c) xs) (i : Nat) (hi : i < n) : w.cell? ⟨g, o + i, none⟩ = some (.int .u8 (xs.getD i 0)) := by
  obtain ⟨b', o', e, _, hc⟩ := h.index i hi
  injection e with e
  injection e with e1 e2
  subst e1 e2
  exact hc
def ReadD (xs : List Int) (w : World) (e : Ending) (w' : World) : Prop :=
  (∃ r ys, e = .returned (.tuple #[.pointer (some ⟨r, 0, none⟩), .int .i64 0]) ∧ w.heap.size ≤ r ∧ Dw w' r ys ∧ Below w.heap.size w w' ∧ ((xs = z448 ∧ ys = newP 0) ∨ (xs ≠ z448 ∧ Wf xs ∧ ys = xs)))
  ∨ (e = .returned (.tuple #[.pointer none, .int .i64 90]) ∧ Below w.heap.size w w' ∧ xs ≠ z448 ∧ ¬ Wf xs)
theorem read_no {xs : List Int} {w w' : World} (hb : Below w.heap.size w w') (hz : xs ≠ z448) (hn : ¬ Wf xs) : ReadD xs w (.returned (.tuple #[.pointer none, .int .i64 90])) w' := .inr ⟨rfl, hb, hz, hn⟩
set_option maxRecDepth 100000 in
set_option maxHeartbeats 16000000 in
theorem rread (w : World) (B : Nat) (v : Value) (xs : List Int) (hr : IR w B .u8 v xs) (hb : Bytes xs) (hB : B ≤ w.heap.size) :
    Calls Try.prog 17 #[v] w (ReadD xs w) := by
  obtain ⟨A, c, rfl, hlc, hcm⟩ := hr.form
  unfold maxLen at hcm
  by_cases hl : xs.length = 448
  case neg =>
    have dl : ((xs.length : Int) != 448) = true := by rw [bne_iff_ne]; omega
    have HO := Lib.hid (show ReadD xs w (.returned (.tuple #[.pointer none, .int .i64 90])) w from .inr ⟨rfl, Below.refl _ _, fun e => hl (by rw [e]; exact List.length_replicate), fun W => hl W.w0.len⟩)
    clear hr hl hb
    go_enter Try.func17, Try.ntmps17
    go_wp2
    go_ret2
    exact HO.out
  rw [hl] at hr hlc ⊢
  obtain ⟨g, o, rfl, hgB, _⟩ := hr.index 0 (by omega)
  have HR := Lib.hid ((hr.more hB))
  have HBY := Lib.hid hb
  have HX := Lib.hid hl
  have HGB := Lib.hid (show g < w.heap.size by omega)
  have HCC := Lib.hid hlc
  have HSL := Lib.hid (show 8 ≤ c ∧ 12 ≤ c ∧ (8 : Int) ≤ c ∧ (12 : Int) ≤ c ∧ ¬ c = 8 by omega)
  have g8 := gt_bound hb 0 8 (by decide) (by omega)
  have g4 := gt_bound hb 8 4 (by decide) (by omega)
  have g2 := two_b hb 12 (by omega)
  have HG8 := Lib.hid (fun W (hW : Below w.heap.size w W) => NumBytes.get_ref (.slice (some ⟨g, o, none⟩) 8 c) ((xs.drop 0).take 8) W w.heap.size (by have := (ir_part HR.out 0 8 (by omega)).below hW; simpa using this) (bytes_seg hb 0 8))
  have HG4 := Lib.hid (fun W (hW : Below w.heap.size w W) => NumBytes.get_ref (.slice (some ⟨g, o + 8, none⟩) 4 (c - 8)) ((xs.drop 8).take 4) W w.heap.size ((ir_part HR.out 8 4 (by omega)).below hW) (bytes_seg hb 8 4))
  have HG2 := Lib.hid (fun W (hW : Below w.heap.size w W) => NumBytes.get_ref (.slice (some ⟨g, o + 12, none⟩) 2 (c - 12)) ((xs.drop 12).take 2) W w.heap.size ((ir_part HR.out 12 2 (by omega)).below hW) (bytes_seg hb 12 2))
  obtain ⟨l8, hl8⟩ : ∃ l, l = gt xs 0 8 := ⟨_, rfl⟩
  obtain ⟨n4, hn4⟩ : ∃ l, l = gt xs 8 4 := ⟨_, rfl⟩
  rw [show NumBytes.getS ((xs.drop 0).take 8) = l8 from hl8.symm] at HG8
  rw [show NumBytes.getS ((xs.drop 8).take 4) = n4 from hn4.symm] at HG4
  rw [show NumBytes.getS ((xs.drop 12).take 2) = (cnt xs : Int) by show gt xs 12 2 = _; unfold cnt; omega] at HG2
  have h64 : (2 : Int) ^ (8 * 8) = 18446744073709551616 := by decide
  have h32 : (2 : Int) ^ (8 * 4) = 4294967296 := by decide
  rw [h64, ← hl8] at g8
  rw [h32, ← hn4] at g4
  have HWN := Lib.hid (show IntKind.u32.wrap n4 = n4 by rw [IntKind.wrap_u32]; omega)
  obtain ⟨V, hV⟩ : ∃ V, V = dpC (hdD l8 n4) := ⟨_, rfl⟩
  have HV := Lib.hid hV
  have HOKh := Lib.hid (show (hdD l8 n4).Ok from ⟨by show 0 ≤ l8 ∧ l8 ≤ _; omega, by show 0 ≤ n4 ∧ n4 ≤ _; omega, fun _ _ => Nat.zero_le _, fun _ _ => Nat.zero_le _, fun _ => by show (0 : Int) ≤ 0 ∧ (0 : Int) ≤ 255; decide⟩)
  have HRD := Lib.hid (show hdD l8 n4 = rdD xs z448 0 by
    unfold hdD rdD
    rw [hl8, hn4]
    have e1 : (fun t => if t < 0 then off xs t else 0) = (fun _ => 0) := by funext t; rw [if_neg (by omega)]
    have e2 : (fun t => if t < 0 then len xs t else 0) = (fun _ => 0) := by funext t; rw [if_neg (by omega)]
    have e3 : (fun x => if z448.getD x 0 ≠ 0 then xs.getD x 0 else 0) = (fun _ => (0 : Int)) := by funext x; rw [if_neg (fun h => h (z_getD x))]
    rw [e1, e2, e3])
  have HZN := Lib.hid (show xs = z448 → hdD l8 n4 = newD 0 from fun e => by
    unfold hdD newD
    rw [hl8, hn4, e]
    congr 1)
  have hcnt : cnt xs ≤ 65535 := by unfold cnt; omega
  clear hr hb hl hV hl8 hn4 g8 g4 g2 h64 h32 hgB
  go_enter Try.func17, Try.ntmps17
  go_upto_region 3 with fail
  refine wp_region_ob (by kernel_rfl) (by kernel_rfl) [(fun v _ => v = Value.slice (some ⟨g, o, none⟩) 448 c), (fun v _ => v = Value.slice (some ⟨g, o, none⟩) 8 c), (fun v _ => v = Value.int .u64 l8), (fun v _ => v = Value.slice (some ⟨g, o, none⟩) 448 c), (fun v _ => v = Value.slice (some ⟨g, o + 8, none⟩) 4 (c - 8)), (fun v _ => v = Value.int .u64 n4), (fun v _ => v = Value.int .u32 n4), (fun v _ => v = Value.agg V), (fun v W => ∃ q, v = .pointer (some ⟨q, 0, none⟩) ∧ w.heap.size ≤ q ∧ Box W q V 68), (fun v W => ∃ q, v = .pointer (some ⟨q, 0, none⟩) ∧ w.heap.size ≤ q ∧ Box W q V 68)] ⟨stays_eq _, stays_eq _, stays_eq _, stays_eq _, stays_eq _, stays_eq _, stays_eq _, stays_eq _, stays_box _ _ _, stays_box _ _ _, trivial⟩ (fun vals => ?_) (fun vals W hbW hall => ?_)
  · simp only [ObF, Act.put, List.setIfInBounds_toArray, List.set_cons_succ, List.set_cons_zero]
    refine ⟨?_, ?_, ?_, ?_, ?_, ?_, ?_, ?_, ?_, ?_, trivial⟩
    · intro W hbW hw
      clear hw
      refine step_plain rfl ?_
      go_simp
      (first | exact Below.refl _ _ | exact ⟨Below.refl _ _, rfl⟩ | exact ⟨_, rfl, Below.refl _ _, rfl⟩)
    · intro W hbW hw
      have f0 : vals 0 = Value.slice (some ⟨g, o, none⟩) 448 c := hw ⟨0, .data⟩ (by simp) rfl
      clear hw
      refine step_plain rfl ?_
      obtain ⟨s1, s2, s3, s4, s5⟩ := HSL.out
      go_simp
      (first | exact Below.refl _ _ | exact ⟨Below.refl _ _, rfl⟩ | exact ⟨_, rfl, Below.refl _ _, rfl⟩)
    · intro W hbW hw
      have f1 : vals 1 = Value.slice (some ⟨g, o, none⟩) 8 c := hw ⟨1, .data⟩ (by simp) rfl
      clear hw
      refine step_plain rfl ?_
      have GG := Lib.hid (HG8.out W hbW)
      go_simp
      (with_reducible refine GG.out.mono ?_)
      rintro e w8 ⟨rfl, d, rfl⟩
      first | exact ⟨rfl, below_drewN (Below.refl _ _) d⟩ | exact ⟨below_drewN (Below.refl _ _) d, rfl⟩ | exact ⟨_, rfl, below_drewN (Below.refl _ _) d, rfl⟩
    · intro W hbW hw
      clear hw
      refine step_plain rfl ?_
      go_simp
      (first | exact Below.refl _ _ | exact ⟨Below.refl _ _, rfl⟩ | exact ⟨_, rfl, Below.refl _ _, rfl⟩)
    · intro W hbW hw
      have f3 : vals 3 = Value.slice (some ⟨g, o, none⟩) 448 c := hw ⟨3, .data⟩ (by simp) rfl
      clear hw
      refine step_plain rfl ?_
      obtain ⟨s1, s2, s3, s4, s5⟩ := HSL.out
      go_simp
      (first | exact Below.refl _ _ | exact ⟨Below.refl _ _, rfl⟩ | exact ⟨_, rfl, Below.refl _ _, rfl⟩)
    · intro W hbW hw
      have f4 : vals 4 = Value.slice (some ⟨g, o + 8, none⟩) 4 (c - 8) := hw ⟨4, .data⟩ (by simp) rfl
      have f2 : vals 2 = Value.int .u64 l8 := hw ⟨2, .chain⟩ (by simp) rfl
      clear hw
      refine step_plain rfl ?_
      have GG := Lib.hid (HG4.out W hbW)
      go_simp
      (with_reducible refine GG.out.mono ?_)
      rintro e w8 ⟨rfl, d, rfl⟩
      first | exact ⟨rfl, below_drewN (Below.refl _ _) d⟩ | exact ⟨below_drewN (Below.refl _ _) d, rfl⟩ | exact ⟨_, rfl, below_drewN (Below.refl _ _) d, rfl⟩
    · intro W hbW hw
      have f5 : vals 5 = Value.int .u64 n4 := hw ⟨5, .data⟩ (by simp) rfl
      clear hw
      refine step_plain rfl ?_
      have wn := HWN.out
      go_simp
      (first | exact Below.refl _ _ | exact ⟨Below.refl _ _, rfl⟩ | exact ⟨_, rfl, Below.refl _ _, rfl⟩)
    · intro W hbW hw
      have f2 : vals 2 = Value.int .u64 l8 := hw ⟨2, .data⟩ (by simp) rfl
      have f6 : vals 6 = Value.int .u32 n4 := hw ⟨6, .data⟩ (by simp) rfl
      clear hw
      refine step_plain rfl ?_
      refine wp_build_dp2 W rfl _ _ rfl l8 n4 V HV.out f2 f6 ?_
      first | exact ⟨_, rfl, Below.refl _ _, rfl⟩ | exact ⟨Below.refl _ _, rfl⟩
    · intro W hbW hw
      have f7 : vals 7 = Value.agg V := hw ⟨7, .data⟩ (by simp) rfl
      clear hw
      refine step_plain rfl ?_
      have hsz := hbW.size
      go_simp
      first | exact ⟨new_ (Below.refl _ _) _, Box.new _ _ _⟩ | exact ⟨new_ (Below.refl _ _) _, _, rfl, hsz, Box.new _ _ _⟩ | exact ⟨_, rfl, new_ (Below.refl _ _) _, _, rfl, hsz, Box.new _ _ _⟩
    · intro W hbW hw
      have f8 : ∃ q, (vals 8) = .pointer (some ⟨q, 0, none⟩) ∧ w.heap.size ≤ q ∧ Box W q V 68 := hw ⟨8, .data⟩ (by simp) rfl
      have f5 : vals 5 = Value.int .u64 n4 := hw ⟨5, .chain⟩ (by simp) rfl
      have f0 : vals 0 = Value.slice (some ⟨g, o, none⟩) 448 c := hw ⟨0, .phase⟩ (by simp) rfl
      have f1 : vals 1 = Value.slice (some ⟨g, o, none⟩) 8 c := hw ⟨1, .phase⟩ (by simp) rfl
      have f2 : vals 2 = Value.int .u64 l8 := hw ⟨2, .phase⟩ (by simp) rfl
      have f3 : vals 3 = Value.slice (some ⟨g, o, none⟩) 448 c := hw ⟨3, .phase⟩ (by simp) rfl
      have f4 : vals 4 = Value.slice (some ⟨g, o + 8, none⟩) 4 (c - 8) := hw ⟨4, .phase⟩ (by simp) rfl
      have f6 : vals 6 = Value.int .u32 n4 := hw ⟨6, .phase⟩ (by simp) rfl
      have f7 : vals 7 = Value.agg V := hw ⟨7, .phase⟩ (by simp) rfl
      clear hw
      refine step_plain rfl ?_
      go_simp
      first | exact Below.refl _ _ | exact ⟨Below.refl _ _, f8⟩ | exact ⟨_, rfl, Below.refl _ _, f8⟩
  · simp only [TL, Act.put, List.setIfInBounds_toArray, List.set_cons_succ, List.set_cons_zero]
    have f0 : vals 0 = Value.slice (some ⟨g, o, none⟩) 448 c := hall 0 (by decide)
    have f1 : vals 1 = Value.slice (some ⟨g, o, none⟩) 8 c := hall 1 (by decide)
    have f2 : vals 2 = Value.int .u64 l8 := hall 2 (by decide)
    have f3 : vals 3 = Value.slice (some ⟨g, o, none⟩) 448 c := hall 3 (by decide)
    have f4 : vals 4 = Value.slice (some ⟨g, o + 8, none⟩) 4 (c - 8) := hall 4 (by decide)
    have f5 : vals 5 = Value.int .u64 n4 := hall 5 (by decide)
    have f6 : vals 6 = Value.int .u32 n4 := hall 6 (by decide)
    have f7 : vals 7 = Value.agg V := hall 7 (by decide)
    have f8 : ∃ q, (vals 8) = .pointer (some ⟨q, 0, none⟩) ∧ w.heap.size ≤ q ∧ Box W q V 68 := hall 8 (by decide)
    have f9 : ∃ q, (vals 9) = .pointer (some ⟨q, 0, none⟩) ∧ w.heap.size ≤ q ∧ Box W q V 68 := hall 9 (by decide)
    clear hall
    simp only [f0, f1, f2, f3, f4, f5, f6, f7]
    clear f0 f1 f2 f3 f4 f5 f6 f7
    simp only [Nat.reduceAdd]
    obtain ⟨r, hv9, hrB, hbx⟩ := f9
    rw [hv9]
    have DB0 := Lib.hid (show DpAt W r (rdD xs z448 0) from ⟨by rw [← HRD.out, ← HV.out]; exact hbx, by rw [← HRD.out]; exact HOKh.out⟩)
    have BW := Lib.hid hbW
    have HRB := Lib.hid hrB
    clear f8 hbW hbx hv9 hrB HV HOKh
    obtain ⟨w1, rfl⟩ : ∃ w1, w1 = W := ⟨W, rfl⟩
    go_wp2
    go_loopw [5, 6] (fun zv iv wr => ∃ (i : Nat) (zb : Bool), i ≤ 448 ∧ iv = .int .i64 i ∧ zv = .bool zb ∧ Hid (zb = true ↔ ∀ t, t < i → xs.getD t 0 = 0) ∧ Hid (w1 = wr)) (fun _ iv _ => 448 - (intOf iv).toNat)
    case atStart => exact ⟨0, true, by omega, rfl, rfl, Lib.hid ⟨fun _ t ht => by omega, fun _ => rfl⟩, Lib.hid rfl⟩
    case round =>
      obtain ⟨i, zb, hi, rfl, rfl, HZB, HW⟩ := hrel
      obtain rfl := HW.out
      by_cases hlt : i < 448
      · have kc := ir_cells (HR.out.below BW.out) i hlt
        obtain ⟨z, hz⟩ : ∃ z, z = xs.getD i 0 := ⟨_, rfl⟩
        rw [← hz] at kc
        have HZE := Lib.hid hz
        have hi4 : (i : Int) < 448 := by omega
        obtain ⟨qz, hqz⟩ : ∃ q, (z == 0) = q := ⟨_, rfl⟩
        have HQZ := Lib.hid (show qz = true ↔ z = 0 by rw [← hqz, beq_iff_eq])
        have HLT := Lib.hid hlt
        clear hz hi
        cases zb
        · have H2 := Lib.hid (show false = true ↔ ∀ t, t < i + 1 → xs.getD t 0 = 0 from ⟨fun h => (by cases h), fun h => HZB.out.2 (fun t ht => h t (by omega))⟩)
          go_wp2
          go_roundw
          case rel => exact ⟨i + 1, false, HLT.out, by go_num, rfl, H2, by first | exact Lib.hid rfl | exact Lib.hid trivial⟩
          case measure => have := HLT.out; simp [intOf]; omega
        · have H2 := Lib.hid (show qz = true ↔ ∀ t, t < i + 1 → xs.getD t 0 = 0 from ⟨fun h t ht => by
              rcases Nat.lt_succ_iff_lt_or_eq.mp ht with e | e
              · exact HZB.out.1 rfl t e
              · subst e; rw [← HZE.out]; exact HQZ.out.1 h, fun h => HQZ.out.2 (by rw [HZE.out]; exact h i (by omega))⟩)
          go_wp2
          go_roundw
          case rel => exact ⟨i + 1, qz, HLT.out, by go_num, rfl, H2, by first | exact Lib.hid rfl | exact Lib.hid trivial⟩
          case measure => have := HLT.out; simp [intOf]; omega
      · have hie : i = 448 := by omega
        have HZQ := Lib.hid (show zb = true ↔ xs = z448 from by
          rw [HZB.out, hie]
          constructor
          · intro h
            refine list_getD (by rw [HX.out]; exact List.length_replicate.symm) (fun t ht => ?_)
            rw [h t (by rw [HX.out] at ht; exact ht), z_getD]
          · intro h t _
            rw [h, z_getD])
        have hi4 : ¬ (i : Int) < 448 := by omega
        clear hi hlt HZB HW
        cases zb
        case true =>
          have HO := Lib.hid (show ReadD xs w (.returned (.tuple #[.pointer (some ⟨r, 0, none⟩), .int .i64 0])) w1 from by
            have e := HZQ.out.1 rfl
            refine .inl ⟨r, newP 0, rfl, HRB.out, ⟨newD 0, ?_, sim_new (by decide)⟩, BW.out, .inl ⟨e, rfl⟩⟩
            rw [← HZN.out e, HRD.out]
            exact DB0.out)
          clear HZQ HZN
          go_wp2
          go_ret2
          exact HO.out
        case false =>
          have HNZ := Lib.hid (show xs ≠ z448 from fun e => by have := HZQ.out.2 e; cases this)
          have HSL2 : 12 ≤ c ∧ 14 ≤ c ∧ (12 : Int) ≤ c ∧ (14 : Int) ≤ c ∧ ¬ c = 12 := by have := HCC.out; omega
          obtain ⟨s1, s2, s3, s4, s5⟩ := HSL2
          have wn : IntKind.i64.wrap (cnt xs : Int) = (cnt xs : Int) := IntWalk.i64_in _ (by omega)
          have GG := Lib.hid (HG2.out w1 BW.out)
          clear HZQ HZN
          obtain ⟨n, hn⟩ : ∃ n, n = cnt xs := ⟨_, rfl⟩
          have HN := Lib.hid hn
          rw [← hn] at GG wn hcnt
          clear hn
          go_wp2_with fail
          (with_reducible refine GG.out.mono ?_)
          rintro e w2 ⟨rfl, d, hd⟩
          have B2 := Lib.hid (show Below w.heap.size w w2 by rw [hd]; exact below_drewN BW.out d)
          have D2 := Lib.hid (show DpAt w2 r (rdD xs z448 0) by rw [hd]; exact DB0.out.drewN d)
          clear hd s1 s2 s3 s4 s5 GG hi4
          by_cases h40 : 40 < n
          · have d40 : decide ((40 : Int) < (n : Int)) = true := by simp; omega
            have HO := Lib.hid (read_no B2.out HNZ.out (fun W => by have := W.w0.cnt; have := HN.out; omega))
            clear h40
            go_wp2
            go_ret2
            exact HO.out
          have d40 : decide ((40 : Int) < (n : Int)) = false := by simp; omega
          obtain ⟨UZ, hUZ⟩ : ∃ UZ, UZ = useC z448 := ⟨_, rfl⟩
          have hz : ∀ W : World, (zeroValue 71).run Try.prog W = .ok (.agg UZ) W := fun W => by rw [hUZ]; exact zeroUs W
          obtain ⟨w3, hw3⟩ : ∃ w3, w2.alloc (.cells UZ 71) = w3 := ⟨_, rfl⟩
          obtain ⟨u, hu⟩ : ∃ u, u = w2.heap.size := ⟨_, rfl⟩
          have U3 := Lib.hid (show UsAt w3 u z448 from ⟨by rw [← hw3, hu, hUZ]; exact Box.new _ _ _, List.length_replicate⟩)
          have B3 := Lib.hid (show Below w.heap.size w w3 by rw [← hw3]; exact new_ B2.out _)
          have D3 := Lib.hid (show DpAt w3 r (rdD xs z448 0) by rw [← hw3]; exact D2.out.later (new_ (Below.refl _ _) _))
          have HUR := Lib.hid (show r < u by rw [hu]; exact D2.out.box.lt)
          have HUB := Lib.hid (show w.heap.size ≤ u by rw [hu]; exact B2.out.size)
          clear hUZ D2
          go_upto_region 15 with fail
          try rw [hw3]
          rw [← hu]
          clear hw3 hu hz d40
          have ST := Lib.hid (show ∃ C, DpAt w3 r (rdD xs C 0) ∧ UsAt w3 u C ∧ Lie xs 0 ∧ Cov xs C 0 (off xs 0) from ⟨z448, D3.out, U3.out, Lie.start xs, Cov.start xs⟩)
          clear D3 U3
          have hn40 : n ≤ 40 := by omega
          clear h40 hcnt
          go_wp2
          go_loopw [9, 10, 11, 12] (fun iv _ _ _ wr => ∃ i : Nat, i ≤ n ∧ iv = .int .i64 i ∧ Hid (∃ C, DpAt wr r (rdD xs C i) ∧ UsAt wr u C ∧ Lie xs i ∧ Cov xs C i (off xs i)) ∧ Hid (Below w.heap.size w wr)) (fun iv _ _ _ _ => n - (intOf iv).toNat)
          case atStart => exact ⟨0, Nat.zero_le _, rfl, ST, B3⟩
          case round =>
            obtain ⟨i, hi, rfl, HS, HW⟩ := hrel
            clear ST B3
            by_cases hlt : i < n
            · have hi40 : i < 40 := by omega
              have hi4 : (i : Int) < 40 := by omega
              obtain ⟨a1, ha1⟩ : ∃ a : Nat, a = 16 + 4 * i := ⟨_, rfl⟩
              obtain ⟨a2, ha2⟩ : ∃ a : Nat, a = 18 + 4 * i := ⟨_, rfl⟩
              obtain ⟨a3, ha3⟩ : ∃ a : Nat, a = 20 + 4 * i := ⟨_, rfl⟩
              obtain ⟨F, hF⟩ : ∃ x : Int, x = 4 * (i : Int) := ⟨_, rfl⟩
              have hcc := HCC.out
              obtain ⟨w4, w16, w18, w20⟩ : wrap64 (4 * (i : Int)) = F ∧ wrap64 (16 + F) = (a1 : Int) ∧ wrap64 (18 + F) = (a2 : Int) ∧ wrap64 (20 + F) = (a3 : Int) := ⟨by rw [hF]; exact wrap64_in _ (by omega), by rw [hF, wrap64_in _ (by omega)]; omega, by rw [hF, wrap64_in _ (by omega)]; omega, by rw [hF, wrap64_in _ (by omega)]; omega⟩
              have hgt1 := two_b HBY.out (16 + 4 * i) (by rw [HX.out]; omega)
              have hgt2 := two_b HBY.out (18 + 4 * i) (by rw [HX.out]; omega)
              have G1 := Lib.hid (fun W (hW : Below w.heap.size w W) => NumBytes.get_ref (.slice (some ⟨g, o + a1, none⟩) 2 (c - a1)) ((xs.drop a1).take 2) W w.heap.size ((ir_part HR.out a1 2 (by omega)).below hW) (bytes_seg HBY.out a1 2))
              have G2 := Lib.hid (fun W (hW : Below w.heap.size w W) => NumBytes.get_ref (.slice (some ⟨g, o + a2, none⟩) 2 (c - a2)) ((xs.drop a2).take 2) W w.heap.size ((ir_part HR.out a2 2 (by omega)).below hW) (bytes_seg HBY.out a2 2))
              rw [show NumBytes.getS ((xs.drop a1).take 2) = (off xs i : Int) by rw [ha1]; show gt xs (16 + 4 * i) 2 = _; unfold off; omega] at G1
              rw [show NumBytes.getS ((xs.drop a2).take 2) = (len xs i : Int) by rw [ha2, len_in (by rw [← HN.out]; exact hlt)]; show gt xs (18 + 4 * i) 2 = _; unfold lenR; omega] at G2
              have hO8 := off_le xs HBY.out HX.out i (by omega)
              have hL8 := len_le xs HBY.out HX.out i (by omega)
              obtain ⟨O, hO⟩ : ∃ O, O = off xs i := ⟨_, rfl⟩
              obtain ⟨Lq, hLq⟩ : ∃ L, L = len xs i := ⟨_, rfl⟩
              rw [← hO] at G1 hO8
              rw [← hLq] at G2 hL8
              have wO : IntKind.i64.wrap (O : Int) = (O : Int) := IntWalk.i64_in _ (by omega)
              have wL : IntKind.i64.wrap (Lq : Int) = (Lq : Int) := IntWalk.i64_in _ (by omega)
              have HOL := Lib.hid (And.intro hO hLq)
              have HB8 := Lib.hid (And.intro hO8 hL8)
              obtain ⟨s1, s2, s3, s4, s5, s6⟩ : (a1 : Int) ≤ a2 ∧ (a2 : Int) ≤ c ∧ a2 - a1 = 2 ∧ ¬ c = a1 ∧ a1 ≤ a2 ∧ a2 ≤ c := by omega
              obtain ⟨s7, s8, s9, s10, s11, s12⟩ : (a2 : Int) ≤ a3 ∧ (a3 : Int) ≤ c ∧ a3 - a2 = 2 ∧ ¬ c = a2 ∧ a2 ≤ a3 ∧ a3 ≤ c := by omega
              have HI := Lib.hid (And.intro hlt hi40)
              have GG1 := Lib.hid (G1.out wr HW.out)
              have dn : decide ((i : Int) < (n : Int)) = true := by simp; omega
              have dn' : decide (i < n) = true := by simp; omega
              have hsub1 : 18 + 4 * i - (16 + 4 * i) = 2 := by omega
              have hsub2 : 20 + 4 * i - (18 + 4 * i) = 2 := by omega
              subst ha1 ha2 ha3
              clear hF hcc hgt1 hgt2 hO hLq hO8 hL8 hlt hi G1
              go_wp2_with fail
              try rw [hsub1]
              (with_reducible refine GG1.out.mono ?_)
              rintro e w4' ⟨rfl, d1, hd1⟩
              have B4 := Lib.hid (show Below w.heap.size w w4' by rw [hd1]; exact below_drewN HW.out d1)
              have GG2 := Lib.hid (G2.out w4' B4.out)
              have HD1 := Lib.hid hd1
              clear hd1
              clear GG1 G2
              go_wp2_with fail
              try rw [hsub2]
              (with_reducible refine GG2.out.mono ?_)
              rintro e w5 ⟨rfl, d2, hd2⟩
              obtain ⟨C0, p0, u0, l0, k0⟩ := HS.out
              have P5 := Lib.hid (show DpAt w5 r (rdD xs C0 i) by rw [hd2, HD1.out]; exact (p0.drewN d1).drewN d2)
              have U5 := Lib.hid (show UsAt w5 u C0 by rw [hd2, HD1.out]; exact ⟨(u0.box.drewN d1).drewN d2, u0.len⟩)
              have B5 := Lib.hid (show Below w.heap.size w w5 by rw [hd2]; exact below_drewN B4.out d2)
              have L0 := Lib.hid l0
              have K0 := Lib.hid k0
              clear HD1 hd2 p0 u0 l0 k0 HS GG2 s1 s2 s3 s4 s5 s6 s7 s8 s9 s10 s11 s12 w4 w16 w18 w20 B4 hsub1 hsub2
              have ko := P5.out.o i hi40
              have kf := P5.out.box.frozen (2 + i)
              obtain ⟨w6, hw6⟩ : ∃ w6, w6 = w5.setCell ⟨r, 2 + i, none⟩ (.int .i64 (O : Int)) := ⟨_, rfl⟩
              have P6 := Lib.hid (show DpAt w6 r ((rdD xs C0 i).setO i O) by rw [hw6]; exact P5.out.setO i O hi40 HB8.out.1)
              have F6 := Lib.hid (show Fr (fun x => x = r) w5 w6 by rw [hw6]; exact Fr.setCell (Fr.refl (fun x => x = r) w5) (p := ⟨r, 2 + i, none⟩) (.inl rfl) _)
              go_upto_region 21 with fail
              rw [← hw6]
              clear hw6 ko kf wO wL
              have ko := P6.out.s i hi40
              have kf := P6.out.box.frozen (42 + i)
              obtain ⟨w7, hw7⟩ : ∃ w7, w7 = w6.setCell ⟨r, 42 + i, none⟩ (.int .i64 (Lq : Int)) := ⟨_, rfl⟩
              have P7 := Lib.hid (show DpAt w7 r (rdD xs C0 (i + 1)) by
                rw [hw7, ← rdD_slot, ← HOL.out.1, ← HOL.out.2]
                exact P6.out.setS i Lq hi40 HB8.out.2)
              have F7 := Lib.hid (show Fr (fun x => x = r) w5 w7 by rw [hw7]; exact Fr.setCell F6.out (p := ⟨r, 42 + i, none⟩) (.inl rfl) _)
              have B7 := Lib.hid (show Below w.heap.size w w7 from B5.out.trans (F7.out.to_below (fun x hx => by rw [hx]; exact HRB.out) B5.out.size))
              have U7 := Lib.hid (U5.out.fr F7.out (fun e => by have := HUR.out; omega))
              go_upto_region 22 with fail
              rw [← hw7]
              clear hw7 ko kf P6 F6 P5 U5 F7 B5 hi4
              obtain ⟨T, hT⟩ : ∃ T : Int, T = (O : Int) + (Lq : Int) := ⟨_, rfl⟩
              obtain ⟨qa, hqa⟩ : ∃ q, decide ((64 : Int) < (Lq : Int)) = q := ⟨_, rfl⟩
              have hqa' : decide (64 < Lq) = qa := by rw [← hqa]; exact decide_eq_decide.2 (by omega)
              obtain ⟨qb, hqb⟩ : ∃ q, ((Lq : Int) == 0) = q := ⟨_, rfl⟩
              obtain ⟨qc, hqc⟩ : ∃ q, ((O : Int) != 0) = q := ⟨_, rfl⟩
              obtain ⟨qd, hqd⟩ : ∃ q, decide ((0 : Int) < (Lq : Int)) = q := ⟨_, rfl⟩
              have hqd' : decide (0 < Lq) = qd := by rw [← hqd]; exact decide_eq_decide.2 (by omega)
              obtain ⟨qe, hqe⟩ : ∃ q, decide ((O : Int) < 16 + 4 * (n : Int)) = q := ⟨_, rfl⟩
              obtain ⟨qf, hqf⟩ : ∃ q, decide ((448 : Int) < T) = q := ⟨_, rfl⟩
              have HM := Lib.hid (show (qa = true ↔ 64 < Lq) ∧ (qb = true ↔ Lq = 0) ∧ (qc = true ↔ O ≠ 0) ∧ (qd = true ↔ 0 < Lq) ∧ (qe = true ↔ O < 16 + 4 * cnt xs) ∧ (qf = true ↔ 448 < O + Lq) from by
                rw [← hqa', ← hqb, ← hqc, ← hqd', ← hqe, ← hqf, hT, ← HN.out]
                simp
                omega)
              have wT1 : wrap64 ((O : Int) + (Lq : Int)) = T := by rw [hT]; exact wrap64_in _ (by have := HB8.out; omega)
              have NO := Lib.hid (show ¬ ((Lq = 0 ∧ O = 0) ∨ (Lq ≠ 0 ∧ Lq ≤ 64 ∧ 16 + 4 * cnt xs ≤ O ∧ O + Lq ≤ 448)) → ReadD xs w (.returned (.tuple #[.pointer none, .int .i64 90])) w7 from fun h => read_no B7.out HNZ.out (not_slot (s := i) (by rw [← HN.out]; exact HI.out.1) (by rw [← HOL.out.1, ← HOL.out.2]; exact h)))
              obtain ⟨bad, hbad⟩ : ∃ q, q = (qa || qb && qc || qd && (qe || qf)) := ⟨_, rfl⟩
              have HBD := Lib.hid hbad
              have HT := Lib.hid hT
              clear hT hbad
              go_cut [109] (fun v wx => v = .bool bad ∧ w7 = wx)
              case first =>
                cases qa
                · cases qb
                  · cases qd
                    · go_wp2
                      go_meet
                      exact ⟨by rw [HBD.out]; rfl, rfl⟩
                    · cases qe
                      · go_wp2
                        go_meet
                        exact ⟨by rw [HBD.out]; simp, rfl⟩
                      · go_wp2
                        go_meet
                        exact ⟨by rw [HBD.out]; rfl, rfl⟩
                  · cases qc
                    · cases qd
                      · go_wp2
                        go_meet
                        exact ⟨by rw [HBD.out]; rfl, rfl⟩
                      · exact absurd (HM.out.2.1.1 rfl) (by have := HM.out.2.2.2.1.1 rfl; omega)
                    · go_wp2
                      go_meet
                      exact ⟨by rw [HBD.out]; rfl, rfl⟩
                · go_wp2
                  go_meet
                  exact ⟨by rw [HBD.out]; rfl, rfl⟩
              case rest =>
              obtain ⟨rfl, rfl⟩ := hcut
              clear wT1
              have HML := Lib.hid (show bad = false ↔ ((Lq = 0 ∧ O = 0) ∨ (Lq ≠ 0 ∧ Lq ≤ 64 ∧ 16 + 4 * cnt xs ≤ O ∧ O + Lq ≤ 448)) from by
                rw [HBD.out]
                have := HM.out
                cases qa <;> cases qb <;> cases qc <;> cases qd <;> cases qe <;> cases qf <;> simp at this ⊢ <;> omega)
              clear hqa hqa' hqb hqc hqd hqd' hqe hqf HBD HM
              cases bad
              case true =>
                have N9 := Lib.hid (NO.out (fun h => by have := HML.out.2 h; cases this))
                clear NO HML
                go_wp2
                go_ret2
                exact N9.out
              case false =>
              have HFT := Lib.hid (HML.out.1 rfl)
              clear NO HML
              have CI := Lib.hid (show ∃ C, DpAt w7 r (rdD xs C (i + 1)) ∧ UsAt w7 u C ∧ Cov xs C i O ∧ ∀ j, O ≤ j → j < O → ∀ t, t < i → j < off xs t ∨ off xs t + len xs t ≤ j from ⟨C0, P7.out, U7.out, by rw [HOL.out.1]; exact K0.out, fun j h1 h2 => by omega⟩)
              have wT1 : wrap64 ((O : Int) + (Lq : Int)) = T := by rw [HT.out]; exact wrap64_in _ (by have := HB8.out; omega)
              clear P7 U7 K0
              obtain ⟨wo, rfl⟩ : ∃ wo, wo = wr := ⟨wr, rfl⟩
              go_wp2
              go_loopw [12] (fun kv ws => ∃ k : Nat, O ≤ k ∧ k ≤ O + Lq ∧ kv = .int .i64 k ∧ Hid (∃ C, DpAt ws r (rdD xs C (i + 1)) ∧ UsAt ws u C ∧ Cov xs C i k ∧ ∀ j, O ≤ j → j < k → ∀ t, t < i → j < off xs t ∨ off xs t + len xs t ≤ j) ∧ Hid (Below w.heap.size w ws)) (fun kv _ => O + Lq - (intOf kv).toNat)
              case atStart => exact ⟨O, Nat.le_refl _, by omega, rfl, CI, B7⟩
              case round =>
                obtain ⟨k, hk0, hk, rfl, HK, HBK⟩ := hrel
                clear CI
                obtain ⟨ws0, rfl⟩ : ∃ ws0, ws0 = wr := ⟨wr, rfl⟩
                by_cases hlk : k < O + Lq
                · have HK8 := Lib.hid (show k < 448 by have := HFT.out; omega)
                  have dk : decide ((k : Int) < T) = true := by rw [HT.out]; simp; omega
                  obtain ⟨C, p1', u1, k1, n1⟩ := HK.out
                  have kc := u1.cell k HK8.out
                  have kf := u1.box.frozen k
                  obtain ⟨qu, hqu⟩ : ∃ q, q = decide (C.getD k 0 ≠ 0) := ⟨_, rfl⟩
                  rw [← hqu] at kc
                  have k448 : (k : Int) < 448 := by have := HK8.out; omega
                  have NO := Lib.hid (show C.getD k 0 ≠ 0 → ReadD xs w (.returned (.tuple #[.pointer none, .int .i64 90])) ws0 from fun h => read_no HBK.out HNZ.out (not_apart (s := i) (by rw [← HN.out]; exact HI.out.1) k1 (by rw [← HOL.out.1, ← HOL.out.2]; omega) h))
                  have HQU := Lib.hid (show qu = true ↔ C.getD k 0 ≠ 0 by rw [hqu, decide_eq_true_iff])
                  have HKK := Lib.hid (And.intro hk0 hlk)
                  have PP := Lib.hid p1'
                  have UU := Lib.hid u1
                  have KK := Lib.hid k1
                  have NN := Lib.hid n1
                  clear p1' u1 k1 n1 hqu hk0 hk hlk HK
                  cases qu
                  case true =>
                    have N9 := Lib.hid (NO.out (HQU.out.1 rfl))
                    clear NO HQU
                    go_wp2
                    go_ret2
                    exact N9.out
                  case false =>
                    have HC0 := Lib.hid (show C.getD k 0 = 0 from by
                      rcases KK.out.bit k with h | h
                      · exact h
                      · have := HQU.out.2 (by rw [h]; decide); cases this)
                    clear NO HQU
                    obtain ⟨ws, hws⟩ : ∃ ws, ws = ws0.setCell ⟨u, k, none⟩ (.bool true) := ⟨_, rfl⟩
                    have U9 := Lib.hid (show UsAt ws u (C.set k 1) by rw [hws]; exact UU.out.set_ k)
                    have B9 := Lib.hid (show Below w.heap.size w ws by rw [hws]; exact HBK.out.setCell (p := ⟨u, k, none⟩) HUB.out (.bool true))
                    obtain ⟨p1, hp1⟩ : ∃ p1, p1 = rdD xs C (i + 1) := ⟨_, rfl⟩
                    have DB := Lib.hid (show DpAt ws r p1 by rw [hws, hp1]; exact ⟨PP.out.box.far (p := ⟨u, k, none⟩) (show ¬ r = u by have := HUR.out; omega) _, PP.out.ok⟩)
                    have HGL := Lib.hid (show g < ws.heap.size from Nat.lt_of_lt_of_le HGB.out B9.out.size)
                    obtain ⟨ch, hch⟩ : ∃ ch, ch = xs.getD k 0 := ⟨_, rfl⟩
                    have KC := Lib.hid (show ws.cell? ⟨g, o + k, none⟩ = some (.int .u8 ch) by rw [hch]; exact ir_cells (HR.out.below B9.out) k HK8.out)
                    have HC8 := Lib.hid (show 0 ≤ ch ∧ ch ≤ 255 by rw [hch]; exact HBY.out.at_ k)
                    have HNX := Lib.hid (show p1.setB k ch = rdD xs (C.set k 1) (i + 1) by rw [hp1, hch]; exact rdD_byte xs C (i + 1) k (by rw [KK.out.len]; exact HK8.out))
                    go_upto_region 30 with fail
                    rw [← hws]
                    clear hws hp1 hch kc kf dk PP UU
                    refine wp_region_end (by kernel_rfl) (by kernel_rfl) 9 (fun W W' => Fr (fun x => x = r) W W') (fun W => DpAt W r (p1.setB k ch) ∧ Fr (fun x => x = r) ws W) [(fun v _ => v = .pointer (some ⟨r, 0, none⟩)), (fun v _ => v = .int .i64 k), (fun v _ => v = .slice (some ⟨g, o, none⟩) 448 c), (fun v _ => v = .int .i64 k), (fun v _ => v = .pointer (some ⟨g, o + k, none⟩)), (fun v _ => v = .int .u8 ch), (fun v _ => v = .pointer (some ⟨r, 0, none⟩)), (fun v _ => v = .pointer (some ⟨r, 82, none⟩)), (fun v _ => v = .pointer (some ⟨r, 82 + k, none⟩)), (fun v _ => v = undef)] (fun W W' hb h => ⟨h.1.later hb, h.2.below hb⟩) ?_ (fun vals => ?_) (fun vals W hfin hall => ?_) (by decide)
                    · intro j v W W' hj hr h
                      match j, hj, h with
                      | 0, _, h => exact h
                      | 1, _, h => exact h
                      | 2, _, h => exact h
                      | 3, _, h => exact h
                      | 4, _, h => exact h
                      | 5, _, h => exact h
                      | 6, _, h => exact h
                      | 7, _, h => exact h
                      | 8, _, h => exact h
                      | 9, hj, _ => exact absurd rfl hj
                      | _ + 10, _, _ => trivial
                    · simp only [ObL, Act.put, List.setIfInBounds_toArray, List.set_cons_succ, List.set_cons_zero]
                      refine ⟨?_, ?_, ?_, ?_, ?_, ?_, ?_, ?_, ?_, ?_, trivial⟩
                      · intro L W hL hk hC hw
                        clear hw
                        clear hL hC hk
                        refine step_plain rfl ?_
                        go_simp
                        first | exact ⟨Re.same (by decide), Fe.val (by decide) rfl rfl⟩ | exact ⟨_, rfl, Re.same (by decide), Fe.val (by decide) rfl rfl⟩
                      · intro L W hL hk hC hw
                        clear hw
                        clear hL hC hk
                        refine step_plain rfl ?_
                        go_simp
                        first | exact ⟨Re.same (by decide), Fe.val (by decide) rfl rfl⟩ | exact ⟨_, rfl, Re.same (by decide), Fe.val (by decide) rfl rfl⟩
                      · intro L W hL hk hC hw
                        clear hw
                        clear hL hC hk
                        refine step_plain rfl ?_
                        go_simp
                        first | exact ⟨Re.same (by decide), Fe.val (by decide) rfl rfl⟩ | exact ⟨_, rfl, Re.same (by decide), Fe.val (by decide) rfl rfl⟩
                      · intro L W hL hk hC hw
                        clear hw
                        clear hL hC hk
                        refine step_plain rfl ?_
                        go_simp
                        first | exact ⟨Re.same (by decide), Fe.val (by decide) rfl rfl⟩ | exact ⟨_, rfl, Re.same (by decide), Fe.val (by decide) rfl rfl⟩
                      · intro L W hL hk hC hw
                        have f2 : vals 2 = .slice (some ⟨g, o, none⟩) 448 c := Fe.get (hw ⟨2, .data⟩ (by simp) rfl) (by decide)
                        have f3 : vals 3 = .int .i64 k := Fe.get (hw ⟨3, .data⟩ (by simp) rfl) (by decide)
                        clear hw
                        have h1 : k < 448 := HK8.out
                        have h2 : (k : Int) < 448 := by have := HK8.out; omega
                        clear hL hC hk
                        refine step_plain rfl ?_
                        go_simp
                        first | exact ⟨Re.same (by decide), Fe.val (by decide) rfl rfl⟩ | exact ⟨_, rfl, Re.same (by decide), Fe.val (by decide) rfl rfl⟩
                      · intro L W hL hk hC hw
                        have f4 : vals 4 = .pointer (some ⟨g, o + k, none⟩) := Fe.get (hw ⟨4, .data⟩ (by simp) rfl) (by decide)
                        clear hw
                        have hb := hC (hL.not_yet hk 9 8 (by decide +kernel))
                        have kc : W.cell? ⟨g, o + k, none⟩ = some (.int .u8 ch) := (hb.cell HGL.out).trans KC.out
                        clear hL hC hk hb
                        refine step_plain rfl ?_
                        go_simp
                        first | exact ⟨Re.same (by decide), Fe.val (by decide) rfl rfl⟩ | exact ⟨_, rfl, Re.same (by decide), Fe.val (by decide) rfl rfl⟩
                      · intro L W hL hk hC hw
                        have f0 : vals 0 = .pointer (some ⟨r, 0, none⟩) := Fe.get (hw ⟨0, .data⟩ (by simp) rfl) (by decide)
                        clear hw
                        clear hL hC hk
                        refine step_plain rfl ?_
                        go_simp
                        first | exact ⟨Re.same (by decide), Fe.val (by decide) rfl rfl⟩ | exact ⟨_, rfl, Re.same (by decide), Fe.val (by decide) rfl rfl⟩
                      · intro L W hL hk hC hw
                        have f6 : vals 6 = .pointer (some ⟨r, 0, none⟩) := Fe.get (hw ⟨6, .data⟩ (by simp) rfl) (by decide)
                        clear hw
                        clear hL hC hk
                        refine step_plain rfl ?_
                        go_simp
                        first | exact ⟨Re.same (by decide), Fe.val (by decide) rfl rfl⟩ | exact ⟨_, rfl, Re.same (by decide), Fe.val (by decide) rfl rfl⟩
                      · intro L W hL hk hC hw
                        have f7 : vals 7 = .pointer (some ⟨r, 82, none⟩) := Fe.get (hw ⟨7, .data⟩ (by simp) rfl) (by decide)
                        have f1 : vals 1 = .int .i64 k := Fe.get (hw ⟨1, .data⟩ (by simp) rfl) (by decide)
                        clear hw
                        have h1 : (k : Int) < 448 := by have := HK8.out; omega
                        clear hL hC hk
                        refine step_plain rfl ?_
                        go_simp
                        first | exact ⟨Re.same (by decide), Fe.val (by decide) rfl rfl⟩ | exact ⟨_, rfl, Re.same (by decide), Fe.val (by decide) rfl rfl⟩
                      · intro L W hL hk hC hw
                        have f8 : vals 8 = .pointer (some ⟨r, 82 + k, none⟩) := Fe.get (hw ⟨8, .data⟩ (by simp) rfl) (by decide)
                        have f5 : vals 5 = .int .u8 ch := Fe.get (hw ⟨5, .data⟩ (by simp) rfl) (by decide)
                        clear hw
                        have hb := hC hk
                        have dg := DB.out.later hb
                        have kc := dg.bb k HK8.out
                        have kf := dg.box.frozen (82 + k)
                        have Z1 := Lib.hid (dg.setB k ch HK8.out HC8.out)
                        have Z2 := Lib.hid (Fr.setCell (Fr.refl (fun x => x = r) W) (p := ⟨r, 82 + k, none⟩) (.inl rfl) (.int .u8 ch))
                        have Z3 := Lib.hid ((Fr.of_below (S := fun x => x = r) hb).trans Z2.out)
                        clear hL hC hk hb dg
                        refine step_plain rfl ?_
                        go_simp
                        first | exact ⟨_, rfl, Re.last Z2.out, Fe.last ⟨Z1.out, Z3.out⟩⟩ | exact ⟨Re.last Z2.out, Fe.last ⟨Z1.out, Z3.out⟩⟩ | exact ⟨Re.last Z2.out, undef, Fe.last ⟨Z1.out, Z3.out⟩⟩ | exact ⟨Re.last Z2.out, _, Fe.last ⟨Z1.out, Z3.out⟩⟩
                    · simp only [TL, Act.put, List.setIfInBounds_toArray, List.set_cons_succ, List.set_cons_zero]
                      obtain ⟨hD9, hF9⟩ := hfin
                      rw [HNX.out] at hD9
                      have R9 := Lib.hid (show ∃ C, DpAt W r (rdD xs C (i + 1)) ∧ UsAt W u C ∧ Cov xs C i (k + 1) ∧ ∀ j, O ≤ j → j < k + 1 → ∀ t, t < i → j < off xs t ∨ off xs t + len xs t ≤ j from by
                        refine ⟨C.set k 1, hD9, U9.out.fr hF9 (fun e => by have := HUR.out; omega), KK.out.step (by rw [← HOL.out.1]; exact HKK.out.1) HK8.out HC0.out, fun j h1 h2 t ht => ?_⟩
                        rcases Nat.lt_succ_iff_lt_or_eq.mp h2 with h3 | h3
                        · exact NN.out j h1 h3 t ht
                        · subst h3
                          rcases Nat.lt_or_ge j (off xs t) with h4 | h4
                          · exact .inl h4
                          · rcases Nat.lt_or_ge j (off xs t + len xs t) with h5 | h5
                            · exact absurd HC0.out ((KK.out.hit j).2 (.inl ⟨t, ht, h4, h5⟩))
                            · exact .inr h5)
                      have BB := Lib.hid (show Below w.heap.size w W from B9.out.trans (hF9.to_below (fun x hx => by rw [hx]; exact HRB.out) B9.out.size))
                      clear hall hD9 hF9
                      have hk9 : k < 448 := HK8.out
                      go_wp2
                      go_roundw
                      case rel => exact ⟨k + 1, by have := HKK.out; omega, by have := HKK.out; omega, by go_num, R9, BB⟩
                      case measure => have := HKK.out; simp [intOf]; omega
                · have dk : decide ((k : Int) < T) = false := by rw [HT.out]; simp; omega
                  have hke : k = O + Lq := by omega
                  have R9 := Lib.hid (show ∃ C, DpAt ws0 r (rdD xs C (i + 1)) ∧ UsAt ws0 u C ∧ Lie xs (i + 1) ∧ Cov xs C (i + 1) (off xs (i + 1)) from by
                    obtain ⟨C, p1', u1, k1, n1⟩ := HK.out
                    rw [hke] at k1 n1
                    refine ⟨C, p1', u1, ?_, Cov.next (by rw [← HOL.out.1, ← HOL.out.2]; exact k1)⟩
                    rcases HFT.out with h | h
                    · exact L0.out.none (by rw [← HOL.out.2]; exact h.1) (by rw [← HOL.out.1]; exact h.2)
                    · exact L0.out.some (by rw [← HOL.out.2]; exact h.1) (by rw [← HOL.out.1, ← HOL.out.2]; exact h.2) (by rw [← HOL.out.1, ← HOL.out.2]; exact n1))
                  have hi9 : i < 40 := HI.out.2
                  clear hke hk0 hk hlk HK
                  go_wp2
                  go_roundw
                  case rel => exact ⟨i + 1, by have := HI.out.1; omega, by go_num, R9, HBK⟩
                  case measure => have := HI.out.1; simp [intOf]; omega
            · have hie : i = n := by omega
              subst hie
              obtain ⟨C, p1, u1, l1, k1⟩ := HS.out
              have RB := Lib.hid (rbytes wr r _ p1)
              have HIF := Lib.hid (show bytesD (rdD xs C i) = xs ↔ Wf xs from by
                have h9 := HN.out
                subst h9
                exact rd_iff HX.out HBY.out hn40 l1 k1)
              have HXB := Lib.hid (bytesD_bytes p1.ok)
              have PD := Lib.hid (show Wf xs → ∃ p, p = rdD xs C i ∧ Sim xs p from fun W => ⟨_, rfl, by
                have h9 := HN.out
                subst h9
                exact rd_sim W k1⟩)
              have PP := Lib.hid p1
              have dn : decide ((i : Int) < (i : Int)) = false := by simp
              obtain ⟨X, hX⟩ : ∃ X, X = bytesD (rdD xs C i) := ⟨_, rfl⟩
              have HXL := Lib.hid (show X.length = 448 by rw [hX]; exact bytesD_len _)
              rw [← hX] at RB HIF HXB
              clear p1 u1 l1 k1 HS hX hi hlt
              go_wp2_with fail
              (with_reducible refine RB.out.mono ?_)
              rintro e w8 ⟨ux, rfl, ox, bx⟩
              obtain ⟨AX, cX, eX⟩ := own_slice' ox
              subst eX
              have B8 := Lib.hid (step_ HW.out bx)
              have P8 := Lib.hid (PP.out.later bx)
              have hIX := IR.of_own ox
              have t1 := hIX.text (P := Try.prog) (dst := 9) Try.underlying31 Try.underlying5 Try.underlying9
              have t2 := (HR.out.below B8.out).text (P := Try.prog) (dst := 9) Try.underlying31 Try.underlying5 Try.underlying9
              have se := str_eq HXB.out HBY.out
              clear ox bx hIX
              by_cases e : X = xs
              · rw [decide_eq_true e] at se
                have HO := Lib.hid (show ReadD xs w (.returned (.tuple #[.pointer (some ⟨r, 0, none⟩), .int .i64 0])) w8 from by
                  have W := HIF.out.1 e
                  obtain ⟨p, hp, hs⟩ := PD.out W
                  exact .inl ⟨r, xs, rfl, HRB.out, ⟨p, by rw [hp]; exact P8.out, hs⟩, B8.out, .inr ⟨HNZ.out, W, rfl⟩⟩)
                clear e
                go_wp2
                go_ret2
                exact HO.out
              · rw [decide_eq_false e] at se
                have HO := Lib.hid (read_no B8.out HNZ.out (fun W => e (HIF.out.2 W)))
                clear e
                go_wp2
                go_ret2
                exact HO.out
end Go.Proofs.Ythbbnebanmpcjaa.Pg
