/- The law manciplelaw21.RuleBounds returns true whatever it is called with, and what it was called with reads as it did. No condition. -/
import Derived.Test.YtneaehimdmachaaLaw
import Derived.Test.YtneaehimdmachaaRmM
import Derived.Test.YtneaehimdmachaaRm7
import Derived.Deep.DeepCutAuto
namespace Go.Proofs.Ytneaehimdmachaa.LRuleBounds
open Go.ChangeShapes Go.WideShapes Go.ChangeAt Go.RowKit Go.IntWalk Go.Proofs.Mem Law
set_option linter.unusedVariables false
set_option linter.unusedSimpArgs false
open Go.Proofs.Ytneaehimdmachaa.Rule
/-- the value's first number, cut -/
def cutA (c : Ce) : Ce := ⟨c.k, c.a, c.b, c.A.tmod 4611686018427387905, c.B, c.is⟩
theorem cutA_ok {c : Ce} (h : c.Ok) : (cutA c).Ok ∧ (cutA c).A ≤ 4611686018427387904 := by
  obtain ⟨⟨h1, h2⟩, h3⟩ := h
  have e : c.A.tmod 4611686018427387905 = c.A % 4611686018427387905 := Int.tmod_eq_emod_of_nonneg h1
  refine ⟨⟨⟨?_, ?_⟩, h3⟩, ?_⟩ <;> dsimp only [cutA] <;> rw [e] <;> omega
theorem take_cut {l : List Ce} {k : Nat} {x : Ce} (h : l[k]? = some x) : (l.take (k + 1)).map cutA = (l.take k).map cutA ++ [cutA x] := by
  rw [List.take_add_one, h, List.map_append]; rfl
theorem box_new2 (w : World) (C D : Array Value) (t u : TypeId) : Box ((w.alloc (.cells C t)).alloc (.cells D u)) (w.heap.size + 1) D u := by
  have := Box.new (w.alloc (.cells C t)) D u
  rwa [World.size_alloc] at this
/-- what has been copied so far -/
structure OB (w : World) (q : Ot) (v : Value) (l : List Ce) (W : World) : Prop where
  bel : Below w.heap.size w W
  op : Box W w.heap.size #[.int .u8 q.kd, .int .u32 q.wh, .int .u32 q.wm, .int .u32 q.wt, .int .u32 q.id, .int .u64 q.n, .int .u64 q.pr] 32
  own : W.ownsRow (w.heap.size + 1) 49 6 v l.length (l.flatMap Ce.cells)
theorem OB.later {w W W' : World} {q : Ot} {v : Value} {l : List Ce} (h : OB w q v l W) (hb : Below W.heap.size W W') : OB w q v l W' := ⟨h.bel.trans (hb.mono h.bel.size), h.op.later hb, own_below h.own hb⟩
theorem OB.push {w W W1 W' : World} {q : Ot} {v v' : Value} {l : List Ce} {c : Ce} (h : OB w q v l W) (hb : Below W.heap.size W W1) (t : RowTo W1 W' v v') (ho : W'.ownsRow (w.heap.size + 1) 49 6 v' (l ++ [c]).length ((l ++ [c]).flatMap Ce.cells)) : OB w q v' (l ++ [c]) W' := by
  have h1 := h.later hb
  have vb : ∀ x, v.ownBlock = some x → w.heap.size + 1 ≤ x := fun x e => (h.own.lt x e).1
  exact ⟨h1.bel.trans (t.below (B := w.heap.size) (fun x e => by have := vb x e; omega) h1.bel.size), t.box h1.op (fun e => by have := vb _ e; omega), ho⟩
set_option maxRecDepth 100000 in
set_option maxHeartbeats 8000000 in
theorem walk (w : World) (op : Rule.Ot) (hop : op.Ok) (values : Value) (xvalues : List Rule.Ce) (hvalues : SS Rule.Ce.cells 6 w w.heap.size values xvalues) (bvalues : ∀ o ∈ xvalues, Rule.Ce.Ok o) :
    Calls Try.prog 5 #[.agg (Rule.Ot.cells op), values] w fun e w' => e = .returned (.bool true) ∧ Below w.heap.size w w' := by
  have OKS := Lib.hid bvalues
  have HQ := Lib.hid hop
  have LOOK := Lib.hid (fun (W : World) (val : Value) (vals : List Ce) (hv : SeenAt W W.heap.size val vals) (hok : ∀ c ∈ vals, c.Ok ∧ c.A ≤ 4611686018427387904) (h40 : vals.length ≤ 40) => show Calls Try.prog 26 #[.agg #[.int .u8 op.kd, .int .u32 op.wh, .int .u32 op.wm, .int .u32 op.wt, .int .u32 op.id, .int .u64 op.n, .int .u64 op.pr], val] W fun e w' => ∃ kv sv ks seen, e = .returned (.tuple #[kv, sv, .bool true]) ∧ LS W op ks seen kv sv 4611686018427387904 w' ∧ ∀ k a b, opR op seen ≠ .miss k a b from look_law W op hop val vals _ (by decide) hv hok h40)
  have DO := Lib.hid (fun (W : World) (A : Option Addr) (l c : Nat) (seen : List Ce) (hs : SeenAt W W.heap.size (.slice A l c) seen) (hok : ∀ c ∈ seen, c.Ok) => show Calls Try.prog 27 #[.agg #[.int .u8 op.kd, .int .u32 op.wh, .int .u32 op.wm, .int .u32 op.wt, .int .u32 op.id, .int .u64 op.n, .int .u64 op.pr], .slice A l c] W fun en w' => ∃ A' l' c', en = .returned (.tuple #[.slice A' l' c', .agg #[.int .u16 (dOut (opR op seen)).2.1, .int .u64 (dOut (opR op seen)).2.2.A, .int .u64 (dOut (opR op seen)).2.2.B, .int .u64 (dOut (opR op seen)).2.2.C]]) ∧ w'.ownsRow W.heap.size 51 6 (.slice A' l' c') (dOut (opR op seen)).1.length (putCells (dOut (opR op seen)).1) ∧ Below W.heap.size W w' from do_op op hop W A l c seen hs hok)
  obtain ⟨A, c, rfl, hlc, hcm⟩ := hvalues.form
  obtain ⟨ic, hc0, hc1, hc2, hc3⟩ := info_parts cell_info
  have HV := Lib.hid hvalues
  unfold maxLen at hcm
  unfold Ot.cells
  have B0 := Lib.hid (Box.new w #[.int .u8 op.kd, .int .u32 op.wh, .int .u32 op.wm, .int .u32 op.wt, .int .u32 op.id, .int .u64 op.n, .int .u64 op.pr] 32)
  clear hop bvalues hvalues
  by_cases hl : 40 < xvalues.length
  · have d1 : decide (40 < (xvalues.length : Int)) = true := decide_eq_true (by omega)
    have d1' : decide (40 < xvalues.length) = true := decide_eq_true hl
    go_enter Try.func5, Try.ntmps5
    go_wp2_with (go_at_call 23; (with_reducible refine (known_any _).mono ?_); rintro e w1 ⟨rfl, hb1⟩)
    go_ret
    exact ⟨rfl, step_ (new_ (Below.refl _ _) _) hb1⟩
  · have d1 : decide (40 < (xvalues.length : Int)) = false := decide_eq_false (by omega)
    have d1' : decide (40 < xvalues.length) = false := decide_eq_false hl
    go_enter Try.func5, Try.ntmps5
    go_wp2_with (go_at_call 23; (with_reducible refine (known_any _).mono ?_); rintro e w1 ⟨rfl, hb1⟩; have O1 := Lib.hid (show OB w op (.slice none 0 0) [] w1 from ⟨step_ (new_ (Below.refl _ _) _) hb1, B0.out.later hb1, World.ownsRow_nil _ _ _ _⟩); clear hb1)
    clear d1 d1'
    go_loopw [5, 6] (fun v i wr => ∃ k : Nat, k ≤ xvalues.length ∧ i = .int .i64 k ∧ Hid (OB w op v ((xvalues.take k).map cutA) wr)) (fun _ i _ => xvalues.length - (intOf i).toNat)
    case atStart => exact ⟨0, by omega, rfl, O1⟩
    case round =>
      clear O1
      obtain ⟨k, hk, rfl, HO⟩ := hrel
      by_cases hlt : k < xvalues.length
      · have d2 : decide ((k : Int) < (xvalues.length : Int)) = true := by simp; omega
        have d3 : decide (k < xvalues.length) = true := by simp; omega
        obtain ⟨x, hx⟩ : ∃ x, xvalues[k]? = some x := ⟨_, List.getElem?_eq_getElem hlt⟩
        obtain ⟨b0, off, rfl, hb0, hvc⟩ := HV.out.at_ hx
        have vc := fun t u (hu : x.cells[t]? = some u) => (HO.out.bel.cell (p := ⟨b0, off + k * 6 + t, none⟩) hb0).trans (hvc t u hu)
        have v0 : wr.cell? ⟨b0, off + k * 6, none⟩ = some (.int .u8 x.k) := vc 0 _ rfl
        have v1 : wr.cell? ⟨b0, off + k * 6 + 1, none⟩ = some (.int .u32 x.a) := vc 1 _ rfl
        have v2 : wr.cell? ⟨b0, off + k * 6 + 2, none⟩ = some (.int .u32 x.b) := vc 2 _ rfl
        have v3 : wr.cell? ⟨b0, off + k * 6 + 3, none⟩ = some (.int .u64 x.A) := vc 3 _ rfl
        have v4 : wr.cell? ⟨b0, off + k * 6 + 4, none⟩ = some (.int .u64 x.B) := vc 4 _ rfl
        have v5 : wr.cell? ⟨b0, off + k * 6 + 5, none⟩ = some (.bool x.is) := vc 5 _ rfl
        clear vc hvc
        have XOK := Lib.hid (OKS.out x (List.mem_of_getElem? hx))
        have HX := Lib.hid hx
        clear hx
        go_upto_region 9 with fail
        have HLN := Lib.hid (show ((xvalues.take k).map cutA).length = k by rw [List.length_map, List.length_take]; omega)
        have ZL := HO.out.op.lt
        go_wp2_with (at_builtin; refine wpList_push_ss (F := Ce.cells) (sz := 6) _ rfl _ _ _ rfl (w.heap.size + 1) 49 ic _ 40 Try.underlying33 hc0 hc1 hc2 hc3 rfl (by decide) Ce.cells_len Ce.cells_one _ ((xvalues.take k).map cutA) rfl (own_below HO.out.own (new_ (new_ (Below.refl _ _) (.cells #[.int .u8 x.k, .int .u32 x.a, .int .u32 x.b, .int .u64 (x.A.tmod 4611686018427387905), .int .u64 x.B, .bool x.is] 49)) (.cells #[.int .u8 x.k, .int .u32 x.a, .int .u32 x.b, .int .u64 (x.A.tmod 4611686018427387905), .int .u64 x.B, .bool x.is] 49))) (wr.heap.size + 1) (cutA x) 49 rfl (box_new2 _ _ _ _ _) (by have := HLN.out; unfold maxLen; omega) (by have := HLN.out; omega) (by simp; omega) ?_; intro v9 w9 hown ht)
        exact ⟨⟨k + 1, by omega, rfl, Lib.hid (by rw [take_cut HX.out]; exact HO.out.push (new_ (new_ (Below.refl _ _) _) _) ht hown)⟩, by simp [intOf]; omega⟩
      · have d2 : decide ((k : Int) < (xvalues.length : Int)) = false := by simp; omega
        have d3 : decide (k < xvalues.length) = false := by simp; omega
        have hL : ∀ c ∈ (xvalues.take k).map cutA, c.Ok ∧ c.A ≤ 4611686018427387904 := fun c hc => by
          obtain ⟨x, hx, rfl⟩ := List.mem_map.1 hc
          exact cutA_ok (OKS.out x (List.mem_of_mem_take hx))
        have hLn : ((xvalues.take k).map cutA).length ≤ 40 := by rw [List.length_map, List.length_take]; omega
        obtain ⟨L, hLL⟩ : ∃ L, (xvalues.take k).map cutA = L := ⟨_, rfl⟩
        rw [hLL] at HO hL hLn
        obtain ⟨A1, c1, rfl, h5, h6⟩ := (SS.of_own Ce.cells_len HO.out.own).form
        have LK := Lib.hid (LOOK.out wr _ L (SS.of_own Ce.cells_len HO.out.own) hL hLn)
        have yc := HO.out.op.cell
        clear hLL hL hLn
        go_wp2_with (first
          | (go_at_call 26; (with_reducible refine LK.out.mono ?_); rintro e w2 ⟨kv, sv, ks, seen, rfl, hls, hno⟩
             obtain ⟨A2, c2, rfl, h7, h8⟩ := (SS.of_own Ce.cells_len hls.sr).form
             have DOX := Lib.hid (DO.out w2 A2 seen.length c2 seen (SS.of_own Ce.cells_len hls.sr) (fun c hc => (hls.ok c hc).1))
             have GOOD := Lib.hid (opR_good (q := op) HQ.out (seen := seen) (fun c hc => ⟨(hls.ok c hc).1.A.1, (hls.ok c hc).2⟩))
             have O2 := Lib.hid (HO.out.later hls.bel)
             have y2 := O2.out.op.cell
             clear hls hno h7 h8 yc)
          | (go_at_call 27; (with_reducible refine DOX.out.mono ?_); rintro e w3 ⟨A3, l3, c3, rfl, how, hb3⟩
             have O3 := Lib.hid (O2.out.later hb3)
             have OW3 := Lib.hid how
             clear how hb3 y2))
        obtain ⟨W4, hW4⟩ : ∃ W4, w3.alloc (.cells #[.int .u16 (dOut (opR op seen)).2.1, .int .u64 (dOut (opR op seen)).2.2.A, .int .u64 (dOut (opR op seen)).2.2.B, .int .u64 (dOut (opR op seen)).2.2.C] 41) = W4 := ⟨_, rfl⟩
        have B4 := Lib.hid (show Below w.heap.size w W4 by rw [← hW4]; exact new_ O3.out.bel _)
        have P4 : SS Pu.cells 6 W4 W4.heap.size (.slice A3 l3 c3) (dOut (opR op seen)).1 := by
          rw [← hW4]
          exact SS.of_own Pu.cells_len (own_below OW3.out (new_ (Below.refl _ _) _))
        rw [hW4]
        clear hW4 O3 OW3 DOX O2 LK HO
        obtain ⟨PL, hPL⟩ : ∃ PL, (dOut (opR op seen)).1 = PL := ⟨_, rfl⟩
        rw [hPL] at P4 GOOD
        clear hPL
        obtain ⟨A4, c4, e4, h10, h11⟩ := P4.form
        injection e4 with e5 e6 e7
        subst e5 e6 e7
        replace P4 := Lib.hid P4
        unfold maxLen at h11
        clear d2 d3 hk hlt
        go_loopw [13] (fun i wr => ∃ j : Nat, j ≤ PL.length ∧ i = .int .i64 j ∧ Hid (Below W4.heap.size W4 wr)) (fun i _ => PL.length - (intOf i).toNat)
        case atStart => exact ⟨0, by omega, rfl, Lib.hid (Below.refl _ _)⟩
        case round =>
          obtain ⟨j, hj, rfl, HB⟩ := hrel
          by_cases hlt : j < PL.length
          · have d2 : decide ((j : Int) < (PL.length : Int)) = true := by simp; omega
            have d3 : decide (j < PL.length) = true := by simp; omega
            obtain ⟨x, hx⟩ : ∃ x, PL[j]? = some x := ⟨_, List.getElem?_eq_getElem hlt⟩
            obtain ⟨b0, off, rfl, hb0, hvc⟩ := P4.out.at_ hx
            have GX := GOOD.out x (List.mem_of_getElem? hx)
            have vc := fun wx (hb : Below W4.heap.size W4 wx) t u (hu : x.cells[t]? = some u) => (hb.cell (p := ⟨b0, off + j * 6 + t, none⟩) hb0).trans (hvc t u hu)
            have hb9 := new_ HB.out (.cells #[.int .u64 x.A, .int .u64 x.B] 47)
            have v0 : wr.cell? ⟨b0, off + j * 6, none⟩ = some (.int .u8 x.k) := vc _ HB.out 0 _ rfl
            have v3 : wr.cell? ⟨b0, off + j * 6 + 3, none⟩ = some (.int .u64 x.A) := vc _ HB.out 3 _ rfl
            have v4 : wr.cell? ⟨b0, off + j * 6 + 3 + 1, none⟩ = some (.int .u64 x.B) := vc _ HB.out 4 _ rfl
            have v5 : (wr.alloc (.cells #[.int .u64 x.A, .int .u64 x.B] 47)).cell? ⟨b0, off + j * 6 + 5, none⟩ = some (.bool x.gone) := vc _ hb9 5 _ rfl
            have HB9 := Lib.hid hb9
            clear vc hvc hx hb9
            obtain ⟨xk, xa, xb, xA, xB, xg⟩ := x
            dsimp only at v0 v3 v4 v5 HB9 GX
            unfold Pu.good at GX
            dsimp only at GX
            rcases GX with ⟨rfl, rfl, rfl⟩ | ⟨rfl, h2, h3⟩
            · go_wp2
              exact ⟨⟨j + 1, by omega, rfl, Lib.hid HB9.out⟩, by simp [intOf]; omega⟩
            · by_cases k6 : xk = 6
              · subst k6
                clear h2 h3
                go_wp2
                exact ⟨⟨j + 1, by omega, rfl, Lib.hid HB9.out⟩, by simp [intOf]; omega⟩
              by_cases k4 : xk = 4
              · subst k4
                clear h2 h3
                go_wp2
                exact ⟨⟨j + 1, by omega, rfl, Lib.hid HB9.out⟩, by simp [intOf]; omega⟩
              have g1 : decide (4611686018427387904 < xA) = false := by have := h2 k4 k6; simp; omega
              by_cases k3 : xk = 3
              · subst k3
                have z1 : (xA == 0) = false := by simpa using h3 rfl
                clear h2 h3 k4 k6
                go_wp2
                exact ⟨⟨j + 1, by omega, rfl, Lib.hid HB9.out⟩, by simp [intOf]; omega⟩
              · have f6 : (xk == 6) = false := by simpa using k6
                have f4 : (xk == 4) = false := by simpa using k4
                have f3 : (xk == 3) = false := by simpa using k3
                clear h2 h3 k3 k4 k6
                go_wp2
                all_goals exact ⟨⟨j + 1, by omega, rfl, Lib.hid HB9.out⟩, by simp [intOf]; omega⟩
          · have d2 : decide ((j : Int) < (PL.length : Int)) = false := by simp; omega
            have d3 : decide (j < PL.length) = false := by simp; omega
            go_wp2
            go_ret
            exact ⟨rfl, B4.out.trans (HB.out.mono B4.out.size)⟩


set_option maxRecDepth 100000 in
theorem lifted (os : Os) (started : os.Started) (H : Type) (enc : TypeId × Value → H) :
    ReturnsInHanded {} Try.checked os 5 .any (Rows.ruleBoundsSpec.pre6 enc Try.prog Try.f5 Rows.ruleBoundsRow.domain false) (Rows.ruleBoundsSpec.post enc Try.prog Try.f5 false true false false) := by
  refine returnsInHanded_of_change (C := Try.checked) own started (by kernel_rfl) Try.func5
    (ChangeSpec.witness6 (enc := enc) (C := Try.checked) false ⟨#[], #[.agg #[.int .u8 0, .int .u32 0, .int .u32 0, .int .u32 0, .int .u32 0, .int .u64 0, .int .u64 0], .slice none 0 0], []⟩ 8 (by kernel_rfl) (by kernel_rfl) (by kernel_rfl) (by kernel_rfl)) ?_
  intro W base args ds gs before hval0 hW hcnd _
  have hval : ∀ (j : Nat) t v, Try.f5.params[j]? = some t → args[j]? = some v → Value.okWide Try.prog W .any base t v := hval0
  have hW' := hW
  obtain ⟨p, q, hA0, hV, rfl, hfz, hnd⟩ := hW
  have hA1 : DataW.TrodAll enc Try.prog W 0 (fun _ => true) true Try.f5.params.toList args.toList ds p := hA0
  have hA := hA1
  rw [Try.params5] at hA hval
  obtain ⟨v0, vs0, d0, ds0, p0, q0, hargs, rfl, rfl, h0, r0⟩ := trodAll_cons hA
  obtain ⟨v1, vs1, d1, ds1, p1, q1, rfl, rfl, rfl, h1, r1⟩ := trodAll_cons r0
  obtain ⟨rfl, rfl, rfl⟩ := trodAll_nil r1
  obtain rfl : args = #[v0, v1] := by cases args; simp_all
  obtain ⟨rfl, rfl⟩ := trodVars_none hV
  obtain ⟨op, ok0, rfl⟩ := Rule.open_op (hval 0 32 v0 rfl rfl) h0
  obtain ⟨xvalues, i1, wf1⟩ := Rule.open_cells (hval 1 33 v1 rfl rfl) h1
  clear hA0 hval0
  refine (walk W op ok0 v1 xvalues i1 wf1).mono fun e W' ⟨he, bel⟩ => ?_
  subst he
  exact ⟨_, rfl, _, _, _, [], _, [], hW', trodAll_mk1 (shut_bool Try.underlying4 _), args_again laidOut bel (by kernel_rfl) hA1, rfl, bel.frame _, fun h => by cases h⟩

theorem over : Rows.ruleBoundsRow.holds Try.pinned (OpenSpec.ofChange Rows.ruleBoundsSpec) :=
  OpenClaim.holds_of_wide 5 Try.f5 rfl rfl rfl rfl rfl rfl rfl ⟨rfl, rfl, rfl, rfl, rfl⟩ rfl rfl rfl rfl rfl (by kernel_rfl) Try.func5 (by kernel_rfl)
    (of_decide_eq_true (by kernel_rfl)) (by unfold Func.isWrapper; first | (rw [if_pos (by decide +kernel)]; kernel_rfl) | (rw [if_neg (by decide +kernel)]; exact ⟨rfl, rfl⟩))
    (fun os started H enc _ => lifted os started H enc)

theorem proved : Rows.RuleBoundsSaid := over
end Go.Proofs.Ytneaehimdmachaa.LRuleBounds
