/- The law manciplelaw11.ClockDoes returns true whatever it is called with, and what it was called with reads as it did. No condition. -/
import Derived.Test.YtimnhanjlldhoaaLaw
import Derived.Test.YtimnhanjlldhoaaClkJ
import Derived.Test.YtimnhanjlldhoaaClkOpen
import Derived.Deep.RegionWith
namespace Go.Proofs.Ytimnhanjlldhoaa.LClockDoes
open Go.ChangeShapes Go.WideShapes Go.ChangeAt Go.RowKit Go.IntWalk Go.Proofs.Mem Law
set_option linter.unusedVariables false
open Go.Proofs.Ytimnhanjlldhoaa.Clk _root_.Go.Proofs.Clk
set_option maxRecDepth 100000 in
set_option maxHeartbeats 8000000 in
theorem walk (w : World) (n : Int) (hn : -9223372036854775808 ≤ n ∧ n ≤ 9223372036854775807) (l : Value) (xl : List Clk.Cl) (hl : SS Clk.cCl 2 w w.heap.size l xl) (bl : ∀ o ∈ xl, Clk.Cl.Ok o) :
    Calls Try.prog 3 #[.int .i64 n, l] w fun e w' => e = .returned (.bool true) ∧ Below w.heap.size w w' := by
  obtain ⟨A, c, rfl, hlc, hcm⟩ := hl.form
  have HL := Lib.hid hl
  have BL := Lib.hid bl
  clear hl bl
  unfold maxLen at hcm
  have KN := Lib.hid (fun W => known_any W)
  by_cases hlen : 200 < xl.length
  · have d1 : decide (200 < (xl.length : Int)) = true := decide_eq_true (by omega)
    have d1' : decide (200 < xl.length) = true := decide_eq_true hlen
    go_enter Try.func3, Try.ntmps3
    go_wp2_with fail
    (with_reducible refine (KN.out _).mono ?_)
    rintro e w1 ⟨rfl, hb1⟩
    go_wp2
    go_ret
    exact ⟨rfl, hb1⟩
  · have d1 : decide (200 < (xl.length : Int)) = false := decide_eq_false (by omega)
    have d1' : decide (200 < xl.length) = false := decide_eq_false hlen
    by_cases hk : 1 ≤ n ∧ n ≤ 64
    · obtain ⟨k, rfl⟩ := Int.eq_ofNat_of_zero_le (show 0 ≤ n by omega)
      have hk' : 1 ≤ k ∧ k ≤ 64 := by omega
      have HK := Lib.hid hk'
      have NI := Lib.hid (fun W => new_is W k hk')
      have RI := Lib.hid (fun W => ref_is W k hk')
      clear hk
      go_enter Try.func3, Try.ntmps3
      go_wp2_with fail
      (with_reducible refine (KN.out _).mono ?_)
      rintro e w1 ⟨rfl, hb1⟩
      go_wp2_with fail
      (with_reducible refine (NI.out _).mono ?_)
      rintro e w2 ⟨g, gf, rfl, c2, hg, hgf, hb2⟩
      have C2 := Lib.hid c2
      clear c2
      go_wp2_with fail
      (with_reducible refine (RI.out _).mono ?_)
      rintro e w3 ⟨r, ra, rb, rc, rfl, d3, hge, hb3⟩
      have lt1 := C2.out.top.lt
      have lt2 := C2.out.fs.lt
      have T0 := Lib.hid (Two.mk (C2.out.later hb3) d3 ⟨by omega, by omega, by omega, by omega⟩ ⟨by omega, by omega, by omega, by omega⟩)
      have HB0 := Lib.hid (step_ (step_ hb1 hb2) hb3)
      have HG := Lib.hid (show (w.heap.size ≤ g ∧ w.heap.size ≤ gf) ∧ w.heap.size ≤ r ∧ w.heap.size ≤ ra ∧ w.heap.size ≤ rb ∧ w.heap.size ≤ rc from ⟨⟨by have := hb1.size; omega, by have := hb1.size; omega⟩, by have := hb1.size; have := hb2.size; omega, by have := hb1.size; have := hb2.size; omega, by have := hb1.size; have := hb2.size; omega, by have := hb1.size; have := hb2.size; omega⟩)
      clear d3 hb1 hb2 hb3 hg hgf hge lt1 lt2 C2
      go_wp2
      go_loopw [7] (fun i wr => ∃ (j : Nat) (l : List Fm) (h : Nat), i = .int .i64 j ∧ j ≤ xl.length ∧ Hid (Two wr g gf l h r ra rb rc l h) ∧ Hid (l.length = k ∧ h < k ∧ Oks j l) ∧ Hid (Below w.heap.size w wr)) (fun i _ => xl.length - (intOf i).toNat)
      case atStart => exact ⟨0, _, 0, rfl, by omega, T0, Lib.hid ⟨by simp, by have := HK.out; omega, fun f hf => by rw [List.eq_of_mem_replicate hf]; exact z3_ok _ (by omega)⟩, HB0⟩
      case round =>
        obtain ⟨j, l, h, rfl, hj, HT, HO, HBL⟩ := hrel
        have hk1 := HK.out
        have hl64 : l.length ≤ 64 := by have := HO.out.1; omega
        have hhl : h < l.length := by have := HO.out.1; have := HO.out.2.1; omega
        by_cases hlt : j < xl.length
        · obtain ⟨b, off, rfl, hb, hcell⟩ := (HL.out.below HBL.out).at_ (List.getElem?_eq_getElem hlt)
          have y0 : wr.cell? ⟨b, off + j * 2, none⟩ = some (.int .u8 xl[j].k) := hcell 0 _ rfl
          have y1 : wr.cell? ⟨b, off + j * 2 + 1, none⟩ = some (.int .i64 xl[j].i) := hcell 1 _ rfl
          have hok := (BL.out xl[j] (List.getElem_mem hlt)).1
          have DA := Lib.hid (does_any wr g gf h r ra rb rc h l l j HT.out hl64 hl64 hhl hhl HO.out.2.2 HO.out.2.2 (by omega) xl[j].i xl[j].k hok)
          generalize xl[j].k = ok at *
          generalize xl[j].i = oi at *
          clear hcell hok
          go_wp2_with fail
          (with_reducible refine (DA.out).mono ?_)
          rintro e w4 ⟨q, l', h', m', k', rfl, t', f', e1, e2, e3, e4, e5, e6, e7⟩
          obtain ⟨rfl, rfl, rfl⟩ := e7 rfl rfl
          have T' := Lib.hid t'
          have HO' := Lib.hid (show l'.length = k ∧ h' < k ∧ Oks ((j + 1 : Nat) : Int) l' from ⟨e1.trans HO.out.1, by have := HO.out.1; omega, e5⟩)
          have HB' := Lib.hid (HBL.out.trans (f'.to_below (B := w.heap.size) (by have := HG.out; rintro x ((rfl | rfl) | (rfl | rfl | rfl | rfl)) <;> omega) HBL.out.size))
          clear t' f' e1 e2 e3 e4 e5 e6 e7 DA
          go_wp2
          go_roundw
          case rel => exact ⟨j + 1, l', h', by go_num, by omega, T', HO', HB'⟩
          case measure => simp [intOf]; omega
        · have hf : decide ((j : Int) < (xl.length : Int)) = false := decide_eq_false (by omega)
          have hf' : decide (j < xl.length) = false := decide_eq_false (by omega)
          go_wp2
          go_loopw [9] (fun i W => ∃ i' : Int, i = .int .i64 i' ∧ -1 ≤ i' ∧ i' ≤ (k : Int) + 1 ∧ Hid (Two W g gf l h r ra rb rc l h) ∧ Hid (Below w.heap.size w W)) (fun i _ => ((k : Int) + 1 - intOf i).toNat)
          case atStart => exact ⟨-1, rfl, by omega, by omega, HT, HBL⟩
          case round =>
            obtain ⟨i, rfl, hi1, hi2, HT2, HB2⟩ := hrel
            by_cases hlt2 : i < (k : Int) + 1
            · go_wp2_with fail
              (with_reducible refine (pins_any _ g gf h l HT2.out.c hl64 i).mono ?_)
              rintro e W1 ⟨rfl, hb1⟩
              have T' := Lib.hid (HT2.out.later hb1)
              have HB' := Lib.hid (step_ HB2.out hb1)
              clear hb1
              go_wp2_with fail
              (with_reducible refine (pins_ref W1 r ra rb rc h l T'.out.d hl64 i).mono ?_)
              rintro e W2 ⟨rfl, rfl⟩
              go_wp2
              go_roundw
              case rel => exact ⟨i + 1, by go_num, by omega, by omega, T', HB'⟩
              case measure => simp [intOf]; omega
            · go_wp2
              go_ret
              exact ⟨rfl, HB2.out⟩
    · have NN := Lib.hid (fun W => new_not W n hk)
      have RN := Lib.hid (fun W => ref_not W n hk)
      clear hk
      go_enter Try.func3, Try.ntmps3
      go_wp2_with fail
      (with_reducible refine (KN.out _).mono ?_)
      rintro e w1 ⟨rfl, hb1⟩
      go_wp2_with fail
      (with_reducible refine (NN.out _).mono ?_)
      rintro e w2 ⟨rfl, rfl⟩
      go_wp2_with fail
      (with_reducible refine (RN.out _).mono ?_)
      rintro e w2 ⟨rfl, rfl⟩
      go_wp2
      go_ret
      exact ⟨rfl, hb1⟩


set_option maxRecDepth 100000 in
theorem lifted (os : Os) (started : os.Started) (H : Type) (enc : TypeId × Value → H) :
    ReturnsInHanded {} Try.checked os 3 .any (Rows.clockDoesSpec.pre6 enc Try.prog Try.f3 Rows.clockDoesRow.domain false) (Rows.clockDoesSpec.post enc Try.prog Try.f3 false true false false) := by
  refine returnsInHanded_of_change (C := Try.checked) own started (by kernel_rfl) Try.func3
    (ChangeSpec.witness6 (enc := enc) (C := Try.checked) false ⟨#[], #[.int .i64 0, .slice none 0 0], []⟩ 8 (by kernel_rfl) (by kernel_rfl) (by kernel_rfl) (by kernel_rfl)) ?_
  intro W base args ds gs before hval0 hW hcnd _
  have hval : ∀ (j : Nat) t v, Try.f3.params[j]? = some t → args[j]? = some v → Value.okWide Try.prog W .any base t v := hval0
  have hW' := hW
  obtain ⟨p, q, hA0, hV, rfl, hfz, hnd⟩ := hW
  have hA1 : DataW.TrodAll enc Try.prog W 0 (fun _ => true) true Try.f3.params.toList args.toList ds p := hA0
  have hA := hA1
  rw [Try.params3] at hA hval
  obtain ⟨v0, vs0, d0, ds0, p0, q0, hargs, rfl, rfl, h0, r0⟩ := trodAll_cons hA
  obtain ⟨v1, vs1, d1, ds1, p1, q1, rfl, rfl, rfl, h1, r1⟩ := trodAll_cons r0
  obtain ⟨rfl, rfl, rfl⟩ := trodAll_nil r1
  obtain rfl : args = #[v0, v1] := by cases args; simp_all
  obtain ⟨rfl, rfl⟩ := trodVars_none hV
  obtain ⟨n, rfl, rfl, rfl, wf0⟩ := open_int Try.underlying3 (hval 0 3 v0 rfl rfl) h0
  obtain ⟨xl, i1, wf1⟩ := Clk.open_ops (hval 1 22 v1 rfl rfl) h1
  clear hA0 hval0
  refine (walk W n (bounds_i64 wf0) v1 xl i1 wf1).mono fun e W' ⟨he, bel⟩ => ?_
  subst he
  exact ⟨_, rfl, _, _, _, [], _, [], hW', trodAll_mk1 (shut_bool Try.underlying4 _), args_again laidOut bel (by kernel_rfl) hA1, rfl, bel.frame _, fun h => by cases h⟩

theorem over : Rows.clockDoesRow.holds Try.pinned (OpenSpec.ofChange Rows.clockDoesSpec) :=
  OpenClaim.holds_of_wide 3 Try.f3 rfl rfl rfl rfl rfl rfl rfl ⟨rfl, rfl, rfl, rfl, rfl⟩ rfl rfl rfl rfl rfl (by kernel_rfl) Try.func3 (by kernel_rfl)
    (of_decide_eq_true (by kernel_rfl)) (by unfold Func.isWrapper; first | (rw [if_pos (by decide +kernel)]; kernel_rfl) | (rw [if_neg (by decide +kernel)]; exact ⟨rfl, rfl⟩))
    (fun os started H enc _ => lifted os started H enc)

theorem proved : Rows.ClockDoesSaid := over
end Go.Proofs.Ytimnhanjlldhoaa.LClockDoes
