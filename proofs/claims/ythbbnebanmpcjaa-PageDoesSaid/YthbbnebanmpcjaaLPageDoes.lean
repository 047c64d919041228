/- The law manciplelaw09.PageDoes returns true whatever it is called with, and what it was called with reads as it did. No condition. -/
import Derived.Test.YthbbnebanmpcjaaLaw
import Derived.Test.YthbbnebanmpcjaaPgEndB
namespace Go.Proofs.Ythbbnebanmpcjaa.LPageDoes
open Go.ChangeShapes Go.WideShapes Go.ChangeAt Go.RowKit Go.IntWalk Go.Proofs.Mem Law
set_option linter.unusedVariables false
open Go.Proofs.Ythbbnebanmpcjaa.Pg Go.Proofs.Each
set_option linter.unusedSimpArgs false
theorem hvy_len {l : List Pi} (h : hvy l = false) : l.length ≤ 120 := by
  rcases Nat.lt_or_ge 120 l.length with e | e
  · unfold hvy at h; rw [decide_eq_true e] at h; simp at h
  · exact e
theorem hvy_small {l : List Pi} {j : Nat} (h : hvy l = false) (hj : j < l.length) : l[j].o.xs.length ≤ 200 := by
  rcases Nat.lt_or_ge 200 l[j].o.xs.length with e | e
  · have := hvy_at hj (show big l[j] = true by unfold big; exact decide_eq_true e)
    rw [h] at this; cases this
  · exact e
set_option maxRecDepth 100000 in
set_option maxHeartbeats 8000000 in
theorem walk (w : World) (n : Int) (hn : 0 ≤ n ∧ n ≤ 4294967295) (l : Value) (xl : List Pg.Pi) (hl : SS Pg.cPi 4 w w.heap.size l xl) (bl : ∀ o ∈ xl, Pg.PiAt w w.heap.size o) :
    Calls Try.prog 3 #[.int .u32 n, l] w fun e w' => e = .returned (.bool true) ∧ Below w.heap.size w w' := by
  obtain ⟨A, c, rfl, hlc, hcm⟩ := hl.form
  unfold maxLen at hcm
  have HV := Lib.hid (heavy_any w A c xl hcm hlc hl bl)
  have NW := Lib.hid (fun W => new_any W n hn)
  have NR := Lib.hid (fun W => dw_new W n hn)
  have HL := Lib.hid hl
  have BL := Lib.hid bl
  have H120 := Lib.hid (fun h => hvy_len (l := xl) h)
  have HSM := Lib.hid (fun h j hj => hvy_small (l := xl) (j := j) h hj)
  clear hl bl
  obtain ⟨q, hq⟩ : ∃ q, q = hvy xl := ⟨_, rfl⟩
  rw [← hq] at HV H120 HSM
  clear hq
  go_enter Try.func3, Try.ntmps3
  cases q
  case true =>
    go_wp2_with (first
      | ((with_reducible refine HV.out.mono ?_); rintro e w1 ⟨rfl, rfl⟩)
      | ((with_reducible refine (known_any _).mono ?_); rintro e w3 ⟨rfl, hb3⟩; have HB3 := Lib.hid hb3; clear hb3))
    go_ret
    exact ⟨rfl, HB3.out⟩
  have H12 := Lib.hid (H120.out rfl)
  have HS9 := Lib.hid (HSM.out rfl)
  go_wp2_with (first
    | ((with_reducible refine HV.out.mono ?_); rintro e w1 ⟨rfl, rfl⟩)
    | ((with_reducible refine (known_any _).mono ?_); rintro e w3 ⟨rfl, hb3⟩; have HB3 := Lib.hid hb3; clear hb3)
    | fail)
  (with_reducible refine (NW.out _).mono ?_)
  rintro e w4 ⟨rfl, p4, b4⟩
  obtain ⟨b, hb⟩ : ∃ b, b = w3.heap.size := ⟨_, rfl⟩
  rw [← hb] at p4 ⊢
  have P4 := Lib.hid (show Pw w4 b (newP n) from ⟨p4, (new_wf n).1⟩)
  have B4 := Lib.hid (show Below w1.heap.size w1 w4 ∧ w1.heap.size ≤ b ∧ b < w4.heap.size from ⟨step_ HB3.out b4, by have := HB3.out.size; omega, p4.box.lt⟩)
  clear p4 b4 hb
  go_wp2_with fail
  (with_reducible refine (NR.out _).mono ?_)
  rintro e w5 ⟨rfl, p5, b5⟩
  obtain ⟨r, hr⟩ : ∃ r, r = w4.heap.size := ⟨_, rfl⟩
  rw [← hr] at p5 ⊢
  have P5 := Lib.hid (P4.out.later b5)
  have D5 := Lib.hid p5
  have B5 := Lib.hid (show Below w1.heap.size w1 w5 ∧ w1.heap.size ≤ b ∧ b < r from ⟨step_ B4.out.1 b5, B4.out.2.1, by have := B4.out.2.2; omega⟩)
  clear p5 b5 hr
  have h120 := H12.out
  go_wp2
  go_loopw [7, 8, 9] (fun iv _ _ wr => ∃ j : Nat, j ≤ xl.length ∧ iv = .int .i64 j ∧ Hid (∃ xs, Pw wr b xs ∧ Dw wr r xs) ∧ Hid (Below w1.heap.size w1 wr)) (fun iv _ _ _ => xl.length - (intOf iv).toNat)
  case atStart => exact ⟨0, Nat.zero_le _, rfl, Lib.hid ⟨_, P5.out, D5.out⟩, Lib.hid B5.out.1⟩
  case round =>
    obtain ⟨j, hj, rfl, HX, HW⟩ := hrel
    obtain ⟨xs, hp, hd⟩ := HX.out
    have HP := Lib.hid hp
    have HD := Lib.hid hd
    clear hp hd HX
    by_cases hlt : j < xl.length
    · have HOX := Lib.hid (BL.out xl[j] (List.getElem_mem hlt))
      have hsm := HS9.out j hlt
      obtain ⟨g, off, rfl, hgb, hcell⟩ := (HL.out.below HW.out).at_ (List.getElem?_eq_getElem hlt)
      generalize xl[j] = x at *
      obtain ⟨o, xa⟩ := x
      obtain ⟨A1, c1, e1, _⟩ := HOX.out.2.form
      simp only at e1
      subst e1
      obtain ⟨L1, hL1⟩ : ∃ L, L = o.xs.length := ⟨_, rfl⟩
      have HL1 := Lib.hid hL1
      rw [← hL1] at HOX hcell hsm
      have y0 : wr.cell? ⟨g, off + j * 4, none⟩ = some (.int .u8 o.kind) := hcell 0 _ rfl
      have y1 : wr.cell? ⟨g, off + j * 4 + 1, none⟩ = some (.int .i64 o.slot) := hcell 1 _ rfl
      have y2 : wr.cell? ⟨g, off + j * 4 + 2, none⟩ = some (.slice A1 L1 c1) := hcell 2 _ rfl
      have y3 : wr.cell? ⟨g, off + j * 4 + 3, none⟩ = some (.int .u64 o.lsn) := hcell 3 _ rfl
      have DO := Lib.hid (does_any wr b r xs HP.out HD.out (by have := B5.out.2.2; omega) o HOX.out.1 A1 L1 c1 HL1.out.symm hsm (fun w' hf => by
        have hb9 : Below w1.heap.size w1 w' := HW.out.trans (hf.to_below (fun x hx => by have := B5.out; omega) HW.out.size)
        exact (HOX.out.2.below hb9).more hb9.size))
      have HLT := Lib.hid hlt
      have hji : (j : Int) < (xl.length : Int) := by omega
      clear hcell hL1 hsm hgb hlt hj
      go_wp2_with fail
      (with_reducible refine DO.out.mono ?_)
      rintro e w7 ⟨rfl, p7, d7, f7⟩
      have P7 := Lib.hid p7
      have D7 := Lib.hid d7
      have AL := Lib.hid (alike_any w7 b r _ p7 d7)
      have B7 := Lib.hid (show Below w1.heap.size w1 w7 from HW.out.trans (f7.to_below (fun x hx => by have := B5.out; omega) HW.out.size))
      clear p7 d7 f7 y0 y1 y2 y3
      go_wp2_with fail
      (with_reducible refine AL.out.mono ?_)
      rintro e w8 ⟨rfl, b8⟩
      have R8 := Lib.hid (show ∃ xs, Pw w8 b xs ∧ Dw w8 r xs from ⟨_, P7.out.later b8, D7.out.later b8⟩)
      have B8 := Lib.hid (step_ B7.out b8)
      clear b8
      go_wp2
      go_roundw
      case rel => exact ⟨j + 1, by have := HLT.out; omega, by go_num, R8, B8⟩
      case measure => have := HLT.out; simp [intOf]; omega
    · have AL := Lib.hid (alike_any wr b r xs HP.out HD.out)
      clear hj
      go_wp2_with fail
      (with_reducible refine AL.out.mono ?_)
      rintro e w8 ⟨rfl, b8⟩
      have B8 := Lib.hid (step_ HW.out b8)
      clear b8
      go_wp2
      go_ret
      exact ⟨rfl, B8.out⟩


set_option maxRecDepth 100000 in
theorem lifted (os : Os) (started : os.Started) (H : Type) (enc : TypeId × Value → H) :
    ReturnsInHanded {} Try.checked os 3 .any (Rows.pageDoesSpec.pre6 enc Try.prog Try.f3 Rows.pageDoesRow.domain false) (Rows.pageDoesSpec.post enc Try.prog Try.f3 false true false false) := by
  refine returnsInHanded_of_change (C := Try.checked) own started (by kernel_rfl) Try.func3
    (ChangeSpec.witness6 (enc := enc) (C := Try.checked) false ⟨#[], #[.int .u32 0, .slice none 0 0], []⟩ 8 (by kernel_rfl) (by kernel_rfl) (by kernel_rfl) (by kernel_rfl)) ?_
  intro W base args ds gs before hval0 hW hcnd _
  have hval : ∀ (j : Nat) t v, Try.f3.params[j]? = some t → args[j]? = some v → Value.okWide Try.prog W .any base t v := hval0
  have hW' := hW
  obtain ⟨p, q, hA0, hV, rfl, hfz, hnd⟩ := hW
  have hA1 : DataW.TrodAll enc Try.prog W 0 (fun _ => true) true Try.f3.params.toList args.toList ds p := hA0
  have hA := hA1
  rw [Try.params3] at hA hval
  obtain ⟨v0, vs0, d0, ds0, p0, q0, hargs, rfl, rfl, h0, r0⟩ := trodAll_cons hA
  obtain ⟨v1, vs1, d1, ds1, p1, q1, rfl, rfl, rfl, h1, r1⟩ := trodAll_cons r0
  obtain ⟨rfl, rfl, rfl⟩ := trodAll_nil r1
  obtain rfl : args = #[v0, v1] := by cases args; simp_all
  obtain ⟨rfl, rfl⟩ := trodVars_none hV
  obtain ⟨n, rfl, rfl, rfl, wf0⟩ := open_int Try.underlying22 (hval 0 22 v0 rfl rfl) h0
  obtain ⟨xl, i1, wf1⟩ := Pg.open_pos (hval 1 23 v1 rfl rfl) h1
  clear hA0 hval0
  refine (walk W n (bounds_u32 wf0) v1 xl i1 wf1).mono fun e W' ⟨he, bel⟩ => ?_
  subst he
  exact ⟨_, rfl, _, _, _, [], _, [], hW', trodAll_mk1 (shut_bool Try.underlying4 _), args_again laidOut bel (by kernel_rfl) hA1, rfl, bel.frame _, fun h => by cases h⟩

theorem over : Rows.pageDoesRow.holds Try.pinned (OpenSpec.ofChange Rows.pageDoesSpec) :=
  OpenClaim.holds_of_wide 3 Try.f3 rfl rfl rfl rfl rfl rfl rfl ⟨rfl, rfl, rfl, rfl, rfl⟩ rfl rfl rfl rfl rfl (by kernel_rfl) Try.func3 (by kernel_rfl)
    (of_decide_eq_true (by kernel_rfl)) (by unfold Func.isWrapper; first | (rw [if_pos (by decide +kernel)]; kernel_rfl) | (rw [if_neg (by decide +kernel)]; exact ⟨rfl, rfl⟩))
    (fun os started H enc _ => lifted os started H enc)

theorem proved : Rows.PageDoesSaid := over
end Go.Proofs.Ythbbnebanmpcjaa.LPageDoes
