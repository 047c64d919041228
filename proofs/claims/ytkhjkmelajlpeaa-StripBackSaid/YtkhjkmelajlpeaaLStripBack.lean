/- The law manciplelaw07.StripBack returns true whatever it is called with, and what it was called with reads as it did. No condition. -/
import Derived.Test.YtkhjkmelajlpeaaLaw
import Derived.Test.YtkhjkmelajlpeaaStrip6
import Derived.Test.YtkhjkmelajlpeaaSrOpen
namespace Go.Proofs.Ytkhjkmelajlpeaa.LStripBack
open Go.ChangeShapes Go.WideShapes Go.ChangeAt Go.RowKit Go.IntWalk Go.Proofs.Mem Law
set_option linter.unusedVariables false
open Go.Proofs.Ytkhjkmelajlpeaa.Strip Go.Proofs.Ytkhjkmelajlpeaa.Blk
set_option maxRecDepth 100000 in
set_option maxHeartbeats 8000000 in
theorem walk (w : World) (s : Value) (xs : List Int) (hs : IR w w.heap.size .u8 s xs) (bs : Bytes xs) (more : Int) (hmore : 0 ≤ more ∧ more ≤ 255) :
    Calls Try.prog 5 #[s, .int .u8 more] w fun e w' => e = .returned (.bool true) ∧ Below w.heap.size w w' := by
  obtain ⟨A, c, rfl, hlc, hcm⟩ := hs.form
  unfold maxLen at hcm
  have HV := Lib.hid hs
  have BB := Lib.hid bs
  clear hs bs
  by_cases hlen : 2000 < xs.length
  · have d1 : decide (2000 < (xs.length : Int)) = true := decide_eq_true (by omega)
    have d1' : decide (2000 < xs.length) = true := decide_eq_true hlen
    go_enter Try.func5, Try.ntmps5
    go_wp2_with fail
    (with_reducible refine (known_any _).mono ?_)
    rintro e w1 ⟨rfl, hb1⟩
    go_wp2
    go_ret
    exact ⟨rfl, hb1⟩
  · have d1 : decide (2000 < (xs.length : Int)) = false := decide_eq_false (by omega)
    have d1' : decide (2000 < xs.length) = false := decide_eq_false hlen
    have LB := Lib.hid (lay_bytes BB.out)
    obtain ⟨i0, hi0, hz0, hz1, hz2⟩ := info_parts u8_info
    obtain ⟨j0, hj0, hy0, hy1, hy2⟩ := info_parts row_info
    obtain ⟨AC, hAC, hACs, hmk⟩ := made_run (P := Try.prog) Try.underlying22 hi0 hz0 hz1 128 128 (by decide) (by rw [hz2]; decide) (by decide)
    rw [show ((128 : Nat) : Int) = 128 from rfl] at hmk
    have R0 := Lib.hid (fun W => row_made W AC 128 hAC (by decide))
    clear hAC hACs hi0 hz0 hz1 hz2 i0
    obtain ⟨r, hr, hr9⟩ : ∃ r : Nat, more % 9 = (r : Int) ∧ r < 9 := ⟨(more % 9).toNat, by omega, by omega⟩
    go_enter Try.func5, Try.ntmps5
    go_wp2_with fail
    (with_reducible refine (known_any _).mono ?_)
    rintro e w1 ⟨rfl, hb1⟩
    have HB1 := Lib.hid hb1
    clear hb1
    go_wp2_with fail
    (with_reducible refine (lay_any _ w.heap.size _ _ (HV.out.below HB1.out) HB1.out.size (by omega)).mono ?_)
    rintro e w3 ⟨v3, l3, rfl, tab3, hl3, hb3⟩
    have HB3 := Lib.hid (step_ HB1.out hb3)
    have TAB3 := Lib.hid tab3
    have HL3 := Lib.hid hl3
    have LL3 := Lib.hid (show l3.length ≤ 20 by have := congrArg List.length hl3; rw [List.length_map, lay_len] at this; rw [this]; unfold cnt; omega)
    have D3 := Lib.hid hb3
    clear tab3 hl3 hb3
    go_wp2
    go_loopw [5, 6] (fun o i wr => ∃ (k : Nat) (ls : List Rw), i = .int .i64 k ∧ k ≤ r ∧ Hid (Tab 5 22 wr w1.heap.size wr.heap.size o ls) ∧ Hid (ls.map (·.2.2) = lay7 xs ++ List.replicate k zs) ∧ Hid (ls.length ≤ 20 + k) ∧ Hid (Below w1.heap.size w1 wr)) (fun _ i _ => r - (intOf i).toNat)
    case atStart => exact ⟨0, l3, rfl, by omega, TAB3, Lib.hid (by rw [HL3.out]; simp), LL3, D3⟩
    case round =>
      obtain ⟨k, ls, rfl, hk, HT, HLS, HLL, HBL⟩ := hrel
      by_cases hlt : k < r
      · have q1 : decide ((k : Int) < (r : Int)) = true := decide_eq_true (by omega)
        have q1' : decide (k < r) = true := decide_eq_true hlt
        have MK := Lib.hid (show Below wr.heap.size wr ((wr.alloc (.cells AC 5)).alloc (.cells #[.slice (some ⟨wr.heap.size, 0, none⟩) 128 128] 22)) from new_ (new_ (Below.refl _ _) _) _)
        have T2 := Lib.hid (HT.out.later MK.out)
        have RW := Lib.hid ((R0.out wr).sc (Sc.of_below (new_ (Below.refl _ _) (.cells #[.slice (some ⟨wr.heap.size, 0, none⟩) 128 128] 22))))
        have CN := Lib.hid (show ((wr.alloc (.cells AC 5)).alloc (.cells #[.slice (some ⟨wr.heap.size, 0, none⟩) 128 128] 22)).cell? ⟨wr.heap.size + 1, 0, none⟩ = some (.slice (some ⟨wr.heap.size, 0, none⟩) 128 128) by have := cell_new (wr.alloc (.cells AC 5)) #[.slice (some ⟨wr.heap.size, 0, none⟩) 128 128] 22 0; rwa [World.size_alloc] at this)
        go_wp2_with (at_builtin; refine wpList_tab_push _ rfl _ _ _ rfl w1.heap.size wr.heap.size 5 22 (by decide) j0 Try.underlying26 hj0 hy0 hy1 hy2 u5 ls rfl T2.out (wr.heap.size + 1) (.slice (some ⟨wr.heap.size, 0, none⟩) 128 128) rfl CN.out wr.heap.size (List.replicate 128 0) RW.out (by simp; omega) HBL.out.size (by simp; omega) (by have := HLL.out; omega) ?_; intro v4 w4 tab4 hg4; have TAB4 := Lib.hid tab4; have HB4 := Lib.hid (tab_below (HBL.out.trans (MK.out.mono HBL.out.size)) T2.out hg4 (Nat.le_refl _) (by have := HBL.out.size; simp; omega)); clear tab4 hg4)
        go_roundw
        case rel => exact ⟨k + 1, _, by go_num, by omega, TAB4, Lib.hid (by rw [List.map_append, HLS.out, List.append_assoc, show List.replicate (k + 1) zs = List.replicate k zs ++ [zs] from List.replicate_succ']; rfl), Lib.hid (by have := HLL.out; simp; omega), HB4⟩
        case measure => simp [intOf]; omega
      · obtain rfl : k = r := by omega
        have HT2 := Lib.hid (sr_of_tab HT.out HLS.out (fun ys hy => by
          rcases List.mem_append.1 hy with hy | hy
          · exact LB.out ys hy
          · rw [List.eq_of_mem_replicate hy]; exact bytes_rep 128))
        have RE := Lib.hid (read_lay xs _ (read_noughts k))
        have LN := Lib.hid (show (ls.map (·.2)).length ≤ 1000 by have := HLL.out; rw [List.length_map]; omega)
        have HBW := Lib.hid (HB1.out.trans (HBL.out.mono HB1.out.size))
        go_wp2_with fail
        (with_reducible refine (read_any _ _ _ _ HT2.out.1 (Nat.le_refl _) LN.out).mono ?_)
        rintro e w5 ⟨v5, rfl, ow5, hb5⟩
        rw [HT2.out.2, RE.out] at ow5
        have I5 := Lib.hid (IR.of_own ow5)
        have HB5 := Lib.hid (step_ HBW.out hb5)
        clear ow5 hb5
        go_wp2_with fail
        (with_reducible refine (same_any _ _ xs xs w5 _ _ I5.out (HV.out.below HB5.out) BB.out BB.out).mono ?_)
        rintro e w6 ⟨rfl, rfl⟩
        go_wp2
        go_ret
        exact ⟨rfl, HB5.out⟩


set_option maxRecDepth 100000 in
theorem lifted (os : Os) (started : os.Started) (H : Type) (enc : TypeId × Value → H) :
    ReturnsInHanded {} Try.checked os 5 .any (Rows.stripBackSpec.pre6 enc Try.prog Try.f5 Rows.stripBackRow.domain false) (Rows.stripBackSpec.post enc Try.prog Try.f5 false true false false) := by
  refine returnsInHanded_of_change (C := Try.checked) own started (by kernel_rfl) Try.func5
    (ChangeSpec.witness6 (enc := enc) (C := Try.checked) false ⟨#[], #[.slice none 0 0, .int .u8 0], []⟩ 8 (by kernel_rfl) (by kernel_rfl) (by kernel_rfl) (by kernel_rfl)) ?_
  intro W base args ds gs before hval0 hW hcnd _
  have hval : ∀ (j : Nat) t v, Try.f5.params[j]? = some t → args[j]? = some v → Value.okWide Try.prog W .any base t v := hval0
  have hW' := hW
  obtain ⟨p, q, hA0, hV, rfl, hfz, hnd⟩ := hW
  have hA1 : DataW.TrodAll enc Try.prog W 0 (fun _ => true) true Try.f5.params.toList args.toList ds p := hA0
  have hA := hA1
  rw [Try.params5] at hA hval
  obtain ⟨v0, vs0, d0, ds0, p0, q0, hargs, rfl, rfl, h0, r0⟩ := trodAll_cons hA
  obtain ⟨v1, vs1, d1, ds1, p1, q1, rfl, rfl, rfl, h1, r1⟩ := trodAll_cons r0
  obtain ⟨rfl, rfl, rfl⟩ := trodAll_nil r1
  obtain rfl : args = #[v0, v1] := by cases args; simp_all
  obtain ⟨rfl, rfl⟩ := trodVars_none hV
  obtain ⟨xs, i0, wf0⟩ := open_IR Try.underlying22 Try.underlying5 (by kernel_rfl) (hval 0 22 v0 rfl rfl) h0
  obtain ⟨more, rfl, rfl, rfl, wf1⟩ := open_int Try.underlying5 (hval 1 5 v1 rfl rfl) h1
  clear hA0 hval0
  refine (walk W v0 xs i0 (fun n hn => bounds_u8 (wf0 n hn)) more (bounds_u8 wf1)).mono fun e W' ⟨he, bel⟩ => ?_
  subst he
  exact ⟨_, rfl, _, _, _, [], _, [], hW', trodAll_mk1 (shut_bool Try.underlying4 _), args_again laidOut bel (by kernel_rfl) hA1, rfl, bel.frame _, fun h => by cases h⟩

theorem over : Rows.stripBackRow.holds Try.pinned (OpenSpec.ofChange Rows.stripBackSpec) :=
  OpenClaim.holds_of_wide 5 Try.f5 rfl rfl rfl rfl rfl rfl rfl ⟨rfl, rfl, rfl, rfl, rfl⟩ rfl rfl rfl rfl rfl (by kernel_rfl) Try.func5 (by kernel_rfl)
    (of_decide_eq_true (by kernel_rfl)) (by unfold Func.isWrapper; first | (rw [if_pos (by decide +kernel)]; kernel_rfl) | (rw [if_neg (by decide +kernel)]; exact ⟨rfl, rfl⟩))
    (fun os started H enc _ => lifted os started H enc)

theorem proved : Rows.StripBackSaid := over
end Go.Proofs.Ytkhjkmelajlpeaa.LStripBack
