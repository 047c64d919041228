import Derived.Test.YteggcehjpfmikaaWs1
import Derived.Test.YteggcehjpfmikaaWsA
import Derived.Deep.DeepCutAuto
namespace Go.Proofs.Yteggcehjpfmikaa.Wal
open Go.ChangeShapes Go.WideShapes Go.ChangeAt Go.RowKit Go.IntWalk Go.Proofs.Mem Go.Proofs.Each Law Go.Proofs.Yteggcehjpfmikaa.Disk Strip
set_option linter.unusedVariables false
set_option linter.unusedSimpArgs false
section
variable {w : World} {T : Nat → Prop} {t g : Nat} {fv : Nat → Value} {D : Dv} {L : Lv}
def rnL (L : Lv) : Lv := ⟨⟨L.h.st + 1, 1 - L.h.ar, L.h.ba + L.ys.length, 0⟩, 1 - L.se, [], [], 0⟩
def rnC (D : Dv) (L : Lv) : Dv := clnD (flA D L L.ys.length) (fst D (1 - L.h.ar.toNat)) (List.replicate (Wal.sz D) z128)
def rnD (D : Dv) (L : Lv) : Dv := hdD (rnC D L) (1 - L.se) (rnL L).h.img
theorem other_dx {w : World} {S : Nat → Prop} {H : Hh} {se la : Int} {sv tv : Value} (h : DX w S g fv D) (X : Box w t (lgC g H se sv tv la) 89) (hl : 2 ≤ (D.f 0).length) (a : Nat) (ha : H.ar = a) (ha2 : a ≤ 1) :
    Calls Try.prog 48 #[.pointer (some ⟨t, 0, none⟩)] w fun e w' => e = .returned (.int .i64 (fst D (1 - a))) ∧ Below w.heap.size w w' := by
  obtain ⟨col, uv, h'⟩ := h
  exact other_any w t H se sv tv la X h' hl a ha ha2
theorem size_dx {w : World} {S : Nat → Prop} (h : DX w S g fv D) (hl : 2 ≤ (D.f 0).length) :
    Calls Try.prog 33 #[.pointer (some ⟨g, 0, none⟩)] w fun e w' => e = .returned (.int .i64 (Wal.sz D)) ∧ w = w' := by
  obtain ⟨col, uv, h'⟩ := h
  exact wsize_any w h' hl
set_option maxRecDepth 100000 in
set_option maxHeartbeats 8000000 in
theorem renew_any (h : LgAt w T t g fv D L) (ok : LvOk D L) (h0 : L.ss.length = 0 → L.ys.length = 0) (m : Nat) (hw : D.Few m) (hm : m ≤ 80000) :
    Calls Try.prog 24 #[.pointer (some ⟨t, 0, none⟩)] w fun e w' => e = .returned (.tuple #[]) ∧ LgAt w' (growS w w' T) t g fv (rnD D L) (rnL L) ∧ Fr T w w' := by
  have CF := Lib.hid (flush_all h ok h0 m hw hm)
  have hfw := flA_few hw ok L.ys.length (Nat.le_refl _)
  have hlen := flA_lens (D := D) (L := L) L.ys.length 0
  have h18 := ok.len18
  have hszq := sz_eq hlen
  obtain ⟨a, ha⟩ : ∃ a : Nat, L.h.ar = a := ⟨L.h.ar.toNat, by have := ok.ok.ar; omega⟩
  have ha1 : a ≤ 1 := by have := ok.ar; omega
  have hfs : fst (flA D L L.ys.length) (1 - a) = fst D (1 - a) := by unfold fst; rw [hszq]
  have OK := Lib.hid ok
  have HFW := Lib.hid hfw
  have HM := Lib.hid hm
  have HLEN := Lib.hid (show 18 ≤ ((flA D L L.ys.length).f 0).length by rw [hlen]; omega)
  have hcl : rnC D L = clnD (flA D L L.ys.length) (fst D (1 - a)) (List.replicate (Wal.sz D) z128) := by unfold rnC; rw [ha]; rfl
  have hgoal : rnD D L = hdD (clnD (flA D L L.ys.length) (fst D (1 - a)) (List.replicate (Wal.sz D) z128)) (1 - L.se) (Hh.img { (⟨L.h.st, 1 - L.h.ar, L.h.ba + L.ys.length, 0⟩ : Hh) with st := L.h.st + 1 }) := by unfold rnD; rw [hcl]; rfl
  rw [hgoal]
  have hsz := ok.sz
  have hfit : fst D (1 - a) + Wal.sz D ≤ ((flA D L L.ys.length).f 0).length := by
    rw [hlen]; unfold fst; unfold Wal.sz at *
    rcases (show a = 0 ∨ a = 1 by omega) with rfl | rfl <;> omega
  obtain ⟨D1, hD1⟩ : ∃ D1, flA D L L.ys.length = D1 := ⟨_, rfl⟩
  rw [hD1] at CF HFW HLEN hfit hfs hszq ⊢
  obtain ⟨q, hq⟩ : ∃ q, Wal.sz D = q := ⟨_, rfl⟩
  rw [hq] at hfit hszq hsz ⊢
  obtain ⟨F, hF⟩ : ∃ F, fst D (1 - a) = F := ⟨_, rfl⟩
  rw [hF] at hfit hfs ⊢
  have hcf := clnD_few F (List.replicate q z128) HFW.out
  rw [List.length_replicate] at hcf
  have HCF := Lib.hid (hcf.more (show m + 701 + q ≤ 90000 by omega))
  have HCL := Lib.hid (show 2 ≤ ((clnD D1 F (List.replicate q z128)).f 0).length by rw [clnD_lens]; have := HLEN.out; omega)
  have MK := rows_made q (by omega)
  obtain ⟨AN, hAN⟩ : ∃ AN, madeCells (Value.slice none 0 0).cells (q * 1) = AN := ⟨_, rfl⟩
  have HAN := Lib.hid hAN
  rw [hAN] at MK
  clear hAN
  have HF := Lib.hid hfs
  have HQ := Lib.hid hszq
  have HFIT := Lib.hid hfit
  have HSZ := Lib.hid hsz
  obtain ⟨D2, hD2⟩ : ∃ D2, clnD D1 F (List.replicate q z128) = D2 := ⟨_, rfl⟩
  have HD2 := Lib.hid hD2
  rw [hD2] at HCF HCL ⊢
  have HA := Lib.hid ha
  have HA1 := Lib.hid ha1
  clear h ok hw hm hfw hlen h18 hD1 hgoal h0 ha hcl hF hq hfit hfs hszq hsz hcf hD2
  go_enter Try.func24, Try.ntmps24
  go_wp2_with fail
  (with_reducible refine (CF.out).mono ?_)
  rintro e w1 ⟨rfl, h1, hf1⟩
  obtain ⟨S, A, c, At, ct, g1, g2, g3, g4, g5, g6, g7, g8, g9⟩ := h1
  dsimp only at g1 g3 g4 g6 g7
  have X1 := Lib.hid g1
  have X2 := Lib.hid g2
  have HSO := Lib.hid (show ∀ x, S x → x < w1.heap.size from g2.old)
  have G5 := Lib.hid g5
  have P := Lib.hid (⟨g3, g4, g6, g7, g8, g9⟩ : _ ∧ _ ∧ _ ∧ _ ∧ _ ∧ _)
  have HF1 := Lib.hid hf1
  have CO := Lib.hid (fun W (hb : Below w1.heap.size w1 W) => by
    have := other_dx (g2.later hb) (g1.later hb) (by have := HLEN.out; omega) a HA.out HA1.out
    rw [HF.out] at this
    exact this)
  have CS := Lib.hid (fun W (hb : Below w1.heap.size w1 W) => by
    have := size_dx (g2.later hb) (by have := HLEN.out; omega)
    rw [HQ.out] at this
    exact this)
  clear g1 g2 g3 g4 g5 g6 g7 g8 g9 hf1
  go_upto_region 1 with fail
  refine wp_region_end (by kernel_rfl) (by kernel_rfl) 12 (fun W W' => Fr S W W') (fun W => ∃ S2, DX W S2 g fv D2 ∧ Mv w1 S W S2) [(fun v _ => v = .pointer (some ⟨t, 0, none⟩)), (fun v _ => v = .pointer (some ⟨t, 0, none⟩)), (fun v _ => v = .pointer (some ⟨t, 0, none⟩)), (fun v _ => v = .pointer (some ⟨g, 0, none⟩)), (fun v _ => v = .pointer (some ⟨t, 0, none⟩)), (fun v _ => v = .int .i64 F), (fun v _ => v = .pointer (some ⟨t, 0, none⟩)), (fun v _ => v = .pointer (some ⟨t, 0, none⟩)), (fun v _ => v = .pointer (some ⟨t, 0, none⟩)), (fun v _ => v = .pointer (some ⟨g, 0, none⟩)), (fun v _ => v = .int .i64 q), (fun v W => ∃ z, v = .slice (some ⟨z, 0, none⟩) q q ∧ w1.heap.size ≤ z ∧ Box W z AN 48), (fun v _ => v = undef)] (fun W W' hb h => by obtain ⟨S2, h1, h2⟩ := h; exact ⟨S2, h1.later hb, h2.later hb⟩) ?_ (fun vals => ?_) (fun vals W hfin hall => ?_) (by decide)
  · intro j v W W' hj hr h
    match j, hj, h with
    | 0, _, h => exact h
    | 1, _, h => exact h
    | 2, _, h => exact h
    | 3, _, h => exact h
    | 4, _, h => exact h
    | 5, _, h => exact h
    | 6, _, h => exact h
    | 7, _, h => exact h
    | 8, _, h => exact h
    | 9, _, h => exact h
    | 10, _, h => exact h
    | 11, _, h => obtain ⟨z, e1, e2, e3⟩ := h; exact ⟨z, e1, e2, by rcases hr with hr | hr; (exact e3.fr hr (fun hs => by have := HSO.out _ hs; omega)); (exact e3.later hr)⟩
    | 12, hj, _ => exact absurd rfl hj
    | _ + 13, _, _ => trivial
  · simp only [ObL, Act.put, List.setIfInBounds_toArray, List.set_cons_succ, List.set_cons_zero]
    refine ⟨?_, ?_, ?_, ?_, ?_, ?_, ?_, ?_, ?_, ?_, ?_, ?_, ?_, trivial⟩
    · intro LL W hL hk hC hw
      clear hw
      clear hL hC hk
      refine step_plain rfl ?_
      go_simp
      first | exact ⟨Re.same (by decide), Fe.val (by decide) rfl rfl⟩ | exact ⟨_, rfl, Re.same (by decide), Fe.val (by decide) rfl rfl⟩
    · intro LL W hL hk hC hw
      have f0 : vals 0 = .pointer (some ⟨t, 0, none⟩) := Fe.get (hw ⟨0, .data⟩ (by simp) rfl) (by decide)
      clear hw
      clear hL hC hk
      refine step_plain rfl ?_
      go_simp
      first | exact ⟨Re.same (by decide), Fe.val (by decide) rfl rfl⟩ | exact ⟨_, rfl, Re.same (by decide), Fe.val (by decide) rfl rfl⟩
    · intro LL W hL hk hC hw
      have f1 : vals 1 = .pointer (some ⟨t, 0, none⟩) := Fe.get (hw ⟨1, .data⟩ (by simp) rfl) (by decide)
      clear hw
      clear hL hC hk
      refine step_plain rfl ?_
      go_simp
      first | exact ⟨Re.same (by decide), Fe.val (by decide) rfl rfl⟩ | exact ⟨_, rfl, Re.same (by decide), Fe.val (by decide) rfl rfl⟩
    · intro LL W hL hk hC hw
      have f2 : vals 2 = .pointer (some ⟨t, 0, none⟩) := Fe.get (hw ⟨2, .data⟩ (by simp) rfl) (by decide)
      clear hw
      have hb := hC (hL.not_yet hk 12 8 (by decide +kernel))
      have kc : W.cell? ⟨t, 0, none⟩ = some (.pointer (some ⟨g, 0, none⟩)) := (X1.out.later hb).cell 0
      clear hL hC hk hb
      refine step_plain rfl ?_
      go_simp
      first | exact ⟨Re.same (by decide), Fe.val (by decide) rfl rfl⟩ | exact ⟨_, rfl, Re.same (by decide), Fe.val (by decide) rfl rfl⟩
    · intro LL W hL hk hC hw
      clear hw
      clear hL hC hk
      refine step_plain rfl ?_
      go_simp
      first | exact ⟨Re.same (by decide), Fe.val (by decide) rfl rfl⟩ | exact ⟨_, rfl, Re.same (by decide), Fe.val (by decide) rfl rfl⟩
    · intro LL W hL hk hC hw
      have f4 : vals 4 = .pointer (some ⟨t, 0, none⟩) := Fe.get (hw ⟨4, .data⟩ (by simp) rfl) (by decide)
      clear hw
      have hb := hC (hL.not_yet hk 12 8 (by decide +kernel))
      have CL := Lib.hid (CO.out W hb)
      clear hL hC hk hb
      refine step_plain rfl ?_
      go_simp
      (with_reducible refine CL.out.mono ?_)
      rintro e w8 ⟨rfl, hb8⟩
      first | exact ⟨Re.of (by decide) hb8, Fe.val (by decide) rfl rfl⟩ | exact ⟨_, rfl, Re.of (by decide) hb8, Fe.val (by decide) rfl rfl⟩
    · intro LL W hL hk hC hw
      clear hw
      clear hL hC hk
      refine step_plain rfl ?_
      go_simp
      first | exact ⟨Re.same (by decide), Fe.val (by decide) rfl rfl⟩ | exact ⟨_, rfl, Re.same (by decide), Fe.val (by decide) rfl rfl⟩
    · intro LL W hL hk hC hw
      have f6 : vals 6 = .pointer (some ⟨t, 0, none⟩) := Fe.get (hw ⟨6, .data⟩ (by simp) rfl) (by decide)
      clear hw
      clear hL hC hk
      refine step_plain rfl ?_
      go_simp
      first | exact ⟨Re.same (by decide), Fe.val (by decide) rfl rfl⟩ | exact ⟨_, rfl, Re.same (by decide), Fe.val (by decide) rfl rfl⟩
    · intro LL W hL hk hC hw
      have f7 : vals 7 = .pointer (some ⟨t, 0, none⟩) := Fe.get (hw ⟨7, .data⟩ (by simp) rfl) (by decide)
      clear hw
      clear hL hC hk
      refine step_plain rfl ?_
      go_simp
      first | exact ⟨Re.same (by decide), Fe.val (by decide) rfl rfl⟩ | exact ⟨_, rfl, Re.same (by decide), Fe.val (by decide) rfl rfl⟩
    · intro LL W hL hk hC hw
      have f8 : vals 8 = .pointer (some ⟨t, 0, none⟩) := Fe.get (hw ⟨8, .data⟩ (by simp) rfl) (by decide)
      clear hw
      have hb := hC (hL.not_yet hk 12 8 (by decide +kernel))
      have kc : W.cell? ⟨t, 0, none⟩ = some (.pointer (some ⟨g, 0, none⟩)) := (X1.out.later hb).cell 0
      clear hL hC hk hb
      refine step_plain rfl ?_
      go_simp
      first | exact ⟨Re.same (by decide), Fe.val (by decide) rfl rfl⟩ | exact ⟨_, rfl, Re.same (by decide), Fe.val (by decide) rfl rfl⟩
    · intro LL W hL hk hC hw
      have f9 : vals 9 = .pointer (some ⟨g, 0, none⟩) := Fe.get (hw ⟨9, .data⟩ (by simp) rfl) (by decide)
      clear hw
      have hb := hC (hL.not_yet hk 12 8 (by decide +kernel))
      have CL := Lib.hid (CS.out W hb)
      clear hL hC hk hb
      refine step_plain rfl ?_
      go_simp
      (with_reducible refine CL.out.mono ?_)
      rintro e w8 ⟨rfl, rfl⟩
      first | exact ⟨Re.same (by decide), Fe.val (by decide) rfl rfl⟩ | exact ⟨_, rfl, Re.same (by decide), Fe.val (by decide) rfl rfl⟩
    · intro LL W hL hk hC hw
      have f10 : vals 10 = .int .i64 q := Fe.get (hw ⟨10, .data⟩ (by simp) rfl) (by decide)
      clear hw
      have hb := hC (hL.not_yet hk 12 8 (by decide +kernel))
      have mk := MK W
      have hz := new_ (Below.refl W.heap.size W) (.cells AN 48)
      have hs := Lib.hid hb.size
      clear hL hC hk hb
      refine step_plain rfl ?_
      go_simp
      first | exact ⟨Re.of (by decide) hz, Fe.val (by decide) rfl ⟨_, rfl, hs.out, Box.new _ _ _⟩⟩ | exact ⟨_, rfl, Re.of (by decide) hz, Fe.val (by decide) rfl ⟨_, rfl, hs.out, Box.new _ _ _⟩⟩
    · intro LL W hL hk hC hw
      have f3 : vals 3 = .pointer (some ⟨g, 0, none⟩) := Fe.get (hw ⟨3, .data⟩ (by simp) rfl) (by decide)
      have f5 : vals 5 = .int .i64 F := Fe.get (hw ⟨5, .data⟩ (by simp) rfl) (by decide)
      have f11 : ∃ z, (vals 11) = .slice (some ⟨z, 0, none⟩) q q ∧ w1.heap.size ≤ z ∧ Box W z AN 48 := Fe.get (hw ⟨11, .data⟩ (by simp) rfl) (by decide)
      clear hw
      have hb := hC hk
      obtain ⟨z, e11, hz, bz⟩ := f11
      have CL := Lib.hid (clean_any (X2.out.later hb) (m + 701) HFW.out (by have := HM.out; omega) F (.slice (some ⟨z, 0, none⟩) q q) (nils q) (fun w' S' hm => nils_sr (by rw [HAN.out]; exact bz.fr hm.fr (fun hs => by have := HSO.out _ hs; omega)) (by have := HSZ.out; omega)) (nils_ok q) (by rw [nils_len]; exact HFIT.out))
      rw [nils_want, HD2.out] at CL
      have HB9 := Lib.hid hb
      clear hL hC hk hb bz
      refine step_plain rfl ?_
      go_simp
      (with_reducible refine CL.out.mono ?_)
      rintro e w8 ⟨rfl, S8, hd8, hm8⟩
      first | exact ⟨Re.last hm8.fr, Fe.last ⟨S8, hd8, (Mv.of_below HB9.out S).trans hm8⟩⟩ | exact ⟨_, rfl, Re.last hm8.fr, Fe.last ⟨S8, hd8, (Mv.of_below HB9.out S).trans hm8⟩⟩
  · simp only [TL, Act.put, List.setIfInBounds_toArray, List.set_cons_succ, List.set_cons_zero]
    obtain ⟨w3, rfl⟩ : ∃ w3, w3 = W := ⟨W, rfl⟩
    obtain ⟨S2, hd2, hm2⟩ := hfin
    have X3 := mv_box X1.out hm2 G5.out
    have HX3 := Lib.hid X3
    have HD3 := Lib.hid hd2
    have HM3 := Lib.hid hm2
    clear hall hd2 hm2 X3
    have nb := HX3.out.1
    have CE := Lib.hid (fun W' (hb : Below w3.heap.size w3 W') => end_any W' (nb.later hb) (by have := OK.out.ba; have := OK.out.nn; omega) (by have := OK.out.nn; omega))
    obtain ⟨st, hst⟩ : ∃ st, L.h.st = st := ⟨_, rfl⟩
    obtain ⟨ba, hba⟩ : ∃ ba, L.h.ba + (L.ys.length : Int) = ba := ⟨_, rfl⟩
    rw [hba] at CE
    obtain ⟨ar2, har2⟩ : ∃ ar2, 1 - L.h.ar = ar2 := ⟨_, rfl⟩
    have r1 : IntKind.u8.wrap (1 - L.h.ar) = ar2 := by have := OK.out.ok.ar; have := OK.out.ar; rw [IntKind.wrap_u8]; omega
    have HST := Lib.hid hst
    have HBA := Lib.hid hba
    have HAR := Lib.hid har2
    clear nb hst hba har2
    have HW0 := Lib.hid (show DX w3 S2 g fv D2 ∧ ¬ S2 t ∧ Mv w1 S w3 S2 from ⟨HD3.out, HX3.out.2, HM3.out⟩)
    go_upto_region 2 with fail
    refine wp_region_end (by kernel_rfl) (by kernel_rfl) 17 (fun W W' => Fr (fun x => x = t) W W') (fun V => Box V t #[.pointer (some ⟨g, 0, none⟩), .int .u64 st, .int .u8 ar2, .int .u64 ba, .int .u64 0, .int .i64 L.se, .slice A L.ys.length c, .slice At L.ss.length ct, .int .i64 (L.ys.length : Nat)] 89 ∧ Fr (fun x => x = t) w3 V) [(fun v _ => v = .pointer (some ⟨t, 0, none⟩)), (fun v _ => v = .pointer (some ⟨t, 0, none⟩)), (fun v _ => v = .pointer (some ⟨t, 0, none⟩)), (fun v _ => v = .pointer (some ⟨t, 1, none⟩)), (fun v _ => v = .pointer (some ⟨t, 1, none⟩)), (fun v _ => v = .int .u64 st), (fun v _ => v = .pointer (some ⟨t, 0, none⟩)), (fun v _ => v = .pointer (some ⟨t, 0, none⟩)), (fun v _ => v = .pointer (some ⟨t, 1, none⟩)), (fun v _ => v = .pointer (some ⟨t, 2, none⟩)), (fun v _ => v = .int .u8 L.h.ar), (fun v _ => v = .int .u8 ar2), (fun v _ => v = .pointer (some ⟨t, 0, none⟩)), (fun v _ => v = .int .u64 ba), (fun v _ => v = .agg #[.int .u64 st, .int .u8 ar2, .int .u64 ba, .int .u64 0]), (fun v _ => v = .pointer (some ⟨t, 0, none⟩)), (fun v _ => v = .pointer (some ⟨t, 1, none⟩)), (fun v _ => v = undef)] (fun W W' hb h => ⟨h.1.later hb, h.2.below hb⟩) ?_ (fun vals => ?_) (fun vals W hfin hall => ?_) (by decide)
    · intro j v W W' hj hr h
      match j, hj, h with
      | 0, _, h => exact h
      | 1, _, h => exact h
      | 2, _, h => exact h
      | 3, _, h => exact h
      | 4, _, h => exact h
      | 5, _, h => exact h
      | 6, _, h => exact h
      | 7, _, h => exact h
      | 8, _, h => exact h
      | 9, _, h => exact h
      | 10, _, h => exact h
      | 11, _, h => exact h
      | 12, _, h => exact h
      | 13, _, h => exact h
      | 14, _, h => exact h
      | 15, _, h => exact h
      | 16, _, h => exact h
      | 17, hj, _ => exact absurd rfl hj
      | _ + 18, _, _ => trivial
    · simp only [ObL, Act.put, List.setIfInBounds_toArray, List.set_cons_succ, List.set_cons_zero]
      refine ⟨?_, ?_, ?_, ?_, ?_, ?_, ?_, ?_, ?_, ?_, ?_, ?_, ?_, ?_, ?_, ?_, ?_, ?_, trivial⟩
      · intro LL W hL hk hC hw
        clear hw
        clear hL hC hk
        refine step_plain rfl ?_
        go_simp
        first | exact ⟨Re.same (by decide), Fe.val (by decide) rfl rfl⟩ | exact ⟨_, rfl, Re.same (by decide), Fe.val (by decide) rfl rfl⟩
      · intro LL W hL hk hC hw
        clear hw
        clear hL hC hk
        refine step_plain rfl ?_
        go_simp
        first | exact ⟨Re.same (by decide), Fe.val (by decide) rfl rfl⟩ | exact ⟨_, rfl, Re.same (by decide), Fe.val (by decide) rfl rfl⟩
      · intro LL W hL hk hC hw
        have f1 : vals 1 = .pointer (some ⟨t, 0, none⟩) := Fe.get (hw ⟨1, .data⟩ (by simp) rfl) (by decide)
        clear hw
        clear hL hC hk
        refine step_plain rfl ?_
        go_simp
        first | exact ⟨Re.same (by decide), Fe.val (by decide) rfl rfl⟩ | exact ⟨_, rfl, Re.same (by decide), Fe.val (by decide) rfl rfl⟩
      · intro LL W hL hk hC hw
        have f2 : vals 2 = .pointer (some ⟨t, 0, none⟩) := Fe.get (hw ⟨2, .data⟩ (by simp) rfl) (by decide)
        clear hw
        clear hL hC hk
        refine step_plain rfl ?_
        go_simp
        first | exact ⟨Re.same (by decide), Fe.val (by decide) rfl rfl⟩ | exact ⟨_, rfl, Re.same (by decide), Fe.val (by decide) rfl rfl⟩
      · intro LL W hL hk hC hw
        have f3 : vals 3 = .pointer (some ⟨t, 1, none⟩) := Fe.get (hw ⟨3, .data⟩ (by simp) rfl) (by decide)
        clear hw
        clear hL hC hk
        refine step_plain rfl ?_
        go_simp
        first | exact ⟨Re.same (by decide), Fe.val (by decide) rfl rfl⟩ | exact ⟨_, rfl, Re.same (by decide), Fe.val (by decide) rfl rfl⟩
      · intro LL W hL hk hC hw
        have f4 : vals 4 = .pointer (some ⟨t, 1, none⟩) := Fe.get (hw ⟨4, .data⟩ (by simp) rfl) (by decide)
        clear hw
        have hb := hC (hL.not_yet hk 17 8 (by decide +kernel))
        have kc : W.cell? ⟨t, 1, none⟩ = some (.int .u64 st) := by rw [← HST.out]; exact (HX3.out.1.later hb).cell 1
        clear hL hC hk hb
        refine step_plain rfl ?_
        go_simp
        first | exact ⟨Re.same (by decide), Fe.val (by decide) rfl rfl⟩ | exact ⟨_, rfl, Re.same (by decide), Fe.val (by decide) rfl rfl⟩
      · intro LL W hL hk hC hw
        clear hw
        clear hL hC hk
        refine step_plain rfl ?_
        go_simp
        first | exact ⟨Re.same (by decide), Fe.val (by decide) rfl rfl⟩ | exact ⟨_, rfl, Re.same (by decide), Fe.val (by decide) rfl rfl⟩
      · intro LL W hL hk hC hw
        have f6 : vals 6 = .pointer (some ⟨t, 0, none⟩) := Fe.get (hw ⟨6, .data⟩ (by simp) rfl) (by decide)
        clear hw
        clear hL hC hk
        refine step_plain rfl ?_
        go_simp
        first | exact ⟨Re.same (by decide), Fe.val (by decide) rfl rfl⟩ | exact ⟨_, rfl, Re.same (by decide), Fe.val (by decide) rfl rfl⟩
      · intro LL W hL hk hC hw
        have f7 : vals 7 = .pointer (some ⟨t, 0, none⟩) := Fe.get (hw ⟨7, .data⟩ (by simp) rfl) (by decide)
        clear hw
        clear hL hC hk
        refine step_plain rfl ?_
        go_simp
        first | exact ⟨Re.same (by decide), Fe.val (by decide) rfl rfl⟩ | exact ⟨_, rfl, Re.same (by decide), Fe.val (by decide) rfl rfl⟩
      · intro LL W hL hk hC hw
        have f8 : vals 8 = .pointer (some ⟨t, 1, none⟩) := Fe.get (hw ⟨8, .data⟩ (by simp) rfl) (by decide)
        clear hw
        clear hL hC hk
        refine step_plain rfl ?_
        go_simp
        first | exact ⟨Re.same (by decide), Fe.val (by decide) rfl rfl⟩ | exact ⟨_, rfl, Re.same (by decide), Fe.val (by decide) rfl rfl⟩
      · intro LL W hL hk hC hw
        have f9 : vals 9 = .pointer (some ⟨t, 2, none⟩) := Fe.get (hw ⟨9, .data⟩ (by simp) rfl) (by decide)
        clear hw
        have hb := hC (hL.not_yet hk 17 8 (by decide +kernel))
        have kc : W.cell? ⟨t, 2, none⟩ = some (.int .u8 L.h.ar) := (HX3.out.1.later hb).cell 2
        clear hL hC hk hb
        refine step_plain rfl ?_
        go_simp
        first | exact ⟨Re.same (by decide), Fe.val (by decide) rfl rfl⟩ | exact ⟨_, rfl, Re.same (by decide), Fe.val (by decide) rfl rfl⟩
      · intro LL W hL hk hC hw
        have f10 : vals 10 = .int .u8 L.h.ar := Fe.get (hw ⟨10, .data⟩ (by simp) rfl) (by decide)
        clear hw
        clear hL hC hk
        refine step_plain rfl ?_
        go_simp
        first | exact ⟨Re.same (by decide), Fe.val (by decide) rfl rfl⟩ | exact ⟨_, rfl, Re.same (by decide), Fe.val (by decide) rfl rfl⟩
      · intro LL W hL hk hC hw
        clear hw
        clear hL hC hk
        refine step_plain rfl ?_
        go_simp
        first | exact ⟨Re.same (by decide), Fe.val (by decide) rfl rfl⟩ | exact ⟨_, rfl, Re.same (by decide), Fe.val (by decide) rfl rfl⟩
      · intro LL W hL hk hC hw
        have f12 : vals 12 = .pointer (some ⟨t, 0, none⟩) := Fe.get (hw ⟨12, .data⟩ (by simp) rfl) (by decide)
        clear hw
        have hb := hC (hL.not_yet hk 17 8 (by decide +kernel))
        have CL := Lib.hid (CE.out W hb)
        clear hL hC hk hb
        refine step_plain rfl ?_
        go_simp
        (with_reducible refine CL.out.mono ?_)
        rintro e w8 ⟨rfl, rfl⟩
        first | exact ⟨Re.same (by decide), Fe.val (by decide) rfl rfl⟩ | exact ⟨_, rfl, Re.same (by decide), Fe.val (by decide) rfl rfl⟩
      · intro LL W hL hk hC hw
        have f5 : vals 5 = .int .u64 st := Fe.get (hw ⟨5, .data⟩ (by simp) rfl) (by decide)
        have f11 : vals 11 = .int .u8 ar2 := Fe.get (hw ⟨11, .data⟩ (by simp) rfl) (by decide)
        have f13 : vals 13 = .int .u64 ba := Fe.get (hw ⟨13, .data⟩ (by simp) rfl) (by decide)
        clear hw
        clear hL hC hk
        refine step_plain rfl ?_
        go_simp
        first | exact ⟨Re.same (by decide), Fe.val (by decide) rfl rfl⟩ | exact ⟨_, rfl, Re.same (by decide), Fe.val (by decide) rfl rfl⟩
      · intro LL W hL hk hC hw
        have f0 : vals 0 = .pointer (some ⟨t, 0, none⟩) := Fe.get (hw ⟨0, .data⟩ (by simp) rfl) (by decide)
        clear hw
        clear hL hC hk
        refine step_plain rfl ?_
        go_simp
        first | exact ⟨Re.same (by decide), Fe.val (by decide) rfl rfl⟩ | exact ⟨_, rfl, Re.same (by decide), Fe.val (by decide) rfl rfl⟩
      · intro LL W hL hk hC hw
        have f15 : vals 15 = .pointer (some ⟨t, 0, none⟩) := Fe.get (hw ⟨15, .data⟩ (by simp) rfl) (by decide)
        clear hw
        clear hL hC hk
        refine step_plain rfl ?_
        go_simp
        first | exact ⟨Re.same (by decide), Fe.val (by decide) rfl rfl⟩ | exact ⟨_, rfl, Re.same (by decide), Fe.val (by decide) rfl rfl⟩
      · intro LL W hL hk hC hw
        have f16 : vals 16 = .pointer (some ⟨t, 1, none⟩) := Fe.get (hw ⟨16, .data⟩ (by simp) rfl) (by decide)
        have f14 : vals 14 = .agg #[.int .u64 st, .int .u8 ar2, .int .u64 ba, .int .u64 0] := Fe.get (hw ⟨14, .data⟩ (by simp) rfl) (by decide)
        clear hw
        have hb := hC hk
        have bx := HX3.out.1.later hb
        have HB9 := Lib.hid hb
        have c1 : W.cell? ⟨t, 1, none⟩ = some (.int .u64 L.h.st) := bx.cell 1
        have f1 := bx.frozen 1
        have f2 := bx.frozen 2
        have f3 := bx.frozen 3
        have f4 := bx.frozen 4
        have c2 : W.cell? ⟨t, 2, none⟩ = some (.int .u8 L.h.ar) := bx.cell 2
        have c3 : W.cell? ⟨t, 3, none⟩ = some (.int .u64 L.h.ba) := bx.cell 3
        have c4 : W.cell? ⟨t, 4, none⟩ = some (.int .u64 L.h.ch) := bx.cell 4
        have b4 := (((bx.set_ 1 (.int .u64 st)).set_ 2 (.int .u8 ar2)).set_ 3 (.int .u64 ba)).set_ 4 (.int .u64 0)
        have f9 := ((((Fr.refl (fun x => x = t) W).setCell (p := ⟨t, 1, none⟩) (.inl rfl) (.int .u64 st)).setCell (p := ⟨t, 2, none⟩) (.inl rfl) (.int .u8 ar2)).setCell (p := ⟨t, 3, none⟩) (.inl rfl) (.int .u64 ba)).setCell (p := ⟨t, 4, none⟩) (.inl rfl) (.int .u64 0)
        simp only [List.setIfInBounds_toArray, List.set_cons_succ, List.set_cons_zero] at b4
        clear hL hC hk hb bx
        refine step_plain rfl ?_
        go_simp
        exact ⟨Re.last f9, undef, Fe.last ⟨b4, (Fr.of_below HB9.out).trans f9⟩⟩
    · simp only [TL, Act.put, List.setIfInBounds_toArray, List.set_cons_succ, List.set_cons_zero]
      obtain ⟨b4, f4⟩ := hfin
      clear hall
      have k6 := b4.cell 6
      have k7 := b4.cell 7
      have k8 := b4.cell 8
      have n6 := b4.frozen 6
      have n7 := b4.frozen 7
      have n8 := b4.frozen 8
      have b5 := ((b4.set_ 6 (.slice none 0 0)).set_ 7 (.slice none 0 0)).set_ 8 (.int .i64 0)
      simp only [List.setIfInBounds_toArray, List.set_cons_succ, List.set_cons_zero] at b5
      have f5 := (((Fr.refl (fun x => x = t) W).setCell (p := ⟨t, 6, none⟩) (.inl rfl) (.slice none 0 0)).setCell (p := ⟨t, 7, none⟩) (.inl rfl) (.slice none 0 0)).setCell (p := ⟨t, 8, none⟩) (.inl rfl) (.int .i64 0)
      obtain ⟨w5, hw5⟩ : ∃ w5, (((W.setCell ⟨t, 6, none⟩ (.slice none 0 0)).setCell ⟨t, 7, none⟩ (.slice none 0 0)).setCell ⟨t, 8, none⟩ (.int .i64 0)) = w5 := ⟨_, rfl⟩
      rw [hw5] at b5 f5
      have hd5 := (HW0.out.1.far f4 (fun x hx e => HW0.out.2.1 (e ▸ hx))).far f5 (fun x hx e => HW0.out.2.1 (e ▸ hx))
      have CH := Lib.hid (head_any hd5 HCF.out t ⟨st, ar2, ba, 0⟩ L.se 0 _ _ b5 HW0.out.2.1 (by
        have h1 := OK.out
        have := h1.ok.st; have := h1.st; have := h1.ok.ar; have := h1.ar; have := h1.ba; have := h1.nn; have := HST.out; have := HBA.out; have := HAR.out
        exact ⟨by dsimp only; omega, by dsimp only; omega, by dsimp only; omega, by dsimp only; omega⟩) (by have := OK.out.st; have := HST.out; dsimp only; omega) OK.out.se HCL.out)
      have HF5 := Lib.hid (f4.trans f5)
      clear b4 f4 b5 f5 hd5
      go_wp2_with fail
      (with_reducible refine CH.out.mono ?_)
      rintro e w6 ⟨rfl, c1, S6, c2, c3, c4, c5⟩
      have C1 := Lib.hid c1
      have C2 := Lib.hid c2
      have C3 := Lib.hid c3
      have C4 := Lib.hid c4
      have C5 := Lib.hid c5
      clear c1 c2 c3 c4 c5
      go_wp2
      go_end0
      obtain ⟨p3, p4, p6, p7, p8, p9⟩ := P.out
      obtain ⟨d1, d2, d3⟩ := HW0.out
      have z1 := d3.fr.size
      have z2 := HF5.out.size
      have z3 := C3.out.size
      have fT : Fr T w w6 := fr_grow HF1.out ((d3.fr.mono (fun x _ hx => p8 x hx)).trans' ((HF5.out.mono (S' := fun x => S2 x ∨ x = t) (fun _ _ hx => .inr hx)).trans C3.out) (fun x hx hx2 => by
        rcases hx2 with h | h
        · exact p8 x ((d3.new x h).resolve_right (by omega))
        · rw [h]; exact p9))
      have e1 : rnL L = ⟨⟨st + 1, ar2, ba, 0⟩, 1 - L.se, [], [], 0⟩ := by unfold rnL; rw [HST.out, HBA.out, HAR.out]
      rw [HST.out, HBA.out, HAR.out, e1]
      have z0 := HF1.out.size
      refine ⟨rfl, ⟨S6, none, 0, none, 0, C1.out, C2.out, World.ownsRow_nil _ _ _ _, World.ownsRow_nil _ _ _ _, C5.out, (fun k hk => by cases hk), (fun k hk => by cases hk), fun x hx => ?_, ?_⟩, fT⟩
      · rcases C4.out x hx with h | h
        · rcases d3.new x h with h' | h'
          · rcases p8 x h' with h2 | h2
            · exact .inl h2
            · exact .inr ⟨h2.1, by omega⟩
          · exact .inr ⟨by omega, C2.out.old x hx⟩
        · exact .inr ⟨by omega, C2.out.old x hx⟩
      · rcases p9 with h2 | h2
        · exact .inl h2
        · exact .inr ⟨h2.1, by omega⟩
end
end Go.Proofs.Yteggcehjpfmikaa.Wal
namespace Go.Proofs.Yteggcehjpfmikaa.Wal
open Go.ChangeShapes Go.WideShapes Go.ChangeAt Go.RowKit Go.IntWalk Go.Proofs.Mem Go.Proofs.Each Law Go.Proofs.Yteggcehjpfmikaa.Disk Strip Rec
set_option linter.unusedVariables false
set_option linter.unusedSimpArgs false
section
variable {w : World} {T : Nat → Prop} {t g : Nat} {fv : Nat → Value} {D : Dv} {L : Lv}
def apL (L : Lv) (r : Rc) : Lv := ⟨L.h, L.se, L.ys ++ encS r, L.ss ++ [(L.ys.length : Int)], L.la⟩
def apE (D : Dv) (L : Lv) (r : Rc) (sp : Nat) : Nat := if mayS r = false then 61 else if L.ys.length + (encS r).length + sp ≤ Wal.sz D * 127 then 0 else 80
theorem append_any (h : LgAt w T t g fv D L) (ok : LvOk D L) (r : Rc) (hr : r.Ok) (a b ta da : Value) (hi : RcIn w w.heap.size r a b ta da) (sp : Nat) (hsp : sp ≤ 18446744073709551615) :
    Calls Try.prog 23 #[.pointer (some ⟨t, 0, none⟩), .agg (rcV r a b ta da), .int .u64 sp] w fun e w' => e = .returned (.tuple #[.int .u64 (if apE D L r sp = 0 then L.h.ba + L.ys.length else 0), .int .u16 (apE D L r sp)]) ∧ LgAt w' (growS w w' T) t g fv D (if apE D L r sp = 0 then apL L r else L) ∧ Fr T w w' := by
  obtain ⟨S, A, c, At, ct, h1, h2, h3, h4, h5, h6, h7, h8, h9⟩ := id h
  have no : ∀ {e : Ending} {w' : World} {E : Nat}, E ≠ 0 → apE D L r sp = E → e = .returned (.tuple #[.int .u64 0, .int .u16 E]) → Below w.heap.size w w' → e = .returned (.tuple #[.int .u64 (if apE D L r sp = 0 then L.h.ba + L.ys.length else 0), .int .u16 (apE D L r sp)]) ∧ LgAt w' (growS w w' T) t g fv D (if apE D L r sp = 0 then apL L r else L) ∧ Fr T w w' := fun {e w' E} h0 hE he hb => by
    rw [hE, if_neg h0, if_neg h0]
    exact ⟨he, (h.later hb).more (fun x hx => .inl hx), Fr.of_below hb⟩
  cases hm : mayS r with
  | false =>
    refine (append_bad r hm a b ta da hi t sp).mono ?_
    rintro e w' ⟨rfl, hb⟩
    exact no (E := 61) (by decide) (by unfold apE; rw [if_pos hm]) rfl hb
  | true =>
    by_cases hf : L.ys.length + (encS r).length + sp ≤ Wal.sz D * 127
    · have hE : apE D L r sp = 0 := by unfold apE; rw [if_neg (by rw [hm]; decide), if_pos hf]
      refine (append_yes h1 h2 (by have := ok.len18; omega) h3 h4 ok.ssl (by have := ok.ba; have := ok.nn; omega) r hr hm a b ta da hi sp hsp hf).mono ?_
      rintro e w' ⟨rfl, sv, tv, b1, b2, b3, b4, b5, b6⟩
      rw [hE, if_pos rfl, if_pos rfl]
      have hT : Fr T w w' := b4.mono (fun x _ hx => by
        rcases hx with hx | hx | hx
        · rw [hx]; exact h9
        · exact (h6 x hx).2
        · exact (h7 x hx).2)
      have hS : DX w' S g fv D := h2.far b4 (fun x hx hx2 => by
        rcases hx2 with h | h | h
        · exact h5 (h ▸ hx)
        · exact (h6 x h).1 hx
        · exact (h7 x h).1 hx)
      obtain ⟨A2, c2, e2⟩ := own_slice' b2
      obtain ⟨A3, c3, e3⟩ := own_slice' b3
      subst e2 e3
      have l1 : (apL L r).ys.length = L.ys.length + (encS r).length := by unfold apL; rw [List.length_append]
      have l2 : (apL L r).ss.length = L.ss.length + 1 := by unfold apL; rw [List.length_append]; rfl
      have e4 : (apL L r).ss.map (Value.int .i64) = L.ss.map (.int .i64) ++ [.int .i64 (L.ys.length : Int)] := by unfold apL; simp
      refine ⟨rfl, ⟨S, A2, c2, A3, c3, by rw [l1, l2]; exact b1, hS, by rw [l1]; exact b2, by rw [l2, e4]; exact b3, h5, fun k hk => ?_, fun k hk => ?_, fun x hx => .inl (h8 x hx), .inl h9⟩, hT⟩
      · rw [l1] at hk
        rcases b5 with h' | h'
        · rw [h'] at hk; exact ⟨(h6 k hk).1, .inl (h6 k hk).2⟩
        · have := h' k hk
          exact ⟨fun hs => by have := h2.old k hs; omega, .inr ⟨this, (b2.lt k hk).2⟩⟩
      · rw [l2] at hk
        rcases b6 with h' | h'
        · rw [h'] at hk; exact ⟨(h7 k hk).1, .inl (h7 k hk).2⟩
        · have := h' k hk
          exact ⟨fun hs => by have := h2.old k hs; omega, .inr ⟨this, (b3.lt k hk).2⟩⟩
    · refine (append_full h1 h2 (by have := ok.len18; omega) ok.len r hr hm a b ta da hi sp hsp hf).mono ?_
      rintro e w' ⟨rfl, hb⟩
      exact no (E := 80) (by decide) (by unfold apE; rw [if_neg (by rw [hm]; decide), if_neg hf]) rfl hb
theorem base_lg (h : LgAt w T t g fv D L) : Calls Try.prog 19 #[.pointer (some ⟨t, 0, none⟩)] w fun e w' => e = .returned (.int .u64 L.h.ba) ∧ w = w' := by
  obtain ⟨S, A, c, At, ct, h1, h2, h3, h4, h5, h6, h7, h8, h9⟩ := id h
  exact base_any w h1
theorem end_lg (h : LgAt w T t g fv D L) (ok : LvOk D L) : Calls Try.prog 15 #[.pointer (some ⟨t, 0, none⟩)] w fun e w' => e = .returned (.int .u64 (L.h.ba + L.ys.length)) ∧ w = w' := by
  obtain ⟨S, A, c, At, ct, h1, h2, h3, h4, h5, h6, h7, h8, h9⟩ := id h
  exact end_any w h1 (by have := ok.ba; have := ok.nn; omega) (by have := ok.nn; omega)
theorem lasts_lg (h : LgAt w T t g fv D L) (ok : LvOk D L) : Calls Try.prog 14 #[.pointer (some ⟨t, 0, none⟩)] w fun e w' => e = .returned (.int .u64 (L.h.ba + L.la)) ∧ w = w' := by
  obtain ⟨S, A, c, At, ct, h1, h2, h3, h4, h5, h6, h7, h8, h9⟩ := id h
  exact lasts_any w h1 (by have := ok.ba; have := ok.nn; have := ok.la; omega)
theorem room_lg (h : LgAt w T t g fv D L) (ok : LvOk D L) : Calls Try.prog 22 #[.pointer (some ⟨t, 0, none⟩)] w fun e w' => e = .returned (.int .u64 (Wal.sz D * 127 - L.ys.length : Nat)) ∧ Below w.heap.size w w' := by
  obtain ⟨S, A, c, At, ct, h1, ⟨col, uv, h2⟩, h3, h4, h5, h6, h7, h8, h9⟩ := id h
  exact room_any w h1 h2 (by have := ok.len18; omega) ok.len
end
end Go.Proofs.Yteggcehjpfmikaa.Wal
namespace Go.Proofs.Yteggcehjpfmikaa.Wal
open Go.ChangeShapes Go.WideShapes Go.ChangeAt Go.RowKit Go.IntWalk Go.Proofs.Mem Go.Proofs.Each Law Go.Proofs.Yteggcehjpfmikaa.Disk NumBytes
set_option linter.unusedVariables false
set_option linter.unusedSimpArgs false
theorem ir_sub {w : World} {B : Nat} {k : IntKind} {b o n c : Nat} {xs : List Int} (h : IR w B k (.slice (some ⟨b, o, none⟩) n c) xs) (i j : Nat) (hi : i ≤ j) (ht : j ≤ n) : IR w B k (.slice (some ⟨b, o + i, none⟩) (j - i) (c - i)) ((xs.drop i).take (j - i)) := by
  obtain ⟨A', c', e, h2, h3, h4, h5⟩ := h
  injection e with e1 e2 e3
  subst e1 e2 e3
  have hl : ((xs.drop i).take (j - i)).length = j - i := by rw [List.length_take, List.length_drop]; omega
  refine ⟨_, c - i, by rw [hl], by rw [hl]; omega, by omega, (fun hh => by cases hh), fun k hk => ?_⟩
  rw [hl] at hk
  obtain ⟨b', off, e, hb, hc⟩ := h5 (i + k) (by omega)
  injection e with e
  injection e with e1 e2
  subst e1 e2
  refine ⟨b, o + i, rfl, hb, ?_⟩
  rw [Nat.add_assoc, hc]
  simp only [List.getD]
  rw [List.getElem?_take, if_pos hk, List.getElem?_drop]
theorem getS_bd {xs : List Int} (h : Bytes xs) (hl : xs.length = 8) : 0 ≤ getS xs ∧ getS xs ≤ 18446744073709551615 := by
  unfold getS
  rw [hl]
  exact ⟨(getTo_lt xs h 8).1, getTo_u64 xs h 8 (Nat.le_refl _)⟩
theorem hOf_ok {xs : List Int} (h : Bytes xs) (hl : xs.length = 128) : (hOf xs).Ok :=
  ⟨getS_bd (fun x hx => h x (List.mem_of_mem_take hx)) (by rw [List.length_take]; omega), h.at_ 8, getS_bd (fun x hx => h x (List.mem_of_mem_drop (List.mem_of_mem_take hx))) (by rw [List.length_take, List.length_drop]; omega), getS_bd (fun x hx => h x (List.mem_of_mem_drop (List.mem_of_mem_take hx))) (by rw [List.length_take, List.length_drop]; omega)⟩
def hdR (o : Option Hh) : Value := .tuple #[.agg (hdC (o.getD ⟨0, 0, 0, 0⟩)), .bool o.isSome]
theorem header_len (A : Option Addr) (n c : Nat) (hn : n ≠ 128) (w : World) :
    Calls Try.prog 54 #[.slice A n c] w fun e w' => e = .returned (hdR none) ∧ Below w.heap.size w w' := by
  have d1 : ((n : Int) != 128) = true := by simp; omega
  clear hn
  go_enter Try.func54, Try.ntmps54
  go_wp2
  refine bodyPost_ret (v := .tuple #[.agg (hdC ⟨0, 0, 0, 0⟩), .bool false]) (by simp [results, Try.results54, go_sem]; try rfl) rfl ?_
  exact ⟨rfl, new_ (Below.refl _ _) _⟩
set_option maxRecDepth 100000 in
set_option maxHeartbeats 8000000 in
theorem header_any (w : World) (v : Value) (xs : List Int) (hv : IR w w.heap.size .u8 v xs) (hx : Bytes xs) :
    Calls Try.prog 54 #[v] w fun e w' => e = .returned (hdR (hParse xs)) ∧ Below w.heap.size w w' := by
  obtain ⟨A, c, rfl, hlc, hcm⟩ := hv.form
  unfold maxLen at hcm
  by_cases hl : xs.length = 128
  · rw [hl] at hv hlc ⊢
    obtain ⟨b, o, rfl, hb0, c8⟩ := hv.index 8 (by omega)
    have ok := hOf_ok hx hl
    have i1 : IR w w.heap.size .u8 (.slice (some ⟨b, o, none⟩) 8 c) (xs.take 8) := hv.take (by omega)
    have i2 : IR w w.heap.size .u8 (.slice (some ⟨b, o + 9, none⟩) 8 (c - 9)) ((xs.drop 9).take (17 - 9)) := ir_sub hv 9 17 (by decide) (by decide)
    have i3 : IR w w.heap.size .u8 (.slice (some ⟨b, o + 17, none⟩) 8 (c - 17)) ((xs.drop 17).take (25 - 17)) := ir_sub hv 17 25 (by decide) (by decide)
    have bx1 : Bytes (xs.take 8) := fun x h => hx x (List.mem_of_mem_take h)
    have bx2 : Bytes ((xs.drop 9).take (17 - 9)) := fun x h => hx x (List.mem_of_mem_drop (List.mem_of_mem_take h))
    have bx3 : Bytes ((xs.drop 17).take (25 - 17)) := fun x h => hx x (List.mem_of_mem_drop (List.mem_of_mem_take h))
    obtain ⟨H, hH⟩ : ∃ H, hOf xs = H := ⟨_, rfl⟩
    have e1 : getS (xs.take 8) = H.st := by rw [← hH]; rfl
    have e2 : getS ((xs.drop 9).take (17 - 9)) = H.ba := by rw [← hH]; rfl
    have e3 : getS ((xs.drop 17).take (25 - 17)) = H.ch := by rw [← hH]; rfl
    have e4 : xs.getD 8 0 = H.ar := by rw [← hH]; rfl
    rw [hH] at ok
    have hp : hParse xs = if H.may ∧ xs = H.img then some H else none := by
      unfold hParse
      rw [hH]
      by_cases h : H.may ∧ xs = H.img
      · rw [if_pos ⟨hl, h⟩, if_pos h]
      · rw [if_neg (fun h' => h h'.2), if_neg h]
    rw [e4] at c8
    obtain ⟨st, ar, ba, ch⟩ := H
    dsimp only at e1 e2 e3 c8
    have ok2 := ok
    obtain ⟨k1, k2, k3, k4⟩ := ok2
    dsimp only at k1 k2 k3 k4
    have G1 := Lib.hid (fun W (hb : Below w.heap.size w W) => by have := get_any _ _ W _ (i1.below hb) bx1; rw [e1] at this; exact this)
    have G2 := Lib.hid (fun W (hb : Below w.heap.size w W) => by have := get_any _ _ W _ (i2.below hb) bx2; rw [e2] at this; exact this)
    have G3 := Lib.hid (fun W (hb : Below w.heap.size w W) => by have := get_any _ _ W _ (i3.below hb) bx3; rw [e3] at this; exact this)
    have IM := Lib.hid (fun W => image_any ⟨st, ar, ba, ch⟩ ok W)
    obtain ⟨im, him⟩ : ∃ im, Hh.img ⟨st, ar, ba, ch⟩ = im := ⟨_, rfl⟩
    have hib := img_bytes ⟨st, ar, ba, ch⟩ k2
    have hil := img_len ⟨st, ar, ba, ch⟩
    rw [him] at IM hp hib hil
    obtain ⟨q5, hq5⟩ : ∃ q, q = decide (xs = im) := ⟨_, rfl⟩
    have EQ := Lib.hid (fun W (hb : Below w.heap.size w W) u B (hu : IR W B .u8 u im) => by have := beq_any _ u _ im W _ _ (hv.below hb) hu hx hib; rw [← hq5] at this; exact this)
    obtain ⟨q1, hq1⟩ : ∃ q, q = (st != 0) := ⟨_, rfl⟩
    obtain ⟨q2, hq2⟩ : ∃ q, q = decide (ar ≤ 1) := ⟨_, rfl⟩
    obtain ⟨q3, hq3⟩ : ∃ q, q = decide (1 ≤ ba) := ⟨_, rfl⟩
    obtain ⟨q4, hq4⟩ : ∃ q, q = decide (ba ≤ 9223372036854775808) := ⟨_, rfl⟩
    have hpq : hParse xs = if (q1 && q2 && q3 && q4 && q5) = true then some ⟨st, ar, ba, ch⟩ else none := by
      rw [hp]
      congr 1
      rw [hq1, hq2, hq3, hq4, hq5]
      unfold Hh.may
      simp only [Bool.and_eq_true, decide_eq_true_eq, bne_iff_ne, ne_eq, and_assoc]
    have HP := Lib.hid hpq
    have d1 := hq1.symm
    have d2 := hq2.symm
    have d3 := hq3.symm
    have d4 := hq4.symm
    have HIL := Lib.hid hil
    have C8 := Lib.hid (show ∀ W, Below w.heap.size w W → W.cell? ⟨b, o + 8, none⟩ = some (.int .u8 ar) from fun W hW => (hW.cell hb0).trans c8)
    obtain ⟨hp', hhp⟩ : ∃ r, hdR (hParse xs) = r := ⟨_, rfl⟩
    rw [hhp]
    have HHP := Lib.hid hhp
    have b25 : 25 ≤ c := by omega
    have l128 : (128 : Nat) ≤ c := hlc
    have l128i : (128 : Int) ≤ (c : Int) := by omega
    have l8i : (8 : Int) ≤ (c : Int) := by omega
    have l17i : (17 : Int) ≤ (c : Int) := by omega
    have l25i : (25 : Int) ≤ (c : Int) := by omega
    have l8n : 8 ≤ c := by omega
    have n9 : ¬ c = 9 := by omega
    have n17 : ¬ c = 17 := by omega
    have l9i : (9 : Int) ≤ (c : Int) := by omega
    have l17n : 17 ≤ c := by omega
    have l9n : 9 < c := by omega
    have l17m : 17 < c := by omega
    have bz := new_ (Below.refl w.heap.size w) (.cells #[.int .u64 0, .int .u8 0, .int .u64 0, .int .u64 0] 84)
    obtain ⟨w1, hw1⟩ : ∃ w1, w.alloc (.cells #[.int .u64 0, .int .u8 0, .int .u64 0, .int .u64 0] 84) = w1 := ⟨_, rfl⟩
    rw [hw1] at bz
    have HB1 := Lib.hid bz
    have HBX := Lib.hid (Box.new w1 #[.int .u64 st, .int .u8 ar, .int .u64 ba, .int .u64 ch] 84)
    have HBH := Lib.hid (new_ bz (.cells #[.int .u64 st, .int .u8 ar, .int .u64 ba, .int .u64 ch] 84))
    have HBZ := Lib.hid (by have := Box.new w #[.int .u64 0, .int .u8 0, .int .u64 0, .int .u64 0] 84; rw [hw1] at this; exact this)
    have HBL := Lib.hid (show b < w1.drew.heap.size from Nat.lt_of_lt_of_le hb0 bz.size)
    have HD1 := Lib.hid (show Below w.heap.size w w1.drew from bz.drew)
    clear hp hpq hq1 hq2 hq3 hq4 hq5 ok k1 k2 k3 k4 e1 e2 e3 e4 i1 i2 i3 bx1 bx2 bx3 hH hib hil him hv hx hl c8 hhp bz
    go_enter Try.func54, Try.ntmps54
    go_upto_region 3 with fail
    have K0 := Lib.hid (show w1.drew.cell? ⟨b, o + 8, none⟩ = some (.int .u8 ar) from C8.out _ HD1.out)
    go_cut [4] (fun v wx => v = .pointer (some ⟨w1.heap.size, 0, none⟩) ∧ wx = (w1.alloc (.cells #[.int .u64 st, .int .u8 ar, .int .u64 ba, .int .u64 ch] 84)).drew)
    case first =>
      go_region_held3 (fun W => W.cell? ⟨b, o + 8, none⟩ = some (.int .u8 ar))
        (first | exact K0.out | (refine (World.cell?_alloc_lt _ _ _ ?_).trans K0.out; exact HBL.out))
        (first
        | (go_at_call 77; (first | (with_reducible refine (G1.out _ HD1.out).mono ?_) | (with_reducible refine (G1.out _ ((new_ HB1.out _).drew)).mono ?_)); rintro er w3 ⟨rfl, rfl⟩)
        | (go_at_call 77; (first | (with_reducible refine (G2.out _ HD1.out).mono ?_) | (with_reducible refine (G2.out _ ((new_ HB1.out _).drew)).mono ?_)); rintro er w3 ⟨rfl, rfl⟩)
        | (go_at_call 77; (first | (with_reducible refine (G3.out _ HD1.out).mono ?_) | (with_reducible refine (G3.out _ ((new_ HB1.out _).drew)).mono ?_)); rintro er w3 ⟨rfl, rfl⟩))
      all_goals (go_wp2; go_meet; exact ⟨rfl, rfl⟩)
    case rest =>
      obtain ⟨rfl, rfl⟩ := hcut
      rename_i hK
      refine hK _ _ ?_
      clear hK K0 C8 G1 G2 G3
      obtain ⟨w2, hw2⟩ : ∃ w2, (w1.alloc (.cells #[.int .u64 st, .int .u8 ar, .int .u64 ba, .int .u64 ch] 84)).drew = w2 := ⟨_, rfl⟩
      have X2 := HBX.out.drew
      have B2 := HBH.out.drew
      have X0 := (HBZ.out.alloc (.cells #[.int .u64 st, .int .u8 ar, .int .u64 ba, .int .u64 ch] 84)).drew
      rw [hw2] at X2 B2 X0 ⊢
      have HX2 := Lib.hid X2
      have HB2 := Lib.hid B2
      have HX0 := Lib.hid X0
      have k2 := X2.cell
      clear X2 B2 X0
      obtain ⟨Q, hQ⟩ : ∃ Q, Q = (q1 && q2 && q3 && q4 && q5) := ⟨_, rfl⟩
      have HQ := Lib.hid hQ
      rw [← hQ] at HP
      clear hQ
      go_upto_region 4 with fail
      go_cut [5] (fun v wx => v = .bool Q ∧ Hid (Below w2.heap.size w2 wx))
      case first =>
        go_wp2_with (first
          | (go_at_call 74
             (with_reducible refine (IM.out _).mono ?_)
             rintro er w5 ⟨u, rfl, ho, hb⟩
             have HB5 := Lib.hid hb
             have CE := Lib.hid (EQ.out w5 (HB2.out.trans (hb.mono HB2.out.size)) u _ (own_ir' ho HIL.out))
             clear ho hb)
          | (go_at_call 59
             (with_reducible refine CE.out.mono ?_)
             rintro er w6 ⟨rfl, rfl⟩))
        all_goals (go_meet; exact ⟨by rw [HQ.out]; simp [*], Lib.hid (by first | exact HB5.out | exact Below.refl _ _)⟩)
      case rest =>
        obtain ⟨rfl, hb⟩ := hcut
        rename_i hK
        refine hK _ _ ?_
        have HXc := Lib.hid (HX0.out.later hb.out)
        have HHc := Lib.hid (HX2.out.later hb.out)
        have z0 := HXc.out.cell
        have k9 := HHc.out.cell
        have f0 := HXc.out.frozen
        clear hK k2 IM EQ d1 d2 d3 d4
        cases Q with
        | false =>
          have HPF := Lib.hid (show hParse xs = none from by rw [HP.out]; rfl)
          clear HP HQ
          have b9 := ((((HXc.out.set_ 0 (.int .u64 0)).set_ 1 (.int .u8 0)).set_ 2 (.int .u64 0)).set_ 3 (.int .u64 0))
          simp only [List.setIfInBounds_toArray, List.set_cons_succ, List.set_cons_zero] at b9
          have l9 := (Below.setCell ((Below.setCell ((Below.setCell ((Below.setCell ((Below.refl w.heap.size w).trans (HB2.out.trans (hb.out.mono HB2.out.size))) (p := ⟨w.heap.size, 0, none⟩) (Nat.le_refl _) (.int .u64 0))) (p := ⟨w.heap.size, 1, none⟩) (Nat.le_refl _) (.int .u8 0))) (p := ⟨w.heap.size, 2, none⟩) (Nat.le_refl _) (.int .u64 0))) (p := ⟨w.heap.size, 3, none⟩) (Nat.le_refl _) (.int .u64 0))
          obtain ⟨w9, hw9⟩ : ∃ w9, World.setCell (World.setCell (World.setCell (World.setCell wc ⟨w.heap.size, 0, none⟩ (.int .u64 0)) ⟨w.heap.size, 1, none⟩ (.int .u8 0)) ⟨w.heap.size, 2, none⟩ (.int .u64 0)) ⟨w.heap.size, 3, none⟩ (.int .u64 0) = w9 := ⟨_, rfl⟩
          rw [hw9] at b9 l9
          have HB9 := Lib.hid l9
          have r9_0 : w9.cell? ⟨w.heap.size, 0, none⟩ = some (.int .u64 0) := b9.cell 0
          have r9_1 : w9.cell? ⟨w.heap.size, 1, none⟩ = some (.int .u8 0) := b9.cell 1
          have r9_2 : w9.cell? ⟨w.heap.size, 2, none⟩ = some (.int .u64 0) := b9.cell 2
          have r9_3 : w9.cell? ⟨w.heap.size, 3, none⟩ = some (.int .u64 0) := b9.cell 3
          clear b9 l9
          go_wp2
          refine bodyPost_ret (v := .tuple #[.agg (hdC ⟨0, 0, 0, 0⟩), .bool false]) (by simp [results, Try.results54, go_sem, r9_0, r9_1, r9_2, r9_3]; try rfl) rfl ?_
          exact ⟨by rw [← HHP.out, HPF.out]; rfl, HB9.out⟩
        | true =>
          have HPF := Lib.hid (show hParse xs = some ⟨st, ar, ba, ch⟩ from by rw [HP.out]; rfl)
          clear HP HQ
          have b9 := ((((HXc.out.set_ 0 (.int .u64 st)).set_ 1 (.int .u8 ar)).set_ 2 (.int .u64 ba)).set_ 3 (.int .u64 ch))
          simp only [List.setIfInBounds_toArray, List.set_cons_succ, List.set_cons_zero] at b9
          have l9 := (Below.setCell ((Below.setCell ((Below.setCell ((Below.setCell ((Below.refl w.heap.size w).trans (HB2.out.trans (hb.out.mono HB2.out.size))) (p := ⟨w.heap.size, 0, none⟩) (Nat.le_refl _) (.int .u64 st))) (p := ⟨w.heap.size, 1, none⟩) (Nat.le_refl _) (.int .u8 ar))) (p := ⟨w.heap.size, 2, none⟩) (Nat.le_refl _) (.int .u64 ba))) (p := ⟨w.heap.size, 3, none⟩) (Nat.le_refl _) (.int .u64 ch))
          obtain ⟨w9, hw9⟩ : ∃ w9, World.setCell (World.setCell (World.setCell (World.setCell wc ⟨w.heap.size, 0, none⟩ (.int .u64 st)) ⟨w.heap.size, 1, none⟩ (.int .u8 ar)) ⟨w.heap.size, 2, none⟩ (.int .u64 ba)) ⟨w.heap.size, 3, none⟩ (.int .u64 ch) = w9 := ⟨_, rfl⟩
          rw [hw9] at b9 l9
          have HB9 := Lib.hid l9
          have r9_0 : w9.cell? ⟨w.heap.size, 0, none⟩ = some (.int .u64 st) := b9.cell 0
          have r9_1 : w9.cell? ⟨w.heap.size, 1, none⟩ = some (.int .u8 ar) := b9.cell 1
          have r9_2 : w9.cell? ⟨w.heap.size, 2, none⟩ = some (.int .u64 ba) := b9.cell 2
          have r9_3 : w9.cell? ⟨w.heap.size, 3, none⟩ = some (.int .u64 ch) := b9.cell 3
          clear b9 l9
          go_wp2
          refine bodyPost_ret (v := .tuple #[.agg (hdC ⟨st, ar, ba, ch⟩), .bool true]) (by simp [results, Try.results54, go_sem, r9_0, r9_1, r9_2, r9_3]; try rfl) rfl ?_
          exact ⟨by rw [← HHP.out, HPF.out]; rfl, HB9.out⟩
  · refine (header_len A _ c hl w).mono ?_
    rintro e w' ⟨rfl, hb⟩
    have : hParse xs = none := by unfold hParse; rw [if_neg (fun h => hl h.1)]
    rw [this]
    exact ⟨rfl, hb⟩
end Go.Proofs.Yteggcehjpfmikaa.Wal
namespace Go.Proofs.Yteggcehjpfmikaa.Wal
open Go.ChangeShapes Go.WideShapes Go.ChangeAt Go.RowKit Go.IntWalk Go.Proofs.Mem Go.Proofs.Each Law Go.Proofs.Yteggcehjpfmikaa.Disk NumBytes
set_option linter.unusedVariables false
set_option linter.unusedSimpArgs false
def nwTo (D : Dv) : Nat → Option (Hh × Nat)
  | 0 => none
  | k + 1 => match hParse (D.rd 0 (k : Int)) with
    | none => nwTo D k
    | some h => match nwTo D k with
      | none => some (h, k)
      | some p => if p.1.st < h.st then some (h, k) else some p
def nwS (o : Option (Hh × Nat)) (h : Hh) (k : Nat) : Option (Hh × Nat) := match o with
  | none => some (h, k)
  | some p => if p.1.st < h.st then some (h, k) else some p
theorem nw_succ (D : Dv) (k : Nat) : nwTo D (k + 1) = match hParse (D.rd 0 (k : Int)) with
    | none => nwTo D k
    | some h => nwS (nwTo D k) h k := rfl
def bH : Option (Hh × Nat) → Hh
  | none => ⟨0, 0, 0, 0⟩
  | some p => p.1
def bA : Option (Hh × Nat) → Int
  | none => -1
  | some p => p.2
def nwR (o : Option (Hh × Nat)) : Value := .tuple #[.agg (hdC (bH o)), .int .i64 (bA o), .bool o.isSome]
theorem nw_newer (D : Dv) : nwTo D 2 = newer (D.rd 0 0) (D.rd 0 1) := by
  simp only [nwTo, newer]
  have e0 : ((0 : Nat) : Int) = 0 := rfl
  have e1 : ((1 : Nat) : Int) = 1 := rfl
  rw [e0, e1]
  cases hParse (D.rd 0 0) <;> cases hParse (D.rd 0 1) <;> rfl
theorem bx4 {w : World} {z : Nat} {h : Hh} {T : TypeId} (X : Box w z (hdC h) T) (k : Hh) : Box ((((w.setCell ⟨z, 0, none⟩ (.int .u64 k.st)).setCell ⟨z, 1, none⟩ (.int .u8 k.ar)).setCell ⟨z, 2, none⟩ (.int .u64 k.ba)).setCell ⟨z, 3, none⟩ (.int .u64 k.ch)) z (hdC k) T := by
  have b9 := (((X.set_ 0 (.int .u64 k.st)).set_ 1 (.int .u8 k.ar)).set_ 2 (.int .u64 k.ba)).set_ 3 (.int .u64 k.ch)
  simpa only [List.setIfInBounds_toArray, List.set_cons_succ, List.set_cons_zero] using b9
theorem bl4 {a w : World} {z B : Nat} (h : Below B a w) (hz : B ≤ z) (x0 x1 x2 x3 : Value) : Below B a ((((w.setCell ⟨z, 0, none⟩ x0).setCell ⟨z, 1, none⟩ x1).setCell ⟨z, 2, none⟩ x2).setCell ⟨z, 3, none⟩ x3) :=
  (((h.setCell (p := ⟨z, 0, none⟩) hz _).setCell (p := ⟨z, 1, none⟩) hz _).setCell (p := ⟨z, 2, none⟩) hz _).setCell (p := ⟨z, 3, none⟩) hz _
theorem fr4 {a w : World} {z : Nat} {S : Nat → Prop} (h : Fr S a w) (hz : S z ∨ a.heap.size ≤ z) (x0 x1 x2 x3 : Value) : Fr S a ((((w.setCell ⟨z, 0, none⟩ x0).setCell ⟨z, 1, none⟩ x1).setCell ⟨z, 2, none⟩ x2).setCell ⟨z, 3, none⟩ x3) :=
  (((h.setCell (p := ⟨z, 0, none⟩) hz _).setCell (p := ⟨z, 1, none⟩) hz _).setCell (p := ⟨z, 2, none⟩) hz _).setCell (p := ⟨z, 3, none⟩) hz _
set_option maxRecDepth 100000 in
set_option maxHeartbeats 8000000 in
theorem newest_any {w : World} {S : Nat → Prop} {g : Nat} {fv : Nat → Value} {D : Dv} (h : DX w S g fv D) (hw : D.Few 100000) :
    Calls Try.prog 34 #[.pointer (some ⟨g, 0, none⟩)] w fun e w' => e = .returned (nwR (nwTo D 2)) ∧ Below w.heap.size w w' := by
  obtain ⟨z, hz⟩ : ∃ z, w.heap.size = z := ⟨_, rfl⟩
  have b0 := new_ (Below.refl w.heap.size w) (.cells (hdC ⟨0, 0, 0, 0⟩) 84)
  have X0 := Box.new w (hdC ⟨0, 0, 0, 0⟩) 84
  have s0 : (w.alloc (.cells (hdC ⟨0, 0, 0, 0⟩) 84)).heap.size = z + 1 := by rw [← hz]; simp
  have h' := h
  rw [hz] at b0 X0 ⊢
  obtain ⟨w0, hw0⟩ : ∃ w0, w.alloc (.cells (hdC ⟨0, 0, 0, 0⟩) 84) = w0 := ⟨_, rfl⟩
  rw [hw0] at b0 X0 s0
  have b1 := new_ (Below.refl w0.heap.size w0) (.cells (hdC ⟨0, 0, 0, 0⟩) 84)
  have X1 := Box.new w0 (hdC ⟨0, 0, 0, 0⟩) 84
  have s1 : (w0.alloc (.cells (hdC ⟨0, 0, 0, 0⟩) 84)).heap.size = z + 2 := by simp [s0]
  obtain ⟨w1, hw1⟩ : ∃ w1, w0.alloc (.cells (hdC ⟨0, 0, 0, 0⟩) 84) = w1 := ⟨_, rfl⟩
  rw [hw1] at b1 X1 s1
  rw [s0] at b1 X1
  have HX0 := Lib.hid (X0.below b1 (by omega))
  have HX1 := Lib.hid X1
  have HB := Lib.hid (b0.trans (b1.mono (by omega)))
  have HD := Lib.hid (show DX w S g fv D from h)
  have HW := Lib.hid hw
  have HZ := Lib.hid hz
  have HO := Lib.hid (show ∀ x, S x → x < z from fun x hx => by rw [← hz]; exact h.old x hx)
  have HS1 := Lib.hid s1
  clear b0 X0 b1 X1 h h' hw s1
  go_enter Try.func34, Try.ntmps34
  go_wp2
  clear hz
  go_loopw [6, 12] (fun a i wr => ∃ (k : Nat) (o : Option (Hh × Nat)), i = .int .i64 k ∧ k ≤ 2 ∧ a = .int .i64 (bA o) ∧ Hid (o = nwTo D k) ∧ Hid (Box wr z (hdC ⟨0, 0, 0, 0⟩) 84) ∧ Hid (Box wr (z + 1) (hdC (bH o)) 84) ∧ Hid (Below z w wr) ∧ Hid (z + 2 ≤ wr.heap.size)) (fun _ i _ => 2 - (intOf i).toNat)
  case atStart => exact ⟨0, none, rfl, by decide, rfl, Lib.hid rfl, HX0, HX1, HB, Lib.hid (by rw [HS1.out]; exact Nat.le_refl _)⟩
  case round =>
    obtain ⟨k, o, rfl, hk, rfl, HOO, Y0, Y1, YB, YS⟩ := hrel
    obtain ⟨wa, rfl⟩ : ∃ wa, wa = wr := ⟨wr, rfl⟩
    have HDa := Lib.hid ((HD.out.far (Fr.of_below (S := fun x => z ≤ x) (by rw [← HZ.out] at YB; exact YB.out)) (fun x hx hx2 => by have := HO.out x hx; omega)))
    by_cases hlt : k < 2
    · have d1 : decide ((k : Int) < 2) = true := decide_eq_true (by omega)
      have d1' : decide (k < 2) = true := decide_eq_true hlt
      have q2 : IntKind.i64.wrap ((k : Int) + 1) = (k : Int) + 1 := IntWalk.i64_in _ (by omega)
      have RD := Lib.hid (ds_read HDa.out HW.out (k : Int))
      obtain ⟨po, hpo⟩ : ∃ po, hParse (D.rd 0 (k : Int)) = po := ⟨_, rfl⟩
      have HPO := Lib.hid hpo
      have HE := Lib.hid (fun W u (hu : IR W W.heap.size .u8 u (D.rd 0 (k : Int))) (hb : Bytes (D.rd 0 (k : Int))) => by have := header_any W u _ hu hb; rw [hpo, show hdR po = .tuple #[.agg (hdC (po.getD ⟨0, 0, 0, 0⟩)), .bool po.isSome] from rfl] at this; exact this)
      clear hpo
      obtain ⟨H, hH⟩ : ∃ H, po.getD ⟨0, 0, 0, 0⟩ = H := ⟨_, rfl⟩
      obtain ⟨b0, hb0⟩ : ∃ b0, po.isSome = b0 := ⟨_, rfl⟩
      rw [hH, hb0] at HE
      have HP1 := Lib.hid (show b0 = false → nwTo D (k + 1) = o from fun e => by rw [← hb0] at e; rw [nw_succ, HPO.out]; cases po with | none => exact HOO.out.symm | some _ => cases e)
      have HP2 := Lib.hid (show b0 = true → nwTo D (k + 1) = nwS o H k from fun e => by
        rw [← hb0] at e
        cases po with
        | none => cases e
        | some H' => rw [nw_succ, HPO.out, ← HOO.out, ← hH]; rfl)
      clear hH hb0
      go_wp2_with fail
      (with_reducible refine RD.out.mono ?_)
      rintro e w2 ⟨u, rfl, hu, hby, hb2⟩
      have CE := Lib.hid (HE.out w2 u hu hby)
      have HB2 := Lib.hid hb2
      clear hu hby hb2
      go_wp2_with fail
      (with_reducible refine CE.out.mono ?_)
      rintro e w3 ⟨rfl, hb3⟩
      have HB3 := Lib.hid (HB2.out.trans (hb3.mono HB2.out.size))
      clear hb3
      obtain ⟨z3, hz3⟩ : ∃ z3, w3.heap.size = z3 := ⟨_, rfl⟩
      have X3 := Box.new w3 (hdC H) 84
      have b4 := HB3.out.trans ((new_ (Below.refl w3.heap.size w3) (.cells (hdC H) 84)).mono HB3.out.size)
      obtain ⟨w4, hw4⟩ : ∃ w4, w3.alloc (.cells (hdC H) 84) = w4 := ⟨_, rfl⟩
      rw [hw4, hz3] at X3
      rw [hw4] at b4
      have HX3 := Lib.hid X3
      have HB4 := Lib.hid b4
      have c4 := X3.cell
      have Y0' := Y0.out.later b4
      have Y1' := Y1.out.later b4
      have c5 := Y1'.cell
      have f5 := Y1'.frozen
      have HY0 := Lib.hid Y0'
      have HY1 := Lib.hid Y1'
      have HYB := Lib.hid (YB.out.trans (b4.mono (by have := YB.out.size; have := YS.out; omega)))
      have HZS := Lib.hid (show z + 2 ≤ w4.heap.size by have := b4.size; have := YS.out; omega)
      clear X3 b4 Y0' Y1'
      cases b0 with
      | false =>
        have HN := Lib.hid (show nwTo D (k + 1) = o from HP1.out rfl)
        clear HP1 HP2
        go_wp2
        go_roundw
        case rel => exact ⟨k + 1, o, by go_num, by omega, rfl, Lib.hid HN.out.symm, HY0, HY1, HYB, HZS⟩
        case measure => simp [intOf]; omega
      | true =>
        have HN := Lib.hid (show nwTo D (k + 1) = nwS o H k from HP2.out rfl)
        clear HP1 HP2
        have st := Lib.hid (bx4 HY1.out H)
        have sb0 := Lib.hid (HY0.out.fr (fr4 (S := fun x => x = z + 1) (Fr.refl _ w4) (.inl rfl) (.int .u64 H.st) (.int .u8 H.ar) (.int .u64 H.ba) (.int .u64 H.ch)) (fun e => by have : z = z + 1 := e; omega))
        have sbb := Lib.hid (bl4 HYB.out (show z ≤ z + 1 by omega) (.int .u64 H.st) (.int .u8 H.ar) (.int .u64 H.ba) (.int .u64 H.ch))
        have ssz : ((((w4.setCell ⟨z + 1, 0, none⟩ (.int .u64 H.st)).setCell ⟨z + 1, 1, none⟩ (.int .u8 H.ar)).setCell ⟨z + 1, 2, none⟩ (.int .u64 H.ba)).setCell ⟨z + 1, 3, none⟩ (.int .u64 H.ch)).heap.size = w4.heap.size := by simp [World.setCell]
        obtain ⟨w5, hw5⟩ : ∃ w5, (((w4.setCell ⟨z + 1, 0, none⟩ (.int .u64 H.st)).setCell ⟨z + 1, 1, none⟩ (.int .u8 H.ar)).setCell ⟨z + 1, 2, none⟩ (.int .u64 H.ba)).setCell ⟨z + 1, 3, none⟩ (.int .u64 H.ch) = w5 := ⟨_, rfl⟩
        rw [hw5] at st sb0 sbb ssz
        have SSZ := Lib.hid ssz
        clear ssz
        cases o with
        | none =>
          have HN2 := Lib.hid (show nwTo D (k + 1) = some (H, k) from HN.out)
          have d2 : decide (bA none < 0) = true := by decide
          clear HN
          go_wp2
          go_roundw
          case rel => exact ⟨k + 1, some (H, k), by go_num, by omega, rfl, Lib.hid HN2.out.symm, sb0, st, sbb, Lib.hid (by rw [SSZ.out]; exact HZS.out)⟩
          case measure => simp [intOf]; try omega
        | some p =>
          obtain ⟨hb, sb⟩ := p
          have d2 : decide (bA (some (hb, sb)) < 0) = false := by unfold bA; simp
          by_cases hst : hb.st < H.st
          · have d3 : decide ((bH (some (hb, sb))).st < H.st) = true := decide_eq_true hst
            have HN2 := Lib.hid (show nwTo D (k + 1) = some (H, k) from HN.out.trans (if_pos hst))
            clear HN hst
            go_wp2
            go_roundw
            case rel => exact ⟨k + 1, some (H, k), by go_num, by omega, rfl, Lib.hid HN2.out.symm, sb0, st, sbb, Lib.hid (by rw [SSZ.out]; exact HZS.out)⟩
            case measure => simp [intOf]; omega
          · have d3 : decide ((bH (some (hb, sb))).st < H.st) = false := decide_eq_false hst
            have HN2 := Lib.hid (show nwTo D (k + 1) = some (hb, sb) from HN.out.trans (if_neg hst))
            clear HN hst st sb0 sbb SSZ hw5
            go_wp2
            go_roundw
            case rel => exact ⟨k + 1, some (hb, sb), by go_num, by omega, rfl, Lib.hid HN2.out.symm, HY0, HY1, HYB, HZS⟩
            case measure => simp [intOf]; omega
    · have d1 : decide ((k : Int) < 2) = false := decide_eq_false (by omega)
      have d1' : decide (k < 2) = false := decide_eq_false hlt
      have hk2 : k = 2 := by omega
      have HO2 := Lib.hid (show o = nwTo D 2 by rw [HOO.out, hk2])
      have c0 := Y0.out.cell
      have f0 := Y0.out.frozen
      have c1 := Y1.out.cell
      have st := Lib.hid (bx4 Y0.out (bH o))
      have sbb := Lib.hid (bl4 YB.out (Nat.le_refl z) (.int .u64 (bH o).st) (.int .u8 (bH o).ar) (.int .u64 (bH o).ba) (.int .u64 (bH o).ch))
      obtain ⟨w5, hw5⟩ : ∃ w5, (((wa.setCell ⟨z, 0, none⟩ (.int .u64 (bH o).st)).setCell ⟨z, 1, none⟩ (.int .u8 (bH o).ar)).setCell ⟨z, 2, none⟩ (.int .u64 (bH o).ba)).setCell ⟨z, 3, none⟩ (.int .u64 (bH o).ch) = w5 := ⟨_, rfl⟩
      rw [hw5] at st sbb
      have dq : decide ((0 : Int) ≤ bA o) = o.isSome := by cases o <;> simp [bA]
      have r0 := st.out.cell 0
      have r1 := st.out.cell 1
      have r2 := st.out.cell 2
      have r3 := st.out.cell 3
      go_wp2
      refine bodyPost_ret (v := nwR o) (by simp [results, Try.results34, go_sem, r0, r1, r2, r3, nwR]; try rfl) rfl ?_
      exact ⟨by rw [← HO2.out], sbb.out⟩
end Go.Proofs.Yteggcehjpfmikaa.Wal
