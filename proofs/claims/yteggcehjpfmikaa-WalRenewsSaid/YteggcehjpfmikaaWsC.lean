import Derived.Test.YteggcehjpfmikaaWs8
import Derived.Test.YteggcehjpfmikaaWs9
import Derived.Test.YteggcehjpfmikaaWsB
import Derived.Deep.DeepCutAuto
namespace Go.Proofs.Yteggcehjpfmikaa.Wal
open Go.ChangeShapes Go.WideShapes Go.ChangeAt Go.RowKit Go.IntWalk Go.Proofs.Mem Go.Proofs.Each Law Go.Proofs.Yteggcehjpfmikaa.Disk Strip
set_option linter.unusedVariables false
set_option linter.unusedSimpArgs false
def secs (D : Dv) (a n : Nat) : List (List Int) := (List.range n).map fun i => D.rd 0 ((a + i : Nat) : Int)
theorem secs_succ (D : Dv) (a n : Nat) : secs D a (n + 1) = secs D a n ++ [D.rd 0 ((a + n : Nat) : Int)] := by unfold secs; rw [List.range_succ, List.map_append]; rfl
theorem secs_len (D : Dv) (a n : Nat) : (secs D a n).length = n := by simp [secs]
theorem ds_row {w : World} {S : Nat → Prop} {g : Nat} {fv : Nat → Value} {D : Dv} (h : DX w S g fv D) (hw : D.Few 100000) (N : Int) (hN : D.has 0 N) :
    Calls Try.prog 53 #[.pointer (some ⟨g, 0, none⟩), .int .u8 0, .int .i64 N] w fun e w' => ∃ u, e = .returned (.tuple #[u, .int .u16 0]) ∧ w'.ownsRow w.heap.size 5 1 u 128 ((D.rd 0 N).map (.int .u8)) ∧ (D.rd 0 N).length = 128 ∧ Bytes (D.rd 0 N) ∧ Below w.heap.size w w' := by
  obtain ⟨col, uv, h⟩ := h
  obtain ⟨hi2, n, rfl, hs, hm⟩ := has_at hN
  have e : D.rd 0 (n : Int) = ((D.f 0).getD ((n : Int)).toNat zSe).cur := if_pos hN
  rw [e]
  have hby := cur_bytes h hi2 hs
  have hcl : ((D.f 0).getD ((n : Int)).toNat zSe).cur.length = 128 := by
    obtain ⟨g, cap, C, p, s', sp⟩ := (h.file 0 hi2).spot n (List.getElem?_eq_some_iff.1 hs).1
    have e : s' = (D.f 0).getD ((n : Int)).toNat zSe := by have := sp.hs; rw [hs] at this; injection this with this; exact this.symm
    rw [← e]; exact Se.cur_len sp.sec.len sp.sec.lens
  refine (read_yes h 0 hi2 n _ hs (hw 0 hi2 _ hm) n rfl).mono ?_
  rintro e w' ⟨u, rfl, hu, hb⟩
  exact ⟨u, rfl, hu, hcl, hby, hb⟩
theorem area_has {D : Dv} {a k : Nat} (ha : a ≤ 1) (hk : k < Wal.sz D) : D.has 0 ((fst D a + k : Nat) : Int) := by
  refine ⟨by decide, by omega, ?_⟩
  unfold fst
  unfold Wal.sz at *
  rcases (show a = 0 ∨ a = 1 by omega) with rfl | rfl <;> omega
set_option maxRecDepth 100000 in
set_option maxHeartbeats 8000000 in
theorem sectors_any {w : World} {S : Nat → Prop} {g t : Nat} {fv : Nat → Value} {D : Dv} {H : Hh} {se la : Int} {sv tv : Value} (h : DX w S g fv D) (hw : D.Few 100000) (X : Box w t (lgC g H se sv tv la) 89) (hl : 18 ≤ (D.f 0).length) (hs7 : Wal.sz D ≤ 700) (a : Nat) (ha : H.ar = a) (ha2 : a ≤ 1) :
    Calls Try.prog 37 #[.pointer (some ⟨t, 0, none⟩)] w fun e w' => ∃ v vs, e = .returned v ∧ SR w' w'.heap.size v vs ∧ vs.map (·.2) = secs D (fst D a) (Wal.sz D) ∧ Below w.heap.size w w' := by
  have CS := Lib.hid (size_dx h (by omega))
  have HD := Lib.hid h
  have HX := Lib.hid X
  have HW := Lib.hid hw
  have HA := Lib.hid (show H.ar = a ∧ a ≤ 1 from ⟨ha, ha2⟩)
  have HL := Lib.hid (show 2 ≤ (D.f 0).length by omega)
  have hlen := h.lens 0 (by decide)
  have HHAS := Lib.hid (fun k (hk : k < Wal.sz D) => area_has ha2 hk)
  have bF : fst D a ≤ 5000 := by unfold fst; unfold Wal.sz at *; rcases (show a = 0 ∨ a = 1 by omega) with rfl | rfl <;> omega
  obtain ⟨q, hq⟩ : ∃ q, Wal.sz D = q := ⟨_, rfl⟩
  obtain ⟨F, hF⟩ : ∃ F, fst D a = F := ⟨_, rfl⟩
  rw [hq] at CS HHAS hs7 ⊢
  rw [hF] at HHAS bF ⊢
  have HF := Lib.hid hF
  obtain ⟨j0, hj0, hy0, hy1, hy2⟩ := info_parts bs_info
  have k0 : w.cell? ⟨t, 0, none⟩ = some (.pointer (some ⟨g, 0, none⟩)) := X.cell 0
  clear h X hw ha ha2 hl hlen hq hF
  go_enter Try.func37, Try.ntmps37
  go_wp2_with fail
  (with_reducible refine (CS.out).mono ?_)
  rintro e w1 ⟨rfl, rfl⟩
  clear k0
  go_wp2
  go_loopw [3, 12] (fun o i wr => ∃ (k : Nat) (l : List Rw), i = .int .i64 k ∧ k ≤ q ∧ Hid (l.length = k ∧ Tab 5 48 wr w.heap.size wr.heap.size o l ∧ l.map (·.2.2) = secs D F k ∧ ∀ p ∈ l, Bytes p.2.2) ∧ Hid (Below w.heap.size w wr)) (fun _ i _ => q - (intOf i).toNat)
  case atStart => exact ⟨0, [], rfl, Nat.zero_le _, Lib.hid ⟨rfl, Tab.nil _ _ _, rfl, fun p hp => by cases hp⟩, Lib.hid (Below.refl _ _)⟩
  case round =>
    obtain ⟨k, l, rfl, hk, HT, HB⟩ := hrel
    obtain ⟨wa, rfl⟩ : ∃ wa, wa = wr := ⟨wr, rfl⟩
    have HDa := Lib.hid (HD.out.later HB.out)
    have HXa := Lib.hid (HX.out.later HB.out)
    by_cases hlt : k < q
    · have d1 : decide ((k : Int) < (q : Int)) = true := decide_eq_true (by omega)
      have d1' : decide (k < q) = true := decide_eq_true hlt
      have p1 : IntKind.i64.wrap ((F : Int) + (k : Int)) = (F : Int) + (k : Int) := IntWalk.i64_in _ (by omega)
      have p3 : IntKind.i64.wrap ((k : Int) + 1) = (k : Int) + 1 := IntWalk.i64_in _ (by omega)
      have hHas := HHAS.out k hlt
      rw [show ((F + k : Nat) : Int) = (F : Int) + (k : Int) by omega] at hHas
      have CF := Lib.hid (fun W (hb : Below wa.heap.size wa W) => by
        have := flush_first (HDa.out.later hb) (HXa.out.later hb) HL.out a HA.out.1 HA.out.2
        rw [HF.out] at this
        exact this)
      have CR := Lib.hid (fun W (hb : Below wa.heap.size wa W) => ds_row (HDa.out.later hb) HW.out ((F : Int) + (k : Int)) hHas)
      have SK := Lib.hid (show ∀ W, Below wa.heap.size wa W → W.cell? ⟨t, 0, none⟩ = some (.pointer (some ⟨g, 0, none⟩)) from fun W hb => (HXa.out.later hb).cell 0)
      have HDW := Lib.hid (show Below wa.heap.size wa wa.drew from (Below.refl _ _).drew)
      clear hHas
      go_wp2_with fail
      have K0 := Lib.hid (SK.out _ HDW.out)
      go_region_held3 (fun W => W.cell? ⟨t, 0, none⟩ = some (.pointer (some ⟨g, 0, none⟩)))
        (first | exact K0.out | exact K1.out | exact K2.out)
        (first
        | (go_at_call 40
           (with_reducible refine (CF.out _ HDW.out).mono ?_)
           rintro er w3 ⟨rfl, hb⟩
           have HB3 := Lib.hid (HDW.out.trans hb)
           have K1 := Lib.hid (SK.out _ HB3.out)
           clear hb)
        | (go_at_call 53
           (with_reducible refine (CR.out _ HB3.out).mono ?_)
           rintro er w4 ⟨u, rfl, hu, hul, hub, hb4⟩
           have HU := Lib.hid (own_lower hu HB3.out.size)
           have HUL := Lib.hid (And.intro hul hub)
           have HB4 := Lib.hid (HB3.out.trans (hb4.mono HB3.out.size))
           have K2 := Lib.hid (SK.out _ HB4.out)
           clear hu hul hub hb4))
      obtain ⟨g4, row4, hg4, hl4⟩ := RowAt.of_own (by rw [HUL.out.1]; exact HU.out) (by rw [HUL.out.1]; decide)
      obtain ⟨cap4, e4⟩ := row4.form
      rw [HUL.out.1] at e4
      subst e4
      have ROW4 := Lib.hid row4
      have G4 := Lib.hid (And.intro hg4 hl4)
      have HLL := Lib.hid HT.out.1
      have TAB4 := Lib.hid (HT.out.2.1.below HB4.out)
      have HO := Lib.hid HT.out.2.2.1
      have HBS := Lib.hid HT.out.2.2.2
      have HS2 := Lib.hid HB.out.size
      clear row4 hg4 hl4
      go_wp2_with (at_builtin; refine wpList_append_own _ rfl _ _ _ rfl w.heap.size 48 j0 (.slice none 0 0) 1 24 Try.underlying76 hj0 hy0 hy1 hy2 rfl (by decide) _ l.length (l.map (·.2.1)) rfl (TAB4.out.outer.alloc _) ⟨w4.heap.size, 0, none⟩ 1 1 [_] rfl rfl (cell_one_new _ _ _) (by simp [Value.oneCell']) (by have := HLL.out; unfold maxLen; omega) (by have := HLL.out; omega) (by have := HB4.out.size; have := HS2.out; simp; omega) ?_; intro v5 w5 hown5 hg5 _; have OWN5 := Lib.hid hown5; have HG5 := Lib.hid hg5; clear hown5 hg5)
      have z54 : w4.heap.size < w5.heap.size := by have := HG5.out.size; simp at this; omega
      have T5 := Tab.push (TAB4.out.later (B := w4.alloc _) (new_ (Below.refl _ _) _)) (by decide) ((row_low ROW4.out (base' := wa.heap.size) (by simp)).sc (Sc.of_below (new_ (Below.refl _ _) _))) HS2.out (by have := G4.out; omega) OWN5.out HG5.out (by have := HB4.out.size; omega)
      have LS5 := Lib.hid (show (l ++ [(g4, Value.slice (some ⟨g4, 0, none⟩) 128 cap4, D.rd 0 ((F : Int) + (k : Int)))]).map (·.2.2) = secs D F (k + 1) by
        rw [List.map_append, HO.out, secs_succ, show ((F + k : Nat) : Int) = (F : Int) + (k : Int) by omega]; rfl)
      have TT := Lib.hid T5
      have HLN := Lib.hid (show (l ++ [(g4, Value.slice (some ⟨g4, 0, none⟩) 128 cap4, D.rd 0 ((F : Int) + (k : Int)))]).length = k + 1 by rw [List.length_append, HLL.out]; rfl)
      have HB5 := Lib.hid (below_row (HB.out.trans ((HB4.out.mono HS2.out).trans ((Below.refl w.heap.size w4).alloc (by have := HB4.out.size; have := HS2.out; omega) _))) (TAB4.out.outer.alloc _) HG5.out (Nat.le_refl _) (by have := HB4.out.size; have := HS2.out; simp; omega))
      have BY5 := Lib.hid (show ∀ p ∈ l ++ [(g4, Value.slice (some ⟨g4, 0, none⟩) 128 cap4, D.rd 0 ((F : Int) + (k : Int)))], Bytes p.2.2 from fun p hp => by
        rcases List.mem_append.1 hp with hp | hp
        · exact HBS.out p hp
        · rw [List.mem_singleton.1 hp]; exact HUL.out.2)
      clear z54 T5
      go_wp2
      go_roundw
      case rel => exact ⟨k + 1, _, by go_num, by omega, Lib.hid ⟨HLN.out, TT.out, LS5.out, BY5.out⟩, HB5⟩
      case measure => simp [intOf]; omega
    · have d1 : decide ((k : Int) < (q : Int)) = false := decide_eq_false (by omega)
      have d1' : decide (k < q) = false := decide_eq_false hlt
      have hkq : k = q := by omega
      have TT := Lib.hid (show SR wa wa.heap.size u3 (l.map (·.2)) from HT.out.2.1.sr HT.out.2.2.2)
      have LS := Lib.hid (show (l.map (·.2)).map (·.2) = secs D F q by rw [← hkq, ← HT.out.2.2.1, List.map_map]; rfl)
      clear HT hkq
      go_wp2
      go_ret
      exact ⟨u3, l.map (·.2), rfl, TT.out, LS.out, HB.out⟩
end Go.Proofs.Yteggcehjpfmikaa.Wal
namespace Go.Proofs.Yteggcehjpfmikaa.Rec
open Go.ChangeShapes Go.WideShapes Go.ChangeAt Go.RowKit Go.IntWalk Go.Proofs.NumMath Go.Proofs.Mem Go.Proofs.CrcMath NumBytes CrcA
set_option linter.unusedVariables false
set_option linter.unusedSimpArgs false
def raise_ : List PanicEntry := [{ v := .iface 39 (.int .u16 61), recovered := false }]
theorem give_up (v : Value) (w : World) : Calls Try.prog 89 #[v] w fun e w' => e = .panicked raise_ ∧ w = w' := by
  go_enter Try.func89, Try.ntmps89
  go_wp2
  exact ⟨rfl, rfl, rfl⟩
set_option maxHeartbeats 2000000 in
theorem take_no (w : World) (g B : Nat) (v : Value) (xs : List Int) (h : Rd w g B v xs) (n : Nat) (hn : xs.length < n) (hn2 : n ≤ 1000) :
    Calls Try.prog 92 #[.pointer (some ⟨g, 0, none⟩), .int .i64 n] w fun e w' => e = .panicked raise_ ∧ w = w' := by
  obtain ⟨A, c, rfl, hlc, hcm⟩ := h.ir.form
  have x0 := h.box.cell 0
  simp only [List.getElem?_toArray, List.getElem?_cons_zero] at x0
  unfold maxLen at hcm
  clear h
  have d1 : decide ((xs.length : Int) < (n : Int)) = true := by simp; omega
  go_enter Try.func92, Try.ntmps92
  go_wp2_with (go_at_call 89; (with_reducible refine (give_up _ _).mono ?_); rintro e w1 ⟨rfl, rfl⟩)
  exact ⟨rfl, rfl, rfl⟩
def rNum (n : Nat) (xs : List Int) : Option (Int × List Int) := if n ≤ xs.length then some (getS (xs.take n), xs.drop n) else none
theorem rNum_some {n : Nat} {xs ys : List Int} {a : Int} (h : rNum n xs = some (a, ys)) : n ≤ xs.length ∧ a = getS (xs.take n) ∧ ys = xs.drop n := by
  unfold rNum at h
  split at h
  · injection h with h
    injection h with h1 h2
    exact ⟨by assumption, h1.symm, h2.symm⟩
  · cases h
theorem rNum_none {n : Nat} {xs : List Int} (h : rNum n xs = none) : xs.length < n := by
  unfold rNum at h
  split at h
  · cases h
  · omega
theorem bytes_drop {xs : List Int} (h : Bytes xs) (n : Nat) : Bytes (xs.drop n) := fun y hy => h y (List.mem_of_mem_drop hy)
theorem bytes_take {xs : List Int} (h : Bytes xs) (n : Nat) : Bytes (xs.take n) := fun y hy => h y (List.mem_of_mem_take hy)
theorem rNum_bytes {n : Nat} {xs ys : List Int} {a : Int} (h : rNum n xs = some (a, ys)) (hx : Bytes xs) : Bytes ys := by
  rw [(rNum_some h).2.2]; exact bytes_drop hx n
theorem getTo_bd (xs : List Int) (hx : Bytes xs) : ∀ k, 0 ≤ getTo xs k ∧ getTo xs k < 2 ^ (8 * k) := by
  intro k
  induction k with
  | zero => exact ⟨Int.le_refl _, by simp [getTo]⟩
  | succ k ih =>
    have hb := hx.at_ k
    have e : (2 : Int) ^ (8 * (k + 1)) = 2 ^ (8 * k) * 256 := by rw [show 8 * (k + 1) = 8 * k + 8 by omega, p2_add]; rfl
    have p := p2 (8 * k)
    show 0 ≤ getTo xs k + xs.getD k 0 * 2 ^ (8 * k) ∧ getTo xs k + xs.getD k 0 * 2 ^ (8 * k) < _
    rw [e]
    generalize xs.getD k 0 = x at hb
    generalize (2 : Int) ^ (8 * k) = q at ih p
    obtain ⟨m, rfl⟩ : ∃ m : Nat, x = (m : Int) := ⟨x.toNat, by omega⟩
    have h1 : (m : Int) * q ≤ 255 * q := Int.mul_le_mul_of_nonneg_right (by omega) (by omega)
    have h2 : 0 ≤ (m : Int) * q := Int.mul_nonneg (by omega) (by omega)
    rw [Int.mul_comm q 256]
    omega
theorem rNum_bd {n : Nat} (hn : n ≤ 8) {xs ys : List Int} {a : Int} (h : rNum n xs = some (a, ys)) (hx : Bytes xs) : 0 ≤ a ∧ a < 2 ^ (8 * n) := by
  obtain ⟨h1, h2, _⟩ := rNum_some h
  rw [h2]
  unfold getS
  rw [List.length_take, Nat.min_eq_left h1, Nat.min_eq_left hn]
  exact getTo_bd _ (bytes_take hx n) n
theorem num_some (w : World) (g B : Nat) (v : Value) (xs ys : List Int) (a : Int) (h : Rd w g B v xs) (hx : Bytes xs) (n : Nat) (N : Int) (hN : N = n) (hr : rNum n xs = some (a, ys)) :
    Calls Try.prog 88 #[.pointer (some ⟨g, 0, none⟩), .int .i64 N] w fun e w' => e = .returned (.int .u64 a) ∧ (∃ v', Rd w' g B v' ys) ∧ Fr (fun x => x = g) w w' := by
  obtain ⟨h1, rfl, rfl⟩ := rNum_some hr
  subst hN
  exact rnumber_any w g B v xs h hx n h1
set_option maxHeartbeats 2000000 in
theorem num_none (w : World) (g B : Nat) (v : Value) (xs : List Int) (h : Rd w g B v xs) (n : Nat) (N : Int) (hN : N = n) (hn : n ≤ 8) (hr : rNum n xs = none) :
    Calls Try.prog 88 #[.pointer (some ⟨g, 0, none⟩), .int .i64 N] w fun e w' => e = .panicked raise_ ∧ w = w' := by
  subst hN
  have TA := Lib.hid (take_no w g B v xs h n (rNum_none hr) (by omega))
  clear h hr
  go_enter Try.func88, Try.ntmps88
  go_wp2_with (go_at_call 92; (with_reducible refine TA.out.mono ?_); rintro e w1 ⟨rfl, rfl⟩)
  exact ⟨rfl, rfl, rfl⟩
def rText (xs : List Int) : Option (List Int × List Int) :=
  match rNum 1 xs with
  | none => none
  | some (k, ys) => if k.toNat ≤ ys.length then some (ys.take k.toNat, ys.drop k.toNat) else none
theorem rText_bytes {xs ys zs : List Int} (h : rText xs = some (ys, zs)) (hx : Bytes xs) : Bytes ys ∧ Bytes zs ∧ ys.length ≤ 255 := by
  unfold rText at h
  cases e : rNum 1 xs with
  | none => rw [e] at h; cases h
  | some p =>
    obtain ⟨k, us⟩ := p
    rw [e] at h
    simp only at h
    split at h
    · injection h with h
      injection h with h1 h2
      have hb := rNum_bytes e hx
      have hk := rNum_bd (by decide) e hx
      subst h1 h2
      exact ⟨bytes_take hb _, bytes_drop hb _, by rw [List.length_take]; have := hk.2; rw [show (2 : Int) ^ (8 * 1) = 256 from rfl] at this; omega⟩
    · cases h
set_option maxRecDepth 100000 in
set_option maxHeartbeats 4000000 in
theorem rtext_some (w : World) (g B : Nat) (v : Value) (xs ys zs : List Int) (h : Rd w g B v xs) (hx : Bytes xs) (hr : rText xs = some (ys, zs)) :
    Calls Try.prog 93 #[.pointer (some ⟨g, 0, none⟩)] w fun e w' => ∃ u, e = .returned u ∧ w'.ownsRow w.heap.size 5 1 u ys.length (ys.map (.int .u8)) ∧ (∃ v', Rd w' g B v' zs) ∧ Fr (fun x => x = g) w w' := by
  obtain ⟨i0, hi0, hz0, hz1, hz2⟩ := info_parts u8_info
  have hyl := (rText_bytes hr hx).2.2
  unfold rText at hr
  cases e : rNum 1 xs with
  | none => rw [e] at hr; cases hr
  | some p =>
    obtain ⟨k, us⟩ := p
    rw [e] at hr
    simp only at hr
    have hk := rNum_bd (by decide) e hx
    rw [show (2 : Int) ^ (8 * 1) = 256 from rfl] at hk
    split at hr
    case isFalse => cases hr
    case isTrue hle =>
      injection hr with hr
      injection hr with h1 h2
      subst h1 h2
      obtain ⟨K, rfl⟩ : ∃ K : Nat, k = K := ⟨k.toNat, by omega⟩
      rw [Int.toNat_natCast] at hle hyl ⊢
      have wk : IntKind.i64.wrap (K : Int) = (K : Int) := IntWalk.i64_in _ (by omega)
      have NS := Lib.hid (num_some w g B v xs us K h hx 1 1 rfl e)
      have TK := Lib.hid (fun W v (h : Rd W g B v us) => take_any W g B v us h K hle)
      have GB := Lib.hid h.le
      have GL := Lib.hid h.box.lt
      have HK := Lib.hid hk
      clear h e hk
      go_enter Try.func93, Try.ntmps93
      go_wp2_with (first
        | (go_at_call 88; (with_reducible refine NS.out.mono ?_); rintro e w1 ⟨rfl, ⟨v1, r1⟩, f1⟩; have R1 := Lib.hid r1; have F1 := Lib.hid f1; clear r1 f1)
        | (go_at_call 92; (with_reducible refine (TK.out _ _ R1.out).mono ?_); rintro e w2 ⟨u, rfl, iu, ⟨v2, r2⟩, f2⟩; have R2 := Lib.hid r2; have F2 := Lib.hid (F1.out.trans f2); have IU := Lib.hid iu; clear r2 f2 iu)
        | (at_builtin; refine wpList_append_tx _ rfl _ _ _ _ rfl w.heap.size 5 5 i0 .u8 1 Try.underlying48 Try.underlying48 hi0 hz0 hz1 hz2 (.slice none 0 0) 0 [] rfl (World.ownsRow_nil _ _ _ _) B u (us.take K) rfl IU.out (by unfold maxLen; omega) (by omega) F2.out.size ?_; intro v3 w3 hown3 hg3 ho3
           rw [Nat.zero_add, List.nil_append] at hown3
           have O3 := Lib.hid hown3
           have R3 := Lib.hid (R2.out.below (grown_below hg3))
           have F3 := Lib.hid (F2.out.below (grown_below hg3))
           clear hown3 hg3 ho3))
      go_ret
      exact ⟨_, rfl, O3.out, ⟨_, R3.out⟩, F3.out⟩
set_option maxHeartbeats 4000000 in
theorem rtext_none (w : World) (g B : Nat) (v : Value) (xs : List Int) (h : Rd w g B v xs) (hx : Bytes xs) (hr : rText xs = none) :
    Calls Try.prog 93 #[.pointer (some ⟨g, 0, none⟩)] w fun e w' => e = .panicked raise_ ∧ Fr (fun x => x = g) w w' := by
  unfold rText at hr
  cases e : rNum 1 xs with
  | none =>
    have NN := Lib.hid (num_none w g B v xs h 1 1 rfl (by decide) e)
    clear h e hr
    go_enter Try.func93, Try.ntmps93
    go_wp2_with (go_at_call 88; (with_reducible refine NN.out.mono ?_); rintro e w1 ⟨rfl, rfl⟩)
    exact ⟨rfl, rfl, Fr.refl _ _⟩
  | some p =>
    obtain ⟨k, us⟩ := p
    rw [e] at hr
    simp only at hr
    have hk := rNum_bd (by decide) e hx
    rw [show (2 : Int) ^ (8 * 1) = 256 from rfl] at hk
    split at hr
    case isTrue => cases hr
    case isFalse hle =>
      obtain ⟨K, rfl⟩ : ∃ K : Nat, k = K := ⟨k.toNat, by omega⟩
      rw [Int.toNat_natCast] at hle
      have wk : IntKind.i64.wrap (K : Int) = (K : Int) := IntWalk.i64_in _ (by omega)
      have NS := Lib.hid (num_some w g B v xs us K h hx 1 1 rfl e)
      have TK := Lib.hid (fun W v (h : Rd W g B v us) => take_no W g B v us h K (by omega) (by omega))
      have HK := Lib.hid hk
      clear h e hk hr hle
      go_enter Try.func93, Try.ntmps93
      go_wp2_with (first
        | (go_at_call 88; (with_reducible refine NS.out.mono ?_); rintro e w1 ⟨rfl, ⟨v1, r1⟩, f1⟩; have R1 := Lib.hid r1; have F1 := Lib.hid f1; clear r1 f1)
        | (go_at_call 92; (with_reducible refine (TK.out _ _ R1.out).mono ?_); rintro e w2 ⟨rfl, rfl⟩))
      exact ⟨rfl, rfl, F1.out⟩
end Go.Proofs.Yteggcehjpfmikaa.Rec
namespace Go.Proofs.Yteggcehjpfmikaa.Rec
open Go.ChangeShapes Go.WideShapes Go.ChangeAt Go.RowKit Go.IntWalk Go.Proofs.NumMath Go.Proofs.Mem Go.Proofs.CrcMath NumBytes CrcA
set_option linter.unusedVariables false
set_option linter.unusedSimpArgs false
def rChg (xs : List Int) : Option (Cg × List Int) :=
  match rNum 4 xs with
  | none => none
  | some (pg, a) =>
    match rNum 2 a with
    | none => none
    | some (sl, b) =>
      match rNum 1 b with
      | none => none
      | some (f, c) =>
        if 3 < f then none else
        match rText c with
        | none => none
        | some (x, d) =>
          match rText d with
          | none => none
          | some (y, z) => some (⟨pg, sl, decide (f % 2 = 1), decide (f / 2 % 2 = 1), x, y⟩, z)
def ChgPost (w : World) (g B : Nat) (xs : List Int) (e : Ending) (w' : World) : Prop :=
  match rChg xs with
  | none => e = .panicked raise_ ∧ Fr (fun x => x = g) w w'
  | some (c, zs) => ∃ a b, e = .returned (.agg (cgC c.pg c.sl c.had c.has a b)) ∧ w'.ownsRow w.heap.size 5 1 a c.xs.length (c.xs.map (.int .u8)) ∧ w'.ownsRow w.heap.size 5 1 b c.ys.length (c.ys.map (.int .u8)) ∧ (∃ v', Rd w' g B v' zs) ∧ Fr (fun x => x = g) w w'
theorem ChgPost.no {w w' : World} {g B : Nat} {xs : List Int} (h : rChg xs = none) (hf : Fr (fun x => x = g) w w') : ChgPost w g B xs (.panicked raise_) w' := by
  unfold ChgPost; rw [h]; exact ⟨rfl, hf⟩
theorem u16_wrap {x : Int} (h0 : 0 ≤ x) (h1 : x ≤ 65535) : IntKind.u16.wrap x = x := by rw [IntKind.wrap_u16]; omega
theorem flag_had (f : Int) (h0 : 0 ≤ f) (h3 : f ≤ 3) : (bits BinOp.and IntKind.u64 f 1 != 0) = decide (f % 2 = 1) ∧ (bits BinOp.and IntKind.u64 f 2 != 0) = decide (f / 2 % 2 = 1) := by
  have : f = 0 ∨ f = 1 ∨ f = 2 ∨ f = 3 := by omega
  rcases this with rfl | rfl | rfl | rfl <;> exact ⟨by decide +kernel, by decide +kernel⟩
theorem Rd.setc {w : World} {g B : Nat} {v : Value} {xs : List Int} (h : Rd w g B v xs) {p : Addr} (hp : g < p.block) (u : Value) : Rd (w.setCell p u) g B v xs := h.set (by omega) (by have := h.le; omega) u
set_option maxRecDepth 100000 in
set_option maxHeartbeats 16000000 in
theorem rchange_any (w : World) (g B : Nat) (v : Value) (xs : List Int) (h : Rd w g B v xs) (hx : Bytes xs) :
    Calls Try.prog 90 #[.pointer (some ⟨g, 0, none⟩)] w (ChgPost w g B xs) := by
  have hgl := h.box.lt
  have R0 := Lib.hid (h.alloc (.cells (cgC 0 0 false false (.slice none 0 0) (.slice none 0 0)) 50))
  have F0 := Lib.hid ((Fr.refl (fun x => x = g) w).alloc (.cells (cgC 0 0 false false (.slice none 0 0) (.slice none 0 0)) 50))
  have Z0 := Lib.hid (Box.new w (cgC 0 0 false false (.slice none 0 0) (.slice none 0 0)) 50)
  clear h
  cases e1 : rNum 4 xs with
  | none =>
    go_enter Try.func90, Try.ntmps90
    go_wp2_with fail
    (with_reducible refine (num_none _ _ _ _ _ R0.out 4 4 rfl (by decide) e1).mono ?_)
    rintro e w1 ⟨rfl, rfl⟩
    exact ⟨rfl, ChgPost.no (by simp [rChg, e1]) F0.out⟩
  | some p =>
    obtain ⟨pg, ya⟩ := p
    have hb1 := rNum_bytes e1 hx
    have bd1 := rNum_bd (by decide) e1 hx
    have N1 := Lib.hid (num_some _ _ _ _ _ _ _ R0.out hx 4 4 rfl e1)
    cases e2 : rNum 2 ya with
    | none =>
      have HN := Lib.hid (show rChg xs = none by simp [rChg, e1, e2])
      have N2 := Lib.hid (fun W v (h : Rd W g B v ya) => num_none W g B v ya h 2 2 rfl (by decide) e2)
      clear e1 e2
      go_enter Try.func90, Try.ntmps90
      go_wp2_with fail
      (with_reducible refine N1.out.mono ?_)
      rintro e w1 ⟨rfl, ⟨v1, r1⟩, f1⟩
      have R1 := Lib.hid r1
      have F1 := Lib.hid (F0.out.trans f1)
      have Z1 := Lib.hid (Z0.out.fr f1 (by omega))
      clear r1 f1
      go_wp2_with fail
      (with_reducible refine (N2.out _ _ R1.out).mono ?_)
      rintro e w2 ⟨rfl, rfl⟩
      exact ⟨rfl, ChgPost.no HN.out F1.out⟩
    | some p =>
      obtain ⟨sl, yb⟩ := p
      have hb2 := rNum_bytes e2 hb1
      have bd2 := rNum_bd (by decide) e2 hb1
      have N2 := Lib.hid (fun W v (h : Rd W g B v ya) => num_some W g B v ya yb sl h hb1 2 2 rfl e2)
      rw [show (2 : Int) ^ (8 * 4) = 4294967296 from rfl] at bd1
      rw [show (2 : Int) ^ (8 * 2) = 65536 from rfl] at bd2
      have wp_ := u32_wrap (x := pg) (by omega) (by omega)
      have ws_ := u16_wrap (x := sl) (by omega) (by omega)
      cases e3 : rNum 1 yb with
      | none =>
        have HN := Lib.hid (show rChg xs = none by simp [rChg, e1, e2, e3])
        have N3 := Lib.hid (fun W v (h : Rd W g B v yb) => num_none W g B v yb h 1 1 rfl (by decide) e3)
        clear e1 e2 e3
        go_enter Try.func90, Try.ntmps90
        go_wp2_with fail
        (with_reducible refine N1.out.mono ?_)
        rintro e w1 ⟨rfl, ⟨v1, r1⟩, f1⟩
        have R1 := Lib.hid r1
        have F1 := Lib.hid (F0.out.trans f1)
        have Z1 := Lib.hid (Z0.out.fr f1 (by omega))
        clear r1 f1
        go_wp2_with fail
        (with_reducible refine (N2.out _ _ R1.out).mono ?_)
        rintro e w2 ⟨rfl, ⟨v2, r2⟩, f2⟩
        have R2 := Lib.hid (r2.alloc (.cells #[.int .u32 pg, .int .u16 sl, .bool false, .bool false, .slice none 0 0, .slice none 0 0] 50))
        have F2 := Lib.hid ((F1.out.trans f2).alloc (.cells #[.int .u32 pg, .int .u16 sl, .bool false, .bool false, .slice none 0 0, .slice none 0 0] 50))
        have Z2 := Lib.hid ((Z1.out.fr f2 (by omega)).alloc (.cells #[.int .u32 pg, .int .u16 sl, .bool false, .bool false, .slice none 0 0, .slice none 0 0] 50))
        have C2 := Lib.hid (Box.new w2 #[.int .u32 pg, .int .u16 sl, .bool false, .bool false, .slice none 0 0, .slice none 0 0] 50)
        have HS2 := Lib.hid (show w.heap.size < w2.heap.size from Z1.out.fr f2 (by omega) |>.lt)
        have hg2 : g < w2.heap.size := by have := HS2.out; omega
        clear r2 f2
        go_wp2_with fail
        (with_reducible refine (N3.out _ _ R2.out).mono ?_)
        rintro e w3 ⟨rfl, rfl⟩
        exact ⟨rfl, ChgPost.no HN.out F2.out⟩
      | some p =>
        obtain ⟨f, yc⟩ := p
        have hb3 := rNum_bytes e3 hb2
        have bd3 := rNum_bd (by decide) e3 hb2
        have N3 := Lib.hid (fun W v (h : Rd W g B v yb) => num_some W g B v yb yc f h hb2 1 1 rfl e3)
        rw [show (2 : Int) ^ (8 * 1) = 256 from rfl] at bd3
        by_cases hf3 : 3 < f
        · have HN := Lib.hid (show rChg xs = none by simp [rChg, e1, e2, e3, hf3])
          have d3 : decide (3 < f) = true := by simpa using hf3
          clear e1 e2 e3
          go_enter Try.func90, Try.ntmps90
          go_wp2_with fail
          (with_reducible refine N1.out.mono ?_)
          rintro e w1 ⟨rfl, ⟨v1, r1⟩, f1⟩
          have R1 := Lib.hid r1
          have F1 := Lib.hid (F0.out.trans f1)
          have Z1 := Lib.hid (Z0.out.fr f1 (by omega))
          clear r1 f1
          go_wp2_with fail
          (with_reducible refine (N2.out _ _ R1.out).mono ?_)
          rintro e w2 ⟨rfl, ⟨v2, r2⟩, f2⟩
          have R2 := Lib.hid (r2.alloc (.cells #[.int .u32 pg, .int .u16 sl, .bool false, .bool false, .slice none 0 0, .slice none 0 0] 50))
          have F2 := Lib.hid ((F1.out.trans f2).alloc (.cells #[.int .u32 pg, .int .u16 sl, .bool false, .bool false, .slice none 0 0, .slice none 0 0] 50))
          have Z2 := Lib.hid ((Z1.out.fr f2 (by omega)).alloc (.cells #[.int .u32 pg, .int .u16 sl, .bool false, .bool false, .slice none 0 0, .slice none 0 0] 50))
          have C2 := Lib.hid (Box.new w2 #[.int .u32 pg, .int .u16 sl, .bool false, .bool false, .slice none 0 0, .slice none 0 0] 50)
          have HS2 := Lib.hid (show w.heap.size < w2.heap.size from Z1.out.fr f2 (by omega) |>.lt)
          have hg2 : g < w2.heap.size := by have := HS2.out; omega
          clear r2 f2
          go_wp2_with fail
          (with_reducible refine (N3.out _ _ R2.out).mono ?_)
          rintro e w3 ⟨rfl, ⟨v3, r3⟩, f3⟩
          have R3 := Lib.hid r3
          have F3 := Lib.hid (F2.out.trans f3)
          have Z3 := Lib.hid (Z2.out.fr f3 (by omega))
          have C3 := Lib.hid (C2.out.fr f3 (by omega))
          have kC := C3.out.cell
          have fC := C3.out.frozen
          have kR := R3.out.box.cell
          clear r3 f3
          go_wp2_with (go_at_call 89; (with_reducible refine (give_up _ _).mono ?_); rintro e w4 ⟨rfl, rfl⟩)
          exact ⟨rfl, ChgPost.no HN.out F3.out⟩
        · have d3 : decide (3 < f) = false := by simpa using hf3
          obtain ⟨had, hhad⟩ : ∃ b, b = decide (f % 2 = 1) := ⟨_, rfl⟩
          obtain ⟨has, hhas⟩ : ∃ b, b = decide (f / 2 % 2 = 1) := ⟨_, rfl⟩
          obtain ⟨g1, g2⟩ := flag_had f bd3.1 (by omega)
          rw [← hhad] at g1
          rw [← hhas] at g2
          cases e4 : rText yc with
          | none =>
            have HN := Lib.hid (show rChg xs = none by simp [rChg, e1, e2, e3, hf3, e4])
            have T1 := Lib.hid (fun W v (h : Rd W g B v yc) => rtext_none W g B v yc h hb3 e4)
            clear e1 e2 e3 e4 hhad hhas
            go_enter Try.func90, Try.ntmps90
            go_wp2_with fail
            (with_reducible refine N1.out.mono ?_)
            rintro e w1 ⟨rfl, ⟨v1, r1⟩, f1⟩
            have R1 := Lib.hid r1
            have F1 := Lib.hid (F0.out.trans f1)
            have Z1 := Lib.hid (Z0.out.fr f1 (by omega))
            clear r1 f1
            go_wp2_with fail
            (with_reducible refine (N2.out _ _ R1.out).mono ?_)
            rintro e w2 ⟨rfl, ⟨v2, r2⟩, f2⟩
            have R2 := Lib.hid (r2.alloc (.cells #[.int .u32 pg, .int .u16 sl, .bool false, .bool false, .slice none 0 0, .slice none 0 0] 50))
            have F2 := Lib.hid ((F1.out.trans f2).alloc (.cells #[.int .u32 pg, .int .u16 sl, .bool false, .bool false, .slice none 0 0, .slice none 0 0] 50))
            have Z2 := Lib.hid ((Z1.out.fr f2 (by omega)).alloc (.cells #[.int .u32 pg, .int .u16 sl, .bool false, .bool false, .slice none 0 0, .slice none 0 0] 50))
            have C2 := Lib.hid (Box.new w2 #[.int .u32 pg, .int .u16 sl, .bool false, .bool false, .slice none 0 0, .slice none 0 0] 50)
            have HS2 := Lib.hid (show w.heap.size < w2.heap.size from Z1.out.fr f2 (by omega) |>.lt)
            have hg2 : g < w2.heap.size := by have := HS2.out; omega
            clear r2 f2
            go_wp2_with fail
            (with_reducible refine (N3.out _ _ R2.out).mono ?_)
            rintro e w3 ⟨rfl, ⟨v3, r3⟩, f3⟩
            have R3 := Lib.hid r3
            have F3 := Lib.hid (F2.out.trans f3)
            have Z3 := Lib.hid (Z2.out.fr f3 (by omega))
            have C3 := Lib.hid (C2.out.fr f3 (by omega))
            have kC := C3.out.cell
            have fC := C3.out.frozen
            have kR := R3.out.box.cell
            clear r3 f3
            go_wp2_with fail
            have r4 := (R3.out.setc (p := ⟨w2.heap.size, 2, none⟩) hg2 (.bool had)).setc (p := ⟨w2.heap.size, 3, none⟩) hg2 (.bool has)
            have f4 := (F3.out.setCell (p := ⟨w2.heap.size, 2, none⟩) (.inr (Nat.le_of_lt HS2.out)) (.bool had)).setCell (p := ⟨w2.heap.size, 3, none⟩) (.inr (Nat.le_of_lt HS2.out)) (.bool has)
            have z4 := (Z3.out.far (p := ⟨w2.heap.size, 2, none⟩) (Nat.ne_of_lt HS2.out) (.bool had)).far (p := ⟨w2.heap.size, 3, none⟩) (Nat.ne_of_lt HS2.out) (.bool has)
            have c4_ := (C3.out.set_ 2 (.bool had)).set_ 3 (.bool has)
            simp only [List.setIfInBounds_toArray, List.set_cons_zero, List.set_cons_succ] at c4_
            generalize World.setCell (World.setCell w3 (⟨w2.heap.size, 2, none⟩ : Addr) (.bool had)) (⟨w2.heap.size, 3, none⟩ : Addr) (.bool has) = w4 at *
            have R4 := Lib.hid r4
            have F4 := Lib.hid f4
            have Z4 := Lib.hid z4
            have C4 := Lib.hid c4_
            clear r4 f4 z4 c4_ kC fC kR
            (with_reducible refine (T1.out _ _ R4.out).mono ?_)
            rintro e w5 ⟨rfl, f5⟩
            exact ⟨rfl, ChgPost.no HN.out (F4.out.trans f5)⟩
          | some p =>
            obtain ⟨x, yd⟩ := p
            obtain ⟨hbx, hb4, hlx⟩ := rText_bytes e4 hb3
            have T1 := Lib.hid (fun W v (h : Rd W g B v yc) => rtext_some W g B v yc x yd h hb3 e4)
            cases e5_ : rText yd with
            | none =>
              have HN := Lib.hid (show rChg xs = none by simp [rChg, e1, e2, e3, hf3, e4, e5_])
              have T2 := Lib.hid (fun W v (h : Rd W g B v yd) => rtext_none W g B v yd h hb4 e5_)
              clear e1 e2 e3 e4 e5_ hhad hhas
              go_enter Try.func90, Try.ntmps90
              go_wp2_with fail
              (with_reducible refine N1.out.mono ?_)
              rintro e w1 ⟨rfl, ⟨v1, r1⟩, f1⟩
              have R1 := Lib.hid r1
              have F1 := Lib.hid (F0.out.trans f1)
              have Z1 := Lib.hid (Z0.out.fr f1 (by omega))
              clear r1 f1
              go_wp2_with fail
              (with_reducible refine (N2.out _ _ R1.out).mono ?_)
              rintro e w2 ⟨rfl, ⟨v2, r2⟩, f2⟩
              have R2 := Lib.hid (r2.alloc (.cells #[.int .u32 pg, .int .u16 sl, .bool false, .bool false, .slice none 0 0, .slice none 0 0] 50))
              have F2 := Lib.hid ((F1.out.trans f2).alloc (.cells #[.int .u32 pg, .int .u16 sl, .bool false, .bool false, .slice none 0 0, .slice none 0 0] 50))
              have Z2 := Lib.hid ((Z1.out.fr f2 (by omega)).alloc (.cells #[.int .u32 pg, .int .u16 sl, .bool false, .bool false, .slice none 0 0, .slice none 0 0] 50))
              have C2 := Lib.hid (Box.new w2 #[.int .u32 pg, .int .u16 sl, .bool false, .bool false, .slice none 0 0, .slice none 0 0] 50)
              have HS2 := Lib.hid (show w.heap.size < w2.heap.size from Z1.out.fr f2 (by omega) |>.lt)
              have hg2 : g < w2.heap.size := by have := HS2.out; omega
              clear r2 f2
              go_wp2_with fail
              (with_reducible refine (N3.out _ _ R2.out).mono ?_)
              rintro e w3 ⟨rfl, ⟨v3, r3⟩, f3⟩
              have R3 := Lib.hid r3
              have F3 := Lib.hid (F2.out.trans f3)
              have Z3 := Lib.hid (Z2.out.fr f3 (by omega))
              have C3 := Lib.hid (C2.out.fr f3 (by omega))
              have kC := C3.out.cell
              have fC := C3.out.frozen
              have kR := R3.out.box.cell
              clear r3 f3
              go_wp2_with fail
              have r4 := (R3.out.setc (p := ⟨w2.heap.size, 2, none⟩) hg2 (.bool had)).setc (p := ⟨w2.heap.size, 3, none⟩) hg2 (.bool has)
              have f4 := (F3.out.setCell (p := ⟨w2.heap.size, 2, none⟩) (.inr (Nat.le_of_lt HS2.out)) (.bool had)).setCell (p := ⟨w2.heap.size, 3, none⟩) (.inr (Nat.le_of_lt HS2.out)) (.bool has)
              have z4 := (Z3.out.far (p := ⟨w2.heap.size, 2, none⟩) (Nat.ne_of_lt HS2.out) (.bool had)).far (p := ⟨w2.heap.size, 3, none⟩) (Nat.ne_of_lt HS2.out) (.bool has)
              have c4_ := (C3.out.set_ 2 (.bool had)).set_ 3 (.bool has)
              simp only [List.setIfInBounds_toArray, List.set_cons_zero, List.set_cons_succ] at c4_
              generalize World.setCell (World.setCell w3 (⟨w2.heap.size, 2, none⟩ : Addr) (.bool had)) (⟨w2.heap.size, 3, none⟩ : Addr) (.bool has) = w4 at *
              have R4 := Lib.hid r4
              have F4 := Lib.hid f4
              have Z4 := Lib.hid z4
              have C4 := Lib.hid c4_
              clear r4 f4 z4 c4_ kC fC kR
              (with_reducible refine (T1.out _ _ R4.out).mono ?_)
              rintro e w5 ⟨u5, rfl, o5, ⟨v5, r5⟩, f5⟩
              obtain ⟨A5, c5, e5, hl5, hm5⟩ := (IR.of_own o5).form
              obtain ⟨l5, hl5'⟩ : ∃ l, l = x.length := ⟨_, rfl⟩
              rw [← hl5'] at e5 o5
              subst e5
              have HL5 := Lib.hid hl5'
              have O5 := Lib.hid o5
              have R5 := Lib.hid (r5.setc (p := ⟨w2.heap.size, 4, none⟩) hg2 (.slice A5 l5 c5))
              have C5 := Lib.hid (C4.out.fr f5 (by omega))
              have Z5 := Lib.hid ((Z4.out.fr f5 (by omega)).far (p := ⟨w2.heap.size, 4, none⟩) (Nat.ne_of_lt HS2.out) (.slice A5 l5 c5))
              have F5 := Lib.hid ((F4.out.trans f5).setCell (p := ⟨w2.heap.size, 4, none⟩) (.inr (Nat.le_of_lt HS2.out)) (.slice A5 l5 c5))
              have c6_ := C5.out.set_ 4 (.slice A5 l5 c5)
              simp only [List.setIfInBounds_toArray, List.set_cons_zero, List.set_cons_succ] at c6_
              have C6 := Lib.hid c6_
              have G5 := Lib.hid (show w2.heap.size < w4.heap.size from C4.out.lt)
              have kC := C5.out.cell
              have fC := C5.out.frozen
              clear r5 f5 o5 c6_ hl5 hl5' hm5
              go_wp2_with fail
              clear kC fC
              (with_reducible refine (T2.out _ _ R5.out).mono ?_)
              rintro e w7 ⟨rfl, f7⟩
              exact ⟨rfl, ChgPost.no HN.out (F5.out.trans f7)⟩
            | some p =>
              obtain ⟨y, yz⟩ := p
              have T2 := Lib.hid (fun W v (h : Rd W g B v yd) => rtext_some W g B v yd y yz h hb4 e5_)
              have HV := Lib.hid (show rChg xs = some (⟨pg, sl, had, has, x, y⟩, yz) by simp [rChg, e1, e2, e3, hf3, e4, e5_, hhad, hhas])
              clear e1 e2 e3 e4 e5_ hhad hhas
              go_enter Try.func90, Try.ntmps90
              go_wp2_with fail
              (with_reducible refine N1.out.mono ?_)
              rintro e w1 ⟨rfl, ⟨v1, r1⟩, f1⟩
              have R1 := Lib.hid r1
              have F1 := Lib.hid (F0.out.trans f1)
              have Z1 := Lib.hid (Z0.out.fr f1 (by omega))
              clear r1 f1
              go_wp2_with fail
              (with_reducible refine (N2.out _ _ R1.out).mono ?_)
              rintro e w2 ⟨rfl, ⟨v2, r2⟩, f2⟩
              have R2 := Lib.hid (r2.alloc (.cells #[.int .u32 pg, .int .u16 sl, .bool false, .bool false, .slice none 0 0, .slice none 0 0] 50))
              have F2 := Lib.hid ((F1.out.trans f2).alloc (.cells #[.int .u32 pg, .int .u16 sl, .bool false, .bool false, .slice none 0 0, .slice none 0 0] 50))
              have Z2 := Lib.hid ((Z1.out.fr f2 (by omega)).alloc (.cells #[.int .u32 pg, .int .u16 sl, .bool false, .bool false, .slice none 0 0, .slice none 0 0] 50))
              have C2 := Lib.hid (Box.new w2 #[.int .u32 pg, .int .u16 sl, .bool false, .bool false, .slice none 0 0, .slice none 0 0] 50)
              have HS2 := Lib.hid (show w.heap.size < w2.heap.size from Z1.out.fr f2 (by omega) |>.lt)
              have hg2 : g < w2.heap.size := by have := HS2.out; omega
              clear r2 f2
              go_wp2_with fail
              (with_reducible refine (N3.out _ _ R2.out).mono ?_)
              rintro e w3 ⟨rfl, ⟨v3, r3⟩, f3⟩
              have R3 := Lib.hid r3
              have F3 := Lib.hid (F2.out.trans f3)
              have Z3 := Lib.hid (Z2.out.fr f3 (by omega))
              have C3 := Lib.hid (C2.out.fr f3 (by omega))
              have kC := C3.out.cell
              have fC := C3.out.frozen
              have kR := R3.out.box.cell
              clear r3 f3
              go_wp2_with fail
              have r4 := (R3.out.setc (p := ⟨w2.heap.size, 2, none⟩) hg2 (.bool had)).setc (p := ⟨w2.heap.size, 3, none⟩) hg2 (.bool has)
              have f4 := (F3.out.setCell (p := ⟨w2.heap.size, 2, none⟩) (.inr (Nat.le_of_lt HS2.out)) (.bool had)).setCell (p := ⟨w2.heap.size, 3, none⟩) (.inr (Nat.le_of_lt HS2.out)) (.bool has)
              have z4 := (Z3.out.far (p := ⟨w2.heap.size, 2, none⟩) (Nat.ne_of_lt HS2.out) (.bool had)).far (p := ⟨w2.heap.size, 3, none⟩) (Nat.ne_of_lt HS2.out) (.bool has)
              have c4_ := (C3.out.set_ 2 (.bool had)).set_ 3 (.bool has)
              simp only [List.setIfInBounds_toArray, List.set_cons_zero, List.set_cons_succ] at c4_
              generalize World.setCell (World.setCell w3 (⟨w2.heap.size, 2, none⟩ : Addr) (.bool had)) (⟨w2.heap.size, 3, none⟩ : Addr) (.bool has) = w4 at *
              have R4 := Lib.hid r4
              have F4 := Lib.hid f4
              have Z4 := Lib.hid z4
              have C4 := Lib.hid c4_
              clear r4 f4 z4 c4_ kC fC kR
              (with_reducible refine (T1.out _ _ R4.out).mono ?_)
              rintro e w5 ⟨u5, rfl, o5, ⟨v5, r5⟩, f5⟩
              obtain ⟨A5, c5, e5, hl5, hm5⟩ := (IR.of_own o5).form
              obtain ⟨l5, hl5'⟩ : ∃ l, l = x.length := ⟨_, rfl⟩
              rw [← hl5'] at e5 o5
              subst e5
              have HL5 := Lib.hid hl5'
              have O5 := Lib.hid o5
              have R5 := Lib.hid (r5.setc (p := ⟨w2.heap.size, 4, none⟩) hg2 (.slice A5 l5 c5))
              have C5 := Lib.hid (C4.out.fr f5 (by omega))
              have Z5 := Lib.hid ((Z4.out.fr f5 (by omega)).far (p := ⟨w2.heap.size, 4, none⟩) (Nat.ne_of_lt HS2.out) (.slice A5 l5 c5))
              have F5 := Lib.hid ((F4.out.trans f5).setCell (p := ⟨w2.heap.size, 4, none⟩) (.inr (Nat.le_of_lt HS2.out)) (.slice A5 l5 c5))
              have c6_ := C5.out.set_ 4 (.slice A5 l5 c5)
              simp only [List.setIfInBounds_toArray, List.set_cons_zero, List.set_cons_succ] at c6_
              have C6 := Lib.hid c6_
              have G5 := Lib.hid (show w2.heap.size < w4.heap.size from C4.out.lt)
              have kC := C5.out.cell
              have fC := C5.out.frozen
              clear r5 f5 o5 c6_ hl5 hl5' hm5
              go_wp2_with fail
              clear kC fC
              (with_reducible refine (T2.out _ _ R5.out).mono ?_)
              rintro e w7 ⟨u7, rfl, o7, ⟨v7, r7⟩, f7⟩
              obtain ⟨A7, c7, e7, hl7, hm7⟩ := (IR.of_own o7).form
              obtain ⟨l7, hl7'⟩ : ∃ l, l = y.length := ⟨_, rfl⟩
              rw [← hl7'] at e7 o7
              subst e7
              have HL7 := Lib.hid hl7'
              have O57 := Lib.hid (own_fr (own_set_far O5.out (p := ⟨w2.heap.size, 4, none⟩) G5.out (.slice A5 l5 c5)) f7 (by have := G5.out; omega))
              have O7 := Lib.hid o7
              have C7 := Lib.hid (C6.out.fr f7 (by omega))
              have Z7 := Lib.hid (Z5.out.fr f7 (by omega))
              have R7 := Lib.hid r7
              have F7 := Lib.hid (F5.out.trans f7)
              have c8_ := C7.out.set_ 5 (.slice A7 l7 c7)
              simp only [List.setIfInBounds_toArray, List.set_cons_zero, List.set_cons_succ] at c8_
              have C8 := Lib.hid c8_
              have Z8 := Lib.hid (Z7.out.far (p := ⟨w2.heap.size, 5, none⟩) (Nat.ne_of_lt HS2.out) (.slice A7 l7 c7))
              clear c8_
              have G7 := Lib.hid (show w2.heap.size < w7.heap.size from C7.out.lt)
              have G6 := Lib.hid (show w2.heap.size < (World.setCell w5 ⟨w2.heap.size, 4, none⟩ (.slice A5 l5 c5)).heap.size from C6.out.lt)
              have hlt7 := Nat.ne_of_lt HS2.out
              have c7_0 : (w7.setCell ⟨w2.heap.size, 5, none⟩ (.slice A7 l7 c7)).cell? ⟨w2.heap.size, 0, none⟩ = some (.int .u32 pg) := C8.out.cell 0
              have c7_1 : (w7.setCell ⟨w2.heap.size, 5, none⟩ (.slice A7 l7 c7)).cell? ⟨w2.heap.size, 1, none⟩ = some (.int .u16 sl) := C8.out.cell 1
              have c7_2 : (w7.setCell ⟨w2.heap.size, 5, none⟩ (.slice A7 l7 c7)).cell? ⟨w2.heap.size, 2, none⟩ = some (.bool had) := C8.out.cell 2
              have c7_3 : (w7.setCell ⟨w2.heap.size, 5, none⟩ (.slice A7 l7 c7)).cell? ⟨w2.heap.size, 3, none⟩ = some (.bool has) := C8.out.cell 3
              have c7_4 : (w7.setCell ⟨w2.heap.size, 5, none⟩ (.slice A7 l7 c7)).cell? ⟨w2.heap.size, 4, none⟩ = some (.slice A5 l5 c5) := C8.out.cell 4
              have c7_5 : (w7.setCell ⟨w2.heap.size, 5, none⟩ (.slice A7 l7 c7)).cell? ⟨w2.heap.size, 5, none⟩ = some (.slice A7 l7 c7) := C8.out.cell 5
              have z7_0 : (w7.setCell ⟨w2.heap.size, 5, none⟩ (.slice A7 l7 c7)).cell? ⟨w.heap.size, 0, none⟩ = some (.int .u32 0) := Z8.out.cell 0
              have z7_1 : (w7.setCell ⟨w2.heap.size, 5, none⟩ (.slice A7 l7 c7)).cell? ⟨w.heap.size, 1, none⟩ = some (.int .u16 0) := Z8.out.cell 1
              have z7_2 : (w7.setCell ⟨w2.heap.size, 5, none⟩ (.slice A7 l7 c7)).cell? ⟨w.heap.size, 2, none⟩ = some (.bool false) := Z8.out.cell 2
              have z7_3 : (w7.setCell ⟨w2.heap.size, 5, none⟩ (.slice A7 l7 c7)).cell? ⟨w.heap.size, 3, none⟩ = some (.bool false) := Z8.out.cell 3
              have z7_4 : (w7.setCell ⟨w2.heap.size, 5, none⟩ (.slice A7 l7 c7)).cell? ⟨w.heap.size, 4, none⟩ = some (.slice none 0 0) := Z8.out.cell 4
              have z7_5 : (w7.setCell ⟨w2.heap.size, 5, none⟩ (.slice A7 l7 c7)).cell? ⟨w.heap.size, 5, none⟩ = some (.slice none 0 0) := Z8.out.cell 5
              have y7_0 := Z8.out.frozen 0
              have y7_1 := Z8.out.frozen 1
              have y7_2 := Z8.out.frozen 2
              have y7_3 := Z8.out.frozen 3
              have y7_4 := Z8.out.frozen 4
              have y7_5 := Z8.out.frozen 5
              have kC := C7.out.cell 5
              have fC := C7.out.frozen 5
              clear r7 f7 o7 hl7 hl7' hm7
              go_upto_region 9 with (fail)
              clear kC fC c7_0 z7_0 y7_0 c7_1 z7_1 y7_1 c7_2 z7_2 y7_2 c7_3 z7_3 y7_3 c7_4 z7_4 y7_4 c7_5 z7_5 y7_5
              have o5 := own_set_far O57.out (p := ⟨w2.heap.size, 5, none⟩) G5.out (.slice A7 l7 c7)
              have o7 := own_set_far O7.out (p := ⟨w2.heap.size, 5, none⟩) G6.out (.slice A7 l7 c7)
              have r8 := R7.out.setc (p := ⟨w2.heap.size, 5, none⟩) hg2 (.slice A7 l7 c7)
              have f8 := F7.out.setCell (p := ⟨w2.heap.size, 5, none⟩) (.inr (Nat.le_of_lt HS2.out)) (.slice A7 l7 c7)
              have c8 := C8.out
              have z8 := Z8.out
              clear C8 Z8
              generalize World.setCell w7 (⟨w2.heap.size, 5, none⟩ : Addr) (.slice A7 l7 c7) = w8 at *
              have O58 := Lib.hid o5
              have O78 := Lib.hid o7
              have R8 := Lib.hid r8
              have F8 := Lib.hid f8
              have Z8 := Lib.hid z8
              have c8_0 : w8.cell? ⟨w2.heap.size, 0, none⟩ = some (.int .u32 pg) := c8.cell 0
              have c8_1 : w8.cell? ⟨w2.heap.size, 1, none⟩ = some (.int .u16 sl) := c8.cell 1
              have c8_2 : w8.cell? ⟨w2.heap.size, 2, none⟩ = some (.bool had) := c8.cell 2
              have c8_3 : w8.cell? ⟨w2.heap.size, 3, none⟩ = some (.bool has) := c8.cell 3
              have c8_4 : w8.cell? ⟨w2.heap.size, 4, none⟩ = some (.slice A5 l5 c5) := c8.cell 4
              have c8_5 : w8.cell? ⟨w2.heap.size, 5, none⟩ = some (.slice A7 l7 c7) := c8.cell 5
              have z8_0 : w8.cell? ⟨w.heap.size, 0, none⟩ = some (.int .u32 0) := z8.cell 0
              have z8_1 : w8.cell? ⟨w.heap.size, 1, none⟩ = some (.int .u16 0) := z8.cell 1
              have z8_2 : w8.cell? ⟨w.heap.size, 2, none⟩ = some (.bool false) := z8.cell 2
              have z8_3 : w8.cell? ⟨w.heap.size, 3, none⟩ = some (.bool false) := z8.cell 3
              have z8_4 : w8.cell? ⟨w.heap.size, 4, none⟩ = some (.slice none 0 0) := z8.cell 4
              have z8_5 : w8.cell? ⟨w.heap.size, 5, none⟩ = some (.slice none 0 0) := z8.cell 5
              have y8_0 := z8.frozen 0
              have y8_1 := z8.frozen 1
              have y8_2 := z8.frozen 2
              have y8_3 := z8.frozen 3
              have y8_4 := z8.frozen 4
              have y8_5 := z8.frozen 5
              clear o5 o7 r8 f8 c8 z8
              go_wp2
              have b9 := Box.set_ (Box.set_ (Box.set_ (Box.set_ (Box.set_ (Box.set_ (Z8.out) 0 (.int .u32 pg)) 1 (.int .u16 sl)) 2 (.bool had)) 3 (.bool has)) 4 (.slice A5 l5 c5)) 5 (.slice A7 l7 c7)
              simp only [cgC, List.setIfInBounds_toArray, List.set_cons_zero, List.set_cons_succ] at b9
              have f9 := Fr.setCell (Fr.setCell (Fr.setCell (Fr.setCell (Fr.setCell (Fr.setCell (F8.out) (p := ⟨w.heap.size, 0, none⟩) (.inr (Nat.le_refl _)) (.int .u32 pg)) (p := ⟨w.heap.size, 1, none⟩) (.inr (Nat.le_refl _)) (.int .u16 sl)) (p := ⟨w.heap.size, 2, none⟩) (.inr (Nat.le_refl _)) (.bool had)) (p := ⟨w.heap.size, 3, none⟩) (.inr (Nat.le_refl _)) (.bool has)) (p := ⟨w.heap.size, 4, none⟩) (.inr (Nat.le_refl _)) (.slice A5 l5 c5)) (p := ⟨w.heap.size, 5, none⟩) (.inr (Nat.le_refl _)) (.slice A7 l7 c7)
              have r9 := Rd.setc (Rd.setc (Rd.setc (Rd.setc (Rd.setc (Rd.setc (R8.out) (p := ⟨w.heap.size, 0, none⟩) hgl (.int .u32 pg)) (p := ⟨w.heap.size, 1, none⟩) hgl (.int .u16 sl)) (p := ⟨w.heap.size, 2, none⟩) hgl (.bool had)) (p := ⟨w.heap.size, 3, none⟩) hgl (.bool has)) (p := ⟨w.heap.size, 4, none⟩) hgl (.slice A5 l5 c5)) (p := ⟨w.heap.size, 5, none⟩) hgl (.slice A7 l7 c7)
              have hlo : w.heap.size < w4.heap.size := Nat.lt_trans HS2.out G5.out
              have hlp : w.heap.size < (World.setCell w5 ⟨w2.heap.size, 4, none⟩ (.slice A5 l5 c5)).heap.size := Nat.lt_trans HS2.out G6.out
              have o59 := own_set_far (own_set_far (own_set_far (own_set_far (own_set_far (own_set_far (O58.out) (p := ⟨w.heap.size, 0, none⟩) hlo (.int .u32 pg)) (p := ⟨w.heap.size, 1, none⟩) hlo (.int .u16 sl)) (p := ⟨w.heap.size, 2, none⟩) hlo (.bool had)) (p := ⟨w.heap.size, 3, none⟩) hlo (.bool has)) (p := ⟨w.heap.size, 4, none⟩) hlo (.slice A5 l5 c5)) (p := ⟨w.heap.size, 5, none⟩) hlo (.slice A7 l7 c7)
              have o79 := own_set_far (own_set_far (own_set_far (own_set_far (own_set_far (own_set_far (O78.out) (p := ⟨w.heap.size, 0, none⟩) hlp (.int .u32 pg)) (p := ⟨w.heap.size, 1, none⟩) hlp (.int .u16 sl)) (p := ⟨w.heap.size, 2, none⟩) hlp (.bool had)) (p := ⟨w.heap.size, 3, none⟩) hlp (.bool has)) (p := ⟨w.heap.size, 4, none⟩) hlp (.slice A5 l5 c5)) (p := ⟨w.heap.size, 5, none⟩) hlp (.slice A7 l7 c7)
              generalize World.setCell (World.setCell (World.setCell (World.setCell (World.setCell (World.setCell (w8) (⟨w.heap.size, 0, none⟩ : Addr) (.int .u32 pg)) (⟨w.heap.size, 1, none⟩ : Addr) (.int .u16 sl)) (⟨w.heap.size, 2, none⟩ : Addr) (.bool had)) (⟨w.heap.size, 3, none⟩ : Addr) (.bool has)) (⟨w.heap.size, 4, none⟩ : Addr) (.slice A5 l5 c5)) (⟨w.heap.size, 5, none⟩ : Addr) (.slice A7 l7 c7) = W9 at *
              have q0 : W9.cell? ⟨w.heap.size, 0, none⟩ = some (.int .u32 pg) := b9.cell 0
              have q1 : W9.cell? ⟨w.heap.size, 1, none⟩ = some (.int .u16 sl) := b9.cell 1
              have q2 : W9.cell? ⟨w.heap.size, 2, none⟩ = some (.bool had) := b9.cell 2
              have q3 : W9.cell? ⟨w.heap.size, 3, none⟩ = some (.bool has) := b9.cell 3
              have q4 : W9.cell? ⟨w.heap.size, 4, none⟩ = some (.slice A5 l5 c5) := b9.cell 4
              have q5 : W9.cell? ⟨w.heap.size, 5, none⟩ = some (.slice A7 l7 c7) := b9.cell 5
              refine bodyPost_ret (v := .agg #[.int .u32 pg, .int .u16 sl, .bool had, .bool has, .slice A5 l5 c5, .slice A7 l7 c7]) (by simp [results, Try.results90, go_sem, q0, q1, q2, q3, q4, q5]) rfl ?_
              unfold ChgPost
              rw [HV.out]
              rw [HL5.out] at o59
              rw [HL7.out] at o79
              exact ⟨_, _, rfl, by rw [HL5.out]; exact own_lower o59 (Nat.le_of_lt hlo), by rw [HL7.out]; exact own_lower o79 (Nat.le_of_lt hlp), ⟨_, r9⟩, f9⟩
end Go.Proofs.Yteggcehjpfmikaa.Rec
namespace Go.Proofs.Yteggcehjpfmikaa.Strip
open Go.ChangeShapes Go.WideShapes Go.ChangeAt Go.RowKit Go.IntWalk Go.Shelf Go.Proofs.Mem Blk
set_option linter.unusedVariables false
def ReadP (w : World) (L : List Int) (e : Ending) (w' : World) : Prop := ∃ v, e = .returned v ∧ w'.ownsRow w.heap.size 5 1 v L.length (L.map (.int .u8)) ∧ Below w.heap.size w w'
theorem read_len : ∀ (l : List (List Int)), (readS l).length ≤ 127 * l.length
  | [] => by simp [readS]
  | b :: t => by
    have ih := read_len t
    simp only [readS]
    split
    · rename_i h
      have : (b.take (b.getD 127 0).toNat).length ≤ 127 := by rw [List.length_take]; omega
      split
      · simp only [List.length_append, List.length_nil, List.length_cons]; omega
      · simp only [List.length_append, List.length_cons]; omega
    · simp
set_option maxRecDepth 100000 in
set_option maxHeartbeats 8000000 in
theorem read_any (w : World) (B : Nat) (v : Value) (vs : List (Value × List Int)) (hv : SR w B v vs) (hB : B ≤ w.heap.size) (hl : vs.length ≤ 1000) :
    Calls Try.prog 36 #[v] w (ReadP w (readS (vs.map (·.2)))) := by
  obtain ⟨i0, hi0, hz0, hz1, hz2⟩ := info_parts u8_info
  obtain ⟨A, c, rfl, hlc, hcm⟩ := hv.form
  unfold maxLen at hcm
  have HV := Lib.hid hv
  obtain ⟨L, hL⟩ : ∃ L, vs.map (·.2) = L := ⟨_, rfl⟩
  have HL := Lib.hid hL
  have HLL := Lib.hid (show L.length = vs.length by rw [← hL, List.length_map])
  rw [hL]
  clear hv hL
  go_enter Try.func36, Try.ntmps36
  go_wp2
  go_loopw [3, 9] (fun o i wr => ∃ (k : Nat) (out : List Int), i = .int .i64 k ∧ k ≤ vs.length ∧ Hid (wr.ownsRow w.heap.size 5 1 o out.length (out.map (.int .u8))) ∧ Hid (readS L = out ++ readS (L.drop k)) ∧ Hid (out.length ≤ 127 * k) ∧ Hid (Below w.heap.size w wr)) (fun _ i _ => vs.length - (intOf i).toNat)
  case atStart => exact ⟨0, [], rfl, by omega, Lib.hid (World.ownsRow_nil _ _ _ _), Lib.hid rfl, Lib.hid (by simp), Lib.hid (Below.refl _ _)⟩
  case round =>
    obtain ⟨k, out, rfl, hk, HO, HR, HN, HBL⟩ := hrel
    by_cases hlt : k < vs.length
    · obtain ⟨b1, o1, u1, x1, rfl, _, g1, e1, r1, y1⟩ := (HV.out.keep (w' := wr) (fun p hp => HBL.out.cell (by omega))).index k hlt
      have q1 : decide ((k : Int) < (vs.length : Int)) = true := decide_eq_true (by omega)
      have q1' : decide (k < vs.length) = true := decide_eq_true hlt
      have hlk : L[k]? = some x1 := by rw [← HL.out]; exact map_at g1
      have DR := Lib.hid (drop_at hlk)
      obtain ⟨A1, c1, rfl, hl1, hm1⟩ := r1.form
      unfold maxLen at hm1
      clear hlk g1
      by_cases h128 : x1.length = 128
      · rw [h128] at r1 e1 hl1
        have d1 : ((x1.length : Int) != 128) = false := by simp; omega
        obtain ⟨b2, o2, rfl, hb2, hc2⟩ := r1.index 127 (by omega)
        have R1 := Lib.hid r1
        have hy := y1.at_ 127
        have LAST := Lib.hid (read_last (b := x1) (L.drop (k + 1)) h128)
        have MORE := Lib.hid (read_more (b := x1) (L.drop (k + 1)) h128)
        have BAD := Lib.hid (read_bad (b := x1) (L.drop (k + 1)))
        have TL := Lib.hid (fun u => show (x1.take u).length = min u 128 by rw [List.length_take, h128])
        obtain ⟨m, hm⟩ : ∃ m : Nat, x1.getD 127 0 = (m : Int) := ⟨(x1.getD 127 0).toNat, by omega⟩
        rw [hm] at hc2 hy
        have HM := Lib.hid hm
        clear r1 h128 hm
        by_cases h1 : 127 < m
        · have q2 : decide ((127 : Int) < (m : Int)) = true := decide_eq_true (by omega)
          have q2' : decide (127 < m) = true := decide_eq_true h1
          have RE := Lib.hid (show readS L = out by rw [HR.out, DR.out, BAD.out (by rw [HM.out]; omega), List.append_nil])
          go_wp2
          go_ret
          exact ⟨_, rfl, by rw [RE.out]; exact HO.out, HBL.out⟩
        · have q2 : decide ((127 : Int) < (m : Int)) = false := decide_eq_false (by omega)
          have q2' : decide (127 < m) = false := decide_eq_false h1
          by_cases h2 : m < 127
          · have q3 : decide ((m : Int) < 127) = true := decide_eq_true (by omega)
            have q3' : decide (m < 127) = true := decide_eq_true h2
            have RE := Lib.hid (show readS L = out ++ x1.take m by rw [HR.out, DR.out, LAST.out (by rw [HM.out]; omega), HM.out, Int.toNat_natCast])
            go_wp2_with (at_builtin; refine wpList_append_all _ rfl _ _ _ rfl w.heap.size 5 i0 .u8 1 Try.underlying48 hi0 hz0 hz1 hz2 u3 out.length out rfl HO.out B (.slice (some ⟨b2, o2, none⟩) m c1) (x1.take m) rfl (R1.out.take (by omega)) (by have := HN.out; rw [TL.out m]; unfold maxLen; omega) (by have := HN.out; rw [TL.out m]; omega) HBL.out.size ?_; intro v2 w2 hown2 hb2'; rw [← List.length_append] at hown2; have OW := Lib.hid hown2; have HB2 := Lib.hid (HBL.out.trans hb2'); clear hown2 hb2')
            go_ret
            exact ⟨_, rfl, by rw [RE.out]; exact OW.out, HB2.out⟩
          · obtain rfl : m = 127 := by omega
            have q3 : decide (((127 : Nat) : Int) < 127) = false := by decide
            have RE := Lib.hid (show readS L = (out ++ x1.take 127) ++ readS (L.drop (k + 1)) by rw [HR.out, DR.out, MORE.out HM.out, HM.out, Int.toNat_natCast, List.append_assoc])
            go_wp2_with (at_builtin; refine wpList_append_all _ rfl _ _ _ rfl w.heap.size 5 i0 .u8 1 Try.underlying48 hi0 hz0 hz1 hz2 u3 out.length out rfl HO.out B (.slice (some ⟨b2, o2, none⟩) 127 c1) (x1.take 127) rfl (R1.out.take (by omega)) (by have := HN.out; rw [TL.out 127]; unfold maxLen; omega) (by have := HN.out; rw [TL.out 127]; omega) HBL.out.size ?_; intro v2 w2 hown2 hb2'; rw [← List.length_append] at hown2; have OW := Lib.hid hown2; have HB2 := Lib.hid (HBL.out.trans hb2'); clear hown2 hb2')
            go_roundw
            case rel => exact ⟨k + 1, out ++ x1.take 127, by go_num, by omega, OW, RE, Lib.hid (by have := HN.out; rw [List.length_append, TL.out]; omega), HB2⟩
            case measure => simp [intOf]; omega
      · have d1 : ((x1.length : Int) == 128) = false := by simp; omega
        have d2 : ((x1.length : Int) != 128) = true := by simp; omega
        have d3 : (x1.length == 128) = false := by simpa using h128
        have RE := Lib.hid (show readS L = out by rw [HR.out, DR.out, read_bad _ (fun h => h128 h.1), List.append_nil])
        clear h128
        go_wp2
        go_ret
        exact ⟨_, rfl, by rw [RE.out]; exact HO.out, HBL.out⟩
    · obtain rfl : k = vs.length := by omega
      have RE := Lib.hid (show readS L = out by rw [HR.out, List.drop_of_length_le (by rw [HLL.out]; exact Nat.le_refl _)]; simp [readS])
      go_wp2
      go_ret
      exact ⟨_, rfl, by rw [RE.out]; exact HO.out, HBL.out⟩
end Go.Proofs.Yteggcehjpfmikaa.Strip
