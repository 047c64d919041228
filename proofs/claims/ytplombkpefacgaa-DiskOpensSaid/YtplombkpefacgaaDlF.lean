import Derived.Test.YtplombkpefacgaaDlD
import Derived.Test.YtplombkpefacgaaAppNew
/- Open of the program and of the document; lists of rows of one's own. -/
namespace Go.Proofs.Ytplombkpefacgaa.Disk
open Go.ChangeShapes Go.WideShapes Go.ChangeAt Go.RowKit Go.IntWalk Go.Proofs.Mem Go.Proofs.Each
set_option linter.unusedVariables false
set_option linter.unusedSimpArgs false
/-- an owned list of owned rows -/
structure OR (w : World) (base top : Nat) (v : Value) (us : List Value) (xss : List (List Int)) : Prop where
  outer : w.ownsRow base 30 1 v us.length us
  vtop : ∀ g, v.ownBlock = some g → g < top
  n : us.length = xss.length
  row : ∀ (i : Nat) (u : Value) (xs : List Int), us[i]? = some u → xss[i]? = some xs → w.ownsRow base 5 1 u xs.length (xs.map (.int .u8)) ∧ ∀ g, u.ownBlock = some g → g < top
theorem OR.nil (w : World) (base top : Nat) : OR w base top (.slice none 0 0) [] [] := ⟨World.ownsRow_nil _ _ _ _, (fun g hg => by cases hg), rfl, fun i u xs h => by simp at h⟩
theorem OR.push {A B : World} {base top : Nat} {v v' u : Value} {us : List Value} {xss : List (List Int)} {xs : List Int} (h : OR A base top v us xss) (hu : A.ownsRow base 5 1 u xs.length (xs.map (.int .u8)))
    (ho : B.ownsRow base 30 1 v' (us.length + 1) (us ++ [u])) (hg : A.grownBy B v.ownBlock) : OR B base B.heap.size v' (us ++ [u]) (xss ++ [xs]) := by
  have keep : ∀ {z : Value} {ys : List Int}, A.ownsRow base 5 1 z ys.length (ys.map (.int .u8)) → B.ownsRow base 5 1 z ys.length (ys.map (.int .u8)) ∧ ∀ g, z.ownBlock = some g → g < B.heap.size := fun {z ys} hz => by
    have h9 : B.ownsRow base 5 1 z ys.length (ys.map (.int .u8)) := hz.kept hg (by
      cases hb : z.ownBlock with
      | none => exact .inl rfl
      | some k => exact .inr (fun e => own_apart hz h.outer (by decide) k hb e.symm))
    exact ⟨h9, fun g hg' => (h9.lt g hg').2⟩
  refine ⟨by rw [List.length_append]; exact ho, fun g hg' => (ho.lt g hg').2, by simp [h.n], fun i z ys hz hy => ?_⟩
  by_cases hi : i < us.length
  · rw [List.getElem?_append_left hi] at hz
    rw [List.getElem?_append_left (by rw [← h.n]; exact hi)] at hy
    exact keep (h.row i z ys hz hy).1
  · have hil : i = us.length := by
      have := (List.getElem?_eq_some_iff.1 hz).1
      rw [List.length_append] at this
      simp at this; omega
    subst hil
    rw [List.getElem?_append_right (Nat.le_refl _), Nat.sub_self] at hz
    rw [h.n, List.getElem?_append_right (Nat.le_refl _), Nat.sub_self] at hy
    simp at hz hy
    subst hz hy
    exact keep hu
theorem OR.later {A B : World} {base top : Nat} {v : Value} {us : List Value} {xss : List (List Int)} (h : OR A base top v us xss) (hb : Below A.heap.size A B) : OR B base top v us xss :=
  ⟨own_below h.outer hb, h.vtop, h.n, fun i u xs h1 h2 => ⟨own_below (h.row i u xs h1 h2).1 hb, (h.row i u xs h1 h2).2⟩⟩
theorem OR.sr {w : World} {base top : Nat} {v : Value} {us : List Value} {xss : List (List Int)} (h : OR w base top v us xss) (hx : ∀ xs ∈ xss, Bytes xs) : SR w w.heap.size v (us.zip xss) := by
  have hl : (us.zip xss).length = us.length := by rw [List.length_zip, ← h.n, Nat.min_self]
  rcases h.outer.2 with ⟨rfl, hn⟩ | ⟨g, cap, cur, rfl, hb, hgg, h1, h2, h3, h4⟩
  · have : us = [] := List.eq_nil_of_length_eq_zero hn
    subst this
    exact SR.nil _ _
  · refine ⟨some ⟨g, 0, none⟩, cap, by rw [hl], by rw [hl]; exact h1, h2, fun i hi => ?_⟩
    have hiu : i < us.length := by omega
    have hix : i < xss.length := by rw [← h.n]; exact hiu
    refine ⟨g, 0, us[i], xss[i], rfl, (Array.getElem?_eq_some_iff.1 hgg).1, ?_, ?_, ?_, hx _ (List.getElem_mem hix)⟩
    · rw [List.getElem?_zip_eq_some]
      exact ⟨List.getElem?_eq_getElem hiu, List.getElem?_eq_getElem hix⟩
    · have hbx : Box w g cur 30 := hgg
      rw [hbx.cell, Nat.zero_add]
      have := congrArg (fun z => z[i]?) h4
      simp only [Nat.mul_one, List.getElem?_take, hiu, if_true] at this
      rw [← Array.getElem?_toList, this, List.getElem?_eq_getElem hiu]
    · exact IR.of_own (h.row i _ _ (List.getElem?_eq_getElem hiu) (List.getElem?_eq_getElem hix)).1
theorem sr_later {w w' : World} {B : Nat} {v : Value} {vs : List (Value × List Int)} (h : SR w B v vs) (hb : Below B w w') : SR w' B v vs := h.keep (fun p hp => hb.cell hp)
set_option maxRecDepth 100000 in
set_option maxHeartbeats 8000000 in
theorem lent_blocks (v : Value) (va : List (Value × List Int)) (w : World) (B : Nat) (hB : B ≤ w.heap.size) (hv : SR w B v va) (hl : va.length ≤ 1000) (hx : ∀ p ∈ va, p.2.length ≤ 100000) :
    Calls Try.prog 16 #[v] w fun e w' => ∃ u, e = .returned u ∧ (∃ us, OR w' w.heap.size w'.heap.size u us (va.map (·.2))) ∧ Below w.heap.size w w' := by
  obtain ⟨A, c, rfl, hlc, hcm⟩ := hv.form
  unfold maxLen at hcm
  obtain ⟨N, hN⟩ : ∃ N, N = va.length := ⟨_, rfl⟩
  rw [← hN] at hlc hl hv ⊢
  have HN := Lib.hid hN
  have HV := Lib.hid hv
  have HX := Lib.hid hx
  have HB0 := Lib.hid hB
  obtain ⟨j0, hj0, hy0, hy1, hy2⟩ := info_parts bs_info
  clear hv hx hN hB
  go_enter Try.func16, Try.ntmps16
  go_wp2
  go_loopw [3, 4] (fun o x wr => ∃ (k : Nat) (us : List Value), k ≤ N ∧ x = .int .i64 k ∧ Hid (us.length = k ∧ OR wr w.heap.size wr.heap.size o us ((va.map (·.2)).take k)) ∧ Hid (Below w.heap.size w wr)) (fun _ x _ => N - (intOf x).toNat)
  case atStart => exact ⟨0, [], Nat.zero_le _, rfl, Lib.hid ⟨rfl, OR.nil _ _ _⟩, Lib.hid (Below.refl _ _)⟩
  case round =>
    obtain ⟨k, us, hk, rfl, HO, HBL⟩ := hrel
    by_cases hlt : k < N
    · have hkl : k < va.length := by rw [← HN.out]; exact hlt
      obtain ⟨b4, of4, u4, x4, rfl, _, g4, e4, r4, z4⟩ := (sr_later HV.out (HBL.out.mono HB0.out)).index k hkl
      obtain ⟨B4, L4, c4, rfl⟩ : ∃ A l c, u4 = .slice A l c := by obtain ⟨A, c, e, _⟩ := r4.form; exact ⟨A, _, c, e⟩
      have dk : decide ((k : Int) < (N : Int)) = true := by simp; omega
      have dkn : decide (k < N) = true := by simp; omega
      have CL := Lib.hid (Blk.lent_any _ x4 wr B r4 (HX.out _ (List.mem_of_getElem? g4)))
      have HT := Lib.hid (show (va.map (·.2)).take (k + 1) = (va.map (·.2)).take k ++ [x4] by
        have e9 : (va.map (·.2))[k]? = some x4 := by rw [List.getElem?_map, g4]; rfl
        rw [List.take_add_one, e9]; rfl)
      have HKN := Lib.hid hlt
      have hki : (k : Int) < N := by omega
      clear r4 z4 g4 hkl hlt
      go_wp2_with fail
      (with_reducible refine CL.out.mono ?_)
      rintro e w2 ⟨u, rfl, hu, hb2⟩
      have R2 := Lib.hid hu
      have B2 := Lib.hid hb2
      have OW2 := Lib.hid (HO.out.2.later hb2)
      have HUL := Lib.hid HO.out.1
      have HBS := Lib.hid HBL.out.size
      obtain ⟨Au, cu, eu⟩ := own_slice' hu
      subst eu
      clear hu hb2 e4
      go_wp2_with (at_builtin; refine wpList_append_own _ rfl _ _ _ rfl w.heap.size 30 j0 (.slice none 0 0) 1 24 Try.underlying35 hj0 hy0 hy1 hy2 rfl (by decide) _ us.length us rfl (own_below OW2.out.outer (new_ (Below.refl _ _) _)) ⟨w2.heap.size, 0, none⟩ 1 1 [_] rfl rfl (cell_one_new _ _ _) (by simp [Value.oneCell']) (by simp only [maxLen]; have := HUL.out; omega) (by have := HUL.out; omega) (by have := B2.out.size; have := HBS.out; simp; omega) ?_; intro v5 w5 hown5 hg5 _)
      have OR5 := Lib.hid (OR.push (xs := x4) (OW2.out.later (new_ (Below.refl _ _) (.cells #[.slice Au x4.length cu] 30))) (own_below (own_lower R2.out HBS.out) (new_ (Below.refl _ _) _)) hown5 hg5)
      have HB5 := Lib.hid (below_row (HBL.out.trans ((B2.out.mono HBS.out).trans ((Below.refl w.heap.size w2).alloc (by have := B2.out.size; have := HBS.out; omega) _))) (own_below OW2.out.outer (new_ (Below.refl _ _) _)) hg5 (Nat.le_refl _) (by have := B2.out.size; have := HBS.out; simp; omega))
      clear hown5 hg5
      go_wp2
      go_roundw
      case rel => exact ⟨k + 1, us ++ [.slice Au x4.length cu], HKN.out, by go_num, Lib.hid ⟨by rw [List.length_append, HUL.out]; rfl, by rw [HT.out]; exact OR5.out⟩, HB5⟩
      case measure => have := HKN.out; simp [intOf]; omega
    · have ek : k = N := by omega
      have dk : decide ((k : Int) < (N : Int)) = false := by simp; omega
      have hki : ¬ (k : Int) < N := by omega
      have OF := Lib.hid (show OR wr w.heap.size wr.heap.size _ us (va.map (·.2)) by
        have h9 := HO.out.2
        rw [ek, HN.out, show va.length = (va.map (·.2)).length by rw [List.length_map], List.take_length] at h9
        exact h9)
      clear ek HO
      go_wp2
      go_ret
      exact ⟨_, rfl, ⟨us, OF.out⟩, HBL.out⟩
def bare (xs : List Int) : Se := ⟨xs, []⟩
/-- a device that is being made of the lists X: those ahead of i, and the first m of list i -/
def opT (X : Nat → List (List Int)) (i m : Nat) : Dv := ⟨fun k => if k < i then (X k).map bare else if k = i then ((X i).take m).map bare else [], false, 0, false⟩
theorem opT_push (X : Nat → List (List Int)) (i m : Nat) (xs : List Int) (h : (X i)[m]? = some xs) : opT X i (m + 1) = (opT X i m).push i ⟨xs, []⟩ := by
  unfold opT Dv.push
  congr 1
  funext k
  by_cases hk : k = i
  · subst hk
    simp only [Nat.lt_irrefl, if_false, if_true]
    rw [List.take_add_one, h, List.map_append]; rfl
  · simp only [if_neg hk]
theorem opT_next (X : Nat → List (List Int)) (i : Nat) : opT X i (X i).length = opT X (i + 1) 0 := by
  unfold opT
  congr 1
  funext k
  by_cases h1 : k < i
  · rw [if_pos h1, if_pos (by omega)]
  · by_cases h2 : k = i
    · subst h2
      rw [if_neg h1, if_pos rfl, if_pos (by omega), List.take_length]
    · rw [if_neg h1, if_neg h2, if_neg (by omega)]
      split <;> simp
theorem opT_zero (X : Nat → List (List Int)) : opT X 0 0 = ⟨fun _ => [], false, 0, false⟩ := by
  unfold opT
  congr 1
  funext k
  rw [if_neg (by omega)]
  split <;> simp
def OutA (w wr : World) (D : Dv) : Prop := ∃ col fv uv, DA wr (newS w wr) w.heap.size D col fv uv ∧ Below w.heap.size w wr
def okX (X : Nat → List (List Int)) : Prop := ∀ k, k < 2 → ∀ xs ∈ X k, xs.length = 128
set_option maxRecDepth 100000 in
set_option maxHeartbeats 16000000 in
theorem open_any (w : World) (B : Nat) (hB : B ≤ w.heap.size) (va vb : Value) (la lb : List (Value × List Int)) (ha : SR w B va la) (hb : SR w B vb lb) (h0 : la.length ≤ 4096) (h1 : lb.length ≤ 4096) (X : Nat → List (List Int)) (hX0 : X 0 = la.map (·.2)) (hX1 : X 1 = lb.map (·.2)) (q : Bool) (hq : q = true ↔ okX X) :
    Calls Try.prog 17 #[va, vb] w fun e w' => e = .returned (.pointer (if q = true then some ⟨w.heap.size, 0, none⟩ else none)) ∧ (q = true → OutA w w' (opT X 2 0)) ∧ Below w.heap.size w w' := by
  obtain ⟨Aa0, ca0, rfl, _⟩ := ha.form
  obtain ⟨Ab0, cb0, rfl, _⟩ := hb.form
  obtain ⟨la0, hla0⟩ : ∃ n, n = la.length := ⟨_, rfl⟩
  obtain ⟨lb0, hlb0⟩ : ∃ n, n = lb.length := ⟨_, rfl⟩
  rw [← hla0] at ha ⊢
  rw [← hlb0] at hb ⊢
  obtain ⟨va, hva⟩ : ∃ v, v = Value.slice Aa0 la0 ca0 := ⟨_, rfl⟩
  obtain ⟨vb, hvb⟩ : ∃ v, v = Value.slice Ab0 lb0 cb0 := ⟨_, rfl⟩
  rw [← hva] at ha
  rw [← hvb] at hb
  obtain ⟨V, Lr, hVL⟩ : ∃ (V : Nat → Value) (Lr : Nat → List (Value × List Int)), (V = fun k => if k = 0 then va else vb) ∧ Lr = fun k => if k = 0 then la else lb := ⟨_, _, rfl, rfl⟩
  have HIX := Lib.hid (show ∀ j : Nat, j < 2 → ∀ W, (Instr.index 78 (.agg #[.slice Aa0 la0 ca0, .slice Ab0 lb0 cb0]) (.int .i64 j)).run Try.prog W = .ok (V j) W from fun j hj W => by
    rw [hVL.1, hva, hvb]
    rcases two hj with rfl | rfl
    · rfl
    · rfl)
  have HSR := Lib.hid (show ∀ j : Nat, j < 2 → SR w B (V j) (Lr j) ∧ (Lr j).length ≤ 4096 ∧ X j = (Lr j).map (·.2) from fun j hj => by
    rw [hVL.1, hVL.2]
    rcases two hj with rfl | rfl
    · exact ⟨ha, h0, hX0⟩
    · exact ⟨hb, h1, hX1⟩)
  have HQ := Lib.hid hq
  have HB0 := Lib.hid hB
  obtain ⟨j0, hj0, hj1, hj2, hj3⟩ := info_parts sec_info
  have OU0 := Lib.hid (show OutA w (w.alloc (.cells #[.slice none 0 0, .slice none 0 0, .bool false, .int .i64 0, .bool false] 65)) (opT X 0 0) by
    rw [opT_zero]
    exact ⟨fun _ => 0, fun _ => .slice none 0 0, fun _ => [], ⟨Box.new _ _ _, ⟨Nat.le_refl _, by simp⟩, rfl, fun k hk => ⟨rfl, Hd.nil _ _ _ _ _, fun i p s h => by simp at h⟩, fun k hk => by simp, fun g hg => absurd rfl hg, fun g hg => hg.2, ⟨Int.le_refl _, by show (0 : Int) ≤ _; decide⟩⟩, new_ (Below.refl _ _) _⟩)
  clear ha hb h0 h1 hX0 hX1 hq hVL hB hva hvb hla0 hlb0
  go_enter Try.func17, Try.ntmps17
  go_wp2
  go_loopw [15] (fun x wr => ∃ i : Nat, i ≤ 2 ∧ x = .int .i64 i ∧ Hid (OutA w wr (opT X i 0) ∧ ∀ k, k < i → ∀ xs ∈ X k, xs.length = 128)) (fun x _ => 2 - (intOf x).toNat)
  case atStart => exact ⟨0, by decide, rfl, Lib.hid ⟨OU0.out, fun k hk => absurd hk (Nat.not_lt_zero _)⟩⟩
  case round =>
    obtain ⟨i, hi, rfl, HO⟩ := hrel
    by_cases hlt : i < 2
    · have di : decide ((i : Int) < 2) = true := by simp; omega
      have hix := HIX.out i hlt
      obtain ⟨hsr, hl4, hxm⟩ := HSR.out i hlt
      obtain ⟨A, c, ev, hlc, hcm⟩ := hsr.form
      unfold maxLen at hcm
      obtain ⟨N, hN⟩ : ∃ N, N = (Lr i).length := ⟨_, rfl⟩
      rw [← hN] at ev hlc hl4
      rw [ev] at hix hsr
      have HR := Lib.hid hsr
      have HN := Lib.hid hN
      have HXM := Lib.hid hxm
      have HI := Lib.hid hlt
      have hi2 : (i : Int) < 2 := by omega
      have d4 : decide ((4096 : Int) < (N : Int)) = false := by simp; omega
      have ALL := Lib.hid HO.out.2
      have OUI := Lib.hid HO.out.1
      clear hsr hN hxm ev HO hlt
      go_wp2
      go_loopw [24] (fun x wr => ∃ m : Nat, m ≤ N ∧ x = .int .i64 m ∧ Hid (OutA w wr (opT X i m) ∧ ∀ xs ∈ (X i).take m, xs.length = 128)) (fun x _ => N - (intOf x).toNat)
      case atStart => exact ⟨0, Nat.zero_le _, rfl, Lib.hid ⟨OUI.out, fun xs hx => by simp at hx⟩⟩
      case round =>
        obtain ⟨m, hm, rfl, HM⟩ := hrel
        clear OUI
        by_cases hmN : m < N
        · obtain ⟨w1, rfl⟩ : ∃ w1, w1 = wr := ⟨wr, rfl⟩
          obtain ⟨col, fv, uv, hd, hbel⟩ := HM.out.1
          have hml : m < (Lr i).length := by rw [← HN.out]; exact hmN
          obtain ⟨b4, of4, u4, xs, rfl, _, g4, e4, r4, z4⟩ := (sr_later HR.out (hbel.mono HB0.out)).index m hml
          have hXm : (X i)[m]? = some xs := by rw [HXM.out, List.getElem?_map, g4]; rfl
          have dm : decide ((m : Int) < (N : Int)) = true := by simp; omega
          have hmi : (m : Int) < N := by omega
          obtain ⟨Ar, Lx, cr, eu4, hLx⟩ : ∃ A l c, u4 = .slice A l c ∧ l = xs.length := by obtain ⟨A, c, e, _⟩ := r4.form; exact ⟨A, _, c, e, rfl⟩
          subst eu4
          by_cases h128 : xs.length = 128
          · rw [h128] at hLx
            subst hLx
            obtain ⟨D, hD⟩ : ∃ D, D = opT X i m := ⟨_, rfl⟩
            rw [← hD] at hd
            obtain ⟨b, hbw⟩ : ∃ b, b = w.heap.size := ⟨_, rfl⟩
            rw [← hbw] at hd ⊢
            have hlen : (D.f i).length = m := by
              rw [hD]
              unfold opT
              simp only [Nat.lt_irrefl, if_false, if_true, List.length_map, List.length_take, HXM.out]
              omega
            obtain ⟨Av, cv, ev, hlc2⟩ : ∃ A c, fv i = .slice A (D.f i).length c ∧ (D.f i).length ≤ c := by
              rcases (hd.file i HI.out).row.1.2 with ⟨e, h0⟩ | ⟨g, cap, _, e, _, _, h1, _⟩
              · rw [h0]; exact ⟨none, 0, e, Nat.le_refl _⟩
              · exact ⟨_, cap, e, h1⟩
            obtain ⟨LQ, hL⟩ : ∃ LQ, LQ = (D.f i).length := ⟨_, rfl⟩
            rw [← hL] at ev hlc2 hlen
            obtain ⟨vs, hvs⟩ : ∃ vs, vs = (uv i).flatMap cSe := ⟨_, rfl⟩
            have HLB := Lib.hid (show LQ ≤ 4096 by omega)
            have OW1 := Lib.hid (show w1.ownsRow 0 68 2 (.slice Av LQ cv) LQ vs by rw [← ev, hvs, hL]; exact (hd.file i HI.out).row.1)
            have BX1 := Lib.hid (show Box w1 b (dC fv D.lim D.left D.dead) 65 from hd.box)
            have CB1 := Lib.hid (show (dC fv D.lim D.left D.dead)[i]? = some (.slice Av LQ cv) by rw [← ev]; rcases two HI.out with h9 | h9 <;> (subst h9; rfl))
            have HRL := Lib.hid (show ∀ k, (Value.slice Av LQ cv).ownBlock = some k → k < w1.heap.size from fun k hk => (OW1.out.lt k hk).2)
            have HRG : (Value.slice Av LQ cv).ownBlock ≠ some b := fun e => by
              have h2 := (hd.file i HI.out).row.2 b (by rw [ev]; exact e)
              have h3 := hd.bcol
              unfold fc at h2
              omega
            have R1 := Lib.hid (r4.more (show B ≤ w1.heap.size from Nat.le_trans HB0.out hbel.size))
            have HXL := Lib.hid h128
            have HXB := Lib.hid z4
            have HXE := Lib.hid hXm
            have HD := Lib.hid hd
            have EV := Lib.hid ev
            have HLL := Lib.hid (And.intro hL hlen)
            have HVS := Lib.hid hvs
            have HDD := Lib.hid hD
            have HBW := Lib.hid hbw
            have HBEL := Lib.hid hbel
            have HMP := Lib.hid HM.out.2
            have HMN := Lib.hid hmN
            clear hd ev hL hvs hD hbw hbel HM hlen r4 z4 g4 hXm hml h128 hlc2
            go_wp2_with fail
            refine wp_region_app (by kernel_rfl) (by kernel_rfl) (Value.slice Av LQ cv).ownBlock b 12 16 65 (fun v => (dC fv D.lim D.left D.dead).setIfInBounds i v) [(fun v _ => v = .pointer (some ⟨b, 0, none⟩)), (fun v _ => v = .int .i64 i), (fun v _ => v = .pointer (some ⟨b, 0, none⟩)), (fun v _ => v = .int .i64 i), (fun v _ => v = .pointer (some ⟨b, 0, none⟩)), (fun v _ => v = .pointer (some ⟨b, 0, none⟩)), (fun v _ => v = .pointer (some ⟨b, i, none⟩)), (fun v _ => v = .slice Av LQ cv), (fun v _ => v = .slice Ar 128 cr), (fun v W => W.ownsRow w1.heap.size 5 1 v 128 (xs.map (.int .u8))), (fun v W => ∃ x, v = .agg #[x, .slice none 0 0] ∧ W.ownsRow w1.heap.size 5 1 x 128 (xs.map (.int .u8))), (fun v W => ∃ g1, v = .slice (some ⟨g1, 0, none⟩) 1 1 ∧ w1.heap.size ≤ g1 ∧ ∃ x, Box W g1 #[x, .slice none 0 0] 68 ∧ W.ownsRow w1.heap.size 5 1 x 128 (xs.map (.int .u8))), (fun v W => ∃ x, W.ownsRow 0 68 2 v (LQ + 1) (vs ++ [x, .slice none 0 0]) ∧ W.ownsRow w1.heap.size 5 1 x 128 (xs.map (.int .u8)) ∧ (v.ownBlock = (Value.slice Av LQ cv).ownBlock ∨ ∀ k, v.ownBlock = some k → w1.heap.size ≤ k)), (fun v _ => v = .pointer (some ⟨b, 0, none⟩)), (fun v _ => v = .pointer (some ⟨b, 0, none⟩)), (fun v _ => v = .pointer (some ⟨b, i, none⟩)), (fun v _ => v = undef)] (by decide) (by intro o ho; injection ho with ho; subst ho; exact ⟨⟨12, .data⟩, by simp, rfl, rfl⟩) HRG ?_ (fun vals => ?_) (fun vals W hfr hbx hall _ => ?_) (by decide)
            · intro j v W W' hj hsz hf h
              match j, hj, h with
              | 0, _, h => exact h
              | 1, _, h => exact h
              | 2, _, h => exact h
              | 3, _, h => exact h
              | 4, _, h => exact h
              | 5, _, h => exact h
              | 6, _, h => exact h
              | 7, _, h => exact h
              | 8, _, h => exact h
              | 9, _, h => exact own_frS h hf (fun k hk hs => by have := (h.lt k hk).1; rcases hs with ⟨_, h1⟩ | h1; (have := HRL.out _ h1; omega); (have := BX1.out.lt; omega))
              | 10, _, h => obtain ⟨x, e1, e4⟩ := h; exact ⟨x, e1, own_frS e4 hf (fun k hk hs => by have := (e4.lt k hk).1; rcases hs with ⟨_, h1⟩ | h1; (have := HRL.out _ h1; omega); (have := BX1.out.lt; omega))⟩
              | 11, _, h => obtain ⟨g1, e1, e2, x, e3, e4⟩ := h; exact ⟨g1, e1, e2, x, e3.fr hf (fun hk => by rcases hk with ⟨_, h1⟩ | h1; (have := HRL.out _ h1; omega); (have := BX1.out.lt; omega)), own_frS e4 hf (fun k hk hs => by have := (e4.lt k hk).1; rcases hs with ⟨_, h1⟩ | h1; (have := HRL.out _ h1; omega); (have := BX1.out.lt; omega))⟩
              | 12, _, h => obtain ⟨x, e1, e2, e3⟩ := h; exact ⟨x, own_frS e1 hf (fun k hk hs => by rcases hs with ⟨h1, _⟩ | h1; (exact h1 rfl); (subst h1; rcases e3 with h3 | h3; (rw [h3] at hk; exact HRG hk); (have := h3 _ hk; have := BX1.out.lt; omega))), own_frS e2 hf (fun k hk hs => by have := (e2.lt k hk).1; rcases hs with ⟨h1, _⟩ | h1; (exact h1 rfl); (have := BX1.out.lt; omega)), e3⟩
              | 13, _, h => exact h
              | 14, _, h => exact h
              | 15, _, h => exact h
              | 16, hj, _ => exact absurd rfl hj
              | _ + 17, _, _ => trivial
            · simp only [ObL, Act.put, List.setIfInBounds_toArray, List.set_cons_succ, List.set_cons_zero]
              refine ⟨?_, ?_, ?_, ?_, ?_, ?_, ?_, ?_, ?_, ?_, ?_, ?_, ?_, ?_, ?_, ?_, ?_, trivial⟩
              · intro L W hL hk hC hw
                clear hw
                clear hL hC hk
                refine step_plain rfl ?_
                go_simp
                first | exact ⟨Ra.same _, Fa.val (by decide) rfl rfl⟩ | exact ⟨_, rfl, Ra.same _, Fa.val (by decide) rfl rfl⟩
              · intro L W hL hk hC hw
                clear hw
                clear hL hC hk
                refine step_plain rfl ?_
                go_simp
                first | exact ⟨Ra.same _, Fa.val (by decide) rfl rfl⟩ | exact ⟨_, rfl, Ra.same _, Fa.val (by decide) rfl rfl⟩
              · intro L W hL hk hC hw
                clear hw
                clear hL hC hk
                refine step_plain rfl ?_
                go_simp
                first | exact ⟨Ra.same _, Fa.val (by decide) rfl rfl⟩ | exact ⟨_, rfl, Ra.same _, Fa.val (by decide) rfl rfl⟩
              · intro L W hL hk hC hw
                clear hw
                clear hL hC hk
                refine step_plain rfl ?_
                go_simp
                first | exact ⟨Ra.same _, Fa.val (by decide) rfl rfl⟩ | exact ⟨_, rfl, Ra.same _, Fa.val (by decide) rfl rfl⟩
              · intro L W hL hk hC hw
                have f2 : vals 2 = .pointer (some ⟨b, 0, none⟩) := Fa.get (hw ⟨2, .data⟩ (by simp) rfl) (by decide)
                clear hw
                clear hL hC hk
                refine step_plain rfl ?_
                go_simp
                first | exact ⟨Ra.same _, Fa.val (by decide) rfl rfl⟩ | exact ⟨_, rfl, Ra.same _, Fa.val (by decide) rfl rfl⟩
              · intro L W hL hk hC hw
                have f4 : vals 4 = .pointer (some ⟨b, 0, none⟩) := Fa.get (hw ⟨4, .data⟩ (by simp) rfl) (by decide)
                clear hw
                clear hL hC hk
                refine step_plain rfl ?_
                go_simp
                first | exact ⟨Ra.same _, Fa.val (by decide) rfl rfl⟩ | exact ⟨_, rfl, Ra.same _, Fa.val (by decide) rfl rfl⟩
              · intro L W hL hk hC hw
                have f5 : vals 5 = .pointer (some ⟨b, 0, none⟩) := Fa.get (hw ⟨5, .data⟩ (by simp) rfl) (by decide)
                have f3 : vals 3 = .int .i64 i := Fa.get (hw ⟨3, .data⟩ (by simp) rfl) (by decide)
                clear hw
                clear hL hC hk
                refine step_plain rfl ?_
                go_simp
                first | exact ⟨Ra.same _, Fa.val (by decide) rfl rfl⟩ | exact ⟨_, rfl, Ra.same _, Fa.val (by decide) rfl rfl⟩
              · intro L W hL hk hC hw
                have f6 : vals 6 = .pointer (some ⟨b, i, none⟩) := Fa.get (hw ⟨6, .data⟩ (by simp) rfl) (by decide)
                clear hw
                have bx := hC.box BX1.out (hL.not_yet hk 16 8 (by decide +kernel)) HRG
                have kc : W.cell? ⟨b, i, none⟩ = some (.slice Av LQ cv) := by rw [bx.cell]; exact CB1.out
                clear hL hC hk bx
                refine step_plain rfl ?_
                go_simp
                first | exact ⟨Ra.same _, Fa.val (by decide) rfl rfl⟩ | exact ⟨_, rfl, Ra.same _, Fa.val (by decide) rfl rfl⟩
              · intro L W hL hk hC hw
                clear hw
                clear hL hC hk
                refine step_plain rfl ?_
                go_simp
                first | exact ⟨Ra.same _, Fa.val (by decide) rfl rfl⟩ | exact ⟨_, rfl, Ra.same _, Fa.val (by decide) rfl rfl⟩
              · intro L W hL hk hC hw
                have f8 : vals 8 = .slice Ar 128 cr := Fa.get (hw ⟨8, .data⟩ (by simp) rfl) (by decide)
                clear hw
                have hb := hC.below (hL.not_yet hk 12 8 (by decide +kernel)) (hL.not_yet hk 16 8 (by decide +kernel))
                have hsz := hb.size
                have CL := Lib.hid (clone_any _ xs W W.heap.size ((R1.out.below hb).more hb.size) (Nat.le_refl _) (by have := HXL.out; omega))
                clear hL hC hk hb
                refine step_plain rfl ?_
                go_simp
                (with_reducible refine CL.out.mono ?_)
                rintro e w8 ⟨u, rfl, hu, hb8⟩
                have hu2 := own_len (own_lower hu hsz) HXL.out
                first | exact ⟨Ra.of_below hb8, Fa.val (by decide) rfl hu2⟩ | exact ⟨_, rfl, Ra.of_below hb8, Fa.val (by decide) rfl hu2⟩
              · intro L W hL hk hC hw
                have f9 : W.ownsRow w1.heap.size 5 1 (vals 9) 128 (xs.map (.int .u8)) := Fa.get (hw ⟨9, .data⟩ (by simp) rfl) (by decide)
                clear hw
                have hsz := Lib.hid (show w1.heap.size ≤ W.heap.size from hC.size)
                obtain ⟨A6, c6, e6⟩ := own_slice' f9
                rw [e6] at f9
                have F6 := Lib.hid f9
                clear hL hC hk f9
                refine step_plain rfl ?_
                go_simp
                first | exact ⟨Ra.same _, Fa.val (by decide) rfl ⟨_, rfl, F6.out⟩⟩ | exact ⟨_, rfl, Ra.same _, Fa.val (by decide) rfl ⟨_, rfl, F6.out⟩⟩
              · intro L W hL hk hC hw
                have f10 : ∃ x, (vals 10) = .agg #[x, .slice none 0 0] ∧ W.ownsRow w1.heap.size 5 1 x 128 (xs.map (.int .u8)) := Fa.get (hw ⟨10, .data⟩ (by simp) rfl) (by decide)
                clear hw
                have hsz := Lib.hid (show w1.heap.size ≤ W.heap.size from hC.size)
                obtain ⟨x, e7, hx⟩ := f10
                obtain ⟨A6, c6, e6⟩ := own_slice' hx
                subst e6
                have F6 := Lib.hid hx
                clear hL hC hk hx
                refine step_plain rfl ?_
                go_simp
                have hz := new_ (Below.refl W.heap.size W) (.cells #[.slice A6 128 c6, .slice none 0 0] 68)
                first | exact ⟨Ra.of_below hz, Fa.val (by decide) rfl ⟨_, rfl, hsz.out, _, Box.new _ _ _, own_below F6.out hz⟩⟩ | exact ⟨_, rfl, Ra.of_below hz, Fa.val (by decide) rfl ⟨_, rfl, hsz.out, _, Box.new _ _ _, own_below F6.out hz⟩⟩
              · intro L W hL hk hC hw
                have f7 : vals 7 = .slice Av LQ cv := Fa.get (hw ⟨7, .data⟩ (by simp) rfl) (by decide)
                have f11 : ∃ g1, (vals 11) = .slice (some ⟨g1, 0, none⟩) 1 1 ∧ w1.heap.size ≤ g1 ∧ ∃ x, Box W g1 #[x, .slice none 0 0] 68 ∧ W.ownsRow w1.heap.size 5 1 x 128 (xs.map (.int .u8)) := Fa.get (hw ⟨11, .data⟩ (by simp) rfl) (by decide)
                clear hw
                have hb := hC.below hk (hL.not_yet hk 16 8 (by decide +kernel))
                have ow := own_below OW1.out hb
                obtain ⟨g1, e7, hg1, x, hbx1, hx1⟩ := f11
                obtain ⟨Ax, cx, ex⟩ := own_slice' hx1
                subst ex
                clear hL hC hk
                refine step_plain rfl ?_
                refine wp_push W _ _ _ rfl 0 68 j0 _ 2 48 Try.underlying62 hj0 hj1 hj2 hj3 rfl (by decide) [.slice Ax 128 cx, .slice none 0 0] rfl (by intro u hu; simp only [List.mem_cons, List.not_mem_nil, or_false] at hu; rcases hu with rfl | rfl <;> rfl) (.slice Av LQ cv) LQ vs f7 ow g1 _ e7 hbx1 (by simp only [maxLen]; have := HLB.out; omega) (by have := HLB.out; omega) (Nat.zero_le _) ?_
                intro v1 w2 ho1 hgr1 hb1
                have hk1 : (Value.slice Ax 128 cx).ownBlock = none ∨ (Value.slice Ax 128 cx).ownBlock ≠ (Value.slice Av LQ cv).ownBlock := by
                                    refine .inr (fun e9 => ?_)
                                    cases hAx : (Value.slice Ax 128 cx).ownBlock with
                                    | none => rcases hx1.2 with ⟨_, h0⟩ | ⟨q, _, _, eq, _⟩; (cases h0); (rw [eq] at hAx; cases hAx)
                                    | some q => have h8 := (hx1.lt q hAx).1; rw [hAx] at e9; have := HRL.out q e9.symm; omega
                have hk2 : v1.ownBlock = (Value.slice Av LQ cv).ownBlock ∨ ∀ k, v1.ownBlock = some k → w1.heap.size ≤ k := by
                                    rcases hb1 with h | h
                                    · exact .inl h
                                    · exact .inr (fun k hk => by rw [h] at hk; injection hk with hk; have := hb.size; omega)
                exact ⟨_, rfl, Fr.grown (Fr.refl _ _) hgr1 (fun g e => .inl (.inl ⟨rfl, e⟩)), Fa.val (by decide) rfl ⟨_, ho1, hx1.kept hgr1 hk1, hk2⟩⟩
              · intro L W hL hk hC hw
                have f0 : vals 0 = .pointer (some ⟨b, 0, none⟩) := Fa.get (hw ⟨0, .data⟩ (by simp) rfl) (by decide)
                clear hw
                clear hL hC hk
                refine step_plain rfl ?_
                go_simp
                first | exact ⟨Ra.same _, Fa.val (by decide) rfl rfl⟩ | exact ⟨_, rfl, Ra.same _, Fa.val (by decide) rfl rfl⟩
              · intro L W hL hk hC hw
                have f13 : vals 13 = .pointer (some ⟨b, 0, none⟩) := Fa.get (hw ⟨13, .data⟩ (by simp) rfl) (by decide)
                clear hw
                clear hL hC hk
                refine step_plain rfl ?_
                go_simp
                first | exact ⟨Ra.same _, Fa.val (by decide) rfl rfl⟩ | exact ⟨_, rfl, Ra.same _, Fa.val (by decide) rfl rfl⟩
              · intro L W hL hk hC hw
                have f14 : vals 14 = .pointer (some ⟨b, 0, none⟩) := Fa.get (hw ⟨14, .data⟩ (by simp) rfl) (by decide)
                have f1 : vals 1 = .int .i64 i := Fa.get (hw ⟨1, .data⟩ (by simp) rfl) (by decide)
                clear hw
                clear hL hC hk
                refine step_plain rfl ?_
                go_simp
                first | exact ⟨Ra.same _, Fa.val (by decide) rfl rfl⟩ | exact ⟨_, rfl, Ra.same _, Fa.val (by decide) rfl rfl⟩
              · intro L W hL hk hC hw
                have f15 : vals 15 = .pointer (some ⟨b, i, none⟩) := Fa.get (hw ⟨15, .data⟩ (by simp) rfl) (by decide)
                have f12 : ∃ x, W.ownsRow 0 68 2 (vals 12) (LQ + 1) (vs ++ [x, .slice none 0 0]) ∧ W.ownsRow w1.heap.size 5 1 x 128 (xs.map (.int .u8)) ∧ ((vals 12).ownBlock = (Value.slice Av LQ cv).ownBlock ∨ ∀ k, (vals 12).ownBlock = some k → w1.heap.size ≤ k) := Fa.get (hw ⟨12, .data⟩ (by simp) rfl) (by decide)
                clear hw
                have bx := hC.box BX1.out hk HRG
                obtain ⟨x, hx8, hxx, hx9⟩ := f12
                obtain ⟨A2, l2, e21⟩ := own_slice' hx8
                have kc : ∃ z, W.cell? ⟨b, i, none⟩ = some z := ⟨_, by rw [bx.cell]; exact CB1.out⟩
                obtain ⟨z, kc⟩ := kc
                have fc := bx.frozen i
                clear hL hC hk
                refine step_plain rfl ?_
                go_simp
                have hb9 := Box.set_ bx i (.slice A2 (LQ + 1) l2)
                exact ⟨Fr.setCell (Fr.refl _ _) (p := ⟨b, i, none⟩) (.inl (.inr ⟨rfl, rfl⟩)) _, undef, Fa.last (by decide) (by rw [e21]; first | exact hb9 | simpa only [dC, List.setIfInBounds_toArray] using hb9)⟩
            · simp only [TL, Act.put, List.setIfInBounds_toArray, List.set_cons_succ, List.set_cons_zero]
              obtain ⟨x, hx1, hx2, hx3⟩ := hall 12 (by decide) (by decide)
              have hpu := HD.out.push (i := i) HI.out (u := x) (xs := xs) (v' := vals 12) (by rw [← HLL.out.1]; have := HLL.out.2; have := HMN.out; omega) (by rw [EV.out]; exact hfr) (by rw [← HLL.out.1, ← HVS.out]; exact hx1) (by rw [EV.out]; exact hx3) hx2 HXL.out HXB.out hbx (by decide)
              obtain ⟨col', hpu⟩ := hpu
              have HNX := Lib.hid (show OutA w W (opT X i (m + 1)) from ⟨col', _, _, by
                rw [opT_push X i m xs HXE.out, ← HDD.out, ← HBW.out]
                refine hpu.mono (fun y hy => ?_) (fun y hy => hy.2)
                rcases hy with hy | hy
                · exact ⟨hy.1, Nat.lt_of_lt_of_le hy.2 hfr.size⟩
                · exact ⟨Nat.le_trans HBEL.out.size hy.1, hy.2⟩, HBEL.out.trans (hfr.to_below (B := w.heap.size) (fun y hy => by
                  rcases hy with hy | hy
                  · exact (HD.out.mine y (by rw [(HD.out.file i HI.out).row.2 y (by rw [EV.out]; exact hy)]; unfold fc; omega)).1
                  · have := HBW.out; omega) HBEL.out.size)⟩)
              have HMP2 := Lib.hid (show ∀ xs ∈ (X i).take (m + 1), xs.length = 128 by
                rw [List.take_add_one, HXE.out]
                intro ys hy
                rcases List.mem_append.1 hy with hy | hy
                · exact HMP.out ys hy
                · rw [List.mem_singleton.1 hy]; exact HXL.out)
              clear hfr hbx hall hx1 hx2 hx3 hpu
              go_wp2
              go_roundw
              case rel => exact ⟨m + 1, HMN.out, by go_num, Lib.hid ⟨HNX.out, HMP2.out⟩⟩
              case measure => have := HMN.out; simp [intOf]; omega
          · have hLi : ¬ ((Lx : Int) = 128) := by omega
            have dx : ((Lx : Int) != 128) = true := by simpa using hLi
            have HBE := Lib.hid hbel
            have hqf : q = false := by
              cases q with
              | false => rfl
              | true => exact absurd (HQ.out.1 rfl i HI.out xs (List.mem_of_getElem? hXm)) h128
            subst hqf
            clear hd hbel r4 z4 g4 hXm
            go_wp2
            go_ret
            exact ⟨rfl, HBE.out⟩
        · have emN : m = N := by omega
          have dm : decide ((m : Int) < (N : Int)) = false := by simp; omega
          have hmi : ¬ (m : Int) < N := by omega
          have hxl : (X i).length = N := by rw [HXM.out, List.length_map, HN.out]
          have HNX := Lib.hid (show OutA w wr (opT X (i + 1) 0) ∧ ∀ k, k < i + 1 → ∀ xs ∈ X k, xs.length = 128 from by
            have h9 := HM.out
            rw [emN, ← hxl, opT_next, List.take_length] at h9
            refine ⟨h9.1, fun k hk xs hx => ?_⟩
            by_cases h8 : k = i
            · subst h8; exact h9.2 xs hx
            · exact ALL.out k (by omega) xs hx)
          clear HM emN hxl
          go_wp2
          go_roundw
          case rel => exact ⟨i + 1, by have := HI.out; omega, by go_num, Lib.hid HNX.out⟩
          case measure => have := HI.out; simp [intOf]; omega
    · have hi2 : i = 2 := by omega
      have di : decide ((i : Int) < 2) = false := by simp; omega
      subst hi2
      have hqt : q = true := HQ.out.2 HO.out.2
      subst hqt
      go_wp2
      go_ret
      obtain ⟨_, _, _, _, hbe⟩ := HO.out.1
      exact ⟨rfl, HO.out.1, hbe⟩
/-- what sectors tells -/
def SectOut (w w' : World) (u : Value) (q : Bool) (i : Nat) (col0 : Nat → Nat) (xss : List (List Int)) : Prop :=
  (∃ A n c, u = .slice A n c) ∧ (q = true → ∃ col uv, FiAt 74 w' col (fc i) u (xss.map bare) uv ∧ (∀ g, g < w.heap.size → col g = col0 g) ∧ ∀ g, w.heap.size ≤ g → col g ≠ 0 → g < w'.heap.size) ∧ Below w.heap.size w w'
set_option maxRecDepth 100000 in
set_option maxHeartbeats 16000000 in
theorem sect_any (w : World) (B : Nat) (hB : B ≤ w.heap.size) (v : Value) (va : List (Value × List Int)) (hv : SR w B v va) (hl : va.length ≤ 4096) (col0 : Nat → Nat) (i : Nat) (q : Bool) (hq : q = true ↔ ∀ xs ∈ va.map (·.2), xs.length = 128) :
    Calls Try.prog 43 #[v] w fun e w' => ∃ u, e = .returned (.tuple #[u, .bool q]) ∧ SectOut w w' u q i col0 (va.map (·.2)) := by
  obtain ⟨A, c, rfl, hlc, hcm⟩ := hv.form
  unfold maxLen at hcm
  obtain ⟨N, hN⟩ : ∃ N, N = va.length := ⟨_, rfl⟩
  rw [← hN] at hlc hl hv ⊢
  have HN := Lib.hid hN
  have HV := Lib.hid hv
  have HB0 := Lib.hid hB
  have HQ := Lib.hid hq
  obtain ⟨j0, hj0, hj1, hj2, hj3⟩ := info_parts rsec_info
  have d4 : decide ((4096 : Int) < (N : Int)) = false := by simp; omega
  clear hv hN hB hq
  go_enter Try.func43, Try.ntmps43
  go_wp2
  go_loopw [4, 5] (fun o x wr => ∃ m : Nat, m ≤ N ∧ x = .int .i64 m ∧ Hid ((∃ col uv, FiAt 74 wr col (fc i) o (((va.map (·.2)).take m).map bare) uv ∧ (∀ g, g < w.heap.size → col g = col0 g) ∧ ∀ g, w.heap.size ≤ g → col g ≠ 0 → g < wr.heap.size) ∧ (∀ g, o.ownBlock = some g → w.heap.size ≤ g) ∧ ∀ xs ∈ (va.map (·.2)).take m, xs.length = 128) ∧ Hid (Below w.heap.size w wr)) (fun _ x _ => N - (intOf x).toNat)
  case atStart => exact ⟨0, Nat.zero_le _, rfl, Lib.hid ⟨⟨fun g => if g < w.heap.size then col0 g else 0, [], ⟨rfl, Hd.nil _ _ _ _ _, fun i p s h => by simp at h⟩, fun g hg => if_pos hg, fun g hg hc => absurd (if_neg (by omega)) hc⟩, (fun g hg => by cases hg), fun xs hx => by simp at hx⟩, Lib.hid (Below.refl _ _)⟩
  case round =>
    obtain ⟨m, hm, rfl, HO, HBL⟩ := hrel
    by_cases hlt : m < N
    · obtain ⟨w1, rfl⟩ : ∃ w1, w1 = wr := ⟨wr, rfl⟩
      have hml : m < va.length := by rw [← HN.out]; exact hlt
      obtain ⟨b4, of4, u4, xs, rfl, _, g4, e4, r4, z4⟩ := (sr_later HV.out (HBL.out.mono HB0.out)).index m hml
      have hXm : (va.map (·.2))[m]? = some xs := by rw [List.getElem?_map, g4]; rfl
      have dm : decide ((m : Int) < (N : Int)) = true := by simp; omega
      have hmi : (m : Int) < N := by omega
      obtain ⟨Ar, Lx, cr, eu4, hLx⟩ : ∃ A l c, u4 = .slice A l c ∧ l = xs.length := by obtain ⟨A, c, e, _⟩ := r4.form; exact ⟨A, _, c, e, rfl⟩
      subst eu4
      obtain ⟨⟨col, uv, hfi, hco, hcn⟩, hob, hall⟩ := HO.out
      have hflen : (((va.map (·.2)).take m).map bare).length = m := by rw [List.length_map, List.length_take, List.length_map]; omega
      obtain ⟨Av, cv, ev⟩ := own_slice' hfi.row.1
      rw [hflen] at ev
      by_cases h128 : xs.length = 128
      · rw [h128] at hLx
        subst hLx
        have CL := Lib.hid (rlent_any (.slice Ar 128 cr) xs w1 B r4 (by rw [h128]; decide))
        rw [h128] at CL
        subst ev
        have HFI := Lib.hid hfi
        have HCO := Lib.hid hco
        have HCN := Lib.hid hcn
        have HOB := Lib.hid hob
        have HAL := Lib.hid hall
        have HXL := Lib.hid h128
        have HXB := Lib.hid z4
        have HXM := Lib.hid hXm
        have HFL := Lib.hid hflen
        have HMN := Lib.hid hlt
        have hm4 : m ≤ 4096 := by omega
        clear HO hfi hco hcn hob hall r4 z4 g4 hXm hml h128 hflen
        go_wp2_with fail
        (with_reducible refine CL.out.mono ?_)
        rintro e w2 ⟨u, rfl, hu, hb2⟩
        obtain ⟨Au, cu, eu⟩ := own_slice' hu
        subst eu
        have R2 := Lib.hid hu
        have B2 := Lib.hid hb2
        obtain ⟨OB, hOB⟩ : ∃ OB : Obj, OB = .cells #[.slice Au 128 cu, .slice none 0 0] 74 := ⟨_, rfl⟩
        have OWN := Lib.hid (show (w2.alloc OB).ownsRow 0 74 2 (.slice Av m cv) m (uv.flatMap cSe) by
          have h9 := HFI.out.row.1
          rw [HFL.out] at h9
          exact own_below (own_below h9 hb2) (new_ (Below.refl _ _) _))
        have BX2 := Lib.hid (show Box (w2.alloc OB) w2.heap.size #[.slice Au 128 cu, .slice none 0 0] 74 by rw [hOB]; exact Box.new _ _ _)
        have R3 := Lib.hid (own_below hu (new_ (Below.refl _ _) OB))
        have B3 := Lib.hid (show Below w1.heap.size w1 (w2.alloc OB) from new_ hb2 OB)
        rw [hOB] at OWN BX2 R3 B3
        clear hu hb2 hOB
        go_wp2_with (at_builtin; refine wpList_append_new _ rfl _ _ _ rfl 0 74 j0 _ 2 48 Try.underlying69 hj0 hj1 hj2 hj3 rfl (by decide) (.slice Av m cv) m (uv.flatMap cSe) rfl OWN.out ⟨w2.heap.size, 0, none⟩ 1 1 [.slice Au 128 cu, .slice none 0 0] rfl rfl (by intro j u9 hj9; rw [Go.WideShapes.add_plain, Nat.zero_add, BX2.out.cell j]; simpa using hj9) (by intro u9 hu9; simp only [List.mem_cons, List.not_mem_nil, or_false] at hu9; rcases hu9 with rfl | rfl <;> rfl) (by simp only [maxLen]; omega) (by omega) (Nat.zero_le _) ?_; intro v5 w5 ho5 hg5 hn5)
        have HF5 := Lib.hid (show Fr (fun x => (Value.slice Av m cv).ownBlock = some x) w1 w5 from Fr.grown (Fr.of_below B3.out) hg5 (fun g hg => .inl hg))
        have R5 := Lib.hid (show w5.ownsRow w1.heap.size 5 1 (.slice Au 128 cu) 128 (xs.map (.int .u8)) from R3.out.kept hg5 (by
          cases hb : (Value.slice Au 128 cu).ownBlock with
          | none => exact .inl rfl
          | some k => exact .inr (fun e => own_apart R3.out OWN.out (by decide) k hb e.symm)))
        have HV5 := Lib.hid (show ∀ g, v5.ownBlock = some g → (Value.slice Av m cv).ownBlock = some g ∨ w1.heap.size ≤ g from fun g hg => by
          rcases hn5 g hg with h9 | ⟨h9, _⟩
          · exact .inl h9
          · exact .inr (by rw [h9]; exact B3.out.size))
        have NX := Lib.hid (show (∃ col uv, FiAt 74 w5 col (fc i) v5 (((va.map (·.2)).take (m + 1)).map bare) uv ∧ (∀ g, g < w.heap.size → col g = col0 g) ∧ ∀ g, w.heap.size ≤ g → col g ≠ 0 → g < w5.heap.size) ∧ (∀ g, v5.ownBlock = some g → w.heap.size ≤ g) ∧ ∀ xs ∈ (va.map (·.2)).take (m + 1), xs.length = 128 by
          have hsep : ∀ g, (Value.slice Au 128 cu).ownBlock = some g → v5.ownBlock ≠ some g := fun g hg => own_apart R5.out ho5 (by decide) g hg
          have hcold : ∀ x, x < w1.heap.size → colP w1 col (fc i + 1 + m) (fc i) (Value.slice Au 128 cu).ownBlock v5.ownBlock x = col x := fun x hx => colP_old hx
          have hwb := HBL.out.size
          have hpu := HFI.out.push' (v' := v5) (u := .slice Au 128 cu) (xs := xs) (col' := colP w1 col (fc i + 1 + m) (fc i) (Value.slice Au 128 cu).ownBlock v5.ownBlock) HF5.out (fun x hx hs => .inr hs) (by unfold fc; omega) hcold (by rw [HFL.out]; exact ho5) (fun g hg => by
            by_cases h8 : g < w1.heap.size
            · rw [hcold g h8]
              rcases HV5.out g hg with h9 | h9
              · exact HFI.out.row.2 g h9
              · omega
            · exact colP_y (by omega) hg (fun e => hsep g e hg)) R5.out HXL.out HXB.out (fun g hg => by rw [HFL.out]; exact colP_x (R5.out.lt g hg).1 hg)
          have et : (va.map (·.2)).take (m + 1) = (va.map (·.2)).take m ++ [xs] := by rw [List.take_add_one, HXM.out]; rfl
          refine ⟨⟨_, _, by rw [et, List.map_append]; exact hpu, fun g hg => by rw [hcold g (by omega)]; exact HCO.out g hg, fun g hg hc => ?_⟩, fun g hg => ?_, ?_⟩
          · by_cases h8 : g < w1.heap.size
            · exact Nat.lt_of_lt_of_le h8 HF5.out.size
            · unfold colP at hc
              rw [if_neg h8] at hc
              by_cases h7 : (Value.slice Au 128 cu).ownBlock = some g
              · exact (R5.out.lt g h7).2
              · rw [if_neg h7] at hc
                by_cases h6 : v5.ownBlock = some g
                · exact (ho5.lt g h6).2
                · rw [if_neg h6] at hc; exact absurd rfl hc
          · rcases HV5.out g hg with h9 | h9
            · exact HOB.out g h9
            · omega
          · rw [et]
            intro ys hy
            rcases List.mem_append.1 hy with hy | hy
            · exact HAL.out ys hy
            · rw [List.mem_singleton.1 hy]; exact HXL.out)
        have HB5 := Lib.hid (show Below w.heap.size w w5 from HBL.out.trans (HF5.out.to_below (B := w.heap.size) (fun x hx => HOB.out x hx) HBL.out.size))
        clear ho5 hg5 hn5
        go_wp2
        go_roundw
        case rel => exact ⟨m + 1, HMN.out, by go_num, Lib.hid NX.out, HB5⟩
        case measure => have := HMN.out; simp [intOf]; omega
      · have hLi : ¬ ((Lx : Int) = 128) := by omega
        have dx : ((Lx : Int) != 128) = true := by simpa using hLi
        have hqf : q = false := by
          cases q with
          | false => rfl
          | true => exact absurd (HQ.out.1 rfl xs (List.mem_of_getElem? hXm)) h128
        subst hqf
        have SO := Lib.hid (show SectOut w w1 _ false i col0 (va.map (·.2)) from ⟨⟨_, _, _, ev⟩, (fun h => by cases h), HBL.out⟩)
        clear r4 z4 g4 hXm hfi hco hcn hob hall HO
        go_wp2
        go_ret2
        exact ⟨_, rfl, SO.out⟩
    · have emN : m = N := by omega
      have dm : decide ((m : Int) < (N : Int)) = false := by simp; omega
      have hmi : ¬ (m : Int) < N := by omega
      obtain ⟨⟨col, uv, hfi, hco, hcn⟩, hob, hall⟩ := HO.out
      have et : (va.map (·.2)).take m = va.map (·.2) := by rw [emN, HN.out, show va.length = (va.map (·.2)).length by rw [List.length_map], List.take_length]
      rw [et] at hfi hall
      have hqt : q = true := HQ.out.2 hall
      subst hqt
      have HFI := Lib.hid hfi
      have HCC := Lib.hid (And.intro hco hcn)
      obtain ⟨Av, cv, ev⟩ := own_slice' hfi.row.1
      rw [show ((va.map (·.2)).map bare).length = N by rw [List.length_map, List.length_map, HN.out]] at ev
      subst ev
      have SO := Lib.hid (show SectOut w wr _ true i col0 (va.map (·.2)) from ⟨⟨_, _, _, rfl⟩, fun _ => ⟨col, uv, HFI.out, HCC.out.1, HCC.out.2⟩, HBL.out⟩)
      clear emN hfi hco hcn hob hall et HO
      go_wp2
      go_ret2
      exact ⟨_, rfl, SO.out⟩
/-- a device at block b that was made since -/
def OutB (w wr : World) (b : Nat) (D : Dv) : Prop := w.heap.size ≤ b ∧ ∃ col fv uv, DR wr (newS w wr) b D col fv uv
def OpenOut (w w' : World) (e : Ending) (q : Bool) (X : Nat → List (List Int)) : Prop := ∃ b, e = .returned (.pointer (if q = true then some ⟨b, 0, none⟩ else none)) ∧ (q = true → OutB w w' b (opT X 2 0)) ∧ Below w.heap.size w w'
set_option maxRecDepth 100000 in
set_option maxHeartbeats 16000000 in
theorem ropen_any (w : World) (B : Nat) (hB : B ≤ w.heap.size) (va vb : Value) (la lb : List (Value × List Int)) (ha : SR w B va la) (hb : SR w B vb lb) (h0 : la.length ≤ 4096) (h1 : lb.length ≤ 4096) (X : Nat → List (List Int)) (hX0 : X 0 = la.map (·.2)) (hX1 : X 1 = lb.map (·.2)) (q : Bool) (hq : q = true ↔ okX X) :
    Calls Try.prog 18 #[va, vb] w fun e w' => OpenOut w w' e q X := by
  have hdec : ∀ k, ∃ q : Bool, q = true ↔ ∀ xs ∈ X k, xs.length = 128 := fun k => by
    by_cases h : ∀ xs ∈ X k, xs.length = 128
    · exact ⟨true, ⟨fun _ => h, fun _ => rfl⟩⟩
    · exact ⟨false, ⟨(fun x => by cases x), fun x => absurd x h⟩⟩
  obtain ⟨q0, hq0⟩ := hdec 0
  obtain ⟨q1, hq1⟩ := hdec 1
  have hqq : q = (q0 && q1) := by
    rw [Bool.eq_iff_iff, hq, Bool.and_eq_true, hq0, hq1]
    exact ⟨fun h => ⟨h 0 (by decide), h 1 (by decide)⟩, fun h k hk => by rcases two hk with rfl | rfl; (exact h.1); (exact h.2)⟩
  rw [hqq]
  have SA := Lib.hid (sect_any w B hB va la ha h0 (fun _ => 0) 0 q0 (by rw [hq0, hX0]))
  have HSB := Lib.hid (fun (w1 : World) (hbl : Below w.heap.size w w1) (col : Nat → Nat) => sect_any w1 B (Nat.le_trans hB hbl.size) vb lb (sr_later hb (hbl.mono hB)) h1 col 1 q1 (by rw [hq1, hX1]))
  have HX := Lib.hid (And.intro hX0 hX1)
  have HLN := Lib.hid (And.intro h0 h1)
  clear ha hb hq hq0 hq1 hqq hdec hB h0 h1 hX0 hX1
  go_enter Try.func18, Try.ntmps18
  go_wp2_with fail
  (with_reducible refine SA.out.mono ?_)
  rintro e w1 ⟨ua, rfl, so⟩
  obtain ⟨⟨Aa, na, ca, rfl⟩, fa, ba⟩ := so
  have BA := Lib.hid ba
  have FA := Lib.hid fa
  obtain ⟨colA, hcolA⟩ : ∃ col : Nat → Nat, (q0 = true → ∃ uv, FiAt 74 w1 col (fc 0) (.slice Aa na ca) (((la.map (·.2))).map bare) uv ∧ (∀ g, g < w.heap.size → col g = 0) ∧ ∀ g, w.heap.size ≤ g → col g ≠ 0 → g < w1.heap.size) := by
    cases q0 with
    | false => exact ⟨fun _ => 0, fun h => by cases h⟩
    | true =>
      obtain ⟨col, uv, h⟩ := fa rfl
      exact ⟨col, fun _ => ⟨uv, h⟩⟩
  have CA := Lib.hid hcolA
  clear fa ba FA hcolA
  go_wp2_with fail
  (with_reducible refine (HSB.out w1 BA.out colA).mono ?_)
  rintro e w2 ⟨ub, rfl, so⟩
  obtain ⟨⟨Ab, nb, cb, rfl⟩, fb, bb⟩ := so
  have FB := Lib.hid fb
  have HB2 := Lib.hid (step_ BA.out bb)
  have BB := Lib.hid bb
  clear fb bb
  cases q0
  case false =>
    go_wp2
    go_ret
    exact ⟨0, rfl, (fun h => by cases h), HB2.out⟩
  cases q1
  case false =>
    go_wp2
    go_ret
    exact ⟨0, rfl, (fun h => by cases h), HB2.out⟩
  obtain ⟨b, hbw⟩ : ∃ b, w2.heap.size = b := ⟨_, rfl⟩
  obtain ⟨w3, hw3⟩ : ∃ w3, w2.alloc (.cells #[.slice Aa na ca, .slice Ab nb cb, .bool false, .int .i64 0, .bool false] 72) = w3 := ⟨_, rfl⟩
  have HB3 := Lib.hid (show Box w3 b #[.slice Aa na ca, .slice Ab nb cb, .bool false, .int .i64 0, .bool false] 72 by rw [← hw3, ← hbw]; exact Box.new _ _ _)
  have HF3 := Lib.hid (show Below w2.heap.size w2 w3 by rw [← hw3]; exact new_ (Below.refl _ _) _)
  have HBW := Lib.hid hbw
  go_wp2
  try rw [hw3]
  clear hw3
  go_ret
  refine Exists.intro b ?_
  refine ⟨rfl, fun _ => ?_, step_ HB2.out HF3.out⟩
  obtain ⟨uva, fa, a0, a1⟩ := CA.out (by first | rfl | trivial)
  obtain ⟨col, uvb, fb, c0, c1⟩ := FB.out (by first | rfl | trivial)
  have hw12 := BB.out.size
  have hww1 := BA.out.size
  have hbe := HBW.out
  have hcb : col b = 0 := Decidable.byContradiction fun h => by
    have := c1 b (by omega) h
    omega
  have hall : ∀ k, k < 2 → FiAt 74 w3 col (fc k) (if k = 0 then .slice Aa na ca else .slice Ab nb cb) ((opT X 2 0).f k) (if k = 0 then uva else uvb) := fun k hk => by
    rcases two hk with rfl | rfl
    · have e9 : (opT X 2 0).f 0 = (la.map (·.2)).map bare := by rw [← HX.out.1]; rfl
      rw [e9]
      exact fa.fr (S := fun _ => False) (Fr.of_below (step_ BB.out HF3.out)) (fun _ _ h => h.elim) (fun g hg => c0 g hg)
    · have e9 : (opT X 2 0).f 1 = (lb.map (·.2)).map bare := by rw [← HX.out.2]; rfl
      rw [e9]
      exact fb.fr (S := fun _ => False) (Fr.of_below HF3.out) (fun _ _ h => h.elim) (fun g hg => rfl)
  refine ⟨by omega, col, (fun k => if k = 0 then .slice Aa na ca else .slice Ab nb cb), (fun k => if k = 0 then uva else uvb), HB3.out, ⟨by omega, HB3.out.lt⟩, hcb, hall, fun k hk => ?_, fun g hg => ?_, fun g hg => hg.2, ⟨Int.le_refl _, by show (0 : Int) ≤ _; decide⟩⟩
  · rcases two hk with rfl | rfl
    · show ((X 0).map bare).length ≤ 4096
      rw [HX.out.1, List.length_map, List.length_map]; exact HLN.out.1
    · show ((X 1).map bare).length ≤ 4096
      rw [HX.out.2, List.length_map, List.length_map]; exact HLN.out.2
  · have h3 := HF3.out.size
    by_cases h9 : g < w1.heap.size
    · rw [c0 g h9] at hg
      by_cases h8 : g < w.heap.size
      · exact absurd (a0 g h8) hg
      · exact ⟨by omega, by omega⟩
    · have := c1 g (by omega) hg
      exact ⟨by omega, by omega⟩
end Go.Proofs.Ytplombkpefacgaa.Disk
