import Derived.Test.YteggcehjpfmikaaWtC
import Derived.Test.YteggcehjpfmikaaWtG
import Derived.ChangeArms
namespace Go.Proofs.Yteggcehjpfmikaa.Wal
open Go.ChangeShapes Go.WideShapes Go.ChangeAt Go.RowKit Go.IntWalk Go.Proofs.Mem Go.Proofs.Each Law Go.Proofs.Yteggcehjpfmikaa.Disk Strip
set_option linter.unusedVariables false
set_option linter.unusedSimpArgs false
def opX (D : Dv) (a : Nat) : List Int := readS (secs D (fst D a) (Wal.sz D))
def opL (D : Dv) (h : Hh) (se : Nat) : Lv := ⟨h, se, (opX D h.ar.toNat).take (ldE (opX D h.ar.toNat)), ldS (opX D h.ar.toNat), ldE (opX D h.ar.toNat)⟩
def opD (D : Dv) (h : Hh) (ys : List Int) : Dv := clnD D (fst D h.ar.toNat) (lay7 ys ++ List.replicate (Wal.sz D - cnt ys.length) z128)
theorem opX_len (D : Dv) (a : Nat) : (opX D a).length ≤ 127 * Wal.sz D := by
  have := read_len (secs D (fst D a) (Wal.sz D))
  rw [secs_len] at this
  exact this
set_option maxRecDepth 100000 in
set_option maxHeartbeats 16000000 in
theorem open_some {w : World} {S : Nat → Prop} {g : Nat} {fv : Nat → Value} {D : Dv} (h : DX w S g fv D) (m : Nat) (hw : D.Few m) (hm : m ≤ 80000) (hs : 8 ≤ Wal.sz D) (hs7 : Wal.sz D ≤ 700) (H : Hh) (se : Nat) (hn : nwTo D 2 = some (H, se)) (hH : 0 ≤ H.ar ∧ H.ar ≤ 1) :
    Calls Try.prog 13 #[.pointer (some ⟨g, 0, none⟩)] w fun e w' => ∃ t, e = .returned (.tuple #[.pointer (some ⟨t, 0, none⟩), .int .u16 0]) ∧ LgAt w' (growS w w' S) t g fv (opD D H (opL D H se).ys) (opL D H se) ∧ Fr S w w' ∧ w.heap.size ≤ t := by
  have hl : 18 ≤ (D.f 0).length := by unfold Wal.sz at hs; omega
  have hlen := h.lens 0 (by decide)
  have CS := Lib.hid (fun W (hd : DX W S g fv D) => size_dx hd (by omega))
  have CN := newest_any h (hw.more (by omega))
  obtain ⟨b0, hb0⟩ : ∃ b0, b0 = true := ⟨_, rfl⟩
  rw [hn, show nwR (some (H, se)) = .tuple #[.agg (hdC H), .int .i64 (se : Int), .bool true] from rfl] at CN
  have HN := Lib.hid CN
  obtain ⟨a, ha⟩ : ∃ a : Nat, H.ar = a := ⟨H.ar.toNat, by omega⟩
  have ha1 : a ≤ 1 := by omega
  have HA := Lib.hid (show H.ar = a ∧ a ≤ 1 from ⟨ha, ha1⟩)
  have HD := Lib.hid h
  have HW := Lib.hid hw
  have HM := Lib.hid hm
  have HL := Lib.hid (show 18 ≤ (D.f 0).length ∧ (D.f 0).length ≤ 4096 from ⟨hl, hlen⟩)
  have hat : H.ar.toNat = a := by omega
  obtain ⟨xs, hxs⟩ : ∃ xs, opX D a = xs := ⟨_, rfl⟩
  have hxl := opX_len D a
  rw [hxs] at hxl
  have HXS := Lib.hid hxs
  have HXL := Lib.hid (show xs.length ≤ 88900 by omega)
  have hopL : opL D H se = ⟨H, se, xs.take (ldE xs), ldS xs, ldE xs⟩ := by unfold opL; rw [hat, hxs]
  have hopD : ∀ ys, opD D H ys = clnD D (fst D a) (lay7 ys ++ List.replicate (Wal.sz D - cnt ys.length) z128) := fun ys => by unfold opD; rw [hat]
  rw [hopL]
  have HOPD := Lib.hid hopD
  have HSE := Lib.hid (fun W t (hd : DX W S g fv D) (X : Box W t (lgC g H se (.slice none 0 0) (.slice none 0 0) 0) 89) => sectors_any hd (hw.more (by omega)) X hl hs7 a ha ha1)
  have HSZ := Lib.hid (show Wal.sz D ≤ 700 from hs7)
  have hfit : fst D a + Wal.sz D ≤ (D.f 0).length := by unfold fst; unfold Wal.sz at *; rcases (show a = 0 ∨ a = 1 by omega) with rfl | rfl <;> omega
  have HFIT := Lib.hid hfit
  have HS127 := Lib.hid (show xs.length ≤ 127 * Wal.sz D from hxl)
  obtain ⟨q, hq⟩ : ∃ q, Wal.sz D = q := ⟨_, rfl⟩
  rw [hq] at hs hs7
  have HQ := Lib.hid hq
  have d1 : decide ((q : Int) < 8) = false := by simp; omega
  have CS1 := Lib.hid (fun W (hd : DX W S g fv D) => by have := CS.out W hd; rw [hq] at this; exact this)
  have CS0 := Lib.hid (CS1.out w h)
  have MK := rows_made q (by omega)
  obtain ⟨AN, hAN⟩ : ∃ AN, madeCells (Value.slice none 0 0).cells (q * 1) = AN := ⟨_, rfl⟩
  rw [hAN] at MK
  have HAN := Lib.hid hAN
  clear hAN
  clear h hw hm hs hs7 hn hH hl hlen CN ha ha1 hat hxs hxl hopL hopD hq hfit hb0 CS
  go_enter Try.func13, Try.ntmps13
  go_wp2_with fail
  (with_reducible refine (CS0.out).mono ?_)
  rintro e w1 ⟨rfl, rfl⟩
  go_wp2_with fail
  (with_reducible refine (HN.out).mono ?_)
  rintro e w2 ⟨rfl, hb⟩
  have HB2 := Lib.hid hb
  have b3 := hb.trans ((new_ (Below.refl w2.heap.size w2) (.cells (hdC H) 84)).mono hb.size)
  have X3 := Box.new w2 (hdC H) 84
  have k3 := X3.cell
  have b4 := b3.trans ((new_ (Below.refl _ (w2.alloc (.cells (hdC H) 84))) (.cells (lgC g H se (.slice none 0 0) (.slice none 0 0) 0) 89)).mono b3.size)
  have X4 := Box.new (w2.alloc (.cells (hdC H) 84)) (lgC g H se (.slice none 0 0) (.slice none 0 0) 0) 89
  have hsz3 : (w2.alloc (.cells (hdC H) 84)).heap.size = w2.heap.size + 1 := by simp
  rw [hsz3] at X4
  have HX4 := Lib.hid X4
  have HB4 := Lib.hid b4
  have HD4 := Lib.hid (HD.out.later b4)
  have C5 := Lib.hid (HSE.out _ _ HD4.out X4)
  clear hb b3 X3 b4 X4
  go_wp2_with fail
  (with_reducible refine C5.out.mono ?_)
  rintro e w5 ⟨v5, vs5, rfl, hsr, hvs, hb5⟩
  obtain ⟨A5, c5, rfl, _, _⟩ := hsr.form
  have hvl : vs5.length = q := by have := congrArg List.length hvs; rw [List.length_map, secs_len, HQ.out] at this; exact this
  have hby : ∀ p ∈ vs5, Bytes p.2 := fun p hp => by
    obtain ⟨i, hi, rfl⟩ := List.mem_iff_getElem.1 hp
    obtain ⟨_, _, _, _, _, _, e1, _, _, hy⟩ := hsr.index i hi
    rw [List.getElem?_eq_getElem hi] at e1
    injection e1 with e1
    rw [e1]; exact hy
  have hrx : readS (vs5.map (·.2)) = xs := by rw [hvs]; exact HXS.out
  have HXB := Lib.hid (show Bytes xs by rw [← hrx]; exact read_bytes _ (fun b hb => by obtain ⟨p, hp, rfl⟩ := List.mem_map.1 hb; exact hby p hp))
  have C6 := Strip.read_any w5 w5.heap.size _ vs5 hsr (Nat.le_refl _) (by have := HSZ.out; have := HQ.out; omega)
  rw [hrx] at C6
  have H6 := Lib.hid C6
  have ht5 : w2.heap.size + 1 < w5.heap.size := by have := HX4.out.lt; have := hb5.size; omega
  have X5 := HX4.out.later hb5
  have d5 := HD4.out.later hb5
  have b5 := HB4.out.trans (hb5.mono HB4.out.size)
  have htw : w.heap.size ≤ w2.heap.size + 1 := by have := HB2.out.size; omega
  obtain ⟨t, htt⟩ : ∃ t, w2.heap.size + 1 = t := ⟨_, rfl⟩
  rw [htt] at ht5 X5 htw ⊢
  have HX5 := Lib.hid X5
  have HD5 := Lib.hid d5
  have HB5 := Lib.hid b5
  have HTW := Lib.hid htw
  have HT5 := Lib.hid ht5
  clear hsr hvs hb5 hvl hby hrx C6 ht5 X5 d5 b5 htw
  go_wp2_with fail
  (with_reducible refine H6.out.mono ?_)
  rintro e w6 ⟨u, rfl, hu, hb6⟩
  obtain ⟨Au, cu, rfl⟩ := own_slice' hu
  have C7 := Lib.hid (load_any (HX5.out.later hb6) _ xs (fun w' hf => IR.of_own (Disk.own_frS hu hf (fun k hk e => by have := (hu.lt k hk).1; have := HT5.out; omega))) HXB.out HXL.out)
  have HD6 := Lib.hid (HD5.out.later hb6)
  have HB6 := Lib.hid (HB5.out.trans (hb6.mono HB5.out.size))
  clear hu hb6
  go_wp2_with fail
  (with_reducible refine C7.out.mono ?_)
  rintro e w7 ⟨rfl, sv, tv, x7, hE, hsv, htv, hf7⟩
  obtain ⟨As, cs, rfl⟩ := own_slice' hsv
  obtain ⟨At, ct, rfl⟩ := own_slice' htv
  have hf7w : Fr (fun x => x = t) w w7 := (Fr.of_below HB6.out).trans' hf7 (fun _ _ h => h)
  have hd7 := HD6.out.far hf7 (fun x hx e => by have := HD.out.old x hx; have := HTW.out; omega)
  have hsz67 := hf7.size
  have hszw6 := HB6.out.size
  obtain ⟨ys, hys⟩ : ∃ ys, xs.take (ldE xs) = ys := ⟨_, rfl⟩
  have hyl : ys.length = ldE xs := by rw [← hys, List.length_take]; omega
  rw [hys] at hsv
  have HYS := Lib.hid hys
  have HYL := Lib.hid hyl
  have C8 := Lib.hid (CS1.out w7 hd7)
  obtain ⟨z, hz⟩ : ∃ z, w7.heap.size = z := ⟨_, rfl⟩
  have XZ := Box.new w7 AN 48
  have b8 := new_ (Below.refl w7.heap.size w7) (.cells AN 48)
  have hz8 : (w7.alloc (.cells AN 48)).heap.size = z + 1 := by rw [← hz]; simp
  have mk8 := MK w7
  obtain ⟨w8, hw8⟩ : ∃ w8, w7.alloc (.cells AN 48) = w8 := ⟨_, rfl⟩
  rw [hw8] at XZ b8 hz8 mk8
  rw [hz] at XZ mk8
  have x8 := x7.later b8
  have k8 := x8.cell 6
  have O8 := Lib.hid (own_below hsv b8)
  have P8 := Lib.hid (own_below htv b8)
  have HX8 := Lib.hid x8
  have HD8 := Lib.hid (hd7.later b8)
  have HXZ := Lib.hid XZ
  have HF8 := Lib.hid (hf7w.below b8)
  have HZ8 := Lib.hid (show z + 1 = w8.heap.size ∧ w.heap.size ≤ z ∧ t < z from ⟨hz8.symm, by omega, by have := x7.lt; omega⟩)
  have hyb : Bytes ys := by rw [← hys]; exact fun x hx => HXB.out x (List.mem_of_mem_take hx)
  have hn88 : ys.length ≤ 88900 := by have := HXL.out; omega
  have C9 := Lib.hid (lay_any w8 w8.heap.size (.slice As (ldE xs) cs) ys (own_ir' O8.out hyl) (Nat.le_refl _) (by omega))
  have HYB := Lib.hid hyb
  have HCN := Lib.hid (show cnt ys.length ≤ q by have := HS127.out; have := HQ.out; unfold cnt; omega)
  have HLE := Lib.hid hE
  clear x7 hsv htv hf7 hf7w hd7 hys hyl XZ b8 hz8 x8 hyb hn88 hE hsz67 hszw6
  go_wp2_with fail
  (with_reducible refine C8.out.mono ?_)
  rintro e w7' ⟨rfl, rfl⟩
  go_wp2_with fail
  (with_reducible refine C9.out.mono ?_)
  rintro e w9 ⟨v9, ls, rfl, ht9, hls, hb9⟩
  have hls8 : ls.length = cnt ys.length := by rw [← List.length_map (f := fun p : Rw => p.2.2), hls, lay_len]
  have hl128 : ∀ p ∈ ls, p.2.2.length = 128 := fun p hp => by
    have : p.2.2 ∈ lay7 ys := by rw [← hls]; exact List.mem_map.2 ⟨p, hp, rfl⟩
    obtain ⟨k, _, e⟩ := List.mem_map.1 this
    rw [← e]; exact sec_len _ _
  have hlby : ∀ p ∈ ls, Bytes p.2.2 := fun p hp => by
    have : p.2.2 ∈ lay7 ys := by rw [← hls]; exact List.mem_map.2 ⟨p, hp, rfl⟩
    exact lay_bytes HYB.out _ this
  have hlq : ls.length ≤ q := by rw [hls8]; exact HCN.out
  obtain ⟨w10, r10, C10, hcopy, hf10, x10, hC10, ht10⟩ := want_copy (q := q) (by rw [HAN.out]; exact HXZ.out.later hb9) ht9 (by have := HZ8.out; omega) hlq 3
  have xt9 := HX8.out.later hb9
  have htz : t ≠ z := by have := HZ8.out; omega
  have xt10 := xt9.fr hf10 htz
  have d10 := (HD8.out.later hb9).far hf10 (fun x hx e => by have := HD.out.old x hx; have := HZ8.out; omega)
  have f10 : Fr (fun x => x = t) w w10 := (HF8.out.below hb9).trans' hf10 (fun i hi e => by have := HZ8.out; omega)
  have CF := Lib.hid (flush_first (g := g) (fv := fv) d10 xt10 (by have := HL.out; omega) a HA.out.1 HA.out.2)
  have o10 := Disk.own_frS (own_below O8.out hb9) hf10 (fun k hk e => row_ne_box (own_below O8.out hb9) (HXZ.out.later hb9) (by decide) (e ▸ hk))
  have p10 := Disk.own_frS (own_below P8.out hb9) hf10 (fun k hk e => row_ne_box (own_below P8.out hb9) (HXZ.out.later hb9) (by decide) (e ▸ hk))
  have HSV := Lib.hid (show ∀ k, (Value.slice As (ldE xs) cs).ownBlock = some k → w.heap.size ≤ k from fun k hk => by have := (O8.out.lt k hk).1; have := HB6.out.size; omega)
  have HTV := Lib.hid (show ∀ k, (Value.slice At (ldS xs).length ct).ownBlock = some k → w.heap.size ≤ k from fun k hk => by have := (P8.out.lt k hk).1; have := HB6.out.size; omega)
  have HOLD := Lib.hid (show ∀ x, S x → x < w.heap.size from HD.out.old)
  have SR11 := Lib.hid (show ∀ W S', Below w10.heap.size w10 W → ∀ w', Mv W S w' S' → SR w' w'.heap.size (.slice (some ⟨z, 0, none⟩) q q) (ls.map (·.2) ++ nils (q - ls.length)) from fun W S' hb w' hm =>
    want_sr ((x10.later hb).fr hm.fr (fun hs => by have := HOLD.out _ hs; have := HZ8.out; omega)) hC10 (tab_fr (ht10.later hb) hm.fr (fun x hx => by have := HOLD.out x hx; have := HZ8.out; omega)) hlby hlq (by have := HSZ.out; have := HQ.out; omega))
  have hwm := want_map hl128 (q - ls.length)
  rw [hls, hls8] at hwm
  have CC := Lib.hid (fun W (hb : Below w10.heap.size w10 W) => by
    have := clean_any (d10.later hb) m HW.out (by have := HM.out; omega) (fst D a) (.slice (some ⟨z, 0, none⟩) q q) (ls.map (·.2) ++ nils (q - ls.length)) (fun w' S' hm => SR11.out W S' hb w' hm) (want_ok ht10 hl128 _) (by rw [List.length_append, List.length_map, nils_len]; have := HFIT.out; have := HQ.out; omega)
    rw [hls8, hwm] at this
    exact this)
  have HX10 := Lib.hid xt10
  have HO10 := Lib.hid o10
  have HP10 := Lib.hid p10
  have HF10 := Lib.hid f10
  clear hls8 hl128 hlby hlq x10 hC10 ht10 xt9 htz xt10 d10 f10 o10 p10 hwm hls ht9 hb9 hf10
  go_wp2_with fail
  (with_reducible refine CF.out.mono ?_)
  rintro e w11 ⟨rfl, hb11⟩
  have C12 := Lib.hid (CC.out w11 hb11)
  have HB11 := Lib.hid hb11
  clear hb11
  go_wp2_with fail
  (with_reducible refine C12.out.mono ?_)
  rintro e w12 ⟨rfl, S', hd12, hm12⟩
  have HD12 := Lib.hid hd12
  have HM12 := Lib.hid hm12
  clear hd12 hm12
  go_wp2
  go_ret2
  have hfw : Fr S w w12 := ((HF10.out.mono (S' := fun x => S x ∨ x = t) (fun _ _ h => .inr h)).below HB11.out).trans' HM12.out.fr (fun _ _ h => .inl h) |>.mono (fun x hx h => by
    rcases h with h | h
    · exact h
    · have := HTW.out; omega)
  have sz11 := HB11.out.size
  have sz12 := HM12.out.fr.size
  have sz10 := HF10.out.size
  have hnS : ∀ k, w.heap.size ≤ k → k < w11.heap.size → ¬ S' k := fun k h1 h2 hs => by
    rcases HM12.out.new k hs with h | h
    · have := HOLD.out k h; omega
    · omega
  have hg : ∀ k, w.heap.size ≤ k → k < w12.heap.size → growS w w12 S k := fun k h1 h2 => .inr ⟨h1, h2⟩
  have o12 := Disk.own_frS (own_below HO10.out HB11.out) HM12.out.fr (fun k hk hs => by have := HSV.out k hk; have := HOLD.out k hs; omega)
  have p12 := Disk.own_frS (own_below HP10.out HB11.out) HM12.out.fr (fun k hk hs => by have := HTV.out k hk; have := HOLD.out k hs; omega)
  have hyl := HYL.out
  refine ⟨t, rfl, ⟨S', As, cs, At, ct, ?_, ?_, ?_, ?_, hnS t HTW.out (by have := HX10.out.lt; omega), fun k hk => ?_, fun k hk => ?_, fun x hx => ?_, hg t HTW.out (by have := HX10.out.lt; omega)⟩, hfw, HTW.out⟩
  · rw [HYS.out, hyl]
    exact ((HX10.out.later HB11.out).fr HM12.out.fr (fun hs => by have := HOLD.out _ hs; have := HTW.out; omega))
  · rw [HYS.out, HOPD.out ys, HQ.out]; exact HD12.out
  · rw [HYS.out, hyl]; exact own_lower o12 (Nat.zero_le _)
  · exact own_lower p12 (Nat.zero_le _)
  · rw [HYS.out, hyl] at hk
    have h1 := HSV.out k hk
    have h2 := (HO10.out.lt k hk).2
    exact ⟨hnS k h1 (by omega), hg k h1 (by omega)⟩
  · have h1 := HTV.out k hk
    have h2 := (HP10.out.lt k hk).2
    exact ⟨hnS k h1 (by omega), hg k h1 (by omega)⟩
  · rcases HM12.out.new x hx with h | h
    · exact .inl h
    · exact hg x (by omega) (HD12.out.old x hx)
end Go.Proofs.Yteggcehjpfmikaa.Wal
namespace Go.Proofs.Yteggcehjpfmikaa.Wal
open Go.RowKit Go.WideShapes Go.Proofs.Mem Go.Proofs.Yteggcehjpfmikaa.Disk Strip
set_option linter.unusedVariables false
theorem cnt_free {D : Dv} (h : D.lim = false) : cntB D.lim D.left = true ∧ D.cnt.f = D.f ∧ D.cnt.lim = false := by
  rw [h]
  refine ⟨by simp [cntB], rfl, h⟩
theorem wr_free {D : Dv} (h : D.lim = false) (i n : Nat) (s : Se) (xs : List Int) : D.wr i n s xs = D.cnt.upd i n (s.wr xs) := by
  unfold Dv.wr; rw [if_pos (cnt_free h).1]
theorem syn_free {D : Dv} (h : D.lim = false) (i : Nat) : D.syn i = D.cnt.synTo i (D.f i).length := by
  unfold Dv.syn; rw [if_pos (cnt_free h).1]
theorem wrA_lim {D : Dv} (h : D.lim = false) (i : Nat) (N : Int) (xs : List Int) : (D.wrA i N xs).lim = false := by
  unfold Dv.wrA
  split
  · rw [wr_free h]; exact h
  · exact h
theorem synA_lim {D : Dv} (h : D.lim = false) (i : Nat) : (D.synA i).lim = false := by
  unfold Dv.synA
  split
  · rw [syn_free h]; exact h
  · exact h
theorem wrA_f {D : Dv} (h : D.lim = false) (i : Nat) (N : Int) (xs : List Int) (k : Nat) :
    (D.wrA i N xs).f k = if D.has i N ∧ xs.length = 128 then (if k = i then (D.f i).set N.toNat (((D.f i).getD N.toNat zSe).wr xs) else D.f k) else D.f k := by
  unfold Dv.wrA
  split
  · rw [wr_free h]; rfl
  · rfl
theorem synA_f {D : Dv} (h : D.lim = false) (i k : Nat) : (D.synA i).f k = if i < 2 ∧ k = i then (D.f i).map Se.syn else D.f k := by
  unfold Dv.synA
  by_cases hi : i < 2
  · rw [if_pos hi, syn_free h]
    show (if k = i then ((D.f i).take (D.f i).length).map Se.syn ++ (D.f i).drop (D.f i).length else D.f k) = _
    by_cases hk : k = i
    · rw [if_pos hk, if_pos ⟨hi, hk⟩]; simp
    · rw [if_neg hk, if_neg (fun hh => hk hh.2)]
  · rw [if_neg hi, if_neg (fun hh => hi hh.1)]
structure Ct (D : Dv) (n : Nat) (c : Nat → List Int) : Prop where
  lim : D.lim = false
  len : (D.f 0).length = n
  w1 : ∀ s ∈ D.f 1, s.wait = []
  ct : ∀ i, i < n → D.rd 0 (i : Int) = c i
structure Cl (D : Dv) (n : Nat) (c : Nat → List Int) : Prop extends Ct D n c where
  w0 : ∀ s ∈ D.f 0, s.wait = []
theorem Cl.few {D : Dv} {n : Nat} {c : Nat → List Int} (h : Cl D n c) : D.Few 0 := fun k hk s hs => by
  have : s.wait = [] := by
    rcases (show k = 0 ∨ k = 1 by omega) with rfl | rfl
    · exact h.w0 s hs
    · exact h.w1 s hs
  rw [this]; exact Nat.le_refl _
def upd (c : Nat → List Int) (a : Nat) (l : List (List Int)) : Nat → List Int := fun i => if a ≤ i ∧ i < a + l.length then l.getD (i - a) [] else c i
theorem rd_eq {D : Dv} {i : Nat} (h : i < (D.f 0).length) : D.rd 0 (i : Int) = ((D.f 0)[i]'h).cur := by
  have hh : D.has 0 (i : Int) := ⟨by decide, by omega, by omega⟩
  unfold Dv.rd
  rw [if_pos hh, Int.toNat_natCast, List.getD_eq_getElem?_getD, List.getElem?_eq_getElem h]; rfl
theorem cur_wr (s : Se) (xs : List Int) : (s.wr xs).cur = xs := by unfold Se.wr Se.cur; simp
theorem cur_syn (s : Se) : s.syn.cur = s.cur := by rw [cur_keep s]; rfl
section
variable {D : Dv} {n : Nat} {c : Nat → List Int}
theorem Ct.wr (h : Ct D n c) (a : Nat) (x : List Int) (ha : a < n) (hx : x.length = 128) : Ct (D.wrA 0 (a : Int) x) n (fun i => if i = a then x else c i) := by
  have hh : D.has 0 (a : Int) ∧ x.length = 128 := ⟨⟨by decide, by omega, by rw [h.len]; omega⟩, hx⟩
  have hf : ∀ k, (D.wrA 0 (a : Int) x).f k = if k = 0 then (D.f 0).set a (((D.f 0).getD a zSe).wr x) else D.f k := fun k => by
    rw [wrA_f h.lim, if_pos hh, Int.toNat_natCast]
  have hl : ((D.wrA 0 (a : Int) x).f 0).length = n := by rw [wrA_lens]; exact h.len
  refine ⟨wrA_lim h.lim _ _ _, hl, ?_, fun i hi => ?_⟩
  · rw [hf 1, if_neg (by decide)]; exact h.w1
  · rw [rd_eq (by rw [hl]; exact hi)]
    have e : ((D.wrA 0 (a : Int) x).f 0)[i]? = ((D.f 0).set a (((D.f 0).getD a zSe).wr x))[i]? := by rw [hf 0, if_pos rfl]
    by_cases hia : i = a
    · subst hia
      rw [if_pos rfl]
      rw [List.getElem?_set_self (by rw [h.len]; exact hi), List.getElem?_eq_getElem (by rw [hl]; exact hi)] at e
      rw [Option.some.inj e, cur_wr]
    · rw [if_neg hia]
      rw [List.getElem?_set_ne (Ne.symm hia), List.getElem?_eq_getElem (by rw [hl]; exact hi), List.getElem?_eq_getElem (by rw [h.len]; exact hi)] at e
      rw [Option.some.inj e, ← rd_eq, h.ct i hi]
theorem Ct.syn (h : Ct D n c) : Cl (D.synA 0) n c := by
  have hf : ∀ k, (D.synA 0).f k = if k = 0 then (D.f 0).map Se.syn else D.f k := fun k => by
    rw [synA_f h.lim]
    by_cases hk : k = 0
    · rw [if_pos ⟨by decide, hk⟩, if_pos hk]
    · rw [if_neg (fun hh => hk hh.2), if_neg hk]
  have hl : ((D.synA 0).f 0).length = n := by rw [synA_lens]; exact h.len
  refine ⟨⟨synA_lim h.lim _, hl, ?_, fun i hi => ?_⟩, ?_⟩
  · rw [hf 1, if_neg (by decide)]; exact h.w1
  · rw [rd_eq (by rw [hl]; exact hi), ← h.ct i hi, rd_eq (by rw [h.len]; exact hi)]
    have e : ((D.synA 0).f 0)[i]? = ((D.f 0).map Se.syn)[i]? := by rw [hf 0, if_pos rfl]
    rw [List.getElem?_map, List.getElem?_eq_getElem (by rw [hl]; exact hi), List.getElem?_eq_getElem (by rw [h.len]; exact hi)] at e
    rw [Option.some.inj e, cur_syn]
  · rw [hf 0, if_pos rfl]
    intro s hs
    obtain ⟨t, _, rfl⟩ := List.mem_map.1 hs
    rfl
theorem Ct.ext {c' : Nat → List Int} (h : Ct D n c) (hc : ∀ i, i < n → c i = c' i) : Ct D n c' := ⟨h.lim, h.len, h.w1, fun i hi => (h.ct i hi).trans (hc i hi)⟩
theorem Cl.ext {c' : Nat → List Int} (h : Cl D n c) (hc : ∀ i, i < n → c i = c' i) : Cl D n c' := ⟨h.toCt.ext hc, h.w0⟩
theorem Ct.wrs : ∀ (l : List (List Int)) {D : Dv} {c : Nat → List Int} (a : Nat), Ct D n c → a + l.length ≤ n → (∀ x ∈ l, x.length = 128) → Ct (Wal.wrs D a l) n (upd c a l)
  | [], D, c, a, h, ha, hx => h.ext (fun i hi => by unfold upd; rw [if_neg (by simp)])
  | x :: t, D, c, a, h, ha, hx => by
    have h1 := h.wr a x (by simp at ha; omega) (hx x (List.mem_cons_self ..))
    refine (Ct.wrs t (a + 1) h1 (by simp at ha; omega) (fun y hy => hx y (List.mem_cons_of_mem _ hy))).ext (fun i hi => ?_)
    unfold upd
    simp only [List.length_cons]
    by_cases h2 : a + 1 ≤ i ∧ i < a + 1 + t.length
    · rw [if_pos h2, if_pos (by omega), show i - a = (i - (a + 1)) + 1 by omega, List.getD_cons_succ]
    · rw [if_neg h2]
      by_cases h3 : i = a
      · subst h3; rw [if_pos rfl, if_pos (by omega), Nat.sub_self]; rfl
      · rw [if_neg h3, if_neg (by omega)]
theorem Ct.cln : ∀ (l : List (List Int)) {D : Dv} {c : Nat → List Int} (q : Bool) (a : Nat), Ct D n c → (q = false → ∀ s ∈ D.f 0, s.wait = []) → a + l.length ≤ n → (∀ x ∈ l, x.length = 128) → Ct (clnF D q a l).1 n (upd c a l) ∧ ((clnF D q a l).2 = false → ∀ s ∈ (clnF D q a l).1.f 0, s.wait = [])
  | [], D, c, q, a, h, hq, ha, hx => ⟨h.ext (fun i hi => by unfold upd; rw [if_neg (by simp)]), hq⟩
  | x :: t, D, c, q, a, h, hq, ha, hx => by
    have hup : ∀ i, upd (fun i => if i = a then x else c i) (a + 1) t i = upd c a (x :: t) i := fun i => by
      unfold upd
      simp only [List.length_cons]
      by_cases h2 : a + 1 ≤ i ∧ i < a + 1 + t.length
      · rw [if_pos h2, if_pos (by omega), show i - a = (i - (a + 1)) + 1 by omega, List.getD_cons_succ]
      · rw [if_neg h2]
        by_cases h3 : i = a
        · subst h3; rw [if_pos rfl, if_pos (by omega), Nat.sub_self]; rfl
        · rw [if_neg h3, if_neg (by omega)]
    rw [clnF]
    split
    · rename_i heq
      have h1 : Ct D n (fun i => if i = a then x else c i) := h.ext (fun i hi => by
        by_cases h3 : i = a
        · subst h3; rw [if_pos rfl, ← h.ct i hi, heq]
        · rw [if_neg h3])
      obtain ⟨h4, h5⟩ := Ct.cln t q (a + 1) h1 hq (by simp at ha; omega) (fun y hy => hx y (List.mem_cons_of_mem _ hy))
      exact ⟨h4.ext (fun i _ => hup i), h5⟩
    · have h1 := h.wr a x (by simp at ha; omega) (hx x (List.mem_cons_self ..))
      obtain ⟨h4, h5⟩ := Ct.cln t true (a + 1) h1 (fun e => by cases e) (by simp at ha; omega) (fun y hy => hx y (List.mem_cons_of_mem _ hy))
      exact ⟨h4.ext (fun i _ => hup i), h5⟩
theorem Cl.cln (h : Cl D n c) (a : Nat) (l : List (List Int)) (ha : a + l.length ≤ n) (hx : ∀ x ∈ l, x.length = 128) : Cl (clnD D a l) n (upd c a l) := by
  obtain ⟨h1, h2⟩ := h.toCt.cln l false a (fun _ => h.w0) ha hx
  unfold clnD
  split
  · exact h1.syn
  · rename_i hq
    exact ⟨h1, h2 (by simpa using hq)⟩
theorem Cl.hd (h : Cl D n c) (a : Nat) (b : List Int) (ha : a < n) (hb : b.length = 128) : Cl (hdD D a b) n (fun i => if i = a then b else c i) := (h.toCt.wr a b ha hb).syn
end
end Go.Proofs.Yteggcehjpfmikaa.Wal
namespace Go.Proofs.Yteggcehjpfmikaa.Wal
open Go.RowKit Go.WideShapes Go.Proofs.Mem Go.Proofs.Yteggcehjpfmikaa.Disk Strip Rec
set_option linter.unusedVariables false
def strm (rs : List Rc) : List Int := rs.flatMap encS
def begF (a : Nat) : List Rc → List Int
  | [] => []
  | r :: t => (a : Int) :: begF (a + (encS r).length) t
def begs (rs : List Rc) : List Int := begF 0 rs
def RsOk (rs : List Rc) : Prop := ∀ r ∈ rs, r.Ok ∧ mayS r = true
theorem strm_cons (r : Rc) (t : List Rc) : strm (r :: t) = encS r ++ strm t := by unfold strm; rw [List.flatMap_cons]
theorem strm_app (a b : List Rc) : strm (a ++ b) = strm a ++ strm b := by unfold strm; rw [List.flatMap_append]
theorem strm_snoc (rs : List Rc) (r : Rc) : strm (rs ++ [r]) = strm rs ++ encS r := by rw [strm_app, strm_cons]; simp [strm]
theorem begF_len : ∀ (rs : List Rc) (a : Nat), (begF a rs).length = rs.length
  | [], a => rfl
  | r :: t, a => by rw [begF, List.length_cons, begF_len t, List.length_cons]
theorem begs_len (rs : List Rc) : (begs rs).length = rs.length := begF_len rs 0
theorem begF_app : ∀ (rs : List Rc) (a : Nat) (t : List Rc), begF a (rs ++ t) = begF a rs ++ begF (a + (strm rs).length) t
  | [], a, t => by simp [begF, strm]
  | r :: s, a, t => by
    rw [List.cons_append, begF, begF, begF_app s, List.cons_append, strm_cons, List.length_append, Nat.add_assoc]
theorem begs_snoc (rs : List Rc) (r : Rc) : begs (rs ++ [r]) = begs rs ++ [((strm rs).length : Int)] := by
  unfold begs; rw [begF_app, Nat.zero_add]; rfl
theorem begF_getD : ∀ (rs : List Rc) (a i : Nat), i < rs.length → (begF a rs).getD i 0 = ((a + (strm (rs.take i)).length : Nat) : Int)
  | [], a, i, h => by simp at h
  | r :: t, a, 0, h => by simp [begF, strm]
  | r :: t, a, i + 1, h => by
    rw [begF, List.getD_cons_succ, begF_getD t _ i (by simpa using h), List.take_succ_cons, strm_cons, List.length_append, Nat.add_assoc]
theorem begs_getD (rs : List Rc) (i : Nat) (h : i < rs.length) : (begs rs).getD i 0 = (((strm (rs.take i)).length : Nat) : Int) := by
  unfold begs; rw [begF_getD rs 0 i h, Nat.zero_add]
theorem strm_take_le (rs : List Rc) (i j : Nat) (h : i ≤ j) : (strm (rs.take i)).length ≤ (strm (rs.take j)).length := by
  have : rs.take j = rs.take i ++ (rs.drop i).take (j - i) := by
    rw [← List.take_add, show i + (j - i) = j by omega]
  rw [this, strm_app, List.length_append]; omega
theorem strm_take_all (rs : List Rc) (i : Nat) : (strm (rs.take i)).length ≤ (strm rs).length := by
  have := strm_app (rs.take i) (rs.drop i)
  rw [List.take_append_drop] at this
  rw [this, List.length_append]; omega
theorem begs_rising (rs : List Rc) : Rising (begs rs) (strm rs).length := by
  refine ⟨fun i j hij hj => ?_, fun i hi => ?_⟩
  · rw [begs_len] at hj
    rw [begs_getD rs i (by omega), begs_getD rs j hj]
    have := strm_take_le rs i j hij
    omega
  · rw [begs_len] at hi
    rw [begs_getD rs i hi]
    have := strm_take_all rs i
    omega
theorem strm_bytes {rs : List Rc} (h : RsOk rs) : Bytes (strm rs) := fun x hx => by
  obtain ⟨r, hr, hx⟩ := List.mem_flatMap.1 hx
  exact enc_bytes r (h r hr).1 x hx
theorem strm_many {rs : List Rc} (h : RsOk rs) : 27 * rs.length ≤ (strm rs).length := by
  induction rs with
  | nil => simp
  | cons r t ih =>
    have h1 := enc_min r (h r (List.mem_cons_self ..)).2
    have h2 := ih (fun x hx => h x (List.mem_cons_of_mem _ hx))
    rw [strm_cons, List.length_append, List.length_cons]; omega
theorem ld_strm : ∀ (rs : List Rc) (pre Y : List Int) (n : Nat), RsOk rs → rs.length < n → (resD Y).1 = none → ldF (pre ++ (strm rs ++ Y)) n pre.length = (begF pre.length rs, pre.length + (strm rs).length)
  | [], pre, Y, n, h, hn, hY => by
    obtain ⟨n', rfl⟩ : ∃ n', n = n' + 1 := ⟨n - 1, by simp at hn; omega⟩
    rw [ldF, List.drop_left' rfl, show strm [] ++ Y = Y from rfl, hY]
    rfl
  | r :: t, pre, Y, n, h, hn, hY => by
    obtain ⟨n', rfl⟩ : ∃ n', n = n' + 1 := ⟨n - 1, by simp at hn; omega⟩
    have hr := h r (List.mem_cons_self ..)
    obtain ⟨e1, e2⟩ := resD_enc r hr.1 hr.2 (strm t ++ Y)
    have e3 : strm (r :: t) ++ Y = encS r ++ (strm t ++ Y) := by rw [strm_cons, List.append_assoc]
    rw [ldF, List.drop_left' rfl, e3, e1, e2]
    have ih := ld_strm t (pre ++ encS r) Y n' (fun x hx => h x (List.mem_cons_of_mem _ hx)) (by simp at hn; omega) hY
    rw [List.length_append, List.append_assoc] at ih
    dsimp only
    rw [ih, begF, strm_cons, List.length_append, Nat.add_assoc]
theorem ld_all {rs : List Rc} (h : RsOk rs) : ldS (strm rs) = begs rs ∧ ldE (strm rs) = (strm rs).length := by
  have hm := strm_many h
  have := ld_strm rs [] [] ((strm rs).length + 1) h (by omega) rfl
  rw [List.nil_append, List.append_nil] at this
  unfold ldS ldE
  rw [show (0 : Nat) = ([] : List Int).length from rfl, this]
  exact ⟨rfl, by simp⟩
def szN (n : Nat) : Nat := (n - 2) / 2
def fsN (n a : Nat) : Nat := 2 + a * szN n
theorem sz_ct {D : Dv} {n : Nat} {c : Nat → List Int} (h : Ct D n c) : Wal.sz D = szN n := by unfold Wal.sz szN; rw [h.len]
theorem fst_ct {D : Dv} {n : Nat} {c : Nat → List Int} (h : Ct D n c) (a : Nat) : fst D a = fsN n a := by unfold fst fsN; rw [sz_ct h]
theorem fs_fit {n a i : Nat} (ha : a ≤ 1) (hi : i < szN n) : fsN n a + i < n := by
  unfold fsN; unfold szN at *
  rcases (show a = 0 ∨ a = 1 by omega) with rfl | rfl <;> omega
structure GoodC (n : Nat) (c : Nat → List Int) (h : Hh) (se : Nat) (xs : List Int) : Prop where
  le1 : se ≤ 1
  ok : h.Ok
  may : h.may
  hd : c se = h.img
  old : ∀ K, hParse (c (1 - se)) = some K → K.st < h.st
  ar : ∀ i, i < szN n → c (fsN n h.ar.toNat + i) = if i < cnt xs.length then sec7 xs i else z128
  fit : xs.length ≤ szN n * 127
  sz : 8 ≤ szN n
theorem GoodC.a1 {n : Nat} {c : Nat → List Int} {h : Hh} {se : Nat} {xs : List Int} (g : GoodC n c h se xs) : h.ar.toNat ≤ 1 := by have := g.ok.ar; have := g.may.2.1; omega
theorem good_newest {D : Dv} {n : Nat} {c : Nat → List Int} {h : Hh} {se : Nat} {xs : List Int} (k : Ct D n c) (g : GoodC n c h se xs) : nwTo D 2 = some (h, se) := by
  have hs := g.sz
  have e0 : D.rd 0 0 = c 0 := k.ct 0 (by unfold szN at hs; omega)
  have e1 : D.rd 0 1 = c 1 := k.ct 1 (by unfold szN at hs; omega)
  rw [nw_newer, e0, e1]
  unfold newer
  rcases (show se = 0 ∨ se = 1 by have := g.le1; omega) with rfl | rfl
  · have e : hParse (c 0) = some h := by rw [g.hd]; exact parse_img g.ok g.may
    rw [e]
    cases e' : hParse (c 1) with
    | none => rfl
    | some K =>
      have := g.old K e'
      dsimp only
      rw [if_neg (by omega)]
  · have e : hParse (c 1) = some h := by rw [g.hd]; exact parse_img g.ok g.may
    rw [e]
    cases e' : hParse (c 0) with
    | none => rfl
    | some K =>
      have := g.old K e'
      dsimp only
      rw [if_pos (by omega)]
theorem read_zeros : ∀ n, readS (List.replicate n z128) = []
  | 0 => rfl
  | n + 1 => by rw [List.replicate_succ, read_last _ z128_len (by decide)]; rfl
theorem good_area {D : Dv} {n : Nat} {c : Nat → List Int} {h : Hh} {se : Nat} {xs : List Int} (k : Ct D n c) (g : GoodC n c h se xs) : secs D (fst D h.ar.toNat) (Wal.sz D) = lay7 xs ++ List.replicate (szN n - cnt xs.length) z128 := by
  have hc : cnt xs.length ≤ szN n := by have := g.fit; unfold cnt; omega
  rw [fst_ct k, sz_ct k]
  apply List.ext_getElem?
  intro i
  unfold secs
  rw [List.getElem?_map]
  by_cases hi : i < szN n
  · rw [List.getElem?_range hi, Option.map_some, k.ct _ (fs_fit g.a1 hi), g.ar i hi]
    by_cases h2 : i < cnt xs.length
    · rw [if_pos h2, List.getElem?_append_left (by rw [lay_len]; exact h2)]
      unfold lay7
      rw [List.getElem?_map, List.getElem?_range h2]; rfl
    · rw [if_neg h2, List.getElem?_append_right (by rw [lay_len]; omega), lay_len, List.getElem?_replicate, if_pos (by omega)]
  · rw [List.getElem?_eq_none (by rw [List.length_range]; omega), List.getElem?_eq_none (by rw [List.length_append, lay_len, List.length_replicate]; omega)]; rfl
theorem good_opX {D : Dv} {n : Nat} {c : Nat → List Int} {h : Hh} {se : Nat} {xs : List Int} (k : Ct D n c) (g : GoodC n c h se xs) : opX D h.ar.toNat = xs := by
  unfold opX
  rw [good_area k g, read_lay _ _ (read_zeros _)]
theorem good_opL {D : Dv} {n : Nat} {c : Nat → List Int} {h : Hh} {se : Nat} {rs : List Rc} (k : Ct D n c) (g : GoodC n c h se (strm rs)) (hr : RsOk rs) : opL D h se = ⟨h, se, strm rs, begs rs, (strm rs).length⟩ := by
  unfold opL
  rw [good_opX k g, (ld_all hr).1, (ld_all hr).2, List.take_length]
theorem lay_rows (xs : List Int) : ∀ x ∈ lay7 xs, x.length = 128 := fun p hp => by obtain ⟨k, _, rfl⟩ := List.mem_map.1 hp; exact sec_len _ _
theorem good_opD {D : Dv} {n : Nat} {c : Nat → List Int} {h : Hh} {se : Nat} {xs : List Int} (k : Cl D n c) (g : GoodC n c h se xs) : Cl (opD D h xs) n c := by
  unfold opD
  have hc : cnt xs.length ≤ szN n := by have := g.fit; unfold cnt; omega
  have hl : (lay7 xs ++ List.replicate (Wal.sz D - cnt xs.length) z128).length = szN n := by rw [List.length_append, lay_len, List.length_replicate, sz_ct k.toCt]; omega
  have hf : ∀ i, i < szN n → fsN n h.ar.toNat + i < n := fun i hi => fs_fit g.a1 hi
  have hz := g.sz
  refine (k.cln _ _ (by rw [hl, fst_ct k.toCt]; have := hf (szN n - 1) (by omega); omega) (fun x hx => ?_)).ext (fun i hi => ?_)
  · rcases List.mem_append.1 hx with hx | hx
    · exact lay_rows _ x hx
    · rw [(List.mem_replicate.1 hx).2]; exact z128_len
  · unfold upd
    rw [hl, fst_ct k.toCt]
    split
    · rename_i h2
      have h3 := g.ar (i - fsN n h.ar.toNat) (by omega)
      rw [show fsN n h.ar.toNat + (i - fsN n h.ar.toNat) = i by omega] at h3
      rw [h3, List.getD_eq_getElem?_getD]
      by_cases h4 : i - fsN n h.ar.toNat < cnt xs.length
      · rw [if_pos h4, List.getElem?_append_left (by rw [lay_len]; exact h4)]
        unfold lay7
        rw [List.getElem?_map, List.getElem?_range h4]; rfl
      · rw [if_neg h4, List.getElem?_append_right (by rw [lay_len]; omega), lay_len, List.getElem?_replicate, if_pos (by rw [sz_ct k.toCt]; omega)]; rfl
    · rfl
end Go.Proofs.Yteggcehjpfmikaa.Wal
namespace Go.Proofs.Yteggcehjpfmikaa.Wal
open Go.RowKit Go.WideShapes Go.Proofs.Mem Go.Proofs.Yteggcehjpfmikaa.Disk Strip Rec
set_option linter.unusedVariables false
theorem part_drop (xs : List Int) (k j : Nat) : part7 (xs.drop (k * 127)) j = part7 xs (k + j) := by
  unfold part7; rw [List.drop_drop, show k * 127 + 127 * j = 127 * (k + j) by omega]
theorem size_drop (L k j : Nat) : size_ (L - k * 127) j = size_ L (k + j) := by unfold size_; congr 1; omega
theorem sec_drop (xs : List Int) (k j : Nat) : sec7 (xs.drop (k * 127)) j = sec7 xs (k + j) := by
  unfold sec7; rw [part_drop, List.length_drop, size_drop]
theorem part_take (xs : List Int) (la u i : Nat) (h : 127 * (i + 1) ≤ la) (hu : la ≤ u) : part7 (xs.take u) i = part7 (xs.take la) i := by
  unfold part7
  rw [List.drop_take, List.drop_take, List.take_take, List.take_take, Nat.min_eq_left (by omega), Nat.min_eq_left (by omega)]
theorem sec_take_eq (xs : List Int) (la u i : Nat) (h : 127 * (i + 1) ≤ la) (hu : la ≤ u) (hl : u ≤ xs.length) : sec7 (xs.take u) i = sec7 (xs.take la) i := by
  unfold sec7
  rw [part_take xs la u i h hu, List.length_take, List.length_take, Nat.min_eq_left hl, Nat.min_eq_left (by omega)]
  have e1 : size_ u i = 127 := by unfold size_; omega
  have e2 : size_ la i = 127 := by unfold size_; omega
  rw [e1, e2]
section
variable {D : Dv} {n : Nat} {c : Nat → List Int} {h : Hh} {se : Nat} {xs ys : List Int}
theorem upd_low {a i : Nat} {l : List (List Int)} (h : i < a) : upd c a l i = c i := by unfold upd; rw [if_neg (by omega)]
theorem fs_two {n a : Nat} : 2 ≤ fsN n a := by unfold fsN; omega
theorem good_flush (la u : Nat) (g : GoodC n c h se (ys.take la)) (hla : la < u) (hu : u ≤ ys.length) (hf : u ≤ szN n * 127) : GoodC n (upd c (fsN n h.ar.toNat + la / 127) (lay7 ((ys.take u).drop (la / 127 * 127)))) h se (ys.take u) := by
  have h2 : 2 ≤ fsN n h.ar.toNat := fs_two
  have hl : (lay7 ((ys.take u).drop (la / 127 * 127))).length + la / 127 = cnt u := by
    rw [lay_len, List.length_drop, List.length_take, Nat.min_eq_left hu]; unfold cnt; omega
  have hlt : (ys.take u).length = u := by rw [List.length_take]; omega
  have hlt2 : (ys.take la).length = la := by rw [List.length_take]; omega
  refine ⟨g.le1, g.ok, g.may, ?_, ?_, fun i hi => ?_, by rw [hlt]; exact hf, g.sz⟩
  · rw [upd_low (by have := g.le1; omega)]; exact g.hd
  · rw [upd_low (by have := g.le1; omega)]; exact g.old
  · have h3 := g.ar i hi
    rw [hlt2] at h3
    rw [hlt]
    unfold upd
    by_cases hk : la / 127 ≤ i
    · by_cases hj : i < cnt u
      · rw [if_pos (by omega), if_pos hj, show fsN n h.ar.toNat + i - (fsN n h.ar.toNat + la / 127) = i - la / 127 by omega, List.getD_eq_getElem?_getD]
        unfold lay7 at hl ⊢
        rw [List.length_map, List.length_range] at hl
        rw [List.getElem?_map, List.getElem?_range (by omega)]
        show sec7 ((ys.take u).drop (la / 127 * 127)) (i - la / 127) = _
        rw [sec_drop, show la / 127 + (i - la / 127) = i by omega]
      · rw [if_neg (by omega), if_neg hj, h3, if_neg (by unfold cnt at hj ⊢; omega)]
    · rw [if_neg (by omega), h3, if_pos (by unfold cnt; omega), if_pos (by unfold cnt; omega), sec_take_eq ys la u i (by omega) (by omega) hu]
theorem good_fl {L : Lv} (k : Cl D n c) (g : GoodC n c L.h L.se (L.ys.take L.la)) (hla : L.la ≤ L.ys.length) (hf : L.ys.length ≤ szN n * 127) (u : Nat) (hu : u ≤ L.ys.length) : ∃ c', Cl (flA D L u) n c' ∧ GoodC n c' L.h L.se (L.ys.take (max L.la u)) := by
  unfold flA
  by_cases hc : u ≤ L.la
  · rw [if_pos hc, Nat.max_eq_left hc]; exact ⟨c, k, g⟩
  · rw [if_neg hc, Nat.max_eq_right (by omega)]
    have hfs : ∀ i, i < szN n → fsN n L.h.ar.toNat + i < n := fun i hi => fs_fit g.a1 hi
    have hz := g.sz
    have hl : (lay7 ((L.ys.take u).drop (L.la / 127 * 127))).length + L.la / 127 = cnt u := by
      rw [lay_len, List.length_drop, List.length_take, Nat.min_eq_left hu]; unfold cnt; omega
    have hcu : cnt u ≤ szN n := by unfold cnt; omega
    refine ⟨_, ?_, good_flush L.la u g (by omega) hu (by omega)⟩
    unfold flD
    rw [fst_ct k.toCt]
    exact (Ct.wrs _ _ k.toCt (by have := hfs (szN n - 1) (by omega); omega) (lay_rows _)).syn
theorem good_hd (k : Cl D n c) (hse : se ≤ 1) (ok : h.Ok) (may : h.may) (hd : c se = h.img) (hz : 8 ≤ szN n) (h' : Hh) (hst : h'.st = h.st + 1) (ok' : h'.Ok) (may' : h'.may) (hf : xs.length ≤ szN n * 127)
    (har : ∀ i, i < szN n → c (fsN n h'.ar.toNat + i) = if i < cnt xs.length then sec7 xs i else z128) : ∃ c', Cl (hdD D (1 - se) h'.img) n c' ∧ GoodC n c' h' (1 - se) xs := by
  refine ⟨_, k.hd (1 - se) h'.img (by unfold szN at hz; omega) (img_len h'), by omega, ok', may', by rw [if_pos rfl], fun K hK => ?_, fun i hi => ?_, hf, hz⟩
  · rw [if_neg (by omega), show 1 - (1 - se) = se by omega, hd, parse_img ok may] at hK
    injection hK with hK
    rw [← hK, hst]; omega
  · have : 2 ≤ fsN n h'.ar.toNat := fs_two
    rw [if_neg (by omega), har i hi]
theorem good_mk {L : Lv} (k : Cl D n c) (g : GoodC n c L.h L.se (L.ys.take L.la)) (hla : L.la ≤ L.ys.length) (hf : L.ys.length ≤ szN n * 127) (ch : Int) (hch : 0 ≤ ch ∧ ch ≤ 18446744073709551615) (hst : L.h.st < 18446744073709551615) : ∃ c', Cl (mkD D L ch) n c' ∧ GoodC n c' (mkL L ch).h (mkL L ch).se ((mkL L ch).ys.take (mkL L ch).la) := by
  obtain ⟨c1, k1, g1⟩ := good_fl k g hla hf L.ys.length (Nat.le_refl _)
  rw [Nat.max_eq_right hla, List.take_length] at g1
  have ok := g.ok
  have may := g.may
  have hst0 := ok.st
  obtain ⟨c2, k2, g2⟩ := good_hd (h' := (mkL L ch).h) k1 g1.le1 g1.ok g1.may g1.hd g1.sz rfl ⟨by show 0 ≤ L.h.st + 1 ∧ L.h.st + 1 ≤ _; omega, ok.ar, ok.ba, hch⟩ ⟨by show L.h.st + 1 ≠ 0; omega, may.2⟩ hf g1.ar
  refine ⟨c2, k2, ?_⟩
  have e : (mkL L ch).ys.take (mkL L ch).la = L.ys := List.take_length
  rw [e]; exact g2
theorem good_rn {L : Lv} (k : Cl D n c) (g : GoodC n c L.h L.se (L.ys.take L.la)) (hla : L.la ≤ L.ys.length) (hf : L.ys.length ≤ szN n * 127) (hst : L.h.st < 18446744073709551615) (hba : L.h.ba + L.ys.length ≤ 9223372036854775808) : ∃ c', Cl (rnD D L) n c' ∧ GoodC n c' (rnL L).h (rnL L).se ((rnL L).ys.take (rnL L).la) := by
  obtain ⟨c1, k1, g1⟩ := good_fl k g hla hf L.ys.length (Nat.le_refl _)
  rw [Nat.max_eq_right hla, List.take_length] at g1
  have ok := g.ok
  have may := g.may
  have hst0 := ok.st
  have hz := g.sz
  have hbok := ok.ba
  have harok := ok.ar
  have ham := may.2.1
  have hb1 := may.2.2.1
  have ha1 : 1 - L.h.ar.toNat ≤ 1 := by omega
  have hfs : ∀ i, i < szN n → fsN n (1 - L.h.ar.toNat) + i < n := fun i hi => fs_fit ha1 hi
  have kc : Cl (rnC D L) n (upd c1 (fsN n (1 - L.h.ar.toNat)) (List.replicate (szN n) z128)) := by
    unfold rnC
    rw [sz_ct k.toCt, fst_ct k.toCt]
    exact k1.cln _ _ (by rw [List.length_replicate]; have := hfs (szN n - 1) (by omega); omega) (fun x hx => by rw [(List.mem_replicate.1 hx).2]; exact z128_len)
  have h2 : 2 ≤ fsN n (1 - L.h.ar.toNat) := fs_two
  have hle := g1.le1
  obtain ⟨c2, k2, g2⟩ := good_hd (h := L.h) (se := L.se) (xs := []) (h' := (rnL L).h) kc g1.le1 g1.ok g1.may (by rw [upd_low (by omega)]; exact g1.hd) hz rfl
    ⟨by show 0 ≤ L.h.st + 1 ∧ L.h.st + 1 ≤ _; omega, by show 0 ≤ 1 - L.h.ar ∧ 1 - L.h.ar ≤ 255; omega, by show 0 ≤ L.h.ba + (L.ys.length : Int) ∧ L.h.ba + (L.ys.length : Int) ≤ _; omega, by show (0 : Int) ≤ 0 ∧ (0 : Int) ≤ _; omega⟩
    ⟨by show L.h.st + 1 ≠ 0; omega, by show 1 - L.h.ar ≤ 1; omega, by show 1 ≤ L.h.ba + (L.ys.length : Int); omega, by show L.h.ba + (L.ys.length : Int) ≤ _; omega⟩ (by simp) (fun i hi => by
      have e : (rnL L).h.ar.toNat = 1 - L.h.ar.toNat := by show (1 - L.h.ar).toNat = _; omega
      rw [e]
      unfold upd
      rw [List.length_replicate, if_pos (by omega), Nat.add_sub_cancel_left, List.getD_eq_getElem?_getD, List.getElem?_replicate, if_pos hi, if_neg (by simp [cnt])]; rfl)
  exact ⟨c2, k2, g2⟩
theorem parse_zero : hParse z128 = none := by decide +kernel
theorem good_new (k : Cl D n c) (hz : 8 ≤ szN n) : ∃ c', Cl (hdD (clnD D 0 (List.replicate (D.f 0).length z128)) 0 (Hh.img ⟨1, 0, 1, 0⟩)) n c' ∧ GoodC n c' ⟨1, 0, 1, 0⟩ 0 [] := by
  have k1 := k.cln 0 (List.replicate (D.f 0).length z128) (by rw [List.length_replicate, k.len]; omega) (fun x hx => by rw [(List.mem_replicate.1 hx).2]; exact z128_len)
  have hc : ∀ i, i < n → upd c 0 (List.replicate (D.f 0).length z128) i = z128 := fun i hi => by
    unfold upd
    rw [List.length_replicate, k.len, if_pos (by omega), List.getD_eq_getElem?_getD, List.getElem?_replicate, if_pos (by omega)]; rfl
  have h1 : 1 < n := by unfold szN at hz; omega
  refine ⟨_, k1.hd 0 _ (by omega) (img_len _), by decide, ⟨by decide, by decide, by decide, by decide⟩, ⟨by decide, by decide, by decide, by decide⟩, by rw [if_pos rfl], fun K hK => ?_, fun i hi => ?_, by simp, hz⟩
  · rw [if_neg (by decide), hc 1 h1] at hK
    rw [parse_zero] at hK; cases hK
  · have h2 : 2 ≤ fsN n (Hh.ar ⟨1, 0, 1, 0⟩).toNat := fs_two
    rw [if_neg (by omega), hc _ (fs_fit (by decide) hi), if_neg (by simp [cnt])]
end
end Go.Proofs.Yteggcehjpfmikaa.Wal
namespace Go.Proofs.Yteggcehjpfmikaa.Wal
open Go.ChangeShapes Go.WideShapes Go.ChangeAt Go.RowKit Go.IntWalk Go.Proofs.Mem Go.Proofs.Each Law Go.Proofs.Yteggcehjpfmikaa.Disk Rec
set_option linter.unusedVariables false
set_option maxRecDepth 100000
theorem kw8 : Try.prog.cellsOf 5 = 1 := by kernel_rfl
theorem kwi : Try.prog.cellsOf 3 = 1 := by kernel_rfl
theorem kw64 : Try.prog.cellsOf 30 = 1 := by kernel_rfl
theorem kwFs : Try.prog.cellsOf 23 = 1 := by kernel_rfl
theorem kwFt : Try.prog.cellsOf 81 = 4 := by kernel_rfl
theorem kwRc : Try.prog.cellsOf 54 = 12 := by kernel_rfl
theorem kwOp : Try.prog.cellsOf 61 = 16 := by kernel_rfl
structure Oq where
  k : Int
  r : Rc
  a : Value
  b : Value
  ta : Value
  da : Value
  sp : Int
  at_ : Int
  lv : Value
  fs : List Ft
def cOq (o : Oq) : List Value := [.int .u8 o.k, .int .u8 o.r.k, .int .u32 o.r.t, .int .u64 o.r.p, .int .u64 o.r.n, .int .u32 o.r.c.pg, .int .u16 o.r.c.sl, .bool o.r.c.had, .bool o.r.c.has, o.a, o.b, o.ta, o.da, .int .u64 o.sp, .int .u64 o.at_, o.lv]
structure OqAt (w : World) (B : Nat) (o : Oq) : Prop where
  k : 0 ≤ o.k ∧ o.k ≤ 255
  r : o.r.Ok
  i : RcIn w B o.r o.a o.b o.ta o.da
  sp : 0 ≤ o.sp ∧ o.sp ≤ 18446744073709551615
  at_ : 0 ≤ o.at_ ∧ o.at_ ≤ 18446744073709551615
  f : SS cFt 4 w B o.lv o.fs
theorem OqAt.below {w w' : World} {B : Nat} {o : Oq} (h : OqAt w B o) (hb : Below B w w') : OqAt w' B o := ⟨h.k, h.r, h.i.below hb, h.sp, h.at_, h.f.below hb⟩
section
variable {H : Type} {enc : TypeId × Value → H} {W : World}
theorem ft_of {n : Nat} {cs : List Value} {y : DataW H × List MemPlace} (hl : cs.length = 4) (hf : DataW.trod enc Try.prog W 0 (fun _ => true) true n 81 cs = some y) : ∃ x, cs = cFt x ∧ x.Ok := by
  match cs, hl with
  | [a0, a1, a2, a3], _ =>
    obtain ⟨xs, m, _, _, _, hl, hg⟩ := DataW.trod_struct Try.underlying81 hf
    have h0 := hg 0 _ rfl
    have h1 := hg 1 _ rfl
    have h2 := hg 2 _ rfl
    have h3 := hg 3 _ rfl
    simp [kw8, kwi] at h0 h1 h2 h3 hl
    obtain ⟨x0, rfl, w0⟩ := one_int' Try.underlying5 h0 (some_at' (by omega))
    obtain ⟨x1, rfl, w1⟩ := one_int' Try.underlying3 h1 (some_at' (by omega))
    obtain ⟨x2, rfl, w2⟩ := one_int' Try.underlying3 h2 (some_at' (by omega))
    obtain ⟨x3, rfl, w3⟩ := one_int' Try.underlying3 h3 (some_at' (by omega))
    exact ⟨⟨x0, x1, x2, x3⟩, rfl, bounds_u8 w0, bounds_i64 w1⟩
theorem open_fts {v : Value} {d : DataW H} {p : List MemPlace} {r : Reach} {b0 : Nat} (hv : Value.okWide Try.prog W r b0 23 v) (h : DataW.Trod enc Try.prog W 0 (fun _ => true) true 23 v d p) :
    ∃ xs : List Ft, SS cFt 4 W W.heap.size v xs ∧ ∀ x ∈ xs, x.Ok :=
  open_SS cFt Ft.Ok Try.underlying23 kwFt (by omega) (fun cs n y hl hy => ft_of hl hy) hv h
theorem rc_cells {n : Nat} {a0 a1 a2 a3 a4 a5 a6 a7 a8 a9 a10 a11 : Value} {y : DataW H × List MemPlace} (hf : DataW.trod enc Try.prog W 0 (fun _ => true) true n 54 [a0, a1, a2, a3, a4, a5, a6, a7, a8, a9, a10, a11] = some y) :
    ∃ (q : Rc) (a b ta da : Value), [a0, a1, a2, a3, a4, a5, a6, a7, a8, a9, a10, a11] = (rcV q a b ta da).toList ∧ q.Ok ∧ RcIn W W.heap.size q a b ta da := by
  obtain ⟨xs, m, _, _, _, hl, hg⟩ := DataW.trod_struct Try.underlying54 hf
  have h0 := hg 0 _ rfl
  have h1 := hg 1 _ rfl
  have h2 := hg 2 _ rfl
  have h3 := hg 3 _ rfl
  have h4 := hg 4 _ rfl
  have h5 := hg 5 _ rfl
  have h6 := hg 6 _ rfl
  simp [c8, c32, c64, cCg, csa, csd] at h0 h1 h2 h3 h4 h5 h6 hl
  obtain ⟨x0, rfl, w0⟩ := one_int' Try.underlying5 h0 (some_at' (by omega))
  obtain ⟨x1, rfl, w1⟩ := one_int' Try.underlying47 h1 (some_at' (by omega))
  obtain ⟨x2, rfl, w2⟩ := one_int' Try.underlying30 h2 (some_at' (by omega))
  obtain ⟨x3, rfl, w3⟩ := one_int' Try.underlying30 h3 (some_at' (by omega))
  obtain ⟨y4, e4⟩ := some_eq (some_at' (l := xs) (i := 4) (by omega))
  obtain ⟨y5, e5⟩ := some_eq (some_at' (l := xs) (i := 5) (by omega))
  obtain ⟨y6, e6⟩ := some_eq (some_at' (l := xs) (i := 6) (by omega))
  obtain ⟨c, a, b, rfl, rfl, rfl, rfl, rfl, rfl, ok, ha, hb⟩ := open_cells (h4.trans e4)
  obtain ⟨ts, ht, qt⟩ := inner_SS cAc Ac.Ok Try.underlying51 cAc_ (by omega) (fun cs n y hl hy => ac_of hl hy) (h5.trans e5)
  obtain ⟨ds, hd, qd⟩ := inner_SS cDt Dt.Ok Try.underlying52 cDt_ (by omega) (fun cs n y hl hy => dt_of hl hy) (h6.trans e6)
  exact ⟨⟨x0, x1, x2, x3, c, ts, ds⟩, _, _, _, _, rfl, ⟨bounds_u8 w0, bounds_u32 w1, bounds_u64 w2, bounds_u64 w3, ok, qt, qd⟩, ha, hb, ht, hd⟩
theorem list16 {l : List Value} (h : l.length = 16) : ∃ a0 a1 a2 a3 a4 a5 a6 a7 a8 a9 a10 a11 a12 a13 a14 a15, l = [a0, a1, a2, a3, a4, a5, a6, a7, a8, a9, a10, a11, a12, a13, a14, a15] := by
  match l, h with
  | [a0, a1, a2, a3, a4, a5, a6, a7, a8, a9, a10, a11, a12, a13, a14, a15], _ => exact ⟨a0, a1, a2, a3, a4, a5, a6, a7, a8, a9, a10, a11, a12, a13, a14, a15, rfl⟩
theorem oq_of {n : Nat} {cs : List Value} {y : DataW H × List MemPlace} (hl : cs.length = 16) (hf : DataW.trod enc Try.prog W 0 (fun _ => true) true n 61 cs = some y) : ∃ x, cs = cOq x ∧ OqAt W W.heap.size x := by
  obtain ⟨a0, a1, a2, a3, a4, a5, a6, a7, a8, a9, a10, a11, a12, a13, a14, a15, rfl⟩ := list16 hl
  obtain ⟨xs, m, _, _, _, hl, hg⟩ := DataW.trod_struct Try.underlying61 hf
  have h0 := hg 0 _ rfl
  have h1 := hg 1 _ rfl
  have h2 := hg 2 _ rfl
  have h3 := hg 3 _ rfl
  have h4 := hg 4 _ rfl
  simp [kw8, kwRc, kw64, kwFs] at h0 h1 h2 h3 h4 hl
  obtain ⟨x0, rfl, w0⟩ := one_int' Try.underlying5 h0 (some_at' (by omega))
  obtain ⟨x2, rfl, w2⟩ := one_int' Try.underlying30 h2 (some_at' (by omega))
  obtain ⟨x3, rfl, w3⟩ := one_int' Try.underlying30 h3 (some_at' (by omega))
  obtain ⟨y1, e1⟩ := some_eq (some_at' (l := xs) (i := 1) (by omega))
  obtain ⟨y4, e4⟩ := some_eq (some_at' (l := xs) (i := 4) (by omega))
  obtain ⟨q, a, b, ta, da, e, ok, hin⟩ := rc_cells (h1.trans e1)
  obtain ⟨us, i4, b4⟩ := inner_SS cFt Ft.Ok Try.underlying23 kwFt (by omega) (fun cs n y hl hy => ft_of hl hy) (h4.trans e4)
  simp only [List.cons.injEq, and_true] at e
  obtain ⟨rfl, rfl, rfl, rfl, rfl, rfl, rfl, rfl, rfl, rfl, rfl, rfl⟩ := e
  exact ⟨⟨x0, q, _, _, _, _, x2, x3, _, us⟩, rfl, ⟨bounds_u8 w0, ok, hin, bounds_u64 w2, bounds_u64 w3, i4⟩⟩
theorem open_oqs {v : Value} {d : DataW H} {p : List MemPlace} {r : Reach} {b0 : Nat} (hv : Value.okWide Try.prog W r b0 22 v) (h : DataW.Trod enc Try.prog W 0 (fun _ => true) true 22 v d p) :
    ∃ xs : List Oq, SS cOq 16 W W.heap.size v xs ∧ ∀ x ∈ xs, OqAt W W.heap.size x :=
  open_SS cOq (OqAt W W.heap.size) Try.underlying22 kwOp (by omega) (fun cs n y hl hy => oq_of hl hy) hv h
end
end Go.Proofs.Yteggcehjpfmikaa.Wal
namespace Go.Proofs.Yteggcehjpfmikaa.Wal
open Go.ChangeShapes Go.WideShapes Go.ChangeAt Go.RowKit Go.IntWalk Go.Proofs.Mem Go.Proofs.Each Law Go.Proofs.Yteggcehjpfmikaa.Disk Rec
set_option linter.unusedVariables false
set_option linter.unusedSimpArgs false
set_option maxRecDepth 100000
def hv1 (o : Oq) : Bool := decide (60 < o.fs.length) || decide (70 < o.r.ts.length) || decide (70 < o.r.ds.length) || decide (100 < o.r.c.xs.length) || decide (100 < o.r.c.ys.length)
def hvy (size : Int) (l : List Oq) : Bool := decide (120 < size) || decide (40 < l.length) || l.any hv1
theorem hvy_no {size : Int} {l : List Oq} (h1 : ¬ 120 < size) (h2 : ¬ 40 < l.length) (h : ∀ j (hj : j < l.length), hv1 l[j] = false) : hvy size l = false := by
  unfold hvy
  rw [decide_eq_false h1, decide_eq_false h2]
  simp only [Bool.false_or, List.any_eq_false]
  intro x hx
  obtain ⟨j, hj, rfl⟩ := List.mem_iff_getElem.1 hx
  rw [h j hj]; decide
theorem hvy_yes {size : Int} {l : List Oq} {j : Nat} (hj : j < l.length) (h : hv1 l[j] = true) : hvy size l = true := by
  unfold hvy
  have : l.any hv1 = true := List.any_eq_true.2 ⟨_, List.getElem_mem hj, h⟩
  rw [this]; simp
structure OqF (o : Oq) : Prop where
  a : ∃ A c, o.a = .slice A o.r.c.xs.length c
  b : ∃ A c, o.b = .slice A o.r.c.ys.length c
  t : ∃ A c, o.ta = .slice A o.r.ts.length c
  d : ∃ A c, o.da = .slice A o.r.ds.length c
  f : ∃ A c, o.lv = .slice A o.fs.length c
theorem OqAt.forms {w : World} {B : Nat} {o : Oq} (h : OqAt w B o) : OqF o := by
  obtain ⟨A1, c1, e1, _⟩ := h.i.a.form
  obtain ⟨A2, c2, e2, _⟩ := h.i.b.form
  obtain ⟨A3, c3, e3, _⟩ := h.i.t.form
  obtain ⟨A4, c4, e4, _⟩ := h.i.d.form
  obtain ⟨A5, c5, e5, _⟩ := h.f.form
  exact ⟨⟨A1, c1, e1⟩, ⟨A2, c2, e2⟩, ⟨A3, c3, e3⟩, ⟨A4, c4, e4⟩, ⟨A5, c5, e5⟩⟩
set_option maxHeartbeats 8000000 in
theorem heavy_any (w : World) (B : Nat) (hB : B ≤ w.heap.size) (size : Int) (A : Option Addr) (c : Nat) (xl : List Oq) (hlc : xl.length ≤ c) (hcm : c ≤ maxLen) (hl : SS cOq 16 w B (.slice A xl.length c) xl) (bl : ∀ x ∈ xl, OqF x) :
    Calls Try.prog 8 #[.int .i64 size, .slice A xl.length c] w fun e w' => e = .returned (.bool (hvy size xl)) ∧ Below w.heap.size w w' := by
  unfold maxLen at hcm
  by_cases a1 : 120 < size
  · have e : hvy size xl = true := by unfold hvy; rw [decide_eq_true a1]; simp
    rw [e]
    have d1 : decide ((120 : Int) < size) = true := decide_eq_true a1
    clear a1 e hl bl
    go_enter Try.func8, Try.ntmps8
    go_wp2
    go_ret
    exact ⟨rfl, Below.refl _ _⟩
  · have d1 : decide ((120 : Int) < size) = false := decide_eq_false a1
    by_cases a2 : 40 < xl.length
    · have e : hvy size xl = true := by unfold hvy; rw [decide_eq_true a2]; simp
      rw [e]
      have d2 : decide ((40 : Int) < (xl.length : Int)) = true := decide_eq_true (by omega)
      have d2n : decide (40 < xl.length) = true := decide_eq_true a2
      clear a1 a2 e hl bl
      go_enter Try.func8, Try.ntmps8
      go_wp2
      go_ret
      exact ⟨rfl, Below.refl _ _⟩
    · have d2 : decide ((40 : Int) < (xl.length : Int)) = false := decide_eq_false (by omega)
      have d2n : decide (40 < xl.length) = false := decide_eq_false a2
      have HN := Lib.hid (fun h => hvy_no (size := size) (l := xl) a1 a2 h)
      have HY := Lib.hid (fun j (hj : j < xl.length) h => hvy_yes (size := size) hj h)
      have HL := Lib.hid hl
      have BL := Lib.hid bl
      have HLL := Lib.hid (show xl.length ≤ 40 by omega)
      clear a1 a2 hl bl
      go_enter Try.func8, Try.ntmps8
      go_wp2
      go_loopw [5] (fun i wr => ∃ j : Nat, i = .int .i64 j ∧ j ≤ xl.length ∧ Hid (∀ k (hk : k < xl.length), k < j → hv1 xl[k] = false) ∧ Hid (Below w.heap.size w wr)) (fun i _ => xl.length - (intOf i).toNat)
      case atStart => exact ⟨0, rfl, by omega, Lib.hid (fun k hk h => absurd h (by omega)), Lib.hid (Below.refl _ _)⟩
      case round =>
        obtain ⟨j, rfl, hj, HP, HB⟩ := hrel
        obtain ⟨wa, rfl⟩ : ∃ wa, wa = wr := ⟨wr, rfl⟩
        by_cases hlt : j < xl.length
        · have d3 : decide ((j : Int) < (xl.length : Int)) = true := decide_eq_true (by omega)
          have d3n : decide (j < xl.length) = true := decide_eq_true hlt
          have p3 : IntKind.i64.wrap ((j : Int) + 1) = (j : Int) + 1 := IntWalk.i64_in _ (by have := HLL.out; omega)
          have hs := HL.out.below (HB.out.mono hB)
          obtain ⟨b, off, rfl, hbB, hc⟩ := hs.at_ (List.getElem?_eq_getElem hlt)
          obtain ⟨o, ho⟩ : ∃ o, xl[j] = o := ⟨_, rfl⟩
          rw [ho] at hc
          obtain ⟨⟨A1, c1, e1⟩, ⟨A2, c2, e2⟩, ⟨A3, c3, e3⟩, ⟨A4, c4, e4⟩, ⟨A5, c5, e5⟩⟩ := BL.out _ (List.getElem_mem hlt)
          rw [ho] at e1 e2 e3 e4 e5
          have k := fun i u h => hc i u h
          unfold cOq at k
          rw [e1, e2, e3, e4, e5] at k
          have k1 := k 1 _ rfl
          have k2 := k 2 _ rfl
          have k3 := k 3 _ rfl
          have k4 := k 4 _ rfl
          have k5 := k 5 _ rfl
          have k6 := k 6 _ rfl
          have k7 := k 7 _ rfl
          have k8 := k 8 _ rfl
          have k9 := k 9 _ rfl
          have k10 := k 10 _ rfl
          have k11 := k 11 _ rfl
          have k12 := k 12 _ rfl
          have k15 := k 15 _ rfl
          obtain ⟨n1, hn1⟩ : ∃ n, o.fs.length = n := ⟨_, rfl⟩
          obtain ⟨n2, hn2⟩ : ∃ n, o.r.ts.length = n := ⟨_, rfl⟩
          obtain ⟨n3, hn3⟩ : ∃ n, o.r.ds.length = n := ⟨_, rfl⟩
          obtain ⟨n4, hn4⟩ : ∃ n, o.r.c.xs.length = n := ⟨_, rfl⟩
          obtain ⟨n5, hn5⟩ : ∃ n, o.r.c.ys.length = n := ⟨_, rfl⟩
          obtain ⟨q1, hq1⟩ : ∃ q, q = decide (60 < n1) := ⟨_, rfl⟩
          obtain ⟨q2, hq2⟩ : ∃ q, q = decide (70 < n2) := ⟨_, rfl⟩
          obtain ⟨q3, hq3⟩ : ∃ q, q = decide (70 < n3) := ⟨_, rfl⟩
          obtain ⟨q4, hq4⟩ : ∃ q, q = decide (100 < n4) := ⟨_, rfl⟩
          obtain ⟨q5, hq5⟩ : ∃ q, q = decide (100 < n5) := ⟨_, rfl⟩
          have hh : hv1 xl[j] = (q1 || q2 || q3 || q4 || q5) := by rw [ho]; unfold hv1; rw [hn1, hn2, hn3, hn4, hn5, hq1, hq2, hq3, hq4, hq5]
          have HH := Lib.hid hh
          rw [hn4] at k9
          rw [hn5] at k10
          rw [hn2] at k11
          rw [hn3] at k12
          rw [hn1] at k15
          have f1 : decide ((60 : Int) < (n1 : Int)) = q1 := by rw [hq1, decide_eq_decide]; omega
          have f2 : decide ((70 : Int) < (n2 : Int)) = q2 := by rw [hq2, decide_eq_decide]; omega
          have f3 : decide ((70 : Int) < (n3 : Int)) = q3 := by rw [hq3, decide_eq_decide]; omega
          have f4 : decide ((100 : Int) < (n4 : Int)) = q4 := by rw [hq4, decide_eq_decide]; omega
          have f5 : decide ((100 : Int) < (n5 : Int)) = q5 := by rw [hq5, decide_eq_decide]; omega
          have g1 : decide (60 < n1) = q1 := hq1.symm
          have g2 : decide (70 < n2) = q2 := hq2.symm
          have g3 : decide (70 < n3) = q3 := hq3.symm
          have g4 : decide (100 < n4) = q4 := hq4.symm
          have g5 : decide (100 < n5) = q5 := hq5.symm
          have HBX := Lib.hid (new_ HB.out (.cells #[.int .u8 o.r.k, .int .u32 o.r.t, .int .u64 o.r.p, .int .u64 o.r.n, .int .u32 o.r.c.pg, .int .u16 o.r.c.sl, .bool o.r.c.had, .bool o.r.c.has, .slice A1 n4 c1, .slice A2 n5 c2, .slice A3 n2 c3, .slice A4 n3 c4] 54))
          have kz : (wa.alloc (.cells #[.int .u8 o.r.k, .int .u32 o.r.t, .int .u64 o.r.p, .int .u64 o.r.n, .int .u32 o.r.c.pg, .int .u16 o.r.c.sl, .bool o.r.c.had, .bool o.r.c.has, .slice A1 n4 c1, .slice A2 n5 c2, .slice A3 n2 c3, .slice A4 n3 c4] 54)).cell? ⟨b, off + j * 16 + 15, none⟩ = some (.slice A5 n1 c5) := (World.cell?_alloc_lt _ _ _ (Nat.lt_of_lt_of_le hbB (Nat.le_trans hB HB.out.size))).trans k15
          have BX := (Box.new wa #[.int .u8 o.r.k, .int .u32 o.r.t, .int .u64 o.r.p, .int .u64 o.r.n, .int .u32 o.r.c.pg, .int .u16 o.r.c.sl, .bool o.r.c.had, .bool o.r.c.has, .slice A1 n4 c1, .slice A2 n5 c2, .slice A3 n2 c3, .slice A4 n3 c4] 54)
          have z8 := BX.cell 8
          have z9 := BX.cell 9
          have z10 := BX.cell 10
          have z11 := BX.cell 11
          clear BX
          clear k hs hc hq1 hq2 hq3 hq4 hq5 hn1 hn2 hn3 hn4 hn5 e1 e2 e3 e4 e5 ho hh
          have HREL := Lib.hid (show (q1 || q2 || q3 || q4 || q5) = false → ∀ k (hk : k < xl.length), k < j + 1 → hv1 xl[k] = false from fun e k hk hkj => by
            rcases Nat.lt_or_ge k j with h | h
            · exact HP.out k hk h
            · have : k = j := by omega
              subst this
              rw [HH.out]; exact e)
          have HYE := Lib.hid (show (q1 || q2 || q3 || q4 || q5) = true → hvy size xl = true from fun e => HY.out j hlt (by rw [HH.out]; exact e))
          clear HH
          go_wp2
          all_goals first
            | (go_ret; exact ⟨by rw [HYE.out (by simp [*])]; rfl, HBX.out⟩)
            | (go_roundw
               (case rel => exact ⟨j + 1, by go_num, by omega, Lib.hid (HREL.out (by simp [*])), HBX⟩)
               (case measure => simp [intOf]; omega))
        · have d3 : decide ((j : Int) < (xl.length : Int)) = false := decide_eq_false (by omega)
          have d3n : decide (j < xl.length) = false := decide_eq_false hlt
          have hjl : j = xl.length := by omega
          have HF := Lib.hid (HN.out (fun k hk => HP.out k hk (by omega)))
          clear hjl
          go_wp2
          go_ret
          exact ⟨by rw [HF.out]; rfl, HB.out⟩
end Go.Proofs.Yteggcehjpfmikaa.Wal
