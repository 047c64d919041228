import Derived.Test.YteggcehjpfmikaaWt1
import Derived.Test.YteggcehjpfmikaaWt2
import Derived.Test.YteggcehjpfmikaaWt9
import Derived.Test.YteggcehjpfmikaaWtB
import Derived.ChangeArms
import Derived.Deep.DeepCutAuto
namespace Go.Proofs.Yteggcehjpfmikaa.Wal
open Go.ChangeShapes Go.WideShapes Go.ChangeAt Go.RowKit Go.IntWalk Go.Proofs.Mem Go.Proofs.Each Law Go.Proofs.Yteggcehjpfmikaa.Disk Strip Rec
set_option linter.unusedVariables false
set_option linter.unusedSimpArgs false
section
variable {w : World} {T : Nat → Prop} {t g : Nat} {fv : Nat → Value} {D : Dv} {L : Lv}
def apL (L : Lv) (r : Rc) : Lv := ⟨L.h, L.se, L.ys ++ encS r, L.ss ++ [(L.ys.length : Int)], L.la⟩
def apE (D : Dv) (L : Lv) (r : Rc) (sp : Nat) : Nat := if mayS r = false then 61 else if L.ys.length + (encS r).length + sp ≤ Wal.sz D * 127 then 0 else 80
theorem append_any (h : LgAt w T t g fv D L) (ok : LvOk D L) (r : Rc) (hr : r.Ok) (a b ta da : Value) (hi : RcIn w w.heap.size r a b ta da) (sp : Nat) (hsp : sp ≤ 18446744073709551615) :
    Calls Try.prog 23 #[.pointer (some ⟨t, 0, none⟩), .agg (rcV r a b ta da), .int .u64 sp] w fun e w' => e = .returned (.tuple #[.int .u64 (if apE D L r sp = 0 then L.h.ba + L.ys.length else 0), .int .u16 (apE D L r sp)]) ∧ LgAt w' (growS w w' T) t g fv D (if apE D L r sp = 0 then apL L r else L) ∧ Fr T w w' := by
  obtain ⟨S, A, c, At, ct, h1, h2, h3, h4, h5, h6, h7, h8, h9⟩ := id h
  have no : ∀ {e : Ending} {w' : World} {E : Nat}, E ≠ 0 → apE D L r sp = E → e = .returned (.tuple #[.int .u64 0, .int .u16 E]) → Below w.heap.size w w' → e = .returned (.tuple #[.int .u64 (if apE D L r sp = 0 then L.h.ba + L.ys.length else 0), .int .u16 (apE D L r sp)]) ∧ LgAt w' (growS w w' T) t g fv D (if apE D L r sp = 0 then apL L r else L) ∧ Fr T w w' := fun {e w' E} h0 hE he hb => by
    rw [hE, if_neg h0, if_neg h0]
    exact ⟨he, (h.later hb).more (fun x hx => .inl hx), Fr.of_below hb⟩
  cases hm : mayS r with
  | false =>
    refine (append_bad r hm a b ta da hi t sp).mono ?_
    rintro e w' ⟨rfl, hb⟩
    exact no (E := 61) (by decide) (by unfold apE; rw [if_pos hm]) rfl hb
  | true =>
    by_cases hf : L.ys.length + (encS r).length + sp ≤ Wal.sz D * 127
    · have hE : apE D L r sp = 0 := by unfold apE; rw [if_neg (by rw [hm]; decide), if_pos hf]
      refine (append_yes h1 h2 (by have := ok.len18; omega) h3 h4 ok.ssl (by have := ok.ba; have := ok.nn; omega) r hr hm a b ta da hi sp hsp hf).mono ?_
      rintro e w' ⟨rfl, sv, tv, b1, b2, b3, b4, b5, b6⟩
      rw [hE, if_pos rfl, if_pos rfl]
      have hT : Fr T w w' := b4.mono (fun x _ hx => by
        rcases hx with hx | hx | hx
        · rw [hx]; exact h9
        · exact (h6 x hx).2
        · exact (h7 x hx).2)
      have hS : DX w' S g fv D := h2.far b4 (fun x hx hx2 => by
        rcases hx2 with h | h | h
        · exact h5 (h ▸ hx)
        · exact (h6 x h).1 hx
        · exact (h7 x h).1 hx)
      obtain ⟨A2, c2, e2⟩ := own_slice' b2
      obtain ⟨A3, c3, e3⟩ := own_slice' b3
      subst e2 e3
      have l1 : (apL L r).ys.length = L.ys.length + (encS r).length := by unfold apL; rw [List.length_append]
      have l2 : (apL L r).ss.length = L.ss.length + 1 := by unfold apL; rw [List.length_append]; rfl
      have e4 : (apL L r).ss.map (Value.int .i64) = L.ss.map (.int .i64) ++ [.int .i64 (L.ys.length : Int)] := by unfold apL; simp
      refine ⟨rfl, ⟨S, A2, c2, A3, c3, by rw [l1, l2]; exact b1, hS, by rw [l1]; exact b2, by rw [l2, e4]; exact b3, h5, fun k hk => ?_, fun k hk => ?_, fun x hx => .inl (h8 x hx), .inl h9⟩, hT⟩
      · rw [l1] at hk
        rcases b5 with h' | h'
        · rw [h'] at hk; exact ⟨(h6 k hk).1, .inl (h6 k hk).2⟩
        · have := h' k hk
          exact ⟨fun hs => by have := h2.old k hs; omega, .inr ⟨this, (b2.lt k hk).2⟩⟩
      · rw [l2] at hk
        rcases b6 with h' | h'
        · rw [h'] at hk; exact ⟨(h7 k hk).1, .inl (h7 k hk).2⟩
        · have := h' k hk
          exact ⟨fun hs => by have := h2.old k hs; omega, .inr ⟨this, (b3.lt k hk).2⟩⟩
    · refine (append_full h1 h2 (by have := ok.len18; omega) ok.len r hr hm a b ta da hi sp hsp hf).mono ?_
      rintro e w' ⟨rfl, hb⟩
      exact no (E := 80) (by decide) (by unfold apE; rw [if_neg (by rw [hm]; decide), if_neg hf]) rfl hb
theorem base_lg (h : LgAt w T t g fv D L) : Calls Try.prog 19 #[.pointer (some ⟨t, 0, none⟩)] w fun e w' => e = .returned (.int .u64 L.h.ba) ∧ w = w' := by
  obtain ⟨S, A, c, At, ct, h1, h2, h3, h4, h5, h6, h7, h8, h9⟩ := id h
  exact base_any w h1
theorem end_lg (h : LgAt w T t g fv D L) (ok : LvOk D L) : Calls Try.prog 15 #[.pointer (some ⟨t, 0, none⟩)] w fun e w' => e = .returned (.int .u64 (L.h.ba + L.ys.length)) ∧ w = w' := by
  obtain ⟨S, A, c, At, ct, h1, h2, h3, h4, h5, h6, h7, h8, h9⟩ := id h
  exact end_any w h1 (by have := ok.ba; have := ok.nn; omega) (by have := ok.nn; omega)
theorem lasts_lg (h : LgAt w T t g fv D L) (ok : LvOk D L) : Calls Try.prog 14 #[.pointer (some ⟨t, 0, none⟩)] w fun e w' => e = .returned (.int .u64 (L.h.ba + L.la)) ∧ w = w' := by
  obtain ⟨S, A, c, At, ct, h1, h2, h3, h4, h5, h6, h7, h8, h9⟩ := id h
  exact lasts_any w h1 (by have := ok.ba; have := ok.nn; have := ok.la; omega)
theorem room_lg (h : LgAt w T t g fv D L) (ok : LvOk D L) : Calls Try.prog 22 #[.pointer (some ⟨t, 0, none⟩)] w fun e w' => e = .returned (.int .u64 (Wal.sz D * 127 - L.ys.length : Nat)) ∧ Below w.heap.size w w' := by
  obtain ⟨S, A, c, At, ct, h1, ⟨col, uv, h2⟩, h3, h4, h5, h6, h7, h8, h9⟩ := id h
  exact room_any w h1 h2 (by have := ok.len18; omega) ok.len
end
end Go.Proofs.Yteggcehjpfmikaa.Wal
namespace Go.Proofs.Yteggcehjpfmikaa.Wal
open Go.ChangeShapes Go.WideShapes Go.ChangeAt Go.RowKit Go.IntWalk Go.Proofs.Mem Go.Proofs.Each Law Go.Proofs.Yteggcehjpfmikaa.Disk NumBytes
set_option linter.unusedVariables false
set_option linter.unusedSimpArgs false
theorem ir_sub {w : World} {B : Nat} {k : IntKind} {b o n c : Nat} {xs : List Int} (h : IR w B k (.slice (some ⟨b, o, none⟩) n c) xs) (i j : Nat) (hi : i ≤ j) (ht : j ≤ n) : IR w B k (.slice (some ⟨b, o + i, none⟩) (j - i) (c - i)) ((xs.drop i).take (j - i)) := by
  obtain ⟨A', c', e, h2, h3, h4, h5⟩ := h
  injection e with e1 e2 e3
  subst e1 e2 e3
  have hl : ((xs.drop i).take (j - i)).length = j - i := by rw [List.length_take, List.length_drop]; omega
  refine ⟨_, c - i, by rw [hl], by rw [hl]; omega, by omega, (fun hh => by cases hh), fun k hk => ?_⟩
  rw [hl] at hk
  obtain ⟨b', off, e, hb, hc⟩ := h5 (i + k) (by omega)
  injection e with e
  injection e with e1 e2
  subst e1 e2
  refine ⟨b, o + i, rfl, hb, ?_⟩
  rw [Nat.add_assoc, hc]
  simp only [List.getD]
  rw [List.getElem?_take, if_pos hk, List.getElem?_drop]
theorem getS_bd {xs : List Int} (h : Bytes xs) (hl : xs.length = 8) : 0 ≤ getS xs ∧ getS xs ≤ 18446744073709551615 := by
  unfold getS
  rw [hl]
  exact ⟨(getTo_lt xs h 8).1, getTo_u64 xs h 8 (Nat.le_refl _)⟩
theorem hOf_ok {xs : List Int} (h : Bytes xs) (hl : xs.length = 128) : (hOf xs).Ok :=
  ⟨getS_bd (fun x hx => h x (List.mem_of_mem_take hx)) (by rw [List.length_take]; omega), h.at_ 8, getS_bd (fun x hx => h x (List.mem_of_mem_drop (List.mem_of_mem_take hx))) (by rw [List.length_take, List.length_drop]; omega), getS_bd (fun x hx => h x (List.mem_of_mem_drop (List.mem_of_mem_take hx))) (by rw [List.length_take, List.length_drop]; omega)⟩
def hdR (o : Option Hh) : Value := .tuple #[.agg (hdC (o.getD ⟨0, 0, 0, 0⟩)), .bool o.isSome]
theorem header_len (A : Option Addr) (n c : Nat) (hn : n ≠ 128) (w : World) :
    Calls Try.prog 54 #[.slice A n c] w fun e w' => e = .returned (hdR none) ∧ Below w.heap.size w w' := by
  have d1 : ((n : Int) != 128) = true := by simp; omega
  clear hn
  go_enter Try.func54, Try.ntmps54
  go_wp2
  refine bodyPost_ret (v := .tuple #[.agg (hdC ⟨0, 0, 0, 0⟩), .bool false]) (by simp [results, Try.results54, go_sem]; try rfl) rfl ?_
  exact ⟨rfl, new_ (Below.refl _ _) _⟩
set_option maxRecDepth 100000 in
set_option maxHeartbeats 8000000 in
theorem header_any (w : World) (v : Value) (xs : List Int) (hv : IR w w.heap.size .u8 v xs) (hx : Bytes xs) :
    Calls Try.prog 54 #[v] w fun e w' => e = .returned (hdR (hParse xs)) ∧ Below w.heap.size w w' := by
  obtain ⟨A, c, rfl, hlc, hcm⟩ := hv.form
  unfold maxLen at hcm
  by_cases hl : xs.length = 128
  · rw [hl] at hv hlc ⊢
    obtain ⟨b, o, rfl, hb0, c8⟩ := hv.index 8 (by omega)
    have ok := hOf_ok hx hl
    have i1 : IR w w.heap.size .u8 (.slice (some ⟨b, o, none⟩) 8 c) (xs.take 8) := hv.take (by omega)
    have i2 : IR w w.heap.size .u8 (.slice (some ⟨b, o + 9, none⟩) 8 (c - 9)) ((xs.drop 9).take (17 - 9)) := ir_sub hv 9 17 (by decide) (by decide)
    have i3 : IR w w.heap.size .u8 (.slice (some ⟨b, o + 17, none⟩) 8 (c - 17)) ((xs.drop 17).take (25 - 17)) := ir_sub hv 17 25 (by decide) (by decide)
    have bx1 : Bytes (xs.take 8) := fun x h => hx x (List.mem_of_mem_take h)
    have bx2 : Bytes ((xs.drop 9).take (17 - 9)) := fun x h => hx x (List.mem_of_mem_drop (List.mem_of_mem_take h))
    have bx3 : Bytes ((xs.drop 17).take (25 - 17)) := fun x h => hx x (List.mem_of_mem_drop (List.mem_of_mem_take h))
    obtain ⟨H, hH⟩ : ∃ H, hOf xs = H := ⟨_, rfl⟩
    have e1 : getS (xs.take 8) = H.st := by rw [← hH]; rfl
    have e2 : getS ((xs.drop 9).take (17 - 9)) = H.ba := by rw [← hH]; rfl
    have e3 : getS ((xs.drop 17).take (25 - 17)) = H.ch := by rw [← hH]; rfl
    have e4 : xs.getD 8 0 = H.ar := by rw [← hH]; rfl
    rw [hH] at ok
    have hp : hParse xs = if H.may ∧ xs = H.img then some H else none := by
      unfold hParse
      rw [hH]
      by_cases h : H.may ∧ xs = H.img
      · rw [if_pos ⟨hl, h⟩, if_pos h]
      · rw [if_neg (fun h' => h h'.2), if_neg h]
    rw [e4] at c8
    obtain ⟨st, ar, ba, ch⟩ := H
    dsimp only at e1 e2 e3 c8
    have ok2 := ok
    obtain ⟨k1, k2, k3, k4⟩ := ok2
    dsimp only at k1 k2 k3 k4
    have G1 := Lib.hid (fun W (hb : Below w.heap.size w W) => by have := get_any _ _ W _ (i1.below hb) bx1; rw [e1] at this; exact this)
    have G2 := Lib.hid (fun W (hb : Below w.heap.size w W) => by have := get_any _ _ W _ (i2.below hb) bx2; rw [e2] at this; exact this)
    have G3 := Lib.hid (fun W (hb : Below w.heap.size w W) => by have := get_any _ _ W _ (i3.below hb) bx3; rw [e3] at this; exact this)
    have IM := Lib.hid (fun W => image_any ⟨st, ar, ba, ch⟩ ok W)
    obtain ⟨im, him⟩ : ∃ im, Hh.img ⟨st, ar, ba, ch⟩ = im := ⟨_, rfl⟩
    have hib := img_bytes ⟨st, ar, ba, ch⟩ k2
    have hil := img_len ⟨st, ar, ba, ch⟩
    rw [him] at IM hp hib hil
    obtain ⟨q5, hq5⟩ : ∃ q, q = decide (xs = im) := ⟨_, rfl⟩
    have EQ := Lib.hid (fun W (hb : Below w.heap.size w W) u B (hu : IR W B .u8 u im) => by have := beq_any _ u _ im W _ _ (hv.below hb) hu hx hib; rw [← hq5] at this; exact this)
    obtain ⟨q1, hq1⟩ : ∃ q, q = (st != 0) := ⟨_, rfl⟩
    obtain ⟨q2, hq2⟩ : ∃ q, q = decide (ar ≤ 1) := ⟨_, rfl⟩
    obtain ⟨q3, hq3⟩ : ∃ q, q = decide (1 ≤ ba) := ⟨_, rfl⟩
    obtain ⟨q4, hq4⟩ : ∃ q, q = decide (ba ≤ 9223372036854775808) := ⟨_, rfl⟩
    have hpq : hParse xs = if (q1 && q2 && q3 && q4 && q5) = true then some ⟨st, ar, ba, ch⟩ else none := by
      rw [hp]
      congr 1
      rw [hq1, hq2, hq3, hq4, hq5]
      unfold Hh.may
      simp only [Bool.and_eq_true, decide_eq_true_eq, bne_iff_ne, ne_eq, and_assoc]
    have HP := Lib.hid hpq
    have d1 := hq1.symm
    have d2 := hq2.symm
    have d3 := hq3.symm
    have d4 := hq4.symm
    have HIL := Lib.hid hil
    have C8 := Lib.hid (show ∀ W, Below w.heap.size w W → W.cell? ⟨b, o + 8, none⟩ = some (.int .u8 ar) from fun W hW => (hW.cell hb0).trans c8)
    obtain ⟨hp', hhp⟩ : ∃ r, hdR (hParse xs) = r := ⟨_, rfl⟩
    rw [hhp]
    have HHP := Lib.hid hhp
    have b25 : 25 ≤ c := by omega
    have l128 : (128 : Nat) ≤ c := hlc
    have l128i : (128 : Int) ≤ (c : Int) := by omega
    have l8i : (8 : Int) ≤ (c : Int) := by omega
    have l17i : (17 : Int) ≤ (c : Int) := by omega
    have l25i : (25 : Int) ≤ (c : Int) := by omega
    have l8n : 8 ≤ c := by omega
    have n9 : ¬ c = 9 := by omega
    have n17 : ¬ c = 17 := by omega
    have l9i : (9 : Int) ≤ (c : Int) := by omega
    have l17n : 17 ≤ c := by omega
    have l9n : 9 < c := by omega
    have l17m : 17 < c := by omega
    have bz := new_ (Below.refl w.heap.size w) (.cells #[.int .u64 0, .int .u8 0, .int .u64 0, .int .u64 0] 84)
    obtain ⟨w1, hw1⟩ : ∃ w1, w.alloc (.cells #[.int .u64 0, .int .u8 0, .int .u64 0, .int .u64 0] 84) = w1 := ⟨_, rfl⟩
    rw [hw1] at bz
    have HB1 := Lib.hid bz
    have HBX := Lib.hid (Box.new w1 #[.int .u64 st, .int .u8 ar, .int .u64 ba, .int .u64 ch] 84)
    have HBH := Lib.hid (new_ bz (.cells #[.int .u64 st, .int .u8 ar, .int .u64 ba, .int .u64 ch] 84))
    have HBZ := Lib.hid (by have := Box.new w #[.int .u64 0, .int .u8 0, .int .u64 0, .int .u64 0] 84; rw [hw1] at this; exact this)
    have HBL := Lib.hid (show b < w1.drew.heap.size from Nat.lt_of_lt_of_le hb0 bz.size)
    have HD1 := Lib.hid (show Below w.heap.size w w1.drew from bz.drew)
    clear hp hpq hq1 hq2 hq3 hq4 hq5 ok k1 k2 k3 k4 e1 e2 e3 e4 i1 i2 i3 bx1 bx2 bx3 hH hib hil him hv hx hl c8 hhp bz
    go_enter Try.func54, Try.ntmps54
    go_upto_region 3 with fail
    have K0 := Lib.hid (show w1.drew.cell? ⟨b, o + 8, none⟩ = some (.int .u8 ar) from C8.out _ HD1.out)
    go_cut [4] (fun v wx => v = .pointer (some ⟨w1.heap.size, 0, none⟩) ∧ wx = (w1.alloc (.cells #[.int .u64 st, .int .u8 ar, .int .u64 ba, .int .u64 ch] 84)).drew)
    case first =>
      go_region_held3 (fun W => W.cell? ⟨b, o + 8, none⟩ = some (.int .u8 ar))
        (first | exact K0.out | (refine (World.cell?_alloc_lt _ _ _ ?_).trans K0.out; exact HBL.out))
        (first
        | (go_at_call 77; (first | (with_reducible refine (G1.out _ HD1.out).mono ?_) | (with_reducible refine (G1.out _ ((new_ HB1.out _).drew)).mono ?_)); rintro er w3 ⟨rfl, rfl⟩)
        | (go_at_call 77; (first | (with_reducible refine (G2.out _ HD1.out).mono ?_) | (with_reducible refine (G2.out _ ((new_ HB1.out _).drew)).mono ?_)); rintro er w3 ⟨rfl, rfl⟩)
        | (go_at_call 77; (first | (with_reducible refine (G3.out _ HD1.out).mono ?_) | (with_reducible refine (G3.out _ ((new_ HB1.out _).drew)).mono ?_)); rintro er w3 ⟨rfl, rfl⟩))
      all_goals (go_wp2; go_meet; exact ⟨rfl, rfl⟩)
    case rest =>
      obtain ⟨rfl, rfl⟩ := hcut
      rename_i hK
      refine hK _ _ ?_
      clear hK K0 C8 G1 G2 G3
      obtain ⟨w2, hw2⟩ : ∃ w2, (w1.alloc (.cells #[.int .u64 st, .int .u8 ar, .int .u64 ba, .int .u64 ch] 84)).drew = w2 := ⟨_, rfl⟩
      have X2 := HBX.out.drew
      have B2 := HBH.out.drew
      have X0 := (HBZ.out.alloc (.cells #[.int .u64 st, .int .u8 ar, .int .u64 ba, .int .u64 ch] 84)).drew
      rw [hw2] at X2 B2 X0 ⊢
      have HX2 := Lib.hid X2
      have HB2 := Lib.hid B2
      have HX0 := Lib.hid X0
      have k2 := X2.cell
      clear X2 B2 X0
      obtain ⟨Q, hQ⟩ : ∃ Q, Q = (q1 && q2 && q3 && q4 && q5) := ⟨_, rfl⟩
      have HQ := Lib.hid hQ
      rw [← hQ] at HP
      clear hQ
      go_upto_region 4 with fail
      go_cut [5] (fun v wx => v = .bool Q ∧ Hid (Below w2.heap.size w2 wx))
      case first =>
        go_wp2_with (first
          | (go_at_call 74
             (with_reducible refine (IM.out _).mono ?_)
             rintro er w5 ⟨u, rfl, ho, hb⟩
             have HB5 := Lib.hid hb
             have CE := Lib.hid (EQ.out w5 (HB2.out.trans (hb.mono HB2.out.size)) u _ (own_ir' ho HIL.out))
             clear ho hb)
          | (go_at_call 59
             (with_reducible refine CE.out.mono ?_)
             rintro er w6 ⟨rfl, rfl⟩))
        all_goals (go_meet; exact ⟨by rw [HQ.out]; simp [*], Lib.hid (by first | exact HB5.out | exact Below.refl _ _)⟩)
      case rest =>
        obtain ⟨rfl, hb⟩ := hcut
        rename_i hK
        refine hK _ _ ?_
        have HXc := Lib.hid (HX0.out.later hb.out)
        have HHc := Lib.hid (HX2.out.later hb.out)
        have z0 := HXc.out.cell
        have k9 := HHc.out.cell
        have f0 := HXc.out.frozen
        clear hK k2 IM EQ d1 d2 d3 d4
        cases Q with
        | false =>
          have HPF := Lib.hid (show hParse xs = none from by rw [HP.out]; rfl)
          clear HP HQ
          have b9 := ((((HXc.out.set_ 0 (.int .u64 0)).set_ 1 (.int .u8 0)).set_ 2 (.int .u64 0)).set_ 3 (.int .u64 0))
          simp only [List.setIfInBounds_toArray, List.set_cons_succ, List.set_cons_zero] at b9
          have l9 := (Below.setCell ((Below.setCell ((Below.setCell ((Below.setCell ((Below.refl w.heap.size w).trans (HB2.out.trans (hb.out.mono HB2.out.size))) (p := ⟨w.heap.size, 0, none⟩) (Nat.le_refl _) (.int .u64 0))) (p := ⟨w.heap.size, 1, none⟩) (Nat.le_refl _) (.int .u8 0))) (p := ⟨w.heap.size, 2, none⟩) (Nat.le_refl _) (.int .u64 0))) (p := ⟨w.heap.size, 3, none⟩) (Nat.le_refl _) (.int .u64 0))
          obtain ⟨w9, hw9⟩ : ∃ w9, World.setCell (World.setCell (World.setCell (World.setCell wc ⟨w.heap.size, 0, none⟩ (.int .u64 0)) ⟨w.heap.size, 1, none⟩ (.int .u8 0)) ⟨w.heap.size, 2, none⟩ (.int .u64 0)) ⟨w.heap.size, 3, none⟩ (.int .u64 0) = w9 := ⟨_, rfl⟩
          rw [hw9] at b9 l9
          have HB9 := Lib.hid l9
          have r9_0 : w9.cell? ⟨w.heap.size, 0, none⟩ = some (.int .u64 0) := b9.cell 0
          have r9_1 : w9.cell? ⟨w.heap.size, 1, none⟩ = some (.int .u8 0) := b9.cell 1
          have r9_2 : w9.cell? ⟨w.heap.size, 2, none⟩ = some (.int .u64 0) := b9.cell 2
          have r9_3 : w9.cell? ⟨w.heap.size, 3, none⟩ = some (.int .u64 0) := b9.cell 3
          clear b9 l9
          go_wp2
          refine bodyPost_ret (v := .tuple #[.agg (hdC ⟨0, 0, 0, 0⟩), .bool false]) (by simp [results, Try.results54, go_sem, r9_0, r9_1, r9_2, r9_3]; try rfl) rfl ?_
          exact ⟨by rw [← HHP.out, HPF.out]; rfl, HB9.out⟩
        | true =>
          have HPF := Lib.hid (show hParse xs = some ⟨st, ar, ba, ch⟩ from by rw [HP.out]; rfl)
          clear HP HQ
          have b9 := ((((HXc.out.set_ 0 (.int .u64 st)).set_ 1 (.int .u8 ar)).set_ 2 (.int .u64 ba)).set_ 3 (.int .u64 ch))
          simp only [List.setIfInBounds_toArray, List.set_cons_succ, List.set_cons_zero] at b9
          have l9 := (Below.setCell ((Below.setCell ((Below.setCell ((Below.setCell ((Below.refl w.heap.size w).trans (HB2.out.trans (hb.out.mono HB2.out.size))) (p := ⟨w.heap.size, 0, none⟩) (Nat.le_refl _) (.int .u64 st))) (p := ⟨w.heap.size, 1, none⟩) (Nat.le_refl _) (.int .u8 ar))) (p := ⟨w.heap.size, 2, none⟩) (Nat.le_refl _) (.int .u64 ba))) (p := ⟨w.heap.size, 3, none⟩) (Nat.le_refl _) (.int .u64 ch))
          obtain ⟨w9, hw9⟩ : ∃ w9, World.setCell (World.setCell (World.setCell (World.setCell wc ⟨w.heap.size, 0, none⟩ (.int .u64 st)) ⟨w.heap.size, 1, none⟩ (.int .u8 ar)) ⟨w.heap.size, 2, none⟩ (.int .u64 ba)) ⟨w.heap.size, 3, none⟩ (.int .u64 ch) = w9 := ⟨_, rfl⟩
          rw [hw9] at b9 l9
          have HB9 := Lib.hid l9
          have r9_0 : w9.cell? ⟨w.heap.size, 0, none⟩ = some (.int .u64 st) := b9.cell 0
          have r9_1 : w9.cell? ⟨w.heap.size, 1, none⟩ = some (.int .u8 ar) := b9.cell 1
          have r9_2 : w9.cell? ⟨w.heap.size, 2, none⟩ = some (.int .u64 ba) := b9.cell 2
          have r9_3 : w9.cell? ⟨w.heap.size, 3, none⟩ = some (.int .u64 ch) := b9.cell 3
          clear b9 l9
          go_wp2
          refine bodyPost_ret (v := .tuple #[.agg (hdC ⟨st, ar, ba, ch⟩), .bool true]) (by simp [results, Try.results54, go_sem, r9_0, r9_1, r9_2, r9_3]; try rfl) rfl ?_
          exact ⟨by rw [← HHP.out, HPF.out]; rfl, HB9.out⟩
  · refine (header_len A _ c hl w).mono ?_
    rintro e w' ⟨rfl, hb⟩
    have : hParse xs = none := by unfold hParse; rw [if_neg (fun h => hl h.1)]
    rw [this]
    exact ⟨rfl, hb⟩
end Go.Proofs.Yteggcehjpfmikaa.Wal
namespace Go.Proofs.Yteggcehjpfmikaa.Wal
open Go.ChangeShapes Go.WideShapes Go.ChangeAt Go.RowKit Go.IntWalk Go.Proofs.Mem Go.Proofs.Each Law Go.Proofs.Yteggcehjpfmikaa.Disk NumBytes
set_option linter.unusedVariables false
set_option linter.unusedSimpArgs false
def nwTo (D : Dv) : Nat → Option (Hh × Nat)
  | 0 => none
  | k + 1 => match hParse (D.rd 0 (k : Int)) with
    | none => nwTo D k
    | some h => match nwTo D k with
      | none => some (h, k)
      | some p => if p.1.st < h.st then some (h, k) else some p
def nwS (o : Option (Hh × Nat)) (h : Hh) (k : Nat) : Option (Hh × Nat) := match o with
  | none => some (h, k)
  | some p => if p.1.st < h.st then some (h, k) else some p
theorem nw_succ (D : Dv) (k : Nat) : nwTo D (k + 1) = match hParse (D.rd 0 (k : Int)) with
    | none => nwTo D k
    | some h => nwS (nwTo D k) h k := rfl
def bH : Option (Hh × Nat) → Hh
  | none => ⟨0, 0, 0, 0⟩
  | some p => p.1
def bA : Option (Hh × Nat) → Int
  | none => -1
  | some p => p.2
def nwR (o : Option (Hh × Nat)) : Value := .tuple #[.agg (hdC (bH o)), .int .i64 (bA o), .bool o.isSome]
theorem nw_newer (D : Dv) : nwTo D 2 = newer (D.rd 0 0) (D.rd 0 1) := by
  simp only [nwTo, newer]
  have e0 : ((0 : Nat) : Int) = 0 := rfl
  have e1 : ((1 : Nat) : Int) = 1 := rfl
  rw [e0, e1]
  cases hParse (D.rd 0 0) <;> cases hParse (D.rd 0 1) <;> rfl
theorem bx4 {w : World} {z : Nat} {h : Hh} {T : TypeId} (X : Box w z (hdC h) T) (k : Hh) : Box ((((w.setCell ⟨z, 0, none⟩ (.int .u64 k.st)).setCell ⟨z, 1, none⟩ (.int .u8 k.ar)).setCell ⟨z, 2, none⟩ (.int .u64 k.ba)).setCell ⟨z, 3, none⟩ (.int .u64 k.ch)) z (hdC k) T := by
  have b9 := (((X.set_ 0 (.int .u64 k.st)).set_ 1 (.int .u8 k.ar)).set_ 2 (.int .u64 k.ba)).set_ 3 (.int .u64 k.ch)
  simpa only [List.setIfInBounds_toArray, List.set_cons_succ, List.set_cons_zero] using b9
theorem bl4 {a w : World} {z B : Nat} (h : Below B a w) (hz : B ≤ z) (x0 x1 x2 x3 : Value) : Below B a ((((w.setCell ⟨z, 0, none⟩ x0).setCell ⟨z, 1, none⟩ x1).setCell ⟨z, 2, none⟩ x2).setCell ⟨z, 3, none⟩ x3) :=
  (((h.setCell (p := ⟨z, 0, none⟩) hz _).setCell (p := ⟨z, 1, none⟩) hz _).setCell (p := ⟨z, 2, none⟩) hz _).setCell (p := ⟨z, 3, none⟩) hz _
theorem fr4 {a w : World} {z : Nat} {S : Nat → Prop} (h : Fr S a w) (hz : S z ∨ a.heap.size ≤ z) (x0 x1 x2 x3 : Value) : Fr S a ((((w.setCell ⟨z, 0, none⟩ x0).setCell ⟨z, 1, none⟩ x1).setCell ⟨z, 2, none⟩ x2).setCell ⟨z, 3, none⟩ x3) :=
  (((h.setCell (p := ⟨z, 0, none⟩) hz _).setCell (p := ⟨z, 1, none⟩) hz _).setCell (p := ⟨z, 2, none⟩) hz _).setCell (p := ⟨z, 3, none⟩) hz _
set_option maxRecDepth 100000 in
set_option maxHeartbeats 8000000 in
theorem newest_any {w : World} {S : Nat → Prop} {g : Nat} {fv : Nat → Value} {D : Dv} (h : DX w S g fv D) (hw : D.Few 100000) :
    Calls Try.prog 34 #[.pointer (some ⟨g, 0, none⟩)] w fun e w' => e = .returned (nwR (nwTo D 2)) ∧ Below w.heap.size w w' := by
  obtain ⟨z, hz⟩ : ∃ z, w.heap.size = z := ⟨_, rfl⟩
  have b0 := new_ (Below.refl w.heap.size w) (.cells (hdC ⟨0, 0, 0, 0⟩) 84)
  have X0 := Box.new w (hdC ⟨0, 0, 0, 0⟩) 84
  have s0 : (w.alloc (.cells (hdC ⟨0, 0, 0, 0⟩) 84)).heap.size = z + 1 := by rw [← hz]; simp
  have h' := h
  rw [hz] at b0 X0 ⊢
  obtain ⟨w0, hw0⟩ : ∃ w0, w.alloc (.cells (hdC ⟨0, 0, 0, 0⟩) 84) = w0 := ⟨_, rfl⟩
  rw [hw0] at b0 X0 s0
  have b1 := new_ (Below.refl w0.heap.size w0) (.cells (hdC ⟨0, 0, 0, 0⟩) 84)
  have X1 := Box.new w0 (hdC ⟨0, 0, 0, 0⟩) 84
  have s1 : (w0.alloc (.cells (hdC ⟨0, 0, 0, 0⟩) 84)).heap.size = z + 2 := by simp [s0]
  obtain ⟨w1, hw1⟩ : ∃ w1, w0.alloc (.cells (hdC ⟨0, 0, 0, 0⟩) 84) = w1 := ⟨_, rfl⟩
  rw [hw1] at b1 X1 s1
  rw [s0] at b1 X1
  have HX0 := Lib.hid (X0.below b1 (by omega))
  have HX1 := Lib.hid X1
  have HB := Lib.hid (b0.trans (b1.mono (by omega)))
  have HD := Lib.hid (show DX w S g fv D from h)
  have HW := Lib.hid hw
  have HZ := Lib.hid hz
  have HO := Lib.hid (show ∀ x, S x → x < z from fun x hx => by rw [← hz]; exact h.old x hx)
  have HS1 := Lib.hid s1
  clear b0 X0 b1 X1 h h' hw s1
  go_enter Try.func34, Try.ntmps34
  go_wp2
  clear hz
  go_loopw [6, 12] (fun a i wr => ∃ (k : Nat) (o : Option (Hh × Nat)), i = .int .i64 k ∧ k ≤ 2 ∧ a = .int .i64 (bA o) ∧ Hid (o = nwTo D k) ∧ Hid (Box wr z (hdC ⟨0, 0, 0, 0⟩) 84) ∧ Hid (Box wr (z + 1) (hdC (bH o)) 84) ∧ Hid (Below z w wr) ∧ Hid (z + 2 ≤ wr.heap.size)) (fun _ i _ => 2 - (intOf i).toNat)
  case atStart => exact ⟨0, none, rfl, by decide, rfl, Lib.hid rfl, HX0, HX1, HB, Lib.hid (by rw [HS1.out]; exact Nat.le_refl _)⟩
  case round =>
    obtain ⟨k, o, rfl, hk, rfl, HOO, Y0, Y1, YB, YS⟩ := hrel
    obtain ⟨wa, rfl⟩ : ∃ wa, wa = wr := ⟨wr, rfl⟩
    have HDa := Lib.hid ((HD.out.far (Fr.of_below (S := fun x => z ≤ x) (by rw [← HZ.out] at YB; exact YB.out)) (fun x hx hx2 => by have := HO.out x hx; omega)))
    by_cases hlt : k < 2
    · have d1 : decide ((k : Int) < 2) = true := decide_eq_true (by omega)
      have d1' : decide (k < 2) = true := decide_eq_true hlt
      have q2 : IntKind.i64.wrap ((k : Int) + 1) = (k : Int) + 1 := IntWalk.i64_in _ (by omega)
      have RD := Lib.hid (ds_read HDa.out HW.out (k : Int))
      obtain ⟨po, hpo⟩ : ∃ po, hParse (D.rd 0 (k : Int)) = po := ⟨_, rfl⟩
      have HPO := Lib.hid hpo
      have HE := Lib.hid (fun W u (hu : IR W W.heap.size .u8 u (D.rd 0 (k : Int))) (hb : Bytes (D.rd 0 (k : Int))) => by have := header_any W u _ hu hb; rw [hpo, show hdR po = .tuple #[.agg (hdC (po.getD ⟨0, 0, 0, 0⟩)), .bool po.isSome] from rfl] at this; exact this)
      clear hpo
      obtain ⟨H, hH⟩ : ∃ H, po.getD ⟨0, 0, 0, 0⟩ = H := ⟨_, rfl⟩
      obtain ⟨b0, hb0⟩ : ∃ b0, po.isSome = b0 := ⟨_, rfl⟩
      rw [hH, hb0] at HE
      have HP1 := Lib.hid (show b0 = false → nwTo D (k + 1) = o from fun e => by rw [← hb0] at e; rw [nw_succ, HPO.out]; cases po with | none => exact HOO.out.symm | some _ => cases e)
      have HP2 := Lib.hid (show b0 = true → nwTo D (k + 1) = nwS o H k from fun e => by
        rw [← hb0] at e
        cases po with
        | none => cases e
        | some H' => rw [nw_succ, HPO.out, ← HOO.out, ← hH]; rfl)
      clear hH hb0
      go_wp2_with fail
      (with_reducible refine RD.out.mono ?_)
      rintro e w2 ⟨u, rfl, hu, hby, hb2⟩
      have CE := Lib.hid (HE.out w2 u hu hby)
      have HB2 := Lib.hid hb2
      clear hu hby hb2
      go_wp2_with fail
      (with_reducible refine CE.out.mono ?_)
      rintro e w3 ⟨rfl, hb3⟩
      have HB3 := Lib.hid (HB2.out.trans (hb3.mono HB2.out.size))
      clear hb3
      obtain ⟨z3, hz3⟩ : ∃ z3, w3.heap.size = z3 := ⟨_, rfl⟩
      have X3 := Box.new w3 (hdC H) 84
      have b4 := HB3.out.trans ((new_ (Below.refl w3.heap.size w3) (.cells (hdC H) 84)).mono HB3.out.size)
      obtain ⟨w4, hw4⟩ : ∃ w4, w3.alloc (.cells (hdC H) 84) = w4 := ⟨_, rfl⟩
      rw [hw4, hz3] at X3
      rw [hw4] at b4
      have HX3 := Lib.hid X3
      have HB4 := Lib.hid b4
      have c4 := X3.cell
      have Y0' := Y0.out.later b4
      have Y1' := Y1.out.later b4
      have c5 := Y1'.cell
      have f5 := Y1'.frozen
      have HY0 := Lib.hid Y0'
      have HY1 := Lib.hid Y1'
      have HYB := Lib.hid (YB.out.trans (b4.mono (by have := YB.out.size; have := YS.out; omega)))
      have HZS := Lib.hid (show z + 2 ≤ w4.heap.size by have := b4.size; have := YS.out; omega)
      clear X3 b4 Y0' Y1'
      cases b0 with
      | false =>
        have HN := Lib.hid (show nwTo D (k + 1) = o from HP1.out rfl)
        clear HP1 HP2
        go_wp2
        go_roundw
        case rel => exact ⟨k + 1, o, by go_num, by omega, rfl, Lib.hid HN.out.symm, HY0, HY1, HYB, HZS⟩
        case measure => simp [intOf]; omega
      | true =>
        have HN := Lib.hid (show nwTo D (k + 1) = nwS o H k from HP2.out rfl)
        clear HP1 HP2
        have st := Lib.hid (bx4 HY1.out H)
        have sb0 := Lib.hid (HY0.out.fr (fr4 (S := fun x => x = z + 1) (Fr.refl _ w4) (.inl rfl) (.int .u64 H.st) (.int .u8 H.ar) (.int .u64 H.ba) (.int .u64 H.ch)) (fun e => by have : z = z + 1 := e; omega))
        have sbb := Lib.hid (bl4 HYB.out (show z ≤ z + 1 by omega) (.int .u64 H.st) (.int .u8 H.ar) (.int .u64 H.ba) (.int .u64 H.ch))
        have ssz : ((((w4.setCell ⟨z + 1, 0, none⟩ (.int .u64 H.st)).setCell ⟨z + 1, 1, none⟩ (.int .u8 H.ar)).setCell ⟨z + 1, 2, none⟩ (.int .u64 H.ba)).setCell ⟨z + 1, 3, none⟩ (.int .u64 H.ch)).heap.size = w4.heap.size := by simp [World.setCell]
        obtain ⟨w5, hw5⟩ : ∃ w5, (((w4.setCell ⟨z + 1, 0, none⟩ (.int .u64 H.st)).setCell ⟨z + 1, 1, none⟩ (.int .u8 H.ar)).setCell ⟨z + 1, 2, none⟩ (.int .u64 H.ba)).setCell ⟨z + 1, 3, none⟩ (.int .u64 H.ch) = w5 := ⟨_, rfl⟩
        rw [hw5] at st sb0 sbb ssz
        have SSZ := Lib.hid ssz
        clear ssz
        cases o with
        | none =>
          have HN2 := Lib.hid (show nwTo D (k + 1) = some (H, k) from HN.out)
          have d2 : decide (bA none < 0) = true := by decide
          clear HN
          go_wp2
          go_roundw
          case rel => exact ⟨k + 1, some (H, k), by go_num, by omega, rfl, Lib.hid HN2.out.symm, sb0, st, sbb, Lib.hid (by rw [SSZ.out]; exact HZS.out)⟩
          case measure => simp [intOf]; try omega
        | some p =>
          obtain ⟨hb, sb⟩ := p
          have d2 : decide (bA (some (hb, sb)) < 0) = false := by unfold bA; simp
          by_cases hst : hb.st < H.st
          · have d3 : decide ((bH (some (hb, sb))).st < H.st) = true := decide_eq_true hst
            have HN2 := Lib.hid (show nwTo D (k + 1) = some (H, k) from HN.out.trans (if_pos hst))
            clear HN hst
            go_wp2
            go_roundw
            case rel => exact ⟨k + 1, some (H, k), by go_num, by omega, rfl, Lib.hid HN2.out.symm, sb0, st, sbb, Lib.hid (by rw [SSZ.out]; exact HZS.out)⟩
            case measure => simp [intOf]; omega
          · have d3 : decide ((bH (some (hb, sb))).st < H.st) = false := decide_eq_false hst
            have HN2 := Lib.hid (show nwTo D (k + 1) = some (hb, sb) from HN.out.trans (if_neg hst))
            clear HN hst st sb0 sbb SSZ hw5
            go_wp2
            go_roundw
            case rel => exact ⟨k + 1, some (hb, sb), by go_num, by omega, rfl, Lib.hid HN2.out.symm, HY0, HY1, HYB, HZS⟩
            case measure => simp [intOf]; omega
    · have d1 : decide ((k : Int) < 2) = false := decide_eq_false (by omega)
      have d1' : decide (k < 2) = false := decide_eq_false hlt
      have hk2 : k = 2 := by omega
      have HO2 := Lib.hid (show o = nwTo D 2 by rw [HOO.out, hk2])
      have c0 := Y0.out.cell
      have f0 := Y0.out.frozen
      have c1 := Y1.out.cell
      have st := Lib.hid (bx4 Y0.out (bH o))
      have sbb := Lib.hid (bl4 YB.out (Nat.le_refl z) (.int .u64 (bH o).st) (.int .u8 (bH o).ar) (.int .u64 (bH o).ba) (.int .u64 (bH o).ch))
      obtain ⟨w5, hw5⟩ : ∃ w5, (((wa.setCell ⟨z, 0, none⟩ (.int .u64 (bH o).st)).setCell ⟨z, 1, none⟩ (.int .u8 (bH o).ar)).setCell ⟨z, 2, none⟩ (.int .u64 (bH o).ba)).setCell ⟨z, 3, none⟩ (.int .u64 (bH o).ch) = w5 := ⟨_, rfl⟩
      rw [hw5] at st sbb
      have dq : decide ((0 : Int) ≤ bA o) = o.isSome := by cases o <;> simp [bA]
      have r0 := st.out.cell 0
      have r1 := st.out.cell 1
      have r2 := st.out.cell 2
      have r3 := st.out.cell 3
      go_wp2
      refine bodyPost_ret (v := nwR o) (by simp [results, Try.results34, go_sem, r0, r1, r2, r3, nwR]; try rfl) rfl ?_
      exact ⟨by rw [← HO2.out], sbb.out⟩
end Go.Proofs.Yteggcehjpfmikaa.Wal
namespace Go.Proofs.Yteggcehjpfmikaa.Wal
open Go.ChangeShapes Go.WideShapes Go.ChangeAt Go.RowKit Go.IntWalk Go.Proofs.Mem Go.Proofs.Each Law Go.Proofs.Yteggcehjpfmikaa.Disk Strip
set_option linter.unusedVariables false
set_option linter.unusedSimpArgs false
def secs (D : Dv) (a n : Nat) : List (List Int) := (List.range n).map fun i => D.rd 0 ((a + i : Nat) : Int)
theorem secs_succ (D : Dv) (a n : Nat) : secs D a (n + 1) = secs D a n ++ [D.rd 0 ((a + n : Nat) : Int)] := by unfold secs; rw [List.range_succ, List.map_append]; rfl
theorem secs_len (D : Dv) (a n : Nat) : (secs D a n).length = n := by simp [secs]
theorem ds_row {w : World} {S : Nat → Prop} {g : Nat} {fv : Nat → Value} {D : Dv} (h : DX w S g fv D) (hw : D.Few 100000) (N : Int) (hN : D.has 0 N) :
    Calls Try.prog 53 #[.pointer (some ⟨g, 0, none⟩), .int .u8 0, .int .i64 N] w fun e w' => ∃ u, e = .returned (.tuple #[u, .int .u16 0]) ∧ w'.ownsRow w.heap.size 5 1 u 128 ((D.rd 0 N).map (.int .u8)) ∧ (D.rd 0 N).length = 128 ∧ Bytes (D.rd 0 N) ∧ Below w.heap.size w w' := by
  obtain ⟨col, uv, h⟩ := h
  obtain ⟨hi2, n, rfl, hs, hm⟩ := has_at hN
  have e : D.rd 0 (n : Int) = ((D.f 0).getD ((n : Int)).toNat zSe).cur := if_pos hN
  rw [e]
  have hby := cur_bytes h hi2 hs
  have hcl : ((D.f 0).getD ((n : Int)).toNat zSe).cur.length = 128 := by
    obtain ⟨g, cap, C, p, s', sp⟩ := (h.file 0 hi2).spot n (List.getElem?_eq_some_iff.1 hs).1
    have e : s' = (D.f 0).getD ((n : Int)).toNat zSe := by have := sp.hs; rw [hs] at this; injection this with this; exact this.symm
    rw [← e]; exact Se.cur_len sp.sec.len sp.sec.lens
  refine (read_yes h 0 hi2 n _ hs (hw 0 hi2 _ hm) n rfl).mono ?_
  rintro e w' ⟨u, rfl, hu, hb⟩
  exact ⟨u, rfl, hu, hcl, hby, hb⟩
theorem area_has {D : Dv} {a k : Nat} (ha : a ≤ 1) (hk : k < Wal.sz D) : D.has 0 ((fst D a + k : Nat) : Int) := by
  refine ⟨by decide, by omega, ?_⟩
  unfold fst
  unfold Wal.sz at *
  rcases (show a = 0 ∨ a = 1 by omega) with rfl | rfl <;> omega
set_option maxRecDepth 100000 in
set_option maxHeartbeats 8000000 in
theorem sectors_any {w : World} {S : Nat → Prop} {g t : Nat} {fv : Nat → Value} {D : Dv} {H : Hh} {se la : Int} {sv tv : Value} (h : DX w S g fv D) (hw : D.Few 100000) (X : Box w t (lgC g H se sv tv la) 89) (hl : 18 ≤ (D.f 0).length) (hs7 : Wal.sz D ≤ 700) (a : Nat) (ha : H.ar = a) (ha2 : a ≤ 1) :
    Calls Try.prog 37 #[.pointer (some ⟨t, 0, none⟩)] w fun e w' => ∃ v vs, e = .returned v ∧ SR w' w'.heap.size v vs ∧ vs.map (·.2) = secs D (fst D a) (Wal.sz D) ∧ Below w.heap.size w w' := by
  have CS := Lib.hid (size_dx h (by omega))
  have HD := Lib.hid h
  have HX := Lib.hid X
  have HW := Lib.hid hw
  have HA := Lib.hid (show H.ar = a ∧ a ≤ 1 from ⟨ha, ha2⟩)
  have HL := Lib.hid (show 2 ≤ (D.f 0).length by omega)
  have hlen := h.lens 0 (by decide)
  have HHAS := Lib.hid (fun k (hk : k < Wal.sz D) => area_has ha2 hk)
  have bF : fst D a ≤ 5000 := by unfold fst; unfold Wal.sz at *; rcases (show a = 0 ∨ a = 1 by omega) with rfl | rfl <;> omega
  obtain ⟨q, hq⟩ : ∃ q, Wal.sz D = q := ⟨_, rfl⟩
  obtain ⟨F, hF⟩ : ∃ F, fst D a = F := ⟨_, rfl⟩
  rw [hq] at CS HHAS hs7 ⊢
  rw [hF] at HHAS bF ⊢
  have HF := Lib.hid hF
  obtain ⟨j0, hj0, hy0, hy1, hy2⟩ := info_parts bs_info
  have k0 : w.cell? ⟨t, 0, none⟩ = some (.pointer (some ⟨g, 0, none⟩)) := X.cell 0
  clear h X hw ha ha2 hl hlen hq hF
  go_enter Try.func37, Try.ntmps37
  go_wp2_with fail
  (with_reducible refine (CS.out).mono ?_)
  rintro e w1 ⟨rfl, rfl⟩
  clear k0
  go_wp2
  go_loopw [3, 12] (fun o i wr => ∃ (k : Nat) (l : List Rw), i = .int .i64 k ∧ k ≤ q ∧ Hid (l.length = k ∧ Tab 5 48 wr w.heap.size wr.heap.size o l ∧ l.map (·.2.2) = secs D F k ∧ ∀ p ∈ l, Bytes p.2.2) ∧ Hid (Below w.heap.size w wr)) (fun _ i _ => q - (intOf i).toNat)
  case atStart => exact ⟨0, [], rfl, Nat.zero_le _, Lib.hid ⟨rfl, Tab.nil _ _ _, rfl, fun p hp => by cases hp⟩, Lib.hid (Below.refl _ _)⟩
  case round =>
    obtain ⟨k, l, rfl, hk, HT, HB⟩ := hrel
    obtain ⟨wa, rfl⟩ : ∃ wa, wa = wr := ⟨wr, rfl⟩
    have HDa := Lib.hid (HD.out.later HB.out)
    have HXa := Lib.hid (HX.out.later HB.out)
    by_cases hlt : k < q
    · have d1 : decide ((k : Int) < (q : Int)) = true := decide_eq_true (by omega)
      have d1' : decide (k < q) = true := decide_eq_true hlt
      have p1 : IntKind.i64.wrap ((F : Int) + (k : Int)) = (F : Int) + (k : Int) := IntWalk.i64_in _ (by omega)
      have p3 : IntKind.i64.wrap ((k : Int) + 1) = (k : Int) + 1 := IntWalk.i64_in _ (by omega)
      have hHas := HHAS.out k hlt
      rw [show ((F + k : Nat) : Int) = (F : Int) + (k : Int) by omega] at hHas
      have CF := Lib.hid (fun W (hb : Below wa.heap.size wa W) => by
        have := flush_first (HDa.out.later hb) (HXa.out.later hb) HL.out a HA.out.1 HA.out.2
        rw [HF.out] at this
        exact this)
      have CR := Lib.hid (fun W (hb : Below wa.heap.size wa W) => ds_row (HDa.out.later hb) HW.out ((F : Int) + (k : Int)) hHas)
      have SK := Lib.hid (show ∀ W, Below wa.heap.size wa W → W.cell? ⟨t, 0, none⟩ = some (.pointer (some ⟨g, 0, none⟩)) from fun W hb => (HXa.out.later hb).cell 0)
      have HDW := Lib.hid (show Below wa.heap.size wa wa.drew from (Below.refl _ _).drew)
      clear hHas
      go_wp2_with fail
      have K0 := Lib.hid (SK.out _ HDW.out)
      go_region_held3 (fun W => W.cell? ⟨t, 0, none⟩ = some (.pointer (some ⟨g, 0, none⟩)))
        (first | exact K0.out | exact K1.out | exact K2.out)
        (first
        | (go_at_call 40
           (with_reducible refine (CF.out _ HDW.out).mono ?_)
           rintro er w3 ⟨rfl, hb⟩
           have HB3 := Lib.hid (HDW.out.trans hb)
           have K1 := Lib.hid (SK.out _ HB3.out)
           clear hb)
        | (go_at_call 53
           (with_reducible refine (CR.out _ HB3.out).mono ?_)
           rintro er w4 ⟨u, rfl, hu, hul, hub, hb4⟩
           have HU := Lib.hid (own_lower hu HB3.out.size)
           have HUL := Lib.hid (And.intro hul hub)
           have HB4 := Lib.hid (HB3.out.trans (hb4.mono HB3.out.size))
           have K2 := Lib.hid (SK.out _ HB4.out)
           clear hu hul hub hb4))
      obtain ⟨g4, row4, hg4, hl4⟩ := RowAt.of_own (by rw [HUL.out.1]; exact HU.out) (by rw [HUL.out.1]; decide)
      obtain ⟨cap4, e4⟩ := row4.form
      rw [HUL.out.1] at e4
      subst e4
      have ROW4 := Lib.hid row4
      have G4 := Lib.hid (And.intro hg4 hl4)
      have HLL := Lib.hid HT.out.1
      have TAB4 := Lib.hid (HT.out.2.1.below HB4.out)
      have HO := Lib.hid HT.out.2.2.1
      have HBS := Lib.hid HT.out.2.2.2
      have HS2 := Lib.hid HB.out.size
      clear row4 hg4 hl4
      go_wp2_with (at_builtin; refine wpList_append_own _ rfl _ _ _ rfl w.heap.size 48 j0 (.slice none 0 0) 1 24 Try.underlying76 hj0 hy0 hy1 hy2 rfl (by decide) _ l.length (l.map (·.2.1)) rfl (TAB4.out.outer.alloc _) ⟨w4.heap.size, 0, none⟩ 1 1 [_] rfl rfl (cell_one_new _ _ _) (by simp [Value.oneCell']) (by have := HLL.out; unfold maxLen; omega) (by have := HLL.out; omega) (by have := HB4.out.size; have := HS2.out; simp; omega) ?_; intro v5 w5 hown5 hg5 _; have OWN5 := Lib.hid hown5; have HG5 := Lib.hid hg5; clear hown5 hg5)
      have z54 : w4.heap.size < w5.heap.size := by have := HG5.out.size; simp at this; omega
      have T5 := Tab.push (TAB4.out.later (B := w4.alloc _) (new_ (Below.refl _ _) _)) (by decide) ((row_low ROW4.out (base' := wa.heap.size) (by simp)).sc (Sc.of_below (new_ (Below.refl _ _) _))) HS2.out (by have := G4.out; omega) OWN5.out HG5.out (by have := HB4.out.size; omega)
      have LS5 := Lib.hid (show (l ++ [(g4, Value.slice (some ⟨g4, 0, none⟩) 128 cap4, D.rd 0 ((F : Int) + (k : Int)))]).map (·.2.2) = secs D F (k + 1) by
        rw [List.map_append, HO.out, secs_succ, show ((F + k : Nat) : Int) = (F : Int) + (k : Int) by omega]; rfl)
      have TT := Lib.hid T5
      have HLN := Lib.hid (show (l ++ [(g4, Value.slice (some ⟨g4, 0, none⟩) 128 cap4, D.rd 0 ((F : Int) + (k : Int)))]).length = k + 1 by rw [List.length_append, HLL.out]; rfl)
      have HB5 := Lib.hid (below_row (HB.out.trans ((HB4.out.mono HS2.out).trans ((Below.refl w.heap.size w4).alloc (by have := HB4.out.size; have := HS2.out; omega) _))) (TAB4.out.outer.alloc _) HG5.out (Nat.le_refl _) (by have := HB4.out.size; have := HS2.out; simp; omega))
      have BY5 := Lib.hid (show ∀ p ∈ l ++ [(g4, Value.slice (some ⟨g4, 0, none⟩) 128 cap4, D.rd 0 ((F : Int) + (k : Int)))], Bytes p.2.2 from fun p hp => by
        rcases List.mem_append.1 hp with hp | hp
        · exact HBS.out p hp
        · rw [List.mem_singleton.1 hp]; exact HUL.out.2)
      clear z54 T5
      go_wp2
      go_roundw
      case rel => exact ⟨k + 1, _, by go_num, by omega, Lib.hid ⟨HLN.out, TT.out, LS5.out, BY5.out⟩, HB5⟩
      case measure => simp [intOf]; omega
    · have d1 : decide ((k : Int) < (q : Int)) = false := decide_eq_false (by omega)
      have d1' : decide (k < q) = false := decide_eq_false hlt
      have hkq : k = q := by omega
      have TT := Lib.hid (show SR wa wa.heap.size u3 (l.map (·.2)) from HT.out.2.1.sr HT.out.2.2.2)
      have LS := Lib.hid (show (l.map (·.2)).map (·.2) = secs D F q by rw [← hkq, ← HT.out.2.2.1, List.map_map]; rfl)
      clear HT hkq
      go_wp2
      go_ret
      exact ⟨u3, l.map (·.2), rfl, TT.out, LS.out, HB.out⟩
end Go.Proofs.Yteggcehjpfmikaa.Wal
namespace Go.Proofs.Mem
open Go.RowKit Go.WideShapes Go.ChangeShapes Go.Deep
set_option linter.unusedVariables false
section
variable {H : Type} {enc : TypeId × Value → H} {P : Program} {w : World}
theorem inner_SS {α : Type} (F : α → List Value) (Q : α → Prop) {t e : TypeId} {sz n : Nat} {c0 : Value} {y : DataW H × List MemPlace} (ht : P.underlying t = some (.slice e)) (hC : P.cellsOf e = sz) (hsz : 0 < sz)
    (hel : ∀ (cs : List Value) n y, cs.length = sz → DataW.trod enc P w 0 (fun _ => true) true n e cs = some y → ∃ x, cs = F x ∧ Q x)
    (hf : DataW.trod enc P w 0 (fun _ => true) true n t [c0] = some y) : ∃ xs : List α, SS F sz w w.heap.size c0 xs ∧ ∀ x ∈ xs, Q x := by
  rcases open_slice ht hf with ⟨hcs, _⟩ | ⟨x, len, c, m, n, D, Pl, hcs, _, hl, hm, hmm, _, hi⟩
  · simp at hcs
    subst hcs
    exact ⟨[], SS.nil _ _, fun n hn => by cases hn⟩
  · simp at hcs
    subst hcs
    simp at hmm
    subst hmm
    have each : ∀ i : Fin len, ∃ y : α, (F y).length = sz ∧ Q y ∧ ∀ j, j < sz → w.cell? ((x.add (i.1 * sz)).add j) = (F y)[j]? := fun i => by
      obtain ⟨cs', hc, ht'⟩ := hi i.1 (by have := i.2; omega)
      rw [hC] at hc
      obtain ⟨_, hlen, hat⟩ := World.cells?_some hc
      obtain ⟨y, rfl, hq⟩ := hel cs' _ _ hlen ht'
      exact ⟨y, hlen, hq, hat⟩
    obtain ⟨f, hf⟩ := Classical.skolem.1 each
    refine ⟨List.ofFn f, ⟨some x, _, by rw [List.length_ofFn], by rw [List.length_ofFn]; exact hl, hm, fun i y hy => ?_⟩, fun y hy => ?_⟩
    · have hil : i < len := by
        have := (List.getElem?_eq_some_iff.1 hy).1
        rwa [List.length_ofFn] at this
      obtain ⟨b, off, spot⟩ := x
      have hs : spot = none := by
        obtain ⟨h1, _, h3⟩ := hf ⟨0, by omega⟩
        have h4 := h3 0 hsz
        rw [List.getElem?_eq_getElem (by omega)] at h4
        simpa [Addr.add] using World.cell?_spot h4
      subst hs
      obtain ⟨h1, _, h3⟩ := hf ⟨i, hil⟩
      rw [List.getElem?_ofFn] at hy
      simp [hil] at hy
      have hcell : ∀ j u, (F y)[j]? = some u → w.cell? ⟨b, off + i * sz + j, none⟩ = some u := fun j u hu => by
        rw [hy] at h1 h3
        have hj : j < sz := by rw [← h1]; exact (List.getElem?_eq_some_iff.1 hu).1
        have h4 := h3 j hj
        rw [Go.WideShapes.add_plain, Go.WideShapes.add_plain] at h4
        exact h4.trans hu
      refine ⟨b, off, rfl, ?_, hcell⟩
      have h5 := hcell 0 ((F y)[0]'(by rw [hy] at h1; omega)) (List.getElem?_eq_getElem _)
      rcases Nat.lt_or_ge b w.heap.size with h6 | h6
      · exact h6
      · unfold World.cell? at h5
        simp [Array.getElem?_eq_none h6] at h5
    · obtain ⟨i, rfl⟩ := (List.mem_ofFn (f := f)).1 hy
      exact (hf i).2.1
theorem one_int' {base : Nat} {spare : Nat → Bool} {held : Bool} {k : IntKind} {t : TypeId} {n : Nat} {c : Value} {o : Option (DataW H × List MemPlace)} (ht : P.underlying t = some (.int k)) (h : DataW.trod enc P w base spare held n t [c] = o) (ho : o.isSome = true) : ∃ x, c = .int k x ∧ (Lit.int k x).wf = true := by
  cases o with
  | none => cases ho
  | some y =>
    obtain ⟨x, e, _, hw⟩ := DataW.trod_int ht h
    injection e with e _
    exact ⟨x, e, hw⟩
theorem one_bool' {base : Nat} {spare : Nat → Bool} {held : Bool} {t : TypeId} {n : Nat} {c : Value} {o : Option (DataW H × List MemPlace)} (ht : P.underlying t = some .bool) (h : DataW.trod enc P w base spare held n t [c] = o) (ho : o.isSome = true) : ∃ x, c = .bool x := by
  cases o with
  | none => cases ho
  | some y =>
    obtain ⟨x, e, _⟩ := DataW.trod_bool ht h
    injection e with e _
    exact ⟨x, e⟩
theorem some_at' {α : Type} {l : List α} {i : Nat} (h : i < l.length) : (l[i]?).isSome = true := by simp [h]
end
end Go.Proofs.Mem
namespace Go.Proofs.Yteggcehjpfmikaa.Rec
open Go.ChangeShapes Go.WideShapes Go.ChangeAt Go.RowKit Go.IntWalk Go.Proofs.NumMath Go.Proofs.Mem NumBytes Law
set_option linter.unusedVariables false
set_option maxRecDepth 100000
theorem c8 : Try.prog.cellsOf 5 = 1 := by kernel_rfl
theorem c16 : Try.prog.cellsOf 38 = 1 := by kernel_rfl
theorem c32 : Try.prog.cellsOf 47 = 1 := by kernel_rfl
theorem c64 : Try.prog.cellsOf 30 = 1 := by kernel_rfl
theorem cb : Try.prog.cellsOf 4 = 1 := by kernel_rfl
theorem csl : Try.prog.cellsOf 48 = 1 := by kernel_rfl
theorem csa : Try.prog.cellsOf 51 = 1 := by kernel_rfl
theorem csd : Try.prog.cellsOf 52 = 1 := by kernel_rfl
theorem cAc_ : Try.prog.cellsOf 101 = 4 := by kernel_rfl
theorem cDt_ : Try.prog.cellsOf 103 = 2 := by kernel_rfl
theorem cCg : Try.prog.cellsOf 50 = 6 := by kernel_rfl
section
variable {H : Type} {enc : TypeId × Value → H} {W : World}
theorem some_eq {α : Type} {o : Option α} (h : o.isSome = true) : ∃ y, o = some y := by cases o with | none => cases h | some y => exact ⟨y, rfl⟩
theorem open_cells {n : Nat} {a0 a1 a2 a3 a4 a5 : Value} {y : DataW H × List MemPlace} (hf : DataW.trod enc Try.prog W 0 (fun _ => true) true n 50 [a0, a1, a2, a3, a4, a5] = some y) :
    ∃ (c : Cg) (a b : Value), a0 = .int .u32 c.pg ∧ a1 = .int .u16 c.sl ∧ a2 = .bool c.had ∧ a3 = .bool c.has ∧ a4 = a ∧ a5 = b ∧ c.Ok ∧ IR W W.heap.size .u8 a c.xs ∧ IR W W.heap.size .u8 b c.ys := by
  obtain ⟨xs, m, _, _, _, hl, hg⟩ := DataW.trod_struct Try.underlying50 hf
  have h0 := hg 0 _ rfl
  have h1 := hg 1 _ rfl
  have h2 := hg 2 _ rfl
  have h3 := hg 3 _ rfl
  have h4 := hg 4 _ rfl
  have h5 := hg 5 _ rfl
  simp [c16, c32, cb, csl] at h0 h1 h2 h3 h4 h5 hl
  obtain ⟨x0, rfl, w0⟩ := one_int' Try.underlying47 h0 (some_at' (by omega))
  obtain ⟨x1, rfl, w1⟩ := one_int' Try.underlying38 h1 (some_at' (by omega))
  obtain ⟨x2, rfl⟩ := one_bool' Try.underlying4 h2 (some_at' (by omega))
  obtain ⟨x3, rfl⟩ := one_bool' Try.underlying4 h3 (some_at' (by omega))
  obtain ⟨y4, e4⟩ := some_eq (some_at' (l := xs) (i := 4) (by omega))
  obtain ⟨y5, e5⟩ := some_eq (some_at' (l := xs) (i := 5) (by omega))
  obtain ⟨zs, i4, b4⟩ := SrOpen.inner (h4.trans e4)
  obtain ⟨us, i5, b5⟩ := SrOpen.inner (h5.trans e5)
  exact ⟨⟨x0, x1, x2, x3, zs, us⟩, _, _, rfl, rfl, rfl, rfl, rfl, rfl, ⟨bounds_u32 w0, bounds_u16 w1, b4, b5⟩, i4, i5⟩
theorem ac_of {n : Nat} {cs : List Value} {y : DataW H × List MemPlace} (hl : cs.length = 4) (hf : DataW.trod enc Try.prog W 0 (fun _ => true) true n 101 cs = some y) : ∃ x, cs = cAc x ∧ x.Ok := by
  match cs, hl with
  | [a0, a1, a2, a3], _ =>
    obtain ⟨xs, m, _, _, _, hl, hg⟩ := DataW.trod_struct Try.underlying101 hf
    have h0 := hg 0 _ rfl
    have h1 := hg 1 _ rfl
    have h2 := hg 2 _ rfl
    have h3 := hg 3 _ rfl
    simp [c8, c32, c64] at h0 h1 h2 h3 hl
    obtain ⟨x0, rfl, w0⟩ := one_int' Try.underlying47 h0 (some_at' (by omega))
    obtain ⟨x1, rfl, w1⟩ := one_int' Try.underlying30 h1 (some_at' (by omega))
    obtain ⟨x2, rfl, w2⟩ := one_int' Try.underlying30 h2 (some_at' (by omega))
    obtain ⟨x3, rfl, w3⟩ := one_int' Try.underlying5 h3 (some_at' (by omega))
    exact ⟨⟨x0, x1, x2, x3⟩, rfl, bounds_u32 w0, bounds_u64 w1, bounds_u64 w2, bounds_u8 w3⟩
theorem dt_of {n : Nat} {cs : List Value} {y : DataW H × List MemPlace} (hl : cs.length = 2) (hf : DataW.trod enc Try.prog W 0 (fun _ => true) true n 103 cs = some y) : ∃ x, cs = cDt x ∧ x.Ok := by
  match cs, hl with
  | [a0, a1], _ =>
    obtain ⟨xs, m, _, _, _, hl, hg⟩ := DataW.trod_struct Try.underlying103 hf
    have h0 := hg 0 _ rfl
    have h1 := hg 1 _ rfl
    simp [c32, c64] at h0 h1 hl
    obtain ⟨x0, rfl, w0⟩ := one_int' Try.underlying47 h0 (some_at' (by omega))
    obtain ⟨x1, rfl, w1⟩ := one_int' Try.underlying30 h1 (some_at' (by omega))
    exact ⟨⟨x0, x1⟩, rfl, bounds_u32 w0, bounds_u64 w1⟩
end
end Go.Proofs.Yteggcehjpfmikaa.Rec
namespace Go.Proofs.Mem
open Go.RowKit Go.WideShapes
set_option linter.unusedVariables false
section
variable {α : Type} {F : α → List Value} {sz : Nat}
theorem SS.take {w : World} {B : Nat} {A : Option Addr} {n c : Nat} {xs : List α} (h : SS F sz w B (.slice A n c) xs) (k : Nat) (hk : k ≤ xs.length) : SS F sz w B (.slice A k c) (xs.take k) := by
  obtain ⟨A', c', e, h1, h2, h3⟩ := h
  injection e with e1 e2 e3
  subst e1 e3
  refine ⟨A, c, by rw [List.length_take, Nat.min_eq_left hk], by rw [List.length_take]; omega, h2, fun i x hx => ?_⟩
  rw [List.getElem?_take] at hx
  split at hx
  · exact h3 i x hx
  · cases hx
theorem wpList_append_ss {P : Program} (w : World) {ops : Array Oper} {rest : List Oper} {o : Oper} {a : Act} {Q : Exit → Act → World → Prop} (hgd : o.guard = none) (s x : Operand) (t : TypeId)
    (ho : o.op = .call { callee := .builtin .append, args := #[s, x], argTypes := #[t, t] })
    (base : Nat) (e : TypeId) (i : TypeInfo) (z : Value) (bytes : Nat) (ht : P.underlying t = some (.slice e)) (hi : P.info? e = some i) (hz : i.zero = some z)
    (hsize : i.size = sz) (hby : i.bytes = bytes) (hzs : z.cells.size = sz) (hsz : 0 < sz) (hF : ∀ y, (F y).length = sz) (h1 : ∀ y : α, ∀ u ∈ F y, u.oneCell' = true)
    (v : Value) (xs : List α) (hs : a.eval s = v) (hown : w.ownsRow base e sz v xs.length (xs.flatMap F))
    (B : Nat) (u : Value) (ys : List α) (hx : a.eval x = u) (hr : SS F sz w B u ys) (h63 : xs.length + ys.length ≤ maxLen) (hbytes : (xs.length + ys.length) * bytes ≤ 140737488355328) (hbase : base ≤ w.heap.size)
    (h : ∀ v' w', w'.ownsRow base e sz v' (xs ++ ys).length ((xs ++ ys).flatMap F) → RowTo w w' v v' → wpList P ops Q rest (a.put o.dst v') w') : wpList P ops Q (o :: rest) a w := by
  refine wpList_plain hgd fun K hK' => ?_
  obtain ⟨A, c, rfl, hc1, hc2, hat⟩ := hr
  cases A with
  | none =>
    obtain rfl : ys = [] := by
      cases ys with
      | nil => rfl
      | cons y0 ys =>
        obtain ⟨_, _, e', _⟩ := hat 0 y0 rfl
        cases e'
    have hrun : (Builtin.append_ #[t, t] o.type #[v, .slice none 0 c]).run P w = .ok v w := by
      rcases hown.2 with ⟨rfl, hn⟩ | ⟨g, cap, cur, rfl, _, _, hnc, _⟩
      · simp [Builtin.append_, run_underlying ht, sizeOf, typeInfo, hi, Builtin.lenOf, Builtin.firstCells]
      · simp [Builtin.append_, run_underlying ht, sizeOf, typeInfo, hi, Builtin.lenOf, Builtin.firstCells, hnc, storeCells]
    unfold Oper.wp
    simp [execOp, ho, resolve, invoke, builtin, hs, hx, hrun, Result.andThen]
    exact hK' _ _ (h v w (by simpa using hown) (RowTo.refl _ _))
  | some ad =>
    obtain ⟨v', w', hrun, h2, h3, _, h5⟩ := run_append_own_at (P := P) (w := w) base t o.type e i z sz bytes ht hi hz hsize hby hzs hsz v xs.length _ hown ad ys.length c (ys.flatMap F) (flat_len hF _) (by
      intro j u' hj
      have hjl : j < ys.length * sz := by
        rw [← flat_len hF]
        exact (List.getElem?_eq_some_iff.1 hj).1
      have hi : j / sz < ys.length := Nat.div_lt_of_lt_mul (by rw [Nat.mul_comm]; exact hjl)
      have hyi := List.getElem?_eq_getElem hi
      obtain ⟨b', off', e', _, hc⟩ := hat _ _ hyi
      injection e' with e'
      subst e'
      have hjj : j / sz * sz + j % sz = j := Nat.div_add_mod' j sz
      rw [← hjj, flat_at hF _ _ _ _ hyi (Nat.mod_lt _ hsz)] at hj
      rw [Go.WideShapes.add_plain, ← hc _ _ hj]
      congr 2
      omega) (fun u' hu => by
      obtain ⟨y, _, hy⟩ := List.mem_flatMap.1 hu
      exact h1 y u' hy) h63 hbytes hbase
    unfold Oper.wp
    simp [execOp, ho, resolve, invoke, builtin, hs, hx, hrun, Result.andThen]
    exact hK' _ _ (h v' w' (by rw [List.length_append, List.flatMap_append]; exact h2) (RowTo.app h3 h5))
end
end Go.Proofs.Mem
