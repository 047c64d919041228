/- The law manciplelaw13.LockWakes returns true whatever it is called with, and what it was called with reads as it did. No condition. -/
import Derived.Test.YtpndcpmfcajmdaaLaw
import Derived.Test.YtpndcpmfcajmdaaLkV
import Derived.Deep.DeepCutAuto
import Derived.Deep.QuietTactic
namespace Go.Proofs.Ytpndcpmfcajmdaa.LLockWakes
open Go.ChangeShapes Go.WideShapes Go.ChangeAt Go.RowKit Go.IntWalk Go.Proofs.Mem Law
set_option linter.unusedVariables false
open Go.Proofs.Ytpndcpmfcajmdaa.Lock Go.Proofs.Each
set_option maxRecDepth 100000 in
set_option maxHeartbeats 16000000 in
theorem walk (w : World) (l : Value) (xl : List Lock.Lo) (hl : SS Lock.cLo 6 w w.heap.size l xl) (bl : ∀ o ∈ xl, Lock.Lo.Ok o) (txn : Int) (htxn : 0 ≤ txn ∧ txn ≤ 4294967295) :
    Calls Try.prog 6 #[l, .int .u32 txn] w fun e w' => e = .returned (.bool true) ∧ Below w.heap.size w w' := by
  obtain ⟨A, c, rfl, hlc, hcm⟩ := hl.form
  have HL := Lib.hid hl
  have BL := Lib.hid bl
  have KN := Lib.hid (fun W => known_any W)
  have HTX := Lib.hid (show U32 txn from htxn)
  obtain ⟨x2, hx2⟩ : ∃ x, w.heap.size = x := ⟨_, rfl⟩
  have HX2 := Lib.hid hx2
  clear hl bl htxn
  by_cases hlen : 40 < xl.length
  · have d1 : decide (40 < (xl.length : Int)) = true := decide_eq_true (by omega)
    have d1' : decide (40 < xl.length) = true := decide_eq_true hlen
    go_enter Try.func6, Try.ntmps6
    go_wp2_with fail
    (with_reducible refine (KN.out _).mono ?_)
    rintro e w2 ⟨rfl, hb2⟩
    go_wp2
    go_ret
    exact ⟨rfl, hb2⟩
  · have d1 : decide (40 < (xl.length : Int)) = false := decide_eq_false (by omega)
    have d1' : decide (40 < xl.length) = false := decide_eq_false hlen
    have hl40 : xl.length ≤ 60 := by omega
    have HN := Lib.hid hl40
    have CRN := Lib.hid (fun (W : World) (h : SS Lock.cLo 6 W W.heap.size (.slice A xl.length c) xl) => run_any W _ xl h BL.out HN.out)
    clear hlc hcm hlen hl40
    go_enter Try.func6, Try.ntmps6
    go_wp2_with fail
    (with_reducible refine (KN.out _).mono ?_)
    rintro e w2 ⟨rfl, hb2⟩
    have HB2 := Lib.hid hb2
    have HSW := Lib.hid (show SS Lock.cLo 6 w2 w2.heap.size (.slice A xl.length c) xl from (HL.out.below hb2).more hb2.size)
    clear hb2
    go_wp2_with fail
    (with_reducible refine (CRN.out _ HSW.out).mono ?_)
    rintro e w3 ⟨t, V, T, S, rfl, hp3, hb3, hz3⟩
    obtain ⟨Nb, hNb, htb⟩ := hp3.tab
    have HI := Lib.hid (inv_run hp3.run)
    have HRUN := Lib.hid hp3.run
    have HT := Lib.hid htb
    have HSO := Lib.hid (show ∀ x, S x → x < w3.heap.size from htb.old)
    have HWI := Lib.hid (IR.of_own hp3.who)
    have HWN := Lib.hid hp3.who
    obtain ⟨A3, c3, rfl, _, _⟩ := own_is hp3.who
    have HFR := Lib.hid hp3.far
    have HB3 := Lib.hid (show Below w.heap.size w w3 from HB2.out.trans (hb3.mono HB2.out.size))
    have HBS := Lib.hid (show ∀ x, S x → w.heap.size ≤ x from fun x hx => Nat.le_trans HB2.out.size (hp3.base x hx))
    have HNB := Lib.hid (show Nb ≤ 6000 ∧ (whoOf xl).length ≤ 60 from ⟨by have := HN.out; omega, by have := who_len xl; have := HN.out; omega⟩)
    obtain ⟨n, hn⟩ : ∃ n, (whoOf xl).length = n := ⟨_, rfl⟩
    have HNW := Lib.hid hn
    rw [hn] at HWI HWN HFR ⊢
    have bn : (n : Int) ≤ 60 := by have := HNB.out.2; omega
    have HWO := Lib.hid (who_ok BL.out)
    have CW := Lib.hid (fun (W : World) (x : Int) (hW : Below w3.heap.size w3 W) (hx : U32 x) => waits_any W S Nb xl.length t T x (HT.out.later hW) hx)
    obtain ⟨j0, hj0, hj1, hj2, hj3⟩ := info_parts hd_info
    clear hp3 hb3 hz3 hNb htb hn CRN HSW KN d1 d1'
    go_wp2
    go_loopw [7, 8, 9, 10] (fun s7 s8 _ _ wr => ∃ (i : Nat) (A : Option Addr) (n7 c7 : Nat), s7 = .slice A n7 c7 ∧ s8 = .int .i64 i ∧ i ≤ n ∧ Hid (n7 = i) ∧ Hid (wr.ownsRow w3.heap.size 45 4 (.slice A n7 c7) (((whoOf xl).take i).map (whd T)).length ((((whoOf xl).take i).map (whd T)).flatMap cHd)) ∧ Hid (Below w3.heap.size w3 wr)) (fun _ s8 _ _ _ => n - (intOf s8).toNat)
    case atStart => exact ⟨0, none, 0, 0, rfl, rfl, Nat.zero_le _, Lib.hid rfl, Lib.hid (World.ownsRow_nil _ _ _ _), Lib.hid (Below.refl _ _)⟩
    case round =>
      obtain ⟨i, A7, n7, c7, rfl, rfl, hi, HN7, HO, HB⟩ := hrel
      obtain ⟨w4, rfl⟩ : ∃ w4, w4 = wr := ⟨wr, rfl⟩
      by_cases hil : i < n
      · have d1 : decide ((i : Int) < (n : Int)) = true := by simp; omega
        have d1' : decide (i < n) = true := by simp; omega
        obtain ⟨x, hx⟩ : ∃ x, (whoOf xl)[i]? = some x := ⟨_, List.getElem?_eq_getElem (by have := HNW.out; omega)⟩
        have hxe : (whoOf xl).getD i 0 = x := by rw [List.getD, hx]; rfl
        obtain ⟨bl, ol, hA, hbl, hcell⟩ := HWI.out.index i hil
        rw [hxe] at hcell
        subst hA
        have HXU := Lib.hid (HWO.out x (List.mem_of_getElem? hx))
        have HTK := Lib.hid (show ((whoOf xl).take (i + 1)).map (whd T) = ((whoOf xl).take i).map (whd T) ++ [whd T x] by rw [List.take_add_one, hx, List.map_append]; rfl)
        have HTL := Lib.hid (show (((whoOf xl).take i).map (whd T)).length = i by rw [List.length_map, List.length_take]; have := HNW.out; omega)
        have k1 : w4.cell? ⟨bl, ol + i, none⟩ = some (.int .u32 x) := by rw [HB.out.cell (p := ⟨bl, ol + i, none⟩) hbl]; exact hcell
        have hw2 : IntKind.i64.wrap ((i : Int) + 1) = ((i + 1 : Nat) : Int) := by rw [IntKind.wrap_i64]; omega
        clear hx hxe hcell
        go_wp2_with fail
        (with_reducible refine (CW.out _ _ HB.out HXU.out).mono ?_)
        rintro e w5 ⟨rfl, hb5⟩
        obtain ⟨hd, hhd⟩ : ∃ hd, (T.wt x).getD zHd = hd := ⟨_, rfl⟩
        have HHD := Lib.hid (show whd T x = hd from hhd)
        obtain ⟨q5, hq5⟩ : ∃ q, (T.wt x).isSome = q := ⟨_, rfl⟩
        rw [hhd, hq5]
        obtain ⟨xk, xa, xb, xm⟩ := hd
        obtain ⟨r, hr⟩ : ∃ r, w5.heap.size = r := ⟨_, rfl⟩
        have hbx := Box.new w5 #[.int .u8 xk, .int .u32 xa, .int .u32 xb, .int .u8 xm] 45
        have hb6 := new_ (Below.refl w5.heap.size w5) (.cells #[.int .u8 xk, .int .u32 xa, .int .u32 xb, .int .u8 xm] 45)
        rw [hr] at hbx
        obtain ⟨w6, hw6⟩ : ∃ w6, w5.alloc (.cells #[.int .u8 xk, .int .u32 xa, .int .u32 xb, .int .u8 xm] 45) = w6 := ⟨_, rfl⟩
        rw [hw6] at hbx hb6
        have HB6 := Lib.hid (show Below w3.heap.size w3 w6 from (HB.out.trans (hb5.mono HB.out.size)).trans (hb6.mono (Nat.le_trans HB.out.size hb5.size)))
        have HO6 := Lib.hid (own_below (own_below HO.out hb5) hb6)
        have HBX := Lib.hid hbx
        have HW6 := Lib.hid hw6
        have y0 : w6.cell? ⟨r, 0, none⟩ = some (.int .u8 xk) := by rw [hbx.cell 0]; rfl
        have y1 : w6.cell? ⟨r, 1, none⟩ = some (.int .u32 xa) := by rw [hbx.cell 1]; rfl
        have y2 : w6.cell? ⟨r, 2, none⟩ = some (.int .u32 xb) := by rw [hbx.cell 2]; rfl
        have y3 : w6.cell? ⟨r, 3, none⟩ = some (.int .u8 xm) := by rw [hbx.cell 3]; rfl
        clear hb5 hb6 hbx hw6 hhd hq5 k1
        unfold Hd.v
        go_upto_region 11 with fail
        clear hr
        rw [HW6.out]
        have hn7 := HN7.out
        subst hn7
        obtain ⟨ws, hws⟩ : ∃ ws, ((whoOf xl).take n7).map (whd T) = ws := ⟨_, rfl⟩
        rw [hws] at HO6 HTK HTL
        have HZ6 := Lib.hid HB6.out.size
        go_wp2_with (at_builtin; refine wpList_push_ss (F := cHd) (sz := 4) _ rfl _ _ _ rfl w3.heap.size 45 j0 _ 16 Try.underlying41 hj0 hj1 hj2 hj3 rfl (by decide) cHd_len cHd_one _ ws rfl (own_below HO6.out (new_ (Below.refl _ _) (.cells #[.int .u8 xk, .int .u32 xa, .int .u32 xb, .int .u8 xm] 45))) w6.heap.size ⟨xk, xa, xb, xm⟩ 45 rfl (Box.new w6 _ _) (by have := HTL.out; unfold maxLen; omega) (by have := HTL.out; omega) (by have := HZ6.out; simp; omega) ?_; intro v9 w9 hown ht9)
        have tt := (RowTo.of_below (new_ (Below.refl w6.heap.size w6) (.cells #[.int .u8 xk, .int .u32 xa, .int .u32 xb, .int .u8 xm] 45)) (.slice A7 n7 c7)).trans ht9
        obtain ⟨A9, n9, c9, rfl⟩ : ∃ A n c, v9 = .slice A n c := by
          rcases hown.2 with ⟨rfl, _⟩ | ⟨g', cap, cur, rfl, _⟩
          · exact ⟨_, _, _, rfl⟩
          · exact ⟨_, _, _, rfl⟩
        have hn9 : n9 = n7 + 1 := by
          rw [← HTL.out]
          rcases hown.2 with ⟨_, e2⟩ | ⟨g', cap, cur, e1, _⟩
          · simp at e2
          · injection e1 with _ e2 _; rw [e2, List.length_append]; rfl
        have HB9 := Lib.hid (HB6.out.trans (tt.below (fun b hb => (HO6.out.lt b hb).1) HB6.out.size))
        have HO9 := Lib.hid (show w9.ownsRow w3.heap.size 45 4 (.slice A9 n9 c9) (((whoOf xl).take (n7 + 1)).map (whd T)).length ((((whoOf xl).take (n7 + 1)).map (whd T)).flatMap cHd) by rw [HTK.out, HHD.out]; exact hown)
        have HN9 := Lib.hid hn9
        clear hown ht9 tt hn9 y0 y1 y2 y3
        go_wp2
        go_roundw
        case rel => exact ⟨n7 + 1, A9, n9, c9, rfl, by go_num, by omega, HN9, HO9, HB9⟩
        case measure => simp [intOf]; omega
      · have d1 : decide ((i : Int) < (n : Int)) = false := by simp; omega
        have d1' : decide (i < n) = false := by simp; omega
        have htk : (whoOf xl).take i = whoOf xl := by rw [show i = n by omega, ← HNW.out, List.take_length]
        rw [htk] at HO
        clear htk
        have HMX := Lib.hid hi
        obtain ⟨A7', hA7'⟩ : ∃ A', A' = A7 := ⟨_, rfl⟩
        have CR := Lib.hid (release_any w4 S Nb xl.length t T txn (HT.out.later HB.out) HTX.out (by have := HNB.out.1; omega) (by have := HN.out; omega))
        have hin : i = n := by omega
        go_wp2_with fail
        (with_reducible refine (CR.out).mono ?_)
        rintro e w5 ⟨v5, ks, T', got, rfl, ho5, hr5, hw5, ht5, hf5⟩
        obtain ⟨hro, hi5⟩ := rel_out HI.out ho5 hr5
        have hgl := got_len HRUN.out hro
        have HRO := Lib.hid hro
        have HT5 := Lib.hid ht5
        have hss0 : SS cHd 4 w4 w4.heap.size (.slice A7 n7 c7) ((whoOf xl).map (whd T)) := SS.of_own cHd_len HO.out
        have HS5 := Lib.hid (show SS cHd 4 w5 w5.heap.size (.slice A7 n7 c7) ((whoOf xl).map (whd T)) from (SS.frx hss0 hf5 (Nat.le_refl _) (fun b hb hs => by have h1 := (HO.out.lt b hb).1; have h2 := HSO.out b hs; omega)).more hf5.size)
        have HW5 := Lib.hid (IR.of_own (own_frS (own_below HWN.out HB.out) hf5 HFR.out))
        have HG5 := Lib.hid (IR.of_own hw5)
        obtain ⟨A5, c5, rfl, _, _⟩ := own_is hw5
        have HB5 := Lib.hid (show Below w.heap.size w w5 from (HB3.out.trans (HB.out.mono HB3.out.size)).trans (hf5.to_below HBS.out (Nat.le_trans HB3.out.size HB.out.size)))
        obtain ⟨ng, hng⟩ : ∃ ng, got.length = ng := ⟨_, rfl⟩
        have HNG := Lib.hid hng
        rw [hng] at HG5 HT5 hgl ⊢
        have bg : (ng : Int) ≤ 60 := by have := HN.out; omega
        have hn7 := HN7.out
        rw [hn7, hin] at HS5 ⊢
        have CH := Lib.hid (tholds_any w5 S (Nb + ng) xl.length t T' txn HT5.out HTX.out (by have := HNB.out.1; omega))
        clear hro hi5 hgl ht5 hf5 hw5 hss0 hng hn7 ho5 hr5 CR CW HO HB HT HWI HWN hi d1 d1' hil hin hA7'
        go_wp2_with fail
        (with_reducible refine (CH.out).mono ?_)
        rintro e w6 ⟨v6, ks6, rfl, ho6, hr6, hb6⟩
        have hh0 := no_holds HRO.out ho6
        obtain ⟨A6, c6, rfl, _, _⟩ := (hold_ss hr6).form
        rw [hh0]
        have HB6 := Lib.hid (show Below w5.heap.size w5 w6 from hb6)
        have CW := Lib.hid (fun (W : World) (x : Int) (hW : Below w5.heap.size w5 W) (hx : U32 x) => waits_any W S (Nb + ng) xl.length t T' x (HT5.out.later hW) hx)
        have CM := Lib.hid (fun (W : World) (x : Int) (k : Ky) (hW : Below w5.heap.size w5 W) (hx : U32 x) => mode_any W S (Nb + ng) xl.length t T' x k (HT5.out.later hW) hx (by have := HNB.out.1; omega))
        clear ho6 hr6 hb6 hh0 CH
        go_wp2
        go_loopw [12, 13, 14, 15, 16, 17] (fun s12 _ _ _ _ _ wr => ∃ i : Nat, s12 = .int .i64 i ∧ i ≤ n ∧ Hid (Below w5.heap.size w5 wr)) (fun s12 _ _ _ _ _ _ => n - (intOf s12).toNat)
        case atStart => exact ⟨0, rfl, Nat.zero_le _, HB6⟩
        case round =>
          obtain ⟨i, rfl, hi, HB⟩ := hrel
          obtain ⟨w7, rfl⟩ : ∃ w7, w7 = wr := ⟨wr, rfl⟩
          clear HB6
          by_cases hil : i < n
          · have d1 : decide ((i : Int) < (n : Int)) = true := by simp; omega
            have d1' : decide (i < n) = true := by simp; omega
            obtain ⟨x, hx⟩ : ∃ x, (whoOf xl)[i]? = some x := ⟨_, List.getElem?_eq_getElem (by have := HNW.out; omega)⟩
            have hxe : (whoOf xl).getD i 0 = x := by rw [List.getD, hx]; rfl
            obtain ⟨bl, ol, hA, hbl, hcell⟩ := HW5.out.index i hil
            rw [hxe] at hcell
            subst hA
            have hwx : ((whoOf xl).map (whd T))[i]? = some (whd T x) := by rw [List.getElem?_map, hx]; rfl
            obtain ⟨bk, ok, hA7, hbk, hcw⟩ := HS5.out.at_ hwx
            subst hA7
            have HXU := Lib.hid (HWO.out x (List.mem_of_getElem? hx))
            have HXC := Lib.hid (fun (W : World) (hW : Below w5.heap.size w5 W) => (hW.cell (p := ⟨bl, ol + i, none⟩) hbl).trans hcell)
            obtain ⟨hd, hhd⟩ : ∃ hd, whd T x = hd := ⟨_, rfl⟩
            rw [hhd] at hcw
            have HHD := Lib.hid hhd
            obtain ⟨ak, aa, ab, am⟩ := hd
            have HWC := Lib.hid (fun (W : World) (hW : Below w5.heap.size w5 W) (j : Nat) (u : Value) (hj : (cHd ⟨ak, aa, ab, am⟩)[j]? = some u) => (hW.cell (p := ⟨bk, ok + i * 4 + j, none⟩) hbk).trans (hcw j u hj))
            have k1 : w7.cell? ⟨bl, ol + i, none⟩ = some (.int .u32 x) := HXC.out w7 HB.out
            have hw2 : IntKind.i64.wrap ((i : Int) + 1) = ((i + 1 : Nat) : Int) := by rw [IntKind.wrap_i64]; omega
            clear hx hxe hcell hwx hcw hhd
            go_wp2_with fail
            (with_reducible refine (CW.out _ _ HB.out HXU.out).mono ?_)
            rintro e w8 ⟨rfl, hb8⟩
            obtain ⟨hd, hhd⟩ : ∃ hd, (T'.wt x).getD zHd = hd := ⟨_, rfl⟩
            have HHX := Lib.hid (show whd T' x = hd from hhd)
            obtain ⟨q5, hq5⟩ : ∃ q, (T'.wt x).isSome = q := ⟨_, rfl⟩
            have HQ5 := Lib.hid hq5
            rw [hhd, hq5]
            obtain ⟨xk, xa, xb, xm⟩ := hd
            obtain ⟨r, hr⟩ : ∃ r, w8.heap.size = r := ⟨_, rfl⟩
            have hbx := Box.new w8 #[.int .u8 xk, .int .u32 xa, .int .u32 xb, .int .u8 xm] 45
            have hb9 := new_ (Below.refl w8.heap.size w8) (.cells #[.int .u8 xk, .int .u32 xa, .int .u32 xb, .int .u8 xm] 45)
            have hs9 : (w8.alloc (.cells #[.int .u8 xk, .int .u32 xa, .int .u32 xb, .int .u8 xm] 45)).heap.size = r + 1 := by rw [← hr]; simp
            rw [hr] at hbx
            obtain ⟨w9, hw9⟩ : ∃ w9, w8.alloc (.cells #[.int .u8 xk, .int .u32 xa, .int .u32 xb, .int .u8 xm] 45) = w9 := ⟨_, rfl⟩
            rw [hw9] at hbx hb9 hs9
            have HB9 := Lib.hid (show Below w5.heap.size w5 w9 from (HB.out.trans (hb8.mono HB.out.size)).trans (hb9.mono (Nat.le_trans HB.out.size hb8.size)))
            have HBX := Lib.hid hbx
            have HW9 := Lib.hid hw9
            clear hb8 hb9 hbx hw9 hhd hq5 k1 hs9
            unfold Hd.v
            go_upto_region 19 with fail
            clear hr
            rw [HW9.out]
            clear HW9
            go_wp2
            go_loopw [15, 16] (fun s15 s16 wr => ∃ m d : Nat, m ≤ ng ∧ s15 = .bool (decide (x ∈ got.take m)) ∧ s16 = .int .i64 m ∧ wr = w9.drewN d) (fun _ s16 _ => ng - (intOf s16).toNat)
            case atStart => exact ⟨0, 0, Nat.zero_le _, by simp, rfl, rfl⟩
            case round =>
              obtain ⟨m, d, hm, rfl, rfl, hd⟩ := hrel
              obtain ⟨wa, rfl⟩ : ∃ wa, wa = wr := ⟨wr, rfl⟩
              by_cases hml : m < ng
              · have d2 : decide ((m : Int) < (ng : Int)) = true := by simp; omega
                have d2' : decide (m < ng) = true := by simp; omega
                obtain ⟨y, hy⟩ : ∃ y, got[m]? = some y := ⟨_, List.getElem?_eq_getElem (by have := HNG.out; omega)⟩
                have hye : got.getD m 0 = y := by rw [List.getD, hy]; rfl
                obtain ⟨b8, o8, hA8, hb8, hc8⟩ := HG5.out.index m hml
                rw [hye] at hc8
                have e1 : ∀ d', (wa.drewN d').cell? ⟨bl, ol + i, none⟩ = some (.int .u32 x) := fun d' => by rw [hd]; exact HXC.out w9 HB9.out
                have e2 : ∀ d', (wa.drewN d').cell? ⟨b8, o8 + m, none⟩ = some (.int .u32 y) := fun d' => by rw [hd]; exact (HB9.out.cell (p := ⟨b8, o8 + m, none⟩) hb8).trans hc8
                have hq2 : decide (x ∈ got.take (m + 1)) = (decide (x ∈ got.take m) || decide (y = x)) := by
                  rw [List.take_add_one, hy, ← Bool.decide_or]
                  refine decide_eq_decide.2 ?_
                  rw [List.mem_append]
                  simp only [Option.toList_some, List.mem_singleton]
                  exact ⟨fun h => h.imp id (fun h => h.symm), fun h => h.imp id (fun h => h.symm)⟩
                obtain ⟨q, hq⟩ : ∃ q, decide (x ∈ got.take m) = q := ⟨_, rfl⟩
                obtain ⟨r', hr'⟩ : ∃ r', decide (y = x) = r' := ⟨_, rfl⟩
                have hyx : (y == x) = r' := by rw [← hr']; exact u32eq y x
                rw [hq, hr'] at hq2
                have HQ2 := Lib.hid hq2
                have HD := Lib.hid hd
                have hw3 : IntKind.i64.wrap ((m : Int) + 1) = ((m + 1 : Nat) : Int) := by rw [IntKind.wrap_i64]; omega
                subst hA8
                rw [hq]
                clear hq hq2 hy hye hb8 hc8 hd
                cases q with
                | true =>
                  go_upto_region 23 with fail
                  go_quiet (fail)
                  go_wp2
                  go_roundw
                  case rel => exact ⟨m + 1, d + nq, by omega, by rw [HQ2.out]; rfl, by go_num, by rw [HD.out]; simp [World.drewN, Nat.add_assoc]⟩
                  case measure => simp [intOf]; omega
                | false =>
                  go_upto_region 23 with fail
                  go_quiet (fail)
                  go_wp2
                  go_roundw
                  case rel => exact ⟨m + 1, d + nq, by omega, by rw [HQ2.out]; rfl, by go_num, by rw [HD.out]; simp [World.drewN, Nat.add_assoc]⟩
                  case measure => simp [intOf]; omega
              · have d2 : decide ((m : Int) < (ng : Int)) = false := by simp; omega
                have d2' : decide (m < ng) = false := by simp; omega
                have htk : got.take m = got := by rw [show m = ng by omega, ← HNG.out, List.take_length]
                rw [htk]
                have HBa := Lib.hid (show Below w5.heap.size w5 wa by rw [hd]; exact below_drewN HB9.out d)
                have HBXa := Lib.hid (show Box wa r #[.int .u8 xk, .int .u32 xa, .int .u32 xb, .int .u8 xm] 45 by rw [hd]; exact HBX.out.later (below_drewN (Below.refl _ _) d))
                have e1 : wa.cell? ⟨bl, ol + i, none⟩ = some (.int .u32 x) := HXC.out wa HBa.out
                clear htk hd
                by_cases hxt : x = txn
                · have n1 : (x == txn) = true := by rw [hxt]; simp
                  obtain ⟨z1, z2⟩ := rel_self HRO.out
                  rw [← hxt] at z1 z2
                  have hqf : q5 = false := by rw [← HQ5.out]; exact z1
                  subst hqf
                  rw [z2]
                  clear hxt z1 z2
                  go_wp2
                  go_roundw
                  case rel => exact ⟨i + 1, by go_num, by omega, HBa⟩
                  case measure => simp [intOf]; omega
                · have n1 : (x == txn) = false := by rw [u32eq]; exact decide_eq_false hxt
                  by_cases hxg : x ∈ got
                  · have dg : decide (x ∈ got) = true := decide_eq_true hxg
                    obtain ⟨z1, z2, z3⟩ := rel_woke HI.out HRO.out hxg
                    have hqf : q5 = false := by rw [← HQ5.out]; exact z1
                    subst hqf
                    rw [HHD.out] at z2 z3
                    rw [dg]
                    have n2 : (am == 0) = false := by rw [beq_eq_false_iff_ne]; exact z2
                    have n3 : (am != am) = false := by simp
                    have e2 : wa.cell? ⟨bk, ok + i * 4, none⟩ = some (.int .u8 ak) := HWC.out wa HBa.out 0 _ rfl
                    have e3 : wa.cell? ⟨bk, ok + i * 4 + 1, none⟩ = some (.int .u32 aa) := HWC.out wa HBa.out 1 _ rfl
                    have e4 : wa.cell? ⟨bk, ok + i * 4 + 2, none⟩ = some (.int .u32 ab) := HWC.out wa HBa.out 2 _ rfl
                    have mixed : Try.prog.follows .mixedOrders = true := by kernel_rfl
                    have CC := Lib.hid (CM.out wa.drew x ⟨ak, aa, ab⟩ (below_drewN HBa.out 1) HXU.out)
                    rw [z3] at CC
                    clear dg z1 z2 z3 hxt hxg
                    go_upto_region 30 with fail
                    go_cut [17] (fun v wx => v = .int .u8 am ∧ Hid (Below wa.heap.size wa.drew wx))
                    case first =>
                      go_region_with (go_at_call 18; (with_reducible refine CC.out.mono ?_); rintro er wb ⟨rfl, hbb⟩; have HBb := Lib.hid hbb; clear hbb)
                      all_goals (go_wp2; go_meet; exact ⟨rfl, HBb⟩)
                    case rest =>
                    obtain ⟨rfl, HBb⟩ := hcut
                    rename_i hKK
                    refine hKK _ _ ?_
                    clear hKK CC e1 e2 e3 e4
                    obtain ⟨wb, rfl⟩ : ∃ wb, wb = wc := ⟨wc, rfl⟩
                    have HBc := Lib.hid (show Below w5.heap.size w5 wb from HBa.out.drew.trans (HBb.out.mono HBa.out.size))
                    have e5 : wb.cell? ⟨bk, ok + i * 4 + 3, none⟩ = some (.int .u8 am) := HWC.out wb HBc.out 3 _ rfl
                    clear HBb HBa
                    go_wp2
                    go_roundw
                    case rel => exact ⟨i + 1, by go_num, by omega, HBc⟩
                    case measure => simp [intOf]; omega
                  · have dg : decide (x ∈ got) = false := decide_eq_false hxg
                    have z1 := rel_else HRO.out hxt hxg
                    rw [HHX.out, HHD.out] at z1
                    injection z1 with z1 z2 z3 z4
                    subst z1 z2 z3 z4
                    rw [dg]
                    have e2 : ∀ d', (wa.drewN d').cell? ⟨bk, ok + i * 4, none⟩ = some (.int .u8 xk) := fun d' => HWC.out wa HBa.out 0 _ rfl
                    have e3 : ∀ d', (wa.drewN d').cell? ⟨bk, ok + i * 4 + 1, none⟩ = some (.int .u32 xa) := fun d' => HWC.out wa HBa.out 1 _ rfl
                    have e4 : ∀ d', (wa.drewN d').cell? ⟨bk, ok + i * 4 + 2, none⟩ = some (.int .u32 xb) := fun d' => HWC.out wa HBa.out 2 _ rfl
                    have e5 : ∀ d', (wa.drewN d').cell? ⟨bk, ok + i * 4 + 3, none⟩ = some (.int .u8 xm) := fun d' => HWC.out wa HBa.out 3 _ rfl
                    have y0 : ∀ d', (wa.drewN d').cell? ⟨r, 0, none⟩ = some (.int .u8 xk) := fun d' => (HBXa.out.cell 0).trans rfl
                    have y1 : ∀ d', (wa.drewN d').cell? ⟨r, 1, none⟩ = some (.int .u32 xa) := fun d' => (HBXa.out.cell 1).trans rfl
                    have y2 : ∀ d', (wa.drewN d').cell? ⟨r, 2, none⟩ = some (.int .u32 xb) := fun d' => (HBXa.out.cell 2).trans rfl
                    have y3 : ∀ d', (wa.drewN d').cell? ⟨r, 3, none⟩ = some (.int .u8 xm) := fun d' => (HBXa.out.cell 3).trans rfl
                    clear dg hxt hxg
                    go_upto_region 24 with fail
                    go_quiet (fail)
                    have HBn := Lib.hid (below_drewN HBa.out nq)
                    clear e1 e2 e3 e4 e5 y0 y1 y2 y3
                    go_wp2
                    go_roundw
                    case rel => exact ⟨i + 1, by go_num, by omega, HBn⟩
                    case measure => simp [intOf]; omega
          · have d1 : decide ((i : Int) < (n : Int)) = false := by simp; omega
            have d1' : decide (i < n) = false := by simp; omega
            have HE := Lib.hid (show Below w.heap.size w w7 from HB5.out.trans (HB.out.mono HB5.out.size))
            go_wp2
            go_ret
            exact ⟨rfl, HE.out⟩


set_option maxRecDepth 100000 in
theorem lifted (os : Os) (started : os.Started) (H : Type) (enc : TypeId × Value → H) :
    ReturnsInHanded {} Try.checked os 6 .any (Rows.lockWakesSpec.pre6 enc Try.prog Try.f6 Rows.lockWakesRow.domain false) (Rows.lockWakesSpec.post enc Try.prog Try.f6 false true false false) := by
  refine returnsInHanded_of_change (C := Try.checked) own started (by kernel_rfl) Try.func6
    (ChangeSpec.witness6 (enc := enc) (C := Try.checked) false ⟨#[], #[.slice none 0 0, .int .u32 0], []⟩ 8 (by kernel_rfl) (by kernel_rfl) (by kernel_rfl) (by kernel_rfl)) ?_
  intro W base args ds gs before hval0 hW hcnd _
  have hval : ∀ (j : Nat) t v, Try.f6.params[j]? = some t → args[j]? = some v → Value.okWide Try.prog W .any base t v := hval0
  have hW' := hW
  obtain ⟨p, q, hA0, hV, rfl, hfz, hnd⟩ := hW
  have hA1 : DataW.TrodAll enc Try.prog W 0 (fun _ => true) true Try.f6.params.toList args.toList ds p := hA0
  have hA := hA1
  rw [Try.params6] at hA hval
  obtain ⟨v0, vs0, d0, ds0, p0, q0, hargs, rfl, rfl, h0, r0⟩ := trodAll_cons hA
  obtain ⟨v1, vs1, d1, ds1, p1, q1, rfl, rfl, rfl, h1, r1⟩ := trodAll_cons r0
  obtain ⟨rfl, rfl, rfl⟩ := trodAll_nil r1
  obtain rfl : args = #[v0, v1] := by cases args; simp_all
  obtain ⟨rfl, rfl⟩ := trodVars_none hV
  obtain ⟨xl, i0, wf0⟩ := Lock.open_los (hval 0 22 v0 rfl rfl) h0
  obtain ⟨txn, rfl, rfl, rfl, wf1⟩ := open_int Try.underlying29 (hval 1 29 v1 rfl rfl) h1
  clear hA0 hval0
  refine (walk W v0 xl i0 wf0 txn (bounds_u32 wf1)).mono fun e W' ⟨he, bel⟩ => ?_
  subst he
  exact ⟨_, rfl, _, _, _, [], _, [], hW', trodAll_mk1 (shut_bool Try.underlying4 _), args_again laidOut bel (by kernel_rfl) hA1, rfl, bel.frame _, fun h => by cases h⟩

theorem over : Rows.lockWakesRow.holds Try.pinned (OpenSpec.ofChange Rows.lockWakesSpec) :=
  OpenClaim.holds_of_wide 6 Try.f6 rfl rfl rfl rfl rfl rfl rfl ⟨rfl, rfl, rfl, rfl, rfl⟩ rfl rfl rfl rfl rfl (by kernel_rfl) Try.func6 (by kernel_rfl)
    (of_decide_eq_true (by kernel_rfl)) (by unfold Func.isWrapper; first | (rw [if_pos (by decide +kernel)]; kernel_rfl) | (rw [if_neg (by decide +kernel)]; exact ⟨rfl, rfl⟩))
    (fun os started H enc _ => lifted os started H enc)

theorem proved : Rows.LockWakesSaid := over
end Go.Proofs.Ytpndcpmfcajmdaa.LLockWakes
