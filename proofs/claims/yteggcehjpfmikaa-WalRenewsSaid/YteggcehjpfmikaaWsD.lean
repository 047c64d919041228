import Derived.Test.YteggcehjpfmikaaWs1
import Derived.Test.YteggcehjpfmikaaWs2
import Derived.Test.YteggcehjpfmikaaWs7
import Derived.Test.YteggcehjpfmikaaWs9
import Derived.Test.YteggcehjpfmikaaWsC
import Derived.ChangeArms
namespace Go.Proofs.Yteggcehjpfmikaa.Rec
open Go.ChangeShapes Go.WideShapes Go.ChangeAt Go.RowKit Go.IntWalk Go.Proofs.NumMath Go.Proofs.Mem Go.Proofs.CrcMath NumBytes CrcA
set_option linter.unusedVariables false
set_option linter.unusedSimpArgs false
def rAc (xs : List Int) : Option (Ac × List Int) :=
  match rNum 4 xs with
  | none => none
  | some (t, a) => match rNum 8 a with
    | none => none
    | some (l, b) => match rNum 8 b with
      | none => none
      | some (u, c) => match rNum 1 c with
        | none => none
        | some (s, d) => some (⟨t, l, u, s⟩, d)
def rDt (xs : List Int) : Option (Dt × List Int) :=
  match rNum 4 xs with
  | none => none
  | some (p, a) => match rNum 8 a with
    | none => none
    | some (f, b) => some (⟨p, f⟩, b)
def rMany {α : Type} (f : List Int → Option (α × List Int)) : Nat → List Int → Option (List α × List Int)
  | 0, xs => some ([], xs)
  | n + 1, xs => match f xs with
    | none => none
    | some (x, ys) => match rMany f n ys with
      | none => none
      | some (l, zs) => some (x :: l, zs)
def rTab (xs : List Int) : Option (List Ac × List Dt × List Int) :=
  match rNum 1 xs with
  | none => none
  | some (n, a) => match rMany rAc n.toNat a with
    | none => none
    | some (ts, b) => match rNum 1 b with
      | none => none
      | some (m, c) => match rMany rDt m.toNat c with
        | none => none
        | some (ds, d) => some (ts, ds, d)
def pre {α : Type} (acc : List α) (o : Option (List α × List Int)) : Option (List α × List Int) := match o with | none => none | some (l, e) => some (acc ++ l, e)
theorem pre_nil {α : Type} (o : Option (List α × List Int)) : pre [] o = o := by cases o with | none => rfl | some p => obtain ⟨a, b⟩ := p; rfl
theorem many_step {α : Type} {f : List Int → Option (α × List Int)} {acc : List α} {n : Nat} {ys zs : List Int} {x : α} (h : f ys = some (x, zs)) : pre acc (rMany f (n + 1) ys) = pre (acc ++ [x]) (rMany f n zs) := by
  simp only [rMany, h]
  cases rMany f n zs with
  | none => rfl
  | some p => obtain ⟨a, b⟩ := p; simp [pre]
theorem many_stop {α : Type} {f : List Int → Option (α × List Int)} {acc : List α} {n : Nat} {ys : List Int} (h : f ys = none) : pre acc (rMany f (n + 1) ys) = none := by
  simp only [rMany, h]; rfl
theorem own_apart {W W' : World} {base n size : Nat} {e : TypeId} {v u u' : Value} {xs : List Value} (h : W.ownsRow base e size v n xs) (t : RowTo W W' u u') (hne : ∀ k, u.ownBlock = some k → v.ownBlock ≠ some k) : W'.ownsRow base e size v n xs :=
  h.kept (row := u.ownBlock) ⟨t.fr.os, t.fr.tape, t.fr.output, t.fr.size, fun k hk hn => t.fr.block k hk (fun e => hn e.symm)⟩ (by
    cases e : v.ownBlock with
    | none => exact .inl rfl
    | some k => exact .inr (fun e2 => hne k e2.symm e))
theorem own_fr' {W W' : World} {base n g size : Nat} {e : TypeId} {v : Value} {xs : List Value} (h : W.ownsRow base e size v n xs) (hf : Fr (fun x => x = g) W W') (hg : g < base) : W'.ownsRow base e size v n xs :=
  h.kept (row := some g) ⟨hf.os, hf.tape, hf.output, hf.size, fun k hk hne => hf.block k hk (fun e => hne (by rw [e]))⟩ (by
    cases e : v.ownBlock with
    | none => exact .inl rfl
    | some k =>
      refine .inr (fun e2 => ?_)
      injection e2 with e2
      have := (h.lt k e).1
      omega)
theorem Rd.row {W W' : World} {g B base n size : Nat} {e : TypeId} {v u u' : Value} {ys : List Int} {xs : List Value} (h : Rd W g B v ys) (hown : W.ownsRow base e size u n xs) (t : RowTo W W' u u') (hg : g < base) : Rd W' g B v ys :=
  h.fr t.fr (fun e => by have := (hown.lt _ e).1; omega) (fun k e => by have := (hown.lt _ e).1; have := h.le; omega)
theorem fr_row {w W W' : World} {g n size : Nat} {e : TypeId} {u u' : Value} {xs : List Value} (h : Fr (fun x => x = g) w W) (hown : W.ownsRow w.heap.size e size u n xs) (t : RowTo W W' u u') : Fr (fun x => x = g) w W' :=
  h.trans' t.fr (fun i hi e => by have := (hown.lt _ e).1; omega)
theorem cAc_len (x : Ac) : (cAc x).length = 4 := rfl
theorem cDt_len (x : Dt) : (cDt x).length = 2 := rfl
theorem cAc_one (x : Ac) : ∀ u ∈ cAc x, u.oneCell' = true := by intro u hu; simp [cAc] at hu; rcases hu with rfl | rfl | rfl | rfl <;> rfl
theorem cDt_one (x : Dt) : ∀ u ∈ cDt x, u.oneCell' = true := by intro u hu; simp [cDt] at hu; rcases hu with rfl | rfl <;> rfl
theorem ac_info : (Try.prog.info? 101).map (fun i => (i.zero, i.size, i.bytes)) = some (some (.agg #[.int .u32 0, .int .u64 0, .int .u64 0, .int .u8 0]), 4, 32) := by kernel_rfl
theorem dt_info : (Try.prog.info? 103).map (fun i => (i.zero, i.size, i.bytes)) = some (some (.agg #[.int .u32 0, .int .u64 0]), 2, 16) := by kernel_rfl
def TabPost (w : World) (g B : Nat) (xs : List Int) (e : Ending) (w' : World) : Prop :=
  match rTab xs with
  | none => e = .panicked raise_ ∧ Fr (fun x => x = g) w w'
  | some (ts, ds, zs) => ∃ ta da, e = .returned (.tuple #[ta, da]) ∧ w'.ownsRow w.heap.size 101 4 ta ts.length (ts.flatMap cAc) ∧ w'.ownsRow w.heap.size 103 2 da ds.length (ds.flatMap cDt) ∧ (∃ v', Rd w' g B v' zs) ∧ Fr (fun x => x = g) w w'
theorem TabPost.no {w w' : World} {g B : Nat} {xs : List Int} (h : rTab xs = none) (hf : Fr (fun x => x = g) w w') : TabPost w g B xs (.panicked raise_) w' := by
  unfold TabPost; rw [h]; exact ⟨rfl, hf⟩
set_option maxRecDepth 100000 in
set_option maxHeartbeats 32000000 in
theorem rtables_any (w : World) (g B : Nat) (v : Value) (xs : List Int) (h : Rd w g B v xs) (hx : Bytes xs) :
    Calls Try.prog 91 #[.pointer (some ⟨g, 0, none⟩)] w (TabPost w g B xs) := by
  have GL := Lib.hid h.box.lt
  have RD0 := Lib.hid h
  cases e1 : rNum 1 xs with
  | none =>
    have HN := Lib.hid (show rTab xs = none by simp [rTab, e1])
    have M := Lib.hid (num_none w g B v xs h 1 1 rfl (by decide) e1)
    clear h e1
    go_enter Try.func91, Try.ntmps91
    go_wp2_with fail
    (with_reducible refine M.out.mono ?_)
    rintro e z ⟨rfl, rfl⟩
    exact ⟨rfl, TabPost.no HN.out (Fr.refl _ _)⟩
  | some p =>
    obtain ⟨n1, xa⟩ := p
    have hb1 := rNum_bytes e1 hx
    have bd1 := rNum_bd (by decide) e1 hx
    rw [show (2 : Int) ^ (8 * 1) = 256 from rfl] at bd1
    have M1 := Lib.hid (num_some w g B v xs xa n1 h hx 1 1 rfl e1)
    obtain ⟨N1, rfl⟩ : ∃ N : Nat, n1 = N := ⟨n1.toNat, by omega⟩
    have hN1 : N1 ≤ 255 := by omega
    have WH := Lib.hid (show rMany rAc N1 xa = none → rTab xs = none from fun h => by simp [rTab, e1, h])
    have HB1 := Lib.hid hb1
    have HE1 := Lib.hid e1
    obtain ⟨j0, hj0, hj1, hj2, hj3⟩ := info_parts ac_info
    clear h e1 hx bd1 hb1
    go_enter Try.func91, Try.ntmps91
    go_wp2_with fail
    (with_reducible refine M1.out.mono ?_)
    rintro e w1 ⟨rfl, rd1, f1⟩
    have RD1 := Lib.hid rd1
    have F1 := Lib.hid f1
    clear rd1 f1
    go_wp2
    go_loopw [4, 8] (fun v i wr => ∃ (j : Nat) (acc : List Ac) (ys : List Int), i = .int .u64 j ∧ j ≤ N1 ∧ Hid (acc.length = j) ∧ Hid (rMany rAc N1 xa = pre acc (rMany rAc (N1 - j) ys)) ∧ Hid (wr.ownsRow w.heap.size 101 4 v acc.length (acc.flatMap cAc)) ∧ Hid (∃ v', Rd wr g B v' ys) ∧ Hid (Bytes ys) ∧ Hid (Fr (fun x => x = g) w wr)) (fun _ i _ => N1 - (intOf i).toNat)
    case atStart => exact ⟨0, [], xa, rfl, Nat.zero_le _, Lib.hid rfl, Lib.hid (by rw [pre_nil]; rfl), Lib.hid (World.ownsRow_nil _ _ _ _), RD1, HB1, F1⟩
    case round =>
      obtain ⟨j, acc, ys, rfl, hj, HAS, HR, OW, RD, BY, FR⟩ := hrel
      by_cases hlt : j < N1
      ·
        obtain ⟨m, hm⟩ : ∃ m, N1 - j = m + 1 := ⟨N1 - j - 1, by omega⟩
        have hr := HR.out
        rw [hm] at hr
        obtain ⟨v0, rd0⟩ := RD.out
        have by0 := BY.out
        have RD0 := Lib.hid rd0
        clear rd0
        cases e0 : rNum 4 ys with
        | none =>
          have hn : rAc ys = none := by simp [rAc, e0]
          have HN := Lib.hid (WH.out (hr.trans (many_stop hn)))
          have M0 := Lib.hid (fun W v (h : Rd W g B v ys) => num_none W g B v ys h 4 4 rfl (by decide) e0)
          clear hn hr e0
          go_wp2_with fail
          (with_reducible refine (M0.out _ _ RD0.out).mono ?_)
          rintro e z ⟨rfl, rfl⟩
          exact ⟨rfl, TabPost.no HN.out FR.out⟩
        | some p =>
          obtain ⟨t, y0⟩ := p
          have by1 := rNum_bytes e0 by0
          have bd0 := rNum_bd (by decide) e0 by0
          have M0 := Lib.hid (fun W v (h : Rd W g B v ys) => num_some W g B v ys y0 t h by0 4 4 rfl e0)
          rw [show (2 : Int) ^ (8 * 4) = 4294967296 from rfl] at bd0
          have wq0 := u32_wrap (x := t) (by omega) (by omega)
          cases e1 : rNum 8 y0 with
          | none =>
            have hn : rAc ys = none := by simp [rAc, e0, e1]
            have HN := Lib.hid (WH.out (hr.trans (many_stop hn)))
            have M1 := Lib.hid (fun W v (h : Rd W g B v y0) => num_none W g B v y0 h 8 8 rfl (by decide) e1)
            clear hn hr e0 e1
            go_wp2_with fail
            (with_reducible refine (M0.out _ _ RD0.out).mono ?_)
            rintro e x1 ⟨rfl, ⟨v1, rd⟩, fr⟩
            have RD1 := Lib.hid rd
            have FR1 := Lib.hid (FR.out.trans fr)
            have OW1 := Lib.hid (own_fr' OW.out fr (by have := GL.out; omega))
            clear rd fr
            go_wp2_with fail
            (with_reducible refine (M1.out _ _ RD1.out).mono ?_)
            rintro e z ⟨rfl, rfl⟩
            exact ⟨rfl, TabPost.no HN.out FR1.out⟩
          | some p =>
            obtain ⟨l, y1⟩ := p
            have by2 := rNum_bytes e1 by1
            have bd1 := rNum_bd (by decide) e1 by1
            have M1 := Lib.hid (fun W v (h : Rd W g B v y0) => num_some W g B v y0 y1 l h by1 8 8 rfl e1)
            rw [show (2 : Int) ^ (8 * 8) = 18446744073709551616 from rfl] at bd1
            cases e2 : rNum 8 y1 with
            | none =>
              have hn : rAc ys = none := by simp [rAc, e0, e1, e2]
              have HN := Lib.hid (WH.out (hr.trans (many_stop hn)))
              have M2 := Lib.hid (fun W v (h : Rd W g B v y1) => num_none W g B v y1 h 8 8 rfl (by decide) e2)
              clear hn hr e0 e1 e2
              go_wp2_with fail
              (with_reducible refine (M0.out _ _ RD0.out).mono ?_)
              rintro e x1 ⟨rfl, ⟨v1, rd⟩, fr⟩
              have RD1 := Lib.hid rd
              have FR1 := Lib.hid (FR.out.trans fr)
              have OW1 := Lib.hid (own_fr' OW.out fr (by have := GL.out; omega))
              clear rd fr
              go_wp2_with fail
              (with_reducible refine (M1.out _ _ RD1.out).mono ?_)
              rintro e x2 ⟨rfl, ⟨v2, rd⟩, fr⟩
              have RD2 := Lib.hid rd
              have FR2 := Lib.hid (FR1.out.trans fr)
              have OW2 := Lib.hid (own_fr' OW1.out fr (by have := GL.out; omega))
              clear rd fr
              go_wp2_with fail
              (with_reducible refine (M2.out _ _ RD2.out).mono ?_)
              rintro e z ⟨rfl, rfl⟩
              exact ⟨rfl, TabPost.no HN.out FR2.out⟩
            | some p =>
              obtain ⟨u, y2⟩ := p
              have by3 := rNum_bytes e2 by2
              have bd2 := rNum_bd (by decide) e2 by2
              have M2 := Lib.hid (fun W v (h : Rd W g B v y1) => num_some W g B v y1 y2 u h by2 8 8 rfl e2)
              rw [show (2 : Int) ^ (8 * 8) = 18446744073709551616 from rfl] at bd2
              cases e3 : rNum 1 y2 with
              | none =>
                have hn : rAc ys = none := by simp [rAc, e0, e1, e2, e3]
                have HN := Lib.hid (WH.out (hr.trans (many_stop hn)))
                have M3 := Lib.hid (fun W v (h : Rd W g B v y2) => num_none W g B v y2 h 1 1 rfl (by decide) e3)
                clear hn hr e0 e1 e2 e3
                go_wp2_with fail
                (with_reducible refine (M0.out _ _ RD0.out).mono ?_)
                rintro e x1 ⟨rfl, ⟨v1, rd⟩, fr⟩
                have RD1 := Lib.hid rd
                have FR1 := Lib.hid (FR.out.trans fr)
                have OW1 := Lib.hid (own_fr' OW.out fr (by have := GL.out; omega))
                clear rd fr
                go_wp2_with fail
                (with_reducible refine (M1.out _ _ RD1.out).mono ?_)
                rintro e x2 ⟨rfl, ⟨v2, rd⟩, fr⟩
                have RD2 := Lib.hid rd
                have FR2 := Lib.hid (FR1.out.trans fr)
                have OW2 := Lib.hid (own_fr' OW1.out fr (by have := GL.out; omega))
                clear rd fr
                go_wp2_with fail
                (with_reducible refine (M2.out _ _ RD2.out).mono ?_)
                rintro e x3 ⟨rfl, ⟨v3, rd⟩, fr⟩
                have RD3 := Lib.hid rd
                have FR3 := Lib.hid (FR2.out.trans fr)
                have OW3 := Lib.hid (own_fr' OW2.out fr (by have := GL.out; omega))
                clear rd fr
                go_wp2_with fail
                (with_reducible refine (M3.out _ _ RD3.out).mono ?_)
                rintro e z ⟨rfl, rfl⟩
                exact ⟨rfl, TabPost.no HN.out FR3.out⟩
              | some p =>
                obtain ⟨s, y3⟩ := p
                have by4 := rNum_bytes e3 by3
                have bd3 := rNum_bd (by decide) e3 by3
                have M3 := Lib.hid (fun W v (h : Rd W g B v y2) => num_some W g B v y2 y3 s h by3 1 1 rfl e3)
                rw [show (2 : Int) ^ (8 * 1) = 256 from rfl] at bd3
                have wq3 := u8_wrap (x := s) (by omega) (by omega)
                have hn : rAc ys = some (⟨t, l, u, s⟩, y3) := by simp [rAc, e0, e1, e2, e3]
                have HS := Lib.hid (hr.trans (many_step hn))
                have HBY := Lib.hid by4
                clear hn hr e0 e1 e2 e3
                go_wp2_with fail
                (with_reducible refine (M0.out _ _ RD0.out).mono ?_)
                rintro e x1 ⟨rfl, ⟨v1, rd⟩, fr⟩
                have RD1 := Lib.hid rd
                have FR1 := Lib.hid (FR.out.trans fr)
                have OW1 := Lib.hid (own_fr' OW.out fr (by have := GL.out; omega))
                clear rd fr
                go_wp2_with fail
                (with_reducible refine (M1.out _ _ RD1.out).mono ?_)
                rintro e x2 ⟨rfl, ⟨v2, rd⟩, fr⟩
                have RD2 := Lib.hid rd
                have FR2 := Lib.hid (FR1.out.trans fr)
                have OW2 := Lib.hid (own_fr' OW1.out fr (by have := GL.out; omega))
                clear rd fr
                go_wp2_with fail
                (with_reducible refine (M2.out _ _ RD2.out).mono ?_)
                rintro e x3 ⟨rfl, ⟨v3, rd⟩, fr⟩
                have RD3 := Lib.hid rd
                have FR3 := Lib.hid (FR2.out.trans fr)
                have OW3 := Lib.hid (own_fr' OW2.out fr (by have := GL.out; omega))
                clear rd fr
                go_wp2_with fail
                (with_reducible refine (M3.out _ _ RD3.out).mono ?_)
                rintro e x4 ⟨rfl, ⟨v4, rd⟩, fr⟩
                have RD4 := Lib.hid rd
                have FR4 := Lib.hid (FR3.out.trans fr)
                have OW4 := Lib.hid (own_fr' OW3.out fr (by have := GL.out; omega))
                clear rd fr
                have hbase : w.heap.size ≤ x4.heap.size := FR4.out.size
                go_wp2_with (at_builtin; refine wpList_push_ss (F := cAc) (sz := 4) _ rfl _ _ _ rfl (w.heap.size) 101 j0 _ 32 Try.underlying51 hj0 hj1 hj2 hj3 rfl (by decide) cAc_len cAc_one _ acc rfl (own_below OW4.out (new_ (Below.refl _ _) (.cells #[.int .u32 t, .int .u64 l, .int .u64 u, .int .u8 s] 101))) x4.heap.size ⟨t, l, u, s⟩ 101 rfl (Box.new x4 _ _) (by have := HAS.out; unfold maxLen; omega) (by have := HAS.out; omega) (by have := hbase; simp; omega) ?_; intro v9 w9 hown ht)
                have tt := (RowTo.of_below (new_ (Below.refl x4.heap.size x4) (.cells #[.int .u32 t, .int .u64 l, .int .u64 u, .int .u8 s] 101)) _).trans ht
                obtain ⟨v8, rd8⟩ := show ∃ v8, Rd w9 g B v8 y3 from ⟨_, RD4.out.row OW4.out tt (by have := GL.out; omega)⟩
                have RD9 := Lib.hid (show ∃ v8, Rd w9 g B v8 y3 from ⟨_, rd8⟩)
                have FR9 := Lib.hid (fr_row FR4.out OW4.out tt)
                have OW9 := Lib.hid hown
                clear hown ht tt rd8
                go_wp2
                go_roundw
                case rel => exact ⟨j + 1, acc ++ [⟨t, l, u, s⟩], y3, by go_num, by omega, Lib.hid (by rw [List.length_append, HAS.out]; rfl), Lib.hid (by rw [show N1 - (j + 1) = m by omega]; exact HS.out), OW9, RD9, HBY, FR9⟩
                case measure => simp [intOf]; omega
      · have hje : j = N1 := by omega
        have hr := HR.out
        rw [hje, Nat.sub_self] at hr
        have hr1 : rMany rAc N1 xa = some (acc, ys) := hr.trans (by simp [rMany, pre])
        have by0 := BY.out
        obtain ⟨v2, rd2⟩ := RD.out
        obtain ⟨ts, hts⟩ : ∃ ts, ts = acc := ⟨_, rfl⟩
        rw [← hts] at hr1 OW
        have RD2 := Lib.hid rd2
        cases e2 : rNum 1 ys with
        | none =>
          have HN := Lib.hid (show rTab xs = none by simp [rTab, HE1.out, hr1, e2])
          have M2 := Lib.hid (fun W v (h : Rd W g B v ys) => num_none W g B v ys h 1 1 rfl (by decide) e2)
          clear hr hr1 e2 hts rd2
          go_wp2_with fail
          (with_reducible refine (M2.out _ _ RD2.out).mono ?_)
          rintro e z ⟨rfl, rfl⟩
          exact ⟨rfl, TabPost.no HN.out FR.out⟩
        | some p =>
          obtain ⟨n2, xc⟩ := p
          have hb2 := rNum_bytes e2 by0
          have bd2 := rNum_bd (by decide) e2 by0
          rw [show (2 : Int) ^ (8 * 1) = 256 from rfl] at bd2
          have M2 := Lib.hid (fun W v (h : Rd W g B v ys) => num_some W g B v ys xc n2 h by0 1 1 rfl e2)
          obtain ⟨N2, rfl⟩ : ∃ N : Nat, n2 = N := ⟨n2.toNat, by omega⟩
          have hN2 : N2 ≤ 255 := by omega
          have WH := Lib.hid (show rMany rDt N2 xc = none → rTab xs = none from fun h => by simp [rTab, HE1.out, hr1, e2, h])
          have WS := Lib.hid (show ∀ ds ys, rMany rDt N2 xc = some (ds, ys) → rTab xs = some (ts, ds, ys) from fun ds ys h => by simp [rTab, HE1.out, hr1, e2, h])
          have HB2 := Lib.hid hb2
          obtain ⟨j0, hj0, hj1, hj2, hj3⟩ := info_parts dt_info
          have HJE := Lib.hid hje
          clear hr hr1 e2 hts rd2 by0 hb2 bd2 hje
          obtain ⟨V1, hV1⟩ : ∃ V : Value, V = u4 := ⟨_, rfl⟩
          rw [← hV1] at OW ⊢
          clear hV1
          go_wp2_with fail
          (with_reducible refine (M2.out _ _ RD2.out).mono ?_)
          rintro e w2 ⟨rfl, rd3, f3⟩
          have RD3 := Lib.hid rd3
          have F3 := Lib.hid (FR.out.trans f3)
          have HS2 := Lib.hid F3.out.size
          have OV3 := Lib.hid (own_fr' OW.out f3 GL.out)
          have VB := Lib.hid (show ∀ q, V1.ownBlock = some q → q < w2.heap.size from fun q e => (OV3.out.lt q e).2)
          clear rd3 f3
          go_wp2
          go_loopw [5, 27] (fun v i wr => ∃ (j : Nat) (acc : List Dt) (ys : List Int), i = .int .u64 j ∧ j ≤ N2 ∧ Hid (acc.length = j) ∧ Hid (rMany rDt N2 xc = pre acc (rMany rDt (N2 - j) ys)) ∧ Hid (wr.ownsRow w2.heap.size 103 2 v acc.length (acc.flatMap cDt)) ∧ Hid (∃ v', Rd wr g B v' ys) ∧ Hid (Bytes ys) ∧ Hid (Fr (fun x => x = g) w wr) ∧ Hid (wr.ownsRow w.heap.size 101 4 V1 ts.length (ts.flatMap cAc)) ∧ Hid (w2.heap.size ≤ wr.heap.size)) (fun _ i _ => N2 - (intOf i).toNat)
          case atStart => exact ⟨0, [], xc, rfl, Nat.zero_le _, Lib.hid rfl, Lib.hid (by rw [pre_nil]; rfl), Lib.hid (World.ownsRow_nil _ _ _ _), RD3, HB2, F3, OV3, Lib.hid (Nat.le_refl _)⟩
          case round =>
            obtain ⟨j, acc, ys, rfl, hj, HAS, HR, OW, RD, BY, FR, OV, SZ⟩ := hrel
            by_cases hlt : j < N2
            ·
              obtain ⟨m, hm⟩ : ∃ m, N2 - j = m + 1 := ⟨N2 - j - 1, by omega⟩
              have hr := HR.out
              rw [hm] at hr
              obtain ⟨v0, rd0⟩ := RD.out
              have by0 := BY.out
              have RD0 := Lib.hid rd0
              clear rd0
              cases e0 : rNum 4 ys with
              | none =>
                have hn : rDt ys = none := by simp [rDt, e0]
                have HN := Lib.hid (WH.out (hr.trans (many_stop hn)))
                have M0 := Lib.hid (fun W v (h : Rd W g B v ys) => num_none W g B v ys h 4 4 rfl (by decide) e0)
                clear hn hr e0
                go_wp2_with fail
                (with_reducible refine (M0.out _ _ RD0.out).mono ?_)
                rintro e z ⟨rfl, rfl⟩
                exact ⟨rfl, TabPost.no HN.out FR.out⟩
              | some p =>
                obtain ⟨p, y0⟩ := p
                have by1 := rNum_bytes e0 by0
                have bd0 := rNum_bd (by decide) e0 by0
                have M0 := Lib.hid (fun W v (h : Rd W g B v ys) => num_some W g B v ys y0 p h by0 4 4 rfl e0)
                rw [show (2 : Int) ^ (8 * 4) = 4294967296 from rfl] at bd0
                have wq0 := u32_wrap (x := p) (by omega) (by omega)
                cases e1 : rNum 8 y0 with
                | none =>
                  have hn : rDt ys = none := by simp [rDt, e0, e1]
                  have HN := Lib.hid (WH.out (hr.trans (many_stop hn)))
                  have M1 := Lib.hid (fun W v (h : Rd W g B v y0) => num_none W g B v y0 h 8 8 rfl (by decide) e1)
                  clear hn hr e0 e1
                  go_wp2_with fail
                  (with_reducible refine (M0.out _ _ RD0.out).mono ?_)
                  rintro e x1 ⟨rfl, ⟨v1, rd⟩, fr⟩
                  have RD1 := Lib.hid rd
                  have FR1 := Lib.hid (FR.out.trans fr)
                  have OW1 := Lib.hid (own_fr' OW.out fr (by have := GL.out; have := HS2.out; omega))
                  have OV1 := Lib.hid (own_fr' OV.out fr (by have := GL.out; omega))
                  have SZ1 := Lib.hid (Nat.le_trans SZ.out fr.size)
                  clear rd fr
                  go_wp2_with fail
                  (with_reducible refine (M1.out _ _ RD1.out).mono ?_)
                  rintro e z ⟨rfl, rfl⟩
                  exact ⟨rfl, TabPost.no HN.out FR1.out⟩
                | some p =>
                  obtain ⟨f, y1⟩ := p
                  have by2 := rNum_bytes e1 by1
                  have bd1 := rNum_bd (by decide) e1 by1
                  have M1 := Lib.hid (fun W v (h : Rd W g B v y0) => num_some W g B v y0 y1 f h by1 8 8 rfl e1)
                  rw [show (2 : Int) ^ (8 * 8) = 18446744073709551616 from rfl] at bd1
                  have hn : rDt ys = some (⟨p, f⟩, y1) := by simp [rDt, e0, e1]
                  have HS := Lib.hid (hr.trans (many_step hn))
                  have HBY := Lib.hid by2
                  clear hn hr e0 e1
                  go_wp2_with fail
                  (with_reducible refine (M0.out _ _ RD0.out).mono ?_)
                  rintro e x1 ⟨rfl, ⟨v1, rd⟩, fr⟩
                  have RD1 := Lib.hid rd
                  have FR1 := Lib.hid (FR.out.trans fr)
                  have OW1 := Lib.hid (own_fr' OW.out fr (by have := GL.out; have := HS2.out; omega))
                  have OV1 := Lib.hid (own_fr' OV.out fr (by have := GL.out; omega))
                  have SZ1 := Lib.hid (Nat.le_trans SZ.out fr.size)
                  clear rd fr
                  go_wp2_with fail
                  (with_reducible refine (M1.out _ _ RD1.out).mono ?_)
                  rintro e x2 ⟨rfl, ⟨v2, rd⟩, fr⟩
                  have RD2 := Lib.hid rd
                  have FR2 := Lib.hid (FR1.out.trans fr)
                  have OW2 := Lib.hid (own_fr' OW1.out fr (by have := GL.out; have := HS2.out; omega))
                  have OV2 := Lib.hid (own_fr' OV1.out fr (by have := GL.out; omega))
                  have SZ2 := Lib.hid (Nat.le_trans SZ1.out fr.size)
                  clear rd fr
                  have hbase : w2.heap.size ≤ x2.heap.size := SZ2.out
                  go_wp2_with (at_builtin; refine wpList_push_ss (F := cDt) (sz := 2) _ rfl _ _ _ rfl (w2.heap.size) 103 j0 _ 16 Try.underlying52 hj0 hj1 hj2 hj3 rfl (by decide) cDt_len cDt_one _ acc rfl (own_below OW2.out (new_ (Below.refl _ _) (.cells #[.int .u32 p, .int .u64 f] 103))) x2.heap.size ⟨p, f⟩ 103 rfl (Box.new x2 _ _) (by have := HAS.out; unfold maxLen; omega) (by have := HAS.out; omega) (by have := hbase; simp; omega) ?_; intro v9 w9 hown ht)
                  have tt := (RowTo.of_below (new_ (Below.refl x2.heap.size x2) (.cells #[.int .u32 p, .int .u64 f] 103)) _).trans ht
                  obtain ⟨v8, rd8⟩ := show ∃ v8, Rd w9 g B v8 y1 from ⟨_, RD2.out.row OW2.out tt (by have := GL.out; have := HS2.out; omega)⟩
                  have RD9 := Lib.hid (show ∃ v8, Rd w9 g B v8 y1 from ⟨_, rd8⟩)
                  have FR9 := Lib.hid (fr_row FR2.out (own_lower OW2.out HS2.out) tt)
                  have SZ9 := Lib.hid (Nat.le_trans SZ2.out tt.fr.size)
                  have OV9 := Lib.hid (own_apart OV2.out tt (fun q e e2 => by have := (OW2.out.lt _ e).1; have := VB.out _ e2; omega))
                  have OW9 := Lib.hid hown
                  clear hown ht tt rd8
                  go_wp2
                  go_roundw
                  case rel => exact ⟨j + 1, acc ++ [⟨p, f⟩], y1, by go_num, by omega, Lib.hid (by rw [List.length_append, HAS.out]; rfl), Lib.hid (by rw [show N2 - (j + 1) = m by omega]; exact HS.out), OW9, RD9, HBY, FR9, OV9, SZ9⟩
                  case measure => simp [intOf]; omega
            · have hje : j = N2 := by omega
              have hr := HR.out
              rw [hje, Nat.sub_self] at hr
              have HF := Lib.hid (WS.out acc ys (hr.trans (by simp [rMany, pre])))
              clear hr
              go_wp2
              go_ret2
              unfold TabPost
              rw [HF.out]
              exact ⟨_, _, rfl, OV.out, own_lower OW.out HS2.out, RD.out, FR.out⟩
end Go.Proofs.Yteggcehjpfmikaa.Rec
namespace Go.Proofs.Yteggcehjpfmikaa.Rec
open Go.ChangeShapes Go.WideShapes Go.ChangeAt Go.RowKit Go.IntWalk Go.Proofs.NumMath Go.Proofs.Mem Go.Proofs.CrcMath NumBytes CrcA
set_option linter.unusedVariables false
set_option linter.unusedSimpArgs false
theorem arr12 {C : Array Value} (h : C.size = 12) : ∃ a b c d e f g i j k m n, C = #[a, b, c, d, e, f, g, i, j, k, m, n] := by
  obtain ⟨l⟩ := C
  match l, h with
  | [a, b, c, d, e, f, g, i, j, k, m, n], _ => exact ⟨a, b, c, d, e, f, g, i, j, k, m, n, rfl⟩
theorem out_size {w : World} {g : Nat} {t : TypeId} {a0 a1 a2 a3 a4 a5 a6 a7 a8 a9 a10 a11 : Value} (h : Box w g #[a0, a1, a2, a3, a4, a5, a6, a7, a8, a9, a10, a11] t) : ∃ C, Box w g C t ∧ C.size = 12 := ⟨_, h, rfl⟩
set_option maxRecDepth 100000 in
set_option maxHeartbeats 8000000 in
theorem catch_panic (r k : Nat) (hrk : r ≠ k) (C : Array Value) (w : World) (hC : C.size = 12) (hb : Box w r C 54) (b : Bool) (hk : Box w k #[.bool b] 4) :
    CallsD Try.prog 87 #[.pointer (some ⟨r, 0, none⟩), .pointer (some ⟨k, 0, none⟩)] (.panicking raise_) w fun en u' w' =>
      en = .returned (.tuple #[]) ∧ u' = .panicking [{ v := .iface 39 (.int .u16 61), recovered := true }] ∧ Box w' r (bareC 0 0 0 0) 54 ∧ Box w' k #[.bool false] 4 ∧ Fr (fun x => x = r ∨ x = k) w w' := by
  unfold raise_
  obtain ⟨a0, a1, a2, a3, a4, a5, a6, a7, a8, a9, a10, a11, rfl⟩ := arr12 hC
  refine callsD_of_wpS Try.func87 rfl fun c₀ cs hu => ?_
  simp only [Try.ntmps87, List.size_toArray, List.length_cons, List.length_nil, Nat.reduceAdd, Nat.reduceSub, Array.replicate_succ, Array.replicate_zero, List.push_toArray, List.append_toArray, List.nil_append, List.cons_append]
  apply wpS_seq
  apply wpS_region
  simp [wpOpsS, go_sem, recoverD, hu, Exit.thenS]
  have HB := Lib.hid hb
  have HK := Lib.hid hk
  have HN := Lib.hid hrk
  have k0 : w.cell? ⟨r, 0, none⟩ = some a0 := hb.cell 0
  have f0 := hb.frozen 0
  have k1 : w.cell? ⟨r, 1, none⟩ = some a1 := hb.cell 1
  have f1 := hb.frozen 1
  have k2 : w.cell? ⟨r, 2, none⟩ = some a2 := hb.cell 2
  have f2 := hb.frozen 2
  have k3 : w.cell? ⟨r, 3, none⟩ = some a3 := hb.cell 3
  have f3 := hb.frozen 3
  have k4 : w.cell? ⟨r, 4, none⟩ = some a4 := hb.cell 4
  have f4 := hb.frozen 4
  have k5 : w.cell? ⟨r, 5, none⟩ = some a5 := hb.cell 5
  have f5 := hb.frozen 5
  have k6 : w.cell? ⟨r, 6, none⟩ = some a6 := hb.cell 6
  have f6 := hb.frozen 6
  have k7 : w.cell? ⟨r, 7, none⟩ = some a7 := hb.cell 7
  have f7 := hb.frozen 7
  have k8 : w.cell? ⟨r, 8, none⟩ = some a8 := hb.cell 8
  have f8 := hb.frozen 8
  have k9 : w.cell? ⟨r, 9, none⟩ = some a9 := hb.cell 9
  have f9 := hb.frozen 9
  have k10 : w.cell? ⟨r, 10, none⟩ = some a10 := hb.cell 10
  have f10 := hb.frozen 10
  have k11 : w.cell? ⟨r, 11, none⟩ = some a11 := hb.cell 11
  have f11 := hb.frozen 11
  have kk : w.cell? ⟨k, 0, none⟩ = some (.bool b) := hk.cell 0
  have fk := hk.frozen 0
  have hkr : k ≠ r := fun e => hrk e.symm
  clear hb hk
  refine wpS_of_wp ?_
  go_wp2
  have b9 := Box.far (p := ⟨k, 0, none⟩) (((((((((((((HB.out).set_ 0 (.int .u8 0)).set_ 1 (.int .u32 0)).set_ 2 (.int .u64 0)).set_ 3 (.int .u64 0)).set_ 4 (.int .u32 0)).set_ 5 (.int .u16 0)).set_ 6 (.bool false)).set_ 7 (.bool false)).set_ 8 (.slice none 0 0)).set_ 9 (.slice none 0 0)).set_ 10 (.slice none 0 0)).set_ 11 (.slice none 0 0)) HN.out (.bool false)
  simp only [List.setIfInBounds_toArray, List.set_cons_zero, List.set_cons_succ] at b9
  have k9 := Box.set_ (Box.far (p := ⟨r, 11, none⟩) (Box.far (p := ⟨r, 10, none⟩) (Box.far (p := ⟨r, 9, none⟩) (Box.far (p := ⟨r, 8, none⟩) (Box.far (p := ⟨r, 7, none⟩) (Box.far (p := ⟨r, 6, none⟩) (Box.far (p := ⟨r, 5, none⟩) (Box.far (p := ⟨r, 4, none⟩) (Box.far (p := ⟨r, 3, none⟩) (Box.far (p := ⟨r, 2, none⟩) (Box.far (p := ⟨r, 1, none⟩) (Box.far (p := ⟨r, 0, none⟩) (HK.out) hkr (.int .u8 0)) hkr (.int .u32 0)) hkr (.int .u64 0)) hkr (.int .u64 0)) hkr (.int .u32 0)) hkr (.int .u16 0)) hkr (.bool false)) hkr (.bool false)) hkr (.slice none 0 0)) hkr (.slice none 0 0)) hkr (.slice none 0 0)) hkr (.slice none 0 0)) 0 (.bool false)
  simp only [List.setIfInBounds_toArray, List.set_cons_zero, List.set_cons_succ] at k9
  have f9 := Fr.setCell (Fr.setCell (Fr.setCell (Fr.setCell (Fr.setCell (Fr.setCell (Fr.setCell (Fr.setCell (Fr.setCell (Fr.setCell (Fr.setCell (Fr.setCell (Fr.setCell (Fr.refl (fun x => x = r ∨ x = k) w) (p := ⟨r, 0, none⟩) (.inl (.inl rfl)) (.int .u8 0)) (p := ⟨r, 1, none⟩) (.inl (.inl rfl)) (.int .u32 0)) (p := ⟨r, 2, none⟩) (.inl (.inl rfl)) (.int .u64 0)) (p := ⟨r, 3, none⟩) (.inl (.inl rfl)) (.int .u64 0)) (p := ⟨r, 4, none⟩) (.inl (.inl rfl)) (.int .u32 0)) (p := ⟨r, 5, none⟩) (.inl (.inl rfl)) (.int .u16 0)) (p := ⟨r, 6, none⟩) (.inl (.inl rfl)) (.bool false)) (p := ⟨r, 7, none⟩) (.inl (.inl rfl)) (.bool false)) (p := ⟨r, 8, none⟩) (.inl (.inl rfl)) (.slice none 0 0)) (p := ⟨r, 9, none⟩) (.inl (.inl rfl)) (.slice none 0 0)) (p := ⟨r, 10, none⟩) (.inl (.inl rfl)) (.slice none 0 0)) (p := ⟨r, 11, none⟩) (.inl (.inl rfl)) (.slice none 0 0)) (p := ⟨k, 0, none⟩) (.inl (.inr rfl)) (.bool false)
  generalize World.setCell (World.setCell (World.setCell (World.setCell (World.setCell (World.setCell (World.setCell (World.setCell (World.setCell (World.setCell (World.setCell (World.setCell (World.setCell (w) (⟨r, 0, none⟩ : Addr) (.int .u8 0)) (⟨r, 1, none⟩ : Addr) (.int .u32 0)) (⟨r, 2, none⟩ : Addr) (.int .u64 0)) (⟨r, 3, none⟩ : Addr) (.int .u64 0)) (⟨r, 4, none⟩ : Addr) (.int .u32 0)) (⟨r, 5, none⟩ : Addr) (.int .u16 0)) (⟨r, 6, none⟩ : Addr) (.bool false)) (⟨r, 7, none⟩ : Addr) (.bool false)) (⟨r, 8, none⟩ : Addr) (.slice none 0 0)) (⟨r, 9, none⟩ : Addr) (.slice none 0 0)) (⟨r, 10, none⟩ : Addr) (.slice none 0 0)) (⟨r, 11, none⟩ : Addr) (.slice none 0 0)) (⟨k, 0, none⟩ : Addr) (.bool false) = W9 at *
  simp [bodyPostS, results, Try.results87, b9, k9, f9, bareC]
end Go.Proofs.Yteggcehjpfmikaa.Rec
namespace Go.Proofs.Mem
open Go.RowKit Go.WideShapes Go.ChangeShapes Go.Deep
set_option linter.unusedVariables false
section
variable {H : Type} {enc : TypeId × Value → H} {P : Program} {w : World}
theorem inner_SS {α : Type} (F : α → List Value) (Q : α → Prop) {t e : TypeId} {sz n : Nat} {c0 : Value} {y : DataW H × List MemPlace} (ht : P.underlying t = some (.slice e)) (hC : P.cellsOf e = sz) (hsz : 0 < sz)
    (hel : ∀ (cs : List Value) n y, cs.length = sz → DataW.trod enc P w 0 (fun _ => true) true n e cs = some y → ∃ x, cs = F x ∧ Q x)
    (hf : DataW.trod enc P w 0 (fun _ => true) true n t [c0] = some y) : ∃ xs : List α, SS F sz w w.heap.size c0 xs ∧ ∀ x ∈ xs, Q x := by
  rcases open_slice ht hf with ⟨hcs, _⟩ | ⟨x, len, c, m, n, D, Pl, hcs, _, hl, hm, hmm, _, hi⟩
  · simp at hcs
    subst hcs
    exact ⟨[], SS.nil _ _, fun n hn => by cases hn⟩
  · simp at hcs
    subst hcs
    simp at hmm
    subst hmm
    have each : ∀ i : Fin len, ∃ y : α, (F y).length = sz ∧ Q y ∧ ∀ j, j < sz → w.cell? ((x.add (i.1 * sz)).add j) = (F y)[j]? := fun i => by
      obtain ⟨cs', hc, ht'⟩ := hi i.1 (by have := i.2; omega)
      rw [hC] at hc
      obtain ⟨_, hlen, hat⟩ := World.cells?_some hc
      obtain ⟨y, rfl, hq⟩ := hel cs' _ _ hlen ht'
      exact ⟨y, hlen, hq, hat⟩
    obtain ⟨f, hf⟩ := Classical.skolem.1 each
    refine ⟨List.ofFn f, ⟨some x, _, by rw [List.length_ofFn], by rw [List.length_ofFn]; exact hl, hm, fun i y hy => ?_⟩, fun y hy => ?_⟩
    · have hil : i < len := by
        have := (List.getElem?_eq_some_iff.1 hy).1
        rwa [List.length_ofFn] at this
      obtain ⟨b, off, spot⟩ := x
      have hs : spot = none := by
        obtain ⟨h1, _, h3⟩ := hf ⟨0, by omega⟩
        have h4 := h3 0 hsz
        rw [List.getElem?_eq_getElem (by omega)] at h4
        simpa [Addr.add] using World.cell?_spot h4
      subst hs
      obtain ⟨h1, _, h3⟩ := hf ⟨i, hil⟩
      rw [List.getElem?_ofFn] at hy
      simp [hil] at hy
      have hcell : ∀ j u, (F y)[j]? = some u → w.cell? ⟨b, off + i * sz + j, none⟩ = some u := fun j u hu => by
        rw [hy] at h1 h3
        have hj : j < sz := by rw [← h1]; exact (List.getElem?_eq_some_iff.1 hu).1
        have h4 := h3 j hj
        rw [Go.WideShapes.add_plain, Go.WideShapes.add_plain] at h4
        exact h4.trans hu
      refine ⟨b, off, rfl, ?_, hcell⟩
      have h5 := hcell 0 ((F y)[0]'(by rw [hy] at h1; omega)) (List.getElem?_eq_getElem _)
      rcases Nat.lt_or_ge b w.heap.size with h6 | h6
      · exact h6
      · unfold World.cell? at h5
        simp [Array.getElem?_eq_none h6] at h5
    · obtain ⟨i, rfl⟩ := (List.mem_ofFn (f := f)).1 hy
      exact (hf i).2.1
theorem one_int' {base : Nat} {spare : Nat → Bool} {held : Bool} {k : IntKind} {t : TypeId} {n : Nat} {c : Value} {o : Option (DataW H × List MemPlace)} (ht : P.underlying t = some (.int k)) (h : DataW.trod enc P w base spare held n t [c] = o) (ho : o.isSome = true) : ∃ x, c = .int k x ∧ (Lit.int k x).wf = true := by
  cases o with
  | none => cases ho
  | some y =>
    obtain ⟨x, e, _, hw⟩ := DataW.trod_int ht h
    injection e with e _
    exact ⟨x, e, hw⟩
theorem one_bool' {base : Nat} {spare : Nat → Bool} {held : Bool} {t : TypeId} {n : Nat} {c : Value} {o : Option (DataW H × List MemPlace)} (ht : P.underlying t = some .bool) (h : DataW.trod enc P w base spare held n t [c] = o) (ho : o.isSome = true) : ∃ x, c = .bool x := by
  cases o with
  | none => cases ho
  | some y =>
    obtain ⟨x, e, _⟩ := DataW.trod_bool ht h
    injection e with e _
    exact ⟨x, e⟩
theorem some_at' {α : Type} {l : List α} {i : Nat} (h : i < l.length) : (l[i]?).isSome = true := by simp [h]
end
end Go.Proofs.Mem
namespace Go.Proofs.Yteggcehjpfmikaa.Rec
open Go.ChangeShapes Go.WideShapes Go.ChangeAt Go.RowKit Go.IntWalk Go.Proofs.NumMath Go.Proofs.Mem NumBytes Law
set_option linter.unusedVariables false
set_option maxRecDepth 100000
theorem c8 : Try.prog.cellsOf 5 = 1 := by kernel_rfl
theorem c16 : Try.prog.cellsOf 38 = 1 := by kernel_rfl
theorem c32 : Try.prog.cellsOf 47 = 1 := by kernel_rfl
theorem c64 : Try.prog.cellsOf 30 = 1 := by kernel_rfl
theorem cb : Try.prog.cellsOf 4 = 1 := by kernel_rfl
theorem csl : Try.prog.cellsOf 48 = 1 := by kernel_rfl
theorem csa : Try.prog.cellsOf 51 = 1 := by kernel_rfl
theorem csd : Try.prog.cellsOf 52 = 1 := by kernel_rfl
theorem cAc_ : Try.prog.cellsOf 101 = 4 := by kernel_rfl
theorem cDt_ : Try.prog.cellsOf 103 = 2 := by kernel_rfl
theorem cCg : Try.prog.cellsOf 50 = 6 := by kernel_rfl
section
variable {H : Type} {enc : TypeId × Value → H} {W : World}
theorem some_eq {α : Type} {o : Option α} (h : o.isSome = true) : ∃ y, o = some y := by cases o with | none => cases h | some y => exact ⟨y, rfl⟩
theorem open_cells {n : Nat} {a0 a1 a2 a3 a4 a5 : Value} {y : DataW H × List MemPlace} (hf : DataW.trod enc Try.prog W 0 (fun _ => true) true n 50 [a0, a1, a2, a3, a4, a5] = some y) :
    ∃ (c : Cg) (a b : Value), a0 = .int .u32 c.pg ∧ a1 = .int .u16 c.sl ∧ a2 = .bool c.had ∧ a3 = .bool c.has ∧ a4 = a ∧ a5 = b ∧ c.Ok ∧ IR W W.heap.size .u8 a c.xs ∧ IR W W.heap.size .u8 b c.ys := by
  obtain ⟨xs, m, _, _, _, hl, hg⟩ := DataW.trod_struct Try.underlying50 hf
  have h0 := hg 0 _ rfl
  have h1 := hg 1 _ rfl
  have h2 := hg 2 _ rfl
  have h3 := hg 3 _ rfl
  have h4 := hg 4 _ rfl
  have h5 := hg 5 _ rfl
  simp [c16, c32, cb, csl] at h0 h1 h2 h3 h4 h5 hl
  obtain ⟨x0, rfl, w0⟩ := one_int' Try.underlying47 h0 (some_at' (by omega))
  obtain ⟨x1, rfl, w1⟩ := one_int' Try.underlying38 h1 (some_at' (by omega))
  obtain ⟨x2, rfl⟩ := one_bool' Try.underlying4 h2 (some_at' (by omega))
  obtain ⟨x3, rfl⟩ := one_bool' Try.underlying4 h3 (some_at' (by omega))
  obtain ⟨y4, e4⟩ := some_eq (some_at' (l := xs) (i := 4) (by omega))
  obtain ⟨y5, e5⟩ := some_eq (some_at' (l := xs) (i := 5) (by omega))
  obtain ⟨zs, i4, b4⟩ := SrOpen.inner (h4.trans e4)
  obtain ⟨us, i5, b5⟩ := SrOpen.inner (h5.trans e5)
  exact ⟨⟨x0, x1, x2, x3, zs, us⟩, _, _, rfl, rfl, rfl, rfl, rfl, rfl, ⟨bounds_u32 w0, bounds_u16 w1, b4, b5⟩, i4, i5⟩
theorem ac_of {n : Nat} {cs : List Value} {y : DataW H × List MemPlace} (hl : cs.length = 4) (hf : DataW.trod enc Try.prog W 0 (fun _ => true) true n 101 cs = some y) : ∃ x, cs = cAc x ∧ x.Ok := by
  match cs, hl with
  | [a0, a1, a2, a3], _ =>
    obtain ⟨xs, m, _, _, _, hl, hg⟩ := DataW.trod_struct Try.underlying101 hf
    have h0 := hg 0 _ rfl
    have h1 := hg 1 _ rfl
    have h2 := hg 2 _ rfl
    have h3 := hg 3 _ rfl
    simp [c8, c32, c64] at h0 h1 h2 h3 hl
    obtain ⟨x0, rfl, w0⟩ := one_int' Try.underlying47 h0 (some_at' (by omega))
    obtain ⟨x1, rfl, w1⟩ := one_int' Try.underlying30 h1 (some_at' (by omega))
    obtain ⟨x2, rfl, w2⟩ := one_int' Try.underlying30 h2 (some_at' (by omega))
    obtain ⟨x3, rfl, w3⟩ := one_int' Try.underlying5 h3 (some_at' (by omega))
    exact ⟨⟨x0, x1, x2, x3⟩, rfl, bounds_u32 w0, bounds_u64 w1, bounds_u64 w2, bounds_u8 w3⟩
theorem dt_of {n : Nat} {cs : List Value} {y : DataW H × List MemPlace} (hl : cs.length = 2) (hf : DataW.trod enc Try.prog W 0 (fun _ => true) true n 103 cs = some y) : ∃ x, cs = cDt x ∧ x.Ok := by
  match cs, hl with
  | [a0, a1], _ =>
    obtain ⟨xs, m, _, _, _, hl, hg⟩ := DataW.trod_struct Try.underlying103 hf
    have h0 := hg 0 _ rfl
    have h1 := hg 1 _ rfl
    simp [c32, c64] at h0 h1 hl
    obtain ⟨x0, rfl, w0⟩ := one_int' Try.underlying47 h0 (some_at' (by omega))
    obtain ⟨x1, rfl, w1⟩ := one_int' Try.underlying30 h1 (some_at' (by omega))
    exact ⟨⟨x0, x1⟩, rfl, bounds_u32 w0, bounds_u64 w1⟩
end
end Go.Proofs.Yteggcehjpfmikaa.Rec
namespace Go.Proofs.Mem
open Go.RowKit Go.WideShapes
set_option linter.unusedVariables false
section
variable {α : Type} {F : α → List Value} {sz : Nat}
theorem SS.take {w : World} {B : Nat} {A : Option Addr} {n c : Nat} {xs : List α} (h : SS F sz w B (.slice A n c) xs) (k : Nat) (hk : k ≤ xs.length) : SS F sz w B (.slice A k c) (xs.take k) := by
  obtain ⟨A', c', e, h1, h2, h3⟩ := h
  injection e with e1 e2 e3
  subst e1 e3
  refine ⟨A, c, by rw [List.length_take, Nat.min_eq_left hk], by rw [List.length_take]; omega, h2, fun i x hx => ?_⟩
  rw [List.getElem?_take] at hx
  split at hx
  · exact h3 i x hx
  · cases hx
theorem wpList_append_ss {P : Program} (w : World) {ops : Array Oper} {rest : List Oper} {o : Oper} {a : Act} {Q : Exit → Act → World → Prop} (hgd : o.guard = none) (s x : Operand) (t : TypeId)
    (ho : o.op = .call { callee := .builtin .append, args := #[s, x], argTypes := #[t, t] })
    (base : Nat) (e : TypeId) (i : TypeInfo) (z : Value) (bytes : Nat) (ht : P.underlying t = some (.slice e)) (hi : P.info? e = some i) (hz : i.zero = some z)
    (hsize : i.size = sz) (hby : i.bytes = bytes) (hzs : z.cells.size = sz) (hsz : 0 < sz) (hF : ∀ y, (F y).length = sz) (h1 : ∀ y : α, ∀ u ∈ F y, u.oneCell' = true)
    (v : Value) (xs : List α) (hs : a.eval s = v) (hown : w.ownsRow base e sz v xs.length (xs.flatMap F))
    (B : Nat) (u : Value) (ys : List α) (hx : a.eval x = u) (hr : SS F sz w B u ys) (h63 : xs.length + ys.length ≤ maxLen) (hbytes : (xs.length + ys.length) * bytes ≤ 140737488355328) (hbase : base ≤ w.heap.size)
    (h : ∀ v' w', w'.ownsRow base e sz v' (xs ++ ys).length ((xs ++ ys).flatMap F) → RowTo w w' v v' → wpList P ops Q rest (a.put o.dst v') w') : wpList P ops Q (o :: rest) a w := by
  refine wpList_plain hgd fun K hK' => ?_
  obtain ⟨A, c, rfl, hc1, hc2, hat⟩ := hr
  cases A with
  | none =>
    obtain rfl : ys = [] := by
      cases ys with
      | nil => rfl
      | cons y0 ys =>
        obtain ⟨_, _, e', _⟩ := hat 0 y0 rfl
        cases e'
    have hrun : (Builtin.append_ #[t, t] o.type #[v, .slice none 0 c]).run P w = .ok v w := by
      rcases hown.2 with ⟨rfl, hn⟩ | ⟨g, cap, cur, rfl, _, _, hnc, _⟩
      · simp [Builtin.append_, run_underlying ht, sizeOf, typeInfo, hi, Builtin.lenOf, Builtin.firstCells]
      · simp [Builtin.append_, run_underlying ht, sizeOf, typeInfo, hi, Builtin.lenOf, Builtin.firstCells, hnc, storeCells]
    unfold Oper.wp
    simp [execOp, ho, resolve, invoke, builtin, hs, hx, hrun, Result.andThen]
    exact hK' _ _ (h v w (by simpa using hown) (RowTo.refl _ _))
  | some ad =>
    obtain ⟨v', w', hrun, h2, h3, _, h5⟩ := run_append_own_at (P := P) (w := w) base t o.type e i z sz bytes ht hi hz hsize hby hzs hsz v xs.length _ hown ad ys.length c (ys.flatMap F) (flat_len hF _) (by
      intro j u' hj
      have hjl : j < ys.length * sz := by
        rw [← flat_len hF]
        exact (List.getElem?_eq_some_iff.1 hj).1
      have hi : j / sz < ys.length := Nat.div_lt_of_lt_mul (by rw [Nat.mul_comm]; exact hjl)
      have hyi := List.getElem?_eq_getElem hi
      obtain ⟨b', off', e', _, hc⟩ := hat _ _ hyi
      injection e' with e'
      subst e'
      have hjj : j / sz * sz + j % sz = j := Nat.div_add_mod' j sz
      rw [← hjj, flat_at hF _ _ _ _ hyi (Nat.mod_lt _ hsz)] at hj
      rw [Go.WideShapes.add_plain, ← hc _ _ hj]
      congr 2
      omega) (fun u' hu => by
      obtain ⟨y, _, hy⟩ := List.mem_flatMap.1 hu
      exact h1 y u' hy) h63 hbytes hbase
    unfold Oper.wp
    simp [execOp, ho, resolve, invoke, builtin, hs, hx, hrun, Result.andThen]
    exact hK' _ _ (h v' w' (by rw [List.length_append, List.flatMap_append]; exact h2) (RowTo.app h3 h5))
end
end Go.Proofs.Mem
