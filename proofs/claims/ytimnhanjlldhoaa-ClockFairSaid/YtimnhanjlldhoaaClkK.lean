import Derived.Test.YtimnhanjlldhoaaClkJ
import Derived.Test.YtimnhanjlldhoaaClkOpen
import Derived.Deep.RegionWith
import Derived.Outline
/- A clock that was played. -/
namespace Go.Proofs.Ytimnhanjlldhoaa.Clk
open Go.ChangeShapes Go.WideShapes Go.ChangeAt Go.RowKit Go.IntWalk Go.Proofs.Mem Go.Proofs.Clk
set_option linter.unusedVariables false
def RunP (N : Nat) (B : Int) (w : World) (e : Ending) (w' : World) : Prop :=
  ∃ g gf l h, e = .returned (.pointer (some ⟨g, 0, none⟩)) ∧ CK w' g gf l h ∧ l.length = N ∧ h < N ∧ Oks B l ∧ (w.heap.size ≤ g ∧ w.heap.size ≤ gf) ∧ Below w.heap.size w w'
def many (n : Int) : Nat := ((if 0 ≤ n then n else 0) % 64).toNat + 1
theorem new_at (w : World) (a : Int) (n : Nat) (ha : a = n) (hn : 1 ≤ n ∧ n ≤ 64) : Calls Try.prog 8 #[.int .i64 a] w fun e w' =>
    ∃ g gf, e = .returned (.pointer (some ⟨g, 0, none⟩)) ∧ CK w' g gf (List.replicate n z3) 0 ∧ w.heap.size ≤ g ∧ w.heap.size ≤ gf ∧ Below w.heap.size w w' := by subst ha; exact new_is w n hn
theorem many_le (n : Int) : 1 ≤ many n ∧ many n ≤ 64 := by unfold many; omega
theorem run_loop_keep {w wr w1 : World} {B : Nat} {v : Value} {xl : List Cl} (h : SS cCl 2 w B v xl) (hb : Below B w wr) (hb1 : Below wr.drew.heap.size wr.drew w1) (hB : B ≤ wr.heap.size) : SS cCl 2 w1 B v xl :=
  (h.below hb).below (w := wr) (((Below.refl B wr).trans (Below.drew (Below.refl B wr))).trans (hb1.mono hB))
theorem new_lone (w : World) (B0 g gf h : Nat) (l : List Fm) (C : CK w g gf l h) (hw : B0 ≤ w.heap.size) (hb : B0 ≤ g ∧ B0 ≤ gf) :
    Calls Try.prog 9 #[.int .i64 1] w fun e w' => ∃ r ra rb rc, e = .returned (.pointer (some ⟨r, 0, none⟩)) ∧ Two w' g gf l h r ra rb rc (List.replicate 1 z3) 0 ∧
      (B0 ≤ g ∧ B0 ≤ gf ∧ B0 ≤ r ∧ B0 ≤ ra ∧ B0 ≤ rb ∧ B0 ≤ rc) ∧ B0 ≤ w'.heap.size ∧ Below B0 w w' ∧ Below w.heap.size w w' := by
  refine (ref_is w 1 (by decide)).mono ?_
  rintro e w2 ⟨r, ra, rb, rc, rfl, d2, hge, hb2⟩
  have lt1 := C.top.lt
  have lt2 := C.fs.lt
  have := hb2.size
  exact ⟨r, ra, rb, rc, rfl, Two.mk (C.later hb2) d2 ⟨by omega, by omega, by omega, by omega⟩ ⟨by omega, by omega, by omega, by omega⟩, by omega, by omega, hb2.mono hw, hb2⟩
/-- a call beside a clock of one frame that was just made -/
theorem does_lone (w : World) (B0 N g gf h r ra rb rc : Nat) (l : List Fm) (j : Nat) (t : Two w g gf l h r ra rb rc (List.replicate 1 z3) 0) (ho : l.length = N ∧ h < N ∧ Oks j l) (hN : N ≤ 64) (hj : j ≤ 1000)
    (hb : B0 ≤ g ∧ B0 ≤ gf ∧ B0 ≤ r ∧ B0 ≤ ra ∧ B0 ≤ rb ∧ B0 ≤ rc) (hw : B0 ≤ w.heap.size) (i kd : Int) (h0 : 0 ≤ kd ∧ kd ≤ 255) :
    Calls Try.prog 10 #[.pointer (some ⟨g, 0, none⟩), .pointer (some ⟨r, 0, none⟩), .agg #[.int .u8 kd, .int .i64 i]] w fun e w' =>
      ∃ q l' h', e = .returned (.bool q) ∧ CK w' g gf l' h' ∧ (l'.length = N ∧ h' < N ∧ Oks ((j + 1 : Nat) : Int) l') ∧ Below B0 w w' := by
  refine (does_any w g gf h r ra rb rc 0 l (List.replicate 1 z3) j t (by omega) (by simp) (by omega) (by simp) ho.2.2 (fun f hf => by rw [List.eq_of_mem_replicate hf]; exact z3_ok _ (by omega)) (by omega) i kd h0).mono ?_
  rintro e w3 ⟨q, l', h', m', k', rfl, t', f', e1, e2, e3, e4, e5, e6, e7⟩
  exact ⟨q, l', h', rfl, t'.c, ⟨by omega, by omega, e5⟩, f'.to_below (by rintro x ((rfl | rfl) | (rfl | rfl | rfl | rfl)) <;> omega) hw⟩
set_option maxRecDepth 100000 in
set_option maxHeartbeats 8000000 in
theorem run_any (w : World) (n : Int) (A : Option Addr) (c : Nat) (xl : List Cl) (hcm : c ≤ 9223372036854775807) (hlc : xl.length ≤ c) (hl : SS cCl 2 w w.heap.size (.slice A xl.length c) xl) (bl : ∀ o ∈ xl, o.Ok) (hlen : xl.length ≤ 200) (hn : -9223372036854775808 ≤ n ∧ n ≤ 9223372036854775807) :
    Calls Try.prog 13 #[.int .i64 n, .slice A xl.length c] w (RunP (many n) xl.length w) := by
  have HL := Lib.hid hl
  have BL := Lib.hid bl
  clear hl bl
  have hmn := many_le n
  have HN := Lib.hid hmn
  have NI := Lib.hid (fun (a : Int) (ha : a = (many n : Int)) (W : World) => new_at W a (many n) ha hmn)
  have RI := Lib.hid (fun W => ref_is W 1 (by decide))
  have hr : 1 + (if 0 ≤ n then n else 0) % 64 = (many n : Int) := by unfold many; omega
  by_cases h0 : 0 ≤ n
  all_goals
    (first | rw [if_pos h0] at hr | rw [if_neg h0] at hr)
    generalize many n = N at *
    have HR := Lib.hid hr
    clear hr
    go_enter Try.func13, Try.ntmps13
    go_wp2_with fail
    (with_reducible refine (NI.out _ (by have := HR.out; omega) _).mono ?_)
    rintro e w1 ⟨g, gf, rfl, c1, hg, hgf, hb1⟩
    have C1 := Lib.hid c1
    have G1 := Lib.hid (And.intro hg hgf)
    have HB1 := Lib.hid hb1
    clear c1 hg hgf hb1
    go_wp2
    go_loopw [6] (fun i wr => ∃ (j : Nat) (l : List Fm) (h : Nat), i = .int .i64 j ∧ j ≤ xl.length ∧ Hid (CK wr g gf l h) ∧ Hid (l.length = N ∧ h < N ∧ Oks j l) ∧ Hid (Below w.heap.size w wr)) (fun i _ => xl.length - (intOf i).toNat)
    case atStart => exact ⟨0, _, 0, rfl, by omega, C1, Lib.hid ⟨by simp, by have := HN.out; omega, fun f hf => by rw [List.eq_of_mem_replicate hf]; exact z3_ok _ (by omega)⟩, HB1⟩
    case round =>
      obtain ⟨j, l, h, rfl, hj, HC, HO, HBL⟩ := hrel
      have hk1 := HN.out
      have hl64 : l.length ≤ 64 := by have := HO.out.1; omega
      have hhl : h < l.length := by have := HO.out.1; have := HO.out.2.1; omega
      by_cases hlt : j < xl.length
      · obtain ⟨b, off, rfl, hb, hcell⟩ := (HL.out.below HBL.out).at_ (List.getElem?_eq_getElem hlt)
        have y0 : wr.cell? ⟨b, off + j * 2, none⟩ = some (.int .u8 xl[j].k) := hcell 0 _ rfl
        have y1 : wr.cell? ⟨b, off + j * 2 + 1, none⟩ = some (.int .i64 xl[j].i) := hcell 1 _ rfl
        have hok := (BL.out xl[j] (List.getElem_mem hlt)).1
        have HOK := Lib.hid hok
        generalize xl[j].k = ok at *
        generalize xl[j].i = oi at *
        clear hcell hok
        have CD := Lib.hid (HC.out.drew)
        have HW := Lib.hid (show w.heap.size ≤ wr.drew.heap.size from HBL.out.size)
        have hk2 := hk1.2
        go_wp2
        go_region_with (first
          | (refine (new_lone _ w.heap.size g gf h l CD.out HW.out G1.out).mono ?_
             rintro e w2 ⟨r, ra, rb, rc, rfl, t2, hx, hs, hb2, hb3⟩
             have T2 := Lib.hid t2
             have HX := Lib.hid hx
             have HS := Lib.hid hs
             have z0 : w2.cell? ⟨b, off + j * 2, none⟩ = some (.int .u8 ok) := (hb2.cell (p := ⟨b, off + j * 2, none⟩) hb).trans y0
             have z1 : w2.cell? ⟨b, off + j * 2 + 1, none⟩ = some (.int .i64 oi) := (hb2.cell (p := ⟨b, off + j * 2 + 1, none⟩) hb).trans y1
             have HB3 := Lib.hid ((HBL.out.trans (Below.drew (Below.refl w.heap.size wr))).trans hb2)
             clear t2 hx hs hb2 hb3)
          | (refine (does_lone _ w.heap.size N g gf h r ra rb rc l j T2.out HO.out hk1.2 (by omega) HX.out HS.out oi ok HOK.out).mono ?_
             rintro e w3 ⟨q, l', h', rfl, c', ho', f'⟩
             have C' := Lib.hid c'
             have HO' := Lib.hid ho'
             have HB' := Lib.hid (HB3.out.trans f')
             clear c' ho' f'))
        all_goals
          go_wp2
          go_roundw
          case rel => exact ⟨j + 1, l', h', by go_num, by omega, C', HO', HB'⟩
          case measure => simp [intOf]; omega
      · have hje : j = xl.length := by omega
        go_wp2
        go_ret
        exact ⟨g, gf, l, h, rfl, HC.out, HO.out.1, HO.out.2.1, by rw [← hje]; exact HO.out.2.2, by have := G1.out; omega, HBL.out⟩
end Go.Proofs.Ytimnhanjlldhoaa.Clk
