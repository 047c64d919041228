import Derived.Test.YtpndcpmfcajmdaaLk1
/- Locks: who holds a key; who fits beside them. -/
namespace Go.Proofs.Ytpndcpmfcajmdaa.Lock
open Go.ChangeShapes Go.WideShapes Go.ChangeAt Go.RowKit Go.IntWalk Go.Proofs.Mem
set_option linter.unusedVariables false
set_option linter.unusedSimpArgs false
def U32 (x : Int) : Prop := 0 ≤ x ∧ x ≤ 4294967295
theorem ku_ok {x : Int} : KU.ok x ↔ U32 x := by
  have a1 : IntKind.u32.min = 0 := by decide
  have a2 : IntKind.u32.max = 4294967295 := by decide
  show (Lit.int .u32 x).wf = true ↔ _
  simp [Lit.wf, a1, a2, U32]
set_option maxRecDepth 100000 in
set_option maxHeartbeats 4000000 in
theorem holds_any (w : World) (e m n : Nat) (lv : Value) (h : Int → Option Int) (txn : Int) (hb : Box w e #[.map (some m), lv] 86) (hf : FM KU VM w m n h) (ht : U32 txn) :
    Calls Try.prog 48 #[.pointer (some ⟨e, 0, none⟩), .int .u32 txn] w fun r w' => r = .returned (.bool (h txn).isSome) ∧ w = w' := by
  have lk := (hf.look (t := 83) Try.underlying83 0 (zeroM w) txn (ku_ok.2 ht)).2
  obtain ⟨q, hq⟩ : ∃ q, (h txn).isSome = q := ⟨_, rfl⟩
  obtain ⟨v, hv⟩ : ∃ v, VM.ev ((h txn).getD 0) = v := ⟨_, rfl⟩
  rw [hq, hv] at lk
  rw [hq]
  have lk2 : (Instr.lookup 83 (.map (some m)) (.int .u32 txn) true).run Try.prog w = .ok (.tuple #[v, .bool q]) w := lk
  have c0 : w.cell? ⟨e, 0, none⟩ = some (.map (some m)) := by rw [hb.cell 0]; rfl
  clear hf hb lk hv hq
  go_enter Try.func48, Try.ntmps48
  go_wp2
  go_ret
  exact ⟨rfl, rfl⟩
open Classical in
/-- may txn hold with this mode beside those who hold? -/
noncomputable def fit (h : Int → Option Int) (txn mode : Int) : Bool := decide (∀ x md, h x = some md → x = txn ∨ tog md mode = true)
open Classical in
theorem fit_true {h : Int → Option Int} {txn mode : Int} (H : ∀ x md, h x = some md → x = txn ∨ tog md mode = true) : fit h txn mode = true := decide_eq_true H
open Classical in
theorem fit_false {h : Int → Option Int} {txn mode x md : Int} (hx : h x = some md) (h1 : x ≠ txn) (h2 : tog md mode = false) : fit h txn mode = false :=
  decide_eq_false (fun H => (H x md hx).elim h1 (fun e => by rw [h2] at e; cases e))
set_option maxRecDepth 100000 in
set_option maxHeartbeats 4000000 in
theorem fits_any (w : World) (e m n : Nat) (lv : Value) (h : Int → Option Int) (txn mode : Int) (hb : Box w e #[.map (some m), lv] 86) (he : e < w.heap.size) (hf : FM KU VM w m n h) (hok : ∀ x md, h x = some md → U32 x) :
    Calls Try.prog 34 #[.pointer (some ⟨e, 0, none⟩), .agg #[.int .u32 txn, .int .u8 mode]] w fun r w' => r = .returned (.bool (fit h txn mode)) ∧ Below w.heap.size w w' := by
  obtain ⟨F, hF⟩ : ∃ F, F = fit h txn mode := ⟨_, rfl⟩
  rw [← hF]
  have HF := Lib.hid hF
  have HB := Lib.hid (new_ (Below.refl w.heap.size w) (.cells #[.int .u32 txn, .int .u8 mode] 72))
  have HM := Lib.hid (hf.later (new_ (Below.refl w.heap.size w) (.cells #[.int .u32 txn, .int .u8 mode] 72)))
  have HX := Lib.hid (Box.new w #[.int .u32 txn, .int .u8 mode] 72)
  have c0 : (w.alloc (.cells #[.int .u32 txn, .int .u8 mode] 72)).cell? ⟨e, 0, none⟩ = some (.map (some m)) := by
    rw [(new_ (Below.refl w.heap.size w) (.cells #[.int .u32 txn, .int .u8 mode] 72)).cell (p := ⟨e, 0, none⟩) he, hb.cell 0]; rfl
  have HOK := Lib.hid hok
  have HTG := Lib.hid (fun (W : World) (a : Int) => together_any W a mode)
  clear hF hb hf hok
  go_enter Try.func34, Try.ntmps34
  go_wp2_with (first
    | (at_range; refine wpList_range_fm (E := KU) (V := VM) rfl _ _ rfl _ Try.underlying83 rfl HM.out ?_; intro w1 cnt hfr hcnt hbw hsz))
  have HB1 := Lib.hid (HB.out.trans (hbw.mono HB.out.size))
  have HX1 := Lib.hid (HX.out.below hbw (by simp))
  obtain ⟨r, hr⟩ : ∃ r, r = (w.alloc (.cells #[.int .u32 txn, .int .u8 mode] 72)).heap.size := ⟨_, rfl⟩
  rw [← hr] at hfr ⊢
  have HF1 := Lib.hid hfr
  have HRR := Lib.hid (show w.heap.size < r by rw [hr]; simp)
  clear hfr hcnt hbw hsz hr HB HX c0
  go_frame
  go_loopw [5, 6] (fun _ _ wr => ∃ (left : Int → Bool) (cnt : Nat), Hid (FR KU VM wr m r n h left cnt) ∧ Hid (∀ x md, left x = false → h x = some md → x = txn ∨ tog md mode = true) ∧ Hid (Box wr w.heap.size #[.int .u32 txn, .int .u8 mode] 72) ∧ Hid (Below w.heap.size w wr)) (fun _ _ wr => wr.rangeLeft m r)
  case atStart => exact ⟨_, _, HF1, Lib.hid (fun x md h1 h2 => by rw [h2] at h1; cases h1), HX1, HB1⟩
  case round =>
    obtain ⟨left, cnt, HFR, HDN, HX2, HB2⟩ := hrel
    obtain ⟨w2, rfl⟩ : ∃ w2, w2 = wr := ⟨wr, rfl⟩
    clear HF1 HX1 HB1
    go_wp2_with (first
      | (at_next; refine wpList_next_fm (E := KU) (V := VM) rfl _ rfl rfl HFR.out ?_ ?_))
    · intro hl0
      have FF := Lib.hid (show F = true by
        rw [HF.out]
        exact fit_true (fun x md hx => HDN.out x md (hl0 x (ku_ok.2 (HOK.out x md hx))) hx))
      clear hl0
      go_wp2
      go_ret
      exact ⟨by rw [FF.out]; rfl, HB2.out⟩
    · intro x md w3 cnt' hx hlx hfx hfr3 hlt hF3 hsz3 hen
      have ek : KU.kv x = .int .u32 x := rfl
      have em : VM.ev md = .int .u8 md := rfl
      rw [ek, em] at hen
      rw [ek, em]
      clear ek em
      have HX3 := Lib.hid (HX2.out.fr hF3 (by have := HRR.out; omega))
      have HB3 := Lib.hid (HB2.out.trans (hF3.to_below (fun g e => by have := HRR.out; omega) HB2.out.size))
      have k1 : w3.cell? ⟨w.heap.size, 0, none⟩ = some (.int .u32 txn) := by rw [HX3.out.cell 0]; rfl
      have k2 : w3.cell? ⟨w.heap.size, 1, none⟩ = some (.int .u8 mode) := by rw [HX3.out.cell 1]; rfl
      have HFR3 := Lib.hid hfr3
      have HLT := Lib.hid (⟨hlt, HFR.out.left_eq, hfr3.left_eq⟩ : cnt' < cnt ∧ w2.rangeLeft m r = cnt ∧ w3.rangeLeft m r = cnt')
      have HHX := Lib.hid hfx
      have CT := Lib.hid (HTG.out w3 md)
      obtain ⟨tg, htg⟩ : ∃ q, q = tog md mode := ⟨_, rfl⟩
      rw [← htg] at CT
      have HTT := Lib.hid htg
      clear hfr3 hlt hF3 hsz3 hfx hlx hx htg
      by_cases hxt : x = txn
      · have d1 : decide (x = txn) = true := decide_eq_true hxt
        have d1' : (x != txn) = false := by simp [hxt]
        have HXT := Lib.hid hxt
        clear hxt
        go_wp2
        go_roundw
        case rel => exact ⟨but left x, cnt', HFR3, Lib.hid (fun y md' hy hmd => by
          by_cases e : y = x
          · left; rw [e]; exact HXT.out
          · refine HDN.out y md' ?_ hmd
            simpa [but, e] using hy), HX3, HB3⟩
        case measure => rw [HLT.out.2.1, HLT.out.2.2]; exact HLT.out.1
      · have d1 : decide (x = txn) = false := decide_eq_false hxt
        have d1' : (x != txn) = true := by simpa using hxt
        have HXT := Lib.hid hxt
        clear hxt
        go_wp2_with fail
        (with_reducible refine CT.out.mono ?_)
        rintro e w4 ⟨rfl, rfl⟩
        cases tg with
        | true =>
          go_wp2
          go_roundw
          case rel => exact ⟨but left x, cnt', HFR3, Lib.hid (fun y md' hy hmd => by
            by_cases e : y = x
            · right; subst e; rw [HHX.out] at hmd; injection hmd with hmd; rw [← hmd]; exact HTT.out.symm
            · refine HDN.out y md' ?_ hmd
              simpa [but, e] using hy), HX3, HB3⟩
          case measure => rw [HLT.out.2.1, HLT.out.2.2]; exact HLT.out.1
        | false =>
          have FF := Lib.hid (show F = false by rw [HF.out]; exact fit_false HHX.out HXT.out HTT.out.symm)
          go_wp2
          go_ret
          exact ⟨by rw [FF.out]; rfl, HB3.out⟩
end Go.Proofs.Ytpndcpmfcajmdaa.Lock
