import Derived.Test.YteggcehjpfmikaaWt9
import Derived.Test.YteggcehjpfmikaaWtE
import Derived.Deep.DeepCutAuto
namespace Go.Proofs.Yteggcehjpfmikaa.Rec
open Go.ChangeShapes Go.WideShapes Go.ChangeAt Go.RowKit Go.IntWalk Go.Proofs.NumMath Go.Proofs.Mem Go.Proofs.CrcMath NumBytes CrcA
set_option linter.unusedVariables false
set_option linter.unusedSimpArgs false
@[reducible] def nullC : Cg := ⟨0, 0, false, false, [], []⟩
def rFull (k t p n : Int) (c : Cg) (ts : List Ac) (ds : List Dt) (f : List Int) : Option Rc := if f = [] ∧ mayS ⟨k, t, p, n, c, ts, ds⟩ = true then some ⟨k, t, p, n, c, ts, ds⟩ else none
def rTail (k t p n : Int) (d : List Int) : Option Rc :=
  if k = 2 ∨ k = 3 then (match rChg d with | none => none | some (c, e) => rFull k t p n c [] [] e)
  else if k = 8 then (match rTab d with | none => none | some (ts, ds, e) => rFull k t p n nullC ts ds e)
  else rFull k t p n nullC [] [] d
def rBody (xs : List Int) : Option Rc :=
  match rNum 1 xs with
  | none => none
  | some (k, a) => match rNum 4 a with
    | none => none
    | some (t, b) => match rNum 8 b with
      | none => none
      | some (p, c) => match rNum 8 c with
        | none => none
        | some (n, d) => rTail k t p n d
def rDec (xs : List Int) : Option Rc :=
  match rNum 2 xs with
  | none => none
  | some (_, a) => match rNum 4 a with
    | none => none
    | some (s, b) => if s = tn (sumF 0#32 b) then rBody b else none
structure RcOwn (w : World) (base : Nat) (r : Rc) (a b ta da : Value) : Prop where
  a : w.ownsRow base 5 1 a r.c.xs.length (r.c.xs.map (.int .u8))
  b : w.ownsRow base 5 1 b r.c.ys.length (r.c.ys.map (.int .u8))
  t : w.ownsRow base 101 4 ta r.ts.length (r.ts.flatMap cAc)
  d : w.ownsRow base 103 2 da r.ds.length (r.ds.flatMap cDt)
theorem RcOwn.in_ {w : World} {base : Nat} {r : Rc} {a b ta da : Value} (h : RcOwn w base r a b ta da) : RcIn w w.heap.size r a b ta da := ⟨IR.of_own h.a, IR.of_own h.b, SS.of_own cAc_len h.t, SS.of_own cDt_len h.d⟩
theorem RcOwn.later {w w' : World} {base : Nat} {r : Rc} {a b ta da : Value} (h : RcOwn w base r a b ta da) (hb : Below w.heap.size w w') : RcOwn w' base r a b ta da := ⟨own_below h.a hb, own_below h.b hb, own_below h.t hb, own_below h.d hb⟩
theorem RcOwn.lower {w : World} {base base' : Nat} {r : Rc} {a b ta da : Value} (h : RcOwn w base r a b ta da) (hb : base' ≤ base) : RcOwn w base' r a b ta da := ⟨own_lower h.a hb, own_lower h.b hb, own_lower h.t hb, own_lower h.d hb⟩
theorem RcOwn.far {w : World} {base : Nat} {r : Rc} {a b ta da : Value} (h : RcOwn w base r a b ta da) {p : Addr} (hp : p.block < base) (u : Value) : RcOwn (w.setCell p u) base r a b ta da := ⟨own_set_far h.a hp u, own_set_far h.b hp u, own_set_far h.t hp u, own_set_far h.d hp u⟩
def DecPost (w : World) (xs : List Int) (e : Ending) (w' : World) : Prop :=
  match rDec xs with
  | none => e = .returned (.tuple #[.agg (bareC 0 0 0 0), .bool false]) ∧ Below w.heap.size w w'
  | some r => ∃ a b ta da, e = .returned (.tuple #[.agg (rcV r a b ta da), .bool true]) ∧ RcOwn w' w.heap.size r a b ta da ∧ Below w.heap.size w w'
theorem DecPost.no {w w' : World} {xs : List Int} (h : rDec xs = none) (hb : Below w.heap.size w w') : DecPost w xs (.returned (.tuple #[.agg (bareC 0 0 0 0), .bool false])) w' := by
  unfold DecPost; rw [h]; exact ⟨rfl, hb⟩
set_option maxRecDepth 100000 in
set_option maxHeartbeats 32000000 in
theorem decode_any (w : World) (B : Nat) (hB : B ≤ w.heap.size) (v : Value) (xs : List Int) (hv : IR w B .u8 v xs) (hx : Bytes xs) (hxl : xs.length ≤ 100000) :
    Calls Try.prog 78 #[v] w (DecPost w xs) := by
  have hmf : ∀ (fn : Fn) (first cap : Array Value) (w : World), (Instr.makeFunc fn first cap).run Try.prog w = .ok (.func fn first cap) w := fun _ _ _ _ => rfl
  obtain ⟨A0, c0, hv0, hl0, hm0⟩ := hv.form
  obtain ⟨mr, mk, mg⟩ := made3 w B hB _ _ hv
  obtain ⟨L0, hL0⟩ : ∃ L, L = xs.length := ⟨_, rfl⟩
  rw [← hL0] at hv0
  subst hv0
  have BR := Lib.hid mr
  have BK := Lib.hid mk
  have RD := Lib.hid mg
  have FR := Lib.hid ((((Fr.refl (fun x => w.heap.size ≤ x) w).alloc (.cells (bareC 0 0 0 0) 54)).alloc (.cells #[.bool false] 4)).alloc (.cells #[.slice A0 L0 c0] 151))
  have HX := Lib.hid hx
  have HXL := Lib.hid hxl
  have HBB := Lib.hid hB
  clear mr mk mg hv hL0 hl0 hm0 hx hxl hB
  go_enter_defers Try.func78, Try.ntmps78
  go_wp2_with fail
  cases e_a : rNum 2 xs with
  | none =>
    have HN := Lib.hid (show rDec xs = none by simp [rDec, rBody, e_a])
    (with_reducible refine (num_none _ _ _ _ _ RD.out 2 2 rfl (by decide) e_a).mono ?_)
    rintro e z ⟨rfl, rfl⟩
    clear e_a
    refine leaves_cons (f := 87) (args := #[.pointer (some ⟨w.heap.size, 0, none⟩), .pointer (some ⟨w.heap.size + 1, 0, none⟩)]) (by simp) (by simp [go_sem]) ?_
    obtain ⟨Cz, hcz, hcs⟩ := out_size BR.out
    refine (catch_panic w.heap.size (w.heap.size + 1) (by omega) Cz _ hcs hcz false BK.out).mono ?_
    rintro en u' w'' ⟨rfl, rfl, hb, hk, hf⟩
    have hfin := FR.out.trans' hf (fun x _ hx => by rcases hx with hx | hx <;> omega)
    have q0 : w''.cell? ⟨w.heap.size, 0, none⟩ = some (.int .u8 0) := hb.cell 0
    have q1 : w''.cell? ⟨w.heap.size, 1, none⟩ = some (.int .u32 0) := hb.cell 1
    have q2 : w''.cell? ⟨w.heap.size, 2, none⟩ = some (.int .u64 0) := hb.cell 2
    have q3 : w''.cell? ⟨w.heap.size, 3, none⟩ = some (.int .u64 0) := hb.cell 3
    have q4 : w''.cell? ⟨w.heap.size, 4, none⟩ = some (.int .u32 0) := hb.cell 4
    have q5 : w''.cell? ⟨w.heap.size, 5, none⟩ = some (.int .u16 0) := hb.cell 5
    have q6 : w''.cell? ⟨w.heap.size, 6, none⟩ = some (.bool false) := hb.cell 6
    have q7 : w''.cell? ⟨w.heap.size, 7, none⟩ = some (.bool false) := hb.cell 7
    have q8 : w''.cell? ⟨w.heap.size, 8, none⟩ = some (.slice none 0 0) := hb.cell 8
    have q9 : w''.cell? ⟨w.heap.size, 9, none⟩ = some (.slice none 0 0) := hb.cell 9
    have q10 : w''.cell? ⟨w.heap.size, 10, none⟩ = some (.slice none 0 0) := hb.cell 10
    have q11 : w''.cell? ⟨w.heap.size, 11, none⟩ = some (.slice none 0 0) := hb.cell 11
    have qk : w''.cell? ⟨w.heap.size + 1, 0, none⟩ = some (.bool false) := hk.cell 0
    have HFIN := Lib.hid hfin
    clear hb hk hf hfin hcz hcs
    refine ⟨.tuple #[.agg (bareC 0 0 0 0), .bool false], ?_, DecPost.no HN.out (HFIN.out.to_below (fun x hx => hx) (Nat.le_refl _))⟩
    simp [results, Try.results78, go_sem, q0, q1, q2, q3, q4, q5, q6, q7, q8, q9, q10, q11, qk, bareC]
  | some p =>
    obtain ⟨len_, ya⟩ := p
    have b0_ := rNum_bytes e_a HX.out
    have HBa := Lib.hid b0_
    have bd_a := rNum_bd (by decide) e_a HX.out
    rw [show (2 : Int) ^ (8 * 2) = 65536 from rfl] at bd_a
    have LLa := Lib.hid (show ya.length ≤ xs.length by rw [(rNum_some e_a).2.2]; simp)
    (with_reducible refine (num_some _ _ _ _ _ _ _ RD.out HX.out 2 2 rfl e_a).mono ?_)
    rintro e x_a ⟨rfl, ⟨v_a, rd⟩, fr⟩
    have BR' := Lib.hid (BR.out.fr fr (by omega))
    have BK' := Lib.hid (BK.out.fr fr (by omega))
    have FR' := Lib.hid (FR.out.trans' fr (fun x _ hx => by rw [hx]; omega))
    clear BR BK FR
    have BR := BR'
    have BK := BK'
    have FR := FR'
    clear BR' BK' FR'
    have RD' := Lib.hid rd
    clear RD
    have RD := RD'
    clear RD' rd fr b0_
    have He_a := Lib.hid e_a
    clear e_a
    go_wp2_with fail
    cases e_b : rNum 4 ya with
    | none =>
      have HN := Lib.hid (show rDec xs = none by simp [rDec, rBody, He_a.out, e_b])
      (with_reducible refine (num_none _ _ _ _ _ RD.out 4 4 rfl (by decide) e_b).mono ?_)
      rintro e z ⟨rfl, rfl⟩
      clear e_b
      refine leaves_cons (f := 87) (args := #[.pointer (some ⟨w.heap.size, 0, none⟩), .pointer (some ⟨w.heap.size + 1, 0, none⟩)]) (by simp) (by simp [go_sem]) ?_
      obtain ⟨Cz, hcz, hcs⟩ := out_size BR.out
      refine (catch_panic w.heap.size (w.heap.size + 1) (by omega) Cz _ hcs hcz false BK.out).mono ?_
      rintro en u' w'' ⟨rfl, rfl, hb, hk, hf⟩
      have hfin := FR.out.trans' hf (fun x _ hx => by rcases hx with hx | hx <;> omega)
      have q0 : w''.cell? ⟨w.heap.size, 0, none⟩ = some (.int .u8 0) := hb.cell 0
      have q1 : w''.cell? ⟨w.heap.size, 1, none⟩ = some (.int .u32 0) := hb.cell 1
      have q2 : w''.cell? ⟨w.heap.size, 2, none⟩ = some (.int .u64 0) := hb.cell 2
      have q3 : w''.cell? ⟨w.heap.size, 3, none⟩ = some (.int .u64 0) := hb.cell 3
      have q4 : w''.cell? ⟨w.heap.size, 4, none⟩ = some (.int .u32 0) := hb.cell 4
      have q5 : w''.cell? ⟨w.heap.size, 5, none⟩ = some (.int .u16 0) := hb.cell 5
      have q6 : w''.cell? ⟨w.heap.size, 6, none⟩ = some (.bool false) := hb.cell 6
      have q7 : w''.cell? ⟨w.heap.size, 7, none⟩ = some (.bool false) := hb.cell 7
      have q8 : w''.cell? ⟨w.heap.size, 8, none⟩ = some (.slice none 0 0) := hb.cell 8
      have q9 : w''.cell? ⟨w.heap.size, 9, none⟩ = some (.slice none 0 0) := hb.cell 9
      have q10 : w''.cell? ⟨w.heap.size, 10, none⟩ = some (.slice none 0 0) := hb.cell 10
      have q11 : w''.cell? ⟨w.heap.size, 11, none⟩ = some (.slice none 0 0) := hb.cell 11
      have qk : w''.cell? ⟨w.heap.size + 1, 0, none⟩ = some (.bool false) := hk.cell 0
      have HFIN := Lib.hid hfin
      clear hb hk hf hfin hcz hcs
      refine ⟨.tuple #[.agg (bareC 0 0 0 0), .bool false], ?_, DecPost.no HN.out (HFIN.out.to_below (fun x hx => hx) (Nat.le_refl _))⟩
      simp [results, Try.results78, go_sem, q0, q1, q2, q3, q4, q5, q6, q7, q8, q9, q10, q11, qk, bareC]
    | some p =>
      obtain ⟨s, yb⟩ := p
      have b0_ := rNum_bytes e_b HBa.out
      have HBb := Lib.hid b0_
      have bd_b := rNum_bd (by decide) e_b HBa.out
      rw [show (2 : Int) ^ (8 * 4) = 4294967296 from rfl] at bd_b
      have LLb := Lib.hid (show yb.length ≤ ya.length by rw [(rNum_some e_b).2.2]; simp)
      (with_reducible refine (num_some _ _ _ _ _ _ _ RD.out HBa.out 4 4 rfl e_b).mono ?_)
      rintro e x_b ⟨rfl, ⟨v_b, rd⟩, fr⟩
      have BR' := Lib.hid (BR.out.fr fr (by omega))
      have BK' := Lib.hid (BK.out.fr fr (by omega))
      have FR' := Lib.hid (FR.out.trans' fr (fun x _ hx => by rw [hx]; omega))
      clear BR BK FR
      have BR := BR'
      have BK := BK'
      have FR := FR'
      clear BR' BK' FR'
      have RD' := Lib.hid rd
      clear RD
      have RD := RD'
      clear RD' rd fr b0_
      have He_b := Lib.hid e_b
      clear e_b
      obtain ⟨A2, c2, e2, hl2, hm2⟩ := RD.out.ir.form
      obtain ⟨Lb, hLb⟩ : ∃ n, n = yb.length := ⟨_, rfl⟩
      rw [← hLb] at e2 hl2
      subst e2
      have HLb := Lib.hid hLb
      clear hLb
      unfold maxLen at hm2
      obtain ⟨C, hC⟩ : ∃ C, C = tn (sumF 0#32 yb) := ⟨_, rfl⟩
      have hCb := tn_bd (sumF 0#32 yb)
      rw [← hC] at hCb
      have wC := u64_wrap (x := C) (by omega) (by omega)
      have SU := Lib.hid (sum_one _ yb x_b (RD.out.ir.more (Nat.le_trans RD.out.le (Nat.le_of_lt RD.out.box.lt))) HBb.out)
      rw [← hC] at SU
      have HC := Lib.hid hC
      clear hC
      have kk := RD.out.box.cell
      obtain ⟨ds_, hds⟩ : ∃ q, q = !decide (s = C) := ⟨_, rfl⟩
      have d_s : (s != C) = ds_ := by rw [hds, bne_dec]
      have HDS := Lib.hid hds
      clear hds
      go_wp2_with fail
      (with_reducible refine SU.out.mono ?_)
      rintro e z ⟨rfl, rfl⟩
      have RD' := Lib.hid (RD.out.alloc (.cells #[.slice A2 Lb c2] 48))
      have BR' := Lib.hid (BR.out.alloc (.cells #[.slice A2 Lb c2] 48))
      have BK' := Lib.hid (BK.out.alloc (.cells #[.slice A2 Lb c2] 48))
      have FR' := Lib.hid (FR.out.alloc (.cells #[.slice A2 Lb c2] 48))
      have kk2 := RD'.out.box.cell
      clear RD BR BK FR
      have RD := RD'
      have BR := BR'
      have BK := BK'
      have FR := FR'
      clear RD' BR' BK' FR'
      cases ds_
      case true =>
        have HN := Lib.hid (show rDec xs = none by have := HDS.out; simp at this; rw [HC.out] at this; simp [rDec, He_a.out, He_b.out, this])
        go_wp2_with (go_at_call 89; (with_reducible refine (give_up _ _).mono ?_); rintro e z ⟨rfl, rfl⟩)
        refine leaves_cons (f := 87) (args := #[.pointer (some ⟨w.heap.size, 0, none⟩), .pointer (some ⟨w.heap.size + 1, 0, none⟩)]) (by simp) (by simp [go_sem]) ?_
        obtain ⟨Cz, hcz, hcs⟩ := out_size BR.out
        refine (catch_panic w.heap.size (w.heap.size + 1) (by omega) Cz _ hcs hcz false BK.out).mono ?_
        rintro en u' w'' ⟨rfl, rfl, hb, hk, hf⟩
        have hfin := FR.out.trans' hf (fun x _ hx => by rcases hx with hx | hx <;> omega)
        have q0 : w''.cell? ⟨w.heap.size, 0, none⟩ = some (.int .u8 0) := hb.cell 0
        have q1 : w''.cell? ⟨w.heap.size, 1, none⟩ = some (.int .u32 0) := hb.cell 1
        have q2 : w''.cell? ⟨w.heap.size, 2, none⟩ = some (.int .u64 0) := hb.cell 2
        have q3 : w''.cell? ⟨w.heap.size, 3, none⟩ = some (.int .u64 0) := hb.cell 3
        have q4 : w''.cell? ⟨w.heap.size, 4, none⟩ = some (.int .u32 0) := hb.cell 4
        have q5 : w''.cell? ⟨w.heap.size, 5, none⟩ = some (.int .u16 0) := hb.cell 5
        have q6 : w''.cell? ⟨w.heap.size, 6, none⟩ = some (.bool false) := hb.cell 6
        have q7 : w''.cell? ⟨w.heap.size, 7, none⟩ = some (.bool false) := hb.cell 7
        have q8 : w''.cell? ⟨w.heap.size, 8, none⟩ = some (.slice none 0 0) := hb.cell 8
        have q9 : w''.cell? ⟨w.heap.size, 9, none⟩ = some (.slice none 0 0) := hb.cell 9
        have q10 : w''.cell? ⟨w.heap.size, 10, none⟩ = some (.slice none 0 0) := hb.cell 10
        have q11 : w''.cell? ⟨w.heap.size, 11, none⟩ = some (.slice none 0 0) := hb.cell 11
        have qk : w''.cell? ⟨w.heap.size + 1, 0, none⟩ = some (.bool false) := hk.cell 0
        have HFIN := Lib.hid hfin
        clear hb hk hf hfin hcz hcs
        refine ⟨.tuple #[.agg (bareC 0 0 0 0), .bool false], ?_, DecPost.no HN.out (HFIN.out.to_below (fun x hx => hx) (Nat.le_refl _))⟩
        simp [results, Try.results78, go_sem, q0, q1, q2, q3, q4, q5, q6, q7, q8, q9, q10, q11, qk, bareC]
      case false =>
        have HSC := Lib.hid (show s = tn (sumF 0#32 yb) by have := HDS.out; simp at this; rw [this]; exact HC.out)
        go_wp2_with fail
        clear kk kk2 d_s
        cases e_c : rNum 1 yb with
        | none =>
          have HN := Lib.hid (show rDec xs = none by simp [rDec, rBody, He_a.out, He_b.out, HSC.out, e_c])
          (with_reducible refine (num_none _ _ _ _ _ RD.out 1 1 rfl (by decide) e_c).mono ?_)
          rintro e z ⟨rfl, rfl⟩
          clear e_c
          refine leaves_cons (f := 87) (args := #[.pointer (some ⟨w.heap.size, 0, none⟩), .pointer (some ⟨w.heap.size + 1, 0, none⟩)]) (by simp) (by simp [go_sem]) ?_
          obtain ⟨Cz, hcz, hcs⟩ := out_size BR.out
          refine (catch_panic w.heap.size (w.heap.size + 1) (by omega) Cz _ hcs hcz false BK.out).mono ?_
          rintro en u' w'' ⟨rfl, rfl, hb, hk, hf⟩
          have hfin := FR.out.trans' hf (fun x _ hx => by rcases hx with hx | hx <;> omega)
          have q0 : w''.cell? ⟨w.heap.size, 0, none⟩ = some (.int .u8 0) := hb.cell 0
          have q1 : w''.cell? ⟨w.heap.size, 1, none⟩ = some (.int .u32 0) := hb.cell 1
          have q2 : w''.cell? ⟨w.heap.size, 2, none⟩ = some (.int .u64 0) := hb.cell 2
          have q3 : w''.cell? ⟨w.heap.size, 3, none⟩ = some (.int .u64 0) := hb.cell 3
          have q4 : w''.cell? ⟨w.heap.size, 4, none⟩ = some (.int .u32 0) := hb.cell 4
          have q5 : w''.cell? ⟨w.heap.size, 5, none⟩ = some (.int .u16 0) := hb.cell 5
          have q6 : w''.cell? ⟨w.heap.size, 6, none⟩ = some (.bool false) := hb.cell 6
          have q7 : w''.cell? ⟨w.heap.size, 7, none⟩ = some (.bool false) := hb.cell 7
          have q8 : w''.cell? ⟨w.heap.size, 8, none⟩ = some (.slice none 0 0) := hb.cell 8
          have q9 : w''.cell? ⟨w.heap.size, 9, none⟩ = some (.slice none 0 0) := hb.cell 9
          have q10 : w''.cell? ⟨w.heap.size, 10, none⟩ = some (.slice none 0 0) := hb.cell 10
          have q11 : w''.cell? ⟨w.heap.size, 11, none⟩ = some (.slice none 0 0) := hb.cell 11
          have qk : w''.cell? ⟨w.heap.size + 1, 0, none⟩ = some (.bool false) := hk.cell 0
          have HFIN := Lib.hid hfin
          clear hb hk hf hfin hcz hcs
          refine ⟨.tuple #[.agg (bareC 0 0 0 0), .bool false], ?_, DecPost.no HN.out (HFIN.out.to_below (fun x hx => hx) (Nat.le_refl _))⟩
          simp [results, Try.results78, go_sem, q0, q1, q2, q3, q4, q5, q6, q7, q8, q9, q10, q11, qk, bareC]
        | some p =>
          obtain ⟨k, yc⟩ := p
          have b0_ := rNum_bytes e_c HBb.out
          have HBc := Lib.hid b0_
          have bd_c := rNum_bd (by decide) e_c HBb.out
          rw [show (2 : Int) ^ (8 * 1) = 256 from rfl] at bd_c
          have LLc := Lib.hid (show yc.length ≤ yb.length by rw [(rNum_some e_c).2.2]; simp)
          (with_reducible refine (num_some _ _ _ _ _ _ _ RD.out HBb.out 1 1 rfl e_c).mono ?_)
          rintro e x_c ⟨rfl, ⟨v_c, rd⟩, fr⟩
          have BR' := Lib.hid (BR.out.fr fr (by omega))
          have BK' := Lib.hid (BK.out.fr fr (by omega))
          have FR' := Lib.hid (FR.out.trans' fr (fun x _ hx => by rw [hx]; omega))
          clear BR BK FR
          have BR := BR'
          have BK := BK'
          have FR := FR'
          clear BR' BK' FR'
          have RD' := Lib.hid rd
          clear RD
          have RD := RD'
          clear RD' rd fr b0_
          have He_c := Lib.hid e_c
          clear e_c
          have wr_c := u8_wrap (x := k) (by omega) (by omega)
          have kR := BR.out.cell
          have fR := BR.out.frozen
          have b_ := BR.out.set_ 0 (.int .u8 k)
          simp only [bareC, List.setIfInBounds_toArray, List.set_cons_zero, List.set_cons_succ] at b_
          have k_ := BK.out.far (p := ⟨w.heap.size, 0, none⟩) (Nat.ne_of_gt (Nat.lt_succ_self _)) (.int .u8 k)
          have r_ := RD.out.set (p := ⟨w.heap.size, 0, none⟩) (Nat.ne_of_gt (by show w.heap.size < w.heap.size + 1 + 1; omega)) HBB.out (.int .u8 k)
          have f_ := FR.out.setCell (p := ⟨w.heap.size, 0, none⟩) (.inl (Nat.le_refl _)) (.int .u8 k)
          go_wp2_with fail
          generalize World.setCell x_c (⟨w.heap.size, 0, none⟩ : Addr) (.int .u8 k) = w_c at *
          clear BR BK RD FR kR fR
          have BR := Lib.hid b_
          have BK := Lib.hid k_
          have RD := Lib.hid r_
          have FR := Lib.hid f_
          clear b_ k_ r_ f_
          cases e_d : rNum 4 yc with
          | none =>
            have HN := Lib.hid (show rDec xs = none by simp [rDec, rBody, He_a.out, He_b.out, HSC.out, He_c.out, e_d])
            (with_reducible refine (num_none _ _ _ _ _ RD.out 4 4 rfl (by decide) e_d).mono ?_)
            rintro e z ⟨rfl, rfl⟩
            clear e_d
            refine leaves_cons (f := 87) (args := #[.pointer (some ⟨w.heap.size, 0, none⟩), .pointer (some ⟨w.heap.size + 1, 0, none⟩)]) (by simp) (by simp [go_sem]) ?_
            obtain ⟨Cz, hcz, hcs⟩ := out_size BR.out
            refine (catch_panic w.heap.size (w.heap.size + 1) (by omega) Cz _ hcs hcz false BK.out).mono ?_
            rintro en u' w'' ⟨rfl, rfl, hb, hk, hf⟩
            have hfin := FR.out.trans' hf (fun x _ hx => by rcases hx with hx | hx <;> omega)
            have q0 : w''.cell? ⟨w.heap.size, 0, none⟩ = some (.int .u8 0) := hb.cell 0
            have q1 : w''.cell? ⟨w.heap.size, 1, none⟩ = some (.int .u32 0) := hb.cell 1
            have q2 : w''.cell? ⟨w.heap.size, 2, none⟩ = some (.int .u64 0) := hb.cell 2
            have q3 : w''.cell? ⟨w.heap.size, 3, none⟩ = some (.int .u64 0) := hb.cell 3
            have q4 : w''.cell? ⟨w.heap.size, 4, none⟩ = some (.int .u32 0) := hb.cell 4
            have q5 : w''.cell? ⟨w.heap.size, 5, none⟩ = some (.int .u16 0) := hb.cell 5
            have q6 : w''.cell? ⟨w.heap.size, 6, none⟩ = some (.bool false) := hb.cell 6
            have q7 : w''.cell? ⟨w.heap.size, 7, none⟩ = some (.bool false) := hb.cell 7
            have q8 : w''.cell? ⟨w.heap.size, 8, none⟩ = some (.slice none 0 0) := hb.cell 8
            have q9 : w''.cell? ⟨w.heap.size, 9, none⟩ = some (.slice none 0 0) := hb.cell 9
            have q10 : w''.cell? ⟨w.heap.size, 10, none⟩ = some (.slice none 0 0) := hb.cell 10
            have q11 : w''.cell? ⟨w.heap.size, 11, none⟩ = some (.slice none 0 0) := hb.cell 11
            have qk : w''.cell? ⟨w.heap.size + 1, 0, none⟩ = some (.bool false) := hk.cell 0
            have HFIN := Lib.hid hfin
            clear hb hk hf hfin hcz hcs
            refine ⟨.tuple #[.agg (bareC 0 0 0 0), .bool false], ?_, DecPost.no HN.out (HFIN.out.to_below (fun x hx => hx) (Nat.le_refl _))⟩
            simp [results, Try.results78, go_sem, q0, q1, q2, q3, q4, q5, q6, q7, q8, q9, q10, q11, qk, bareC]
          | some p =>
            obtain ⟨t, yd⟩ := p
            have b0_ := rNum_bytes e_d HBc.out
            have HBd := Lib.hid b0_
            have bd_d := rNum_bd (by decide) e_d HBc.out
            rw [show (2 : Int) ^ (8 * 4) = 4294967296 from rfl] at bd_d
            have LLd := Lib.hid (show yd.length ≤ yc.length by rw [(rNum_some e_d).2.2]; simp)
            (with_reducible refine (num_some _ _ _ _ _ _ _ RD.out HBc.out 4 4 rfl e_d).mono ?_)
            rintro e x_d ⟨rfl, ⟨v_d, rd⟩, fr⟩
            have BR' := Lib.hid (BR.out.fr fr (by omega))
            have BK' := Lib.hid (BK.out.fr fr (by omega))
            have FR' := Lib.hid (FR.out.trans' fr (fun x _ hx => by rw [hx]; omega))
            clear BR BK FR
            have BR := BR'
            have BK := BK'
            have FR := FR'
            clear BR' BK' FR'
            have RD' := Lib.hid rd
            clear RD
            have RD := RD'
            clear RD' rd fr b0_
            have He_d := Lib.hid e_d
            clear e_d
            have wr_d := u32_wrap (x := t) (by omega) (by omega)
            have kR := BR.out.cell
            have fR := BR.out.frozen
            have b_ := BR.out.set_ 1 (.int .u32 t)
            simp only [bareC, List.setIfInBounds_toArray, List.set_cons_zero, List.set_cons_succ] at b_
            have k_ := BK.out.far (p := ⟨w.heap.size, 1, none⟩) (Nat.ne_of_gt (Nat.lt_succ_self _)) (.int .u32 t)
            have r_ := RD.out.set (p := ⟨w.heap.size, 1, none⟩) (Nat.ne_of_gt (by show w.heap.size < w.heap.size + 1 + 1; omega)) HBB.out (.int .u32 t)
            have f_ := FR.out.setCell (p := ⟨w.heap.size, 1, none⟩) (.inl (Nat.le_refl _)) (.int .u32 t)
            go_wp2_with fail
            generalize World.setCell x_d (⟨w.heap.size, 1, none⟩ : Addr) (.int .u32 t) = w_d at *
            clear BR BK RD FR kR fR
            have BR := Lib.hid b_
            have BK := Lib.hid k_
            have RD := Lib.hid r_
            have FR := Lib.hid f_
            clear b_ k_ r_ f_
            cases e_e : rNum 8 yd with
            | none =>
              have HN := Lib.hid (show rDec xs = none by simp [rDec, rBody, He_a.out, He_b.out, HSC.out, He_c.out, He_d.out, e_e])
              (with_reducible refine (num_none _ _ _ _ _ RD.out 8 8 rfl (by decide) e_e).mono ?_)
              rintro e z ⟨rfl, rfl⟩
              clear e_e
              refine leaves_cons (f := 87) (args := #[.pointer (some ⟨w.heap.size, 0, none⟩), .pointer (some ⟨w.heap.size + 1, 0, none⟩)]) (by simp) (by simp [go_sem]) ?_
              obtain ⟨Cz, hcz, hcs⟩ := out_size BR.out
              refine (catch_panic w.heap.size (w.heap.size + 1) (by omega) Cz _ hcs hcz false BK.out).mono ?_
              rintro en u' w'' ⟨rfl, rfl, hb, hk, hf⟩
              have hfin := FR.out.trans' hf (fun x _ hx => by rcases hx with hx | hx <;> omega)
              have q0 : w''.cell? ⟨w.heap.size, 0, none⟩ = some (.int .u8 0) := hb.cell 0
              have q1 : w''.cell? ⟨w.heap.size, 1, none⟩ = some (.int .u32 0) := hb.cell 1
              have q2 : w''.cell? ⟨w.heap.size, 2, none⟩ = some (.int .u64 0) := hb.cell 2
              have q3 : w''.cell? ⟨w.heap.size, 3, none⟩ = some (.int .u64 0) := hb.cell 3
              have q4 : w''.cell? ⟨w.heap.size, 4, none⟩ = some (.int .u32 0) := hb.cell 4
              have q5 : w''.cell? ⟨w.heap.size, 5, none⟩ = some (.int .u16 0) := hb.cell 5
              have q6 : w''.cell? ⟨w.heap.size, 6, none⟩ = some (.bool false) := hb.cell 6
              have q7 : w''.cell? ⟨w.heap.size, 7, none⟩ = some (.bool false) := hb.cell 7
              have q8 : w''.cell? ⟨w.heap.size, 8, none⟩ = some (.slice none 0 0) := hb.cell 8
              have q9 : w''.cell? ⟨w.heap.size, 9, none⟩ = some (.slice none 0 0) := hb.cell 9
              have q10 : w''.cell? ⟨w.heap.size, 10, none⟩ = some (.slice none 0 0) := hb.cell 10
              have q11 : w''.cell? ⟨w.heap.size, 11, none⟩ = some (.slice none 0 0) := hb.cell 11
              have qk : w''.cell? ⟨w.heap.size + 1, 0, none⟩ = some (.bool false) := hk.cell 0
              have HFIN := Lib.hid hfin
              clear hb hk hf hfin hcz hcs
              refine ⟨.tuple #[.agg (bareC 0 0 0 0), .bool false], ?_, DecPost.no HN.out (HFIN.out.to_below (fun x hx => hx) (Nat.le_refl _))⟩
              simp [results, Try.results78, go_sem, q0, q1, q2, q3, q4, q5, q6, q7, q8, q9, q10, q11, qk, bareC]
            | some p =>
              obtain ⟨p, ye⟩ := p
              have b0_ := rNum_bytes e_e HBd.out
              have HBe := Lib.hid b0_
              have bd_e := rNum_bd (by decide) e_e HBd.out
              rw [show (2 : Int) ^ (8 * 8) = 18446744073709551616 from rfl] at bd_e
              have LLe := Lib.hid (show ye.length ≤ yd.length by rw [(rNum_some e_e).2.2]; simp)
              (with_reducible refine (num_some _ _ _ _ _ _ _ RD.out HBd.out 8 8 rfl e_e).mono ?_)
              rintro e x_e ⟨rfl, ⟨v_e, rd⟩, fr⟩
              have BR' := Lib.hid (BR.out.fr fr (by omega))
              have BK' := Lib.hid (BK.out.fr fr (by omega))
              have FR' := Lib.hid (FR.out.trans' fr (fun x _ hx => by rw [hx]; omega))
              clear BR BK FR
              have BR := BR'
              have BK := BK'
              have FR := FR'
              clear BR' BK' FR'
              have RD' := Lib.hid rd
              clear RD
              have RD := RD'
              clear RD' rd fr b0_
              have He_e := Lib.hid e_e
              clear e_e
              have kR := BR.out.cell
              have fR := BR.out.frozen
              have b_ := BR.out.set_ 2 (.int .u64 p)
              simp only [bareC, List.setIfInBounds_toArray, List.set_cons_zero, List.set_cons_succ] at b_
              have k_ := BK.out.far (p := ⟨w.heap.size, 2, none⟩) (Nat.ne_of_gt (Nat.lt_succ_self _)) (.int .u64 p)
              have r_ := RD.out.set (p := ⟨w.heap.size, 2, none⟩) (Nat.ne_of_gt (by show w.heap.size < w.heap.size + 1 + 1; omega)) HBB.out (.int .u64 p)
              have f_ := FR.out.setCell (p := ⟨w.heap.size, 2, none⟩) (.inl (Nat.le_refl _)) (.int .u64 p)
              go_wp2_with fail
              generalize World.setCell x_e (⟨w.heap.size, 2, none⟩ : Addr) (.int .u64 p) = w_e at *
              clear BR BK RD FR kR fR
              have BR := Lib.hid b_
              have BK := Lib.hid k_
              have RD := Lib.hid r_
              have FR := Lib.hid f_
              clear b_ k_ r_ f_
              cases e_f : rNum 8 ye with
              | none =>
                have HN := Lib.hid (show rDec xs = none by simp [rDec, rBody, He_a.out, He_b.out, HSC.out, He_c.out, He_d.out, He_e.out, e_f])
                (with_reducible refine (num_none _ _ _ _ _ RD.out 8 8 rfl (by decide) e_f).mono ?_)
                rintro e z ⟨rfl, rfl⟩
                clear e_f
                refine leaves_cons (f := 87) (args := #[.pointer (some ⟨w.heap.size, 0, none⟩), .pointer (some ⟨w.heap.size + 1, 0, none⟩)]) (by simp) (by simp [go_sem]) ?_
                obtain ⟨Cz, hcz, hcs⟩ := out_size BR.out
                refine (catch_panic w.heap.size (w.heap.size + 1) (by omega) Cz _ hcs hcz false BK.out).mono ?_
                rintro en u' w'' ⟨rfl, rfl, hb, hk, hf⟩
                have hfin := FR.out.trans' hf (fun x _ hx => by rcases hx with hx | hx <;> omega)
                have q0 : w''.cell? ⟨w.heap.size, 0, none⟩ = some (.int .u8 0) := hb.cell 0
                have q1 : w''.cell? ⟨w.heap.size, 1, none⟩ = some (.int .u32 0) := hb.cell 1
                have q2 : w''.cell? ⟨w.heap.size, 2, none⟩ = some (.int .u64 0) := hb.cell 2
                have q3 : w''.cell? ⟨w.heap.size, 3, none⟩ = some (.int .u64 0) := hb.cell 3
                have q4 : w''.cell? ⟨w.heap.size, 4, none⟩ = some (.int .u32 0) := hb.cell 4
                have q5 : w''.cell? ⟨w.heap.size, 5, none⟩ = some (.int .u16 0) := hb.cell 5
                have q6 : w''.cell? ⟨w.heap.size, 6, none⟩ = some (.bool false) := hb.cell 6
                have q7 : w''.cell? ⟨w.heap.size, 7, none⟩ = some (.bool false) := hb.cell 7
                have q8 : w''.cell? ⟨w.heap.size, 8, none⟩ = some (.slice none 0 0) := hb.cell 8
                have q9 : w''.cell? ⟨w.heap.size, 9, none⟩ = some (.slice none 0 0) := hb.cell 9
                have q10 : w''.cell? ⟨w.heap.size, 10, none⟩ = some (.slice none 0 0) := hb.cell 10
                have q11 : w''.cell? ⟨w.heap.size, 11, none⟩ = some (.slice none 0 0) := hb.cell 11
                have qk : w''.cell? ⟨w.heap.size + 1, 0, none⟩ = some (.bool false) := hk.cell 0
                have HFIN := Lib.hid hfin
                clear hb hk hf hfin hcz hcs
                refine ⟨.tuple #[.agg (bareC 0 0 0 0), .bool false], ?_, DecPost.no HN.out (HFIN.out.to_below (fun x hx => hx) (Nat.le_refl _))⟩
                simp [results, Try.results78, go_sem, q0, q1, q2, q3, q4, q5, q6, q7, q8, q9, q10, q11, qk, bareC]
              | some p =>
                obtain ⟨n, yf⟩ := p
                have b0_ := rNum_bytes e_f HBe.out
                have HBf := Lib.hid b0_
                have bd_f := rNum_bd (by decide) e_f HBe.out
                rw [show (2 : Int) ^ (8 * 8) = 18446744073709551616 from rfl] at bd_f
                have LLf := Lib.hid (show yf.length ≤ ye.length by rw [(rNum_some e_f).2.2]; simp)
                (with_reducible refine (num_some _ _ _ _ _ _ _ RD.out HBe.out 8 8 rfl e_f).mono ?_)
                rintro e x_f ⟨rfl, ⟨v_f, rd⟩, fr⟩
                have BR' := Lib.hid (BR.out.fr fr (by omega))
                have BK' := Lib.hid (BK.out.fr fr (by omega))
                have FR' := Lib.hid (FR.out.trans' fr (fun x _ hx => by rw [hx]; omega))
                clear BR BK FR
                have BR := BR'
                have BK := BK'
                have FR := FR'
                clear BR' BK' FR'
                have RD' := Lib.hid rd
                clear RD
                have RD := RD'
                clear RD' rd fr b0_
                have He_f := Lib.hid e_f
                clear e_f
                have kR := BR.out.cell
                have fR := BR.out.frozen
                have b_ := BR.out.set_ 3 (.int .u64 n)
                simp only [bareC, List.setIfInBounds_toArray, List.set_cons_zero, List.set_cons_succ] at b_
                have k_ := BK.out.far (p := ⟨w.heap.size, 3, none⟩) (Nat.ne_of_gt (Nat.lt_succ_self _)) (.int .u64 n)
                have r_ := RD.out.set (p := ⟨w.heap.size, 3, none⟩) (Nat.ne_of_gt (by show w.heap.size < w.heap.size + 1 + 1; omega)) HBB.out (.int .u64 n)
                have f_ := FR.out.setCell (p := ⟨w.heap.size, 3, none⟩) (.inl (Nat.le_refl _)) (.int .u64 n)
                go_wp2_with fail
                generalize World.setCell x_f (⟨w.heap.size, 3, none⟩ : Addr) (.int .u64 n) = w_f at *
                clear BR BK RD FR kR fR
                have BR := Lib.hid b_
                have BK := Lib.hid k_
                have RD := Lib.hid r_
                have FR := Lib.hid f_
                clear b_ k_ r_ f_
                have HGA := Lib.hid (show w.heap.size < w_f.heap.size ∧ w.heap.size + 1 < w_f.heap.size by have := RD.out.box.lt; omega)
                by_cases hk2 : k = 2 ∨ k = 3
                · have d2 : (decide (k = 2) || decide (k = 3)) = true := by simpa using hk2
                  have d8 : (k == 8) = false := by rw [beq_dec]; simp; omega
                  have HK2 := Lib.hid hk2
                  have CH := Lib.hid (fun W => changes_any k W)
                  rw [d2] at CH
                  clear d2 hk2
                  (with_reducible refine (CH.out _).mono ?_)
                  rintro e z ⟨rfl, rfl⟩
                  go_wp2_with fail
                  (with_reducible refine (rchange_any _ _ _ _ _ RD.out HBf.out).mono ?_)
                  rintro e z hz
                  unfold ChgPost at hz
                  cases eC : rChg yf with
                  | none =>
                    rw [eC] at hz
                    obtain ⟨rfl, fr⟩ := hz
                    have HN := Lib.hid (show rDec xs = none by simp [rDec, rBody, rTail, eC, HK2.out, He_a.out, He_b.out, HSC.out, He_c.out, He_d.out, He_e.out, He_f.out])
                    have BR' := Lib.hid (BR.out.fr fr (by omega))
                    have BK' := Lib.hid (BK.out.fr fr (by omega))
                    have FR' := Lib.hid (FR.out.trans' fr (fun x _ hx => by rw [hx]; omega))
                    clear BR BK FR
                    have BR := BR'
                    have BK := BK'
                    have FR := FR'
                    clear BR' BK' FR'
                    clear fr eC
                    refine leaves_cons (f := 87) (args := #[.pointer (some ⟨w.heap.size, 0, none⟩), .pointer (some ⟨w.heap.size + 1, 0, none⟩)]) (by simp) (by simp [go_sem]) ?_
                    obtain ⟨Cz, hcz, hcs⟩ := out_size BR.out
                    refine (catch_panic w.heap.size (w.heap.size + 1) (by omega) Cz _ hcs hcz false BK.out).mono ?_
                    rintro en u' w'' ⟨rfl, rfl, hb, hk, hf⟩
                    have hfin := FR.out.trans' hf (fun x _ hx => by rcases hx with hx | hx <;> omega)
                    have q0 : w''.cell? ⟨w.heap.size, 0, none⟩ = some (.int .u8 0) := hb.cell 0
                    have q1 : w''.cell? ⟨w.heap.size, 1, none⟩ = some (.int .u32 0) := hb.cell 1
                    have q2 : w''.cell? ⟨w.heap.size, 2, none⟩ = some (.int .u64 0) := hb.cell 2
                    have q3 : w''.cell? ⟨w.heap.size, 3, none⟩ = some (.int .u64 0) := hb.cell 3
                    have q4 : w''.cell? ⟨w.heap.size, 4, none⟩ = some (.int .u32 0) := hb.cell 4
                    have q5 : w''.cell? ⟨w.heap.size, 5, none⟩ = some (.int .u16 0) := hb.cell 5
                    have q6 : w''.cell? ⟨w.heap.size, 6, none⟩ = some (.bool false) := hb.cell 6
                    have q7 : w''.cell? ⟨w.heap.size, 7, none⟩ = some (.bool false) := hb.cell 7
                    have q8 : w''.cell? ⟨w.heap.size, 8, none⟩ = some (.slice none 0 0) := hb.cell 8
                    have q9 : w''.cell? ⟨w.heap.size, 9, none⟩ = some (.slice none 0 0) := hb.cell 9
                    have q10 : w''.cell? ⟨w.heap.size, 10, none⟩ = some (.slice none 0 0) := hb.cell 10
                    have q11 : w''.cell? ⟨w.heap.size, 11, none⟩ = some (.slice none 0 0) := hb.cell 11
                    have qk : w''.cell? ⟨w.heap.size + 1, 0, none⟩ = some (.bool false) := hk.cell 0
                    have HFIN := Lib.hid hfin
                    clear hb hk hf hfin hcz hcs
                    refine ⟨.tuple #[.agg (bareC 0 0 0 0), .bool false], ?_, DecPost.no HN.out (HFIN.out.to_below (fun x hx => hx) (Nat.le_refl _))⟩
                    simp [results, Try.results78, go_sem, q0, q1, q2, q3, q4, q5, q6, q7, q8, q9, q10, q11, qk, bareC]
                  | some p =>
                    obtain ⟨c, yg⟩ := p
                    rw [eC] at hz
                    obtain ⟨ca, cb, rfl, oa, ob, ⟨vg, rd⟩, fr⟩ := hz
                    have BR' := Lib.hid (BR.out.fr fr (by omega))
                    have BK' := Lib.hid (BK.out.fr fr (by omega))
                    have FR' := Lib.hid (FR.out.trans' fr (fun x _ hx => by rw [hx]; omega))
                    clear BR BK FR
                    have BR := BR'
                    have BK := BK'
                    have FR := FR'
                    clear BR' BK' FR'
                    clear RD
                    have RD := Lib.hid rd
                    clear rd fr
                    obtain ⟨Aa, ka, ea, _, _⟩ := (IR.of_own oa).form
                    obtain ⟨Ab, kb, eb, _, _⟩ := (IR.of_own ob).form
                    subst ea eb
                    have OA := Lib.hid oa
                    have OB := Lib.hid ob
                    have HEC := Lib.hid eC
                    clear oa ob eC
                    have kR := BR.out.cell
                    have fR := BR.out.frozen
                    go_upto_region 13 with (fail)
                    have b_ := Box.set_ (Box.set_ (Box.set_ (Box.set_ (Box.set_ (Box.set_ (BR.out) 4 (.int .u32 c.pg)) 5 (.int .u16 c.sl)) 6 (.bool c.had)) 7 (.bool c.has)) 8 (.slice Aa c.xs.length ka)) 9 (.slice Ab c.ys.length kb)
                    simp only [bareC, List.setIfInBounds_toArray, List.set_cons_zero, List.set_cons_succ] at b_
                    have k_ := Box.far (p := ⟨w.heap.size, 9, none⟩) (Box.far (p := ⟨w.heap.size, 8, none⟩) (Box.far (p := ⟨w.heap.size, 7, none⟩) (Box.far (p := ⟨w.heap.size, 6, none⟩) (Box.far (p := ⟨w.heap.size, 5, none⟩) (Box.far (p := ⟨w.heap.size, 4, none⟩) (BK.out) (Nat.ne_of_gt (Nat.lt_succ_self _)) (.int .u32 c.pg)) (Nat.ne_of_gt (Nat.lt_succ_self _)) (.int .u16 c.sl)) (Nat.ne_of_gt (Nat.lt_succ_self _)) (.bool c.had)) (Nat.ne_of_gt (Nat.lt_succ_self _)) (.bool c.has)) (Nat.ne_of_gt (Nat.lt_succ_self _)) (.slice Aa c.xs.length ka)) (Nat.ne_of_gt (Nat.lt_succ_self _)) (.slice Ab c.ys.length kb)
                    have r_ := Rd.set (p := ⟨w.heap.size, 9, none⟩) (Rd.set (p := ⟨w.heap.size, 8, none⟩) (Rd.set (p := ⟨w.heap.size, 7, none⟩) (Rd.set (p := ⟨w.heap.size, 6, none⟩) (Rd.set (p := ⟨w.heap.size, 5, none⟩) (Rd.set (p := ⟨w.heap.size, 4, none⟩) (RD.out) (Nat.ne_of_gt (by show w.heap.size < w.heap.size + 1 + 1; omega)) HBB.out (.int .u32 c.pg)) (Nat.ne_of_gt (by show w.heap.size < w.heap.size + 1 + 1; omega)) HBB.out (.int .u16 c.sl)) (Nat.ne_of_gt (by show w.heap.size < w.heap.size + 1 + 1; omega)) HBB.out (.bool c.had)) (Nat.ne_of_gt (by show w.heap.size < w.heap.size + 1 + 1; omega)) HBB.out (.bool c.has)) (Nat.ne_of_gt (by show w.heap.size < w.heap.size + 1 + 1; omega)) HBB.out (.slice Aa c.xs.length ka)) (Nat.ne_of_gt (by show w.heap.size < w.heap.size + 1 + 1; omega)) HBB.out (.slice Ab c.ys.length kb)
                    have f_ := Fr.setCell (p := ⟨w.heap.size, 9, none⟩) (Fr.setCell (p := ⟨w.heap.size, 8, none⟩) (Fr.setCell (p := ⟨w.heap.size, 7, none⟩) (Fr.setCell (p := ⟨w.heap.size, 6, none⟩) (Fr.setCell (p := ⟨w.heap.size, 5, none⟩) (Fr.setCell (p := ⟨w.heap.size, 4, none⟩) (FR.out) (.inl (Nat.le_refl _)) (.int .u32 c.pg)) (.inl (Nat.le_refl _)) (.int .u16 c.sl)) (.inl (Nat.le_refl _)) (.bool c.had)) (.inl (Nat.le_refl _)) (.bool c.has)) (.inl (Nat.le_refl _)) (.slice Aa c.xs.length ka)) (.inl (Nat.le_refl _)) (.slice Ab c.ys.length kb)
                    have OA_ := own_set_far (p := ⟨w.heap.size, 9, none⟩) (own_set_far (p := ⟨w.heap.size, 8, none⟩) (own_set_far (p := ⟨w.heap.size, 7, none⟩) (own_set_far (p := ⟨w.heap.size, 6, none⟩) (own_set_far (p := ⟨w.heap.size, 5, none⟩) (own_set_far (p := ⟨w.heap.size, 4, none⟩) (OA.out) HGA.out.1 (.int .u32 c.pg)) HGA.out.1 (.int .u16 c.sl)) HGA.out.1 (.bool c.had)) HGA.out.1 (.bool c.has)) HGA.out.1 (.slice Aa c.xs.length ka)) HGA.out.1 (.slice Ab c.ys.length kb)
                    have OB_ := own_set_far (p := ⟨w.heap.size, 9, none⟩) (own_set_far (p := ⟨w.heap.size, 8, none⟩) (own_set_far (p := ⟨w.heap.size, 7, none⟩) (own_set_far (p := ⟨w.heap.size, 6, none⟩) (own_set_far (p := ⟨w.heap.size, 5, none⟩) (own_set_far (p := ⟨w.heap.size, 4, none⟩) (OB.out) HGA.out.1 (.int .u32 c.pg)) HGA.out.1 (.int .u16 c.sl)) HGA.out.1 (.bool c.had)) HGA.out.1 (.bool c.has)) HGA.out.1 (.slice Aa c.xs.length ka)) HGA.out.1 (.slice Ab c.ys.length kb)
                    generalize World.setCell (World.setCell (World.setCell (World.setCell (World.setCell (World.setCell (z) (⟨w.heap.size, 4, none⟩ : Addr) (.int .u32 c.pg)) (⟨w.heap.size, 5, none⟩ : Addr) (.int .u16 c.sl)) (⟨w.heap.size, 6, none⟩ : Addr) (.bool c.had)) (⟨w.heap.size, 7, none⟩ : Addr) (.bool c.has)) (⟨w.heap.size, 8, none⟩ : Addr) (.slice Aa c.xs.length ka)) (⟨w.heap.size, 9, none⟩ : Addr) (.slice Ab c.ys.length kb) = w_g at *
                    clear BR BK RD FR kR fR OA OB
                    have BR := Lib.hid b_
                    have BK := Lib.hid k_
                    have RD := Lib.hid r_
                    have FR := Lib.hid f_
                    have OA := Lib.hid OA_
                    have OB := Lib.hid OB_
                    clear b_ k_ r_ f_ OA_ OB_
                    obtain ⟨A9, c9, e9, hl9, hm9⟩ := RD.out.ir.form
                    obtain ⟨L9, hL9⟩ : ∃ n, n = yg.length := ⟨_, rfl⟩
                    rw [← hL9] at e9 hl9
                    subst e9
                    unfold maxLen at hm9
                    have kk := RD.out.box.cell
                    have kR := BR.out.cell
                    have fR := BR.out.frozen
                    by_cases h9 : 0 < L9
                    · have hne : ¬ yg = [] := fun e => by rw [e] at hL9; simp at hL9; omega
                      have HN := Lib.hid (show rDec xs = none by simp [rDec, rBody, rTail, rFull, hne, He_a.out, He_b.out, HSC.out, He_c.out, He_d.out, He_e.out, He_f.out, HK2.out, HEC.out])
                      have d9 : decide ((0 : Int) < (L9 : Int)) = true := by simpa using h9
                      have d9' : decide (0 < L9) = true := by simpa using h9
                      clear h9 hL9
                      go_wp2_with (go_at_call 89; (with_reducible refine (give_up _ _).mono ?_); rintro e z ⟨rfl, rfl⟩)
                      refine leaves_cons (f := 87) (args := #[.pointer (some ⟨w.heap.size, 0, none⟩), .pointer (some ⟨w.heap.size + 1, 0, none⟩)]) (by simp) (by simp [go_sem]) ?_
                      obtain ⟨Cz, hcz, hcs⟩ := out_size BR.out
                      refine (catch_panic w.heap.size (w.heap.size + 1) (by omega) Cz _ hcs hcz false BK.out).mono ?_
                      rintro en u' w'' ⟨rfl, rfl, hb, hk, hf⟩
                      have hfin := FR.out.trans' hf (fun x _ hx => by rcases hx with hx | hx <;> omega)
                      have q0 : w''.cell? ⟨w.heap.size, 0, none⟩ = some (.int .u8 0) := hb.cell 0
                      have q1 : w''.cell? ⟨w.heap.size, 1, none⟩ = some (.int .u32 0) := hb.cell 1
                      have q2 : w''.cell? ⟨w.heap.size, 2, none⟩ = some (.int .u64 0) := hb.cell 2
                      have q3 : w''.cell? ⟨w.heap.size, 3, none⟩ = some (.int .u64 0) := hb.cell 3
                      have q4 : w''.cell? ⟨w.heap.size, 4, none⟩ = some (.int .u32 0) := hb.cell 4
                      have q5 : w''.cell? ⟨w.heap.size, 5, none⟩ = some (.int .u16 0) := hb.cell 5
                      have q6 : w''.cell? ⟨w.heap.size, 6, none⟩ = some (.bool false) := hb.cell 6
                      have q7 : w''.cell? ⟨w.heap.size, 7, none⟩ = some (.bool false) := hb.cell 7
                      have q8 : w''.cell? ⟨w.heap.size, 8, none⟩ = some (.slice none 0 0) := hb.cell 8
                      have q9 : w''.cell? ⟨w.heap.size, 9, none⟩ = some (.slice none 0 0) := hb.cell 9
                      have q10 : w''.cell? ⟨w.heap.size, 10, none⟩ = some (.slice none 0 0) := hb.cell 10
                      have q11 : w''.cell? ⟨w.heap.size, 11, none⟩ = some (.slice none 0 0) := hb.cell 11
                      have qk : w''.cell? ⟨w.heap.size + 1, 0, none⟩ = some (.bool false) := hk.cell 0
                      have HFIN := Lib.hid hfin
                      clear hb hk hf hfin hcz hcs
                      refine ⟨.tuple #[.agg (bareC 0 0 0 0), .bool false], ?_, DecPost.no HN.out (HFIN.out.to_below (fun x hx => hx) (Nat.le_refl _))⟩
                      simp [results, Try.results78, go_sem, q0, q1, q2, q3, q4, q5, q6, q7, q8, q9, q10, q11, qk, bareC]
                    · have h0 : L9 = 0 := by omega
                      have hnil : yg = [] := List.eq_nil_of_length_eq_zero (by omega)
                      have HNIL := Lib.hid hnil
                      subst h0
                      clear h9 hL9 hnil
                      have HRI := Lib.hid (fun W (h : RcIn W W.heap.size ⟨k, t, p, n, c, [], []⟩ (.slice Aa c.xs.length ka) (.slice Ab c.ys.length kb) (.slice none 0 0) (.slice none 0 0)) => may_any ⟨k, t, p, n, c, [], []⟩ _ _ _ _ W _ (Nat.le_refl _) h)
                      go_wp2_with fail
                      (with_reducible refine (HRI.out _ ⟨IR.of_own OA.out, IR.of_own OB.out, SS.nil _ _, SS.nil _ _⟩).mono ?_)
                      rintro e wm ⟨rfl, hbm⟩
                      have BR' := Lib.hid (BR.out.later hbm)
                      have BK' := Lib.hid (BK.out.later hbm)
                      have FR' := Lib.hid (FR.out.trans (.of_below hbm))
                      have RD' := Lib.hid (RD.out.below hbm)
                      clear BR BK FR RD
                      have BR := BR'
                      have BK := BK'
                      have FR := FR'
                      have RD := RD'
                      clear BR' BK' FR' RD'
                      have OA' := Lib.hid (own_below OA.out hbm)
                      clear OA
                      have OA := OA'
                      clear OA'
                      have OB' := Lib.hid (own_below OB.out hbm)
                      clear OB
                      have OB := OB'
                      clear OB'
                      clear hbm kk kR fR HRI
                      cases hq : mayS ⟨k, t, p, n, c, [], []⟩
                      case false =>
                        have HN := Lib.hid (show rDec xs = none by simp [rDec, rBody, rTail, rFull, HNIL.out, hq, He_a.out, He_b.out, HSC.out, He_c.out, He_d.out, He_e.out, He_f.out, HK2.out, HEC.out])
                        have kk := RD.out.box.cell
                        clear hq
                        go_wp2_with (go_at_call 89; (with_reducible refine (give_up _ _).mono ?_); rintro e z ⟨rfl, rfl⟩)
                        refine leaves_cons (f := 87) (args := #[.pointer (some ⟨w.heap.size, 0, none⟩), .pointer (some ⟨w.heap.size + 1, 0, none⟩)]) (by simp) (by simp [go_sem]) ?_
                        obtain ⟨Cz, hcz, hcs⟩ := out_size BR.out
                        refine (catch_panic w.heap.size (w.heap.size + 1) (by omega) Cz _ hcs hcz false BK.out).mono ?_
                        rintro en u' w'' ⟨rfl, rfl, hb, hk, hf⟩
                        have hfin := FR.out.trans' hf (fun x _ hx => by rcases hx with hx | hx <;> omega)
                        have q0 : w''.cell? ⟨w.heap.size, 0, none⟩ = some (.int .u8 0) := hb.cell 0
                        have q1 : w''.cell? ⟨w.heap.size, 1, none⟩ = some (.int .u32 0) := hb.cell 1
                        have q2 : w''.cell? ⟨w.heap.size, 2, none⟩ = some (.int .u64 0) := hb.cell 2
                        have q3 : w''.cell? ⟨w.heap.size, 3, none⟩ = some (.int .u64 0) := hb.cell 3
                        have q4 : w''.cell? ⟨w.heap.size, 4, none⟩ = some (.int .u32 0) := hb.cell 4
                        have q5 : w''.cell? ⟨w.heap.size, 5, none⟩ = some (.int .u16 0) := hb.cell 5
                        have q6 : w''.cell? ⟨w.heap.size, 6, none⟩ = some (.bool false) := hb.cell 6
                        have q7 : w''.cell? ⟨w.heap.size, 7, none⟩ = some (.bool false) := hb.cell 7
                        have q8 : w''.cell? ⟨w.heap.size, 8, none⟩ = some (.slice none 0 0) := hb.cell 8
                        have q9 : w''.cell? ⟨w.heap.size, 9, none⟩ = some (.slice none 0 0) := hb.cell 9
                        have q10 : w''.cell? ⟨w.heap.size, 10, none⟩ = some (.slice none 0 0) := hb.cell 10
                        have q11 : w''.cell? ⟨w.heap.size, 11, none⟩ = some (.slice none 0 0) := hb.cell 11
                        have qk : w''.cell? ⟨w.heap.size + 1, 0, none⟩ = some (.bool false) := hk.cell 0
                        have HFIN := Lib.hid hfin
                        clear hb hk hf hfin hcz hcs
                        refine ⟨.tuple #[.agg (bareC 0 0 0 0), .bool false], ?_, DecPost.no HN.out (HFIN.out.to_below (fun x hx => hx) (Nat.le_refl _))⟩
                        simp [results, Try.results78, go_sem, q0, q1, q2, q3, q4, q5, q6, q7, q8, q9, q10, q11, qk, bareC]
                      case true =>
                        have HV := Lib.hid (show rDec xs = some ⟨k, t, p, n, c, [], []⟩ by simp [rDec, rBody, rTail, rFull, HNIL.out, hq, He_a.out, He_b.out, HSC.out, He_c.out, He_d.out, He_e.out, He_f.out, HK2.out, HEC.out])
                        clear hq
                        have k_0 : wm.cell? ⟨w.heap.size, 0, none⟩ = some (.int .u8 k) := BR.out.cell 0
                        have f_0 := BR.out.frozen 0
                        have k_1 : wm.cell? ⟨w.heap.size, 1, none⟩ = some (.int .u32 t) := BR.out.cell 1
                        have f_1 := BR.out.frozen 1
                        have k_2 : wm.cell? ⟨w.heap.size, 2, none⟩ = some (.int .u64 p) := BR.out.cell 2
                        have f_2 := BR.out.frozen 2
                        have k_3 : wm.cell? ⟨w.heap.size, 3, none⟩ = some (.int .u64 n) := BR.out.cell 3
                        have f_3 := BR.out.frozen 3
                        have k_4 : wm.cell? ⟨w.heap.size, 4, none⟩ = some (.int .u32 c.pg) := BR.out.cell 4
                        have f_4 := BR.out.frozen 4
                        have k_5 : wm.cell? ⟨w.heap.size, 5, none⟩ = some (.int .u16 c.sl) := BR.out.cell 5
                        have f_5 := BR.out.frozen 5
                        have k_6 : wm.cell? ⟨w.heap.size, 6, none⟩ = some (.bool c.had) := BR.out.cell 6
                        have f_6 := BR.out.frozen 6
                        have k_7 : wm.cell? ⟨w.heap.size, 7, none⟩ = some (.bool c.has) := BR.out.cell 7
                        have f_7 := BR.out.frozen 7
                        have k_8 : wm.cell? ⟨w.heap.size, 8, none⟩ = some (.slice Aa c.xs.length ka) := BR.out.cell 8
                        have f_8 := BR.out.frozen 8
                        have k_9 : wm.cell? ⟨w.heap.size, 9, none⟩ = some (.slice Ab c.ys.length kb) := BR.out.cell 9
                        have f_9 := BR.out.frozen 9
                        have k_10 : wm.cell? ⟨w.heap.size, 10, none⟩ = some (.slice none 0 0) := BR.out.cell 10
                        have f_10 := BR.out.frozen 10
                        have k_11 : wm.cell? ⟨w.heap.size, 11, none⟩ = some (.slice none 0 0) := BR.out.cell 11
                        have f_11 := BR.out.frozen 11
                        have k_k : wm.cell? ⟨w.heap.size + 1, 0, none⟩ = some (.bool false) := BK.out.cell 0
                        have f_k := BK.out.frozen 0
                        go_wp2
                        clear k_0 f_0 k_1 f_1 k_2 f_2 k_3 f_3 k_4 f_4 k_5 f_5 k_6 f_6 k_7 f_7 k_8 f_8 k_9 f_9 k_10 f_10 k_11 f_11 k_k f_k
                        have b9 := Box.far (p := ⟨w.heap.size + 1, 0, none⟩) (Box.set_ (Box.set_ (Box.set_ (Box.set_ (Box.set_ (Box.set_ (Box.set_ (Box.set_ (Box.set_ (Box.set_ (Box.set_ (Box.set_ (BR.out) 0 (.int .u8 k)) 1 (.int .u32 t)) 2 (.int .u64 p)) 3 (.int .u64 n)) 4 (.int .u32 c.pg)) 5 (.int .u16 c.sl)) 6 (.bool c.had)) 7 (.bool c.has)) 8 (.slice Aa c.xs.length ka)) 9 (.slice Ab c.ys.length kb)) 10 (.slice none 0 0)) 11 (.slice none 0 0)) (Nat.ne_of_lt (Nat.lt_succ_self _)) (.bool true)
                        simp only [List.setIfInBounds_toArray, List.set_cons_zero, List.set_cons_succ] at b9
                        have k9 := Box.set_ (Box.far (p := ⟨w.heap.size, 11, none⟩) (Box.far (p := ⟨w.heap.size, 10, none⟩) (Box.far (p := ⟨w.heap.size, 9, none⟩) (Box.far (p := ⟨w.heap.size, 8, none⟩) (Box.far (p := ⟨w.heap.size, 7, none⟩) (Box.far (p := ⟨w.heap.size, 6, none⟩) (Box.far (p := ⟨w.heap.size, 5, none⟩) (Box.far (p := ⟨w.heap.size, 4, none⟩) (Box.far (p := ⟨w.heap.size, 3, none⟩) (Box.far (p := ⟨w.heap.size, 2, none⟩) (Box.far (p := ⟨w.heap.size, 1, none⟩) (Box.far (p := ⟨w.heap.size, 0, none⟩) (BK.out) (Nat.ne_of_gt (Nat.lt_succ_self _)) (.int .u8 k)) (Nat.ne_of_gt (Nat.lt_succ_self _)) (.int .u32 t)) (Nat.ne_of_gt (Nat.lt_succ_self _)) (.int .u64 p)) (Nat.ne_of_gt (Nat.lt_succ_self _)) (.int .u64 n)) (Nat.ne_of_gt (Nat.lt_succ_self _)) (.int .u32 c.pg)) (Nat.ne_of_gt (Nat.lt_succ_self _)) (.int .u16 c.sl)) (Nat.ne_of_gt (Nat.lt_succ_self _)) (.bool c.had)) (Nat.ne_of_gt (Nat.lt_succ_self _)) (.bool c.has)) (Nat.ne_of_gt (Nat.lt_succ_self _)) (.slice Aa c.xs.length ka)) (Nat.ne_of_gt (Nat.lt_succ_self _)) (.slice Ab c.ys.length kb)) (Nat.ne_of_gt (Nat.lt_succ_self _)) (.slice none 0 0)) (Nat.ne_of_gt (Nat.lt_succ_self _)) (.slice none 0 0)) 0 (.bool true)
                        simp only [List.setIfInBounds_toArray, List.set_cons_zero, List.set_cons_succ] at k9
                        have f9 := Fr.setCell (Fr.setCell (Fr.setCell (Fr.setCell (Fr.setCell (Fr.setCell (Fr.setCell (Fr.setCell (Fr.setCell (Fr.setCell (Fr.setCell (Fr.setCell (Fr.setCell (FR.out) (p := ⟨w.heap.size, 0, none⟩) (.inl (Nat.le_refl _)) (.int .u8 k)) (p := ⟨w.heap.size, 1, none⟩) (.inl (Nat.le_refl _)) (.int .u32 t)) (p := ⟨w.heap.size, 2, none⟩) (.inl (Nat.le_refl _)) (.int .u64 p)) (p := ⟨w.heap.size, 3, none⟩) (.inl (Nat.le_refl _)) (.int .u64 n)) (p := ⟨w.heap.size, 4, none⟩) (.inl (Nat.le_refl _)) (.int .u32 c.pg)) (p := ⟨w.heap.size, 5, none⟩) (.inl (Nat.le_refl _)) (.int .u16 c.sl)) (p := ⟨w.heap.size, 6, none⟩) (.inl (Nat.le_refl _)) (.bool c.had)) (p := ⟨w.heap.size, 7, none⟩) (.inl (Nat.le_refl _)) (.bool c.has)) (p := ⟨w.heap.size, 8, none⟩) (.inl (Nat.le_refl _)) (.slice Aa c.xs.length ka)) (p := ⟨w.heap.size, 9, none⟩) (.inl (Nat.le_refl _)) (.slice Ab c.ys.length kb)) (p := ⟨w.heap.size, 10, none⟩) (.inl (Nat.le_refl _)) (.slice none 0 0)) (p := ⟨w.heap.size, 11, none⟩) (.inl (Nat.le_refl _)) (.slice none 0 0)) (p := ⟨w.heap.size + 1, 0, none⟩) (.inl (Nat.le_succ _)) (.bool true)
                        have OA9 := own_set_far (own_set_far (own_set_far (own_set_far (own_set_far (own_set_far (own_set_far (own_set_far (own_set_far (own_set_far (own_set_far (own_set_far (own_set_far (OA.out) (p := ⟨w.heap.size, 0, none⟩) HGA.out.1 (.int .u8 k)) (p := ⟨w.heap.size, 1, none⟩) HGA.out.1 (.int .u32 t)) (p := ⟨w.heap.size, 2, none⟩) HGA.out.1 (.int .u64 p)) (p := ⟨w.heap.size, 3, none⟩) HGA.out.1 (.int .u64 n)) (p := ⟨w.heap.size, 4, none⟩) HGA.out.1 (.int .u32 c.pg)) (p := ⟨w.heap.size, 5, none⟩) HGA.out.1 (.int .u16 c.sl)) (p := ⟨w.heap.size, 6, none⟩) HGA.out.1 (.bool c.had)) (p := ⟨w.heap.size, 7, none⟩) HGA.out.1 (.bool c.has)) (p := ⟨w.heap.size, 8, none⟩) HGA.out.1 (.slice Aa c.xs.length ka)) (p := ⟨w.heap.size, 9, none⟩) HGA.out.1 (.slice Ab c.ys.length kb)) (p := ⟨w.heap.size, 10, none⟩) HGA.out.1 (.slice none 0 0)) (p := ⟨w.heap.size, 11, none⟩) HGA.out.1 (.slice none 0 0)) (p := ⟨w.heap.size + 1, 0, none⟩) HGA.out.2 (.bool true)
                        have OB9 := own_set_far (own_set_far (own_set_far (own_set_far (own_set_far (own_set_far (own_set_far (own_set_far (own_set_far (own_set_far (own_set_far (own_set_far (own_set_far (OB.out) (p := ⟨w.heap.size, 0, none⟩) HGA.out.1 (.int .u8 k)) (p := ⟨w.heap.size, 1, none⟩) HGA.out.1 (.int .u32 t)) (p := ⟨w.heap.size, 2, none⟩) HGA.out.1 (.int .u64 p)) (p := ⟨w.heap.size, 3, none⟩) HGA.out.1 (.int .u64 n)) (p := ⟨w.heap.size, 4, none⟩) HGA.out.1 (.int .u32 c.pg)) (p := ⟨w.heap.size, 5, none⟩) HGA.out.1 (.int .u16 c.sl)) (p := ⟨w.heap.size, 6, none⟩) HGA.out.1 (.bool c.had)) (p := ⟨w.heap.size, 7, none⟩) HGA.out.1 (.bool c.has)) (p := ⟨w.heap.size, 8, none⟩) HGA.out.1 (.slice Aa c.xs.length ka)) (p := ⟨w.heap.size, 9, none⟩) HGA.out.1 (.slice Ab c.ys.length kb)) (p := ⟨w.heap.size, 10, none⟩) HGA.out.1 (.slice none 0 0)) (p := ⟨w.heap.size, 11, none⟩) HGA.out.1 (.slice none 0 0)) (p := ⟨w.heap.size + 1, 0, none⟩) HGA.out.2 (.bool true)
                        generalize World.setCell (World.setCell (World.setCell (World.setCell (World.setCell (World.setCell (World.setCell (World.setCell (World.setCell (World.setCell (World.setCell (World.setCell (World.setCell (wm) (⟨w.heap.size, 0, none⟩ : Addr) (.int .u8 k)) (⟨w.heap.size, 1, none⟩ : Addr) (.int .u32 t)) (⟨w.heap.size, 2, none⟩ : Addr) (.int .u64 p)) (⟨w.heap.size, 3, none⟩ : Addr) (.int .u64 n)) (⟨w.heap.size, 4, none⟩ : Addr) (.int .u32 c.pg)) (⟨w.heap.size, 5, none⟩ : Addr) (.int .u16 c.sl)) (⟨w.heap.size, 6, none⟩ : Addr) (.bool c.had)) (⟨w.heap.size, 7, none⟩ : Addr) (.bool c.has)) (⟨w.heap.size, 8, none⟩ : Addr) (.slice Aa c.xs.length ka)) (⟨w.heap.size, 9, none⟩ : Addr) (.slice Ab c.ys.length kb)) (⟨w.heap.size, 10, none⟩ : Addr) (.slice none 0 0)) (⟨w.heap.size, 11, none⟩ : Addr) (.slice none 0 0)) (⟨w.heap.size + 1, 0, none⟩ : Addr) (.bool true) = W9 at *
                        refine leaves_cons (f := 87) (args := #[.pointer (some ⟨w.heap.size, 0, none⟩), .pointer (some ⟨w.heap.size + 1, 0, none⟩)]) (by simp) (by simp [go_sem]) ?_
                        refine (catch_none w.heap.size (w.heap.size + 1) _).mono ?_
                        rintro en u' w'' ⟨rfl, rfl, rfl⟩
                        have q0 : W9.cell? ⟨w.heap.size, 0, none⟩ = some (.int .u8 k) := b9.cell 0
                        have q1 : W9.cell? ⟨w.heap.size, 1, none⟩ = some (.int .u32 t) := b9.cell 1
                        have q2 : W9.cell? ⟨w.heap.size, 2, none⟩ = some (.int .u64 p) := b9.cell 2
                        have q3 : W9.cell? ⟨w.heap.size, 3, none⟩ = some (.int .u64 n) := b9.cell 3
                        have q4 : W9.cell? ⟨w.heap.size, 4, none⟩ = some (.int .u32 c.pg) := b9.cell 4
                        have q5 : W9.cell? ⟨w.heap.size, 5, none⟩ = some (.int .u16 c.sl) := b9.cell 5
                        have q6 : W9.cell? ⟨w.heap.size, 6, none⟩ = some (.bool c.had) := b9.cell 6
                        have q7 : W9.cell? ⟨w.heap.size, 7, none⟩ = some (.bool c.has) := b9.cell 7
                        have q8 : W9.cell? ⟨w.heap.size, 8, none⟩ = some (.slice Aa c.xs.length ka) := b9.cell 8
                        have q9 : W9.cell? ⟨w.heap.size, 9, none⟩ = some (.slice Ab c.ys.length kb) := b9.cell 9
                        have q10 : W9.cell? ⟨w.heap.size, 10, none⟩ = some (.slice none 0 0) := b9.cell 10
                        have q11 : W9.cell? ⟨w.heap.size, 11, none⟩ = some (.slice none 0 0) := b9.cell 11
                        have qk : W9.cell? ⟨w.heap.size + 1, 0, none⟩ = some (.bool true) := k9.cell 0
                        refine ⟨.tuple #[.agg #[.int .u8 k, .int .u32 t, .int .u64 p, .int .u64 n, .int .u32 c.pg, .int .u16 c.sl, .bool c.had, .bool c.has, .slice Aa c.xs.length ka, .slice Ab c.ys.length kb, .slice none 0 0, .slice none 0 0], .bool true], ?_, ?_⟩
                        · simp [results, Try.results78, go_sem, q0, q1, q2, q3, q4, q5, q6, q7, q8, q9, q10, q11, qk]
                        · unfold DecPost
                          rw [HV.out]
                          exact ⟨(.slice Aa c.xs.length ka), (.slice Ab c.ys.length kb), (.slice none 0 0), (.slice none 0 0), rfl, ⟨own_lower OA9 (Nat.le_of_lt HGA.out.1), own_lower OB9 (Nat.le_of_lt HGA.out.1), World.ownsRow_nil _ _ _ _, World.ownsRow_nil _ _ _ _⟩, f9.to_below (fun x hx => hx) (Nat.le_refl _)⟩
                · have d2 : (decide (k = 2) || decide (k = 3)) = false := by simp; omega
                  have CH := Lib.hid (fun W => changes_any k W)
                  rw [d2] at CH
                  clear d2
                  (with_reducible refine (CH.out _).mono ?_)
                  rintro e z ⟨rfl, rfl⟩
                  by_cases hk8 : k = 8
                  · have d8 : (k == 8) = true := by rw [beq_dec]; simpa using hk8
                    have HK2 := Lib.hid hk2
                    have HK8 := Lib.hid hk8
                    clear hk2 hk8
                    have kR := BR.out.cell
                    have fR := BR.out.frozen
                    go_wp2_with fail
                    (with_reducible refine (rtables_any _ _ _ _ _ RD.out HBf.out).mono ?_)
                    rintro e z hz
                    unfold TabPost at hz
                    cases eC : rTab yf with
                    | none =>
                      rw [eC] at hz
                      obtain ⟨rfl, fr⟩ := hz
                      have HN := Lib.hid (show rDec xs = none by simp [rDec, rBody, rTail, eC, HK2.out, HK8.out, He_a.out, He_b.out, HSC.out, He_c.out, He_d.out, He_e.out, He_f.out])
                      have BR' := Lib.hid (BR.out.fr fr (by omega))
                      have BK' := Lib.hid (BK.out.fr fr (by omega))
                      have FR' := Lib.hid (FR.out.trans' fr (fun x _ hx => by rw [hx]; omega))
                      clear BR BK FR
                      have BR := BR'
                      have BK := BK'
                      have FR := FR'
                      clear BR' BK' FR'
                      clear fr eC
                      refine leaves_cons (f := 87) (args := #[.pointer (some ⟨w.heap.size, 0, none⟩), .pointer (some ⟨w.heap.size + 1, 0, none⟩)]) (by simp) (by simp [go_sem]) ?_
                      obtain ⟨Cz, hcz, hcs⟩ := out_size BR.out
                      refine (catch_panic w.heap.size (w.heap.size + 1) (by omega) Cz _ hcs hcz false BK.out).mono ?_
                      rintro en u' w'' ⟨rfl, rfl, hb, hk, hf⟩
                      have hfin := FR.out.trans' hf (fun x _ hx => by rcases hx with hx | hx <;> omega)
                      have q0 : w''.cell? ⟨w.heap.size, 0, none⟩ = some (.int .u8 0) := hb.cell 0
                      have q1 : w''.cell? ⟨w.heap.size, 1, none⟩ = some (.int .u32 0) := hb.cell 1
                      have q2 : w''.cell? ⟨w.heap.size, 2, none⟩ = some (.int .u64 0) := hb.cell 2
                      have q3 : w''.cell? ⟨w.heap.size, 3, none⟩ = some (.int .u64 0) := hb.cell 3
                      have q4 : w''.cell? ⟨w.heap.size, 4, none⟩ = some (.int .u32 0) := hb.cell 4
                      have q5 : w''.cell? ⟨w.heap.size, 5, none⟩ = some (.int .u16 0) := hb.cell 5
                      have q6 : w''.cell? ⟨w.heap.size, 6, none⟩ = some (.bool false) := hb.cell 6
                      have q7 : w''.cell? ⟨w.heap.size, 7, none⟩ = some (.bool false) := hb.cell 7
                      have q8 : w''.cell? ⟨w.heap.size, 8, none⟩ = some (.slice none 0 0) := hb.cell 8
                      have q9 : w''.cell? ⟨w.heap.size, 9, none⟩ = some (.slice none 0 0) := hb.cell 9
                      have q10 : w''.cell? ⟨w.heap.size, 10, none⟩ = some (.slice none 0 0) := hb.cell 10
                      have q11 : w''.cell? ⟨w.heap.size, 11, none⟩ = some (.slice none 0 0) := hb.cell 11
                      have qk : w''.cell? ⟨w.heap.size + 1, 0, none⟩ = some (.bool false) := hk.cell 0
                      have HFIN := Lib.hid hfin
                      clear hb hk hf hfin hcz hcs
                      refine ⟨.tuple #[.agg (bareC 0 0 0 0), .bool false], ?_, DecPost.no HN.out (HFIN.out.to_below (fun x hx => hx) (Nat.le_refl _))⟩
                      simp [results, Try.results78, go_sem, q0, q1, q2, q3, q4, q5, q6, q7, q8, q9, q10, q11, qk, bareC]
                    | some p =>
                      obtain ⟨ts, ds, yg⟩ := p
                      rw [eC] at hz
                      obtain ⟨ta, da, rfl, ot, od, ⟨vg, rd⟩, fr⟩ := hz
                      have BR' := Lib.hid (BR.out.fr fr (by omega))
                      have BK' := Lib.hid (BK.out.fr fr (by omega))
                      have FR' := Lib.hid (FR.out.trans' fr (fun x _ hx => by rw [hx]; omega))
                      clear BR BK FR
                      have BR := BR'
                      have BK := BK'
                      have FR := FR'
                      clear BR' BK' FR'
                      clear RD kR fR
                      have RD := Lib.hid rd
                      clear rd fr
                      obtain ⟨At, kt, et, _, _⟩ := (SS.of_own cAc_len ot).form
                      obtain ⟨Ad, kd, ed, _, _⟩ := (SS.of_own cDt_len od).form
                      subst et ed
                      have OT := Lib.hid ot
                      have OD := Lib.hid od
                      have HEC := Lib.hid eC
                      clear ot od eC
                      have kR := BR.out.cell
                      have fR := BR.out.frozen
                      go_upto_region 15 with (fail)
                      have b_ := Box.set_ (Box.set_ (BR.out) 10 (.slice At ts.length kt)) 11 (.slice Ad ds.length kd)
                      simp only [bareC, List.setIfInBounds_toArray, List.set_cons_zero, List.set_cons_succ] at b_
                      have k_ := Box.far (p := ⟨w.heap.size, 11, none⟩) (Box.far (p := ⟨w.heap.size, 10, none⟩) (BK.out) (Nat.ne_of_gt (Nat.lt_succ_self _)) (.slice At ts.length kt)) (Nat.ne_of_gt (Nat.lt_succ_self _)) (.slice Ad ds.length kd)
                      have r_ := Rd.set (p := ⟨w.heap.size, 11, none⟩) (Rd.set (p := ⟨w.heap.size, 10, none⟩) (RD.out) (Nat.ne_of_gt (by show w.heap.size < w.heap.size + 1 + 1; omega)) HBB.out (.slice At ts.length kt)) (Nat.ne_of_gt (by show w.heap.size < w.heap.size + 1 + 1; omega)) HBB.out (.slice Ad ds.length kd)
                      have f_ := Fr.setCell (p := ⟨w.heap.size, 11, none⟩) (Fr.setCell (p := ⟨w.heap.size, 10, none⟩) (FR.out) (.inl (Nat.le_refl _)) (.slice At ts.length kt)) (.inl (Nat.le_refl _)) (.slice Ad ds.length kd)
                      have OT_ := own_set_far (p := ⟨w.heap.size, 11, none⟩) (own_set_far (p := ⟨w.heap.size, 10, none⟩) (OT.out) HGA.out.1 (.slice At ts.length kt)) HGA.out.1 (.slice Ad ds.length kd)
                      have OD_ := own_set_far (p := ⟨w.heap.size, 11, none⟩) (own_set_far (p := ⟨w.heap.size, 10, none⟩) (OD.out) HGA.out.1 (.slice At ts.length kt)) HGA.out.1 (.slice Ad ds.length kd)
                      generalize World.setCell (World.setCell (z) (⟨w.heap.size, 10, none⟩ : Addr) (.slice At ts.length kt)) (⟨w.heap.size, 11, none⟩ : Addr) (.slice Ad ds.length kd) = w_g at *
                      clear BR BK RD FR kR fR OT OD
                      have BR := Lib.hid b_
                      have BK := Lib.hid k_
                      have RD := Lib.hid r_
                      have FR := Lib.hid f_
                      have OT := Lib.hid OT_
                      have OD := Lib.hid OD_
                      clear b_ k_ r_ f_ OT_ OD_
                      obtain ⟨A9, c9, e9, hl9, hm9⟩ := RD.out.ir.form
                      obtain ⟨L9, hL9⟩ : ∃ n, n = yg.length := ⟨_, rfl⟩
                      rw [← hL9] at e9 hl9
                      subst e9
                      unfold maxLen at hm9
                      have kk := RD.out.box.cell
                      have kR := BR.out.cell
                      have fR := BR.out.frozen
                      by_cases h9 : 0 < L9
                      · have hne : ¬ yg = [] := fun e => by rw [e] at hL9; simp at hL9; omega
                        have HN := Lib.hid (show rDec xs = none by simp [rDec, rBody, rTail, rFull, hne, He_a.out, He_b.out, HSC.out, He_c.out, He_d.out, He_e.out, He_f.out, HK2.out, if_pos HK8.out, HEC.out])
                        have d9 : decide ((0 : Int) < (L9 : Int)) = true := by simpa using h9
                        have d9' : decide (0 < L9) = true := by simpa using h9
                        clear h9 hL9
                        go_wp2_with (go_at_call 89; (with_reducible refine (give_up _ _).mono ?_); rintro e z ⟨rfl, rfl⟩)
                        refine leaves_cons (f := 87) (args := #[.pointer (some ⟨w.heap.size, 0, none⟩), .pointer (some ⟨w.heap.size + 1, 0, none⟩)]) (by simp) (by simp [go_sem]) ?_
                        obtain ⟨Cz, hcz, hcs⟩ := out_size BR.out
                        refine (catch_panic w.heap.size (w.heap.size + 1) (by omega) Cz _ hcs hcz false BK.out).mono ?_
                        rintro en u' w'' ⟨rfl, rfl, hb, hk, hf⟩
                        have hfin := FR.out.trans' hf (fun x _ hx => by rcases hx with hx | hx <;> omega)
                        have q0 : w''.cell? ⟨w.heap.size, 0, none⟩ = some (.int .u8 0) := hb.cell 0
                        have q1 : w''.cell? ⟨w.heap.size, 1, none⟩ = some (.int .u32 0) := hb.cell 1
                        have q2 : w''.cell? ⟨w.heap.size, 2, none⟩ = some (.int .u64 0) := hb.cell 2
                        have q3 : w''.cell? ⟨w.heap.size, 3, none⟩ = some (.int .u64 0) := hb.cell 3
                        have q4 : w''.cell? ⟨w.heap.size, 4, none⟩ = some (.int .u32 0) := hb.cell 4
                        have q5 : w''.cell? ⟨w.heap.size, 5, none⟩ = some (.int .u16 0) := hb.cell 5
                        have q6 : w''.cell? ⟨w.heap.size, 6, none⟩ = some (.bool false) := hb.cell 6
                        have q7 : w''.cell? ⟨w.heap.size, 7, none⟩ = some (.bool false) := hb.cell 7
                        have q8 : w''.cell? ⟨w.heap.size, 8, none⟩ = some (.slice none 0 0) := hb.cell 8
                        have q9 : w''.cell? ⟨w.heap.size, 9, none⟩ = some (.slice none 0 0) := hb.cell 9
                        have q10 : w''.cell? ⟨w.heap.size, 10, none⟩ = some (.slice none 0 0) := hb.cell 10
                        have q11 : w''.cell? ⟨w.heap.size, 11, none⟩ = some (.slice none 0 0) := hb.cell 11
                        have qk : w''.cell? ⟨w.heap.size + 1, 0, none⟩ = some (.bool false) := hk.cell 0
                        have HFIN := Lib.hid hfin
                        clear hb hk hf hfin hcz hcs
                        refine ⟨.tuple #[.agg (bareC 0 0 0 0), .bool false], ?_, DecPost.no HN.out (HFIN.out.to_below (fun x hx => hx) (Nat.le_refl _))⟩
                        simp [results, Try.results78, go_sem, q0, q1, q2, q3, q4, q5, q6, q7, q8, q9, q10, q11, qk, bareC]
                      · have h0 : L9 = 0 := by omega
                        have hnil : yg = [] := List.eq_nil_of_length_eq_zero (by omega)
                        have HNIL := Lib.hid hnil
                        subst h0
                        clear h9 hL9 hnil
                        have HRI := Lib.hid (fun W (h : RcIn W W.heap.size ⟨k, t, p, n, nullC, ts, ds⟩ (.slice none 0 0) (.slice none 0 0) (.slice At ts.length kt) (.slice Ad ds.length kd)) => may_any ⟨k, t, p, n, nullC, ts, ds⟩ _ _ _ _ W _ (Nat.le_refl _) h)
                        go_wp2_with fail
                        (with_reducible refine (HRI.out _ ⟨IR.nil _ _ _, IR.nil _ _ _, SS.of_own cAc_len OT.out, SS.of_own cDt_len OD.out⟩).mono ?_)
                        rintro e wm ⟨rfl, hbm⟩
                        have BR' := Lib.hid (BR.out.later hbm)
                        have BK' := Lib.hid (BK.out.later hbm)
                        have FR' := Lib.hid (FR.out.trans (.of_below hbm))
                        have RD' := Lib.hid (RD.out.below hbm)
                        clear BR BK FR RD
                        have BR := BR'
                        have BK := BK'
                        have FR := FR'
                        have RD := RD'
                        clear BR' BK' FR' RD'
                        have OT' := Lib.hid (own_below OT.out hbm)
                        clear OT
                        have OT := OT'
                        clear OT'
                        have OD' := Lib.hid (own_below OD.out hbm)
                        clear OD
                        have OD := OD'
                        clear OD'
                        clear hbm kk kR fR HRI
                        cases hq : mayS ⟨k, t, p, n, nullC, ts, ds⟩
                        case false =>
                          have HN := Lib.hid (show rDec xs = none by simp [rDec, rBody, rTail, rFull, HNIL.out, hq, He_a.out, He_b.out, HSC.out, He_c.out, He_d.out, He_e.out, He_f.out, HK2.out, if_pos HK8.out, HEC.out])
                          have kk := RD.out.box.cell
                          clear hq
                          go_wp2_with (go_at_call 89; (with_reducible refine (give_up _ _).mono ?_); rintro e z ⟨rfl, rfl⟩)
                          refine leaves_cons (f := 87) (args := #[.pointer (some ⟨w.heap.size, 0, none⟩), .pointer (some ⟨w.heap.size + 1, 0, none⟩)]) (by simp) (by simp [go_sem]) ?_
                          obtain ⟨Cz, hcz, hcs⟩ := out_size BR.out
                          refine (catch_panic w.heap.size (w.heap.size + 1) (by omega) Cz _ hcs hcz false BK.out).mono ?_
                          rintro en u' w'' ⟨rfl, rfl, hb, hk, hf⟩
                          have hfin := FR.out.trans' hf (fun x _ hx => by rcases hx with hx | hx <;> omega)
                          have q0 : w''.cell? ⟨w.heap.size, 0, none⟩ = some (.int .u8 0) := hb.cell 0
                          have q1 : w''.cell? ⟨w.heap.size, 1, none⟩ = some (.int .u32 0) := hb.cell 1
                          have q2 : w''.cell? ⟨w.heap.size, 2, none⟩ = some (.int .u64 0) := hb.cell 2
                          have q3 : w''.cell? ⟨w.heap.size, 3, none⟩ = some (.int .u64 0) := hb.cell 3
                          have q4 : w''.cell? ⟨w.heap.size, 4, none⟩ = some (.int .u32 0) := hb.cell 4
                          have q5 : w''.cell? ⟨w.heap.size, 5, none⟩ = some (.int .u16 0) := hb.cell 5
                          have q6 : w''.cell? ⟨w.heap.size, 6, none⟩ = some (.bool false) := hb.cell 6
                          have q7 : w''.cell? ⟨w.heap.size, 7, none⟩ = some (.bool false) := hb.cell 7
                          have q8 : w''.cell? ⟨w.heap.size, 8, none⟩ = some (.slice none 0 0) := hb.cell 8
                          have q9 : w''.cell? ⟨w.heap.size, 9, none⟩ = some (.slice none 0 0) := hb.cell 9
                          have q10 : w''.cell? ⟨w.heap.size, 10, none⟩ = some (.slice none 0 0) := hb.cell 10
                          have q11 : w''.cell? ⟨w.heap.size, 11, none⟩ = some (.slice none 0 0) := hb.cell 11
                          have qk : w''.cell? ⟨w.heap.size + 1, 0, none⟩ = some (.bool false) := hk.cell 0
                          have HFIN := Lib.hid hfin
                          clear hb hk hf hfin hcz hcs
                          refine ⟨.tuple #[.agg (bareC 0 0 0 0), .bool false], ?_, DecPost.no HN.out (HFIN.out.to_below (fun x hx => hx) (Nat.le_refl _))⟩
                          simp [results, Try.results78, go_sem, q0, q1, q2, q3, q4, q5, q6, q7, q8, q9, q10, q11, qk, bareC]
                        case true =>
                          have HV := Lib.hid (show rDec xs = some ⟨k, t, p, n, nullC, ts, ds⟩ by simp [rDec, rBody, rTail, rFull, HNIL.out, hq, He_a.out, He_b.out, HSC.out, He_c.out, He_d.out, He_e.out, He_f.out, HK2.out, if_pos HK8.out, HEC.out])
                          clear hq
                          have k_0 : wm.cell? ⟨w.heap.size, 0, none⟩ = some (.int .u8 k) := BR.out.cell 0
                          have f_0 := BR.out.frozen 0
                          have k_1 : wm.cell? ⟨w.heap.size, 1, none⟩ = some (.int .u32 t) := BR.out.cell 1
                          have f_1 := BR.out.frozen 1
                          have k_2 : wm.cell? ⟨w.heap.size, 2, none⟩ = some (.int .u64 p) := BR.out.cell 2
                          have f_2 := BR.out.frozen 2
                          have k_3 : wm.cell? ⟨w.heap.size, 3, none⟩ = some (.int .u64 n) := BR.out.cell 3
                          have f_3 := BR.out.frozen 3
                          have k_4 : wm.cell? ⟨w.heap.size, 4, none⟩ = some (.int .u32 0) := BR.out.cell 4
                          have f_4 := BR.out.frozen 4
                          have k_5 : wm.cell? ⟨w.heap.size, 5, none⟩ = some (.int .u16 0) := BR.out.cell 5
                          have f_5 := BR.out.frozen 5
                          have k_6 : wm.cell? ⟨w.heap.size, 6, none⟩ = some (.bool false) := BR.out.cell 6
                          have f_6 := BR.out.frozen 6
                          have k_7 : wm.cell? ⟨w.heap.size, 7, none⟩ = some (.bool false) := BR.out.cell 7
                          have f_7 := BR.out.frozen 7
                          have k_8 : wm.cell? ⟨w.heap.size, 8, none⟩ = some (.slice none 0 0) := BR.out.cell 8
                          have f_8 := BR.out.frozen 8
                          have k_9 : wm.cell? ⟨w.heap.size, 9, none⟩ = some (.slice none 0 0) := BR.out.cell 9
                          have f_9 := BR.out.frozen 9
                          have k_10 : wm.cell? ⟨w.heap.size, 10, none⟩ = some (.slice At ts.length kt) := BR.out.cell 10
                          have f_10 := BR.out.frozen 10
                          have k_11 : wm.cell? ⟨w.heap.size, 11, none⟩ = some (.slice Ad ds.length kd) := BR.out.cell 11
                          have f_11 := BR.out.frozen 11
                          have k_k : wm.cell? ⟨w.heap.size + 1, 0, none⟩ = some (.bool false) := BK.out.cell 0
                          have f_k := BK.out.frozen 0
                          go_wp2
                          clear k_0 f_0 k_1 f_1 k_2 f_2 k_3 f_3 k_4 f_4 k_5 f_5 k_6 f_6 k_7 f_7 k_8 f_8 k_9 f_9 k_10 f_10 k_11 f_11 k_k f_k
                          have b9 := Box.far (p := ⟨w.heap.size + 1, 0, none⟩) (Box.set_ (Box.set_ (Box.set_ (Box.set_ (Box.set_ (Box.set_ (Box.set_ (Box.set_ (Box.set_ (Box.set_ (Box.set_ (Box.set_ (BR.out) 0 (.int .u8 k)) 1 (.int .u32 t)) 2 (.int .u64 p)) 3 (.int .u64 n)) 4 (.int .u32 0)) 5 (.int .u16 0)) 6 (.bool false)) 7 (.bool false)) 8 (.slice none 0 0)) 9 (.slice none 0 0)) 10 (.slice At ts.length kt)) 11 (.slice Ad ds.length kd)) (Nat.ne_of_lt (Nat.lt_succ_self _)) (.bool true)
                          simp only [List.setIfInBounds_toArray, List.set_cons_zero, List.set_cons_succ] at b9
                          have k9 := Box.set_ (Box.far (p := ⟨w.heap.size, 11, none⟩) (Box.far (p := ⟨w.heap.size, 10, none⟩) (Box.far (p := ⟨w.heap.size, 9, none⟩) (Box.far (p := ⟨w.heap.size, 8, none⟩) (Box.far (p := ⟨w.heap.size, 7, none⟩) (Box.far (p := ⟨w.heap.size, 6, none⟩) (Box.far (p := ⟨w.heap.size, 5, none⟩) (Box.far (p := ⟨w.heap.size, 4, none⟩) (Box.far (p := ⟨w.heap.size, 3, none⟩) (Box.far (p := ⟨w.heap.size, 2, none⟩) (Box.far (p := ⟨w.heap.size, 1, none⟩) (Box.far (p := ⟨w.heap.size, 0, none⟩) (BK.out) (Nat.ne_of_gt (Nat.lt_succ_self _)) (.int .u8 k)) (Nat.ne_of_gt (Nat.lt_succ_self _)) (.int .u32 t)) (Nat.ne_of_gt (Nat.lt_succ_self _)) (.int .u64 p)) (Nat.ne_of_gt (Nat.lt_succ_self _)) (.int .u64 n)) (Nat.ne_of_gt (Nat.lt_succ_self _)) (.int .u32 0)) (Nat.ne_of_gt (Nat.lt_succ_self _)) (.int .u16 0)) (Nat.ne_of_gt (Nat.lt_succ_self _)) (.bool false)) (Nat.ne_of_gt (Nat.lt_succ_self _)) (.bool false)) (Nat.ne_of_gt (Nat.lt_succ_self _)) (.slice none 0 0)) (Nat.ne_of_gt (Nat.lt_succ_self _)) (.slice none 0 0)) (Nat.ne_of_gt (Nat.lt_succ_self _)) (.slice At ts.length kt)) (Nat.ne_of_gt (Nat.lt_succ_self _)) (.slice Ad ds.length kd)) 0 (.bool true)
                          simp only [List.setIfInBounds_toArray, List.set_cons_zero, List.set_cons_succ] at k9
                          have f9 := Fr.setCell (Fr.setCell (Fr.setCell (Fr.setCell (Fr.setCell (Fr.setCell (Fr.setCell (Fr.setCell (Fr.setCell (Fr.setCell (Fr.setCell (Fr.setCell (Fr.setCell (FR.out) (p := ⟨w.heap.size, 0, none⟩) (.inl (Nat.le_refl _)) (.int .u8 k)) (p := ⟨w.heap.size, 1, none⟩) (.inl (Nat.le_refl _)) (.int .u32 t)) (p := ⟨w.heap.size, 2, none⟩) (.inl (Nat.le_refl _)) (.int .u64 p)) (p := ⟨w.heap.size, 3, none⟩) (.inl (Nat.le_refl _)) (.int .u64 n)) (p := ⟨w.heap.size, 4, none⟩) (.inl (Nat.le_refl _)) (.int .u32 0)) (p := ⟨w.heap.size, 5, none⟩) (.inl (Nat.le_refl _)) (.int .u16 0)) (p := ⟨w.heap.size, 6, none⟩) (.inl (Nat.le_refl _)) (.bool false)) (p := ⟨w.heap.size, 7, none⟩) (.inl (Nat.le_refl _)) (.bool false)) (p := ⟨w.heap.size, 8, none⟩) (.inl (Nat.le_refl _)) (.slice none 0 0)) (p := ⟨w.heap.size, 9, none⟩) (.inl (Nat.le_refl _)) (.slice none 0 0)) (p := ⟨w.heap.size, 10, none⟩) (.inl (Nat.le_refl _)) (.slice At ts.length kt)) (p := ⟨w.heap.size, 11, none⟩) (.inl (Nat.le_refl _)) (.slice Ad ds.length kd)) (p := ⟨w.heap.size + 1, 0, none⟩) (.inl (Nat.le_succ _)) (.bool true)
                          have OT9 := own_set_far (own_set_far (own_set_far (own_set_far (own_set_far (own_set_far (own_set_far (own_set_far (own_set_far (own_set_far (own_set_far (own_set_far (own_set_far (OT.out) (p := ⟨w.heap.size, 0, none⟩) HGA.out.1 (.int .u8 k)) (p := ⟨w.heap.size, 1, none⟩) HGA.out.1 (.int .u32 t)) (p := ⟨w.heap.size, 2, none⟩) HGA.out.1 (.int .u64 p)) (p := ⟨w.heap.size, 3, none⟩) HGA.out.1 (.int .u64 n)) (p := ⟨w.heap.size, 4, none⟩) HGA.out.1 (.int .u32 0)) (p := ⟨w.heap.size, 5, none⟩) HGA.out.1 (.int .u16 0)) (p := ⟨w.heap.size, 6, none⟩) HGA.out.1 (.bool false)) (p := ⟨w.heap.size, 7, none⟩) HGA.out.1 (.bool false)) (p := ⟨w.heap.size, 8, none⟩) HGA.out.1 (.slice none 0 0)) (p := ⟨w.heap.size, 9, none⟩) HGA.out.1 (.slice none 0 0)) (p := ⟨w.heap.size, 10, none⟩) HGA.out.1 (.slice At ts.length kt)) (p := ⟨w.heap.size, 11, none⟩) HGA.out.1 (.slice Ad ds.length kd)) (p := ⟨w.heap.size + 1, 0, none⟩) HGA.out.2 (.bool true)
                          have OD9 := own_set_far (own_set_far (own_set_far (own_set_far (own_set_far (own_set_far (own_set_far (own_set_far (own_set_far (own_set_far (own_set_far (own_set_far (own_set_far (OD.out) (p := ⟨w.heap.size, 0, none⟩) HGA.out.1 (.int .u8 k)) (p := ⟨w.heap.size, 1, none⟩) HGA.out.1 (.int .u32 t)) (p := ⟨w.heap.size, 2, none⟩) HGA.out.1 (.int .u64 p)) (p := ⟨w.heap.size, 3, none⟩) HGA.out.1 (.int .u64 n)) (p := ⟨w.heap.size, 4, none⟩) HGA.out.1 (.int .u32 0)) (p := ⟨w.heap.size, 5, none⟩) HGA.out.1 (.int .u16 0)) (p := ⟨w.heap.size, 6, none⟩) HGA.out.1 (.bool false)) (p := ⟨w.heap.size, 7, none⟩) HGA.out.1 (.bool false)) (p := ⟨w.heap.size, 8, none⟩) HGA.out.1 (.slice none 0 0)) (p := ⟨w.heap.size, 9, none⟩) HGA.out.1 (.slice none 0 0)) (p := ⟨w.heap.size, 10, none⟩) HGA.out.1 (.slice At ts.length kt)) (p := ⟨w.heap.size, 11, none⟩) HGA.out.1 (.slice Ad ds.length kd)) (p := ⟨w.heap.size + 1, 0, none⟩) HGA.out.2 (.bool true)
                          generalize World.setCell (World.setCell (World.setCell (World.setCell (World.setCell (World.setCell (World.setCell (World.setCell (World.setCell (World.setCell (World.setCell (World.setCell (World.setCell (wm) (⟨w.heap.size, 0, none⟩ : Addr) (.int .u8 k)) (⟨w.heap.size, 1, none⟩ : Addr) (.int .u32 t)) (⟨w.heap.size, 2, none⟩ : Addr) (.int .u64 p)) (⟨w.heap.size, 3, none⟩ : Addr) (.int .u64 n)) (⟨w.heap.size, 4, none⟩ : Addr) (.int .u32 0)) (⟨w.heap.size, 5, none⟩ : Addr) (.int .u16 0)) (⟨w.heap.size, 6, none⟩ : Addr) (.bool false)) (⟨w.heap.size, 7, none⟩ : Addr) (.bool false)) (⟨w.heap.size, 8, none⟩ : Addr) (.slice none 0 0)) (⟨w.heap.size, 9, none⟩ : Addr) (.slice none 0 0)) (⟨w.heap.size, 10, none⟩ : Addr) (.slice At ts.length kt)) (⟨w.heap.size, 11, none⟩ : Addr) (.slice Ad ds.length kd)) (⟨w.heap.size + 1, 0, none⟩ : Addr) (.bool true) = W9 at *
                          refine leaves_cons (f := 87) (args := #[.pointer (some ⟨w.heap.size, 0, none⟩), .pointer (some ⟨w.heap.size + 1, 0, none⟩)]) (by simp) (by simp [go_sem]) ?_
                          refine (catch_none w.heap.size (w.heap.size + 1) _).mono ?_
                          rintro en u' w'' ⟨rfl, rfl, rfl⟩
                          have q0 : W9.cell? ⟨w.heap.size, 0, none⟩ = some (.int .u8 k) := b9.cell 0
                          have q1 : W9.cell? ⟨w.heap.size, 1, none⟩ = some (.int .u32 t) := b9.cell 1
                          have q2 : W9.cell? ⟨w.heap.size, 2, none⟩ = some (.int .u64 p) := b9.cell 2
                          have q3 : W9.cell? ⟨w.heap.size, 3, none⟩ = some (.int .u64 n) := b9.cell 3
                          have q4 : W9.cell? ⟨w.heap.size, 4, none⟩ = some (.int .u32 0) := b9.cell 4
                          have q5 : W9.cell? ⟨w.heap.size, 5, none⟩ = some (.int .u16 0) := b9.cell 5
                          have q6 : W9.cell? ⟨w.heap.size, 6, none⟩ = some (.bool false) := b9.cell 6
                          have q7 : W9.cell? ⟨w.heap.size, 7, none⟩ = some (.bool false) := b9.cell 7
                          have q8 : W9.cell? ⟨w.heap.size, 8, none⟩ = some (.slice none 0 0) := b9.cell 8
                          have q9 : W9.cell? ⟨w.heap.size, 9, none⟩ = some (.slice none 0 0) := b9.cell 9
                          have q10 : W9.cell? ⟨w.heap.size, 10, none⟩ = some (.slice At ts.length kt) := b9.cell 10
                          have q11 : W9.cell? ⟨w.heap.size, 11, none⟩ = some (.slice Ad ds.length kd) := b9.cell 11
                          have qk : W9.cell? ⟨w.heap.size + 1, 0, none⟩ = some (.bool true) := k9.cell 0
                          refine ⟨.tuple #[.agg #[.int .u8 k, .int .u32 t, .int .u64 p, .int .u64 n, .int .u32 0, .int .u16 0, .bool false, .bool false, .slice none 0 0, .slice none 0 0, .slice At ts.length kt, .slice Ad ds.length kd], .bool true], ?_, ?_⟩
                          · simp [results, Try.results78, go_sem, q0, q1, q2, q3, q4, q5, q6, q7, q8, q9, q10, q11, qk]
                          · unfold DecPost
                            rw [HV.out]
                            exact ⟨(.slice none 0 0), (.slice none 0 0), (.slice At ts.length kt), (.slice Ad ds.length kd), rfl, ⟨World.ownsRow_nil _ _ _ _, World.ownsRow_nil _ _ _ _, own_lower OT9 (Nat.le_of_lt HGA.out.1), own_lower OD9 (Nat.le_of_lt HGA.out.1)⟩, f9.to_below (fun x hx => hx) (Nat.le_refl _)⟩
                  · have d8 : (k == 8) = false := by rw [beq_dec]; simp; omega
                    have HK2 := Lib.hid hk2
                    have HK8 := Lib.hid hk8
                    clear hk2 hk8
                    obtain ⟨A9, c9, e9, hl9, hm9⟩ := RD.out.ir.form
                    obtain ⟨L9, hL9⟩ : ∃ n, n = yf.length := ⟨_, rfl⟩
                    rw [← hL9] at e9 hl9
                    subst e9
                    unfold maxLen at hm9
                    have kk := RD.out.box.cell
                    have kR := BR.out.cell
                    have fR := BR.out.frozen
                    by_cases h9 : 0 < L9
                    · have hne : ¬ yf = [] := fun e => by rw [e] at hL9; simp at hL9; omega
                      have HN := Lib.hid (show rDec xs = none by simp [rDec, rBody, rTail, rFull, hne, He_a.out, He_b.out, HSC.out, He_c.out, He_d.out, He_e.out, He_f.out, HK2.out, HK8.out])
                      have d9 : decide ((0 : Int) < (L9 : Int)) = true := by simpa using h9
                      have d9' : decide (0 < L9) = true := by simpa using h9
                      clear h9 hL9
                      go_wp2_with (go_at_call 89; (with_reducible refine (give_up _ _).mono ?_); rintro e z ⟨rfl, rfl⟩)
                      refine leaves_cons (f := 87) (args := #[.pointer (some ⟨w.heap.size, 0, none⟩), .pointer (some ⟨w.heap.size + 1, 0, none⟩)]) (by simp) (by simp [go_sem]) ?_
                      obtain ⟨Cz, hcz, hcs⟩ := out_size BR.out
                      refine (catch_panic w.heap.size (w.heap.size + 1) (by omega) Cz _ hcs hcz false BK.out).mono ?_
                      rintro en u' w'' ⟨rfl, rfl, hb, hk, hf⟩
                      have hfin := FR.out.trans' hf (fun x _ hx => by rcases hx with hx | hx <;> omega)
                      have q0 : w''.cell? ⟨w.heap.size, 0, none⟩ = some (.int .u8 0) := hb.cell 0
                      have q1 : w''.cell? ⟨w.heap.size, 1, none⟩ = some (.int .u32 0) := hb.cell 1
                      have q2 : w''.cell? ⟨w.heap.size, 2, none⟩ = some (.int .u64 0) := hb.cell 2
                      have q3 : w''.cell? ⟨w.heap.size, 3, none⟩ = some (.int .u64 0) := hb.cell 3
                      have q4 : w''.cell? ⟨w.heap.size, 4, none⟩ = some (.int .u32 0) := hb.cell 4
                      have q5 : w''.cell? ⟨w.heap.size, 5, none⟩ = some (.int .u16 0) := hb.cell 5
                      have q6 : w''.cell? ⟨w.heap.size, 6, none⟩ = some (.bool false) := hb.cell 6
                      have q7 : w''.cell? ⟨w.heap.size, 7, none⟩ = some (.bool false) := hb.cell 7
                      have q8 : w''.cell? ⟨w.heap.size, 8, none⟩ = some (.slice none 0 0) := hb.cell 8
                      have q9 : w''.cell? ⟨w.heap.size, 9, none⟩ = some (.slice none 0 0) := hb.cell 9
                      have q10 : w''.cell? ⟨w.heap.size, 10, none⟩ = some (.slice none 0 0) := hb.cell 10
                      have q11 : w''.cell? ⟨w.heap.size, 11, none⟩ = some (.slice none 0 0) := hb.cell 11
                      have qk : w''.cell? ⟨w.heap.size + 1, 0, none⟩ = some (.bool false) := hk.cell 0
                      have HFIN := Lib.hid hfin
                      clear hb hk hf hfin hcz hcs
                      refine ⟨.tuple #[.agg (bareC 0 0 0 0), .bool false], ?_, DecPost.no HN.out (HFIN.out.to_below (fun x hx => hx) (Nat.le_refl _))⟩
                      simp [results, Try.results78, go_sem, q0, q1, q2, q3, q4, q5, q6, q7, q8, q9, q10, q11, qk, bareC]
                    · have h0 : L9 = 0 := by omega
                      have hnil : yf = [] := List.eq_nil_of_length_eq_zero (by omega)
                      have HNIL := Lib.hid hnil
                      subst h0
                      clear h9 hL9 hnil
                      have HRI := Lib.hid (fun W (h : RcIn W W.heap.size ⟨k, t, p, n, nullC, [], []⟩ (.slice none 0 0) (.slice none 0 0) (.slice none 0 0) (.slice none 0 0)) => may_any ⟨k, t, p, n, nullC, [], []⟩ _ _ _ _ W _ (Nat.le_refl _) h)
                      go_wp2_with fail
                      (with_reducible refine (HRI.out _ ⟨IR.nil _ _ _, IR.nil _ _ _, SS.nil _ _, SS.nil _ _⟩).mono ?_)
                      rintro e wm ⟨rfl, hbm⟩
                      have BR' := Lib.hid (BR.out.later hbm)
                      have BK' := Lib.hid (BK.out.later hbm)
                      have FR' := Lib.hid (FR.out.trans (.of_below hbm))
                      have RD' := Lib.hid (RD.out.below hbm)
                      clear BR BK FR RD
                      have BR := BR'
                      have BK := BK'
                      have FR := FR'
                      have RD := RD'
                      clear BR' BK' FR' RD'
                      clear hbm kk kR fR HRI
                      cases hq : mayS ⟨k, t, p, n, nullC, [], []⟩
                      case false =>
                        have HN := Lib.hid (show rDec xs = none by simp [rDec, rBody, rTail, rFull, HNIL.out, hq, He_a.out, He_b.out, HSC.out, He_c.out, He_d.out, He_e.out, He_f.out, HK2.out, HK8.out])
                        have kk := RD.out.box.cell
                        clear hq
                        go_wp2_with (go_at_call 89; (with_reducible refine (give_up _ _).mono ?_); rintro e z ⟨rfl, rfl⟩)
                        refine leaves_cons (f := 87) (args := #[.pointer (some ⟨w.heap.size, 0, none⟩), .pointer (some ⟨w.heap.size + 1, 0, none⟩)]) (by simp) (by simp [go_sem]) ?_
                        obtain ⟨Cz, hcz, hcs⟩ := out_size BR.out
                        refine (catch_panic w.heap.size (w.heap.size + 1) (by omega) Cz _ hcs hcz false BK.out).mono ?_
                        rintro en u' w'' ⟨rfl, rfl, hb, hk, hf⟩
                        have hfin := FR.out.trans' hf (fun x _ hx => by rcases hx with hx | hx <;> omega)
                        have q0 : w''.cell? ⟨w.heap.size, 0, none⟩ = some (.int .u8 0) := hb.cell 0
                        have q1 : w''.cell? ⟨w.heap.size, 1, none⟩ = some (.int .u32 0) := hb.cell 1
                        have q2 : w''.cell? ⟨w.heap.size, 2, none⟩ = some (.int .u64 0) := hb.cell 2
                        have q3 : w''.cell? ⟨w.heap.size, 3, none⟩ = some (.int .u64 0) := hb.cell 3
                        have q4 : w''.cell? ⟨w.heap.size, 4, none⟩ = some (.int .u32 0) := hb.cell 4
                        have q5 : w''.cell? ⟨w.heap.size, 5, none⟩ = some (.int .u16 0) := hb.cell 5
                        have q6 : w''.cell? ⟨w.heap.size, 6, none⟩ = some (.bool false) := hb.cell 6
                        have q7 : w''.cell? ⟨w.heap.size, 7, none⟩ = some (.bool false) := hb.cell 7
                        have q8 : w''.cell? ⟨w.heap.size, 8, none⟩ = some (.slice none 0 0) := hb.cell 8
                        have q9 : w''.cell? ⟨w.heap.size, 9, none⟩ = some (.slice none 0 0) := hb.cell 9
                        have q10 : w''.cell? ⟨w.heap.size, 10, none⟩ = some (.slice none 0 0) := hb.cell 10
                        have q11 : w''.cell? ⟨w.heap.size, 11, none⟩ = some (.slice none 0 0) := hb.cell 11
                        have qk : w''.cell? ⟨w.heap.size + 1, 0, none⟩ = some (.bool false) := hk.cell 0
                        have HFIN := Lib.hid hfin
                        clear hb hk hf hfin hcz hcs
                        refine ⟨.tuple #[.agg (bareC 0 0 0 0), .bool false], ?_, DecPost.no HN.out (HFIN.out.to_below (fun x hx => hx) (Nat.le_refl _))⟩
                        simp [results, Try.results78, go_sem, q0, q1, q2, q3, q4, q5, q6, q7, q8, q9, q10, q11, qk, bareC]
                      case true =>
                        have HV := Lib.hid (show rDec xs = some ⟨k, t, p, n, nullC, [], []⟩ by simp [rDec, rBody, rTail, rFull, HNIL.out, hq, He_a.out, He_b.out, HSC.out, He_c.out, He_d.out, He_e.out, He_f.out, HK2.out, HK8.out])
                        clear hq
                        have k_0 : wm.cell? ⟨w.heap.size, 0, none⟩ = some (.int .u8 k) := BR.out.cell 0
                        have f_0 := BR.out.frozen 0
                        have k_1 : wm.cell? ⟨w.heap.size, 1, none⟩ = some (.int .u32 t) := BR.out.cell 1
                        have f_1 := BR.out.frozen 1
                        have k_2 : wm.cell? ⟨w.heap.size, 2, none⟩ = some (.int .u64 p) := BR.out.cell 2
                        have f_2 := BR.out.frozen 2
                        have k_3 : wm.cell? ⟨w.heap.size, 3, none⟩ = some (.int .u64 n) := BR.out.cell 3
                        have f_3 := BR.out.frozen 3
                        have k_4 : wm.cell? ⟨w.heap.size, 4, none⟩ = some (.int .u32 0) := BR.out.cell 4
                        have f_4 := BR.out.frozen 4
                        have k_5 : wm.cell? ⟨w.heap.size, 5, none⟩ = some (.int .u16 0) := BR.out.cell 5
                        have f_5 := BR.out.frozen 5
                        have k_6 : wm.cell? ⟨w.heap.size, 6, none⟩ = some (.bool false) := BR.out.cell 6
                        have f_6 := BR.out.frozen 6
                        have k_7 : wm.cell? ⟨w.heap.size, 7, none⟩ = some (.bool false) := BR.out.cell 7
                        have f_7 := BR.out.frozen 7
                        have k_8 : wm.cell? ⟨w.heap.size, 8, none⟩ = some (.slice none 0 0) := BR.out.cell 8
                        have f_8 := BR.out.frozen 8
                        have k_9 : wm.cell? ⟨w.heap.size, 9, none⟩ = some (.slice none 0 0) := BR.out.cell 9
                        have f_9 := BR.out.frozen 9
                        have k_10 : wm.cell? ⟨w.heap.size, 10, none⟩ = some (.slice none 0 0) := BR.out.cell 10
                        have f_10 := BR.out.frozen 10
                        have k_11 : wm.cell? ⟨w.heap.size, 11, none⟩ = some (.slice none 0 0) := BR.out.cell 11
                        have f_11 := BR.out.frozen 11
                        have k_k : wm.cell? ⟨w.heap.size + 1, 0, none⟩ = some (.bool false) := BK.out.cell 0
                        have f_k := BK.out.frozen 0
                        go_wp2
                        clear k_0 f_0 k_1 f_1 k_2 f_2 k_3 f_3 k_4 f_4 k_5 f_5 k_6 f_6 k_7 f_7 k_8 f_8 k_9 f_9 k_10 f_10 k_11 f_11 k_k f_k
                        have b9 := Box.far (p := ⟨w.heap.size + 1, 0, none⟩) (Box.set_ (Box.set_ (Box.set_ (Box.set_ (Box.set_ (Box.set_ (Box.set_ (Box.set_ (Box.set_ (Box.set_ (Box.set_ (Box.set_ (BR.out) 0 (.int .u8 k)) 1 (.int .u32 t)) 2 (.int .u64 p)) 3 (.int .u64 n)) 4 (.int .u32 0)) 5 (.int .u16 0)) 6 (.bool false)) 7 (.bool false)) 8 (.slice none 0 0)) 9 (.slice none 0 0)) 10 (.slice none 0 0)) 11 (.slice none 0 0)) (Nat.ne_of_lt (Nat.lt_succ_self _)) (.bool true)
                        simp only [List.setIfInBounds_toArray, List.set_cons_zero, List.set_cons_succ] at b9
                        have k9 := Box.set_ (Box.far (p := ⟨w.heap.size, 11, none⟩) (Box.far (p := ⟨w.heap.size, 10, none⟩) (Box.far (p := ⟨w.heap.size, 9, none⟩) (Box.far (p := ⟨w.heap.size, 8, none⟩) (Box.far (p := ⟨w.heap.size, 7, none⟩) (Box.far (p := ⟨w.heap.size, 6, none⟩) (Box.far (p := ⟨w.heap.size, 5, none⟩) (Box.far (p := ⟨w.heap.size, 4, none⟩) (Box.far (p := ⟨w.heap.size, 3, none⟩) (Box.far (p := ⟨w.heap.size, 2, none⟩) (Box.far (p := ⟨w.heap.size, 1, none⟩) (Box.far (p := ⟨w.heap.size, 0, none⟩) (BK.out) (Nat.ne_of_gt (Nat.lt_succ_self _)) (.int .u8 k)) (Nat.ne_of_gt (Nat.lt_succ_self _)) (.int .u32 t)) (Nat.ne_of_gt (Nat.lt_succ_self _)) (.int .u64 p)) (Nat.ne_of_gt (Nat.lt_succ_self _)) (.int .u64 n)) (Nat.ne_of_gt (Nat.lt_succ_self _)) (.int .u32 0)) (Nat.ne_of_gt (Nat.lt_succ_self _)) (.int .u16 0)) (Nat.ne_of_gt (Nat.lt_succ_self _)) (.bool false)) (Nat.ne_of_gt (Nat.lt_succ_self _)) (.bool false)) (Nat.ne_of_gt (Nat.lt_succ_self _)) (.slice none 0 0)) (Nat.ne_of_gt (Nat.lt_succ_self _)) (.slice none 0 0)) (Nat.ne_of_gt (Nat.lt_succ_self _)) (.slice none 0 0)) (Nat.ne_of_gt (Nat.lt_succ_self _)) (.slice none 0 0)) 0 (.bool true)
                        simp only [List.setIfInBounds_toArray, List.set_cons_zero, List.set_cons_succ] at k9
                        have f9 := Fr.setCell (Fr.setCell (Fr.setCell (Fr.setCell (Fr.setCell (Fr.setCell (Fr.setCell (Fr.setCell (Fr.setCell (Fr.setCell (Fr.setCell (Fr.setCell (Fr.setCell (FR.out) (p := ⟨w.heap.size, 0, none⟩) (.inl (Nat.le_refl _)) (.int .u8 k)) (p := ⟨w.heap.size, 1, none⟩) (.inl (Nat.le_refl _)) (.int .u32 t)) (p := ⟨w.heap.size, 2, none⟩) (.inl (Nat.le_refl _)) (.int .u64 p)) (p := ⟨w.heap.size, 3, none⟩) (.inl (Nat.le_refl _)) (.int .u64 n)) (p := ⟨w.heap.size, 4, none⟩) (.inl (Nat.le_refl _)) (.int .u32 0)) (p := ⟨w.heap.size, 5, none⟩) (.inl (Nat.le_refl _)) (.int .u16 0)) (p := ⟨w.heap.size, 6, none⟩) (.inl (Nat.le_refl _)) (.bool false)) (p := ⟨w.heap.size, 7, none⟩) (.inl (Nat.le_refl _)) (.bool false)) (p := ⟨w.heap.size, 8, none⟩) (.inl (Nat.le_refl _)) (.slice none 0 0)) (p := ⟨w.heap.size, 9, none⟩) (.inl (Nat.le_refl _)) (.slice none 0 0)) (p := ⟨w.heap.size, 10, none⟩) (.inl (Nat.le_refl _)) (.slice none 0 0)) (p := ⟨w.heap.size, 11, none⟩) (.inl (Nat.le_refl _)) (.slice none 0 0)) (p := ⟨w.heap.size + 1, 0, none⟩) (.inl (Nat.le_succ _)) (.bool true)
                        generalize World.setCell (World.setCell (World.setCell (World.setCell (World.setCell (World.setCell (World.setCell (World.setCell (World.setCell (World.setCell (World.setCell (World.setCell (World.setCell (wm) (⟨w.heap.size, 0, none⟩ : Addr) (.int .u8 k)) (⟨w.heap.size, 1, none⟩ : Addr) (.int .u32 t)) (⟨w.heap.size, 2, none⟩ : Addr) (.int .u64 p)) (⟨w.heap.size, 3, none⟩ : Addr) (.int .u64 n)) (⟨w.heap.size, 4, none⟩ : Addr) (.int .u32 0)) (⟨w.heap.size, 5, none⟩ : Addr) (.int .u16 0)) (⟨w.heap.size, 6, none⟩ : Addr) (.bool false)) (⟨w.heap.size, 7, none⟩ : Addr) (.bool false)) (⟨w.heap.size, 8, none⟩ : Addr) (.slice none 0 0)) (⟨w.heap.size, 9, none⟩ : Addr) (.slice none 0 0)) (⟨w.heap.size, 10, none⟩ : Addr) (.slice none 0 0)) (⟨w.heap.size, 11, none⟩ : Addr) (.slice none 0 0)) (⟨w.heap.size + 1, 0, none⟩ : Addr) (.bool true) = W9 at *
                        refine leaves_cons (f := 87) (args := #[.pointer (some ⟨w.heap.size, 0, none⟩), .pointer (some ⟨w.heap.size + 1, 0, none⟩)]) (by simp) (by simp [go_sem]) ?_
                        refine (catch_none w.heap.size (w.heap.size + 1) _).mono ?_
                        rintro en u' w'' ⟨rfl, rfl, rfl⟩
                        have q0 : W9.cell? ⟨w.heap.size, 0, none⟩ = some (.int .u8 k) := b9.cell 0
                        have q1 : W9.cell? ⟨w.heap.size, 1, none⟩ = some (.int .u32 t) := b9.cell 1
                        have q2 : W9.cell? ⟨w.heap.size, 2, none⟩ = some (.int .u64 p) := b9.cell 2
                        have q3 : W9.cell? ⟨w.heap.size, 3, none⟩ = some (.int .u64 n) := b9.cell 3
                        have q4 : W9.cell? ⟨w.heap.size, 4, none⟩ = some (.int .u32 0) := b9.cell 4
                        have q5 : W9.cell? ⟨w.heap.size, 5, none⟩ = some (.int .u16 0) := b9.cell 5
                        have q6 : W9.cell? ⟨w.heap.size, 6, none⟩ = some (.bool false) := b9.cell 6
                        have q7 : W9.cell? ⟨w.heap.size, 7, none⟩ = some (.bool false) := b9.cell 7
                        have q8 : W9.cell? ⟨w.heap.size, 8, none⟩ = some (.slice none 0 0) := b9.cell 8
                        have q9 : W9.cell? ⟨w.heap.size, 9, none⟩ = some (.slice none 0 0) := b9.cell 9
                        have q10 : W9.cell? ⟨w.heap.size, 10, none⟩ = some (.slice none 0 0) := b9.cell 10
                        have q11 : W9.cell? ⟨w.heap.size, 11, none⟩ = some (.slice none 0 0) := b9.cell 11
                        have qk : W9.cell? ⟨w.heap.size + 1, 0, none⟩ = some (.bool true) := k9.cell 0
                        refine ⟨.tuple #[.agg #[.int .u8 k, .int .u32 t, .int .u64 p, .int .u64 n, .int .u32 0, .int .u16 0, .bool false, .bool false, .slice none 0 0, .slice none 0 0, .slice none 0 0, .slice none 0 0], .bool true], ?_, ?_⟩
                        · simp [results, Try.results78, go_sem, q0, q1, q2, q3, q4, q5, q6, q7, q8, q9, q10, q11, qk]
                        · unfold DecPost
                          rw [HV.out]
                          exact ⟨(.slice none 0 0), (.slice none 0 0), (.slice none 0 0), (.slice none 0 0), rfl, ⟨World.ownsRow_nil _ _ _ _, World.ownsRow_nil _ _ _ _, World.ownsRow_nil _ _ _ _, World.ownsRow_nil _ _ _ _⟩, f9.to_below (fun x hx => hx) (Nat.le_refl _)⟩
end Go.Proofs.Yteggcehjpfmikaa.Rec
