import Derived.Test.YtacjbgkcghcnnaaSeal3
/- What hands out the stamps of sectors. -/
namespace Go.Proofs.Ytacjbgkcghcnnaa.Seal
open Go.ChangeShapes Go.WideShapes Go.ChangeAt Go.RowKit Go.IntWalk Go.Shelf Go.Proofs.NumMath Go.Proofs.Mem NumBytes
set_option linter.unusedVariables false
attribute [local go_sem] Oper.semAt_some
abbrev Sects := List (Value × List Int)
/-- the two numbers of a sector -/
def stampOf (xs : List Int) : List Int := if xs.length = 128 then [getS (xs.take 8), getS (xs.drop 120)] else []
def stampsOf (vs : Sects) : List Int := vs.flatMap fun p => stampOf p.2
theorem stampsOf_succ {vs : Sects} {k : Nat} {u : Value} {xs : List Int} (h : vs[k]? = some (u, xs)) : stampsOf (vs.take (k + 1)) = stampsOf (vs.take k) ++ stampOf xs := by
  rw [List.take_add_one, h]; simp [stampsOf]
theorem stamps_pre (vs : Sects) (k : Nat) : stampsOf (vs.take k) <+: stampsOf vs := by
  refine ⟨stampsOf (vs.drop k), ?_⟩
  unfold stampsOf
  rw [← List.flatMap_append, List.take_append_drop]
theorem stampOf_len (xs : List Int) : (stampOf xs).length ≤ 2 := by unfold stampOf; split <;> simp
theorem stamps_len : ∀ vs : Sects, (stampsOf vs).length ≤ 2 * vs.length
  | [] => by simp [stampsOf]
  | p :: vs => by
    have h1 := stamps_len vs
    have h2 := stampOf_len p.2
    simp only [stampsOf, List.flatMap_cons, List.length_append, List.length_cons] at *
    omega
theorem SR.fr {A B : World} {top : Nat} {v : Value} {vs : Sects} {S : Nat → Prop} (h : SR A top v vs) (hf : Fr S A B) (hS : ∀ k, S k → top ≤ k) (ht : top ≤ A.heap.size) : SR B top v vs :=
  h.keep fun p hp => hf.cell (by omega) (fun hs => by have := hS _ hs; omega)
theorem IR.fr {A B : World} {top : Nat} {k : IntKind} {v : Value} {vs : List Int} {S : Nat → Prop} (h : IR A top k v vs) (hf : Fr S A B) (hS : ∀ k, S k → top ≤ k) (ht : top ≤ A.heap.size) : IR B top k v vs :=
  h.keep fun p hp => hf.cell (by omega) (fun hs => by have := hS _ hs; omega)
theorem sr_more {A : World} {top top' : Nat} {v : Value} {vs : Sects} (h : SR A top v vs) (ht : top ≤ top') : SR A top' v vs := by
  obtain ⟨a, c, h1, h2, h3, h5⟩ := h
  refine ⟨a, c, h1, h2, h3, fun i hi => ?_⟩
  obtain ⟨b, off, u, xs, e, hb, hv, hc, hr, hx⟩ := h5 i hi
  exact ⟨b, off, u, xs, e, by omega, hv, hc, hr.more ht, hx⟩
/-- the end of a slice of bytes -/
theorem IR.tail_ {W : World} {B b off c n : Nat} {xs : List Int} (h : IR W B .u8 (.slice (some ⟨b, off, none⟩) n c) xs) (a : Nat) (ha : a ≤ n) : IR W B .u8 (.slice (some ⟨b, off + a, none⟩) (n - a) (c - a)) (xs.drop a) := by
  obtain ⟨A, c', e, h2, h3, h4, h5⟩ := h
  injection e with e1 e2 e3
  subst e1 e2 e3
  have hl : (xs.drop a).length = xs.length - a := by simp
  refine ⟨_, _, by rw [hl], by omega, by omega, (fun hh => by cases hh), fun i hi => ?_⟩
  obtain ⟨b', off', e, hb, hc⟩ := h5 (a + i) (by omega)
  injection e with e
  injection e with e1 e2
  subst e1 e2
  refine ⟨b, off + a, rfl, hb, ?_⟩
  rw [Nat.add_assoc, hc]
  congr 2
  simp [List.getD, List.getElem?_drop]
theorem Bytes.drop {xs : List Int} (h : Bytes xs) (a : Nat) : Bytes (xs.drop a) := fun x hx => h x (List.mem_of_mem_drop hx)
theorem Bytes.take {xs : List Int} (h : Bytes xs) (a : Nat) : Bytes (xs.take a) := fun x hx => h x (List.mem_of_mem_take hx)
set_option maxHeartbeats 1000000 in
theorem stamps_in (F : Fence) (n : Nat) (h0 : F.fn 23) (hro : F.round = none) (A : Option Addr) (l c : Nat) (w : World) :
    CallsIn F n Try.prog 23 #[.slice A l c] w fun e w' => e = .returned (.func (.func 26) #[] #[.pointer (some ⟨w.heap.size, 0, none⟩)]) ∧ w' = w.alloc (.cells #[.slice A l c] 27) := by
  refine callsIn_of_wp Try.func23 rfl h0 ?_ hro
  simp only [Try.ntmps23, List.size_toArray, List.length_cons, List.length_nil, Nat.reduceAdd, Nat.reduceSub, Array.replicate_succ, Array.replicate_zero, List.push_toArray, List.append_toArray, List.nil_append, List.cons_append]
  gi_wp2
  go_ret
  exact ⟨rfl, rfl⟩
set_option maxRecDepth 100000 in
set_option maxHeartbeats 4000000 in
theorem stamps1_in (hro : Fence.wide.round = none) (l Bs : Nat) (S : Nat → Prop) (v : Value) (vs : Sects) (top : Nat) (hs : ¬ S Bs) (hS : ∀ k, S k → top ≤ k) (J Jx : List Int → World → Prop)
    (hY : ∀ pre x W, J pre W → pre.length < 2 * vs.length → YieldAt Fence.wide 1 Try.prog l #[.int .u64 x] W fun e W' =>
      (e = .returned (.bool true) ∧ J (pre ++ [x]) W' ∧ Fr S W W') ∨ (e = .returned (.bool false) ∧ Jx (pre ++ [x]) W'))
    (W : World) (hBs : W.cell? ⟨Bs, 0, none⟩ = some v) (hv : SR W top v vs) (ht : top ≤ W.heap.size) (h00 : J [] W) :
    CallsIn Fence.wide 2 Try.prog 26 #[.func (.yield l) #[] #[], .pointer (some ⟨Bs, 0, none⟩)] W fun e W' => (∃ v, e = .returned v) ∧
      ((∃ ys, ys = stampsOf vs ∧ J ys W') ∨ (∃ pre, pre <+: stampsOf vs ∧ Jx pre W')) := by
  obtain ⟨A, c, rfl, hlc, hcm⟩ := hv.form
  unfold maxLen at hcm
  have HV := Lib.hid hv
  clear hv
  refine callsIn_of_wp Try.func26 rfl trivial ?_ hro
  simp only [Try.ntmps26, List.size_toArray, List.length_cons, List.length_nil, Nat.reduceAdd, Nat.reduceSub, Array.replicate_succ, Array.replicate_zero, List.push_toArray, List.append_toArray, List.nil_append, List.cons_append]
  gi_wp2
  gi_loopw [7] (fun i wr => ∃ k : Nat, k ≤ vs.length ∧ i = .int .i64 k ∧ Hid (J (stampsOf (vs.take k)) wr) ∧ Hid (Fr S W wr)) (fun i _ => vs.length - (intOf i).toNat)
  case atStart => exact ⟨0, by omega, rfl, Lib.hid (by simpa [stampsOf] using h00), Lib.hid (Fr.refl _ _)⟩
  case round =>
    obtain ⟨k, hk, rfl, HJ, HB⟩ := hrel
    by_cases hlt : k < vs.length
    · obtain ⟨b1, o1, u1, x1, rfl, _, g1, e1, r1, y1⟩ := (SR.fr HV.out HB.out hS ht).index k hlt
      have q1 : decide ((k : Int) < (vs.length : Int)) = true := decide_eq_true (by omega)
      have q1' : decide (k < vs.length) = true := decide_eq_true hlt
      have SS1 := Lib.hid (stampsOf_succ g1)
      have SL := Lib.hid (show (stampsOf (vs.take k)).length ≤ 2 * k by have := stamps_len (vs.take k); simp at this; omega)
      have SPR := Lib.hid (fun k => stamps_pre vs k)
      obtain ⟨A1, c1, rfl, hl1, hm1⟩ := r1.form
      unfold maxLen at hm1
      by_cases hx : x1.length = 128
      · rw [hx] at e1 r1
        obtain ⟨b2, o2, rfl, _, _⟩ := r1.index 0 (by decide)
        have HSO := Lib.hid (show stampOf x1 = [getS (x1.take 8), getS (x1.drop 120)] by unfold stampOf; rw [if_pos hx])
        have hc1 : 128 ≤ c1 := by omega
        have R8 := Lib.hid (r1.take (m := 8) (by decide))
        have R120 := Lib.hid (IR.tail_ r1 120 (by decide))
        have Y8 := Lib.hid (Bytes.take y1 8)
        have Y120 := Lib.hid (Bytes.drop y1 120)
        obtain ⟨na, hna⟩ : ∃ z, getS (x1.take 8) = z := ⟨_, rfl⟩
        obtain ⟨nb, hnb⟩ : ∃ z, getS (x1.drop 120) = z := ⟨_, rfl⟩
        rw [hna, hnb] at HSO
        have HNA := Lib.hid hna
        have HNB := Lib.hid hnb
        obtain ⟨fn, tmps, assign, body, hy, hR⟩ := hY _ na wr HJ.out (by have := SL.out; omega)
        clear r1 g1 hx hna hnb y1
        gi_wp2_with (first
          | (refine ⟨trivial, ?_⟩; gi_at_call 22; refine (callsIn_wide.2 (get_any _ _ wr _ R8.out Y8.out)).mono ?_; rintro e w' ⟨rfl, rfl⟩; rw [HNA.out]))
        refine hR.mono ?_
        rintro e W3 (⟨rfl, hJ3, hk3⟩ | ⟨rfl, hJx3⟩)
        · have HJ3 := Lib.hid hJ3
          have HB3 := Lib.hid (HB.out.trans hk3)
          have R3 := Lib.hid (IR.fr R120.out hk3 hS (by have := HB.out.size; omega))
          obtain ⟨fn2, tmps2, assign2, body2, hy2, hR2⟩ := hY _ nb W3 hJ3 (by have := SL.out; simp; omega)
          clear hJ3 hk3
          gi_wp2_with (first
            | (refine ⟨trivial, ?_⟩; gi_at_call 22; refine (callsIn_wide.2 (get_any _ _ W3 _ R3.out Y120.out)).mono ?_; rintro e w' ⟨rfl, rfl⟩; rw [HNB.out]))
          refine hR2.mono ?_
          rintro e W4 (⟨rfl, hJ4, hk4⟩ | ⟨rfl, hJx4⟩)
          · have HJ4 := Lib.hid (show J (stampsOf (vs.take (k + 1))) W4 by rw [SS1.out, HSO.out]; simpa using hJ4)
            have HB4 := Lib.hid (HB3.out.trans hk4)
            clear hJ4 hk4
            gi_wp2
            go_roundw
            case rel => exact ⟨k + 1, by omega, by go_num, HJ4, HB4⟩
            case measure => simp [intOf]; omega
          · have HP := Lib.hid (show stampsOf (vs.take k) ++ [na] ++ [nb] <+: stampsOf vs by have := SPR.out (k + 1); rw [SS1.out, HSO.out] at this; simpa using this)
            gi_wp2
            refine bodyPost_ret (results_none rfl _ _ _) rfl ?_
            exact ⟨⟨_, rfl⟩, .inr ⟨_, HP.out, hJx4⟩⟩
        · have HP := Lib.hid (show stampsOf (vs.take k) ++ [na] <+: stampsOf vs by
            have := SPR.out (k + 1)
            rw [SS1.out, HSO.out] at this
            exact (List.prefix_append_right_inj _).2 (by exact ⟨[nb], rfl⟩) |>.trans this)
          gi_wp2
          refine ⟨trivial, ?_⟩
          gi_wp2
          refine ⟨fun _ h => (by cases h), ?_⟩
          gi_wp2
          refine bodyPost_ret (results_none rfl _ _ _) rfl ?_
          exact ⟨⟨_, rfl⟩, .inr ⟨_, HP.out, hJx3⟩⟩
      · have d1 : ((x1.length : Int) == 128) = false := by simp; omega
        have d2 : ((x1.length : Int) != 128) = true := by simp; omega
        have HSO := Lib.hid (show stampOf x1 = [] by unfold stampOf; rw [if_neg hx])
        clear r1 g1 hx
        gi_wp2
        go_roundw
        case rel => exact ⟨k + 1, by omega, by go_num, Lib.hid (by rw [SS1.out, HSO.out, List.append_nil]; exact HJ.out), HB⟩
        case measure => simp [intOf]; omega
    · obtain rfl : k = vs.length := by omega
      have HJ' := Lib.hid (show J (stampsOf vs) wr by have := HJ.out; rwa [List.take_length] at this)
      gi_wp2
      go_end0
      exact ⟨⟨_, rfl⟩, .inl ⟨_, rfl, HJ'.out⟩⟩
theorem stamps_stops (Bs : Nat) (S : Nat → Prop) (v : Value) (vs : Sects) (top : Nat) (hs : ¬ S Bs) (hS : ∀ k, S k → top ≤ k) (w : World) (hBs : w.cell? ⟨Bs, 0, none⟩ = some v) (hv : SR w top v vs) (ht : top ≤ w.heap.size) :
    SeqStopsK Fence.wide 2 Try.prog 26 #[.pointer (some ⟨Bs, 0, none⟩)] (fun x : Int => #[.int .u64 x]) (Fr S) (fun ys => ys = stampsOf vs) (fun pre => pre <+: stampsOf vs) (2 * vs.length) w := fun l J Jx W hW _ _ hY h00 =>
  stamps1_in rfl l Bs S v vs top hs hS J Jx hY W ((hW.cell (p := ⟨Bs, 0, none⟩) (Law.lt_of_cell hBs)).trans hBs) (hv.keep (fun p hp => hW.cell (by omega))) (by have := hW.size; omega) h00
end Go.Proofs.Ytacjbgkcghcnnaa.Seal
