import Derived.Test.YtacjbgkcghcnnaaSealD
import Derived.Deep.RegionWith
import Derived.Deep.QuietTactic
import Derived.BigQuiet
import Derived.Laws.Cover1
/- The document's Greatest. -/
namespace Go.Proofs.Ytacjbgkcghcnnaa.Seal
open Go.ChangeShapes Go.WideShapes Go.ChangeAt Go.RowKit Go.IntWalk Go.Shelf Go.Proofs.NumMath Go.Proofs.Mem NumBytes
set_option linter.unusedVariables false
theorem most_two (l : List Int) (a b : Int) : most (l ++ [a, b]) = mx (mx (most l) a) b := by simp [most]
theorem mx_yes {m a : Int} (h : m ≤ a) : mx m a = a := by unfold mx; rw [if_pos h]
theorem mx_no {m a : Int} (h : ¬ m ≤ a) : mx m a = m := by unfold mx; rw [if_neg h]
theorem max_is (m na nb : Int) : (if (if m < na then na else m) < nb then nb else (if m < na then na else m)) = mx (mx m na) nb := by
  unfold mx
  by_cases h1 : m < na <;> by_cases h2 : m ≤ na <;> simp only [h1, h2, if_true, if_false] <;> (repeat' split) <;> omega
set_option maxRecDepth 100000 in
set_option maxHeartbeats 8000000 in
theorem ref_greatest_any (w : World) (B : Nat) (v : Value) (vs : Sects) (hv : SR w B v vs) (hB : B ≤ w.heap.size) :
    Calls Try.prog 17 #[v] w fun e w' => e = .returned (.int .u64 (most (stampsOf vs))) ∧ Below w.heap.size w w' := by
  obtain ⟨A, c, rfl, hlc, hcm⟩ := hv.form
  unfold maxLen at hcm
  have HV := Lib.hid hv
  clear hv
  go_enter Try.func17, Try.ntmps17
  go_wp2
  go_loopw [3, 4] (fun n i wr => ∃ (k : Nat) (m : Int), n = .int .u64 m ∧ i = .int .i64 k ∧ k ≤ vs.length ∧ Hid (m = most (stampsOf (vs.take k))) ∧ Hid (Below w.heap.size w wr)) (fun _ i _ => vs.length - (intOf i).toNat)
  case atStart => exact ⟨0, 0, rfl, rfl, by omega, Lib.hid (by simp [stampsOf, most]), Lib.hid (Below.refl _ _)⟩
  case round =>
    obtain ⟨k, m, rfl, rfl, hk, HM, HB⟩ := hrel
    by_cases hlt : k < vs.length
    · obtain ⟨b2, o2, u2, x2, rfl, hb2, g2, e2, r2, y2⟩ := (HV.out.keep (w' := wr) (fun p hp => HB.out.cell (by omega))).index k hlt
      have q1 : decide ((k : Int) < (vs.length : Int)) = true := decide_eq_true (by omega)
      have q1' : decide (k < vs.length) = true := decide_eq_true hlt
      obtain ⟨A2, c2', rfl, hl2, hm2⟩ := r2.form
      unfold maxLen at hm2
      have SS1 := Lib.hid (stampsOf_succ g2)
      by_cases hx : x2.length = 128
      · have GF := Lib.hid (get_front hx)
        have HSO := Lib.hid (show stampOf x2 = [getS x2, getS (x2.drop 120)] by unfold stampOf; rw [if_pos hx, get_front hx])
        obtain ⟨b3, o3, rfl, _, _⟩ := r2.index 0 (by omega)
        rw [hx] at r2 e2
        have hc2 : 128 ≤ c2' := by omega
        have hne : ¬ c2' = 120 := by omega
        have R2 := Lib.hid r2
        have Y2 := Lib.hid y2
        have T2 := Lib.hid (IR.tail_ r2 120 (by decide))
        have YT := Lib.hid (Bytes.drop y2 120)
        have MN := Lib.hid (show most (stampsOf (vs.take (k + 1))) = mx (mx m (getS x2)) (getS (x2.drop 120)) by rw [SS1.out, HSO.out, most_two, ← HM.out])
        obtain ⟨na, hna⟩ : ∃ z, getS x2 = z := ⟨_, rfl⟩
        obtain ⟨nb, hnb⟩ : ∃ z, getS (x2.drop 120) = z := ⟨_, rfl⟩
        rw [hna, hnb] at MN
        have HNA := Lib.hid hna
        have HNB := Lib.hid hnb
        clear r2 g2 y2 hx hna hnb
        have QA := Lib.hid (fun n => show Calls Try.prog 24 #[.slice (some ⟨b3, o3, none⟩) 128 c2'] (wr.drewN n) (fun e w'' => e = .returned (.int .u64 na) ∧ ∃ d, w'' = wr.drewN d) from
          (get_ref _ x2 (wr.drewN n) B (R2.out.drewN n) Y2.out).mono (fun e w'' h => ⟨by rw [h.1, HNA.out], h.2.elim (fun d hd => ⟨n + d, by rw [hd, World.drewN_drewN]⟩)⟩))
        have QB := Lib.hid (fun n => show Calls Try.prog 24 #[.slice (some ⟨b3, o3 + 120, none⟩) 8 (c2' - 120)] (wr.drewN n) (fun e w'' => e = .returned (.int .u64 nb) ∧ ∃ d, w'' = wr.drewN d) from
          (get_ref _ (x2.drop 120) (wr.drewN n) B (T2.out.drewN n) YT.out).mono (fun e w'' h => ⟨by rw [h.1, HNB.out], h.2.elim (fun d hd => ⟨n + d, by rw [hd, World.drewN_drewN]⟩)⟩))
        have MXS := Lib.hid (max_is m na nb)
        go_wp2
        go_quiet ((go_at_call 24; first | (with_reducible exact QA.out _) | (with_reducible exact QB.out _)))
        go_wp2
        go_roundw
        case rel => exact ⟨k + 1, _, rfl, by go_num, by omega, Lib.hid (by rw [MN.out]; exact MXS.out), Lib.hid (below_drewN HB.out _)⟩
        case measure => simp [intOf]; omega
      · have d3 : ((x2.length : Int) == 128) = false := by simp; omega
        have d4 : (x2.length == 128) = false := by simpa using hx
        have HSO := Lib.hid (show stampOf x2 = [] by unfold stampOf; rw [if_neg hx])
        clear r2 g2 hx
        go_wp2
        go_roundw
        case rel => exact ⟨k + 1, m, rfl, by go_num, by omega, Lib.hid (by rw [SS1.out, HSO.out, List.append_nil]; exact HM.out), HB⟩
        case measure => simp [intOf]; omega
    · obtain rfl : k = vs.length := by omega
      have HMM := Lib.hid (show m = most (stampsOf vs) by have := HM.out; rwa [List.take_length] at this)
      go_wp2
      go_ret
      exact ⟨by rw [HMM.out]; rfl, HB.out⟩
end Go.Proofs.Ytacjbgkcghcnnaa.Seal
