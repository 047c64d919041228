import Derived.Test.YteggcehjpfmikaaLaw
import Derived.Test.YteggcehjpfmikaaWt0
import Derived.Test.YteggcehjpfmikaaWt5
import Derived.BigQuiet
import Derived.Deep.QuietTactic
import Derived.Deep.RegionHeld3
import Derived.Handy
import Derived.Lib.Hide
import Derived.Outline
import Derived.ProofKit
import Derived.WalkKit
namespace Go.Proofs.Yteggcehjpfmikaa.Wal
open Go.RowKit Go.WideShapes Go.Proofs.Mem Go.Proofs.Yteggcehjpfmikaa.NumBytes Go.Proofs.Yteggcehjpfmikaa.Rec
set_option linter.unusedVariables false
structure Hh where
  st : Int
  ar : Int
  ba : Int
  ch : Int
def Hh.img (h : Hh) : List Int := putS h.st 8 ++ ([h.ar] ++ (putS h.ba 8 ++ (putS h.ch 8 ++ (List.replicate 95 0 ++ putS h.st 8))))
structure Hh.Ok (h : Hh) : Prop where
  st : 0 ≤ h.st ∧ h.st ≤ 18446744073709551615
  ar : 0 ≤ h.ar ∧ h.ar ≤ 255
  ba : 0 ≤ h.ba ∧ h.ba ≤ 18446744073709551615
  ch : 0 ≤ h.ch ∧ h.ch ≤ 18446744073709551615
theorem img_len (h : Hh) : h.img.length = 128 := by
  unfold Hh.img
  simp only [List.length_append, putS_len, List.length_replicate, List.length_cons, List.length_nil]
theorem img_bytes (h : Hh) (ha : 0 ≤ h.ar ∧ h.ar ≤ 255) : Bytes h.img := fun x hx => by
  unfold Hh.img at hx
  simp only [List.mem_append, List.mem_singleton, List.mem_replicate] at hx
  rcases hx with h1 | h1 | h1 | h1 | h1 | h1
  · exact putS_bytes _ _ x h1
  · omega
  · exact putS_bytes _ _ x h1
  · exact putS_bytes _ _ x h1
  · omega
  · exact putS_bytes _ _ x h1
def hOf (b : List Int) : Hh := ⟨getS (b.take 8), b.getD 8 0, getS ((b.drop 9).take 8), getS ((b.drop 17).take 8)⟩
theorem get8 {n : Int} (h : 0 ≤ n ∧ n ≤ 18446744073709551615) : getS (putS n 8) = n := by
  rw [get_put n 8 (by decide)]
  exact Int.emod_eq_of_lt h.1 (by have : (2 : Int) ^ (8 * 8) = 18446744073709551616 := by decide
                                  omega)
theorem hOf_img {h : Hh} (ok : h.Ok) : hOf h.img = h := by
  have d1 : h.img.take 8 = putS h.st 8 := by unfold Hh.img; exact List.take_left' (putS_len _ _)
  have d8 : h.img.drop 8 = [h.ar] ++ (putS h.ba 8 ++ (putS h.ch 8 ++ (List.replicate 95 0 ++ putS h.st 8))) := by unfold Hh.img; exact List.drop_left' (putS_len _ _)
  have d9 : h.img.drop 9 = putS h.ba 8 ++ (putS h.ch 8 ++ (List.replicate 95 0 ++ putS h.st 8)) := by
    rw [show 9 = 8 + 1 from rfl, ← List.drop_drop, d8]; rfl
  have d17 : h.img.drop 17 = putS h.ch 8 ++ (List.replicate 95 0 ++ putS h.st 8) := by
    rw [show 17 = 9 + 8 from rfl, ← List.drop_drop, d9]; exact List.drop_left' (putS_len _ _)
  have e8 : h.img.getD 8 0 = h.ar := by
    have : h.img[8]? = (h.img.drop 8)[0]? := by rw [List.getElem?_drop]
    rw [List.getD, this, d8]; rfl
  unfold hOf
  rw [d1, d9, d17, e8, List.take_left' (putS_len _ _), List.take_left' (putS_len _ _), get8 ok.st, get8 ok.ba, get8 ok.ch]
def Hh.may (h : Hh) : Prop := h.st ≠ 0 ∧ h.ar ≤ 1 ∧ 1 ≤ h.ba ∧ h.ba ≤ 9223372036854775808
instance (h : Hh) : Decidable h.may := by unfold Hh.may; infer_instance
def hParse (b : List Int) : Option Hh := if b.length = 128 ∧ (hOf b).may ∧ b = (hOf b).img then some (hOf b) else none
theorem parse_img {h : Hh} (ok : h.Ok) (hm : h.may) : hParse h.img = some h := by
  unfold hParse
  rw [hOf_img ok, if_pos ⟨img_len h, hm, rfl⟩]
def newer (a b : List Int) : Option (Hh × Nat) := match hParse a, hParse b with
  | some h, some k => if h.st < k.st then some (k, 1) else some (h, 0)
  | some h, none => some (h, 0)
  | none, some k => some (k, 1)
  | none, none => none
end Go.Proofs.Yteggcehjpfmikaa.Wal
namespace Go.Proofs.Yteggcehjpfmikaa.Wal
open Go.ChangeShapes Go.WideShapes Go.ChangeAt Go.RowKit Go.IntWalk Go.Proofs.Mem Go.Proofs.Each Law Go.Proofs.Yteggcehjpfmikaa.Disk
set_option linter.unusedVariables false
set_option linter.unusedSimpArgs false
def sz (D : Dv) : Nat := ((D.f 0).length - 2) / 2
def fst (D : Dv) (ar : Nat) : Nat := 2 + ar * sz D
section
variable {S : Nat → Prop} {b : Nat} {D : Dv} {col : Nat → Nat} {fv : Nat → Value} {uv : Nat → List Disk.Pl}
theorem sz_le {w : World} (h : DA w S b D col fv uv) : sz D ≤ 2047 := by have := h.most 0 (by decide); unfold sz; omega
theorem wsize_any (w : World) (h : DA w S b D col fv uv) (hl : 2 ≤ (D.f 0).length) :
    Calls Try.prog 33 #[.pointer (some ⟨b, 0, none⟩)] w fun e w' => e = .returned (.int .i64 (sz D)) ∧ w = w' := by
  have hm := h.most 0 (by decide)
  have CS := Lib.hid (siz_any h 0 0 rfl (by decide))
  have e0 : D.siz 0 = (D.f 0).length := if_pos (by decide)
  rw [e0] at CS
  obtain ⟨n, hn⟩ : ∃ n, (D.f 0).length = n := ⟨_, rfl⟩
  obtain ⟨m, hm2⟩ : ∃ m, sz D = m := ⟨_, rfl⟩
  have hmn : m = (n - 2) / 2 := by rw [← hm2, ← hn]; rfl
  rw [hn] at CS hl hm
  rw [hm2]
  have q1 : ((n : Int) - 2).tdiv 2 = (m : Int) := by rw [Int.tdiv_eq_ediv_of_nonneg (by omega)]; omega
  have q0 : IntKind.i64.wrap ((n : Int) - 2) = (n : Int) - 2 := IntWalk.i64_in _ (by omega)
  have q2 : IntKind.i64.wrap (m : Int) = (m : Int) := IntWalk.i64_in _ (by omega)
  clear hn hm2 hmn e0 h
  go_enter Try.func33, Try.ntmps33
  go_wp2_with fail
  (with_reducible refine (CS.out).mono ?_)
  rintro e w1 ⟨rfl, rfl⟩
  go_wp2
  go_ret
  exact ⟨rfl, rfl⟩
theorem begins_any (w : World) (h : DA w S b D col fv uv) (hl : 2 ≤ (D.f 0).length) :
    Calls Try.prog 62 #[.pointer (some ⟨b, 0, none⟩)] w fun e w' => e = .returned (.agg #[.int .i64 2, .int .i64 (2 + (sz D : Int))]) ∧ Below w.heap.size w w' := by
  have hs := sz_le h
  have b1 := new_ (Below.refl w.heap.size w) (.cells #[.int .i64 0, .int .i64 0] 107)
  have CS := Lib.hid (wsize_any _ (h.later b1) hl)
  obtain ⟨m, hm⟩ : ∃ m, sz D = m := ⟨_, rfl⟩
  rw [hm] at CS hs ⊢
  have X := Box.new w #[.int .i64 0, .int .i64 0] 107
  have q0 : IntKind.i64.wrap (2 + (m : Int)) = 2 + (m : Int) := IntWalk.i64_in _ (by omega)
  have HB := Lib.hid b1
  have HX := Lib.hid X
  clear h hm b1 X
  go_enter Try.func62, Try.ntmps62
  go_wp2_with fail
  (with_reducible refine (CS.out).mono ?_)
  rintro e w1 ⟨rfl, rfl⟩
  go_wp2
  refine bodyPost_ret (v := .agg #[.int .i64 2, .int .i64 (2 + (m : Int))]) (by simp [results, Try.results62, go_sem]) rfl ⟨rfl, ?_⟩
  exact new_ (Below.refl w.heap.size w) _
end
end Go.Proofs.Yteggcehjpfmikaa.Wal
namespace Go.Proofs.Yteggcehjpfmikaa.Wal
open Go.ChangeShapes Go.WideShapes Go.ChangeAt Go.RowKit Go.IntWalk Go.Proofs.Mem Go.Proofs.Each Law Go.Proofs.Yteggcehjpfmikaa.Disk
set_option linter.unusedVariables false
set_option linter.unusedSimpArgs false
@[reducible] def lgC (g : Nat) (h : Hh) (se : Int) (sv tv : Value) (la : Int) : Array Value := #[.pointer (some ⟨g, 0, none⟩), .int .u64 h.st, .int .u8 h.ar, .int .u64 h.ba, .int .u64 h.ch, .int .i64 se, sv, tv, .int .i64 la]
section
variable {S : Nat → Prop} {g : Nat} {D : Dv} {col : Nat → Nat} {fv : Nat → Value} {uv : Nat → List Disk.Pl}
set_option maxRecDepth 100000 in
set_option maxHeartbeats 8000000 in
theorem first_any (w : World) (t : Nat) (h : Hh) (se : Int) (sv tv : Value) (la : Int) (X : Box w t (lgC g h se sv tv la) 89) (hd : DA w S g D col fv uv) (hl : 2 ≤ (D.f 0).length) (a : Nat) (ha : h.ar = a) (ha2 : a ≤ 1) :
    Calls Try.prog 40 #[.pointer (some ⟨t, 0, none⟩)] w fun e w' => e = .returned (.int .i64 (fst D a)) ∧ Below w.heap.size w w' := by
  have HX := Lib.hid X
  have HD5 := Lib.hid (show Below w.heap.size w w.drew from (Below.refl _ _).drew)
  have CB := Lib.hid (begins_any w.drew (hd.later HD5.out) hl)
  obtain ⟨m, hm⟩ : ∃ m, sz D = m := ⟨_, rfl⟩
  rw [hm] at CB
  have HF := Lib.hid (show fst D a = 2 + a * m by unfold fst; rw [hm])
  have SK := Lib.hid (show ∀ W : World, Below w.heap.size w W → (W.cell? ⟨t, 0, none⟩ = some (.pointer (some ⟨g, 0, none⟩)) ∧ W.cell? ⟨t, 2, none⟩ = some (.int .u8 h.ar)) from fun W hW => ⟨(X.later hW).cell 0, (X.later hW).cell 2⟩)
  obtain ⟨c0, c2⟩ := SK.out w (Below.refl _ _)
  obtain ⟨ar, har⟩ : ∃ ar, h.ar = ar := ⟨_, rfl⟩
  rw [har] at c2 SK ha
  obtain ⟨F, hF⟩ : ∃ F, fst D a = F := ⟨_, rfl⟩
  rw [hF] at HF ⊢
  clear X hd hl hm hF har
  have : a = 0 ∨ a = 1 := by omega
  rcases this with rfl | rfl
  · obtain rfl : ar = 0 := by omega
    clear ha
    have i0 : ∀ w, (Instr.index 107 (.agg #[.int .i64 2, .int .i64 (2 + (m : Int))]) (.int .u8 0)).run Try.prog w = .ok (.int .i64 2) w := fun _ => by kernel_rfl
    go_enter Try.func40, Try.ntmps40
    go_upto_region 1 with fail
    go_region_held3 (fun w' => w'.cell? ⟨t, 0, none⟩ = some (.pointer (some ⟨g, 0, none⟩)) ∧ w'.cell? ⟨t, 2, none⟩ = some (.int .u8 0))
      (first | exact SK.out _ HD5.out | (go_split_ands; exact SK.out _ HR6.out) | exact SK.out _ HR6.out)
      ((first
      | (go_at_call 62
         with_reducible refine CB.out.mono ?_
         rintro er w6 ⟨rfl, hb6⟩
         have HR6 := Lib.hid (show Below w.heap.size w w6 from HD5.out.trans hb6)
         clear hb6)))
    all_goals go_wp2
    all_goals go_ret
    all_goals exact ⟨by rw [HF.out]; simp, HR6.out⟩
  · obtain rfl : ar = 1 := by omega
    clear ha
    have i0 : ∀ w, (Instr.index 107 (.agg #[.int .i64 2, .int .i64 (2 + (m : Int))]) (.int .u8 1)).run Try.prog w = .ok (.int .i64 (2 + (m : Int))) w := fun _ => by kernel_rfl
    go_enter Try.func40, Try.ntmps40
    go_upto_region 1 with fail
    go_region_held3 (fun w' => w'.cell? ⟨t, 0, none⟩ = some (.pointer (some ⟨g, 0, none⟩)) ∧ w'.cell? ⟨t, 2, none⟩ = some (.int .u8 1))
      (first | exact SK.out _ HD5.out | (go_split_ands; exact SK.out _ HR6.out) | exact SK.out _ HR6.out)
      ((first
      | (go_at_call 62
         with_reducible refine CB.out.mono ?_
         rintro er w6 ⟨rfl, hb6⟩
         have HR6 := Lib.hid (show Below w.heap.size w w6 from HD5.out.trans hb6)
         clear hb6)))
    all_goals go_wp2
    all_goals go_ret
    all_goals exact ⟨by rw [HF.out]; simp, HR6.out⟩
set_option maxRecDepth 100000 in
set_option maxHeartbeats 8000000 in
theorem other_any (w : World) (t : Nat) (h : Hh) (se : Int) (sv tv : Value) (la : Int) (X : Box w t (lgC g h se sv tv la) 89) (hd : DA w S g D col fv uv) (hl : 2 ≤ (D.f 0).length) (a : Nat) (ha : h.ar = a) (ha2 : a ≤ 1) :
    Calls Try.prog 48 #[.pointer (some ⟨t, 0, none⟩)] w fun e w' => e = .returned (.int .i64 (fst D (1 - a))) ∧ Below w.heap.size w w' := by
  have HX := Lib.hid X
  have HD5 := Lib.hid (show Below w.heap.size w w.drew from (Below.refl _ _).drew)
  have CB := Lib.hid (begins_any w.drew (hd.later HD5.out) hl)
  obtain ⟨m, hm⟩ : ∃ m, sz D = m := ⟨_, rfl⟩
  rw [hm] at CB
  have HF := Lib.hid (show fst D (1 - a) = 2 + (1 - a) * m by unfold fst; rw [hm])
  have SK := Lib.hid (show ∀ W : World, Below w.heap.size w W → (W.cell? ⟨t, 0, none⟩ = some (.pointer (some ⟨g, 0, none⟩)) ∧ W.cell? ⟨t, 2, none⟩ = some (.int .u8 h.ar)) from fun W hW => ⟨(X.later hW).cell 0, (X.later hW).cell 2⟩)
  obtain ⟨c0, c2⟩ := SK.out w (Below.refl _ _)
  obtain ⟨ar, har⟩ : ∃ ar, h.ar = ar := ⟨_, rfl⟩
  rw [har] at c2 SK ha
  obtain ⟨F, hF⟩ : ∃ F, fst D (1 - a) = F := ⟨_, rfl⟩
  rw [hF] at HF ⊢
  clear X hd hl hm hF har
  have : a = 0 ∨ a = 1 := by omega
  rcases this with rfl | rfl
  · obtain rfl : ar = 0 := by omega
    clear ha
    have q1 : IntKind.u8.wrap 1 = 1 := by decide
    have q2 : IntKind.u8.wrap 0 = 0 := by decide
    have q3 : IntKind.u8.wrap (1 - 1) = 0 := by decide
    have q4 : IntKind.u8.wrap (1 - 0) = 1 := by decide
    have i0 : ∀ w, (Instr.index 107 (.agg #[.int .i64 2, .int .i64 (2 + (m : Int))]) (.int .u8 1)).run Try.prog w = .ok (.int .i64 (2 + (m : Int))) w := fun _ => by kernel_rfl
    go_enter Try.func48, Try.ntmps48
    go_upto_region 1 with fail
    go_region_held3 (fun w' => w'.cell? ⟨t, 0, none⟩ = some (.pointer (some ⟨g, 0, none⟩)) ∧ w'.cell? ⟨t, 2, none⟩ = some (.int .u8 0))
      (first | exact SK.out _ HD5.out | (go_split_ands; exact SK.out _ HR6.out) | exact SK.out _ HR6.out)
      ((first
      | (go_at_call 62
         with_reducible refine CB.out.mono ?_
         rintro er w6 ⟨rfl, hb6⟩
         have HR6 := Lib.hid (show Below w.heap.size w w6 from HD5.out.trans hb6)
         clear hb6)))
    all_goals go_wp2
    all_goals go_ret
    all_goals exact ⟨by rw [HF.out]; simp, HR6.out⟩
  · obtain rfl : ar = 1 := by omega
    clear ha
    have q1 : IntKind.u8.wrap 1 = 1 := by decide
    have q2 : IntKind.u8.wrap 0 = 0 := by decide
    have q3 : IntKind.u8.wrap (1 - 1) = 0 := by decide
    have q4 : IntKind.u8.wrap (1 - 0) = 1 := by decide
    have i0 : ∀ w, (Instr.index 107 (.agg #[.int .i64 2, .int .i64 (2 + (m : Int))]) (.int .u8 0)).run Try.prog w = .ok (.int .i64 2) w := fun _ => by kernel_rfl
    go_enter Try.func48, Try.ntmps48
    go_upto_region 1 with fail
    go_region_held3 (fun w' => w'.cell? ⟨t, 0, none⟩ = some (.pointer (some ⟨g, 0, none⟩)) ∧ w'.cell? ⟨t, 2, none⟩ = some (.int .u8 1))
      (first | exact SK.out _ HD5.out | (go_split_ands; exact SK.out _ HR6.out) | exact SK.out _ HR6.out)
      ((first
      | (go_at_call 62
         with_reducible refine CB.out.mono ?_
         rintro er w6 ⟨rfl, hb6⟩
         have HR6 := Lib.hid (show Below w.heap.size w w6 from HD5.out.trans hb6)
         clear hb6)))
    all_goals go_wp2
    all_goals go_ret
    all_goals exact ⟨by rw [HF.out]; simp, HR6.out⟩
end
end Go.Proofs.Yteggcehjpfmikaa.Wal
namespace Go.Proofs.Yteggcehjpfmikaa.Wal
open Go.ChangeShapes Go.WideShapes Go.ChangeAt Go.RowKit Go.IntWalk Go.Proofs.Mem Go.Proofs.Each Law Go.Proofs.Yteggcehjpfmikaa.Disk
set_option linter.unusedVariables false
set_option linter.unusedSimpArgs false
section
variable {t g : Nat} {h : Hh} {se : Int} {A At : Option Addr} {n c nt ct : Nat} {la : Nat}
theorem base_any (w : World) (X : Box w t (lgC g h se (.slice A n c) (.slice At nt ct) la) 89) :
    Calls Try.prog 19 #[.pointer (some ⟨t, 0, none⟩)] w fun e w' => e = .returned (.int .u64 h.ba) ∧ w = w' := by
  have c3 : w.cell? ⟨t, 3, none⟩ = some (.int .u64 h.ba) := X.cell 3
  obtain ⟨v, hv⟩ : ∃ v, h.ba = v := ⟨_, rfl⟩
  rw [hv] at c3 ⊢
  clear X hv
  go_enter Try.func19, Try.ntmps19
  go_wp2
  go_ret
  exact ⟨rfl, rfl⟩
theorem check_any (w : World) (X : Box w t (lgC g h se (.slice A n c) (.slice At nt ct) la) 89) :
    Calls Try.prog 25 #[.pointer (some ⟨t, 0, none⟩)] w fun e w' => e = .returned (.int .u64 h.ch) ∧ w = w' := by
  have c3 : w.cell? ⟨t, 4, none⟩ = some (.int .u64 h.ch) := X.cell 4
  obtain ⟨v, hv⟩ : ∃ v, h.ch = v := ⟨_, rfl⟩
  rw [hv] at c3 ⊢
  clear X hv
  go_enter Try.func25, Try.ntmps25
  go_wp2
  go_ret
  exact ⟨rfl, rfl⟩
theorem place_any (w : World) (X : Box w t (lgC g h se (.slice A n c) (.slice At nt ct) la) 89) (at_ : Nat) (hb : 0 ≤ h.ba ∧ h.ba + at_ ≤ 18446744073709551615) :
    Calls Try.prog 41 #[.pointer (some ⟨t, 0, none⟩), .int .i64 at_] w fun e w' => e = .returned (.int .u64 (h.ba + at_)) ∧ w = w' := by
  have c3 : w.cell? ⟨t, 3, none⟩ = some (.int .u64 h.ba) := X.cell 3
  obtain ⟨v, hv⟩ : ∃ v, h.ba = v := ⟨_, rfl⟩
  rw [hv] at c3 hb ⊢
  have q1 : IntKind.u64.wrap (at_ : Int) = (at_ : Int) := by rw [IntKind.wrap_u64]; omega
  have q2 : IntKind.u64.wrap (v + (at_ : Int)) = v + (at_ : Int) := by rw [IntKind.wrap_u64]; omega
  clear X hv
  go_enter Try.func41, Try.ntmps41
  go_wp2
  go_ret
  exact ⟨rfl, rfl⟩
theorem end_any (w : World) (X : Box w t (lgC g h se (.slice A n c) (.slice At nt ct) la) 89) (hb : 0 ≤ h.ba ∧ h.ba + n ≤ 18446744073709551615) (hn : n ≤ 100000000) :
    Calls Try.prog 15 #[.pointer (some ⟨t, 0, none⟩)] w fun e w' => e = .returned (.int .u64 (h.ba + n)) ∧ w = w' := by
  have c6 : w.cell? ⟨t, 6, none⟩ = some (.slice A n c) := X.cell 6
  have CP := Lib.hid (place_any w X n hb)
  obtain ⟨v, hv⟩ : ∃ v, h.ba = v := ⟨_, rfl⟩
  rw [hv] at CP hb ⊢
  clear X hv
  go_enter Try.func15, Try.ntmps15
  go_wp2_with fail
  (with_reducible refine (CP.out).mono ?_)
  rintro e w1 ⟨rfl, rfl⟩
  go_wp2
  go_ret
  exact ⟨rfl, rfl⟩
theorem lasts_any (w : World) (X : Box w t (lgC g h se (.slice A n c) (.slice At nt ct) la) 89) (hb : 0 ≤ h.ba ∧ h.ba + la ≤ 18446744073709551615) :
    Calls Try.prog 14 #[.pointer (some ⟨t, 0, none⟩)] w fun e w' => e = .returned (.int .u64 (h.ba + la)) ∧ w = w' := by
  have c8 : w.cell? ⟨t, 8, none⟩ = some (.int .i64 la) := X.cell 8
  have CP := Lib.hid (place_any w X la hb)
  obtain ⟨v, hv⟩ : ∃ v, h.ba = v := ⟨_, rfl⟩
  rw [hv] at CP hb ⊢
  clear X hv
  go_enter Try.func14, Try.ntmps14
  go_wp2_with fail
  (with_reducible refine (CP.out).mono ?_)
  rintro e w1 ⟨rfl, rfl⟩
  go_wp2
  go_ret
  exact ⟨rfl, rfl⟩
end
section
variable {S : Nat → Prop} {D : Dv} {col : Nat → Nat} {fv : Nat → Value} {uv : Nat → List Disk.Pl} {t g : Nat} {h : Hh} {se : Int} {A At : Option Addr} {n c nt ct : Nat} {la : Nat}
set_option maxRecDepth 100000 in
set_option maxHeartbeats 4000000 in
theorem room_any (w : World) (X : Box w t (lgC g h se (.slice A n c) (.slice At nt ct) la) 89) (hd : DA w S g D col fv uv) (hl : 2 ≤ (D.f 0).length) (hn : n ≤ sz D * 127) :
    Calls Try.prog 22 #[.pointer (some ⟨t, 0, none⟩)] w fun e w' => e = .returned (.int .u64 (sz D * 127 - n : Nat)) ∧ Below w.heap.size w w' := by
  have hs := sz_le hd
  have HD5 := Lib.hid (show Below w.heap.size w w.drew from (Below.refl _ _).drew)
  have CS := Lib.hid (wsize_any w.drew (hd.later HD5.out) hl)
  have SK := Lib.hid (show ∀ W : World, Below w.heap.size w W → (W.cell? ⟨t, 0, none⟩ = some (.pointer (some ⟨g, 0, none⟩)) ∧ W.cell? ⟨t, 6, none⟩ = some (.slice A n c)) from fun W hW => ⟨(X.later hW).cell 0, (X.later hW).cell 6⟩)
  obtain ⟨c0, c6⟩ := SK.out w (Below.refl _ _)
  obtain ⟨m, hm⟩ : ∃ m, sz D = m := ⟨_, rfl⟩
  rw [hm] at CS hs hn ⊢
  obtain ⟨r, hr⟩ : ∃ r : Nat, r = m * 127 - n := ⟨_, rfl⟩
  rw [← hr]
  have q1 : IntKind.i64.wrap ((m : Int) * 127) = (m : Int) * 127 := IntWalk.i64_in _ (by omega)
  have q2 : (m : Int) * 127 - (n : Int) = (r : Int) := by omega
  have q3 : IntKind.i64.wrap (r : Int) = (r : Int) := IntWalk.i64_in _ (by omega)
  have q4 : IntKind.u64.wrap (r : Int) = (r : Int) := by rw [IntKind.wrap_u64]; omega
  clear X hd hl hm hr hs hn
  go_enter Try.func22, Try.ntmps22
  go_upto_region 1 with fail
  go_region_held3 (fun w' => w'.cell? ⟨t, 0, none⟩ = some (.pointer (some ⟨g, 0, none⟩)) ∧ w'.cell? ⟨t, 6, none⟩ = some (.slice A n c))
    (first | exact SK.out _ HD5.out | (go_split_ands; exact SK.out _ HD5.out))
    ((first
    | (go_at_call 33
       with_reducible refine CS.out.mono ?_
       rintro er w6 ⟨rfl, rfl⟩)))
  all_goals go_wp2
  all_goals go_ret
  all_goals exact ⟨rfl, HD5.out⟩
end
end Go.Proofs.Yteggcehjpfmikaa.Wal
namespace Go.Proofs.Yteggcehjpfmikaa.Wal
open Go.ChangeShapes Go.WideShapes Go.ChangeAt Go.RowKit Go.IntWalk Go.Proofs.Mem Go.Proofs.Each Law Go.Proofs.Yteggcehjpfmikaa.Disk
set_option linter.unusedVariables false
set_option linter.unusedSimpArgs false
def endS (ss : List Int) (n : Nat) (i : Int) : Int := if i < 0 then 0 else if i + 1 < ss.length then ss.getD (i + 1).toNat 0 else n
section
variable {t g : Nat} {h : Hh} {se : Int} {A At : Option Addr} {n c nt ct : Nat} {la : Nat}
set_option maxRecDepth 100000 in
set_option maxHeartbeats 4000000 in
theorem endof_any (w : World) (X : Box w t (lgC g h se (.slice A n c) (.slice At nt ct) la) 89) (B : Nat) (ss : List Int) (hv : IR w B .i64 (.slice At nt ct) ss) (hl : nt ≤ 100000) (hn : n ≤ 100000000) (i : Int) (h0 : -1 ≤ i) (h1 : i ≤ 100000) :
    Calls Try.prog 44 #[.pointer (some ⟨t, 0, none⟩), .int .i64 i] w fun e w' => e = .returned (.int .i64 (endS ss n i)) ∧ w = w' := by
  have c6 : w.cell? ⟨t, 6, none⟩ = some (.slice A n c) := X.cell 6
  have c7 : w.cell? ⟨t, 7, none⟩ = some (.slice At nt ct) := X.cell 7
  have hlen : ss.length = nt := by obtain ⟨A', c', e, _⟩ := hv.form; injection e with _ e2 _; exact e2.symm
  have q0 : IntKind.i64.wrap (i + 1) = i + 1 := IntWalk.i64_in _ (by omega)
  by_cases hi : i < 0
  · have d1 : decide (i < 0) = true := decide_eq_true hi
    have hE : endS ss n i = 0 := if_pos hi
    rw [hE]
    clear X hv hlen hE
    go_enter Try.func44, Try.ntmps44
    go_wp2
    go_ret
    exact ⟨rfl, rfl⟩
  · have d1 : decide (i < 0) = false := decide_eq_false hi
    obtain ⟨k, hk⟩ : ∃ k : Nat, i = k := ⟨i.toNat, by omega⟩
    subst hk
    by_cases hj : k + 1 < nt
    · have d2 : decide ((k : Int) + 1 < (nt : Int)) = true := decide_eq_true (by omega)
      have d2' : decide (k + 1 < nt) = true := decide_eq_true hj
      obtain ⟨b, o, hA, _, hc⟩ := hv.index (k + 1) (by omega)
      subst hA
      have hE : endS ss n k = ss.getD (k + 1) 0 := by unfold endS; rw [if_neg hi, if_pos (by omega)]; rfl
      obtain ⟨x, hx⟩ : ∃ x, ss.getD (k + 1) 0 = x := ⟨_, rfl⟩
      rw [hE, hx]
      rw [hx] at hc
      have b0 : 0 ≤ (k : Int) + 1 := by omega
      have b1 : (k : Int) + 1 < (nt : Int) := by omega
      have e1 : ((k : Int) + 1).toNat = k + 1 := by omega
      have hc' : w.cell? ⟨b, o + (k + 1), none⟩ = some (.int .i64 x) := hc
      clear X hv hlen hE hx hc
      go_enter Try.func44, Try.ntmps44
      go_wp2
      go_ret
      exact ⟨rfl, rfl⟩
    · have d2 : decide ((k : Int) + 1 < (nt : Int)) = false := decide_eq_false (by omega)
      have d2' : decide (k + 1 < nt) = false := decide_eq_false hj
      have hE : endS ss n k = n := by unfold endS; rw [if_neg hi, if_neg (by omega)]
      rw [hE]
      clear X hv hlen hE
      go_enter Try.func44, Try.ntmps44
      go_wp2
      go_ret
      exact ⟨rfl, rfl⟩
end
end Go.Proofs.Yteggcehjpfmikaa.Wal
namespace Go.Proofs.Yteggcehjpfmikaa.Wal
open Go.ChangeShapes Go.WideShapes Go.ChangeAt Go.RowKit Go.IntWalk Go.Proofs.Mem Go.Proofs.Each Law Go.Proofs.Yteggcehjpfmikaa.Disk
set_option linter.unusedVariables false
set_option linter.unusedSimpArgs false
section
variable {t g : Nat} {h : Hh} {se : Int} {A At : Option Addr} {n c nt ct : Nat} {la : Nat}
set_option maxRecDepth 100000 in
set_option maxHeartbeats 4000000 in
theorem from1_any (w : World) (X : Box w t (lgC g h se (.slice A n c) (.slice At nt ct) la) 89) (B : Nat) (ss : List Int) (hv : IR w B .i64 (.slice At nt ct) ss) (hl : nt ≤ 100000) (p q : Nat) (lsn : Int) (cp : w.cell? ⟨p, 0, none⟩ = some (.pointer (some ⟨t, 0, none⟩))) (cq : w.cell? ⟨q, 0, none⟩ = some (.int .u64 lsn)) (k : Nat) (hk : k < nt) (x : Nat) (hx : ss.getD k 0 = x) (hb : 0 ≤ h.ba ∧ h.ba + x ≤ 18446744073709551615) :
    Calls Try.prog 64 #[.int .i64 k, .pointer (some ⟨p, 0, none⟩), .pointer (some ⟨q, 0, none⟩)] w fun e w' => e = .returned (.bool (decide (lsn ≤ h.ba + x))) ∧ w' = w.drew := by
  obtain ⟨b, o, hA, _, hc⟩ := hv.index k hk
  subst hA
  rw [hx] at hc
  have CP := Lib.hid (fun W (hW : W = w.drew) => place_any W (by subst hW; exact X.drew) x hb)
  have c7 : w.cell? ⟨t, 7, none⟩ = some (.slice (some ⟨b, o, none⟩) nt ct) := X.cell 7
  obtain ⟨v, hv'⟩ : ∃ v, h.ba = v := ⟨_, rfl⟩
  rw [hv'] at CP hb ⊢
  have hkl : (k : Int) < (nt : Int) := by omega
  have hk0 : (0 : Int) ≤ (k : Int) := by omega
  obtain ⟨F, hF⟩ : ∃ F, decide (lsn ≤ v + (x : Int)) = F := ⟨_, rfl⟩
  rw [hF]
  clear X hv hx hv'
  go_enter Try.func64, Try.ntmps64
  go_upto_region 1 with fail
  go_region_held3 (fun w' => w'.cell? ⟨p, 0, none⟩ = some (.pointer (some ⟨t, 0, none⟩)) ∧ w'.cell? ⟨q, 0, none⟩ = some (.int .u64 lsn) ∧ w'.cell? ⟨t, 7, none⟩ = some (.slice (some ⟨b, o, none⟩) nt ct) ∧ w'.cell? ⟨b, o + k, none⟩ = some (.int .i64 x))
    (first | exact ⟨cp, cq, c7, hc⟩ | (go_split_ands; exact ⟨cp, cq, c7, hc⟩))
    ((first
    | (go_at_call 41
       with_reducible refine (CP.out _ rfl).mono ?_
       rintro er w6 ⟨rfl, rfl⟩)))
  all_goals go_wp2
  all_goals go_ret
  all_goals exact ⟨rfl, rfl⟩
set_option maxRecDepth 100000 in
set_option maxHeartbeats 4000000 in
theorem behind1_any (w : World) (X : Box w t (lgC g h se (.slice A n c) (.slice At nt ct) la) 89) (B : Nat) (ss : List Int) (hv : IR w B .i64 (.slice At nt ct) ss) (hl : nt ≤ 100000) (p q : Nat) (lsn : Int) (cp : w.cell? ⟨p, 0, none⟩ = some (.pointer (some ⟨t, 0, none⟩))) (cq : w.cell? ⟨q, 0, none⟩ = some (.int .u64 lsn)) (k : Nat) (hk : k < nt) (x : Nat) (hx : ss.getD k 0 = x) (hb : 0 ≤ h.ba ∧ h.ba + x ≤ 18446744073709551615) :
    Calls Try.prog 86 #[.int .i64 k, .pointer (some ⟨p, 0, none⟩), .pointer (some ⟨q, 0, none⟩)] w fun e w' => e = .returned (.bool (decide (lsn < h.ba + x))) ∧ w' = w.drew := by
  obtain ⟨b, o, hA, _, hc⟩ := hv.index k hk
  subst hA
  rw [hx] at hc
  have CP := Lib.hid (fun W (hW : W = w.drew) => place_any W (by subst hW; exact X.drew) x hb)
  have c7 : w.cell? ⟨t, 7, none⟩ = some (.slice (some ⟨b, o, none⟩) nt ct) := X.cell 7
  obtain ⟨v, hv'⟩ : ∃ v, h.ba = v := ⟨_, rfl⟩
  rw [hv'] at CP hb ⊢
  have hkl : (k : Int) < (nt : Int) := by omega
  have hk0 : (0 : Int) ≤ (k : Int) := by omega
  obtain ⟨F, hF⟩ : ∃ F, decide (lsn < v + (x : Int)) = F := ⟨_, rfl⟩
  rw [hF]
  clear X hv hx hv'
  go_enter Try.func86, Try.ntmps86
  go_upto_region 1 with fail
  go_region_held3 (fun w' => w'.cell? ⟨p, 0, none⟩ = some (.pointer (some ⟨t, 0, none⟩)) ∧ w'.cell? ⟨q, 0, none⟩ = some (.int .u64 lsn) ∧ w'.cell? ⟨t, 7, none⟩ = some (.slice (some ⟨b, o, none⟩) nt ct) ∧ w'.cell? ⟨b, o + k, none⟩ = some (.int .i64 x))
    (first | exact ⟨cp, cq, c7, hc⟩ | (go_split_ands; exact ⟨cp, cq, c7, hc⟩))
    ((first
    | (go_at_call 41
       with_reducible refine (CP.out _ rfl).mono ?_
       rintro er w6 ⟨rfl, rfl⟩)))
  all_goals go_wp2
  all_goals go_ret
  all_goals exact ⟨rfl, rfl⟩
end
end Go.Proofs.Yteggcehjpfmikaa.Wal
namespace Go.Proofs.Yteggcehjpfmikaa.Wal
open Go.ChangeShapes Go.WideShapes Go.ChangeAt Go.RowKit Go.IntWalk Go.Proofs.Mem Go.Proofs.Each Law Go.Proofs.Yteggcehjpfmikaa.Disk
set_option linter.unusedVariables false
set_option linter.unusedSimpArgs false
def FirstYes (f : Nat → Bool) (n r : Nat) : Prop := r ≤ n ∧ (∀ k, k < r → f k = false) ∧ ∀ k, r ≤ k → k < n → f k = true
set_option maxRecDepth 100000 in
set_option maxHeartbeats 4000000 in
theorem search_from (w : World) (n : Nat) (hn : n ≤ 100000) (p q : Nat) (f : Nat → Bool) (hm : ∀ i j, i ≤ j → f i = true → f j = true)
    (HC : ∀ d k, k < n → Calls Try.prog 64 #[.int .i64 k, .pointer (some ⟨p, 0, none⟩), .pointer (some ⟨q, 0, none⟩)] (w.drewN d) fun e w' => e = .returned (.bool (f k)) ∧ w' = (w.drewN d).drew) :
    Calls Try.prog 63 #[.int .i64 n, .func (.func 64) #[] #[.pointer (some ⟨p, 0, none⟩), .pointer (some ⟨q, 0, none⟩)]] w fun e w' => ∃ r d : Nat, e = .returned (.int .i64 r) ∧ w' = w.drewN d ∧ FirstYes f n r := by
  have HCC := Lib.hid HC
  have HM := Lib.hid hm
  have bn : (n : Int) ≤ 100000 := by omega
  clear HC hm
  go_enter Try.func63, Try.ntmps63
  go_wp2
  go_loopw [5, 6] (fun s5 s6 wr => ∃ i j d : Nat, s5 = .int .i64 i ∧ s6 = .int .i64 j ∧ i ≤ j ∧ j ≤ n ∧ wr = w.drewN d ∧ Hid (∀ k, k < i → f k = false) ∧ Hid (∀ k, j ≤ k → k < n → f k = true)) (fun s5 s6 _ => (intOf s6).toNat - (intOf s5).toNat)
  case atStart => exact ⟨0, n, 0, rfl, rfl, Nat.zero_le _, Nat.le_refl _, rfl, Lib.hid (fun k hk => by omega), Lib.hid (fun k h1 h2 => by omega)⟩
  case round =>
    obtain ⟨i, j, d, rfl, rfl, hij, hj, hd, H1, H2⟩ := hrel
    obtain ⟨w1, rfl⟩ : ∃ w1, w1 = wr := ⟨wr, rfl⟩
    by_cases hl : i < j
    · have d1 : decide ((i : Int) < (j : Int)) = true := by simp; omega
      have d1' : decide (i < j) = true := by simp; omega
      obtain ⟨m, hm⟩ : ∃ m : Nat, m = (i + j) / 2 := ⟨_, rfl⟩
      have q1 : IntKind.i64.wrap ((i : Int) + (j : Int)) = (i : Int) + (j : Int) := IntWalk.i64_in _ (by omega)
      have CC := Lib.hid (HCC.out d m (by omega))
      rw [← hd] at CC
      have HMI := Lib.hid (show i ≤ m ∧ m < j by omega)
      obtain ⟨b, hb⟩ : ∃ b, f m = b := ⟨_, rfl⟩
      rw [hb] at CC
      have HB := Lib.hid hb
      have HD := Lib.hid hd
      clear hb hd
      have q2 : ((i : Int) + (j : Int)) / 2 = (m : Int) := by omega
      have q3 : IntKind.i64.wrap ((m : Int) + 1) = ((m + 1 : Nat) : Int) := by rw [IntKind.wrap_i64]; omega
      clear hm
      go_wp2_with fail
      (with_reducible refine (CC.out).mono ?_)
      rintro e w2 ⟨rfl, rfl⟩
      have HW := Lib.hid (show w1.drew = w.drewN (d + 1) by rw [HD.out]; rfl)
      cases b with
      | true =>
        go_wp2
        go_roundw
        case rel => exact ⟨i, m, d + 1, rfl, rfl, HMI.out.1, by have := HMI.out; omega, HW.out, H1, Lib.hid (fun k h1 h2 => HM.out m k h1 HB.out)⟩
        case measure => simp [intOf]; have := HMI.out; omega
      | false =>
        go_wp2
        go_roundw
        case rel => exact ⟨m + 1, j, d + 1, by go_num, rfl, by have := HMI.out; omega, hj, HW.out, Lib.hid (fun k h1 => by
          cases hf : f k with
          | false => rfl
          | true => have := HM.out k m (by omega) hf; rw [HB.out] at this; cases this), H2⟩
        case measure => simp [intOf]; have := HMI.out; omega
    · have d1 : decide ((i : Int) < (j : Int)) = false := by simp; omega
      have d1' : decide (i < j) = false := by simp; omega
      have hij2 : i = j := by omega
      have HR := Lib.hid (show FirstYes f n i from ⟨by omega, H1.out, fun k h1 h2 => H2.out k (by omega) h2⟩)
      have HD := Lib.hid hd
      clear hd hij2
      go_wp2
      go_ret
      exact ⟨i, d, rfl, HD.out, HR.out⟩
set_option maxRecDepth 100000 in
set_option maxHeartbeats 4000000 in
theorem search_behind (w : World) (n : Nat) (hn : n ≤ 100000) (p q : Nat) (f : Nat → Bool) (hm : ∀ i j, i ≤ j → f i = true → f j = true)
    (HC : ∀ d k, k < n → Calls Try.prog 86 #[.int .i64 k, .pointer (some ⟨p, 0, none⟩), .pointer (some ⟨q, 0, none⟩)] (w.drewN d) fun e w' => e = .returned (.bool (f k)) ∧ w' = (w.drewN d).drew) :
    Calls Try.prog 63 #[.int .i64 n, .func (.func 86) #[] #[.pointer (some ⟨p, 0, none⟩), .pointer (some ⟨q, 0, none⟩)]] w fun e w' => ∃ r d : Nat, e = .returned (.int .i64 r) ∧ w' = w.drewN d ∧ FirstYes f n r := by
  have HCC := Lib.hid HC
  have HM := Lib.hid hm
  have bn : (n : Int) ≤ 100000 := by omega
  clear HC hm
  go_enter Try.func63, Try.ntmps63
  go_wp2
  go_loopw [5, 6] (fun s5 s6 wr => ∃ i j d : Nat, s5 = .int .i64 i ∧ s6 = .int .i64 j ∧ i ≤ j ∧ j ≤ n ∧ wr = w.drewN d ∧ Hid (∀ k, k < i → f k = false) ∧ Hid (∀ k, j ≤ k → k < n → f k = true)) (fun s5 s6 _ => (intOf s6).toNat - (intOf s5).toNat)
  case atStart => exact ⟨0, n, 0, rfl, rfl, Nat.zero_le _, Nat.le_refl _, rfl, Lib.hid (fun k hk => by omega), Lib.hid (fun k h1 h2 => by omega)⟩
  case round =>
    obtain ⟨i, j, d, rfl, rfl, hij, hj, hd, H1, H2⟩ := hrel
    obtain ⟨w1, rfl⟩ : ∃ w1, w1 = wr := ⟨wr, rfl⟩
    by_cases hl : i < j
    · have d1 : decide ((i : Int) < (j : Int)) = true := by simp; omega
      have d1' : decide (i < j) = true := by simp; omega
      obtain ⟨m, hm⟩ : ∃ m : Nat, m = (i + j) / 2 := ⟨_, rfl⟩
      have q1 : IntKind.i64.wrap ((i : Int) + (j : Int)) = (i : Int) + (j : Int) := IntWalk.i64_in _ (by omega)
      have CC := Lib.hid (HCC.out d m (by omega))
      rw [← hd] at CC
      have HMI := Lib.hid (show i ≤ m ∧ m < j by omega)
      obtain ⟨b, hb⟩ : ∃ b, f m = b := ⟨_, rfl⟩
      rw [hb] at CC
      have HB := Lib.hid hb
      have HD := Lib.hid hd
      clear hb hd
      have q2 : ((i : Int) + (j : Int)) / 2 = (m : Int) := by omega
      have q3 : IntKind.i64.wrap ((m : Int) + 1) = ((m + 1 : Nat) : Int) := by rw [IntKind.wrap_i64]; omega
      clear hm
      go_wp2_with fail
      (with_reducible refine (CC.out).mono ?_)
      rintro e w2 ⟨rfl, rfl⟩
      have HW := Lib.hid (show w1.drew = w.drewN (d + 1) by rw [HD.out]; rfl)
      cases b with
      | true =>
        go_wp2
        go_roundw
        case rel => exact ⟨i, m, d + 1, rfl, rfl, HMI.out.1, by have := HMI.out; omega, HW.out, H1, Lib.hid (fun k h1 h2 => HM.out m k h1 HB.out)⟩
        case measure => simp [intOf]; have := HMI.out; omega
      | false =>
        go_wp2
        go_roundw
        case rel => exact ⟨m + 1, j, d + 1, by go_num, rfl, by have := HMI.out; omega, hj, HW.out, Lib.hid (fun k h1 => by
          cases hf : f k with
          | false => rfl
          | true => have := HM.out k m (by omega) hf; rw [HB.out] at this; cases this), H2⟩
        case measure => simp [intOf]; have := HMI.out; omega
    · have d1 : decide ((i : Int) < (j : Int)) = false := by simp; omega
      have d1' : decide (i < j) = false := by simp; omega
      have hij2 : i = j := by omega
      have HR := Lib.hid (show FirstYes f n i from ⟨by omega, H1.out, fun k h1 h2 => H2.out k (by omega) h2⟩)
      have HD := Lib.hid hd
      clear hd hij2
      go_wp2
      go_ret
      exact ⟨i, d, rfl, HD.out, HR.out⟩
end Go.Proofs.Yteggcehjpfmikaa.Wal
namespace Go.Proofs.Yteggcehjpfmikaa.Wal
open Go.ChangeShapes Go.WideShapes Go.ChangeAt Go.RowKit Go.IntWalk Go.Proofs.Mem Go.Proofs.Each Law Go.Proofs.Yteggcehjpfmikaa.Disk
set_option linter.unusedVariables false
set_option linter.unusedSimpArgs false
def fromF (ba lsn : Int) (ss : List Int) (k : Nat) : Bool := if k < ss.length then decide (lsn ≤ ba + ss.getD k 0) else true
structure Rising (ss : List Int) (n : Nat) : Prop where
  up : ∀ i j, i ≤ j → j < ss.length → ss.getD i 0 ≤ ss.getD j 0
  nn : ∀ i, i < ss.length → 0 ≤ ss.getD i 0 ∧ ss.getD i 0 ≤ n
theorem fromF_mono {ba lsn : Int} {ss : List Int} {n : Nat} (h : Rising ss n) (i j : Nat) (hij : i ≤ j) (hi : fromF ba lsn ss i = true) : fromF ba lsn ss j = true := by
  unfold fromF at hi ⊢
  by_cases hj : j < ss.length
  · rw [if_pos hj]
    rw [if_pos (by omega)] at hi
    have := h.up i j hij hj
    exact decide_eq_true (by have := of_decide_eq_true hi; omega)
  · rw [if_neg hj]
def behF (ba lsn : Int) (ss : List Int) (k : Nat) : Bool := if k < ss.length then decide (lsn < ba + ss.getD k 0) else true
theorem behF_mono {ba lsn : Int} {ss : List Int} {n : Nat} (h : Rising ss n) (i j : Nat) (hij : i ≤ j) (hi : behF ba lsn ss i = true) : behF ba lsn ss j = true := by
  unfold behF at hi ⊢
  by_cases hj : j < ss.length
  · rw [if_pos hj]
    rw [if_pos (by omega)] at hi
    have := h.up i j hij hj
    exact decide_eq_true (by have := of_decide_eq_true hi; omega)
  · rw [if_neg hj]
section
variable {t g : Nat} {h : Hh} {se : Int} {A At : Option Addr} {n c nt ct : Nat} {la : Nat}
set_option maxRecDepth 100000 in
set_option maxHeartbeats 4000000 in
theorem from_any (w : World) (X : Box w t (lgC g h se (.slice A n c) (.slice At nt ct) la) 89) (ss : List Int) (hv : IR w w.heap.size .i64 (.slice At nt ct) ss) (hl : nt ≤ 100000) (lsn : Int) (hs : Rising ss n) (hb : 0 ≤ h.ba ∧ h.ba + n ≤ 18446744073709551615) :
    Calls Try.prog 42 #[.pointer (some ⟨t, 0, none⟩), .int .u64 lsn] w fun e w' => ∃ r : Nat, e = .returned (.int .i64 r) ∧ FirstYes (fromF h.ba lsn ss) nt r ∧ Below w.heap.size w w' := by
  have hlen : ss.length = nt := by obtain ⟨A', c', e, _⟩ := hv.form; injection e with _ e2 _; exact e2.symm
  have b1 := new_ (Below.refl w.heap.size w) (.cells #[.pointer (some ⟨t, 0, none⟩)] 29)
  have X1 := Box.new w #[.pointer (some ⟨t, 0, none⟩)] 29
  obtain ⟨z, hz⟩ : ∃ z, w.heap.size = z := ⟨_, rfl⟩
  have s1 : (w.alloc (.cells #[.pointer (some ⟨t, 0, none⟩)] 29)).heap.size = z + 1 := by rw [← hz]; simp
  obtain ⟨w1, hw1⟩ : ∃ w1, w.alloc (.cells #[.pointer (some ⟨t, 0, none⟩)] 29) = w1 := ⟨_, rfl⟩
  rw [hw1] at b1 X1 s1
  have b2 := new_ (Below.refl w1.heap.size w1) (.cells #[.int .u64 lsn] 30)
  have X2 := Box.new w1 #[.int .u64 lsn] 30
  obtain ⟨w2, hw2⟩ : ∃ w2, w1.alloc (.cells #[.int .u64 lsn] 30) = w2 := ⟨_, rfl⟩
  rw [hw2] at b2 X2
  have X12 := X1.later b2
  rw [hz] at X12 b1
  rw [s1] at X2 b2
  have XT := (X.later (by rw [hz]; exact b1)).later (by rw [s1]; exact b2)
  have HB := Lib.hid (show Below z w w2 from b1.trans (b2.mono (by omega)))
  have hv2 : IR w2 w.heap.size .i64 (.slice At nt ct) ss := hv.below (by rw [hz]; exact HB.out)
  have HS := Lib.hid (search_from w2 nt hl z (z + 1) (fromF h.ba lsn ss) (fun i j hij hi => fromF_mono hs i j hij hi) (fun d k hk => by
    obtain ⟨x, hx⟩ : ∃ x : Nat, ss.getD k 0 = x := ⟨(ss.getD k 0).toNat, by have := (hs.nn k (by omega)).1; omega⟩
    have hxn : (x : Int) ≤ n := by have := (hs.nn k (by omega)).2; omega
    have := from1_any (w2.drewN d) (XT.drewN d) w.heap.size ss (hv2.drewN d) hl z (z + 1) lsn (X12.cell 0) (X2.cell 0) k hk x hx ⟨hb.1, by omega⟩
    have e : fromF h.ba lsn ss k = decide (lsn ≤ h.ba + x) := by unfold fromF; rw [if_pos (by omega), hx]
    rw [e]
    exact this))
  have c7 : w2.cell? ⟨t, 7, none⟩ = some (.slice At nt ct) := XT.cell 7
  have e0 : w2.cell? ⟨z, 0, none⟩ = some (.pointer (some ⟨t, 0, none⟩)) := X12.cell 0
  have HZ := Lib.hid hz
  rw [hz]
  clear X hv hlen hs hb b1 X1 b2 X2 X12 XT hv2
  go_enter Try.func42, Try.ntmps42
  go_wp2_with fail
  (with_reducible refine (HS.out).mono ?_)
  rintro e w3 ⟨r, d, rfl, rfl, hr⟩
  have HR := Lib.hid hr
  clear hr
  go_wp2
  go_ret
  exact ⟨r, rfl, HR.out, below_drewN HB.out d⟩
set_option maxRecDepth 100000 in
set_option maxHeartbeats 4000000 in
theorem behind_any (w : World) (X : Box w t (lgC g h se (.slice A n c) (.slice At nt ct) la) 89) (ss : List Int) (hv : IR w w.heap.size .i64 (.slice At nt ct) ss) (hl : nt ≤ 100000) (lsn : Int) (hs : Rising ss n) (hn : n ≤ 100000000) (hb : 0 ≤ h.ba ∧ h.ba + n ≤ 18446744073709551615) :
    Calls Try.prog 73 #[.pointer (some ⟨t, 0, none⟩), .int .u64 lsn] w fun e w' => ∃ r : Nat, e = .returned (.int .i64 (endS ss n ((r : Int) - 1))) ∧ FirstYes (behF h.ba lsn ss) nt r ∧ Below w.heap.size w w' := by
  have hlen : ss.length = nt := by obtain ⟨A', c', e, _⟩ := hv.form; injection e with _ e2 _; exact e2.symm
  have b1 := new_ (Below.refl w.heap.size w) (.cells #[.pointer (some ⟨t, 0, none⟩)] 29)
  have X1 := Box.new w #[.pointer (some ⟨t, 0, none⟩)] 29
  obtain ⟨z, hz⟩ : ∃ z, w.heap.size = z := ⟨_, rfl⟩
  have s1 : (w.alloc (.cells #[.pointer (some ⟨t, 0, none⟩)] 29)).heap.size = z + 1 := by rw [← hz]; simp
  obtain ⟨w1, hw1⟩ : ∃ w1, w.alloc (.cells #[.pointer (some ⟨t, 0, none⟩)] 29) = w1 := ⟨_, rfl⟩
  rw [hw1] at b1 X1 s1
  have b2 := new_ (Below.refl w1.heap.size w1) (.cells #[.int .u64 lsn] 30)
  have X2 := Box.new w1 #[.int .u64 lsn] 30
  obtain ⟨w2, hw2⟩ : ∃ w2, w1.alloc (.cells #[.int .u64 lsn] 30) = w2 := ⟨_, rfl⟩
  rw [hw2] at b2 X2
  have X12 := X1.later b2
  rw [hz] at X12 b1
  rw [s1] at X2 b2
  have XT := (X.later (by rw [hz]; exact b1)).later (by rw [s1]; exact b2)
  have HB := Lib.hid (show Below z w w2 from b1.trans (b2.mono (by omega)))
  have hv2 : IR w2 w.heap.size .i64 (.slice At nt ct) ss := hv.below (by rw [hz]; exact HB.out)
  have HS := Lib.hid (search_behind w2 nt hl z (z + 1) (behF h.ba lsn ss) (fun i j hij hi => behF_mono hs i j hij hi) (fun d k hk => by
    obtain ⟨x, hx⟩ : ∃ x : Nat, ss.getD k 0 = x := ⟨(ss.getD k 0).toNat, by have := (hs.nn k (by omega)).1; omega⟩
    have hxn : (x : Int) ≤ n := by have := (hs.nn k (by omega)).2; omega
    have := behind1_any (w2.drewN d) (XT.drewN d) w.heap.size ss (hv2.drewN d) hl z (z + 1) lsn (X12.cell 0) (X2.cell 0) k hk x hx ⟨hb.1, by omega⟩
    have e : behF h.ba lsn ss k = decide (lsn < h.ba + x) := by unfold behF; rw [if_pos (by omega), hx]
    rw [e]
    exact this))
  have HEN := Lib.hid (fun (d r : Nat) (hr : r ≤ nt) => endof_any (w2.drewN d) (XT.drewN d) w.heap.size ss (hv2.drewN d) hl hn ((r : Int) - 1) (by omega) (by omega))
  have c7 : w2.cell? ⟨t, 7, none⟩ = some (.slice At nt ct) := XT.cell 7
  have e0 : w2.cell? ⟨z, 0, none⟩ = some (.pointer (some ⟨t, 0, none⟩)) := X12.cell 0
  have HZ := Lib.hid hz
  rw [hz]
  clear X hv hlen hs hb b1 X1 b2 X2 X12 XT hv2
  go_enter Try.func73, Try.ntmps73
  go_wp2_with fail
  (with_reducible refine (HS.out).mono ?_)
  rintro e w3 ⟨r, d, rfl, rfl, hr⟩
  have HR := Lib.hid hr
  have HD := Lib.hid (below_drewN HB.out d)
  have CE := Lib.hid (HEN.out d r hr.1)
  have q1 : IntKind.i64.wrap ((r : Int) - 1) = (r : Int) - 1 := IntWalk.i64_in _ (by have := hr.1; omega)
  clear hr
  go_wp2_with fail
  (with_reducible refine (CE.out).mono ?_)
  rintro e w4 ⟨rfl, rfl⟩
  go_wp2
  go_ret
  exact ⟨r, rfl, HR.out, HD.out⟩
end
end Go.Proofs.Yteggcehjpfmikaa.Wal
namespace Go.Proofs.Mem
open Go.RowKit Go.WideShapes Go.Shelf
set_option linter.unusedVariables false
section
variable {F : Fence} {n : Nat} {P : Program} {α : Type}
def SeqC (F : Fence) (n : Nat) (P : Program) (gf : Nat) (lb : Array Value) (enc : α → Value) (Kp : World → World → Prop) (C : (List α → World → Prop) → Prop) (S : List α → Prop) (N : Nat) (w : World) : Prop :=
  ∀ (l : Nat) (J : List α → World → Prop) (W : World), Below w.heap.size w W → C J →
    (∀ pre x W1, J pre W1 → pre.length < N → YieldAt F (n - 1) P l #[enc x] W1 fun e W2 => e = .returned (.bool true) ∧ J (pre ++ [x]) W2 ∧ Kp W1 W2) →
    J [] W → CallsIn F n P gf (#[.func (.yield l) #[] #[]] ++ lb) W fun e W2 => (∃ v, e = .returned v) ∧ ∃ ys, S ys ∧ J ys W2
def Stand (D : Nat) (r : Loop) (W : World) : Prop := W.heap[D + 1]? = some (.loop r) ∧ W.heap[D]? = some (.deferred (some []))
theorem Stand.put {D : Nat} {r r' : Loop} {W : World} (h : Stand D r W) : Stand D r' (W.putObj (D + 1) (.loop r')) :=
  ⟨World.putObj_heap_same (Array.getElem?_eq_some_iff.1 h.1).1, (World.putObj_heap_other (by omega)).trans h.2⟩
theorem Stand.keep {D : Nat} {r : Loop} {W W' : World} (h : Stand D r W) (k : KeepsOthers W W') : Stand D r W' := ⟨k.same _ _ h.1 rfl, k.same _ _ h.2 rfl⟩
def GoesOn (Kp : World → World → Prop) (I : World → Prop) (W : World) : Exit → Act → World → Prop
  | .normal, _, W' => KeepsOthers W W' ∧ Kp W W' ∧ I W'
  | _, _, _ => False
theorem wpIn_rangeFunc_on {g : Operand} {p : Tmp} {assign body : Code} {Q : Exit → Act → World → Prop} {a : Act} {w : World} (q : Nat)
    (hro : F.round = none) (h1 : 1 ≤ n) {gf : Nat} {lb : Array Value} (hg : a.eval g = .func (.func gf) #[] lb) (hFg : F.fn gf) (eg : ∀ args w, (callFunc gf args).run P w = .ok (.enter gf args) w)
    {enc : α → Value} {Kp : World → World → Prop} {C : (List α → World → Prop) → Prop} {S : List α → Prop} {N : Nat} {w0 : World} (hseq : SeqC F (n - 1) P gf lb enc Kp C S N w0)
    (hKt : ∀ {X Y Z : World}, Kp X Y → Kp Y Z → Kp X Z) (hKb : ∀ (W : World) (l : Nat) (o o' : Obj), w.heap.size ≤ l → W.heap[l]? = some o → o.isCells = false → o.isWalk = false → Kp W (W.putObj l o')) (hb0 : Below w0.heap.size w0 w)
    (I : List α → World → Prop) (hI : OwnFrom w.heap.size I) (hC : ∀ r : Loop, C (fun pre W => I pre W ∧ Stand w.heap.size r W)) (h0 : I [] w)
    (hassign : ∀ (l : Nat) (x : α) (W : World) (K : Act → World → Prop), K { tmps := (a.tmps.setIfInBounds p (enc x)).setIfInBounds q (enc x), defers := [] } W →
      assign.wpIn (F.inRound l) (n - 1 - 1) P (Exit.then K (fun _ _ _ => False)) { tmps := a.tmps.setIfInBounds p (enc x), defers := [] } W)
    (hbody : ∀ (l : Nat) (pre : List α) (x : α) (W : World), I pre W → pre.length < N → body.wpIn (F.inRound l) (n - 1 - 1) P (GoesOn Kp (I (pre ++ [x])) W) { tmps := (a.tmps.setIfInBounds p (enc x)).setIfInBounds q (enc x), defers := [] } W)
    (hdone : ∀ (D : Nat) (xs : List α) (W : World), w.heap.size ≤ D → S xs → I xs W → W.heap[D]? = some (.deferred (some [])) → Q .normal { a with defers := { target := .collected D, args := #[] } :: a.defers } W) :
    (Code.rangeFunc g #[p] assign body).wpIn F n P Q a w := by
  refine wpIn_rangeFunc fun fn hfn => ?_
  rw [hro]
  obtain ⟨r0, hr0⟩ : ∃ r0 : Loop, r0 = { state := .ready, pending := none, fn, tmps := a.tmps, params := #[p], assign, body, defers := w.heap.size } := ⟨_, rfl⟩
  have hst : Stand w.heap.size r0 ((w.alloc (.deferred (some []))).alloc (.loop r0)) := by
    refine ⟨?_, ?_⟩
    · have := World.alloc_heap_new (w.alloc (.deferred (some []))) (.loop r0)
      rwa [World.size_alloc] at this
    · exact (Below.heap_alloc _ _ _ (by simp)).trans (World.alloc_heap_new w _)
  have hent := run_enterLoop_outer (P := P) (w := w) fn a.tmps #[p] assign body
  rw [← hr0] at hent
  obtain ⟨W1, hW1⟩ : ∃ W1, (w.alloc (.deferred (some []))).alloc (.loop r0) = W1 := ⟨_, rfl⟩
  have hbel : Below w.heap.size w W1 := by rw [← hW1]; exact new_ (new_ (Below.refl _ _) _) _
  have hI1 : I [] W1 := by rw [← hW1]; exact hI.alloc _ (hI.alloc _ h0)
  rw [hW1] at hent hst
  refine ⟨_, _, W1, { target := .fn (.func gf) lb, args := #[.func (.yield (w.heap.size + 1)) #[] #[]] }, W1, gf, #[.func (.yield (w.heap.size + 1)) #[] #[]] ++ lb, W1, hent, ?_, ?_, ?_, fun _ => h1, ?_⟩
  · simp only [resolve, hg]
    simp [go_sem]
  · intro f' hf'
    simp [Target.leads] at hf'
    subst hf'
    exact hFg
  · simp [invoke, go_sem, eg]
  · refine (hseq (w.heap.size + 1) (fun pre W => I pre W ∧ Stand w.heap.size r0 W) W1 (hb0.trans (hbel.mono hb0.size)) (hC r0) ?_ ⟨hI1, hst⟩).mono ?_
    · rintro pre x W ⟨hi, hs⟩ hlen
      have hy := run_yield (P := P) (args := #[enc x]) hs.1 (by rw [hr0]; rfl)
      have e : (r0.params.zip #[enc x]).foldl (fun t (p, v) => t.setIfInBounds p v) r0.tmps = a.tmps.setIfInBounds p (enc x) := by rw [hr0]; simp
      rw [e] at hy
      have hfn' : r0.fn = fn := by rw [hr0]
      have has' : r0.assign = assign := by rw [hr0]
      have hbo' : r0.body = body := by rw [hr0]
      rw [hfn', has', hbo'] at hy
      have hbg := run_beginRound (P := P) hs.1 (by rw [hr0])
      have hs2 := hs.put (r' := { r0 with state := .busy })
      refine ⟨fn, _, assign, body, hy, roundIn_of_wpIn hfn (hassign _ x W _ ⟨_, hbg, ?_⟩)⟩
      refine wpIn_mono (hbody _ pre x _ (hI.putObj _ hi (by omega) hs.1 rfl) hlen) ?_
      intro ex a3 W3 hp
      cases ex with
      | normal =>
        obtain ⟨k1, k2, k3⟩ := hp
        have hs3 := hs2.keep k1
        have hend := run_endRound (P := P) none hs3.1
        have hrr : ({ ({ r0 with state := .busy } : Loop) with state := if (none : Option Code).isNone then .ready else .done, pending := none } : Loop) = r0 := by rw [hr0]; rfl
        rw [hrr] at hend
        exact ⟨_, _, hend, rfl, ⟨hI.putObj _ k3 (by omega) hs3.1 rfl, hs3.put⟩, hKt (hKt (hKb _ _ _ _ (by omega) hs.1 rfl rfl) k2) (hKb _ _ _ _ (by omega) hs3.1 rfl rfl)⟩
      | _ => exact hp.elim
    · rintro e W2 ⟨⟨v, rfl⟩, xs, hS, hi, hs⟩
      have hend := run_endLoop (P := P) hs.1 (by rw [hr0]; simp)
      have hpe : r0.pending = none := by rw [hr0]
      rw [hpe] at hend
      exact ⟨none, _, hend, hdone _ xs _ (Nat.le_refl _) hS (hI.putObj _ hi (by omega) hs.1 rfl) hs.put.2⟩
end
end Go.Proofs.Mem
namespace Go.Proofs.Yteggcehjpfmikaa.Blk
open Go.ChangeShapes Go.WideShapes Go.ChangeAt Go.RowKit Go.IntWalk Go.Proofs.Mem
set_option linter.unusedVariables false
theorem u8_info : (Try.prog.info? 5).map (fun i => (i.zero, i.size, i.bytes)) = some (some (.int .u8 0), 1, 1) := by kernel_rfl
theorem row_info : (Try.prog.info? 48).map (fun i => (i.zero, i.size, i.bytes)) = some (some (.slice none 0 0), 1, 24) := by kernel_rfl
theorem map_at {va : List (Value × List Int)} {i : Nat} {u : Value} {xs : List Int} (h : va[i]? = some (u, xs)) : (va.map (·.2))[i]? = some xs := by rw [List.getElem?_map, h]; rfl
def QuietBool (q : Bool) (w : World) (e : Ending) (w' : World) : Prop := e = .returned (.bool q) ∧ ∃ d, w' = w.drewN d
def Fit (m : Int) (va : List (Value × List Int)) : Prop := (va.length : Int) ≤ m ∧ ∀ (k : Nat) (p : Value × List Int), va[k]? = some p → p.2.length ≤ 200
end Go.Proofs.Yteggcehjpfmikaa.Blk
namespace Go.Proofs.Yteggcehjpfmikaa.Strip
open Go.ChangeShapes Go.WideShapes Go.ChangeAt Go.RowKit Go.IntWalk Go.Shelf Go.Proofs.Mem
set_option linter.unusedVariables false
attribute [local go_sem] Oper.semAt_some
set_option maxHeartbeats 1000000 in
theorem pieces_in (F : Fence) (n : Nat) (h0 : F.fn 58) (hro : F.round = none) (A : Option Addr) (l c : Nat) (w : World) :
    CallsIn F n Try.prog 58 #[.slice A l c] w fun e w' => e = .returned (.func (.func 79) #[] #[.pointer (some ⟨w.heap.size, 0, none⟩)]) ∧ w' = w.alloc (.cells #[.slice A l c] 48) := by
  refine callsIn_of_wp Try.func58 rfl h0 ?_ hro
  simp only [Try.ntmps58, List.size_toArray, List.length_cons, List.length_nil, Nat.reduceAdd, Nat.reduceSub, Array.replicate_succ, Array.replicate_zero, List.push_toArray, List.append_toArray, List.nil_append, List.cons_append]
  gi_wp2
  go_ret
  exact ⟨rfl, rfl⟩
abbrev Pc (L : Nat) := { k : Nat // 127 * k < L }
def cnt (L : Nat) : Nat := (L + 126) / 127
def upto (L k : Nat) : List (Pc L) := (List.range k).filterMap fun i => if h : 127 * i < L then some ⟨i, h⟩ else none
theorem upto_succ {L k : Nat} (h : 127 * k < L) : upto L (k + 1) = upto L k ++ [⟨k, h⟩] := by
  simp [upto, List.range_succ, List.filterMap_append, h]
theorem upto_len {L : Nat} : ∀ k, 127 * k ≤ L + 126 → (upto L k).length = k
  | 0, _ => rfl
  | k + 1, h => by rw [upto_succ (by omega), List.length_append, upto_len k (by omega)]; rfl
def size_ (L k : Nat) : Nat := min 127 (L - 127 * k)
def piece (b off c L k : Nat) : Value := .slice (some ⟨b, off + 127 * k, none⟩) (size_ L k) (c - 127 * k)
def Open_ (Bs : Nat) {β : Type} (J : β → World → Prop) : Prop := ∀ s W u, J s W → J s (W.setCell ⟨Bs, 0, none⟩ u)
def left_ (Bs : Nat) (W : World) : Nat := match W.cell? ⟨Bs, 0, none⟩ with
  | some (.slice _ n _) => n
  | _ => 0
theorem left_eq {Bs : Nat} {W : World} {A : Option Addr} {n c : Nat} (h : W.cell? ⟨Bs, 0, none⟩ = some (.slice A n c)) : left_ Bs W = n := by unfold left_; rw [h]
theorem left_set {Bs : Nat} {W : World} {x : Value} {t : TypeId} (h : Box W Bs #[x] t) (A : Option Addr) (n c : Nat) : left_ Bs (W.setCell ⟨Bs, 0, none⟩ (.slice A n c)) = n := left_eq ((h.set_ 0 (.slice A n c)).cell 0)
set_option maxRecDepth 100000 in
set_option maxHeartbeats 4000000 in
theorem pieces1_in (l Bs : Nat) (S : Nat → Prop) (A : Option Addr) (b off c L : Nat) (hA : 0 < L → A = some ⟨b, off, none⟩) (hs : ¬ S Bs) (hc : L ≤ c) (hcm : c ≤ 9223372036854775807) (J : List (Pc L) → World → Prop) (hJ : Open_ Bs J)
    (hY : ∀ pre x W, J pre W → pre.length < cnt L → YieldAt Fence.wide 1 Try.prog l #[piece b off c L x.1] W fun e W' => e = .returned (.bool true) ∧ J (pre ++ [x]) W' ∧ Fr S W W')
    (W : World) (hBs : Box W Bs #[.slice A L c] 48) (h00 : J [] W) :
    CallsIn Fence.wide 2 Try.prog 79 #[.func (.yield l) #[] #[], .pointer (some ⟨Bs, 0, none⟩)] W fun e W' => (∃ v, e = .returned v) ∧ ∃ ys, ys = upto L (cnt L) ∧ J ys W' := by
  refine callsIn_of_wp Try.func79 rfl trivial ?_ rfl
  simp only [Try.ntmps79, List.size_toArray, List.length_cons, List.length_nil, Nat.reduceAdd, Nat.reduceSub, Array.replicate_succ, Array.replicate_zero, List.push_toArray, List.append_toArray, List.nil_append, List.cons_append]
  gi_wp2
  gi_loopw [] (fun wr => ∃ (k : Nat) (A' : Option Addr) (l' c' : Nat), Hid (Box wr Bs #[.slice A' l' c'] 48) ∧ Hid (l' = L - 127 * k) ∧ Hid (l' ≤ c' ∧ c' ≤ 9223372036854775807) ∧ Hid (127 * k < L → A' = some ⟨b, off + 127 * k, none⟩ ∧ c' = c - 127 * k) ∧ Hid (127 * k ≤ L + 126) ∧ Hid (J (upto L k) wr)) (fun wr => left_ Bs wr)
  case atStart => exact ⟨0, _, L, c, Lib.hid hBs, Lib.hid (by simp), Lib.hid ⟨hc, hcm⟩, Lib.hid (fun h => ⟨hA (by omega), rfl⟩), Lib.hid (by omega), Lib.hid h00⟩
  case round =>
    obtain ⟨k, A', l', c', HB, HL, HC, HA, HK, HJ⟩ := hrel
    have c0 : wr.cell? ⟨Bs, 0, none⟩ = some (.slice A' l' c') := HB.out.cell 0
    by_cases hz : l' = 0
    · subst hz
      have hk : k = cnt L := by have := HL.out; have := HK.out; unfold cnt; omega
      have HJ' := Lib.hid (show J (upto L (cnt L)) wr by rw [← hk]; exact HJ.out)
      gi_wp2
      go_end0
      exact ⟨⟨_, rfl⟩, _, rfl, HJ'.out⟩
    · have hk : 127 * k < L := by have := HL.out; omega
      obtain ⟨rfl, hc2⟩ := HA.out hk
      have HC2 := Lib.hid hc2
      have hpos : 0 < l' := by omega
      have hcc := HC.out
      have hl2 := HL.out
      clear hc2 hz
      by_cases h127 : l' ≤ 127
      · have hcc1 : l' ≤ c' := hcc.1
        obtain ⟨fn, tmps, assign, body, hy, hR⟩ := hY _ ⟨k, hk⟩ wr HJ.out (by rw [upto_len k (by omega)]; unfold cnt; omega)
        have hy' : (Instr.yield l #[.slice (some ⟨b, off + 127 * k, none⟩) l' c']).run Try.prog wr = .ok (.round l fn tmps assign body) wr := by
          have e : piece b off c L k = .slice (some ⟨b, off + 127 * k, none⟩) l' c' := by unfold piece size_; rw [HC2.out]; congr 1; omega
          rw [← e]; exact hy
        have HCC := Lib.hid hcc
        clear hy hcc hl2
        gi_wp2
        refine hR.mono ?_
        rintro e W3 ⟨rfl, hJ3, hk3⟩
        have bx := HB.out.fr hk3 hs
        have c3 : W3.cell? ⟨Bs, 0, none⟩ = some (.slice (some ⟨b, off + 127 * k, none⟩) l' c') := bx.cell 0
        have f3 := bx.frozen 0
        have BX := Lib.hid bx
        have HJ3 := Lib.hid (show J (upto L (k + 1)) W3 by rw [upto_succ hk]; exact hJ3)
        clear bx hJ3 hk3
        by_cases hcl : c' = l'
        · subst hcl
          gi_wp2
          go_roundw
          case rel => exact ⟨k + 1, _, _, _, Lib.hid (BX.out.set_ 0 _), Lib.hid (by have := HL.out; omega), Lib.hid (by have := HCC.out; omega), Lib.hid (fun h => by have := HL.out; omega), Lib.hid (by omega), Lib.hid (hJ _ _ _ HJ3.out)⟩
          case measure => rw [left_set BX.out, left_eq c0]; omega
        · gi_wp2
          go_roundw
          case rel => exact ⟨k + 1, _, _, _, Lib.hid (BX.out.set_ 0 _), Lib.hid (by have := HL.out; omega), Lib.hid (by have := HCC.out; omega), Lib.hid (fun h => by have := HL.out; omega), Lib.hid (by omega), Lib.hid (hJ _ _ _ HJ3.out)⟩
          case measure => rw [left_set BX.out, left_eq c0]; omega
      · have h127' : 127 < l' := by omega
        have hne : ¬ c' = 127 := by omega
        have hc3 : 127 ≤ c' := by omega
        obtain ⟨fn, tmps, assign, body, hy, hR⟩ := hY _ ⟨k, hk⟩ wr HJ.out (by rw [upto_len k (by omega)]; unfold cnt; omega)
        have hy' : (Instr.yield l #[.slice (some ⟨b, off + 127 * k, none⟩) 127 c']).run Try.prog wr = .ok (.round l fn tmps assign body) wr := by
          have e : piece b off c L k = .slice (some ⟨b, off + 127 * k, none⟩) 127 c' := by unfold piece size_; rw [HC2.out]; congr 1; omega
          rw [← e]; exact hy
        have HCC := Lib.hid hcc
        clear hy hcc hl2
        gi_wp2
        refine hR.mono ?_
        rintro e W3 ⟨rfl, hJ3, hk3⟩
        have bx := HB.out.fr hk3 hs
        have c3 : W3.cell? ⟨Bs, 0, none⟩ = some (.slice (some ⟨b, off + 127 * k, none⟩) l' c') := bx.cell 0
        have f3 := bx.frozen 0
        have BX := Lib.hid bx
        have HJ3 := Lib.hid (show J (upto L (k + 1)) W3 by rw [upto_succ hk]; exact hJ3)
        clear bx hJ3 hk3
        gi_wp2
        go_roundw
        case rel => exact ⟨k + 1, _, _, _, Lib.hid (BX.out.set_ 0 _), Lib.hid (by have := HL.out; omega), Lib.hid (by have := HCC.out; omega), Lib.hid (fun h => ⟨by congr 2, by have := HC2.out; omega⟩), Lib.hid (by omega), Lib.hid (hJ _ _ _ HJ3.out)⟩
        case measure => rw [left_set BX.out, left_eq c0]; omega
theorem pieces_seq (Bs : Nat) (S : Nat → Prop) (A : Option Addr) (b off c L : Nat) (hA : 0 < L → A = some ⟨b, off, none⟩) (hs : ¬ S Bs) (hc : L ≤ c) (hcm : c ≤ 9223372036854775807) (w : World) (hBs : Box w Bs #[.slice A L c] 48) :
    SeqC Fence.wide 2 Try.prog 79 #[.pointer (some ⟨Bs, 0, none⟩)] (fun x : Pc L => piece b off c L x.1) (Fr S) (fun J => Open_ Bs J) (fun ys => ys = upto L (cnt L)) (cnt L) w := fun l J W hW hJ hY h00 =>
  pieces1_in l Bs S A b off c L hA hs hc hcm J hJ hY W (hBs.later hW) h00
end Go.Proofs.Yteggcehjpfmikaa.Strip

