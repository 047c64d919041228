import Derived.Test.YthbbnebanmpcjaaPg2
/- A page's place, stamp; a new page. -/
namespace Go.Proofs.Ythbbnebanmpcjaa.Pg
open Go.ChangeShapes Go.WideShapes Go.ChangeAt Go.RowKit Go.IntWalk Go.Proofs.Mem
set_option linter.unusedVariables false
set_option linter.unusedSimpArgs false
def setN (xs : List Int) (a n : Nat) (M : Int) : List Int := splice xs a (NumBytes.putS M n)
def place (xs : List Int) (s o l : Nat) : List Int := setN (setN xs (16 + 4 * s) 2 o) (18 + 4 * s) 2 l
theorem place_any (w : World) (b : Nat) (xs : List Int) (h : PgAt w b xs) (S O L : Int) (s o l : Nat) (hS : S = s) (hO : O = o) (hL : L = l) (hs : s < 108) (ho : o ≤ 65535) (hl : l ≤ 65535) :
    Calls Try.prog 62 #[.pointer (some ⟨b, 0, none⟩), .int .i64 S, .int .i64 O, .int .i64 L] w fun e w' => e = .returned (.tuple #[]) ∧ PgAt w' b (place xs s o l) ∧ Fr (fun x => x = b) w w' := by
  subst hS hO hL
  have LE := Lib.hid (fun W => listEnd_any W s (by omega) (s : Int) rfl)
  have P1 := Lib.hid (put_at w b xs h ((16 + 4 * s : Nat) : Int) 2 o (16 + 4 * s) 2 rfl rfl (by omega) (by omega) (by decide) (by decide))
  have P2 := Lib.hid (fun W (hp : PgAt W b (setN xs (16 + 4 * s) 2 o)) => put_at W b _ hp (((16 + 4 * s : Nat) : Int) + 2) 2 l (18 + 4 * s) 2 (by omega) rfl (by omega) (by omega) (by decide) (by decide))
  have we : wrap64 (((16 + 4 * s : Nat) : Int) + 2) = ((16 + 4 * s : Nat) : Int) + 2 := wrap64_in _ (by omega)
  obtain ⟨E, hE⟩ : ∃ E : Int, E = ((16 + 4 * s : Nat) : Int) := ⟨_, rfl⟩
  rw [← hE] at P1 P2 LE we
  have wo : IntKind.u64.wrap (o : Int) = (o : Int) := by rw [IntKind.wrap_u64]; omega
  have wl : IntKind.u64.wrap (l : Int) = (l : Int) := by rw [IntKind.wrap_u64]; omega
  clear h hE
  go_enter Try.func62, Try.ntmps62
  go_wp2_with fail
  (with_reducible refine (LE.out _).mono ?_)
  rintro e w1 ⟨rfl, rfl⟩
  go_wp2_with fail
  (with_reducible refine P1.out.mono ?_)
  rintro e w1 ⟨rfl, p1, f1⟩
  have HF1 := Lib.hid f1
  have PP := Lib.hid (P2.out w1 p1)
  clear p1 f1
  go_wp2_with fail
  (with_reducible refine (LE.out _).mono ?_)
  rintro e w2 ⟨rfl, rfl⟩
  go_wp2_with fail
  (with_reducible refine PP.out.mono ?_)
  rintro e w3 ⟨rfl, p3, f3⟩
  have HF3 := Lib.hid (HF1.out.trans f3)
  have HP3 := Lib.hid p3
  clear p3 f3
  go_wp2
  go_end0
  exact ⟨rfl, HP3.out, HF3.out⟩
theorem stamp_any (w : World) (b : Nat) (xs : List Int) (h : PgAt w b xs) (M : Int) (hM : 0 ≤ M ∧ M ≤ 18446744073709551615) :
    Calls Try.prog 29 #[.pointer (some ⟨b, 0, none⟩), .int .u64 M] w fun e w' => e = .returned (.tuple #[]) ∧ PgAt w' b (setN xs 0 8 M) ∧ Fr (fun x => x = b) w w' := by
  have P1 := Lib.hid (put_at w b xs h 0 8 M 0 8 rfl rfl hM (by decide) (by decide) (by decide))
  clear h
  go_enter Try.func29, Try.ntmps29
  go_wp2_with fail
  (with_reducible refine P1.out.mono ?_)
  rintro e w1 ⟨rfl, p1, f1⟩
  have HP := Lib.hid (And.intro p1 f1)
  clear p1 f1
  go_wp2
  go_end0
  exact ⟨rfl, HP.out⟩
def z448 : List Int := List.replicate 448 0
theorem z448_bytes : Bytes z448 := fun x hx => by rw [(List.mem_replicate.1 hx).2]; omega
def newP (n : Int) : List Int := setN (setN z448 8 4 n) 14 2 448
theorem zeroPg (W : World) : (zeroValue 64).run Try.prog W = .ok (.agg (pgC z448)) W := by kernel_rfl
theorem new_any (w : World) (n : Int) (hn : 0 ≤ n ∧ n ≤ 4294967295) :
    Calls Try.prog 11 #[.int .u32 n] w fun e w' => e = .returned (.pointer (some ⟨w.heap.size, 0, none⟩)) ∧ PgAt w' w.heap.size (newP n) ∧ Below w.heap.size w w' := by
  obtain ⟨PG, hPG⟩ : ∃ PG, PG = pgC z448 := ⟨_, rfl⟩
  have hz : ∀ W : World, (zeroValue 64).run Try.prog W = .ok (.agg PG) W := fun W => by rw [hPG]; exact zeroPg W
  have P0 := Lib.hid (show PgAt (w.alloc (.cells PG 64)) w.heap.size z448 from ⟨by rw [hPG]; exact Box.new _ _ _, List.length_replicate, z448_bytes⟩)
  have P1 := Lib.hid (put_at _ _ _ P0.out 8 4 n 8 4 rfl rfl (by omega) (by decide) (by decide) (by decide))
  have P2 := Lib.hid (fun W (hp : PgAt W w.heap.size (setN z448 8 4 n)) => put_at W _ _ hp 14 2 448 14 2 rfl rfl (by decide) (by decide) (by decide) (by decide))
  have B0 := Lib.hid (new_ (Below.refl w.heap.size w) (.cells PG 64))
  have wn : IntKind.u64.wrap n = n := by rw [IntKind.wrap_u64]; omega
  clear hPG
  go_enter Try.func11, Try.ntmps11
  go_wp2_with fail
  (with_reducible refine P1.out.mono ?_)
  rintro e w1 ⟨rfl, p1, f1⟩
  have B1 := Lib.hid (B0.out.trans (f1.to_below (B := w.heap.size) (fun k hk => by omega) B0.out.size))
  have PP := Lib.hid (P2.out w1 p1)
  clear p1 f1
  go_wp2_with fail
  (with_reducible refine PP.out.mono ?_)
  rintro e w2 ⟨rfl, p2, f2⟩
  have B2 := Lib.hid (B1.out.trans (f2.to_below (B := w.heap.size) (fun k hk => by omega) B1.out.size))
  have HP := Lib.hid p2
  clear p2 f2
  go_wp2
  go_ret
  exact ⟨rfl, HP.out, B2.out⟩
end Go.Proofs.Ythbbnebanmpcjaa.Pg
