import Derived.Test.YtpndcpmfcajmdaaLkK
/- The laws of locks: the example holds. -/
namespace Go.Proofs.Ytpndcpmfcajmdaa.Lock
open Go.ChangeShapes Go.WideShapes Go.ChangeAt Go.RowKit Go.IntWalk Go.Proofs.Mem Law Go.Proofs.Each
set_option linter.unusedVariables false
set_option linter.unusedSimpArgs false
theorem u32_of {x : Int} (h : 0 ≤ x ∧ x ≤ 4294967295) : U32 x := h
theorem k0_ok : k0.ok := by
  refine ⟨?_, ?_, ?_⟩ <;> decide +kernel
theorem AskOut.next {w w' : World} {S : Nat → Prop} {N L t B xk : Nat} {T : Tb} {C : Array Value} {ty : TypeId} (h : AskOut w w' S N L t T) (hS : ∀ x, S x → B ≤ x ∧ x ≠ xk) (hX : Box w xk C ty) (hB : B ≤ w.heap.size) : ∃ S', TabAt w' S' N L t T ∧ (∀ x, S' x → B ≤ x ∧ x ≠ xk) ∧ Box w' xk C ty ∧ Below B w w' := by
  obtain ⟨S', h1, h2, h3⟩ := h
  have hl := hX.lt
  exact ⟨S', h1, fun x hx => (h3 x hx).elim (hS x) (fun h => ⟨by omega, by omega⟩), hX.fr h2 (fun h => (hS xk h).2 rfl), h2.to_below (fun x hx => (hS x hx).1) hB⟩
theorem own_one {w : World} {B : Nat} {v : Value} {x : Int} (h : w.ownsRow B 29 1 v [x].length ([x].map (.int .u32))) : ∃ g c, v = .slice (some ⟨g, 0, none⟩) 1 c ∧ B ≤ g ∧ g < w.heap.size ∧ 1 ≤ c ∧ w.cell? ⟨g, 0, none⟩ = some (.int .u32 x) := by
  have h' := h
  rcases h.2 with ⟨_, h0⟩ | ⟨g, cap, cur, rfl, hg, hh, hnc, _, _⟩
  · simp at h0
  · refine ⟨g, cap, rfl, hg, (h'.lt g rfl).2, hnc, ?_⟩
    have := h'.cellAt 0 (by simp)
    simpa using this
set_option maxRecDepth 100000 in
set_option maxHeartbeats 8000000 in
theorem known_any (w : World) : Calls Try.prog 9 #[] w fun e w' => e = .returned (.bool true) ∧ Below w.heap.size w w' := by
  have CN := Lib.hid (fun W => new_tab W)
  have CA := Lib.hid (show ∀ (W : World) (S : Nat → Prop) (N L t : Nat) (T : Tb) (txn m : Int), TabAt W S N L t T → U32 txn → N ≤ 50000 → L ≤ 50000 → Calls Try.prog 19 #[.pointer (some ⟨t, 0, none⟩), .int .u32 txn, .agg #[.int .u8 1, .int .u32 0, .int .u32 0], .int .u8 m] W fun e w' => e = .returned (.bool (askB T txn k0 m)) ∧ AskOut W w' S (N + 1) (L + 1) t (askT T txn k0 m) from
    fun W S N L t T txn m h ht hN hL => ask_any W S N L t T txn k0 m h ht k0_ok hN hL)
  have CR := Lib.hid (fun (W : World) (S : Nat → Prop) (N L t : Nat) (T : Tb) (txn : Int) (h : TabAt W S N L t T) (ht : U32 txn) (hN : N ≤ 50000) (hL : L ≤ 50000) => release_any W S N L t T txn h ht hN hL)
  obtain ⟨B, hB⟩ : ∃ B, w.heap.size = B := ⟨_, rfl⟩
  rw [hB]
  have HB0 := Lib.hid hB
  clear hB
  go_enter Try.func9, Try.ntmps9
  go_wp2_with fail
  (with_reducible refine (CN.out _).mono ?_)
  rintro er w1 ⟨t, S2, rfl, ht1, hs1, hb1⟩
  have HT1 := Lib.hid ht1
  have HS1 := Lib.hid (show ∀ x, S2 x → B ≤ x from fun x hx => by rw [← HB0.out]; exact hs1 x hx)
  have HB1 := Lib.hid (show Below B w w1 by rw [← HB0.out]; exact hb1)
  have HZ1 := Lib.hid (show B ≤ w1.heap.size by rw [← HB0.out]; exact hb1.size)
  clear ht1 hs1 hb1
  go_upto_region 5 with fail
  have b2 := new_ (Below.refl w1.heap.size w1) (.cells #[.int .u8 1, .int .u32 0, .int .u32 0] 31)
  have X2 := Lib.hid (Box.new w1 #[.int .u8 1, .int .u32 0, .int .u32 0] 31)
  have HT2 := Lib.hid (HT1.out.later b2)
  have HB2 := Lib.hid (HB1.out.trans (b2.mono HZ1.out))
  obtain ⟨xk, hxk⟩ : ∃ x, w1.heap.size = x := ⟨_, rfl⟩
  have HS2 := Lib.hid (show ∀ x, S2 x → B ≤ x ∧ x ≠ xk from fun x hx => ⟨HS1.out x hx, fun e => by
    obtain ⟨_, _, _, _, _, _, h⟩ := HT1.out
    have := h.old x hx; omega⟩)
  have HZ2 := Lib.hid (show B ≤ (w1.alloc (.cells #[.int .u8 1, .int .u32 0, .int .u32 0] 31)).heap.size by have := HZ1.out; have := b2.size; omega)
  rw [hxk] at X2 ⊢
  clear b2 hxk HT1 HS1 HB1 HZ1
  generalize w1.alloc (.cells #[.int .u8 1, .int .u32 0, .int .u32 0] 31) = w2 at X2 HT2 HB2 HZ2 ⊢
  have c0 := X2.out.cell
  have CC := Lib.hid (CA.out w2 S2 0 0 t T0 1 1 HT2.out (by unfold U32; omega) (by omega) (by omega))
  go_wp2_with fail
  (with_reducible refine CC.out.mono ?_)
  rintro er w3 ⟨rfl, ho⟩
  rw [kn_a.1]
  rw [kn_a.2] at ho
  obtain ⟨S3, h1, h2, h3, h4⟩ := ho.next HS2.out X2.out HZ2.out
  have HT3 := Lib.hid h1
  have HS3 := Lib.hid h2
  have X3 := Lib.hid h3
  have HB3 := Lib.hid (HB2.out.trans h4)
  have HZ3 := Lib.hid (Nat.le_trans HZ2.out h4.size)
  clear ho h1 h2 h3 h4 c0 CC HT2 HS2 X2 HB2 HZ2
  have c0 := X3.out.cell
  have CC := Lib.hid (CA.out w3 S3 1 1 t TA 2 1 HT3.out (by unfold U32; omega) (by omega) (by omega))
  go_wp2_with fail
  (with_reducible refine CC.out.mono ?_)
  rintro er w4 ⟨rfl, ho⟩
  rw [kn_b.1]
  rw [kn_b.2] at ho
  obtain ⟨S4, h1, h2, h3, h4⟩ := ho.next HS3.out X3.out HZ3.out
  have HT4 := Lib.hid h1
  have HS4 := Lib.hid h2
  have X4 := Lib.hid h3
  have HB4 := Lib.hid (HB3.out.trans h4)
  have HZ4 := Lib.hid (Nat.le_trans HZ3.out h4.size)
  clear ho h1 h2 h3 h4 c0 CC HT3 HS3 X3 HB3 HZ3
  have c0 := X4.out.cell
  have CC := Lib.hid (CA.out w4 S4 2 2 t TB 1 2 HT4.out (by unfold U32; omega) (by omega) (by omega))
  go_wp2_with fail
  (with_reducible refine CC.out.mono ?_)
  rintro er w5 ⟨rfl, ho⟩
  rw [kn_c.1]
  rw [kn_c.2] at ho
  obtain ⟨S5, h1, h2, h3, h4⟩ := ho.next HS4.out X4.out HZ4.out
  have HT5 := Lib.hid h1
  have HS5 := Lib.hid h2
  have X5 := Lib.hid h3
  have HB5 := Lib.hid (HB4.out.trans h4)
  have HZ5 := Lib.hid (Nat.le_trans HZ4.out h4.size)
  clear ho h1 h2 h3 h4 c0 CC HT4 HS4 X4 HB4 HZ4
  have c0 := X5.out.cell
  have CC := Lib.hid (CA.out w5 S5 3 3 t TC 3 1 HT5.out (by unfold U32; omega) (by omega) (by omega))
  go_wp2_with fail
  (with_reducible refine CC.out.mono ?_)
  rintro er w6 ⟨rfl, ho⟩
  rw [kn_d.1]
  rw [kn_d.2] at ho
  obtain ⟨S6, h1, h2, h3, h4⟩ := ho.next HS5.out X5.out HZ5.out
  have HT6 := Lib.hid h1
  have HS6 := Lib.hid h2
  have X6 := Lib.hid h3
  have HB6 := Lib.hid (HB5.out.trans h4)
  have HZ6 := Lib.hid (Nat.le_trans HZ5.out h4.size)
  clear ho h1 h2 h3 h4 c0 CC HT5 HS5 X5 HB5 HZ5
  have c0 := X6.out.cell
  clear c0
  have CC := Lib.hid (CR.out w6 S6 4 4 t TD 2 HT6.out (by unfold U32; omega) (by omega) (by omega))
  go_wp2_with fail
  (with_reducible refine CC.out.mono ?_)
  rintro er w7 ⟨v7, ks7, T7, g7, rfl, ho7, hr7, hw7, ht7, hf7⟩
  obtain ⟨rfl, rfl⟩ := kn_e ho7 hr7
  have HT7 := Lib.hid (show TabAt w7 S6 5 4 t TE from ht7)
  have hb7 : Below B w6 w7 := hf7.to_below (fun x hx => (HS6.out x hx).1) HZ6.out
  obtain ⟨g7, c7, rfl, hg7, hl7, hc7, hd7⟩ := own_one hw7
  have HB7 := Lib.hid (HB6.out.trans hb7)
  have HZ7 := Lib.hid (Nat.le_trans HZ6.out hb7.size)
  have hlt6 : ∀ x, S6 x → x < w6.heap.size := fun x hx => by
    obtain ⟨_, _, _, _, _, _, h⟩ := HT6.out
    exact h.old x hx
  have HG7 := Lib.hid (show ¬ S6 g7 ∧ g7 < w7.heap.size from ⟨fun h => by have := hlt6 g7 h; omega, hl7⟩)
  have HD7 := Lib.hid hd7
  have HC7 := Lib.hid hc7
  clear ho7 hr7 hw7 ht7 hf7 hb7 hg7 hl7 hlt6 hd7 CC HT6 X6 HB6
  have CC := Lib.hid (CR.out w7 S6 5 4 t TE 1 HT7.out (by unfold U32; omega) (by omega) (by omega))
  go_wp2_with fail
  (with_reducible refine CC.out.mono ?_)
  rintro er w8 ⟨v8, ks8, T8, g8, rfl, ho8, hr8, hw8, ht8, hf8⟩
  obtain rfl := kn_f ho8 hr8
  have hb8 : Below B w7 w8 := hf8.to_below (fun x hx => (HS6.out x hx).1) HZ7.out
  obtain ⟨g8, c8, rfl, hg8, hl8, hc8, d8⟩ := own_one hw8
  have HB8 := Lib.hid (HB7.out.trans hb8)
  have d7 : w8.cell? ⟨g7, 0, none⟩ = some (.int .u32 1) := (hf8.cell (p := ⟨g7, 0, none⟩) HG7.out.2 HG7.out.1).trans HD7.out
  clear ho8 hr8 hw8 ht8 hf8 hb8 hg8 hl8 CC
  go_wp2
  go_ret
  exact ⟨rfl, HB8.out⟩
end Go.Proofs.Ytpndcpmfcajmdaa.Lock
