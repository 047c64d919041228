import Derived.Test.YtpndcpmfcajmdaaLk7
/- Lines: the first place that is so; is there one? the closures; the places that are not so. -/
namespace Go.Proofs.Ytpndcpmfcajmdaa.Lock
open Go.ChangeShapes Go.WideShapes Go.ChangeAt Go.RowKit Go.IntWalk Go.Proofs.Mem Law Go.Shelf
set_option linter.unusedVariables false
set_option linter.unusedSimpArgs false
/-- what is asked of a predicate on places -/
def Pred (g : Nat) (lb : Array Value) (p : Pl → Bool) (w : World) (l : List Pl) : Prop :=
  ∀ (W : World) (x : Pl), x ∈ l → Below w.heap.size w W → Calls Try.prog g (#[.agg #[.int .u32 x.t, .int .u8 x.m]] ++ lb) W fun e w' => e = .returned (.bool (p x)) ∧ Below w.heap.size w w'
/-- at the first place that is so, or nowhere -/
def At (p : Pl → Bool) (l : List Pl) (r : Int) : Prop := (r = -1 ∧ ∀ x ∈ l, p x = false) ∨ ∃ k x, r = (k : Nat) ∧ l[k]? = some x ∧ p x = true ∧ ∀ y ∈ l.take k, p y = false
def hF (l : List Pl) (k : Nat) (p : Pl → Bool) : Prop := ∀ y ∈ l.take k, p y = false
theorem hF_step {l : List Pl} {k : Nat} {p : Pl → Bool} {x : Pl} (h : hF l k p) (hx : l[k]? = some x) (hp : p x = false) : hF l (k + 1) p := by
  intro y hy
  rw [List.take_add_one, hx] at hy
  rcases List.mem_append.1 hy with h1 | h1
  · exact h y h1
  · simp at h1; rw [h1]; exact hp
set_option maxRecDepth 100000 in
set_option maxHeartbeats 4000000 in
theorem index_any (w : World) (v : Value) (l : List Pl) (g : Nat) (lb : Array Value) (p : Pl → Bool) (eg : ∀ args w, (callFunc g args).run Try.prog w = .ok (.enter g args) w) (hv : SS cPl 2 w w.heap.size v l) (hp : Pred g lb p w l) :
    Calls Try.prog 51 #[v, .func (.func g) #[] lb] w fun e w' => (∃ r, e = .returned (.int .i64 r) ∧ At p l r) ∧ Below w.heap.size w w' := by
  obtain ⟨A, c, rfl, hc1, hc2⟩ := hv.form
  obtain ⟨N, hN⟩ : ∃ N, N = l.length := ⟨_, rfl⟩
  have HV := Lib.hid hv
  have HP := Lib.hid hp
  have HN := Lib.hid hN
  have bN : (N : Int) ≤ 9223372036854775807 := by unfold maxLen at hc2; omega
  have hN2 := hN.symm
  rw [hN2]
  clear hv hp hN hN2 hc1 hc2
  go_enter Try.func51, Try.ntmps51
  go_wp2
  go_loopw [5, 8] (fun _ s wr => ∃ k : Nat, k ≤ N ∧ s = .int .i64 k ∧ Hid (hF l k p) ∧ Hid (Below w.heap.size w wr)) (fun _ s _ => N - (intOf s).toNat)
  case atStart => exact ⟨0, Nat.zero_le _, rfl, Lib.hid (fun y hy => by simp at hy), Lib.hid (Below.refl _ _)⟩
  case round =>
    obtain ⟨k, hk, rfl, HF, HB⟩ := hrel
    obtain ⟨w0, rfl⟩ : ∃ w0, w0 = wr := ⟨wr, rfl⟩
    by_cases hl : k < N
    · have d1 : decide ((k : Int) < (N : Int)) = true := by simp; omega
      have d1' : decide (k < N) = true := by simp; omega
      obtain ⟨x, hx⟩ : ∃ x, l[k]? = some x := ⟨_, List.getElem?_eq_getElem (by have := HN.out; omega)⟩
      obtain ⟨b, off, rfl, hb, hcell⟩ := HV.out.at_ hx
      have k1 : w0.cell? ⟨b, off + k * 2, none⟩ = some (.int .u32 x.t) := (HB.out.cell (p := ⟨b, off + k * 2, none⟩) hb).trans (hcell 0 _ rfl)
      have k2 : w0.cell? ⟨b, off + k * 2 + 1, none⟩ = some (.int .u8 x.m) := (HB.out.cell (p := ⟨b, off + k * 2 + 1, none⟩) hb).trans (hcell 1 _ rfl)
      have HC := Lib.hid (HP.out w0 x (List.mem_of_getElem? hx) HB.out)
      have HX := Lib.hid hx
      clear hcell hb hx
      obtain ⟨q, hq⟩ : ∃ q, p x = q := ⟨_, rfl⟩
      rw [hq] at HC
      have HQ := Lib.hid hq
      clear hq
      cases q with
      | true =>
        go_wp2_with (go_at_fn g; (with_reducible refine HC.out.mono ?_); rintro e w1 ⟨rfl, hb1⟩; have HB1 := Lib.hid hb1; clear hb1)
        go_ret
        exact ⟨⟨_, rfl, .inr ⟨k, x, rfl, HX.out, HQ.out, HF.out⟩⟩, HB1.out⟩
      | false =>
        go_wp2_with (go_at_fn g; (with_reducible refine HC.out.mono ?_); rintro e w1 ⟨rfl, hb1⟩; have HB1 := Lib.hid hb1; clear hb1)
        go_roundw
        case rel => exact ⟨k + 1, by omega, by go_num, Lib.hid (hF_step HF.out HX.out HQ.out), HB1⟩
        case measure => simp [intOf]; omega
    · have hkN : k = N := by omega
      have d1 : decide ((k : Int) < (N : Int)) = false := by simp; omega
      have d1' : decide (k < N) = false := by simp; omega
      have HE := Lib.hid (show ∀ x ∈ l, p x = false from fun x hx => HF.out x (by rw [hkN, HN.out, List.take_length]; exact hx))
      clear hkN
      go_wp2
      go_ret
      exact ⟨⟨_, rfl, .inl ⟨rfl, HE.out⟩⟩, HB.out⟩
theorem At.neg {p : Pl → Bool} {l : List Pl} {r : Int} (h : At p l r) : decide (0 ≤ r) = l.any p := by
  rcases h with ⟨rfl, h⟩ | ⟨k, x, rfl, hx, hp, _⟩
  · have : l.any p = false := by rw [List.any_eq_false]; intro x hx; simp [h x hx]
    rw [this]; rfl
  · have : l.any p = true := List.any_eq_true.2 ⟨x, List.mem_of_getElem? hx, hp⟩
    rw [this]; simp
set_option maxRecDepth 100000 in
set_option maxHeartbeats 4000000 in
theorem contains_any (w : World) (v : Value) (l : List Pl) (g : Nat) (lb : Array Value) (p : Pl → Bool) (eg : ∀ args w, (callFunc g args).run Try.prog w = .ok (.enter g args) w) (hv : SS cPl 2 w w.heap.size v l) (hp : Pred g lb p w l) :
    Calls Try.prog 49 #[v, .func (.func g) #[] lb] w fun e w' => e = .returned (.bool (l.any p)) ∧ Below w.heap.size w w' := by
  have HC := Lib.hid (index_any w v l g lb p eg hv hp)
  obtain ⟨q, hq⟩ : ∃ q, l.any p = q := ⟨_, rfl⟩
  rw [hq]
  have HQ := Lib.hid hq
  clear hv hp eg hq
  go_enter Try.func49, Try.ntmps49
  go_wp2_with fail
  (with_reducible refine HC.out.mono ?_)
  rintro e w1 ⟨⟨r, rfl, hr⟩, hb⟩
  have d1 : decide (0 ≤ r) = q := hr.neg.trans HQ.out
  have HB := Lib.hid hb
  clear hr hb HC
  go_wp2
  go_ret
  exact ⟨rfl, HB.out⟩
def isT (txn : Int) (x : Pl) : Bool := decide (x.t = txn)
theorem u32eq (a b : Int) : (a == b) = decide (a = b) := by by_cases h : a = b <;> simp [h]
set_option maxRecDepth 100000 in
set_option maxHeartbeats 4000000 in
theorem of_1 (W : World) (x : Pl) (B : Nat) (txn : Int) (hB : B < W.heap.size) (hc : W.cell? ⟨B, 0, none⟩ = some (.int .u32 txn)) :
    Calls Try.prog 47 #[.agg #[.int .u32 x.t, .int .u8 x.m], .pointer (some ⟨B, 0, none⟩)] W fun e w' => e = .returned (.bool (isT txn x)) ∧ Below W.heap.size W w' := by
  obtain ⟨a, b⟩ := x
  have HB := Lib.hid (new_ (Below.refl W.heap.size W) (.cells #[.int .u32 a, .int .u8 b] 72))
  have c2 : (W.alloc (.cells #[.int .u32 a, .int .u8 b] 72)).cell? ⟨B, 0, none⟩ = some (.int .u32 txn) := (HB.out.cell (p := ⟨B, 0, none⟩) hB).trans hc
  have HE := u32eq a txn
  have hd : isT txn ⟨a, b⟩ = decide (a = txn) := rfl
  rw [hd]
  obtain ⟨q, hq⟩ : ∃ q, decide (a = txn) = q := ⟨_, rfl⟩
  rw [hq] at HE ⊢
  clear hc hd
  go_enter Try.func47, Try.ntmps47
  go_wp2
  go_ret
  exact ⟨rfl, HB.out⟩
set_option maxRecDepth 100000 in
set_option maxHeartbeats 4000000 in
theorem rel_1 (W : World) (x : Pl) (B : Nat) (txn : Int) (hB : B < W.heap.size) (hc : W.cell? ⟨B, 0, none⟩ = some (.int .u32 txn)) :
    Calls Try.prog 37 #[.agg #[.int .u32 x.t, .int .u8 x.m], .pointer (some ⟨B, 0, none⟩)] W fun e w' => e = .returned (.bool (isT txn x)) ∧ Below W.heap.size W w' := by
  obtain ⟨a, b⟩ := x
  have HB := Lib.hid (new_ (Below.refl W.heap.size W) (.cells #[.int .u32 a, .int .u8 b] 72))
  have c2 : (W.alloc (.cells #[.int .u32 a, .int .u8 b] 72)).cell? ⟨B, 0, none⟩ = some (.int .u32 txn) := (HB.out.cell (p := ⟨B, 0, none⟩) hB).trans hc
  have HE := u32eq a txn
  have hd : isT txn ⟨a, b⟩ = decide (a = txn) := rfl
  rw [hd]
  obtain ⟨q, hq⟩ : ∃ q, decide (a = txn) = q := ⟨_, rfl⟩
  rw [hq] at HE ⊢
  clear hc hd
  go_enter Try.func37, Try.ntmps37
  go_wp2
  go_ret
  exact ⟨rfl, HB.out⟩
set_option maxRecDepth 100000 in
set_option maxHeartbeats 4000000 in
theorem wait_1 (W : World) (x : Pl) (B e m n : Nat) (lv : Value) (h : Int → Option Int) (hB : B < W.heap.size) (hc : W.cell? ⟨B, 0, none⟩ = some (.pointer (some ⟨e, 0, none⟩))) (hb : Box W e #[.map (some m), lv] 86) (hf : FM KU VM W m n h) (hx : U32 x.t) :
    Calls Try.prog 52 #[.agg #[.int .u32 x.t, .int .u8 x.m], .pointer (some ⟨B, 0, none⟩)] W fun r w' => r = .returned (.bool (!(h x.t).isSome)) ∧ Below W.heap.size W w' := by
  obtain ⟨a, b⟩ := x
  have hbe := new_ (Below.refl W.heap.size W) (.cells #[.int .u32 a, .int .u8 b] 72)
  have c2 : (W.alloc (.cells #[.int .u32 a, .int .u8 b] 72)).cell? ⟨B, 0, none⟩ = some (.pointer (some ⟨e, 0, none⟩)) := (hbe.cell (p := ⟨B, 0, none⟩) hB).trans hc
  have HC := Lib.hid (holds_any (W.alloc (.cells #[.int .u32 a, .int .u8 b] 72)) e m n lv h a (hb.alloc _) (hf.later hbe) hx)
  have HB := Lib.hid hbe
  obtain ⟨q, hq⟩ : ∃ q, (h a).isSome = q := ⟨_, rfl⟩
  show Calls _ _ _ _ fun r w' => r = .returned (.bool (!(h a).isSome)) ∧ _
  rw [hq] at HC ⊢
  clear hb hf hx hc hbe hq
  go_enter Try.func52, Try.ntmps52
  go_wp2_with fail
  (with_reducible refine HC.out.mono ?_)
  rintro e w1 ⟨rfl, rfl⟩
  go_wp2
  go_ret
  exact ⟨rfl, HB.out⟩
end Go.Proofs.Ytpndcpmfcajmdaa.Lock
