import Derived.Test.YtpndcpmfcajmdaaLkR
import Derived.Test.YtpndcpmfcajmdaaSsOwn
/- Locks: the laws' look at a mode. -/
namespace Go.Proofs.Ytpndcpmfcajmdaa.Lock
open Go.ChangeShapes Go.WideShapes Go.ChangeAt Go.RowKit Go.IntWalk Go.Proofs.Mem Law Go.Shelf Go.Proofs.Each
set_option linter.unusedVariables false
set_option linter.unusedSimpArgs false
theorem key_ways (a1 b1 a2 b2 a3 b3 : Int) : ((a1 = b1) = True ∧ (a2 = b2) = True ∧ (a3 = b3) = True) ∨ (a1 = b1) = False ∨ ((a1 = b1) = True ∧ (a2 = b2) = False) ∨ ((a1 = b1) = True ∧ (a2 = b2) = True ∧ (a3 = b3) = False) := by
  by_cases h1 : a1 = b1 <;> by_cases h2 : a2 = b2 <;> by_cases h3 : a3 = b3 <;> simp [h1, h2, h3]
theorem hlist_mem {T : Tb} {t : Int} {ks : List Ky} (h : OfL T t ks) (x : Hd) : x ∈ hlist T t ks ↔ ∃ k m, x = hdOf k m ∧ (T.ent k).hv t = some m := by
  unfold hlist
  rw [List.mem_filterMap]
  constructor
  · rintro ⟨k, _, hk⟩
    cases hh : (T.ent k).hv t with
    | none => rw [hh] at hk; cases hk
    | some m => rw [hh] at hk; injection hk with hk; exact ⟨k, m, hk.symm, hh⟩
  · rintro ⟨k, m, rfl, hh⟩
    refine ⟨k, (h.mem k).2 ?_, by rw [hh]; rfl⟩
    unfold Tb.has En.has
    rw [hh]; rfl
theorem hold_ss {w : World} {B : Nat} {v : Value} {l : List Hd} (h : w.ownsRow B 45 4 v l.length (l.flatMap cHd)) : SS cHd 4 w w.heap.size v l := SS.of_own cHd_len h
theorem ss_len {α : Type} {F : α → List Value} {sz B : Nat} {w : World} {v : Value} {xs : List α} (h : SS F sz w B v xs) : (xs.length : Int) ≤ 9223372036854775807 := by
  obtain ⟨_, _, _, h1, h2⟩ := h.form
  have h3 : maxLen ≤ 9223372036854775807 := by unfold maxLen; decide
  omega
set_option maxRecDepth 100000 in
set_option maxHeartbeats 16000000 in
theorem mode_any (w : World) (S : Nat → Prop) (N L t : Nat) (T : Tb) (txn : Int) (k : Ky) (h : TabAt w S N L t T) (ht : U32 txn) (hN : N ≤ 50000) :
    Calls Try.prog 18 #[.pointer (some ⟨t, 0, none⟩), .int .u32 txn, .agg #[.int .u8 k.k, .int .u32 k.a, .int .u32 k.b]] w fun e w' => e = .returned (.int .u8 (((T.ent k).hv txn).getD 0)) ∧ Below w.heap.size w w' := by
  have hb0 := new_ (Below.refl w.heap.size w) (.cells #[.int .u8 k.k, .int .u32 k.a, .int .u32 k.b] 31)
  have X2 := Box.new w #[.int .u8 k.k, .int .u32 k.a, .int .u32 k.b] 31
  obtain ⟨x2, hx2⟩ : ∃ x, w.heap.size = x := ⟨_, rfl⟩
  have hs1 : (w.alloc (.cells #[.int .u8 k.k, .int .u32 k.a, .int .u32 k.b] 31)).heap.size = x2 + 1 := by rw [← hx2]; simp
  have CH := Lib.hid (tholds_any _ S N L t T txn (h.later hb0) ht hN)
  rw [hx2] at hb0 X2
  obtain ⟨w1, hw1⟩ : ∃ w1, w.alloc (.cells #[.int .u8 k.k, .int .u32 k.a, .int .u32 k.b] 31) = w1 := ⟨_, rfl⟩
  rw [hw1] at hb0 X2 hs1 CH
  have HX2 := Lib.hid hx2
  have HB1 := Lib.hid hb0
  have HS1 := Lib.hid hs1
  have HXX := Lib.hid X2
  obtain ⟨G, hG⟩ : ∃ G, ((T.ent k).hv txn).getD 0 = G := ⟨_, rfl⟩
  have HG := Lib.hid hG
  rw [hG]
  obtain ⟨ky, ka, kb⟩ := k
  rw [hx2]
  clear hb0 X2 hs1 hG h ht
  go_enter Try.func18, Try.ntmps18
  go_wp2_with fail
  (with_reducible refine (CH.out).mono ?_)
  rintro e w2 ⟨v2, ks, rfl, ho2, hr2, hb2⟩
  have hss := hold_ss hr2
  obtain ⟨A2, c2, rfl, _, _⟩ := hss.form
  have HSS := Lib.hid hss
  have HM := Lib.hid (hlist_mem ho2)
  obtain ⟨hl, hhl⟩ : ∃ hl, hlist T txn ks = hl := ⟨_, rfl⟩
  rw [hhl] at HSS HM ⊢
  have HB2 := Lib.hid (show Below x2 w w2 from HB1.out.trans (hb2.mono (by have := HS1.out; omega)))
  have hBX := HXX.out.below hb2 (by have := HS1.out; omega)
  have HBX := Lib.hid hBX
  have HLN := Lib.hid (show hl.length ≤ hl.length ∧ (hl.length : Int) ≤ 9223372036854775807 from ⟨Nat.le_refl _, ss_len HSS.out⟩)
  obtain ⟨n, hn⟩ : ∃ n, hl.length = n := ⟨_, rfl⟩
  have HN := Lib.hid hn
  rw [hn] at HSS ⊢
  clear ho2 hb2 hr2 hss hhl hn hBX
  go_wp2
  go_loopw [8] (fun s8 wr => ∃ (i d : Nat), s8 = .int .i64 i ∧ i ≤ n ∧ wr = w2.drewN d ∧ Hid (∀ x ∈ hl.take i, ¬ (x.k = ky ∧ x.a = ka ∧ x.b = kb))) (fun s8 _ => n - (intOf s8).toNat)
  case atStart => exact ⟨0, 0, rfl, Nat.zero_le _, rfl, Lib.hid (fun x hx => by cases hx)⟩
  case round =>
    obtain ⟨i, d, rfl, hi, hd, HNO⟩ := hrel
    obtain ⟨w3, rfl⟩ : ∃ w3, w3 = wr := ⟨wr, rfl⟩
    have HD := Lib.hid hd
    have HB3 := Lib.hid (show Below x2 w w3 by rw [hd]; exact below_drewN HB2.out d)
    by_cases hil : i < n
    · have d1 : decide ((i : Int) < (n : Int)) = true := by simp; omega
      have d1' : decide (i < n) = true := by simp; omega
      obtain ⟨x, hx⟩ : ∃ x, hl[i]? = some x := ⟨_, List.getElem?_eq_getElem (by have := HN.out; omega)⟩
      obtain ⟨bk, ok, hA, hbk, hcell⟩ := HSS.out.at_ hx
      subst hA
      have HXI := Lib.hid hx
      have HTK := Lib.hid (show hl.take (i + 1) = hl.take i ++ [x] by rw [List.take_add_one, hx]; rfl)
      have e0 : ∀ d', (w3.drewN d').cell? ⟨bk, ok + i * 4, none⟩ = some (.int .u8 x.k) := fun d' => by rw [hd]; exact hcell 0 _ rfl
      have e1 : ∀ d', (w3.drewN d').cell? ⟨bk, ok + i * 4 + 1, none⟩ = some (.int .u32 x.a) := fun d' => by rw [hd]; exact hcell 1 _ rfl
      have e2 : ∀ d', (w3.drewN d').cell? ⟨bk, ok + i * 4 + 2, none⟩ = some (.int .u32 x.b) := fun d' => by rw [hd]; exact hcell 2 _ rfl
      have e3 : ∀ d', (w3.drewN d').cell? ⟨bk, ok + i * 4 + 3, none⟩ = some (.int .u8 x.m) := fun d' => by rw [hd]; exact hcell 3 _ rfl
      have k0 : ∀ d', (w3.drewN d').cell? ⟨x2, 0, none⟩ = some (.int .u8 ky) := fun d' => by rw [hd]; exact (HBX.out.cell 0).trans rfl
      have k1 : ∀ d', (w3.drewN d').cell? ⟨x2, 1, none⟩ = some (.int .u32 ka) := fun d' => by rw [hd]; exact (HBX.out.cell 1).trans rfl
      have k2 : ∀ d', (w3.drewN d').cell? ⟨x2, 2, none⟩ = some (.int .u32 kb) := fun d' => by rw [hd]; exact (HBX.out.cell 2).trans rfl
      have hw2 : IntKind.i64.wrap ((i : Int) + 1) = ((i + 1 : Nat) : Int) := by rw [IntKind.wrap_i64]; have := HLN.out.2; have := HN.out; omega
      obtain ⟨xk, xa, xb, xm⟩ := x
      clear hx hcell hd
      go_upto_region 5 with fail
      rcases key_ways xk ky xa ka xb kb with ⟨f0, f1, f2⟩ | f0 | ⟨f0, f1⟩ | ⟨f0, f1, f2⟩
      · have HGG := Lib.hid (show xm = G by
          obtain ⟨k', m', h1, h2⟩ := (HM.out _).1 (List.mem_of_getElem? HXI.out)
          unfold hdOf at h1
          injection h1 with h3 h4 h5 h6
          have e1 : xk = ky := of_eq_true f0
          have e2 : xa = ka := of_eq_true f1
          have e3 : xb = kb := of_eq_true f2
          obtain ⟨k'1, k'2, k'3⟩ := k'
          simp only at h3 h4 h5
          rw [← h3, ← h4, ← h5, e1, e2, e3, ← h6] at h2
          have := HG.out
          rw [h2] at this
          exact this)
        go_quiet (fail)
        have e3' := fun d => e3 (nq + d)
        clear e0 e1 e2 k0 k1 k2 f0 f1 f2
        go_wp2
        go_ret
        exact ⟨by rw [HGG.out]; rfl, below_drewN HB3.out nq⟩
      all_goals
        have HN1 := Lib.hid (show ∀ x ∈ hl.take (i + 1), ¬ (x.k = ky ∧ x.a = ka ∧ x.b = kb) by
          rw [HTK.out]
          intro x hx
          rcases List.mem_append.1 hx with h | h
          · exact HNO.out x h
          · rw [List.mem_singleton.1 h]
            rintro ⟨h1, h2, h3⟩
            first
              | exact absurd h1 (of_eq_false f0)
              | exact absurd h2 (of_eq_false f1)
              | exact absurd h3 (of_eq_false f2))
        go_quiet (fail)
        clear e0 e1 e2 e3 k0 k1 k2
        go_wp2
        go_roundw
        case rel => exact ⟨i + 1, d + nq, by go_num, by omega, by rw [HD.out]; simp [World.drewN, Nat.add_assoc], HN1⟩
        case measure => simp [intOf]; omega
    · have hin : i = n := by omega
      have d1 : decide ((i : Int) < (n : Int)) = false := by simp; omega
      have d1' : decide (i < n) = false := by simp; omega
      have HGG := Lib.hid (show G = 0 by
        have h1 := HNO.out
        rw [hin, ← HN.out, List.take_length] at h1
        rw [← HG.out]
        cases hh : (T.ent ⟨ky, ka, kb⟩).hv txn with
        | none => rfl
        | some m => exact absurd ⟨rfl, rfl, rfl⟩ (h1 _ ((HM.out _).2 ⟨⟨ky, ka, kb⟩, m, rfl, hh⟩)))
      clear hd
      subst hin
      go_wp2
      go_ret
      exact ⟨by rw [HGG.out]; rfl, HB3.out⟩
end Go.Proofs.Ytpndcpmfcajmdaa.Lock
