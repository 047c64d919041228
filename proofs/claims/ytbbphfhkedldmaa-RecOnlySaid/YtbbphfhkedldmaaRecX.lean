import Derived.Test.YtbbphfhkedldmaaRecW
import Derived.Test.YtbbphfhkedldmaaCodecMath
/- What is read has just these bytes. -/
namespace Go.Proofs.Ytbbphfhkedldmaa.Rec
open Go.ChangeShapes Go.WideShapes Go.ChangeAt Go.RowKit Go.IntWalk Go.Proofs.NumMath Go.Proofs.Mem Go.Proofs.CrcMath NumBytes CrcA
set_option linter.unusedVariables false
set_option linter.unusedSimpArgs false
theorem rNum_inv {n : Nat} {xs ys : List Int} {a : Int} (h : rNum n xs = some (a, ys)) (hn : n ≤ 8) (hx : Bytes xs) : xs = putS a n ++ ys := by
  obtain ⟨h1, rfl, rfl⟩ := rNum_some h
  have e := Codec.put_get (xs.take n) (bytes_take hx n) (by rw [List.length_take]; omega)
  rw [List.length_take, Nat.min_eq_left h1] at e
  rw [e, List.take_append_drop]
theorem rText_inv {xs ys zs : List Int} (h : rText xs = some (ys, zs)) (hx : Bytes xs) : xs = putS ys.length 1 ++ ys ++ zs := by
  unfold rText at h
  cases e : rNum 1 xs with
  | none => rw [e] at h; cases h
  | some p =>
    obtain ⟨k, us⟩ := p
    rw [e] at h
    simp only at h
    have hk := rNum_bd (by decide) e hx
    have hi := rNum_inv e (by decide) hx
    split at h
    · injection h with h
      injection h with h1 h2
      subst h1 h2
      rw [List.length_take, Nat.min_eq_left (by assumption), show ((k.toNat : Nat) : Int) = k from Int.toNat_of_nonneg hk.1, List.append_assoc, List.take_append_drop]
      exact hi
    · cases h
theorem flag_back (f : Int) (h0 : 0 ≤ f) (h3 : ¬ 3 < f) : flagS (decide (f % 2 = 1)) (decide (f / 2 % 2 = 1)) = f := by
  have : f = 0 ∨ f = 1 ∨ f = 2 ∨ f = 3 := by omega
  rcases this with rfl | rfl | rfl | rfl <;> decide
theorem nb8 {a : Int} (h : 0 ≤ a ∧ a < 2 ^ (8 * 1)) : 0 ≤ a ∧ a ≤ 255 := by rw [show (2 : Int) ^ (8 * 1) = 256 from rfl] at h; omega
theorem nb16 {a : Int} (h : 0 ≤ a ∧ a < 2 ^ (8 * 2)) : 0 ≤ a ∧ a ≤ 65535 := by rw [show (2 : Int) ^ (8 * 2) = 65536 from rfl] at h; omega
theorem nb32 {a : Int} (h : 0 ≤ a ∧ a < 2 ^ (8 * 4)) : 0 ≤ a ∧ a ≤ 4294967295 := by rw [show (2 : Int) ^ (8 * 4) = 4294967296 from rfl] at h; omega
theorem nb64 {a : Int} (h : 0 ≤ a ∧ a < 2 ^ (8 * 8)) : 0 ≤ a ∧ a ≤ 18446744073709551615 := by rw [show (2 : Int) ^ (8 * 8) = 18446744073709551616 from rfl] at h; omega
theorem rChg_inv {xs zs : List Int} {c : Cg} (h : rChg xs = some (c, zs)) (hx : Bytes xs) : xs = chgS c ++ zs ∧ c.Ok ∧ Bytes zs := by
  unfold rChg at h
  cases e1 : rNum 4 xs with
  | none => rw [e1] at h; cases h
  | some p1 =>
  obtain ⟨pg, a⟩ := p1
  rw [e1] at h
  simp only at h
  have ha := rNum_bytes e1 hx
  cases e2 : rNum 2 a with
  | none => rw [e2] at h; cases h
  | some p2 =>
  obtain ⟨sl, b⟩ := p2
  rw [e2] at h
  simp only at h
  have hb := rNum_bytes e2 ha
  cases e3 : rNum 1 b with
  | none => rw [e3] at h; cases h
  | some p3 =>
  obtain ⟨f, cc⟩ := p3
  rw [e3] at h
  simp only at h
  have hcc := rNum_bytes e3 hb
  split at h
  · cases h
  rename_i h3
  cases e4 : rText cc with
  | none => rw [e4] at h; cases h
  | some p4 =>
  obtain ⟨x, d⟩ := p4
  rw [e4] at h
  simp only at h
  have hd := rText_bytes e4 hcc
  cases e5 : rText d with
  | none => rw [e5] at h; cases h
  | some p5 =>
  obtain ⟨y, z⟩ := p5
  rw [e5] at h
  simp only at h
  have hz := rText_bytes e5 hd.2.1
  injection h with h
  injection h with h1 h2
  subst h1 h2
  refine ⟨?_, ⟨nb32 (rNum_bd (by decide) e1 hx), nb16 (rNum_bd (by decide) e2 ha), hd.1, hz.1⟩, hz.2.1⟩
  unfold chgS
  simp only
  rw [flag_back f (rNum_bd (by decide) e3 hb).1 h3]
  rw [rNum_inv e1 (by decide) hx, rNum_inv e2 (by decide) ha, rNum_inv e3 (by decide) hb, rText_inv e4 hcc, rText_inv e5 hd.2.1]
  simp only [List.append_assoc]
theorem rAc_inv {xs zs : List Int} {a : Ac} (h : rAc xs = some (a, zs)) (hx : Bytes xs) : xs = acS a ++ zs ∧ a.Ok ∧ Bytes zs := by
  unfold rAc at h
  cases e1 : rNum 4 xs with
  | none => rw [e1] at h; cases h
  | some p1 =>
  obtain ⟨t, b⟩ := p1
  rw [e1] at h
  simp only at h
  have hb := rNum_bytes e1 hx
  cases e2 : rNum 8 b with
  | none => rw [e2] at h; cases h
  | some p2 =>
  obtain ⟨l, c⟩ := p2
  rw [e2] at h
  simp only at h
  have hc := rNum_bytes e2 hb
  cases e3 : rNum 8 c with
  | none => rw [e3] at h; cases h
  | some p3 =>
  obtain ⟨u, d⟩ := p3
  rw [e3] at h
  simp only at h
  have hd := rNum_bytes e3 hc
  cases e4 : rNum 1 d with
  | none => rw [e4] at h; cases h
  | some p4 =>
  obtain ⟨s, e⟩ := p4
  rw [e4] at h
  simp only at h
  injection h with h
  injection h with h1 h2
  subst h1 h2
  refine ⟨?_, ⟨nb32 (rNum_bd (by decide) e1 hx), nb64 (rNum_bd (by decide) e2 hb), nb64 (rNum_bd (by decide) e3 hc), nb8 (rNum_bd (by decide) e4 hd)⟩, rNum_bytes e4 hd⟩
  unfold acS
  simp only
  rw [rNum_inv e1 (by decide) hx, rNum_inv e2 (by decide) hb, rNum_inv e3 (by decide) hc, rNum_inv e4 (by decide) hd]
  simp only [List.append_assoc]
theorem rDt_inv {xs zs : List Int} {a : Dt} (h : rDt xs = some (a, zs)) (hx : Bytes xs) : xs = dtS a ++ zs ∧ a.Ok ∧ Bytes zs := by
  unfold rDt at h
  cases e1 : rNum 4 xs with
  | none => rw [e1] at h; cases h
  | some p1 =>
  obtain ⟨t, b⟩ := p1
  rw [e1] at h
  simp only at h
  have hb := rNum_bytes e1 hx
  cases e2 : rNum 8 b with
  | none => rw [e2] at h; cases h
  | some p2 =>
  obtain ⟨l, c⟩ := p2
  rw [e2] at h
  simp only at h
  injection h with h
  injection h with h1 h2
  subst h1 h2
  refine ⟨?_, ⟨nb32 (rNum_bd (by decide) e1 hx), nb64 (rNum_bd (by decide) e2 hb)⟩, rNum_bytes e2 hb⟩
  unfold dtS
  simp only
  rw [rNum_inv e1 (by decide) hx, rNum_inv e2 (by decide) hb]
  simp only [List.append_assoc]
theorem rMany_inv {α : Type} {f : List Int → Option (α × List Int)} {g : α → List Int} {ok : α → Prop} (hf : ∀ xs a zs, f xs = some (a, zs) → Bytes xs → xs = g a ++ zs ∧ ok a ∧ Bytes zs) :
    ∀ (n : Nat) (xs zs : List Int) (l : List α), rMany f n xs = some (l, zs) → Bytes xs → xs = l.flatMap g ++ zs ∧ l.length = n ∧ (∀ a ∈ l, ok a) ∧ Bytes zs
  | 0, xs, zs, l, h, hx => by
    injection h with h
    injection h with h1 h2
    subst h1 h2
    exact ⟨rfl, rfl, fun a ha => (List.not_mem_nil ha).elim, hx⟩
  | n + 1, xs, zs, l, h, hx => by
    unfold rMany at h
    cases e1 : f xs with
    | none => rw [e1] at h; cases h
    | some p1 =>
    obtain ⟨a, ys⟩ := p1
    rw [e1] at h
    simp only at h
    obtain ⟨i1, i2, i3⟩ := hf _ _ _ e1 hx
    cases e2 : rMany f n ys with
    | none => rw [e2] at h; cases h
    | some p2 =>
    obtain ⟨m, us⟩ := p2
    rw [e2] at h
    simp only at h
    injection h with h
    injection h with h1 h2
    subst h1 h2
    obtain ⟨j1, j2, j3, j4⟩ := rMany_inv hf n ys us m e2 i3
    refine ⟨?_, by rw [List.length_cons, j2], ?_, j4⟩
    · rw [List.flatMap_cons, List.append_assoc, ← j1]; exact i1
    · intro b hb
      rcases List.mem_cons.1 hb with rfl | hb
      · exact i2
      · exact j3 b hb
theorem rTab_inv {xs zs : List Int} {ts : List Ac} {ds : List Dt} (h : rTab xs = some (ts, ds, zs)) (hx : Bytes xs) : xs = tabS ts ds ++ zs ∧ (∀ x ∈ ts, x.Ok) ∧ (∀ x ∈ ds, x.Ok) ∧ Bytes zs := by
  unfold rTab at h
  cases e1 : rNum 1 xs with
  | none => rw [e1] at h; cases h
  | some p1 =>
  obtain ⟨n, a⟩ := p1
  rw [e1] at h
  simp only at h
  have ha := rNum_bytes e1 hx
  have hn := rNum_bd (by decide) e1 hx
  cases e2 : rMany rAc n.toNat a with
  | none => rw [e2] at h; cases h
  | some p2 =>
  obtain ⟨us, b⟩ := p2
  rw [e2] at h
  simp only at h
  obtain ⟨i1, i2, i3, hb⟩ := rMany_inv (g := acS) (ok := Ac.Ok) (fun _ _ _ h h' => rAc_inv h h') _ _ _ _ e2 ha
  cases e3 : rNum 1 b with
  | none => rw [e3] at h; cases h
  | some p3 =>
  obtain ⟨m, c⟩ := p3
  rw [e3] at h
  simp only at h
  have hc := rNum_bytes e3 hb
  have hm := rNum_bd (by decide) e3 hb
  cases e4 : rMany rDt m.toNat c with
  | none => rw [e4] at h; cases h
  | some p4 =>
  obtain ⟨es, d⟩ := p4
  rw [e4] at h
  simp only at h
  obtain ⟨j1, j2, j3, hd⟩ := rMany_inv (g := dtS) (ok := Dt.Ok) (fun _ _ _ h h' => rDt_inv h h') _ _ _ _ e4 hc
  injection h with h
  injection h with h1 h
  injection h with h2 h3
  subst h1 h2 h3
  refine ⟨?_, i3, j3, hd⟩
  unfold tabS acsS dtsS
  rw [rNum_inv e1 (by decide) hx, i1, rNum_inv e3 (by decide) hb, j1, i2, j2, Int.toNat_of_nonneg hn.1, Int.toNat_of_nonneg hm.1]
  simp only [List.append_assoc]
theorem rFull_inv {k t p n : Int} {c : Cg} {ts : List Ac} {ds : List Dt} {f : List Int} {r : Rc} (h : rFull k t p n c ts ds f = some r) : f = [] ∧ r = ⟨k, t, p, n, c, ts, ds⟩ ∧ mayS r = true := by
  unfold rFull at h
  split at h
  · rename_i hc
    injection h with h
    subst h
    exact ⟨hc.1, rfl, hc.2⟩
  · cases h
theorem nullC_ok : nullC.Ok := ⟨by decide, by decide, Bytes.nil, Bytes.nil⟩
theorem rBody_inv {xs : List Int} {r : Rc} (h : rBody xs = some r) (hx : Bytes xs) : xs = bodyS r ∧ r.Ok ∧ mayS r = true := by
  unfold rBody at h
  cases e1 : rNum 1 xs with
  | none => rw [e1] at h; cases h
  | some p1 =>
  obtain ⟨k, a⟩ := p1
  rw [e1] at h
  simp only at h
  have ha := rNum_bytes e1 hx
  cases e2 : rNum 4 a with
  | none => rw [e2] at h; cases h
  | some p2 =>
  obtain ⟨t, b⟩ := p2
  rw [e2] at h
  simp only at h
  have hb := rNum_bytes e2 ha
  cases e3 : rNum 8 b with
  | none => rw [e3] at h; cases h
  | some p3 =>
  obtain ⟨p, c⟩ := p3
  rw [e3] at h
  simp only at h
  have hc := rNum_bytes e3 hb
  cases e4 : rNum 8 c with
  | none => rw [e4] at h; cases h
  | some p4 =>
  obtain ⟨n, d⟩ := p4
  rw [e4] at h
  simp only at h
  have hd := rNum_bytes e4 hc
  have k1 := nb8 (rNum_bd (by decide) e1 hx)
  have k2 := nb32 (rNum_bd (by decide) e2 ha)
  have k3 := nb64 (rNum_bd (by decide) e3 hb)
  have k4 := nb64 (rNum_bd (by decide) e4 hc)
  have q1 := rNum_inv e1 (by decide) hx
  have q2 := rNum_inv e2 (by decide) ha
  have q3 := rNum_inv e3 (by decide) hb
  have q4 := rNum_inv e4 (by decide) hc
  unfold rTail at h
  unfold bodyS
  split at h
  · rename_i h23
    cases e5 : rChg d with
    | none => rw [e5] at h; cases h
    | some p5 =>
    obtain ⟨cg, f⟩ := p5
    rw [e5] at h
    simp only at h
    obtain ⟨rfl, rfl, hm⟩ := rFull_inv h
    obtain ⟨i1, i2, i3⟩ := rChg_inv e5 hd
    have h8 : ¬ k = 8 := by omega
    refine ⟨?_, ⟨k1, k2, k3, k4, i2, fun a ha => (List.not_mem_nil ha).elim, fun a ha => (List.not_mem_nil ha).elim⟩, hm⟩
    simp only
    rw [if_pos h23, if_neg h8, q1, q2, q3, q4, i1]
    simp only [List.append_assoc]
  · rename_i h23
    split at h
    · rename_i h8
      cases e5 : rTab d with
      | none => rw [e5] at h; cases h
      | some p5 =>
      obtain ⟨ts, ds, f⟩ := p5
      rw [e5] at h
      simp only at h
      obtain ⟨rfl, rfl, hm⟩ := rFull_inv h
      obtain ⟨i1, i2, i3, i4⟩ := rTab_inv e5 hd
      refine ⟨?_, ⟨k1, k2, k3, k4, nullC_ok, i2, i3⟩, hm⟩
      simp only
      rw [if_neg h23, if_pos h8, q1, q2, q3, q4, i1]
      simp only [List.append_assoc, List.append_nil, List.nil_append]
    · rename_i h8
      obtain ⟨rfl, rfl, hm⟩ := rFull_inv h
      refine ⟨?_, ⟨k1, k2, k3, k4, nullC_ok, fun a ha => (List.not_mem_nil ha).elim, fun a ha => (List.not_mem_nil ha).elim⟩, hm⟩
      simp only
      rw [if_neg h23, if_neg h8, q1, q2, q3, q4]
      simp only [List.append_assoc, List.append_nil]
theorem rDec_inv {xs : List Int} {r : Rc} (h : rDec xs = some r) (hx : Bytes xs) : xs = putS (getS (xs.take 2)) 2 ++ putS (tn (sumF 0#32 (bodyS r))) 4 ++ bodyS r ∧ r.Ok ∧ mayS r = true := by
  unfold rDec at h
  cases e1 : rNum 2 xs with
  | none => rw [e1] at h; cases h
  | some p1 =>
  obtain ⟨l, a⟩ := p1
  rw [e1] at h
  simp only at h
  have ha := rNum_bytes e1 hx
  cases e2 : rNum 4 a with
  | none => rw [e2] at h; cases h
  | some p2 =>
  obtain ⟨s, b⟩ := p2
  rw [e2] at h
  simp only at h
  have hb := rNum_bytes e2 ha
  have q1 := rNum_inv e1 (by decide) hx
  have q2 := rNum_inv e2 (by decide) ha
  have ql := (rNum_some e1).2.1
  split at h
  · rename_i hs
    obtain ⟨i1, i2, i3⟩ := rBody_inv h hb
    refine ⟨?_, i2, i3⟩
    rw [← ql, ← i1, ← hs, List.append_assoc, ← q2]
    exact q1
  · cases h
theorem resD_inv {xs : List Int} {r : Rc} {er : Int} (h : resD xs = (some r, er)) (hx : Bytes xs) : er = 0 ∧ r.Ok ∧ mayS r = true ∧ xs.take (lenB xs) = encS r ∧ lenB xs ≤ xs.length ∧ lenB xs = (encS r).length := by
  unfold resD at h
  split at h
  · cases h
  split at h
  · cases h
  rename_i h27 hl
  cases e : rDec (xs.take (lenB xs)) with
  | none => rw [e] at h; cases h
  | some r' =>
    rw [e] at h
    injection h with h1 h2
    injection h1 with h1
    subst h1 h2
    obtain ⟨i1, i2, i3⟩ := rDec_inv e (bytes_take hx _)
    have hle : lenB xs ≤ xs.length := by omega
    have hlt : (xs.take (lenB xs)).length = lenB xs := by rw [List.length_take]; omega
    have hl2 : lenB xs = 6 + (bodyS r').length := by
      rw [← hlt, i1]; simp [putS_len]; omega
    have hbl := body_len r' (may_lens r' i3)
    have ht2 : (xs.take (lenB xs)).take 2 = xs.take 2 := by rw [List.take_take, Nat.min_eq_left (by omega)]
    have hg : getS (xs.take 2) = 6 + ((bodyS r').length : Int) := by
      have hg0 := (Codec.get_bd (xs.take 2) (bytes_take hx 2)).1
      have : lenB xs = (getS (xs.take 2)).toNat := rfl
      omega
    refine ⟨rfl, i2, i3, ?_, hle, by rw [enc_len]; exact hl2⟩
    rw [i1, ht2, hg]
    rfl
/-- the sum tells a byte that is another one -/
theorem sum_inj (l : List Int) : ∀ s t : BitVec 32, sumF s l = sumF t l → s = t := by
  induction l with
  | nil => intro s t h; exact h
  | cons x l ih => intro s t h; exact (next_sum s t _).1 (ih _ _ h)
theorem sum_byte (pre post : List Int) (x y : Int) (hx : 0 ≤ x ∧ x ≤ 255) (hy : 0 ≤ y ∧ y ≤ 255) (h : sumF 0#32 (pre ++ x :: post) = sumF 0#32 (pre ++ y :: post)) : x = y := by
  rw [sumF_app, sumF_app] at h
  have h1 := (next_byte _ _ _).1 (sum_inj post _ _ h)
  rw [byte_tn x hx, byte_tn y hy, h1]
theorem rDec_none {xs a b : List Int} {l s : Int} (h1 : rNum 2 xs = some (l, a)) (h2 : rNum 4 a = some (s, b)) (hs : ¬ s = tn (sumF 0#32 b)) : rDec xs = none := by
  unfold rDec; rw [h1]; simp only; rw [h2]; simp only; rw [if_neg hs]
theorem getD_app_r (P Q : List Int) (i : Nat) (h : P.length ≤ i) : (P ++ Q).getD i 0 = Q.getD (i - P.length) 0 := by
  rw [List.getD_eq_getElem?_getD, List.getD_eq_getElem?_getD, List.getElem?_append_right h]
theorem getD_app_l (P Q : List Int) (i : Nat) (h : i < P.length) : (P ++ Q).getD i 0 = P.getD i 0 := by
  rw [List.getD_eq_getElem?_getD, List.getD_eq_getElem?_getD, List.getElem?_append_left h]
theorem getD_set_app (P Q : List Int) (i : Nat) (c : Int) (h : P.length ≤ i) : (P ++ Q).set i c = P ++ Q.set (i - P.length) c := by
  rw [List.set_append_right _ _ h]
theorem list_split (l : List Int) (i : Nat) (h : i < l.length) (c : Int) : l.set i c = l.take i ++ c :: l.drop (i + 1) ∧ l = l.take i ++ l.getD i 0 :: l.drop (i + 1) := by
  refine ⟨List.set_eq_take_append_cons_drop.trans (by rw [if_pos h]), ?_⟩
  have := List.take_append_drop i l
  rw [List.drop_eq_getElem_cons h] at this
  rw [List.getD_eq_getElem?_getD, List.getElem?_eq_getElem h]
  exact this.symm
theorem resD_turn (r : Rc) (hr : r.Ok) (hm : mayS r = true) (i : Nat) (c : Int) (hc : 0 ≤ c ∧ c ≤ 255) (h2 : 2 ≤ i) (hi : i < (encS r).length) (hne : ¬ (encS r).getD i 0 = c) : resD ((encS r).set i c) = (none, 61) := by
  have h27 := enc_min r hm
  have hlen : ((encS r).set i c).length = (encS r).length := List.length_set
  have hb := len_bd r hm
  have e0 : (encS r).set i c = putS (6 + (bodyS r).length) 2 ++ (putS (tn (sumF 0#32 (bodyS r))) 4 ++ bodyS r).set (i - 2) c := by
    have := getD_set_app (putS (6 + (bodyS r).length) 2) (putS (tn (sumF 0#32 (bodyS r))) 4 ++ bodyS r) i c (by rw [putS_len]; exact h2)
    rw [putS_len] at this
    rw [← this]; unfold encS; rw [List.append_assoc]
  have t2 : ((encS r).set i c).take 2 = putS (6 + (bodyS r).length) 2 := by rw [e0, List.take_left' (putS_len _ 2)]
  have hL := lenB_two r hm t2
  unfold resD
  rw [hL, hlen, if_neg (by omega), if_neg (by omega), List.take_of_length_le (by rw [hlen]; exact Nat.le_refl _)]
  have n1 : rNum 2 ((encS r).set i c) = some (6 + ((bodyS r).length : Int), (putS (tn (sumF 0#32 (bodyS r))) 4 ++ bodyS r).set (i - 2) c) := by
    rw [e0]; exact rNum_put (by decide) (b16 hb) _
  have hn : rDec ((encS r).set i c) = none := by
    have bs := tn_bd (sumF 0#32 (bodyS r))
    have hpl : (putS (tn (sumF 0#32 (bodyS r))) 4).length = 4 := putS_len _ 4
    have hg : (encS r).getD i 0 = (putS (tn (sumF 0#32 (bodyS r))) 4 ++ bodyS r).getD (i - 2) 0 := by
      unfold encS
      rw [List.append_assoc, getD_app_r _ _ _ (by rw [putS_len]; exact h2), putS_len]
    by_cases h6 : i < 6
    · have e1 : (putS (tn (sumF 0#32 (bodyS r))) 4 ++ bodyS r).set (i - 2) c = (putS (tn (sumF 0#32 (bodyS r))) 4).set (i - 2) c ++ bodyS r := List.set_append_left _ _ (by rw [putS_len]; omega)
      have hsl : ((putS (tn (sumF 0#32 (bodyS r))) 4).set (i - 2) c).length = 4 := by rw [List.length_set, putS_len]
      refine rDec_none (a := _) (b := bodyS r) (s := getS ((putS (tn (sumF 0#32 (bodyS r))) 4).set (i - 2) c)) n1 ?_ ?_
      · rw [e1]
        unfold rNum
        rw [if_pos (by rw [List.length_append, hsl]; omega), List.take_left' hsl, List.drop_left' hsl]
      · intro he
        have hbs : Bytes ((putS (tn (sumF 0#32 (bodyS r))) 4).set (i - 2) c) := fun x hx => by
          rcases List.mem_or_eq_of_mem_set hx with h1 | h1
          · exact putS_bytes _ _ x h1
          · rw [h1]; exact hc
        have e2 := Codec.put_get _ hbs (by rw [hsl]; decide)
        rw [he, hsl] at e2
        apply hne
        rw [hg, getD_app_l _ _ _ (by rw [putS_len]; omega), e2]
        rw [List.getD_eq_getElem?_getD, List.getElem?_set_self (by rw [putS_len]; omega)]
        rfl
    · have e1 : (putS (tn (sumF 0#32 (bodyS r))) 4 ++ bodyS r).set (i - 2) c = putS (tn (sumF 0#32 (bodyS r))) 4 ++ (bodyS r).set (i - 6) c := by
        rw [List.set_append_right _ _ (by rw [putS_len]; omega), putS_len, show i - 2 - 4 = i - 6 by omega]
      refine rDec_none (a := _) (b := (bodyS r).set (i - 6) c) (s := tn (sumF 0#32 (bodyS r))) n1 ?_ ?_
      · rw [e1]; exact rNum_put (by decide) (b32 ⟨bs.1, by omega⟩) _
      · intro he
        have hli : i - 6 < (bodyS r).length := by rw [enc_len] at hi; omega
        obtain ⟨s1, s2⟩ := list_split (bodyS r) (i - 6) hli c
        have he2 := tn_inj he
        have hbo := (body_bytes r hr).at_ (i - 6)
        rw [s1] at he2
        have he3 : sumF 0#32 ((bodyS r).take (i - 6) ++ (bodyS r).getD (i - 6) 0 :: (bodyS r).drop (i - 6 + 1)) = sumF 0#32 ((bodyS r).take (i - 6) ++ c :: (bodyS r).drop (i - 6 + 1)) := by rw [← s2]; exact he2
        have := sum_byte _ _ _ _ hbo hc he3
        apply hne
        rw [hg, getD_app_r _ _ _ (by rw [putS_len]; omega), putS_len, show i - 2 - 4 = i - 6 by omega]
        exact this
  rw [hn]
theorem set_getD (l : List Int) (i : Nat) (h : i < l.length) : l.set i (l.getD i 0) = l := by
  rw [List.getD_eq_getElem?_getD, List.getElem?_eq_getElem h]; exact List.set_getElem_self h
end Go.Proofs.Ytbbphfhkedldmaa.Rec
