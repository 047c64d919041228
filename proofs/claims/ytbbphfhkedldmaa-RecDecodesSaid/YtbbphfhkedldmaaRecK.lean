import Derived.Test.YtbbphfhkedldmaaRecI
/- Two records that may be have the same bytes only if they are the same. -/
namespace Go.Proofs.Ytbbphfhkedldmaa.Rec
open Go.ChangeShapes Go.WideShapes Go.ChangeAt Go.RowKit Go.IntWalk Go.Proofs.NumMath Go.Proofs.Mem Go.Proofs.CrcMath NumBytes CrcA
set_option linter.unusedVariables false
set_option linter.unusedSimpArgs false
theorem put_inj {a b : Int} (k : Nat) (hk : k ≤ 8) (ha : 0 ≤ a ∧ a < 2 ^ (8 * k)) (hb : 0 ≤ b ∧ b < 2 ^ (8 * k)) (h : putS a k = putS b k) : a = b := by
  have h1 := get_put a k hk
  have h2 := get_put b k hk
  rw [h, h2, Int.emod_eq_of_lt hb.1 hb.2, Int.emod_eq_of_lt ha.1 ha.2] at h1
  exact h1.symm
theorem cut_inj {a b : Int} {X Y : List Int} (k : Nat) (hk : k ≤ 8) (ha : 0 ≤ a ∧ a < 2 ^ (8 * k)) (hb : 0 ≤ b ∧ b < 2 ^ (8 * k)) (h : putS a k ++ X = putS b k ++ Y) : a = b ∧ X = Y := by
  obtain ⟨h1, h2⟩ := List.append_inj h (by rw [putS_len, putS_len])
  exact ⟨put_inj k hk ha hb h1, h2⟩
theorem b8 {a : Int} (h : 0 ≤ a ∧ a ≤ 255) : 0 ≤ a ∧ a < 2 ^ (8 * 1) := ⟨h.1, by have := h.2; show a < 256; omega⟩
theorem b16 {a : Int} (h : 0 ≤ a ∧ a ≤ 65535) : 0 ≤ a ∧ a < 2 ^ (8 * 2) := ⟨h.1, by have := h.2; show a < 65536; omega⟩
theorem b32 {a : Int} (h : 0 ≤ a ∧ a ≤ 4294967295) : 0 ≤ a ∧ a < 2 ^ (8 * 4) := ⟨h.1, by have := h.2; show a < 4294967296; omega⟩
theorem b64 {a : Int} (h : 0 ≤ a ∧ a ≤ 18446744073709551615) : 0 ≤ a ∧ a < 2 ^ (8 * 8) := ⟨h.1, by have := h.2; show a < 18446744073709551616; omega⟩
theorem acs_inj : ∀ (l m : List Ac), (∀ x ∈ l, x.Ok) → (∀ x ∈ m, x.Ok) → l.length = m.length → acsS l = acsS m → l = m
  | [], [], _, _, _, _ => rfl
  | [], _ :: _, _, _, h, _ => by simp at h
  | _ :: _, [], _, _, h, _ => by simp at h
  | a :: l, b :: m, ha, hb, hl, h => by
    have oa := ha a (List.mem_cons_self ..)
    have ob := hb b (List.mem_cons_self ..)
    simp only [acsS, List.flatMap_cons, acS, List.append_assoc] at h
    obtain ⟨e1, h⟩ := cut_inj 4 (by decide) (b32 oa.1) (b32 ob.1) h
    obtain ⟨e2, h⟩ := cut_inj 8 (by decide) (b64 oa.2.1) (b64 ob.2.1) h
    obtain ⟨e3, h⟩ := cut_inj 8 (by decide) (b64 oa.2.2.1) (b64 ob.2.2.1) h
    obtain ⟨e4, h⟩ := cut_inj 1 (by decide) (b8 oa.2.2.2) (b8 ob.2.2.2) h
    have := acs_inj l m (fun x hx => ha x (List.mem_cons_of_mem _ hx)) (fun x hx => hb x (List.mem_cons_of_mem _ hx)) (by simpa using hl) h
    rw [this]
    cases a; cases b; simp_all
theorem dts_inj : ∀ (l m : List Dt), (∀ x ∈ l, x.Ok) → (∀ x ∈ m, x.Ok) → l.length = m.length → dtsS l = dtsS m → l = m
  | [], [], _, _, _, _ => rfl
  | [], _ :: _, _, _, h, _ => by simp at h
  | _ :: _, [], _, _, h, _ => by simp at h
  | a :: l, b :: m, ha, hb, hl, h => by
    have oa := ha a (List.mem_cons_self ..)
    have ob := hb b (List.mem_cons_self ..)
    simp only [dtsS, List.flatMap_cons, dtS, List.append_assoc] at h
    obtain ⟨e1, h⟩ := cut_inj 4 (by decide) (b32 oa.1) (b32 ob.1) h
    obtain ⟨e2, h⟩ := cut_inj 8 (by decide) (b64 oa.2) (b64 ob.2) h
    have := dts_inj l m (fun x hx => ha x (List.mem_cons_of_mem _ hx)) (fun x hx => hb x (List.mem_cons_of_mem _ hx)) (by simpa using hl) h
    rw [this]
    cases a; cases b; simp_all
theorem nat_b8 {n : Nat} (h : n ≤ 64) : 0 ≤ (n : Int) ∧ (n : Int) ≤ 255 := by omega
theorem tab_inj (ts us : List Ac) (ds es : List Dt) (h1 : ∀ x ∈ ts, x.Ok) (h2 : ∀ x ∈ us, x.Ok) (h3 : ∀ x ∈ ds, x.Ok) (h4 : ∀ x ∈ es, x.Ok) (l1 : ts.length ≤ 64) (l2 : us.length ≤ 64) (l3 : ds.length ≤ 64) (l4 : es.length ≤ 64) (h : tabS ts ds = tabS us es) : ts = us ∧ ds = es := by
  simp only [tabS, List.append_assoc] at h
  obtain ⟨e1, h⟩ := cut_inj 1 (by decide) (b8 (nat_b8 l1)) (b8 (nat_b8 l2)) h
  have e1' : ts.length = us.length := by omega
  obtain ⟨h5, h⟩ := List.append_inj h (by rw [acs_len, acs_len, e1'])
  obtain ⟨e2, h⟩ := cut_inj 1 (by decide) (b8 (nat_b8 l3)) (b8 (nat_b8 l4)) h
  exact ⟨acs_inj _ _ h1 h2 e1' h5, dts_inj _ _ h3 h4 (by omega) h⟩
theorem flag_b (a b : Bool) : 0 ≤ flagS a b ∧ flagS a b ≤ 255 := by cases a <;> cases b <;> decide
theorem flag_inj {a b c d : Bool} (h : flagS a b = flagS c d) : a = c ∧ b = d := by revert h; cases a <;> cases b <;> cases c <;> cases d <;> decide
theorem chg_inj (c d : Cg) (hc : c.Ok) (hd : d.Ok) (l1 : c.xs.length ≤ 64) (l2 : c.ys.length ≤ 64) (l3 : d.xs.length ≤ 64) (l4 : d.ys.length ≤ 64) (h : chgS c = chgS d) : c = d := by
  simp only [chgS, List.append_assoc] at h
  obtain ⟨e1, h⟩ := cut_inj 4 (by decide) (b32 hc.1) (b32 hd.1) h
  obtain ⟨e2, h⟩ := cut_inj 2 (by decide) (b16 hc.2.1) (b16 hd.2.1) h
  obtain ⟨e3, h⟩ := cut_inj 1 (by decide) (b8 (flag_b _ _)) (b8 (flag_b _ _)) h
  obtain ⟨e4, h⟩ := cut_inj 1 (by decide) (b8 (nat_b8 l1)) (b8 (nat_b8 l3)) h
  obtain ⟨e5, h⟩ := List.append_inj h (by omega)
  obtain ⟨e6, e7⟩ := cut_inj 1 (by decide) (b8 (nat_b8 l2)) (b8 (nat_b8 l4)) h
  obtain ⟨f1, f2⟩ := flag_inj e3
  cases c; cases d; simp_all
theorem may_more (r : Rc) (h : mayS r = true) : (¬ (r.k = 2 ∨ r.k = 3) → r.c = ⟨0, 0, false, false, [], []⟩) ∧ (r.k ≠ 8 → r.ts = [] ∧ r.ds = []) := by
  simp only [mayS, mayF, nullB, Bool.and_eq_true, Bool.or_eq_true, Bool.not_eq_true', decide_eq_false_iff_not, decide_eq_true_eq] at h
  obtain ⟨⟨⟨⟨⟨⟨⟨⟨_, _⟩, h1⟩, h2⟩, _⟩, _⟩, _⟩, _⟩, _⟩ := h
  constructor
  · intro hk
    rcases h2 with h2 | h2
    · exact absurd h2 hk
    · obtain ⟨⟨⟨⟨⟨a, b⟩, c⟩, d⟩, e⟩, f⟩ := h2
      have e' := List.eq_nil_of_length_eq_zero e
      have f' := List.eq_nil_of_length_eq_zero f
      generalize r.c = q at *
      cases q; simp_all
  · intro hk
    rcases h1 with h1 | h1
    · exact absurd h1 hk
    · exact ⟨List.eq_nil_of_length_eq_zero h1.1, List.eq_nil_of_length_eq_zero h1.2⟩
theorem body_inj (a b : Rc) (ha : a.Ok) (hb : b.Ok) (ma : mayS a = true) (mb : mayS b = true) (h : bodyS a = bodyS b) : a = b := by
  have la := may_lens a ma
  have lb := may_lens b mb
  obtain ⟨na, ta⟩ := may_more a ma
  obtain ⟨nb, tb⟩ := may_more b mb
  simp only [bodyS, List.append_assoc] at h
  obtain ⟨e1, h⟩ := cut_inj 1 (by decide) (b8 ha.1) (b8 hb.1) h
  obtain ⟨e2, h⟩ := cut_inj 4 (by decide) (b32 ha.2.1) (b32 hb.2.1) h
  obtain ⟨e3, h⟩ := cut_inj 8 (by decide) (b64 ha.2.2.1) (b64 hb.2.2.1) h
  obtain ⟨e4, h⟩ := cut_inj 8 (by decide) (b64 ha.2.2.2.1) (b64 hb.2.2.2.1) h
  have hc : a.c = b.c := by
    by_cases hk : a.k = 2 ∨ a.k = 3
    · have h8 : ¬ a.k = 8 := by omega
      rw [if_pos hk, if_neg h8, if_pos (e1 ▸ hk), if_neg (e1 ▸ h8), List.append_nil, List.append_nil] at h
      exact chg_inj _ _ ha.2.2.2.2.1 hb.2.2.2.2.1 la.xs la.ys lb.xs lb.ys h
    · rw [na hk, nb (e1 ▸ hk)]
  have htd : a.ts = b.ts ∧ a.ds = b.ds := by
    by_cases hk : a.k = 8
    · have h8 : ¬ (a.k = 2 ∨ a.k = 3) := by omega
      rw [if_neg h8, if_pos hk, if_neg (e1 ▸ h8), if_pos (e1 ▸ hk), List.nil_append, List.nil_append] at h
      exact tab_inj _ _ _ _ ha.2.2.2.2.2.1 hb.2.2.2.2.2.1 ha.2.2.2.2.2.2 hb.2.2.2.2.2.2 la.ts lb.ts la.ds lb.ds h
    · have h1 := ta hk
      have h2 := tb (e1 ▸ hk)
      rw [h1.1, h1.2, h2.1, h2.2]; exact ⟨rfl, rfl⟩
  cases a; cases b; simp_all
theorem enc_inj (a b : Rc) (ha : a.Ok) (hb : b.Ok) (ma : mayS a = true) (mb : mayS b = true) (h : encS a = encS b) : a = b := by
  refine body_inj a b ha hb ma mb ?_
  unfold encS at h
  exact (List.append_inj h (by simp [putS_len])).2
end Go.Proofs.Ytbbphfhkedldmaa.Rec
