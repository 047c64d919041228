import Derived.Test.YtplombkpefacgaaDlC
import Derived.Test.YtplombkpefacgaaDkO
/- Both devices side by side: alike, does. -/
/- The program's device and the document's, side by side: they are alike. -/
namespace Go.Proofs.Ytplombkpefacgaa.Disk
open Go.ChangeShapes Go.WideShapes Go.ChangeAt Go.RowKit Go.IntWalk Go.Proofs.Mem
set_option linter.unusedVariables false
set_option linter.unusedSimpArgs false
/-- the same device, but for how many calls are left where none are counted -/
structure Eqd (D E : Dv) : Prop where
  f : D.f = E.f
  lim : D.lim = E.lim
  dead : D.dead = E.dead
  left : D.lim = true → D.left = E.left
theorem Eqd.refl (D : Dv) : Eqd D D := ⟨rfl, rfl, rfl, fun _ => rfl⟩
theorem Eqd.two {D E : Dv} (h : Eqd D E) : E = D ∨ (D.lim = false ∧ E = { D with left := E.left }) := by
  obtain ⟨f, l, x, d⟩ := D
  obtain ⟨f', l', x', d'⟩ := E
  obtain ⟨h1, h2, h3, h4⟩ := h
  simp only at h1 h2 h3 h4
  subst h1 h2 h3
  cases l
  · exact .inr ⟨rfl, rfl⟩
  · have := h4 rfl
    subst this
    exact .inl rfl
theorem Eqd.wrA {D E : Dv} (h : Eqd D E) (i : Nat) (N : Int) (xs : List Int) : Eqd (D.wrA i N xs) (E.wrA i N xs) := by
  rcases h.two with e | ⟨hl, e⟩
  · rw [e]; exact Eqd.refl _
  · rw [e]
    generalize E.left = x
    have e1 : ({ D with left := x } : Dv).has i N ↔ D.has i N := Iff.rfl
    unfold Dv.wrA
    by_cases hh : D.has i N ∧ xs.length = 128
    · rw [if_pos hh, if_pos ⟨e1.2 hh.1, hh.2⟩, wr_free hl, wr_free (D := { D with left := x }) hl]
      exact ⟨rfl, rfl, by show cntD D.lim D.left D.dead = cntD D.lim x D.dead; rw [hl]; simp [cntD, cntB], fun h => by rw [show (D.cnt.upd i N.toNat (((D.f i).getD N.toNat zSe).wr xs)).lim = D.lim from rfl, hl] at h; cases h⟩
    · rw [if_neg hh, if_neg (fun h => hh ⟨e1.1 h.1, h.2⟩)]
      exact ⟨rfl, rfl, rfl, fun h => by rw [hl] at h; cases h⟩
theorem Eqd.synA {D E : Dv} (h : Eqd D E) (i : Nat) : Eqd (D.synA i) (E.synA i) := by
  rcases h.two with e | ⟨hl, e⟩
  · rw [e]; exact Eqd.refl _
  · rw [e]
    generalize E.left = x
    unfold Dv.synA
    by_cases hi : i < 2
    · rw [if_pos hi, if_pos hi, syn_free hl, syn_free (D := { D with left := x }) hl]
      exact ⟨rfl, rfl, by show cntD D.lim D.left D.dead = cntD D.lim x D.dead; rw [hl]; simp [cntD, cntB], fun h => by rw [show (D.cnt.synTo i (D.f i).length).lim = D.lim from rfl, hl] at h; cases h⟩
    · rw [if_neg hi, if_neg hi]
      exact ⟨rfl, rfl, rfl, fun h => by rw [hl] at h; cases h⟩
theorem Eqd.crash {D E : Dv} (h : Eqd D E) (l : List Ft) : Eqd (D.crash l) (E.rcrash l) :=
  ⟨by show (D.crTo l 2 0).f = (E.crTo l 2 0).f; unfold Dv.crTo; rw [h.f], rfl, rfl, fun h => by cases h⟩
theorem Eqd.halt {D E : Dv} (h : Eqd D E) (n : Int) : Eqd { D with lim := true, left := n } { E with lim := true, left := n } := ⟨h.f, rfl, h.dead, fun _ => rfl⟩
theorem Eqd.has {D E : Dv} (h : Eqd D E) (i : Nat) (N : Int) : D.has i N ↔ E.has i N := by unfold Dv.has; rw [h.f]
theorem Eqd.wrE {D E : Dv} (h : Eqd D E) (i : Nat) (N : Int) (L : Nat) : D.wrE i N L = E.wrE i N L := by
  unfold Dv.wrE
  by_cases hh : D.has i N
  · rw [if_pos hh, if_pos ((h.has i N).1 hh)]
  · rw [if_neg hh, if_neg (fun e => hh ((h.has i N).2 e))]
/-- what Read tells, what Waits tells, of any file and sector -/
def Dv.rd (D : Dv) (i : Nat) (N : Int) : List Int := if D.has i N then ((D.f i).getD N.toNat zSe).cur else []
def Dv.rdE (D : Dv) (i : Nat) (N : Int) : Int := if D.has i N then 0 else 50
def Dv.wts (D : Dv) (i : Nat) (N : Int) : Nat := if D.has i N then ((D.f i).getD N.toNat zSe).wait.length else 0
def Dv.siz (D : Dv) (i : Nat) : Nat := if i < 2 then (D.f i).length else 0
theorem Eqd.rd {D E : Dv} (h : Eqd D E) (i : Nat) (N : Int) : D.rd i N = E.rd i N ∧ D.rdE i N = E.rdE i N ∧ D.wts i N = E.wts i N ∧ D.siz i = E.siz i := by
  unfold Dv.rd Dv.rdE Dv.wts Dv.siz
  by_cases hh : D.has i N
  · have hE := (h.has i N).1 hh
    rw [if_pos hh, if_pos hh, if_pos hh, if_pos hE, if_pos hE, if_pos hE, h.f]
    exact ⟨rfl, rfl, rfl, rfl⟩
  · have hE : ¬ E.has i N := fun e => hh ((h.has i N).2 e)
    rw [if_neg hh, if_neg hh, if_neg hh, if_neg hE, if_neg hE, if_neg hE, h.f]
    exact ⟨rfl, rfl, rfl, rfl⟩
theorem has_at {D : Dv} {i : Nat} {N : Int} (h : D.has i N) : i < 2 ∧ ∃ n : Nat, N = n ∧ (D.f i)[n]? = some ((D.f i).getD N.toNat zSe) ∧ (D.f i).getD N.toNat zSe ∈ D.f i := by
  refine ⟨h.1, N.toNat, by have := h.2.1; omega, ?_⟩
  have hl : N.toNat < (D.f i).length := by have := h.2; omega
  rw [List.getD_eq_getElem?_getD, List.getElem?_eq_getElem hl]
  exact ⟨rfl, List.getElem_mem hl⟩
theorem nil_ir (w : World) : IR w w.heap.size .u8 (.slice none 0 0) [] := by
  have := IR.of_own (k := .u8) (xs := ([] : List Int)) (World.ownsRow_nil w w.heap.size 5 1)
  exact this
theorem read_any {w : World} {S : Nat → Prop} {b : Nat} {D : Dv} {col : Nat → Nat} {fv : Nat → Value} {uv : Nat → List Pl} (h : DA w S b D col fv uv) (hw : D.Few 100000) (I N : Int) (i : Nat) (hI : I = i) (hi : i ≤ 255) :
    Calls Try.prog 31 #[.pointer (some ⟨b, 0, none⟩), .int .u8 I, .int .i64 N] w fun e w' => ∃ u, e = .returned (.tuple #[u, .int .u16 (D.rdE i N)]) ∧ IR w' w'.heap.size .u8 u (D.rd i N) ∧ Bytes (D.rd i N) ∧ Below w.heap.size w w' := by
  subst hI
  unfold Dv.rdE Dv.rd
  by_cases hh : D.has i N
  · rw [if_pos hh, if_pos hh]
    obtain ⟨hi2, n, rfl, hs, hm⟩ := has_at hh
    have hby := cur_bytes h hi2 hs
    have hcl : ((D.f i).getD ((n : Int)).toNat zSe).cur.length = 128 := by
      obtain ⟨g, cap, C, p, s', sp⟩ := (h.file i hi2).spot n (List.getElem?_eq_some_iff.1 hs).1
      have e : s' = (D.f i).getD ((n : Int)).toNat zSe := by have := sp.hs; rw [hs] at this; injection this with this; exact this.symm
      rw [← e]; exact Se.cur_len sp.sec.len sp.sec.lens
    refine (read_yes h i hi2 n _ hs (hw i hi2 _ hm) n rfl).mono ?_
    rintro e w' ⟨u, rfl, hu, hb⟩
    exact ⟨u, rfl, own_ir' hu hcl, hby, hb⟩
  · rw [if_neg hh, if_neg hh]
    refine (read_no h i hi N hh).mono ?_
    rintro e w' ⟨rfl, rfl⟩
    exact ⟨_, rfl, nil_ir w, (fun x hx => by cases hx), Below.refl _ _⟩
theorem rread_any {w : World} {S : Nat → Prop} {b : Nat} {D : Dv} {col : Nat → Nat} {fv : Nat → Value} {uv : Nat → List Pl} (h : DR w S b D col fv uv) (hw : D.Few 100000) (I N : Int) (i : Nat) (hI : I = i) (hi : i ≤ 255) :
    Calls Try.prog 33 #[.pointer (some ⟨b, 0, none⟩), .int .u8 I, .int .i64 N] w fun e w' => ∃ u, e = .returned (.tuple #[u, .int .i64 (D.rdE i N)]) ∧ IR w' w'.heap.size .u8 u (D.rd i N) ∧ Bytes (D.rd i N) ∧ Below w.heap.size w w' := by
  subst hI
  unfold Dv.rdE Dv.rd
  by_cases hh : D.has i N
  · rw [if_pos hh, if_pos hh]
    obtain ⟨hi2, n, rfl, hs, hm⟩ := has_at hh
    have hby := cur_bytes h hi2 hs
    have hcl : ((D.f i).getD ((n : Int)).toNat zSe).cur.length = 128 := by
      obtain ⟨g, cap, C, p, s', sp⟩ := (h.file i hi2).spot n (List.getElem?_eq_some_iff.1 hs).1
      have e : s' = (D.f i).getD ((n : Int)).toNat zSe := by have := sp.hs; rw [hs] at this; injection this with this; exact this.symm
      rw [← e]; exact Se.cur_len sp.sec.len sp.sec.lens
    refine (rread_yes h i hi2 n _ hs (hw i hi2 _ hm) n rfl).mono ?_
    rintro e w' ⟨u, rfl, hu, hb⟩
    exact ⟨u, rfl, own_ir' hu hcl, hby, hb⟩
  · rw [if_neg hh, if_neg hh]
    refine (rread_no h i hi N hh).mono ?_
    rintro e w' ⟨rfl, rfl⟩
    exact ⟨_, rfl, nil_ir w, (fun x hx => by cases hx), Below.refl _ _⟩
theorem waits_any {w : World} {S : Nat → Prop} {b : Nat} {D : Dv} {col : Nat → Nat} {fv : Nat → Value} {uv : Nat → List Pl} (h : DA w S b D col fv uv) (I N : Int) (i : Nat) (hI : I = i) (hi : i ≤ 255) :
    Calls Try.prog 23 #[.pointer (some ⟨b, 0, none⟩), .int .u8 I, .int .i64 N] w fun e w' => e = .returned (.int .i64 (D.wts i N)) ∧ w = w' := by
  subst hI
  unfold Dv.wts
  by_cases hh : D.has i N
  · rw [if_pos hh]
    obtain ⟨hi2, n, rfl, hs, hm⟩ := has_at hh
    exact waits_yes h i hi2 n _ hs n rfl
  · rw [if_neg hh]
    exact waits_no h i hi N hh
theorem rwaits_any {w : World} {S : Nat → Prop} {b : Nat} {D : Dv} {col : Nat → Nat} {fv : Nat → Value} {uv : Nat → List Pl} (h : DR w S b D col fv uv) (I N : Int) (i : Nat) (hI : I = i) (hi : i ≤ 255) :
    Calls Try.prog 36 #[.pointer (some ⟨b, 0, none⟩), .int .u8 I, .int .i64 N] w fun e w' => e = .returned (.int .i64 (D.wts i N)) ∧ w = w' := by
  subst hI
  unfold Dv.wts
  by_cases hh : D.has i N
  · rw [if_pos hh]
    obtain ⟨hi2, n, rfl, hs, hm⟩ := has_at hh
    exact rwaits_yes h i hi2 n _ hs n rfl
  · rw [if_neg hh]
    exact rwaits_no h i hi N hh
theorem siz_any {w : World} {S : Nat → Prop} {b : Nat} {D : Dv} {col : Nat → Nat} {fv : Nat → Value} {uv : Nat → List Pl} (h : DA w S b D col fv uv) (I : Int) (i : Nat) (hI : I = i) (hi : i ≤ 255) :
    Calls Try.prog 22 #[.pointer (some ⟨b, 0, none⟩), .int .u8 I] w fun e w' => e = .returned (.int .i64 (D.siz i)) ∧ w = w' := by
  subst hI
  obtain ⟨A, L, c, f1, f2⟩ := h.formv i
  have e : D.siz i = L := by
    unfold Dv.siz
    by_cases h2 : i < 2
    · rw [if_pos h2]; exact (f1 h2).2.symm
    · rw [if_neg h2]; exact (f2 h2).2.1.symm
  rw [e]
  exact size_any w b fv D.lim D.left D.dead h.box i hi A L c (fun h => (f1 h).1) f2
theorem rsiz_any {w : World} {S : Nat → Prop} {b : Nat} {D : Dv} {col : Nat → Nat} {fv : Nat → Value} {uv : Nat → List Pl} (h : DR w S b D col fv uv) (I : Int) (i : Nat) (hI : I = i) (hi : i ≤ 255) :
    Calls Try.prog 37 #[.pointer (some ⟨b, 0, none⟩), .int .u8 I] w fun e w' => e = .returned (.int .i64 (D.siz i)) ∧ w = w' := by
  subst hI
  obtain ⟨A, L, c, f1, f2⟩ := h.formv i
  have e : D.siz i = L := by
    unfold Dv.siz
    by_cases h2 : i < 2
    · rw [if_pos h2]; exact (f1 h2).2.symm
    · rw [if_neg h2]; exact (f2 h2).2.1.symm
  rw [e]
  exact rsize_any w b fv D.lim D.left D.dead h.box i hi A L c (fun h => (f1 h).1) (fun h => (f2 h).2.1)
abbrev Pq (K : Nat → Prop) (B0 : Nat) (w : World) (a b : Nat) (D E : Dv) : Prop := PairT 68 65 74 72 K B0 w a b D E
/-- what is written elsewhere leaves both -/
theorem PairT.away {tS tD tS' tD' : TypeId} {K T : Nat → Prop} {B0 a b : Nat} {w w' : World} {D E : Dv} (h : PairT tS tD tS' tD' K B0 w a b D E) (hf : Fr T w w') (hT : ∀ x, T x → K x) : PairT tS tD tS' tD' K B0 w' a b D E := by
  obtain ⟨hk, hB, SA, SB, ca, fa, ua, cb, fb, ub, ha, hb', hd, h1, h2⟩ := h
  exact ⟨fun x hx => Nat.lt_of_lt_of_le (hk x hx) hf.size, Nat.le_trans hB hf.size, SA, SB, ca, fa, ua, cb, fb, ub, ha.far hf (fun g hg ht => (h1 g hg).2 (hT g ht)), hb'.far hf (fun g hg ht => (h2 g hg).2 (hT g ht)), hd, h1, h2⟩
set_option maxRecDepth 100000 in
set_option maxHeartbeats 16000000 in
theorem alike_any {K : Nat → Prop} {B0 a b : Nat} {w : World} {D E : Dv} (h : Pq K B0 w a b D E) (he : Eqd D E) (hD : D.Few 100000) (hE : E.Few 100000) :
    Calls Try.prog 14 #[.pointer (some ⟨a, 0, none⟩), .pointer (some ⟨b, 0, none⟩)] w fun e w' => e = .returned (.bool true) ∧ Pq K B0 w' a b D E ∧ Below w.heap.size w w' := by
  have HE := Lib.hid he
  have HP := Lib.hid h
  have FD := Lib.hid hD
  have FE := Lib.hid hE
  clear h he hD hE
  go_enter Try.func14, Try.ntmps14
  go_wp2
  go_loopw [5] (fun x wr => ∃ i : Nat, i ≤ 2 ∧ x = .int .u8 i ∧ Hid (Pq K B0 wr a b D E) ∧ Hid (Below w.heap.size w wr)) (fun x _ => 2 - (intOf x).toNat)
  case atStart => exact ⟨0, by decide, rfl, HP, Lib.hid (Below.refl _ _)⟩
  case round =>
    obtain ⟨i, hi, rfl, HR, HB⟩ := hrel
    by_cases hlt : i < 2
    · have di : decide ((i : Int) < 2) = true := by simp; omega
      have HI := Lib.hid hlt
      have hsz : D.siz i ≤ 4096 := by
        obtain ⟨SA, ca, fa, ua, ha⟩ := HR.out.one
        unfold Dv.siz
        rw [if_pos hlt]
        exact ha.most i hlt
      go_wp2
      go_loopw [6] (fun x wr => ∃ j : Nat, j ≤ D.siz i ∧ x = .int .i64 j ∧ Hid (Pq K B0 wr a b D E) ∧ Hid (Below w.heap.size w wr)) (fun x _ => D.siz i - (intOf x).toNat)
      case atStart => exact ⟨0, Nat.zero_le _, rfl, HR, HB⟩
      case round =>
        clear HR HB
        obtain ⟨j, hj, rfl, HR, HB⟩ := hrel
        by_cases hlt2 : j < D.siz i
        · have hb2 : i ≤ 255 := by omega
          have dj : decide ((j : Int) < (D.siz i : Int)) = true := by simp; omega
          have HJ := Lib.hid hlt2
          go_wp2_with fail
          obtain ⟨SB, cb, fb, ub, hb⟩ := HR.out.swap.one
          (with_reducible refine (rsiz_any hb i i rfl (by omega)).mono ?_)
          rintro e w1 ⟨rfl, rfl⟩
          rw [← (HE.out.rd i 0).2.2.2]
          clear hb
          go_wp2_with fail
          obtain ⟨SA, ca, fa, ua, ha⟩ := HR.out.one
          (with_reducible refine (read_any ha FD.out i j i rfl (by omega)).mono ?_)
          rintro e w6 ⟨u6, rfl, o6, y6, hb6⟩
          have HP6 := Lib.hid (HR.out.later hb6)
          have O6 := Lib.hid o6
          have Y6 := Lib.hid y6
          have HB6 := Lib.hid (step_ HB.out hb6)
          clear ha o6 hb6 y6
          go_wp2_with fail
          obtain ⟨SB, cb, fb, ub, hb⟩ := HP6.out.swap.one
          (with_reducible refine (rread_any hb FE.out i j i rfl (by omega)).mono ?_)
          rintro e w7 ⟨u7, rfl, o7, y7, hb7⟩
          have HP7 := Lib.hid (HP6.out.later hb7)
          have I6 := Lib.hid (O6.out.below hb7)
          have I7 := Lib.hid o7
          have Y7 := Lib.hid y7
          have HB7 := Lib.hid (step_ HB6.out hb7)
          clear hb o7 hb7 y7
          go_wp2_with fail
          obtain ⟨SA, ca, fa, ua, ha⟩ := HP7.out.one
          have WA := Lib.hid (waits_any ha i j i rfl hb2)
          obtain ⟨SB, cb, fb, ub, hb⟩ := HP7.out.swap.one
          have WB := Lib.hid (rwaits_any hb i j i rfl hb2)
          rw [← (HE.out.rd i j).2.2.1] at WB
          clear ha hb
          (with_reducible refine (Blk.same_any _ _ _ _ _ _ _ I6.out I7.out Y6.out Y7.out).mono ?_)
          rintro e w8 ⟨rfl, rfl⟩
          rw [decide_eq_true (HE.out.rd i j).1]
          go_wp2_with (first
            | ((with_reducible refine WA.out.mono ?_); rintro e w9 ⟨rfl, rfl⟩)
            | ((with_reducible refine WB.out.mono ?_); rintro e w9 ⟨rfl, rfl⟩)
            | fail)
          go_roundw
          case rel => exact ⟨j + 1, HJ.out, by go_num, HP7, HB7⟩
          case measure => simp [intOf]; omega
        · have ej : j = D.siz i := by omega
          have dj : decide ((j : Int) < (D.siz i : Int)) = false := by simp; omega
          clear hj hlt2
          go_wp2_with fail
          obtain ⟨SB, cb, fb, ub, hb⟩ := HR.out.swap.one
          (with_reducible refine (rsiz_any hb i i rfl (by omega)).mono ?_)
          rintro e w1 ⟨rfl, rfl⟩
          rw [← (HE.out.rd i 0).2.2.2]
          clear hb
          go_wp2_with fail
          obtain ⟨SA, ca, fa, ua, ha⟩ := HR.out.one
          (with_reducible refine (image_at i ha i rfl HI.out).mono ?_)
          rintro e w6 ⟨v6, l6, rfl, t6, m6, hb6⟩
          have Y6 := Lib.hid (img_bytes ha HI.out m6)
          have T6 := Lib.hid t6
          have M6 := Lib.hid m6
          have HP6 := Lib.hid (HR.out.later hb6)
          have HB6 := Lib.hid (step_ HB.out hb6)
          clear ha t6 m6 hb6
          go_wp2_with fail
          obtain ⟨SB, cb, fb, ub, hb⟩ := HP6.out.swap.one
          (with_reducible refine (rimage_yes hb i HI.out).mono ?_)
          rintro e w7 ⟨v7, l7, rfl, t7, m7, hb7⟩
          have S6 := Lib.hid ((T6.out.later hb7).sr Y6.out)
          have S7 := Lib.hid (t7.sr (img_bytes hb HI.out m7))
          have HP7 := Lib.hid (HP6.out.later hb7)
          have HB7 := Lib.hid (step_ HB6.out hb7)
          have EQ := Lib.hid (show (l6.map (·.2)).map (·.2) = (l7.map (·.2)).map (·.2) from by
            have e6 : (l6.map (·.2)).map (·.2) = l6.map (·.2.2) := by rw [List.map_map]; rfl
            have e7 : (l7.map (·.2)).map (·.2) = l7.map (·.2.2) := by rw [List.map_map]; rfl
            rw [e6, e7, M6.out, m7, HE.out.f])
          clear hb t7 m7 hb7
          go_wp2_with fail
          (with_reducible refine (Blk.same_blocks _ _ _ _ _ _ _ S6.out S7.out).mono ?_)
          rintro e w8 ⟨rfl, d, rfl⟩
          rw [decide_eq_true EQ.out]
          have HP8 := Lib.hid (HP7.out.later (below_drewN (Below.refl _ _) d))
          have HB8 := Lib.hid (below_drewN HB7.out d)
          obtain ⟨w9, hw9⟩ : ∃ w9, w7.drewN d = w9 := ⟨_, rfl⟩
          rw [hw9] at HP8 HB8 ⊢
          clear hw9
          obtain ⟨SA, ca, fa, ua, ha⟩ := HP8.out.one
          have WA := Lib.hid (siz_any ha i i rfl (by omega))
          obtain ⟨SB, cb, fb, ub, hb⟩ := HP8.out.swap.one
          have WB := Lib.hid (rsiz_any hb i i rfl (by omega))
          rw [← (HE.out.rd i 0).2.2.2] at WB
          clear ha hb
          go_wp2_with (first
            | ((with_reducible refine WA.out.mono ?_); rintro e w9 ⟨rfl, rfl⟩)
            | ((with_reducible refine WB.out.mono ?_); rintro e w9 ⟨rfl, rfl⟩)
            | fail)
          go_roundw
          case rel => exact ⟨i + 1, by omega, by go_num, HP8, HB8⟩
          case measure => simp [intOf]; omega
    · have hi2 : i = 2 := by omega
      subst hi2
      go_wp2_with fail
      obtain ⟨SA, ca, fa, ua, ha⟩ := HR.out.one
      (with_reducible refine (halted_any _ a fa D.lim D.left D.dead ha.box).mono ?_)
      rintro e w1 ⟨rfl, rfl⟩
      clear ha
      go_wp2_with fail
      obtain ⟨SB, cb, fb, ub, hb⟩ := HR.out.swap.one
      (with_reducible refine (rhalted_any _ b fb E.lim E.left E.dead hb.box).mono ?_)
      rintro e w1 ⟨rfl, rfl⟩
      rw [← HE.out.dead]
      clear hb
      go_wp2
      go_ret
      exact ⟨by simp, HR.out, HB.out⟩
end Go.Proofs.Ytplombkpefacgaa.Disk

/- One call on both devices. -/
namespace Go.Proofs.Ytplombkpefacgaa.Disk
open Go.ChangeShapes Go.WideShapes Go.ChangeAt Go.RowKit Go.IntWalk Go.Proofs.Mem Go.Proofs.Each
set_option linter.unusedVariables false
set_option linter.unusedSimpArgs false
/-- a call to the first device -/
theorem PairT.call {tS tD tS' tD' : TypeId} {K : Nat → Prop} {B0 a b : Nat} {w : World} {D E : Dv} (h : PairT tS tD tS' tD' K B0 w a b D E) {fn : Nat} {args : Array Value} {r : Value} (D' : Dv)
    (c : ∀ S c f u, DvAt tS tD w S a D c f u → (∀ x, S x → B0 ≤ x ∧ ¬ K x) → Calls Try.prog fn args w fun e w' => e = .returned r ∧ (∃ c' f' u', DvAt tS tD w' (growS w w' S) a D' c' f' u') ∧ Fr S w w') :
    Calls Try.prog fn args w fun e w' => e = .returned r ∧ PairT tS tD tS' tD' K B0 w' a b D' E ∧ Below B0 w w' ∧ Fr (fun x => ¬ K x) w w' := by
  obtain ⟨S, c0, f, u, ha, hS, st⟩ := h.step
  refine (c S c0 f u ha hS).mono ?_
  rintro e w' ⟨rfl, hd, hf⟩
  exact ⟨rfl, st _ _ hd hf⟩
theorem PairT.call2 {tS tD tS' tD' : TypeId} {K : Nat → Prop} {B0 a b : Nat} {w : World} {D E : Dv} (h : PairT tS tD tS' tD' K B0 w a b D E) {fn : Nat} {args : Array Value} {r : Value} (E' : Dv)
    (c : ∀ S c f u, DvAt tS' tD' w S b E c f u → (∀ x, S x → B0 ≤ x ∧ ¬ K x) → Calls Try.prog fn args w fun e w' => e = .returned r ∧ (∃ c' f' u', DvAt tS' tD' w' (growS w w' S) b E' c' f' u') ∧ Fr S w w') :
    Calls Try.prog fn args w fun e w' => e = .returned r ∧ PairT tS tD tS' tD' K B0 w' a b D E' ∧ Below B0 w w' ∧ Fr (fun x => ¬ K x) w w' := by
  refine (h.swap.call E' c).mono ?_
  rintro e w' ⟨h1, h2, h3⟩
  exact ⟨h1, h2.swap, h3⟩
section
variable {K : Nat → Prop} {B0 a b : Nat} {w : World} {D E : Dv}
theorem qa_halt (h : Pq K B0 w a b D E) (n : Int) (hn : n ≤ 9223372036854775807) :
    Calls Try.prog 28 #[.pointer (some ⟨a, 0, none⟩), .int .i64 n] w fun e w' => e = .returned (.tuple #[]) ∧ Pq K B0 w' a b { D with lim := true, left := max n 0 } E ∧ Below B0 w w' ∧ Fr (fun x => ¬ K x) w w' :=
  h.call _ fun S c f u ha hS => (halt_any w a f D.lim D.left D.dead ha.box n).mono (by
    rintro e w' ⟨rfl, hb, hf⟩
    exact ⟨rfl, ⟨c, f, u, (ha.head hf true (max n 0) D.dead (by omega) hb).grow⟩, hf.mono (fun k _ hk => by rw [hk]; exact ha.here)⟩)
theorem qb_halt (h : Pq K B0 w a b D E) (n : Int) (hn : n ≤ 9223372036854775807) :
    Calls Try.prog 32 #[.pointer (some ⟨b, 0, none⟩), .int .i64 n] w fun e w' => e = .returned (.tuple #[]) ∧ Pq K B0 w' a b D { E with lim := true, left := max n 0 } ∧ Below B0 w w' ∧ Fr (fun x => ¬ K x) w w' :=
  h.call2 _ fun S c f u ha hS => (rhalt_any w b f E.lim E.left E.dead ha.box n).mono (by
    rintro e w' ⟨rfl, hb, hf⟩
    exact ⟨rfl, ⟨c, f, u, (ha.head hf true (max n 0) E.dead (by omega) hb).grow⟩, hf.mono (fun k _ hk => by rw [hk]; exact ha.here)⟩)
theorem qa_sync (h : Pq K B0 w a b D E) (I : Int) (i : Nat) (hI : I = i) (hi : i ≤ 255) (hw : D.Few 100000) :
    Calls Try.prog 21 #[.pointer (some ⟨a, 0, none⟩), .int .u8 I] w fun e w' => e = .returned (.tuple #[]) ∧ Pq K B0 w' a b (D.synA i) E ∧ Below B0 w w' ∧ Fr (fun x => ¬ K x) w w' :=
  h.call _ fun S c f u ha hS => (sync_any ha I i hI hi hw).mono (by
    rintro e w' ⟨rfl, ⟨c', u', hd⟩, hf⟩
    exact ⟨rfl, ⟨c', f, u', hd⟩, hf⟩)
theorem qb_sync (h : Pq K B0 w a b D E) (I : Int) (i : Nat) (hI : I = i) (hi : i ≤ 255) (hw : E.Few 100000) :
    Calls Try.prog 34 #[.pointer (some ⟨b, 0, none⟩), .int .u8 I] w fun e w' => e = .returned (.tuple #[]) ∧ Pq K B0 w' a b D (E.synA i) ∧ Below B0 w w' ∧ Fr (fun x => ¬ K x) w w' :=
  h.call2 _ fun S c f u ha hS => (rsync_any ha I i hI hi hw).mono (by
    rintro e w' ⟨rfl, ⟨c', u', hd⟩, hf⟩
    exact ⟨rfl, ⟨c', f, u', hd⟩, hf⟩)
theorem qa_crash (h : Pq K B0 w a b D E) (v : Value) (l : List Ft) (hv : ∀ w', Below B0 w w' → Fr (fun x => ¬ K x) w w' → SS cFt 4 w' w'.heap.size v l) (ho : ∀ x ∈ l, x.Ok) (hl : l.length ≤ 100000) (hw : D.Few 100000) :
    Calls Try.prog 20 #[.pointer (some ⟨a, 0, none⟩), v] w fun e w' => e = .returned (.tuple #[]) ∧ Pq K B0 w' a b (D.crash l) E ∧ Below B0 w w' ∧ Fr (fun x => ¬ K x) w w' :=
  h.call _ fun S c f u ha hS => (crash_yes ha v l (hv w (Below.refl _ _) (Fr.refl _ _)) ho hl hw).mono (by
    rintro e w' ⟨rfl, ⟨c', u', hd⟩, hf⟩
    exact ⟨rfl, ⟨c', f, u', hd⟩, hf⟩)
theorem qb_crash (h : Pq K B0 w a b D E) (v : Value) (l : List Ft) (hv : ∀ w', Below B0 w w' → Fr (fun x => ¬ K x) w w' → SS cFt 4 w' w'.heap.size v l) (ho : ∀ x ∈ l, x.Ok) (hl : l.length ≤ 100000) (hw : E.Few 100000) :
    Calls Try.prog 35 #[.pointer (some ⟨b, 0, none⟩), v] w fun e w' => e = .returned (.tuple #[]) ∧ Pq K B0 w' a b D (E.rcrash l) ∧ Below B0 w w' ∧ Fr (fun x => ¬ K x) w w' :=
  h.call2 _ fun S c f u ha hS => (rcrash_yes ha v l (fun w' hf => hv w' (hf.to_below (fun x hx => (hS x hx).1) h.base) (hf.mono (fun k _ hk => (hS k hk).2))) ho hl hw).mono (by
    rintro e w' ⟨rfl, ⟨c', u', hd⟩, hf⟩
    exact ⟨rfl, ⟨c', f, u', hd⟩, hf⟩)
theorem qa_write (h : Pq K B0 w a b D E) (I N : Int) (i : Nat) (hI : I = i) (hi : i ≤ 255) (hw : D.Few 100000) (dv : Value) (xs : List Int) (hdf : ∀ w', Fr (fun x => ¬ K x) w w' → IR w' w'.heap.size .u8 dv xs) (hxb : Bytes xs) :
    Calls Try.prog 27 #[.pointer (some ⟨a, 0, none⟩), .int .u8 I, .int .i64 N, dv] w fun e w' => e = .returned (.int .u16 (D.wrE i N xs.length)) ∧ Pq K B0 w' a b (D.wrA i N xs) E ∧ Below B0 w w' ∧ Fr (fun x => ¬ K x) w w' :=
  h.call _ fun S c f u ha hS => (write_any ha I N i hI hi hw dv xs (fun w' hf => hdf w' (hf.mono (fun k _ hk => (hS k hk).2))) hxb).mono (by
    rintro e w' ⟨rfl, ⟨c', u', hd⟩, hf⟩
    exact ⟨rfl, ⟨c', f, u', hd⟩, hf⟩)
theorem qb_write (h : Pq K B0 w a b D E) (I N : Int) (i : Nat) (hI : I = i) (hi : i ≤ 255) (hw : E.Few 100000) (dv : Value) (xs : List Int) (hdf : ∀ w', Fr (fun x => ¬ K x) w w' → IR w' w'.heap.size .u8 dv xs) (hxb : Bytes xs) :
    Calls Try.prog 39 #[.pointer (some ⟨b, 0, none⟩), .int .u8 I, .int .i64 N, dv] w fun e w' => e = .returned (.int .i64 (E.wrE i N xs.length)) ∧ Pq K B0 w' a b D (E.wrA i N xs) ∧ Below B0 w w' ∧ Fr (fun x => ¬ K x) w w' :=
  h.call2 _ fun S c f u ha hS => (rwrite_any ha I N i hI hi hw dv xs (fun w' hf => hdf w' (hf.mono (fun k _ hk => (hS k hk).2))) hxb).mono (by
    rintro e w' ⟨rfl, ⟨c', u', hd⟩, hf⟩
    exact ⟨rfl, ⟨c', f, u', hd⟩, hf⟩)
theorem row_stay {base : Nat} {v : Value} {xs : List Int} (h : w.ownsRow base 5 1 v xs.length (xs.map (.int .u8))) (hK : ∀ g, v.ownBlock = some g → K g) {w' : World} (hf : Fr (fun x => ¬ K x) w w') : IR w' w'.heap.size .u8 v xs :=
  IR.of_own (own_frS h hf (fun k hk hs => hs (hK k hk)))
end
/-- what a call makes of the program's device; of the document's -/
def doD (D : Dv) (o : Opn) : Dv :=
  if o.k % 9 = 8 then { D with lim := true, left := max o.s 0 } else if o.k % 9 = 5 then D.synA o.f.toNat else if o.k % 9 = 6 then D.crash o.fs
  else if o.k % 9 < 3 then D.wrA o.f.toNat o.s (fullS o.xs) else if o.k % 9 = 3 then D.wrA o.f.toNat o.s o.xs else D
def doE (D : Dv) (o : Opn) : Dv :=
  if o.k % 9 = 8 then { D with lim := true, left := max o.s 0 } else if o.k % 9 = 5 then D.synA o.f.toNat else if o.k % 9 = 6 then D.rcrash o.fs
  else if o.k % 9 < 3 then D.wrA o.f.toNat o.s (fullS o.xs) else if o.k % 9 = 3 then D.wrA o.f.toNat o.s o.xs else D
theorem Eqd.does {D E : Dv} (h : Eqd D E) (o : Opn) : Eqd (doD D o) (doE E o) := by
  unfold doD doE
  split
  · exact h.halt _
  · split
    · exact h.synA _
    · split
      · exact h.crash _
      · split
        · exact h.wrA _ _ _
        · split
          · exact h.wrA _ _ _
          · exact h
set_option maxRecDepth 100000 in
set_option maxHeartbeats 16000000 in
theorem does_any {K : Nat → Prop} {B0 a b : Nat} {w : World} {D E : Dv} (h : Pq K B0 w a b D E) (he : Eqd D E) (hD : D.Few 100000) (hE : E.Few 100000) (o : Opn) (A1 : Option Addr) (L1 c1 : Nat) (A2 : Option Addr) (L2 c2 : Nat)
    (ho : o.Ok) (hx : ∀ w', Below B0 w w' → IR w' B0 .u8 (.slice A1 L1 c1) o.xs) (hs : ∀ w', Below B0 w w' → SS cFt 4 w' B0 (.slice A2 L2 c2) o.fs) (hxl : o.xs.length ≤ 100000) (hsl : o.fs.length ≤ 100000) :
    Calls Try.prog 13 #[.pointer (some ⟨a, 0, none⟩), .pointer (some ⟨b, 0, none⟩), .agg (opC o (.slice A1 L1 c1) (.slice A2 L2 c2))] w fun e w' => e = .returned (.bool true) ∧ Pq K B0 w' a b (doD D o) (doE E o) ∧ Below B0 w w' := by
  obtain ⟨f, hfi⟩ : ∃ f : Nat, o.f = f := ⟨o.f.toNat, by have := ho.2.1; omega⟩
  have hfn : o.f.toNat = f := by omega
  have hf255 : f ≤ 255 := by have := ho.2.1; omega
  have hm9 : o.k.tmod 9 = o.k % 9 := Int.tmod_eq_emod_of_nonneg ho.1.1
  have hmr : 0 ≤ o.k % 9 ∧ o.k % 9 < 9 := by omega
  have hbase := h.base
  obtain ⟨w1, hw1⟩ : ∃ w1, w1 = w.alloc (.cells (opC o (.slice A1 L1 c1) (.slice A2 L2 c2)) 33) := ⟨_, rfl⟩
  have BO := Lib.hid (show Box w1 w.heap.size (opC o (.slice A1 L1 c1) (.slice A2 L2 c2)) 33 by rw [hw1]; exact Box.new _ _ _)
  have P1 := Lib.hid (show Pq (fun x => K x ∨ x = w.heap.size) B0 w1 a b D E by rw [hw1]; exact h.fresh _)
  have HB1 := Lib.hid (show Below B0 w w1 by rw [hw1]; exact (new_ (Below.refl _ _) _).mono hbase)
  have HS1 := Lib.hid (show B0 ≤ w1.heap.size from Nat.le_trans hbase HB1.out.size)
  have kb := BO.out.cell
  have HEQ := Lib.hid he
  have FD := Lib.hid hD
  have FE := Lib.hid hE
  have HX := Lib.hid hx
  have HSS := Lib.hid hs
  have HXL := Lib.hid hxl
  have HSL := Lib.hid hsl
  have HXB := Lib.hid ho.2.2.2.1
  have HFO := Lib.hid ho.2.2.2.2
  have HFI := Lib.hid hfi
  have HF := Lib.hid hf255
  have HSO := Lib.hid ho.2.2.1
  have HDD := Lib.hid (he.does o)
  have FIN : Hid (∀ W D2 E2, Pq (fun x => K x ∨ x = w.heap.size) B0 W a b D2 E2 → Below B0 w1 W → Pq K B0 W a b D2 E2 ∧ Below B0 w W) := Lib.hid (fun W D2 E2 p q => ⟨p.less (fun x hx => .inl hx), HB1.out.trans q⟩)
  obtain ⟨m, hm⟩ : ∃ m, m = o.k % 9 := ⟨_, rfl⟩
  rw [← hm] at hm9 hmr
  have EDO : Hid (doD D o = if m = 8 then { D with lim := true, left := max o.s 0 } else if m = 5 then D.synA f else if m = 6 then D.crash o.fs else if m < 3 then D.wrA f o.s (fullS o.xs) else if m = 3 then D.wrA f o.s o.xs else D) := Lib.hid (by rw [hm, ← hfn]; rfl)
  have EEO : Hid (doE E o = if m = 8 then { E with lim := true, left := max o.s 0 } else if m = 5 then E.synA f else if m = 6 then E.rcrash o.fs else if m < 3 then E.wrA f o.s (fullS o.xs) else if m = 3 then E.wrA f o.s o.xs else E) := Lib.hid (by rw [hm, ← hfn]; rfl)
  obtain ⟨D2, hD2⟩ : ∃ D2, D2 = doD D o := ⟨_, rfl⟩
  obtain ⟨E2, hE2⟩ : ∃ E2, E2 = doE E o := ⟨_, rfl⟩
  rw [← hD2, ← hE2] at HDD
  rw [← hD2] at EDO
  rw [← hE2] at EEO
  rw [← hD2, ← hE2]
  have hcs : m = 8 ∨ m = 5 ∨ m = 6 ∨ m = 4 ∨ m = 7 ∨ m = 0 ∨ m = 1 ∨ m = 2 ∨ m = 3 := by omega
  clear h he hD hE hx hs hxl hsl ho hfn hf255 hm hD2 hE2 hmr
  rcases hcs with rfl | rfl | rfl | rfl | rfl | rfl | rfl | rfl | rfl
  · have e1 := EDO.out
    have e2 := EEO.out
    simp only [if_true] at e1 e2
    have CA := Lib.hid (qa_halt P1.out o.s HSO.out.2)
    rw [← e1] at CA
    have E2E := Lib.hid e2
    clear e1 e2 EDO EEO
    go_enter Try.func13, Try.ntmps13
    go_wp2_with fail
    rw [← hw1]
    (with_reducible refine CA.out.mono ?_)
    rintro e w2 ⟨rfl, p2, b2, f2⟩
    clear hw1 kb
    have P2 := Lib.hid p2
    have B2 := Lib.hid b2
    have BO2 := Lib.hid (BO.out.fr f2 (fun h => h (.inr rfl)))
    have kb2 := BO2.out.cell
    have CB := Lib.hid (qb_halt P2.out o.s HSO.out.2)
    rw [← E2E.out] at CB
    clear p2 b2 f2
    go_wp2_with fail
    (with_reducible refine CB.out.mono ?_)
    rintro e w3 ⟨rfl, p3, b3, f3⟩
    have P3 := Lib.hid p3
    have B3 := Lib.hid (B2.out.trans b3)
    clear p3 b3 f3 kb2
    obtain ⟨SA, ca, fa, ua, ha⟩ := P3.out.one
    have HA := Lib.hid (halted_any w3 a fa D2.lim D2.left D2.dead ha.box)
    obtain ⟨SB, cb, fb, ub, hb⟩ := P3.out.swap.one
    have HBH := Lib.hid (rhalted_any w3 b fb E2.lim E2.left E2.dead hb.box)
    rw [← HDD.out.dead] at HBH
    clear ha hb
    go_wp2_with fail
    (with_reducible refine HA.out.mono ?_)
    rintro e w9 ⟨rfl, rfl⟩
    go_wp2_with fail
    (with_reducible refine HBH.out.mono ?_)
    rintro e w9 ⟨rfl, rfl⟩
    go_wp2
    go_ret
    exact ⟨by simp, FIN.out _ _ _ P3.out B3.out⟩
  · have e1 := EDO.out
    have e2 := EEO.out
    simp only [Int.reduceEq, if_true, if_false, reduceIte] at e1 e2
    have CA := Lib.hid (qa_sync P1.out f f rfl HF.out FD.out)
    rw [← e1] at CA
    have E2E := Lib.hid e2
    clear e1 e2 EDO EEO
    go_enter Try.func13, Try.ntmps13
    go_wp2_with fail
    rw [← hw1]
    (with_reducible refine CA.out.mono ?_)
    rintro e w2 ⟨rfl, p2, b2, f2⟩
    clear hw1 kb
    have P2 := Lib.hid p2
    have B2 := Lib.hid b2
    have BO2 := Lib.hid (BO.out.fr f2 (fun h => h (.inr rfl)))
    have kb2 := BO2.out.cell
    have CB := Lib.hid (qb_sync P2.out f f rfl HF.out FE.out)
    rw [← E2E.out] at CB
    clear p2 b2 f2
    go_wp2_with fail
    (with_reducible refine CB.out.mono ?_)
    rintro e w3 ⟨rfl, p3, b3, f3⟩
    have P3 := Lib.hid p3
    have B3 := Lib.hid (B2.out.trans b3)
    clear p3 b3 f3 kb2
    obtain ⟨SA, ca, fa, ua, ha⟩ := P3.out.one
    have HA := Lib.hid (halted_any w3 a fa D2.lim D2.left D2.dead ha.box)
    obtain ⟨SB, cb, fb, ub, hb⟩ := P3.out.swap.one
    have HBH := Lib.hid (rhalted_any w3 b fb E2.lim E2.left E2.dead hb.box)
    rw [← HDD.out.dead] at HBH
    clear ha hb
    go_wp2_with fail
    (with_reducible refine HA.out.mono ?_)
    rintro e w9 ⟨rfl, rfl⟩
    go_wp2_with fail
    (with_reducible refine HBH.out.mono ?_)
    rintro e w9 ⟨rfl, rfl⟩
    go_wp2
    go_ret
    exact ⟨by simp, FIN.out _ _ _ P3.out B3.out⟩
  · have e1 := EDO.out
    have e2 := EEO.out
    simp only [Int.reduceEq, if_true, if_false, reduceIte] at e1 e2
    have CA := Lib.hid (qa_crash P1.out (.slice A2 L2 c2) o.fs (fun w' hb _ => (HSS.out w' (HB1.out.trans hb)).more (Nat.le_trans P1.out.base hb.size)) HFO.out HSL.out FD.out)
    rw [← e1] at CA
    have E2E := Lib.hid e2
    clear e1 e2 EDO EEO
    go_enter Try.func13, Try.ntmps13
    go_wp2_with fail
    rw [← hw1]
    (with_reducible refine CA.out.mono ?_)
    rintro e w2 ⟨rfl, p2, b2, f2⟩
    clear hw1 kb
    have P2 := Lib.hid p2
    have B2 := Lib.hid b2
    have BO2 := Lib.hid (BO.out.fr f2 (fun h => h (.inr rfl)))
    have kb2 := BO2.out.cell
    have CB := Lib.hid (qb_crash P2.out (.slice A2 L2 c2) o.fs (fun w' hb _ => (HSS.out w' (HB1.out.trans (B2.out.trans hb))).more (Nat.le_trans P2.out.base hb.size)) HFO.out HSL.out FE.out)
    rw [← E2E.out] at CB
    clear p2 b2 f2
    go_wp2_with fail
    (with_reducible refine CB.out.mono ?_)
    rintro e w3 ⟨rfl, p3, b3, f3⟩
    have P3 := Lib.hid p3
    have B3 := Lib.hid (B2.out.trans b3)
    clear p3 b3 f3 kb2
    obtain ⟨SA, ca, fa, ua, ha⟩ := P3.out.one
    have HA := Lib.hid (halted_any w3 a fa D2.lim D2.left D2.dead ha.box)
    obtain ⟨SB, cb, fb, ub, hb⟩ := P3.out.swap.one
    have HBH := Lib.hid (rhalted_any w3 b fb E2.lim E2.left E2.dead hb.box)
    rw [← HDD.out.dead] at HBH
    clear ha hb
    go_wp2_with fail
    (with_reducible refine HA.out.mono ?_)
    rintro e w9 ⟨rfl, rfl⟩
    go_wp2_with fail
    (with_reducible refine HBH.out.mono ?_)
    rintro e w9 ⟨rfl, rfl⟩
    go_wp2
    go_ret
    exact ⟨by simp, FIN.out _ _ _ P3.out B3.out⟩
  · have e1 := EDO.out
    have e2 := EEO.out
    simp only [Int.reduceEq, if_false, reduceIte, Int.reduceLT] at e1 e2
    rw [e1] at HDD ⊢
    rw [e2] at HDD ⊢
    clear e1 e2 EDO EEO
    obtain ⟨RE, hRE⟩ : ∃ R, R = D.rdE f o.s := ⟨_, rfl⟩
    have hrr : RE = 0 ∨ RE = 50 := by rw [hRE]; unfold Dv.rdE; split; (exact .inl rfl); (exact .inr rfl)
    obtain ⟨SA, ca, fa, ua, ha⟩ := P1.out.one
    have CA := Lib.hid (read_any ha FD.out f o.s f rfl HF.out)
    rw [← hRE] at CA
    have hRE2 : RE = E.rdE f o.s := by rw [hRE]; exact (HEQ.out.rd f o.s).2.1
    have HR2 := Lib.hid hRE2
    have wre : IntKind.i64.wrap RE = RE := IntWalk.i64_in _ (by omega)
    have bre : (RE == RE) = true := beq_self_eq_true _
    clear ha hRE hRE2 hrr
    go_enter Try.func13, Try.ntmps13
    go_wp2_with fail
    rw [← hw1]
    (with_reducible refine CA.out.mono ?_)
    rintro e w6 ⟨u6, rfl, o6, y6, hb6⟩
    clear hw1 kb
    have P6 := Lib.hid (P1.out.later hb6)
    have B6 := Lib.hid (hb6.mono HS1.out)
    have kb6 := (BO.out.later hb6).cell
    have O6 := Lib.hid o6
    have Y6 := Lib.hid y6
    clear o6 y6 hb6
    obtain ⟨SB, cb, fb, ub, hb⟩ := P6.out.swap.one
    have CB := Lib.hid (rread_any hb FE.out f o.s f rfl HF.out)
    rw [← HR2.out] at CB
    clear hb
    go_wp2_with fail
    (with_reducible refine CB.out.mono ?_)
    rintro e w7 ⟨u7, rfl, o7, y7, hb7⟩
    have P7 := Lib.hid (P6.out.later hb7)
    have B7 := Lib.hid (B6.out.trans (hb7.mono (P6.out.base)))
    have SM := Lib.hid (Blk.same_any _ _ _ _ _ _ _ (O6.out.below hb7) o7 Y6.out y7)
    rw [decide_eq_true (HEQ.out.rd f o.s).1] at SM
    clear o7 y7 hb7 kb6
    go_wp2_with fail
    (with_reducible refine SM.out.mono ?_)
    rintro e w8 ⟨rfl, rfl⟩
    go_wp2
    go_ret
    exact ⟨rfl, FIN.out _ _ _ P7.out B7.out⟩
  · have e1 := EDO.out
    have e2 := EEO.out
    simp only [Int.reduceEq, if_false, reduceIte, Int.reduceLT] at e1 e2
    rw [e1] at HDD ⊢
    rw [e2] at HDD ⊢
    clear e1 e2 EDO EEO
    have WA := Lib.hid (fun d : Nat => (by
      obtain ⟨SA, ca, fa, ua, ha⟩ := P1.out.one
      exact waits_any (ha.later (below_drewN (Below.refl _ _) d)) f o.s f rfl HF.out : Calls Try.prog 23 #[.pointer (some ⟨a, 0, none⟩), .int .u8 (f : Int), .int .i64 o.s] (w1.drewN d) fun e w' => e = .returned (.int .i64 (D.wts f o.s)) ∧ w1.drewN d = w'))
    have WB := Lib.hid (fun d : Nat => (by
      obtain ⟨SB, cb, fb, ub, hb⟩ := P1.out.swap.one
      rw [(HEQ.out.rd f o.s).2.2.1]
      exact rwaits_any (hb.later (below_drewN (Below.refl _ _) d)) f o.s f rfl HF.out : Calls Try.prog 36 #[.pointer (some ⟨b, 0, none⟩), .int .u8 (f : Int), .int .i64 o.s] (w1.drewN d) fun e w' => e = .returned (.int .i64 (D.wts f o.s)) ∧ w1.drewN d = w'))
    have SA := Lib.hid (fun d : Nat => (by
      obtain ⟨SA, ca, fa, ua, ha⟩ := P1.out.one
      exact siz_any (ha.later (below_drewN (Below.refl _ _) d)) f f rfl HF.out : Calls Try.prog 22 #[.pointer (some ⟨a, 0, none⟩), .int .u8 (f : Int)] (w1.drewN d) fun e w' => e = .returned (.int .i64 (D.siz f)) ∧ w1.drewN d = w'))
    have SB := Lib.hid (fun d : Nat => (by
      obtain ⟨SB, cb, fb, ub, hb⟩ := P1.out.swap.one
      rw [(HEQ.out.rd f o.s).2.2.2]
      exact rsiz_any (hb.later (below_drewN (Below.refl _ _) d)) f f rfl HF.out : Calls Try.prog 37 #[.pointer (some ⟨b, 0, none⟩), .int .u8 (f : Int)] (w1.drewN d) fun e w' => e = .returned (.int .i64 (D.siz f)) ∧ w1.drewN d = w'))
    obtain ⟨W9, hW9⟩ : ∃ W9 : Int, W9 = D.wts f o.s := ⟨_, rfl⟩
    obtain ⟨Z9, hZ9⟩ : ∃ Z9 : Int, Z9 = D.siz f := ⟨_, rfl⟩
    rw [← hW9] at WA WB
    rw [← hZ9] at SA SB
    have bw : (W9 == W9) = true := beq_self_eq_true _
    have bz : (Z9 == Z9) = true := beq_self_eq_true _
    clear hW9 hZ9
    go_enter Try.func13, Try.ntmps13
    go_wp2_with fail
    rw [← hw1]
    clear hw1
    go_quiet ((first
      | (go_at_call 23; (with_reducible exact quiet_l (WA.out _)))
      | (go_at_call 36; (with_reducible exact quiet_l (WB.out _)))
      | (go_at_call 22; (with_reducible exact quiet_l (SA.out _)))
      | (go_at_call 37; (with_reducible exact quiet_l (SB.out _)))))
    go_wp2
    go_ret
    exact ⟨rfl, FIN.out _ _ _ (P1.out.later (below_drewN (Below.refl _ _) _)) (below_drewN (Below.refl _ _) _)⟩
  · have e1 := EDO.out
    have e2 := EEO.out
    simp only [Int.reduceEq, if_true, if_false, reduceIte, Int.reduceLT] at e1 e2
    have E1 := Lib.hid e1
    have E2E := Lib.hid e2
    clear e1 e2 EDO EEO
    have LB := Lib.hid (Blk.lent_any _ o.xs w1 B0 (HX.out w1 HB1.out) HXL.out)
    go_enter Try.func13, Try.ntmps13
    go_wp2_with fail
    rw [← hw1]
    (with_reducible refine LB.out.mono ?_)
    rintro e w2 ⟨u1, rfl, h1, b1⟩
    clear hw1 kb
    have kb2 := (BO.out.later b1).cell
    have HS2 := Lib.hid b1.size
    have FU := Lib.hid (full_any _ o.xs w2 B0 (Nat.le_trans HS1.out b1.size) (HX.out w2 (HB1.out.trans (b1.mono HS1.out))) HXB.out)
    have B12 := Lib.hid b1
    clear h1 b1
    go_wp2_with fail
    (with_reducible refine FU.out.mono ?_)
    rintro e w3 ⟨u, rfl, h3, b3⟩
    have R3 := Lib.hid (show w3.ownsRow w1.heap.size 5 1 u (fullS o.xs).length ((fullS o.xs).map (.int .u8)) by rw [fullS_len]; exact own_lower h3 HS2.out)
    have B3 := Lib.hid (show Below w1.heap.size w1 w3 from step_ B12.out b3)
    clear h3 b3 kb2
    have kb3 := (BO.out.later B3.out).cell
    obtain ⟨ys, hys⟩ : ∃ ys, ys = fullS o.xs := ⟨_, rfl⟩
    rw [← hys] at R3 E1 E2E
    have HYB := Lib.hid (show Bytes ys by rw [hys]; exact fullS_bytes HXB.out)
    have HYL := Lib.hid (show ys.length ≤ 100000 by rw [hys]; rw [fullS_len]; decide)
    clear hys
    have LB3 := Lib.hid (Blk.lent_any _ ys w3 _ (IR.of_own R3.out) HYL.out)
    go_wp2_with fail
    (with_reducible refine LB3.out.mono ?_)
    rintro e w4 ⟨u2, rfl, h4, b4⟩
    have B4 := Lib.hid (show Below w1.heap.size w1 w4 from step_ B3.out b4)
    have P4 := Lib.hid (P1.out.new B4.out (fun x => u.ownBlock = some x ∨ u2.ownBlock = some x) (fun x hx => by
      rcases hx with hx | hx
      · have := R3.out.lt x hx; have := b4.size; omega
      · have := h4.lt x hx; have := B3.out.size; omega))
    have R4 := Lib.hid (own_below R3.out b4)
    have R2 := Lib.hid h4
    have BO4 := Lib.hid (BO.out.later B4.out)
    have kb4 := BO4.out.cell
    obtain ⟨Au, cu, eu⟩ := own_slice' h4
    subst eu
    clear h4 b4 kb3
    have CA := Lib.hid (qa_write P4.out f o.s f rfl HF.out FD.out _ ys (fun w' hf => row_stay R2.out (fun g hg => .inr (.inr hg)) hf) HYB.out)
    rw [← E1.out] at CA
    obtain ⟨WE, hWE⟩ : ∃ WE, WE = D.wrE f o.s ys.length := ⟨_, rfl⟩
    rw [← hWE] at CA
    have hwe : WE = 0 ∨ WE = 1 ∨ WE = 50 := by
      rw [hWE]; unfold Dv.wrE
      split
      · split
        · exact .inl rfl
        · exact .inr (.inl rfl)
      · exact .inr (.inr rfl)
    have HWE2 := Lib.hid (show WE = E.wrE f o.s ys.length by rw [hWE]; exact HEQ.out.wrE f o.s _)
    have wre : IntKind.i64.wrap WE = WE := IntWalk.i64_in _ (by omega)
    have bre : (WE == WE) = true := beq_self_eq_true _
    clear hWE hwe
    go_wp2_with fail
    (with_reducible refine CA.out.mono ?_)
    rintro e w5 ⟨rfl, p5, b5, f5⟩
    have P5 := Lib.hid p5
    have B5 := Lib.hid ((B4.out.mono HS1.out).trans b5)
    have kb5 := (BO4.out.fr f5 (fun h => h (.inl (.inr rfl)))).cell
    have R5 := Lib.hid (own_frS R4.out f5 (fun k hk hs => hs (.inr (.inl hk))))
    have R25 := Lib.hid (own_frS R2.out f5 (fun k hk hs => hs (.inr (.inr hk))))
    have CB := Lib.hid (qb_write P5.out f o.s f rfl HF.out FE.out _ ys (fun w' hf => row_stay R5.out (fun g hg => .inr (.inl hg)) hf) HYB.out)
    rw [← E2E.out, ← HWE2.out] at CB
    clear p5 b5 f5 kb4
    go_wp2_with fail
    (with_reducible refine CB.out.mono ?_)
    rintro e w6 ⟨rfl, p6, b6, f6⟩
    have P6 := Lib.hid p6
    have B6 := Lib.hid (B5.out.trans b6)
    have R26 := Lib.hid (own_frS R25.out f6 (fun k hk hs => hs (.inr (.inr hk))))
    obtain ⟨Ly, hLy⟩ : ∃ Ly, Ly = ys.length := ⟨_, rfl⟩
    rw [← hLy] at R26 ⊢
    have HLY := Lib.hid hLy
    have hlyb : Ly ≤ 100000 := by rw [hLy]; exact HYL.out
    clear p6 b6 f6 kb5 hLy
    go_wp2
    go_loopw [15] (fun x wr => ∃ j : Nat, j ≤ Ly ∧ x = .int .i64 j ∧ Hid (Fr (fun x => (Value.slice Au Ly cu).ownBlock = some x) w6 wr) ∧ Hid (∃ zs : List Int, zs.length = Ly ∧ wr.ownsRow 0 5 1 (.slice Au Ly cu) zs.length (zs.map (.int .u8)))) (fun x _ => Ly - (intOf x).toNat)
    case atStart => exact ⟨0, Nat.zero_le _, rfl, Lib.hid (Fr.refl _ _), Lib.hid ⟨ys, HLY.out.symm, by rw [← HLY.out]; exact own_lower R26.out (Nat.zero_le _)⟩⟩
    case round =>
      obtain ⟨j, hj, rfl, HFR, HZ⟩ := hrel
      by_cases hlt : j < Ly
      · obtain ⟨zs, hzl, hzo⟩ := HZ.out
        obtain ⟨g, row, _, _⟩ := RowAt.of_own hzo (by omega)
        obtain ⟨cap9, eg⟩ := row.form
        injection eg with eg1 eg2 eg3
        subst eg1 eg3
        have dj : decide ((j : Int) < (Ly : Int)) = true := by simp; omega
        have djn : decide (j < Ly) = true := by simp; omega
        have kz : wr.cell? ⟨g, j, none⟩ = some (.int .u8 (zs.getD j 0)) := row_cell row j (by omega)
        have fz := row_frozen row j
        have HP := Lib.hid (fun x : Int => (⟨zs.set j x, by rw [List.length_set]; exact hzl, (row.put j x).own⟩ : ∃ zs' : List Int, zs'.length = Ly ∧ (wr.setCell ⟨g, j, none⟩ (.int .u8 x)).ownsRow 0 5 1 (.slice (some ⟨g, 0, none⟩) Ly cu) zs'.length (zs'.map (.int .u8))))
        have hji : (j : Int) < Ly := by omega
        generalize zs.getD j 0 = z0 at *
        clear hzo row HZ hzl
        go_wp2
        go_roundw
        case rel => exact ⟨j + 1, by omega, by go_num, Lib.hid (Fr.setCell HFR.out (p := ⟨g, j, none⟩) (.inl rfl) _), Lib.hid (HP.out _)⟩
        case measure => simp [intOf]; omega
      · have ej : j = Ly := by omega
        have dj : decide ((j : Int) < (Ly : Int)) = false := by simp; omega
        have P7 := Lib.hid (P6.out.away HFR.out (fun x hx => .inr (.inr (by rw [← HLY.out]; exact hx))))
        have B7 := Lib.hid (B6.out.trans (HFR.out.to_below (B := B0) (fun k hk => by have := (R2.out.lt k (by rw [← HLY.out]; exact hk)).1; have := B3.out.size; have := HS1.out; omega) P6.out.base))
        have FIN9 := Lib.hid (FIN.out _ _ _ (P7.out.less (fun x hx => .inl hx)) B7.out)
        have hji : ¬ (j : Int) < Ly := by omega
        clear ej hj
        go_wp2
        go_ret
        exact ⟨rfl, FIN9.out⟩
  · have e1 := EDO.out
    have e2 := EEO.out
    simp only [Int.reduceEq, if_true, if_false, reduceIte, Int.reduceLT] at e1 e2
    have E1 := Lib.hid e1
    have E2E := Lib.hid e2
    clear e1 e2 EDO EEO
    have LB := Lib.hid (Blk.lent_any _ o.xs w1 B0 (HX.out w1 HB1.out) HXL.out)
    go_enter Try.func13, Try.ntmps13
    go_wp2_with fail
    rw [← hw1]
    (with_reducible refine LB.out.mono ?_)
    rintro e w2 ⟨u1, rfl, h1, b1⟩
    clear hw1 kb
    have kb2 := (BO.out.later b1).cell
    have HS2 := Lib.hid b1.size
    have FU := Lib.hid (full_any _ o.xs w2 B0 (Nat.le_trans HS1.out b1.size) (HX.out w2 (HB1.out.trans (b1.mono HS1.out))) HXB.out)
    have B12 := Lib.hid b1
    clear h1 b1
    go_wp2_with fail
    (with_reducible refine FU.out.mono ?_)
    rintro e w3 ⟨u, rfl, h3, b3⟩
    have R3 := Lib.hid (show w3.ownsRow w1.heap.size 5 1 u (fullS o.xs).length ((fullS o.xs).map (.int .u8)) by rw [fullS_len]; exact own_lower h3 HS2.out)
    have B3 := Lib.hid (show Below w1.heap.size w1 w3 from step_ B12.out b3)
    clear h3 b3 kb2
    have kb3 := (BO.out.later B3.out).cell
    obtain ⟨ys, hys⟩ : ∃ ys, ys = fullS o.xs := ⟨_, rfl⟩
    rw [← hys] at R3 E1 E2E
    have HYB := Lib.hid (show Bytes ys by rw [hys]; exact fullS_bytes HXB.out)
    have HYL := Lib.hid (show ys.length ≤ 100000 by rw [hys]; rw [fullS_len]; decide)
    clear hys
    have LB3 := Lib.hid (Blk.lent_any _ ys w3 _ (IR.of_own R3.out) HYL.out)
    go_wp2_with fail
    (with_reducible refine LB3.out.mono ?_)
    rintro e w4 ⟨u2, rfl, h4, b4⟩
    have B4 := Lib.hid (show Below w1.heap.size w1 w4 from step_ B3.out b4)
    have P4 := Lib.hid (P1.out.new B4.out (fun x => u.ownBlock = some x ∨ u2.ownBlock = some x) (fun x hx => by
      rcases hx with hx | hx
      · have := R3.out.lt x hx; have := b4.size; omega
      · have := h4.lt x hx; have := B3.out.size; omega))
    have R4 := Lib.hid (own_below R3.out b4)
    have R2 := Lib.hid h4
    have BO4 := Lib.hid (BO.out.later B4.out)
    have kb4 := BO4.out.cell
    obtain ⟨Au, cu, eu⟩ := own_slice' h4
    subst eu
    clear h4 b4 kb3
    have CA := Lib.hid (qa_write P4.out f o.s f rfl HF.out FD.out _ ys (fun w' hf => row_stay R2.out (fun g hg => .inr (.inr hg)) hf) HYB.out)
    rw [← E1.out] at CA
    obtain ⟨WE, hWE⟩ : ∃ WE, WE = D.wrE f o.s ys.length := ⟨_, rfl⟩
    rw [← hWE] at CA
    have hwe : WE = 0 ∨ WE = 1 ∨ WE = 50 := by
      rw [hWE]; unfold Dv.wrE
      split
      · split
        · exact .inl rfl
        · exact .inr (.inl rfl)
      · exact .inr (.inr rfl)
    have HWE2 := Lib.hid (show WE = E.wrE f o.s ys.length by rw [hWE]; exact HEQ.out.wrE f o.s _)
    have wre : IntKind.i64.wrap WE = WE := IntWalk.i64_in _ (by omega)
    have bre : (WE == WE) = true := beq_self_eq_true _
    clear hWE hwe
    go_wp2_with fail
    (with_reducible refine CA.out.mono ?_)
    rintro e w5 ⟨rfl, p5, b5, f5⟩
    have P5 := Lib.hid p5
    have B5 := Lib.hid ((B4.out.mono HS1.out).trans b5)
    have kb5 := (BO4.out.fr f5 (fun h => h (.inl (.inr rfl)))).cell
    have R5 := Lib.hid (own_frS R4.out f5 (fun k hk hs => hs (.inr (.inl hk))))
    have R25 := Lib.hid (own_frS R2.out f5 (fun k hk hs => hs (.inr (.inr hk))))
    have CB := Lib.hid (qb_write P5.out f o.s f rfl HF.out FE.out _ ys (fun w' hf => row_stay R5.out (fun g hg => .inr (.inl hg)) hf) HYB.out)
    rw [← E2E.out, ← HWE2.out] at CB
    clear p5 b5 f5 kb4
    go_wp2_with fail
    (with_reducible refine CB.out.mono ?_)
    rintro e w6 ⟨rfl, p6, b6, f6⟩
    have P6 := Lib.hid p6
    have B6 := Lib.hid (B5.out.trans b6)
    have R26 := Lib.hid (own_frS R25.out f6 (fun k hk hs => hs (.inr (.inr hk))))
    obtain ⟨Ly, hLy⟩ : ∃ Ly, Ly = ys.length := ⟨_, rfl⟩
    rw [← hLy] at R26 ⊢
    have HLY := Lib.hid hLy
    have hlyb : Ly ≤ 100000 := by rw [hLy]; exact HYL.out
    clear p6 b6 f6 kb5 hLy
    go_wp2
    go_loopw [15] (fun x wr => ∃ j : Nat, j ≤ Ly ∧ x = .int .i64 j ∧ Hid (Fr (fun x => (Value.slice Au Ly cu).ownBlock = some x) w6 wr) ∧ Hid (∃ zs : List Int, zs.length = Ly ∧ wr.ownsRow 0 5 1 (.slice Au Ly cu) zs.length (zs.map (.int .u8)))) (fun x _ => Ly - (intOf x).toNat)
    case atStart => exact ⟨0, Nat.zero_le _, rfl, Lib.hid (Fr.refl _ _), Lib.hid ⟨ys, HLY.out.symm, by rw [← HLY.out]; exact own_lower R26.out (Nat.zero_le _)⟩⟩
    case round =>
      obtain ⟨j, hj, rfl, HFR, HZ⟩ := hrel
      by_cases hlt : j < Ly
      · obtain ⟨zs, hzl, hzo⟩ := HZ.out
        obtain ⟨g, row, _, _⟩ := RowAt.of_own hzo (by omega)
        obtain ⟨cap9, eg⟩ := row.form
        injection eg with eg1 eg2 eg3
        subst eg1 eg3
        have dj : decide ((j : Int) < (Ly : Int)) = true := by simp; omega
        have djn : decide (j < Ly) = true := by simp; omega
        have kz : wr.cell? ⟨g, j, none⟩ = some (.int .u8 (zs.getD j 0)) := row_cell row j (by omega)
        have fz := row_frozen row j
        have HP := Lib.hid (fun x : Int => (⟨zs.set j x, by rw [List.length_set]; exact hzl, (row.put j x).own⟩ : ∃ zs' : List Int, zs'.length = Ly ∧ (wr.setCell ⟨g, j, none⟩ (.int .u8 x)).ownsRow 0 5 1 (.slice (some ⟨g, 0, none⟩) Ly cu) zs'.length (zs'.map (.int .u8))))
        have hji : (j : Int) < Ly := by omega
        generalize zs.getD j 0 = z0 at *
        clear hzo row HZ hzl
        go_wp2
        go_roundw
        case rel => exact ⟨j + 1, by omega, by go_num, Lib.hid (Fr.setCell HFR.out (p := ⟨g, j, none⟩) (.inl rfl) _), Lib.hid (HP.out _)⟩
        case measure => simp [intOf]; omega
      · have ej : j = Ly := by omega
        have dj : decide ((j : Int) < (Ly : Int)) = false := by simp; omega
        have P7 := Lib.hid (P6.out.away HFR.out (fun x hx => .inr (.inr (by rw [← HLY.out]; exact hx))))
        have B7 := Lib.hid (B6.out.trans (HFR.out.to_below (B := B0) (fun k hk => by have := (R2.out.lt k (by rw [← HLY.out]; exact hk)).1; have := B3.out.size; have := HS1.out; omega) P6.out.base))
        have FIN9 := Lib.hid (FIN.out _ _ _ (P7.out.less (fun x hx => .inl hx)) B7.out)
        have hji : ¬ (j : Int) < Ly := by omega
        clear ej hj
        go_wp2
        go_ret
        exact ⟨rfl, FIN9.out⟩
  · have e1 := EDO.out
    have e2 := EEO.out
    simp only [Int.reduceEq, if_true, if_false, reduceIte, Int.reduceLT] at e1 e2
    have E1 := Lib.hid e1
    have E2E := Lib.hid e2
    clear e1 e2 EDO EEO
    have LB := Lib.hid (Blk.lent_any _ o.xs w1 B0 (HX.out w1 HB1.out) HXL.out)
    go_enter Try.func13, Try.ntmps13
    go_wp2_with fail
    rw [← hw1]
    (with_reducible refine LB.out.mono ?_)
    rintro e w2 ⟨u1, rfl, h1, b1⟩
    clear hw1 kb
    have kb2 := (BO.out.later b1).cell
    have HS2 := Lib.hid b1.size
    have FU := Lib.hid (full_any _ o.xs w2 B0 (Nat.le_trans HS1.out b1.size) (HX.out w2 (HB1.out.trans (b1.mono HS1.out))) HXB.out)
    have B12 := Lib.hid b1
    clear h1 b1
    go_wp2_with fail
    (with_reducible refine FU.out.mono ?_)
    rintro e w3 ⟨u, rfl, h3, b3⟩
    have R3 := Lib.hid (show w3.ownsRow w1.heap.size 5 1 u (fullS o.xs).length ((fullS o.xs).map (.int .u8)) by rw [fullS_len]; exact own_lower h3 HS2.out)
    have B3 := Lib.hid (show Below w1.heap.size w1 w3 from step_ B12.out b3)
    clear h3 b3 kb2
    have kb3 := (BO.out.later B3.out).cell
    obtain ⟨ys, hys⟩ : ∃ ys, ys = fullS o.xs := ⟨_, rfl⟩
    rw [← hys] at R3 E1 E2E
    have HYB := Lib.hid (show Bytes ys by rw [hys]; exact fullS_bytes HXB.out)
    have HYL := Lib.hid (show ys.length ≤ 100000 by rw [hys]; rw [fullS_len]; decide)
    clear hys
    have LB3 := Lib.hid (Blk.lent_any _ ys w3 _ (IR.of_own R3.out) HYL.out)
    go_wp2_with fail
    (with_reducible refine LB3.out.mono ?_)
    rintro e w4 ⟨u2, rfl, h4, b4⟩
    have B4 := Lib.hid (show Below w1.heap.size w1 w4 from step_ B3.out b4)
    have P4 := Lib.hid (P1.out.new B4.out (fun x => u.ownBlock = some x ∨ u2.ownBlock = some x) (fun x hx => by
      rcases hx with hx | hx
      · have := R3.out.lt x hx; have := b4.size; omega
      · have := h4.lt x hx; have := B3.out.size; omega))
    have R4 := Lib.hid (own_below R3.out b4)
    have R2 := Lib.hid h4
    have BO4 := Lib.hid (BO.out.later B4.out)
    have kb4 := BO4.out.cell
    obtain ⟨Au, cu, eu⟩ := own_slice' h4
    subst eu
    clear h4 b4 kb3
    have CA := Lib.hid (qa_write P4.out f o.s f rfl HF.out FD.out _ ys (fun w' hf => row_stay R2.out (fun g hg => .inr (.inr hg)) hf) HYB.out)
    rw [← E1.out] at CA
    obtain ⟨WE, hWE⟩ : ∃ WE, WE = D.wrE f o.s ys.length := ⟨_, rfl⟩
    rw [← hWE] at CA
    have hwe : WE = 0 ∨ WE = 1 ∨ WE = 50 := by
      rw [hWE]; unfold Dv.wrE
      split
      · split
        · exact .inl rfl
        · exact .inr (.inl rfl)
      · exact .inr (.inr rfl)
    have HWE2 := Lib.hid (show WE = E.wrE f o.s ys.length by rw [hWE]; exact HEQ.out.wrE f o.s _)
    have wre : IntKind.i64.wrap WE = WE := IntWalk.i64_in _ (by omega)
    have bre : (WE == WE) = true := beq_self_eq_true _
    clear hWE hwe
    go_wp2_with fail
    (with_reducible refine CA.out.mono ?_)
    rintro e w5 ⟨rfl, p5, b5, f5⟩
    have P5 := Lib.hid p5
    have B5 := Lib.hid ((B4.out.mono HS1.out).trans b5)
    have kb5 := (BO4.out.fr f5 (fun h => h (.inl (.inr rfl)))).cell
    have R5 := Lib.hid (own_frS R4.out f5 (fun k hk hs => hs (.inr (.inl hk))))
    have R25 := Lib.hid (own_frS R2.out f5 (fun k hk hs => hs (.inr (.inr hk))))
    have CB := Lib.hid (qb_write P5.out f o.s f rfl HF.out FE.out _ ys (fun w' hf => row_stay R5.out (fun g hg => .inr (.inl hg)) hf) HYB.out)
    rw [← E2E.out, ← HWE2.out] at CB
    clear p5 b5 f5 kb4
    go_wp2_with fail
    (with_reducible refine CB.out.mono ?_)
    rintro e w6 ⟨rfl, p6, b6, f6⟩
    have P6 := Lib.hid p6
    have B6 := Lib.hid (B5.out.trans b6)
    have R26 := Lib.hid (own_frS R25.out f6 (fun k hk hs => hs (.inr (.inr hk))))
    obtain ⟨Ly, hLy⟩ : ∃ Ly, Ly = ys.length := ⟨_, rfl⟩
    rw [← hLy] at R26 ⊢
    have HLY := Lib.hid hLy
    have hlyb : Ly ≤ 100000 := by rw [hLy]; exact HYL.out
    clear p6 b6 f6 kb5 hLy
    go_wp2
    go_loopw [15] (fun x wr => ∃ j : Nat, j ≤ Ly ∧ x = .int .i64 j ∧ Hid (Fr (fun x => (Value.slice Au Ly cu).ownBlock = some x) w6 wr) ∧ Hid (∃ zs : List Int, zs.length = Ly ∧ wr.ownsRow 0 5 1 (.slice Au Ly cu) zs.length (zs.map (.int .u8)))) (fun x _ => Ly - (intOf x).toNat)
    case atStart => exact ⟨0, Nat.zero_le _, rfl, Lib.hid (Fr.refl _ _), Lib.hid ⟨ys, HLY.out.symm, by rw [← HLY.out]; exact own_lower R26.out (Nat.zero_le _)⟩⟩
    case round =>
      obtain ⟨j, hj, rfl, HFR, HZ⟩ := hrel
      by_cases hlt : j < Ly
      · obtain ⟨zs, hzl, hzo⟩ := HZ.out
        obtain ⟨g, row, _, _⟩ := RowAt.of_own hzo (by omega)
        obtain ⟨cap9, eg⟩ := row.form
        injection eg with eg1 eg2 eg3
        subst eg1 eg3
        have dj : decide ((j : Int) < (Ly : Int)) = true := by simp; omega
        have djn : decide (j < Ly) = true := by simp; omega
        have kz : wr.cell? ⟨g, j, none⟩ = some (.int .u8 (zs.getD j 0)) := row_cell row j (by omega)
        have fz := row_frozen row j
        have HP := Lib.hid (fun x : Int => (⟨zs.set j x, by rw [List.length_set]; exact hzl, (row.put j x).own⟩ : ∃ zs' : List Int, zs'.length = Ly ∧ (wr.setCell ⟨g, j, none⟩ (.int .u8 x)).ownsRow 0 5 1 (.slice (some ⟨g, 0, none⟩) Ly cu) zs'.length (zs'.map (.int .u8))))
        have hji : (j : Int) < Ly := by omega
        generalize zs.getD j 0 = z0 at *
        clear hzo row HZ hzl
        go_wp2
        go_roundw
        case rel => exact ⟨j + 1, by omega, by go_num, Lib.hid (Fr.setCell HFR.out (p := ⟨g, j, none⟩) (.inl rfl) _), Lib.hid (HP.out _)⟩
        case measure => simp [intOf]; omega
      · have ej : j = Ly := by omega
        have dj : decide ((j : Int) < (Ly : Int)) = false := by simp; omega
        have P7 := Lib.hid (P6.out.away HFR.out (fun x hx => .inr (.inr (by rw [← HLY.out]; exact hx))))
        have B7 := Lib.hid (B6.out.trans (HFR.out.to_below (B := B0) (fun k hk => by have := (R2.out.lt k (by rw [← HLY.out]; exact hk)).1; have := B3.out.size; have := HS1.out; omega) P6.out.base))
        have FIN9 := Lib.hid (FIN.out _ _ _ (P7.out.less (fun x hx => .inl hx)) B7.out)
        have hji : ¬ (j : Int) < Ly := by omega
        clear ej hj
        go_wp2
        go_ret
        exact ⟨rfl, FIN9.out⟩
  · have e1 := EDO.out
    have e2 := EEO.out
    simp only [Int.reduceEq, if_true, if_false, reduceIte, Int.reduceLT] at e1 e2
    have E1 := Lib.hid e1
    have E2E := Lib.hid e2
    clear e1 e2 EDO EEO
    have LB := Lib.hid (Blk.lent_any _ o.xs w1 B0 (HX.out w1 HB1.out) HXL.out)
    go_enter Try.func13, Try.ntmps13
    go_wp2_with fail
    rw [← hw1]
    (with_reducible refine LB.out.mono ?_)
    rintro e w2 ⟨u1, rfl, h1, b1⟩
    clear hw1 kb
    have kb2 := (BO.out.later b1).cell
    have HS2 := Lib.hid b1.size
    obtain ⟨w3, hw3⟩ : ∃ w3, w3 = w2 := ⟨_, rfl⟩
    rw [← hw3] at h1 b1 kb2 ⊢
    obtain ⟨u, hu⟩ : ∃ u, u = u1 := ⟨_, rfl⟩
    rw [← hu] at h1 ⊢
    have R3 := Lib.hid h1
    have B3 := Lib.hid b1
    clear h1 b1 hw3 hu
    obtain ⟨ys, hys⟩ : ∃ ys, ys = o.xs := ⟨_, rfl⟩
    rw [← hys] at R3 E1 E2E
    have HYB := Lib.hid (show Bytes ys by rw [hys]; exact HXB.out)
    have HYL := Lib.hid (show ys.length ≤ 100000 by rw [hys]; exact HXL.out)
    clear hys
    have LB3 := Lib.hid (Blk.lent_any _ ys w3 _ (IR.of_own R3.out) HYL.out)
    go_wp2_with fail
    (with_reducible refine LB3.out.mono ?_)
    rintro e w4 ⟨u2, rfl, h4, b4⟩
    have B4 := Lib.hid (show Below w1.heap.size w1 w4 from step_ B3.out b4)
    have P4 := Lib.hid (P1.out.new B4.out (fun x => u.ownBlock = some x ∨ u2.ownBlock = some x) (fun x hx => by
      rcases hx with hx | hx
      · have := R3.out.lt x hx; have := b4.size; omega
      · have := h4.lt x hx; have := B3.out.size; omega))
    have R4 := Lib.hid (own_below R3.out b4)
    have R2 := Lib.hid h4
    have BO4 := Lib.hid (BO.out.later B4.out)
    have kb4 := BO4.out.cell
    obtain ⟨Au, cu, eu⟩ := own_slice' h4
    subst eu
    clear h4 b4 kb2
    have CA := Lib.hid (qa_write P4.out f o.s f rfl HF.out FD.out _ ys (fun w' hf => row_stay R2.out (fun g hg => .inr (.inr hg)) hf) HYB.out)
    rw [← E1.out] at CA
    obtain ⟨WE, hWE⟩ : ∃ WE, WE = D.wrE f o.s ys.length := ⟨_, rfl⟩
    rw [← hWE] at CA
    have hwe : WE = 0 ∨ WE = 1 ∨ WE = 50 := by
      rw [hWE]; unfold Dv.wrE
      split
      · split
        · exact .inl rfl
        · exact .inr (.inl rfl)
      · exact .inr (.inr rfl)
    have HWE2 := Lib.hid (show WE = E.wrE f o.s ys.length by rw [hWE]; exact HEQ.out.wrE f o.s _)
    have wre : IntKind.i64.wrap WE = WE := IntWalk.i64_in _ (by omega)
    have bre : (WE == WE) = true := beq_self_eq_true _
    clear hWE hwe
    go_wp2_with fail
    (with_reducible refine CA.out.mono ?_)
    rintro e w5 ⟨rfl, p5, b5, f5⟩
    have P5 := Lib.hid p5
    have B5 := Lib.hid ((B4.out.mono HS1.out).trans b5)
    have kb5 := (BO4.out.fr f5 (fun h => h (.inl (.inr rfl)))).cell
    have R5 := Lib.hid (own_frS R4.out f5 (fun k hk hs => hs (.inr (.inl hk))))
    have R25 := Lib.hid (own_frS R2.out f5 (fun k hk hs => hs (.inr (.inr hk))))
    have CB := Lib.hid (qb_write P5.out f o.s f rfl HF.out FE.out _ ys (fun w' hf => row_stay R5.out (fun g hg => .inr (.inl hg)) hf) HYB.out)
    rw [← E2E.out, ← HWE2.out] at CB
    clear p5 b5 f5 kb4
    go_wp2_with fail
    (with_reducible refine CB.out.mono ?_)
    rintro e w6 ⟨rfl, p6, b6, f6⟩
    have P6 := Lib.hid p6
    have B6 := Lib.hid (B5.out.trans b6)
    have R26 := Lib.hid (own_frS R25.out f6 (fun k hk hs => hs (.inr (.inr hk))))
    obtain ⟨Ly, hLy⟩ : ∃ Ly, Ly = ys.length := ⟨_, rfl⟩
    rw [← hLy] at R26 ⊢
    have HLY := Lib.hid hLy
    have hlyb : Ly ≤ 100000 := by rw [hLy]; exact HYL.out
    clear p6 b6 f6 kb5 hLy
    go_wp2
    go_loopw [15] (fun x wr => ∃ j : Nat, j ≤ Ly ∧ x = .int .i64 j ∧ Hid (Fr (fun x => (Value.slice Au Ly cu).ownBlock = some x) w6 wr) ∧ Hid (∃ zs : List Int, zs.length = Ly ∧ wr.ownsRow 0 5 1 (.slice Au Ly cu) zs.length (zs.map (.int .u8)))) (fun x _ => Ly - (intOf x).toNat)
    case atStart => exact ⟨0, Nat.zero_le _, rfl, Lib.hid (Fr.refl _ _), Lib.hid ⟨ys, HLY.out.symm, by rw [← HLY.out]; exact own_lower R26.out (Nat.zero_le _)⟩⟩
    case round =>
      obtain ⟨j, hj, rfl, HFR, HZ⟩ := hrel
      by_cases hlt : j < Ly
      · obtain ⟨zs, hzl, hzo⟩ := HZ.out
        obtain ⟨g, row, _, _⟩ := RowAt.of_own hzo (by omega)
        obtain ⟨cap9, eg⟩ := row.form
        injection eg with eg1 eg2 eg3
        subst eg1 eg3
        have dj : decide ((j : Int) < (Ly : Int)) = true := by simp; omega
        have djn : decide (j < Ly) = true := by simp; omega
        have kz : wr.cell? ⟨g, j, none⟩ = some (.int .u8 (zs.getD j 0)) := row_cell row j (by omega)
        have fz := row_frozen row j
        have HP := Lib.hid (fun x : Int => (⟨zs.set j x, by rw [List.length_set]; exact hzl, (row.put j x).own⟩ : ∃ zs' : List Int, zs'.length = Ly ∧ (wr.setCell ⟨g, j, none⟩ (.int .u8 x)).ownsRow 0 5 1 (.slice (some ⟨g, 0, none⟩) Ly cu) zs'.length (zs'.map (.int .u8))))
        have hji : (j : Int) < Ly := by omega
        generalize zs.getD j 0 = z0 at *
        clear hzo row HZ hzl
        go_wp2
        go_roundw
        case rel => exact ⟨j + 1, by omega, by go_num, Lib.hid (Fr.setCell HFR.out (p := ⟨g, j, none⟩) (.inl rfl) _), Lib.hid (HP.out _)⟩
        case measure => simp [intOf]; omega
      · have ej : j = Ly := by omega
        have dj : decide ((j : Int) < (Ly : Int)) = false := by simp; omega
        have P7 := Lib.hid (P6.out.away HFR.out (fun x hx => .inr (.inr (by rw [← HLY.out]; exact hx))))
        have B7 := Lib.hid (B6.out.trans (HFR.out.to_below (B := B0) (fun k hk => by have := (R2.out.lt k (by rw [← HLY.out]; exact hk)).1; have := B3.out.size; have := HS1.out; omega) P6.out.base))
        have FIN9 := Lib.hid (FIN.out _ _ _ (P7.out.less (fun x hx => .inl hx)) B7.out)
        have hji : ¬ (j : Int) < Ly := by omega
        clear ej hj
        go_wp2
        go_ret
        exact ⟨rfl, FIN9.out⟩
end Go.Proofs.Ytplombkpefacgaa.Disk

/- Calls one behind another: pure; the two devices as New leaves them. -/
namespace Go.Proofs.Ytplombkpefacgaa.Disk
open Go.ChangeShapes Go.WideShapes Go.RowKit Go.Proofs.Mem
set_option linter.unusedVariables false
set_option linter.unusedSimpArgs false
theorem wrA_or (D : Dv) (i : Nat) (N : Int) (xs : List Int) : (D.wrA i N xs).f = (({ D with lim := false } : Dv).wrA i N xs).f ∨ (D.wrA i N xs).f = D.f := by
  unfold Dv.wrA
  by_cases hh : D.has i N ∧ xs.length = 128
  · have h2 : ({ D with lim := false } : Dv).has i N ∧ xs.length = 128 := hh
    rw [if_pos hh, if_pos h2, wr_free (D := { D with lim := false }) rfl]
    unfold Dv.wr
    by_cases hc : cntB D.lim D.left = true
    · rw [if_pos hc]; exact .inl rfl
    · rw [if_neg hc]; exact .inr rfl
  · rw [if_neg hh]; exact .inr rfl
theorem synA_or (D : Dv) (i : Nat) : (D.synA i).f = (({ D with lim := false } : Dv).synA i).f ∨ (D.synA i).f = D.f := by
  unfold Dv.synA
  by_cases hi : i < 2
  · rw [if_pos hi, if_pos hi, syn_free (D := { D with lim := false }) rfl]
    unfold Dv.syn
    by_cases hc : cntB D.lim D.left = true
    · rw [if_pos hc]; exact .inl rfl
    · rw [if_neg hc]; exact .inr rfl
  · rw [if_neg hi]; exact .inr rfl
theorem wrA_few' {D : Dv} {m : Nat} (hm : D.Few m) (i : Nat) (N : Int) (xs : List Int) : (D.wrA i N xs).Few (m + 1) := by
  rcases wrA_or D i N xs with e | e
  · exact (wrA_few (D := { D with lim := false }) rfl (hm.of_f rfl) i N xs).of_f e
  · exact (hm.more (Nat.le_succ _)).of_f e
theorem synA_few' {D : Dv} {m : Nat} (hm : D.Few m) (i : Nat) : (D.synA i).Few m := by
  rcases synA_or D i with e | e
  · refine Dv.Few.of_f (E := ({ D with lim := false } : Dv).synA i) (fun k hk s hs => ?_) e
    rw [synA_f (D := { D with lim := false }) rfl] at hs
    split at hs
    · obtain ⟨s', _, rfl⟩ := List.mem_map.1 hs
      simp [Se.syn]
    · exact hm k hk s hs
  · exact hm.of_f e
theorem doD_few {D : Dv} {m : Nat} (hm : D.Few m) (o : Opn) : (doD D o).Few (m + 1) := by
  unfold doD
  split
  · exact (hm.more (Nat.le_succ _)).of_f rfl
  · split
    · exact (synA_few' hm _).more (Nat.le_succ _)
    · split
      · exact (crash_few D _).more (Nat.zero_le _)
      · split
        · exact wrA_few' hm _ _ _
        · split
          · exact wrA_few' hm _ _ _
          · exact hm.more (Nat.le_succ _)
theorem Eqd.few {D E : Dv} (h : Eqd D E) {m : Nat} (hm : D.Few m) : E.Few m := hm.of_f h.f.symm
theorem hvy_all {lg pg : Int} {l : List Oi} (h : hvy lg pg l = false) : lg ≤ 40 ∧ pg ≤ 40 ∧ l.length ≤ 60 ∧ ∀ x ∈ l, x.o.xs.length ≤ 200 ∧ x.o.fs.length ≤ 60 := by
  unfold hvy at h
  simp only [Bool.or_eq_false_iff, decide_eq_false_iff_not] at h
  obtain ⟨⟨⟨h1, h2⟩, h3⟩, h4⟩ := h
  refine ⟨by omega, by omega, by omega, fun x hx => ?_⟩
  have h5 := List.any_eq_false.1 h4 x hx
  unfold big at h5
  simp only [Bool.or_eq_true, decide_eq_true_eq, not_or] at h5
  omega
theorem Pq.start {B0 : Nat} {w w1 w2 : World} {N0 N1 : Nat} (h1 : Out w w1 (fun k => if k = 0 then N0 else N1) 2) (h2 : OutR w1 w2 (mk2 N0 N1)) (hB : B0 ≤ w.heap.size) : Pq none_ B0 w2 w.heap.size w1.heap.size (mk2 N0 N1) (mk2 N0 N1) := by
  obtain ⟨ca, fa, ua, ha, _, hb1⟩ := h1
  obtain ⟨cb, fb, ub, hb, hb2⟩ := h2
  rw [mk2_new] at ha
  refine ⟨fun x hx => hx.elim, Nat.le_trans hB (Nat.le_trans hb1.size hb2.size), newS w w1, newS w1 w2, ca, fa, ua, cb, fb, ub, ha.later hb2, hb, fun x hx hy => ?_, fun x hx => ⟨Nat.le_trans hB hx.1, fun h => h⟩, fun x hx => ⟨Nat.le_trans hB (Nat.le_trans hb1.size hx.1), fun h => h⟩⟩
  have := hx.2; have := hy.1; omega
theorem mk2_few (a c : Nat) : (mk2 a c).Few 0 := fun k hk s hs => by
  have : s = zSe := by
    unfold mk2 at hs
    simp only at hs
    split at hs
    · exact List.eq_of_mem_replicate hs
    · split at hs
      · exact List.eq_of_mem_replicate hs
      · cases hs
  rw [this]; decide
/-- what holds between two calls on both -/
def RelD (B0 : Nat) (w : World) (a b j : Nat) : Prop := ∃ D E : Dv, Pq none_ B0 w a b D E ∧ Eqd D E ∧ D.Few j
theorem RelD.start {B0 : Nat} {w w1 w2 : World} {N0 N1 : Nat} (h1 : Out w w1 (fun k => if k = 0 then N0 else N1) 2) (h2 : OutR w1 w2 (mk2 N0 N1)) (hB : B0 ≤ w.heap.size) : RelD B0 w2 w.heap.size w1.heap.size 0 := ⟨_, _, Pq.start h1 h2 hB, Eqd.refl _, mk2_few _ _⟩
theorem RelD.alike {B0 : Nat} {w : World} {a b j : Nat} (h : RelD B0 w a b j) (hj : j ≤ 100000) :
    Calls Try.prog 14 #[.pointer (some ⟨a, 0, none⟩), .pointer (some ⟨b, 0, none⟩)] w fun e w' => e = .returned (.bool true) ∧ RelD B0 w' a b j ∧ Below B0 w w' := by
  obtain ⟨D, E, hp, he, hf⟩ := h
  refine (alike_any hp he (hf.more hj) (he.few (hf.more hj))).mono ?_
  rintro e w' ⟨rfl, p, b'⟩
  exact ⟨rfl, ⟨D, E, p, he, hf⟩, b'.mono hp.base⟩
theorem RelD.does {B0 : Nat} {w0 w : World} {a b j : Nat} (h : RelD B0 w a b j) (hj : j ≤ 100000) (hB0 : B0 ≤ w0.heap.size) (hb0 : Below B0 w0 w) (x : Oi) (A1 : Option Addr) (L1 c1 : Nat) (A2 : Option Addr) (L2 c2 : Nat) (e1 : x.a = .slice A1 L1 c1) (e2 : x.lb = .slice A2 L2 c2) (hx : OiAt w0 B0 x) (hs : x.o.xs.length ≤ 200 ∧ x.o.fs.length ≤ 60) :
    Calls Try.prog 13 #[.pointer (some ⟨a, 0, none⟩), .pointer (some ⟨b, 0, none⟩), .agg (opC x.o (.slice A1 L1 c1) (.slice A2 L2 c2))] w fun e w' => e = .returned (.bool true) ∧ RelD B0 w' a b (j + 1) ∧ Below B0 w w' := by
  obtain ⟨D, E, hp, he, hf⟩ := h
  obtain ⟨ho, hi, hss⟩ := hx
  rw [e1] at hi
  rw [e2] at hss
  refine (does_any hp he (hf.more hj) (he.few (hf.more hj)) x.o A1 L1 c1 A2 L2 c2 ho (fun w' hb => hi.below (hb0.trans hb)) (fun w' hb => hss.below (hb0.trans hb)) (by omega) (by omega)).mono ?_
  rintro e w' ⟨rfl, p, b'⟩
  exact ⟨rfl, ⟨_, _, p, he.does x.o, doD_few hf x.o⟩, b'⟩
end Go.Proofs.Ytplombkpefacgaa.Disk
