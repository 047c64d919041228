import Derived.Test.YteldfoplhcnljaaSoA
import Derived.Test.YteldfoplhcnljaaMp
import Derived.Test.YteldfoplhcnljaaEachG
import Derived.Test.YteldfoplhcnljaaSs
/- Edges; whom each waits for: a map of rows. -/
namespace Go.Proofs.Yteldfoplhcnljaa.Knot
open Go.ChangeShapes Go.WideShapes Go.ChangeAt Go.RowKit Go.IntWalk Go.Proofs.Mem Go.Proofs.Each Srt
set_option linter.unusedVariables false
set_option linter.unusedSimpArgs false
structure Ed where
  a : Int
  b : Int
def cEd (x : Ed) : List Value := [.int .u32 x.a, .int .u32 x.b]
def U32 (x : Int) : Prop := 0 ≤ x ∧ x ≤ 4294967295
def Ed.Ok (x : Ed) : Prop := U32 x.a ∧ U32 x.b
abbrev KU : KE Try.prog 23 Int := intKE Try.prog 23 .u32 Try.underlying23
theorem ku_ok {x : Int} : KU.ok x ↔ U32 x := by
  have a1 : IntKind.u32.min = 0 := by decide
  have a2 : IntKind.u32.max = 4294967295 := by decide
  show (Lit.int .u32 x).wf = true ↔ _
  simp [Lit.wf, a1, a2, U32]
theorem zeroSl (w : World) : (zeroValue 24).run Try.prog w = .ok (slEE.ev none) w := by kernel_rfl
theorem u32_info : (Try.prog.info? 23).map (fun i => (i.zero, i.size, i.bytes)) = some (some (.int .u32 0), 1, 4) := by kernel_rfl
/-- the row that stands for a key -/
def vOf (f : Int → Option (Option (Nat × Nat × Nat))) (x : Int) : Value := slEE.ev ((f x).getD none)
/-- block m is a map of rows: those of x are G x -/
structure Grp (w : World) (m base n : Nat) (f : Int → Option (Option (Nat × Nat × Nat))) (G : Int → List Int) : Prop where
  fm : FM KU slEE w m n f
  low : m < base
  row : ∀ x, w.ownsRow base 23 1 (vOf f x) (G x).length ((G x).map (.int .u32))
  apart : ∀ x y b, (vOf f x).ownBlock = some b → (vOf f y).ownBlock = some b → x = y
  some_ : ∀ x h, f x = some h → ∃ t, h = some t
theorem Grp.fr {w w' : World} {m base n : Nat} {f : Int → Option (Option (Nat × Nat × Nat))} {G : Int → List Int} {S : Nat → Prop} (h : Grp w m base n f G) (hf : Fr S w w') (hm : ¬ S m) (hs : ∀ x b, (vOf f x).ownBlock = some b → ¬ S b) : Grp w' m base n f G :=
  ⟨h.fm.fr hf hm, h.low, fun x => own_frS (h.row x) hf (hs x), h.apart, h.some_⟩
theorem Grp.later {w w' : World} {m base n : Nat} {f : Int → Option (Option (Nat × Nat × Nat))} {G : Int → List Int} (h : Grp w m base n f G) (hb : Below w.heap.size w w') : Grp w' m base n f G :=
  h.fr (S := fun _ => False) (Fr.of_below hb) id (fun _ _ _ => id)
theorem own_hdr {w : World} {base n : Nat} {v : Value} {xs : List Value} (h : w.ownsRow base 23 1 v n xs) (hn : 0 < n) : ∃ hd, v = slEE.ev (some hd) := by
  rcases h.2 with ⟨_, h0⟩ | ⟨g, cap, cur, rfl, _⟩
  · omega
  · exact ⟨(g, n, cap), rfl⟩
/-- whom x waits for, in the order of the edges -/
def tos (l : List Ed) (x : Int) : List Int := (l.filter fun e => decide (e.a = x)).map (·.b)
theorem tos_snoc_same (l : List Ed) (e : Ed) : tos (l ++ [e]) e.a = tos l e.a ++ [e.b] := by simp [tos, List.filter_append]
theorem tos_snoc_other (l : List Ed) (e : Ed) {x : Int} (h : x ≠ e.a) : tos (l ++ [e]) x = tos l x := by
  have : decide (e.a = x) = false := by simp; exact fun h1 => h h1.symm
  simp [tos, List.filter_append, this]
theorem tos_len (l : List Ed) (x : Int) : (tos l x).length ≤ l.length := by
  unfold tos; rw [List.length_map]; exact List.length_filter_le _ _
theorem vOf_same (f : Int → Option (Option (Nat × Nat × Nat))) (x : Int) (h : Option (Nat × Nat × Nat)) : vOf (fput f x h) x = slEE.ev h := by
  unfold vOf; rw [fput_same]; rfl
theorem vOf_other (f : Int → Option (Option (Nat × Nat × Nat))) {x y : Int} (h : Option (Nat × Nat × Nat)) (e : y ≠ x) : vOf (fput f x h) y = vOf f y := by
  unfold vOf; rw [fput_other f h e]
/-- what a round of the first loop leaves -/
theorem grp_put {w0s : Nat} {w1 W : World} {m base n LQ : Nat} {f : Int → Option (Option (Nat × Nat × Nat))} {l : List Ed} {ea et : Int} {v0 v1 : Value} {hd : Nat × Nat × Nat} {ys : List Int}
    (h : Grp w1 m (m + 1) n f (tos l)) (hfr : Fr (fun x => v0.ownBlock = some x ∨ x = m) w1 W) (hfm : FM KU slEE W m (n + 1) (fput f ea (some hd))) (e : v1 = slEE.ev (some hd))
    (ho1 : W.ownsRow base 23 1 v1 (LQ + 1) ((ys ++ [et]).map (.int .u32))) (ho2 : v1.ownBlock = v0.ownBlock ∨ ∀ k, v1.ownBlock = some k → w1.heap.size ≤ k)
    (hv : v0 = vOf f ea) (hys : ys = tos l ea) (hL : LQ = ys.length) (hb : base = m + 1) (hrw : ∀ x b, (vOf f x).ownBlock = some b → m < b ∧ b < w0s) (hs : w0s < w1.heap.size) : Grp W m base (n + 1) (fput f ea (some hd)) (tos (l ++ [⟨ea, et⟩])) := by
  subst hb
  refine ⟨hfm, h.low, fun x => ?_, fun x y b hx hy => ?_, fun x k hk => ?_⟩
  · by_cases hx : x = ea
    · subst hx
      rw [vOf_same, tos_snoc_same l ⟨x, et⟩, ← hys, ← e]
      simpa [hL] using ho1
    · rw [vOf_other f _ hx, tos_snoc_other l ⟨ea, et⟩ hx]
      refine own_frS (h.row x) hfr (fun k hk hS => ?_)
      rcases hS with h1 | h1
      · rw [hv] at h1
        exact hx (h.apart _ _ _ hk h1)
      · have := hrw x k hk
        omega
  · by_cases e1 : x = ea
    · by_cases e2 : y = ea
      · rw [e1, e2]
      · subst e1
        rw [vOf_same, ← e] at hx
        rw [vOf_other f _ e2] at hy
        rcases ho2 with h1 | h1
        · rw [h1, hv] at hx
          exact h.apart _ _ _ hx hy
        · have := h1 _ hx
          have := hrw y b hy
          omega
    · rw [vOf_other f _ e1] at hx
      by_cases e2 : y = ea
      · subst e2
        rw [vOf_same, ← e] at hy
        rcases ho2 with h1 | h1
        · rw [h1, hv] at hy
          exact h.apart _ _ _ hx hy
        · have := h1 _ hy
          have := hrw x b hx
          omega
      · rw [vOf_other f _ e2] at hy
        exact h.apart _ _ _ hx hy
  · unfold fput at hk
    split at hk
    · injection hk with hk; exact ⟨hd, hk.symm⟩
    · exact h.some_ x k hk
def U32s (l : List Ed) : Prop := ∀ e ∈ l, e.Ok
theorem tos_none {l : List Ed} (h : U32s l) {x : Int} (hx : ¬ U32 x) : tos l x = [] := by
  unfold tos
  rw [List.map_eq_nil_iff, List.filter_eq_nil_iff]
  intro e he h1
  simp at h1
  exact hx (h1 ▸ (h e he).1)
/-- the rows are sorted one by one -/
structure GS (w : World) (m r base n : Nat) (f : Int → Option (Option (Nat × Nat × Nat))) (G0 : Int → List Int) (left : Int → Bool) (cnt : Nat) (G : Int → List Int) : Prop where
  fr : FR KU slEE w m r n f left cnt
  row : ∀ x, w.ownsRow base 23 1 (vOf f x) (G x).length ((G x).map (.int .u32))
  perm : ∀ x, (G x).Perm (G0 x)
  srt : ∀ x, KU.ok x → left x = false → (G x).Pairwise (· ≤ ·)
theorem own_nil {w : World} {base n : Nat} {xs : List Value} (h : w.ownsRow base 23 1 (.slice none 0 0) n xs) : n = 0 := by
  rcases h.2 with ⟨_, h0⟩ | ⟨g, cap, cur, e, _⟩
  · exact h0
  · cases e
theorem gs_start {w w' : World} {m n cnt : Nat} {f : Int → Option (Option (Nat × Nat × Nat))} {l : List Ed} (h : Grp w m (m + 1) n f (tos l)) (hl : U32s l) (hb : Below w.heap.size w w') (hfr : FR KU slEE w' m w.heap.size n f (fun x => (f x).isSome) cnt) :
    GS w' m w.heap.size (m + 1) n f (tos l) (fun x => (f x).isSome) cnt (tos l) :=
  ⟨hfr, fun x => own_below (h.row x) hb, fun x => List.Perm.refl _, fun x hx hn => by
    have hf : f x = none := by cases e : f x with
      | none => rfl
      | some y => rw [e] at hn; cases hn
    have h1 := h.row x
    have h2 : vOf f x = .slice none 0 0 := by unfold vOf; rw [hf]; rfl
    rw [h2] at h1
    have h3 := own_nil h1
    rw [List.eq_nil_of_length_eq_zero h3]
    exact List.Pairwise.nil⟩
section
variable {w : World} {m r base n cnt : Nat} {f : Int → Option (Option (Nat × Nat × Nat))} {G0 G : Int → List Int} {left : Int → Bool}
theorem GS.grp (h : GS w m r base n f G0 left cnt G) {w0 : World} {G1 : Int → List Int} (h0 : Grp w0 m base n f G1) : Grp w m base n f G := ⟨h.fr.fm, h0.low, h.row, h0.apart, h0.some_⟩
theorem GS.sorted {l : List Ed} (h : GS w m r base n f (tos l) left cnt G) (hl : U32s l) (hd : ∀ x, KU.ok x → left x = false) (x : Int) : (G x).Pairwise (· ≤ ·) := by
  by_cases hx : U32 x
  · exact h.srt x (ku_ok.2 hx) (hd x (ku_ok.2 hx))
  · have h1 := h.perm x
    rw [tos_none hl hx] at h1
    rw [List.Perm.eq_nil h1]
    exact List.Pairwise.nil
theorem GS.row_ra (h : GS w m r base n f G0 left cnt G) {w0 : World} {G1 : Int → List Int} (h0 : Grp w0 m base n f G1) {x : Int} {g n0 c0 : Nat} (hf : f x = some (some (g, n0, c0))) : RA w g c0 (G x).toArray ∧ (G x).length = n0 ∧ base ≤ g ∧ g ≠ r := by
  have h1 := h.row x
  have h2 : vOf f x = .slice (some ⟨g, 0, none⟩) n0 c0 := by unfold vOf; rw [hf]; rfl
  have h1' := h1
  rw [h2] at h1'
  have h5 : (G x).length = n0 := by
    rcases h1'.2 with ⟨e, _⟩ | ⟨g', cap, cur, e, _⟩
    · cases e
    · injection e with _ e2 _; exact e2.symm
  rw [h2, h5] at h1
  obtain ⟨k1, k2, k3⟩ := RA.of_own h1
  refine ⟨k1, k2, k3, ?_⟩
  obtain ⟨cur, hb, _⟩ := k1
  exact h.fr.ne_box hb
end
theorem gs_round {w w3 w4 : World} {m r base n cnt cnt' g n0 c0 : Nat} {f : Int → Option (Option (Nat × Nat × Nat))} {G0 G : Int → List Int} {left : Int → Bool} {w0 : World} {G1 : Int → List Int} {x : Int} {d' : Array Int}
    (h : GS w m r base n f G0 left cnt G) (h0 : Grp w0 m base n f G1) (hf : f x = some (some (g, n0, c0))) (hx : KU.ok x) (hfr : FR KU slEE w3 m r n f (but left x) cnt') (hF : Fr (fun j => j = r) w w3)
    (q1 : RA w4 g c0 d') (q2 : Sort.PermIn 0 n0 (G x).toArray d') (q3 : Sort.SortedIn lt 0 n0 d') (q4 : Fr (fun j => j = g) w3 w4) : GS w4 m r base n f G0 (but left x) cnt' (fun y => if y = x then d'.toList else G y) := by
  obtain ⟨k1, k2, k3, k4⟩ := h.row_ra h0 hf
  have hv : vOf f x = .slice (some ⟨g, 0, none⟩) n0 c0 := by unfold vOf; rw [hf]; rfl
  have hsz : d'.size = n0 := by rw [q2.1]; simpa using k2
  have hp : d'.toList.Perm (G x) := by
    have h1 := q2.2.2
    have e1 : d'.extract 0 n0 = d' := by rw [← hsz]; simp
    have e2 : (G x).toArray.extract 0 n0 = (G x).toArray := by rw [← k2]; simp
    rw [e1, e2] at h1
    simpa using h1
  have hgm : g ≠ m := by have := h0.low; omega
  have hown : ∀ y b, y ≠ x → (vOf f y).ownBlock = some b → b ≠ g := fun y b hy hb e => hy (h0.apart y x b hb (by rw [hv, e]; rfl))
  have hown2 : ∀ y b, (vOf f y).ownBlock = some b → b ≠ r := fun y b hb e => by
    have h1 := h.row y
    rcases h1.2 with ⟨e1, _⟩ | ⟨g', cap, cur, e1, _, hh, _⟩
    · rw [e1] at hb; cases hb
    · rw [e1] at hb
      injection hb with hb
      subst hb
      exact h.fr.ne_box hh e
  refine ⟨hfr.fr q4 (fun e => hgm e.symm) (fun e => k4 e.symm), fun y => ?_, fun y => ?_, fun y hy hl => ?_⟩
  · show w4.ownsRow base 23 1 (vOf f y) (if y = x then d'.toList else G y).length ((if y = x then d'.toList else G y).map (.int .u32))
    by_cases e : y = x
    · subst e
      rw [if_pos rfl, hv]
      have h1 := q1.own hsz k3
      have h2 : d'.toList.length = n0 := by simpa using hsz
      rw [h2]
      exact h1
    · rw [if_neg e]
      exact own_frS (own_frS (h.row y) hF (fun b hb => hown2 y b hb)) q4 (fun b hb => hown y b e hb)
  · show (if y = x then d'.toList else G y).Perm (G0 y)
    by_cases e : y = x
    · subst e; rw [if_pos rfl]; exact hp.trans (h.perm y)
    · rw [if_neg e]; exact h.perm y
  · show (if y = x then d'.toList else G y).Pairwise (· ≤ ·)
    by_cases e : y = x
    · subst e
      rw [if_pos rfl, List.pairwise_iff_getElem]
      intro i j hi hj hij
      have h1 := q3 i j (Nat.zero_le _) hij (by rw [← hsz]; simpa using hj)
      have h2 : d'[i]! ≤ d'[j]! := by simpa [lt, Sort.ltInt] using h1
      have hi' : i < d'.size := by simpa using hi
      have hj' : j < d'.size := by simpa using hj
      simpa [hi', hj'] using h2
    · rw [if_neg e]
      refine h.srt y hy ?_
      unfold but at hl
      simpa [e] using hl
set_option maxRecDepth 100000 in
set_option maxHeartbeats 4000000 in
theorem ways_any (w : World) (v : Value) (xs : List Ed) (hv : SS cEd 2 w w.heap.size v xs) (hok : ∀ e ∈ xs, e.Ok) (hlen : xs.length ≤ 1000) :
    Calls Try.prog 16 #[v] w fun e w' => e = .returned (.map (some w.heap.size)) ∧ (∃ n f G, Grp w' w.heap.size (w.heap.size + 1) n f G ∧ ∀ x, (G x).Perm (tos xs x) ∧ (G x).Pairwise (· ≤ ·)) ∧ Below w.heap.size w w' := by
  obtain ⟨j0, hj0, hj1, hj2, hj3⟩ := info_parts u32_info
  obtain ⟨A, c, rfl, hc1, hc2⟩ := hv.form
  have hmm := @run_makeMap Try.prog
  have HV := Lib.hid hv
  have HK := Lib.hid hok
  have HN := Lib.hid hlen
  obtain ⟨N, hN⟩ : ∃ N, N = xs.length := ⟨_, rfl⟩
  obtain ⟨m, hm⟩ : ∃ m, m = w.heap.size := ⟨_, rfl⟩
  rw [← hm]
  have hG0 : Grp (w.alloc (.map #[] 0)) m (m + 1) 0 (fun _ => none) (tos []) := by
    subst hm
    exact ⟨FM.made _ _ _, Nat.lt_succ_self _, fun x => ⟨rfl, .inl ⟨rfl, rfl⟩⟩, fun x y b h => (by cases h), fun x h e => (by cases e)⟩
  have HG := Lib.hid hG0
  have HB := Lib.hid (show Below w.heap.size w (w.alloc (.map #[] 0)) from (Below.refl _ _).alloc (Nat.le_refl _) _)
  have HM := Lib.hid hm
  have HNL := Lib.hid hN
  have hm2 := hm.symm
  have hN2 := hN.symm
  have bN : (N : Int) ≤ 1000 := by omega
  rw [hN2]
  clear hv hok hlen hG0 hm hN hN2
  go_enter Try.func16, Try.ntmps16
  go_wp2
  go_loopw [11] (fun s wr => ∃ (k n : Nat) (f : Int → Option (Option (Nat × Nat × Nat))), k ≤ N ∧ n ≤ k ∧ s = .int .i64 k ∧ Hid (Grp wr m (m + 1) n f (tos (xs.take k))) ∧ Hid (Below w.heap.size w wr)) (fun s _ => N - (intOf s).toNat)
  case atStart => exact ⟨0, 0, _, Nat.zero_le _, Nat.le_refl _, rfl, HG, HB⟩
  case round =>
    obtain ⟨k, n, f, hk, hn, rfl, HG1, HB1⟩ := hrel
    obtain ⟨w0, rfl⟩ : ∃ w0, w0 = wr := ⟨wr, rfl⟩
    clear HG HB
    by_cases hl : k < N
    · have d1 : decide ((k : Int) < (N : Int)) = true := by simp; omega
      have d1' : decide (k < N) = true := by simp; omega
      obtain ⟨e, he⟩ : ∃ e, xs[k]? = some e := ⟨_, List.getElem?_eq_getElem (by have := HNL.out; omega)⟩
      obtain ⟨sb, so, hA, hsb, hcell⟩ := HV.out.at_ he
      subst hA
      have r0 : w0.cell? ⟨sb, so + k * 2, none⟩ = some (.int .u32 e.a) := by rw [HB1.out.cell hsb]; simpa using hcell 0 _ rfl
      have r1 : w0.cell? ⟨sb, so + k * 2 + 1, none⟩ = some (.int .u32 e.b) := by rw [HB1.out.cell hsb]; simpa using hcell 1 _ rfl
      have HE := Lib.hid he
      have HOK := Lib.hid (HK.out e (List.mem_of_getElem? he))
      obtain ⟨ea, et⟩ := e
      obtain ⟨k', hk'⟩ : ∃ k', k' = k + 1 := ⟨_, rfl⟩
      have sk : (k : Int) + 1 = (k' : Int) := by omega
      have bk : (k : Int) ≤ 1000 := by omega
      have HKK := Lib.hid (⟨hk', hl, hn⟩ : k' = k + 1 ∧ k < N ∧ n ≤ k)
      have hkn := hl
      clear he hcell hk' hl hn hk
      go_upto_region 5 with fail
      have hbe := new_ (Below.refl w0.heap.size w0) (.cells #[.int .u32 ea, .int .u32 et] 35)
      have HG2 := Lib.hid (HG1.out.later hbe)
      have BX := Lib.hid (Box.new w0 #[.int .u32 ea, .int .u32 et] 35)
      have HB2 := Lib.hid (HB1.out.trans (hbe.mono HB1.out.size))
      have HBE := Lib.hid hbe
      obtain ⟨eb, heb⟩ : ∃ eb, eb = w0.heap.size := ⟨_, rfl⟩
      rw [← heb] at BX ⊢
      obtain ⟨w1, hw1⟩ : ∃ w1, w1 = w0.alloc (.cells #[.int .u32 ea, .int .u32 et] 35) := ⟨_, rfl⟩
      rw [← hw1] at BX HG2 HB2 HBE ⊢
      have hml := HG1.out.fm.lt
      have hm1 := HB1.out.size
      have HRE0 : ∀ x b, (vOf f x).ownBlock = some b → m < b ∧ b < w0.heap.size := fun x b hb => by
        have := (HG1.out.row x).lt b hb
        exact ⟨by omega, this.2⟩
      have HSZ := Lib.hid (show w0.heap.size < w1.heap.size by have := BX.out.lt; omega)
      have HRW := Lib.hid HRE0
      obtain ⟨ys, hys⟩ : ∃ ys, ys = tos (xs.take k) ea := ⟨_, rfl⟩
      obtain ⟨LQ, hL⟩ : ∃ L, L = ys.length := ⟨_, rfl⟩
      obtain ⟨v0, hv0⟩ : ∃ v0, v0 = vOf f ea := ⟨_, rfl⟩
      obtain ⟨base, hbase⟩ : ∃ b, b = m + 1 := ⟨_, rfl⟩
      have HV0 := Lib.hid (show v0 = slEE.ev ((f ea).getD none) from hv0)
      have HRE := Lib.hid (show v0.ownBlock ≠ some eb ∧ eb ≠ m from ⟨fun h => by rw [hv0] at h; have := HRE0 _ _ h; omega, by omega⟩)
      have HRM := Lib.hid (show v0.ownBlock ≠ some m from fun h => by rw [hv0] at h; have := HRE0 _ _ h; omega)
      have HRL := Lib.hid (show ∀ j, v0.ownBlock = some j → j < w1.heap.size from fun j h => by rw [hv0] at h; have := HRE0 _ _ h; have := HSZ.out; omega)
      have OW := Lib.hid (show w1.ownsRow base 23 1 v0 LQ (ys.map (.int .u32)) by rw [hv0, hL, hys, hbase]; exact HG2.out.row ea)
      have HEA := Lib.hid (ku_ok.2 HOK.out.1)
      have HLB := Lib.hid (show LQ ≤ 1000 by have h1 := tos_len (xs.take k) ea; rw [List.length_take] at h1; rw [hL, hys]; omega)
      have HBS := Lib.hid (show base ≤ w1.heap.size by have := HSZ.out; omega)
      have HNB := Lib.hid (show n ≤ 1000 by have := HKK.out; omega)
      have FMH := Lib.hid HG2.out.fm
      have HYS := Lib.hid hys
      have HVF := Lib.hid hv0
      have HBA := Lib.hid hbase
      have HLL := Lib.hid hL
      have HEB := Lib.hid heb
      clear hbe heb hw1 hml hm1 HRE0 hys hL hv0 hbase r0 r1
      · skip
        refine wp_region_apm (by kernel_rfl) (by kernel_rfl) v0.ownBlock m 10 11 (fun v W => ∃ hd, v = slEE.ev (some hd) ∧ FM KU slEE W m (n + 1) (fput f ea (some hd))) [(fun v _ => v = .map (some m)), (fun v _ => v = .pointer (some ⟨eb, 0, none⟩)), (fun v _ => v = .int .u32 ea), (fun v _ => v = .map (some m)), (fun v _ => v = .pointer (some ⟨eb, 0, none⟩)), (fun v _ => v = .int .u32 ea), (fun v _ => v = v0), (fun v _ => v = .pointer (some ⟨eb, 1, none⟩)), (fun v _ => v = .int .u32 et), (fun v W => ∃ g1, v = .slice (some ⟨g1, 0, none⟩) 1 1 ∧ w1.heap.size ≤ g1 ∧ Box W g1 #[.int .u32 et] 23), (fun v W => W.ownsRow base 23 1 v (LQ + 1) ((ys ++ [et]).map (.int .u32)) ∧ (v.ownBlock = v0.ownBlock ∨ ∀ k, v.ownBlock = some k → w1.heap.size ≤ k)), (fun v _ => v = undef)] (by decide) (by intro o ho; injection ho with ho; subst ho; exact ⟨⟨10, .data⟩, by simp, rfl, rfl⟩) (fun v W W' hf h => by obtain ⟨hd, h1, h2⟩ := h; exact ⟨hd, h1, h2.fr hf (fun e => HRM.out e)⟩) ?_ (fun vals => ?_) (fun vals W hfr hfin hall _ => ?_) (by decide)
        · intro j v W W' hj hsz hf h
          match j, hj, h with
          | 0, _, h => exact h
          | 1, _, h => exact h
          | 2, _, h => exact h
          | 3, _, h => exact h
          | 4, _, h => exact h
          | 5, _, h => exact h
          | 6, _, h => exact h
          | 7, _, h => exact h
          | 8, _, h => exact h
          | 9, _, h => obtain ⟨g1, e1, e2, e3⟩ := h; exact ⟨g1, e1, e2, e3.fr hf (fun hk => by rcases hk with ⟨_, h1⟩ | h1; (have := HRL.out _ h1; omega); (have := FMH.out.lt; omega))⟩
          | 10, _, h => obtain ⟨e1, e2⟩ := h; exact ⟨own_frS e1 hf (fun k hk hs => by rcases hs with ⟨h1, _⟩ | h1; (exact h1 rfl); (subst h1; rcases e2 with h3 | h3; (rw [h3] at hk; exact HRM.out hk); (have := h3 _ hk; have := FMH.out.lt; omega))), e2⟩
          | 11, hj, _ => exact absurd rfl hj
          | _ + 12, _, _ => trivial
        · simp only [ObL, Act.put, List.setIfInBounds_toArray, List.set_cons_succ, List.set_cons_zero]
          refine ⟨?_, ?_, ?_, ?_, ?_, ?_, ?_, ?_, ?_, ?_, ?_, ?_, trivial⟩
          · intro L W hL hk hC hw
            clear hw
            clear hL hC hk
            refine step_plain rfl ?_
            go_simp
            first | exact ⟨Ra.same _, Fg.val (by decide) rfl rfl⟩ | exact ⟨_, rfl, Ra.same _, Fg.val (by decide) rfl rfl⟩
          · intro L W hL hk hC hw
            clear hw
            clear hL hC hk
            refine step_plain rfl ?_
            go_simp
            first | exact ⟨Ra.same _, Fg.val (by decide) rfl rfl⟩ | exact ⟨_, rfl, Ra.same _, Fg.val (by decide) rfl rfl⟩
          · intro L W hL hk hC hw
            have f1 : vals 1 = .pointer (some ⟨eb, 0, none⟩) := Fg.get (hw ⟨1, .data⟩ (by simp) rfl) (by decide)
            clear hw
            have bx := BX.out.fr hC (fun h => by rcases h with ⟨_, h1⟩ | ⟨_, h1⟩; exact HRE.out.1 h1; exact HRE.out.2 h1)
            have kc : W.cell? ⟨eb, 0, none⟩ = some (.int .u32 ea) := by rw [bx.cell]; rfl
            clear hL hC hk bx
            refine step_plain rfl ?_
            go_simp
            first | exact ⟨Ra.same _, Fg.val (by decide) rfl rfl⟩ | exact ⟨_, rfl, Ra.same _, Fg.val (by decide) rfl rfl⟩
          · intro L W hL hk hC hw
            clear hw
            clear hL hC hk
            refine step_plain rfl ?_
            go_simp
            first | exact ⟨Ra.same _, Fg.val (by decide) rfl rfl⟩ | exact ⟨_, rfl, Ra.same _, Fg.val (by decide) rfl rfl⟩
          · intro L W hL hk hC hw
            clear hw
            clear hL hC hk
            refine step_plain rfl ?_
            go_simp
            first | exact ⟨Ra.same _, Fg.val (by decide) rfl rfl⟩ | exact ⟨_, rfl, Ra.same _, Fg.val (by decide) rfl rfl⟩
          · intro L W hL hk hC hw
            have f4 : vals 4 = .pointer (some ⟨eb, 0, none⟩) := Fg.get (hw ⟨4, .data⟩ (by simp) rfl) (by decide)
            clear hw
            have bx := BX.out.fr hC (fun h => by rcases h with ⟨_, h1⟩ | ⟨_, h1⟩; exact HRE.out.1 h1; exact HRE.out.2 h1)
            have kc : W.cell? ⟨eb, 0, none⟩ = some (.int .u32 ea) := by rw [bx.cell]; rfl
            clear hL hC hk bx
            refine step_plain rfl ?_
            go_simp
            first | exact ⟨Ra.same _, Fg.val (by decide) rfl rfl⟩ | exact ⟨_, rfl, Ra.same _, Fg.val (by decide) rfl rfl⟩
          · intro L W hL hk hC hw
            have f3 : vals 3 = .map (some m) := Fg.get (hw ⟨3, .data⟩ (by simp) rfl) (by decide)
            have f5 : vals 5 = .int .u32 ea := Fg.get (hw ⟨5, .data⟩ (by simp) rfl) (by decide)
            clear hw
            have hm := FMH.out.fr hC (fun h => by rcases h with ⟨_, h1⟩ | ⟨h1, _⟩; (exact HRM.out h1); (rw [hL.not_yet hk 11 8 (by decide +kernel)] at h1; cases h1))
            have hl : (Instr.lookup 37 (.map (some m)) (.int .u32 ea) false).run Try.prog W = .ok v0 W := by rw [HV0.out]; exact (hm.look Try.underlying37 none (zeroSl W) ea HEA.out).1
            clear hL hC hk hm
            refine step_plain rfl ?_
            go_simp
            first | exact ⟨Ra.same _, Fg.val (by decide) rfl rfl⟩ | exact ⟨_, rfl, Ra.same _, Fg.val (by decide) rfl rfl⟩
          · intro L W hL hk hC hw
            clear hw
            clear hL hC hk
            refine step_plain rfl ?_
            go_simp
            first | exact ⟨Ra.same _, Fg.val (by decide) rfl rfl⟩ | exact ⟨_, rfl, Ra.same _, Fg.val (by decide) rfl rfl⟩
          · intro L W hL hk hC hw
            have f7 : vals 7 = .pointer (some ⟨eb, 1, none⟩) := Fg.get (hw ⟨7, .data⟩ (by simp) rfl) (by decide)
            clear hw
            have bx := BX.out.fr hC (fun h => by rcases h with ⟨_, h1⟩ | ⟨_, h1⟩; exact HRE.out.1 h1; exact HRE.out.2 h1)
            have kc : W.cell? ⟨eb, 1, none⟩ = some (.int .u32 et) := by rw [bx.cell]; rfl
            clear hL hC hk bx
            refine step_plain rfl ?_
            go_simp
            first | exact ⟨Ra.same _, Fg.val (by decide) rfl rfl⟩ | exact ⟨_, rfl, Ra.same _, Fg.val (by decide) rfl rfl⟩
          · intro L W hL hk hC hw
            have f8 : vals 8 = .int .u32 et := Fg.get (hw ⟨8, .data⟩ (by simp) rfl) (by decide)
            clear hw
            have hsz := Lib.hid (show w1.heap.size ≤ W.heap.size from hC.size)
            clear hL hC hk
            refine step_plain rfl ?_
            go_simp
            have hz := new_ (Below.refl W.heap.size W) (.cells #[.int .u32 et] 23)
            first | exact ⟨Ra.of_below hz, Fg.val (by decide) rfl ⟨_, rfl, hsz.out, Box.new _ _ _⟩⟩ | exact ⟨_, rfl, Ra.of_below hz, Fg.val (by decide) rfl ⟨_, rfl, hsz.out, Box.new _ _ _⟩⟩
          · intro L W hL hk hC hw
            have f6 : vals 6 = v0 := Fg.get (hw ⟨6, .data⟩ (by simp) rfl) (by decide)
            have f9 : ∃ g1, (vals 9) = .slice (some ⟨g1, 0, none⟩) 1 1 ∧ w1.heap.size ≤ g1 ∧ Box W g1 #[.int .u32 et] 23 := Fg.get (hw ⟨9, .data⟩ (by simp) rfl) (by decide)
            clear hw
            have hb := hC.below hk (hL.not_yet hk 11 8 (by decide +kernel))
            have ow := own_below OW.out hb
            obtain ⟨g1, e7, hg1, hbx⟩ := f9
            have hwb := hb.size
            clear hL hC hk hb
            refine step_plain rfl ?_
            refine wp_push W _ _ _ rfl base 23 j0 _ 1 4 Try.underlying24 hj0 hj1 hj2 hj3 rfl (by decide) [.int .u32 et] rfl (by intro u hu; simp at hu; subst hu; rfl) v0 LQ (ys.map (.int .u32)) f6 ow g1 _ e7 hbx (by simp only [maxLen]; have := HLB.out; omega) (by have := HLB.out; omega) (Nat.le_trans HBS.out hwb) ?_
            intro v1 w2 ho1 hgr1 hb1
            exact ⟨_, rfl, Fr.grown (Fr.refl _ _) hgr1 (fun g e => .inl (.inl ⟨rfl, e⟩)), Fg.val (by decide) rfl ⟨by rw [List.map_append]; exact ho1, by
            rcases hb1 with h | h
            · exact .inl h
            · exact .inr (fun k hk => by rw [h] at hk; injection hk with hk; omega)⟩⟩
          · intro L W hL hk hC hw
            have f0 : vals 0 = .map (some m) := Fg.get (hw ⟨0, .data⟩ (by simp) rfl) (by decide)
            have f2 : vals 2 = .int .u32 ea := Fg.get (hw ⟨2, .data⟩ (by simp) rfl) (by decide)
            have f10 : W.ownsRow base 23 1 (vals 10) (LQ + 1) ((ys ++ [et]).map (.int .u32)) ∧ ((vals 10).ownBlock = v0.ownBlock ∨ ∀ k, (vals 10).ownBlock = some k → w1.heap.size ≤ k) := Fg.get (hw ⟨10, .data⟩ (by simp) rfl) (by decide)
            clear hw
            have hm := FMH.out.fr hC (fun h => by rcases h with ⟨_, h1⟩ | ⟨h1, _⟩; (exact HRM.out h1); (rw [hk] at h1; cases h1))
            obtain ⟨ho1, ho2⟩ := f10
            obtain ⟨⟨hd1, hd2, hd3⟩, e10⟩ := own_hdr ho1 (Nat.succ_pos _)
            obtain ⟨w2, hr, hfm, hgr⟩ := hm.put Try.underlying37 (by unfold maxLen; have := HNB.out; omega) ea HEA.out (some (hd1, hd2, hd3))
            have hr' : (Instr.mapUpdate 37 (.map (some m)) (.int .u32 ea) (slEE.ev (some (hd1, hd2, hd3)))).run Try.prog W = .ok () w2 := hr
            clear hL hC hk hm hr
            refine step_plain rfl ?_
            go_simp
            exact ⟨Fr.grown (Fr.refl _ _) hgr (fun g e => .inl (.inr ⟨rfl, by injection e with e; exact e.symm⟩)), undef, Fg.last (by decide) ⟨hd1, hd2, hd3, e10, hfm⟩⟩
        · simp only [TL, Act.put, List.setIfInBounds_toArray, List.set_cons_succ, List.set_cons_zero]
          obtain ⟨hd, e10, hfm⟩ := hfin
          obtain ⟨ho1, ho2⟩ : W.ownsRow base 23 1 (vals 10) (LQ + 1) ((ys ++ [et]).map (.int .u32)) ∧ ((vals 10).ownBlock = v0.ownBlock ∨ ∀ k, (vals 10).ownBlock = some k → w1.heap.size ≤ k) := hall 10 (by decide) (by decide)
          have HG3 := Lib.hid (grp_put HG2.out hfr hfm e10 ho1 ho2 HVF.out HYS.out HLL.out HBA.out HRW.out HSZ.out)
          have HB3 := Lib.hid (show Below w.heap.size w W from HB2.out.trans (hfr.to_below (fun j hj => by
            have h1 := HM.out
            rcases hj with h | h
            · have h2 := HRW.out ea j (by rw [← HVF.out]; exact h)
              omega
            · omega) HB2.out.size))
          generalize vals 0 = u0
          generalize vals (0 + 1) = u1
          clear hall hfr hfm e10 ho1 ho2
          go_wp2
          go_roundw
          case rel => exact ⟨k', n + 1, _, by have := HKK.out; omega, by have := HKK.out; omega, rfl, Lib.hid (by rw [← HBA.out, HKK.out.1, List.take_add_one, HE.out]; exact HG3.out), HB3⟩
          case measure => simp [intOf]; have := HKK.out; omega
    · have d1 : decide ((k : Int) < (N : Int)) = false := by simp; omega
      have d1' : decide (k < N) = false := by simp; omega
      obtain rfl : k = N := by omega
      have HGN := Lib.hid (show Grp w0 m (m + 1) n f (tos xs) by
        have h := HG1.out
        rwa [HNL.out, List.take_length] at h)
      clear HG1 d1 d1' hl
      have HNN := Lib.hid (show n ≤ 1000 ∧ U32s xs from ⟨by have := HN.out; have := HNL.out; omega, HK.out⟩)
      clear hn hk bN
      go_wp2_with (first
        | (at_range; refine wpList_range_fm (E := KU) (V := slEE) rfl _ _ rfl _ Try.underlying37 rfl HGN.out.fm ?_; intro w1 cnt hfr hcnt hbw hsz))
      have HF1 := Lib.hid (gs_start HGN.out HNN.out.2 hbw hfr)
      have HB2 := Lib.hid (show Below w.heap.size w w1 from HB1.out.trans (hbw.mono HB1.out.size))
      obtain ⟨r, hr⟩ : ∃ r, r = w0.heap.size := ⟨_, rfl⟩
      rw [← hr] at HF1 ⊢
      have HRR := Lib.hid (show w.heap.size ≤ r by rw [hr]; exact HB1.out.size)
      clear hfr hcnt hbw hsz hr
      go_frame
      go_loopw [7] (fun _ wr => ∃ (left : Int → Bool) (cnt : Nat) (G : Int → List Int), Hid (GS wr m r (m + 1) n f (tos xs) left cnt G) ∧ Hid (Below w.heap.size w wr)) (fun _ wr => wr.rangeLeft m r)
      case atStart => exact ⟨_, _, _, HF1, HB2⟩
      case round =>
        obtain ⟨left, cnt, G, HG, HB⟩ := hrel
        obtain ⟨w2, rfl⟩ : ∃ w2, w2 = wr := ⟨wr, rfl⟩
        go_wp2_with (first
          | (at_next; refine wpList_next_fm (E := KU) (V := slEE) rfl _ rfl rfl HG.out.fr ?_ ?_))
        · intro hl0
          have HL := Lib.hid hl0
          clear hl0
          go_wp2
          go_ret
          exact ⟨rfl, ⟨n, f, G, HG.out.grp HGN.out, fun x => ⟨HG.out.perm x, HG.out.sorted HNN.out.2 HL.out x⟩⟩, by rw [HM.out]; exact HB.out⟩
        · intro x b w3 cnt' hx hlx hfx hfr3 hlt hF3 hsz3 hen
          obtain ⟨⟨g, n0, c0⟩, rfl⟩ := HGN.out.some_ x b hfx
          obtain ⟨hra, hn0, hgm, hgr⟩ := HG.out.row_ra HGN.out hfx
          have hra3 := hra.fr hF3 hgr
          have hb0 : n0 ≤ 1000000 := by have h1 := (HG.out.perm x).length_eq; have h2 := tos_len xs x; have := HN.out; omega
          have CS := Lib.hid (Srt.sort_any w3 g n0 c0 _ hra3 (by simpa using hn0) hb0)
          have HFX := Lib.hid hfx
          have HFR := Lib.hid hfr3
          have HF3 := Lib.hid hF3
          have HLT := Lib.hid (show cnt' < w2.rangeLeft m r by rw [HG.out.fr.left_eq]; exact hlt)
          have HXX := Lib.hid (⟨hx, hlx⟩ : KU.ok x ∧ left x = true)
          have HGG := Lib.hid (⟨hgm, hgr⟩ : m + 1 ≤ g ∧ g ≠ r)
          have hen' : (Instr.entry (.pointer (some ⟨r, 0, none⟩))).run Try.prog w3 = .ok (.tuple #[.int .u32 x, .slice (some ⟨g, 0, none⟩) n0 c0]) w3 := hen
          clear hfx hra hra3 hb0 hfr3 hlt hF3 hsz3 hen hlx hn0 hgm hgr
          go_wp2_with fail
          (with_reducible refine CS.out.mono ?_)
          rintro e w4 ⟨rfl, ⟨d', q1, q2, q3⟩, q4⟩
          have HG4 := Lib.hid (gs_round HG.out HGN.out HFX.out HXX.out.1 HFR.out HF3.out q1 q2 q3 q4)
          have HB4 := Lib.hid (show Below w.heap.size w w4 from (HB.out.trans (HF3.out.to_below (fun j hj => by have := HRR.out; omega) HB.out.size)).trans (q4.to_below (fun j hj => by have := HM.out; have := HGG.out; omega) (Nat.le_trans HB.out.size HF3.out.size)))
          clear q1 q2 q3 q4
          go_wp2
          go_roundw
          case rel => exact ⟨_, cnt', _, HG4, HB4⟩
          case measure => rw [HG4.out.fr.left_eq]; exact HLT.out
end Go.Proofs.Yteldfoplhcnljaa.Knot
