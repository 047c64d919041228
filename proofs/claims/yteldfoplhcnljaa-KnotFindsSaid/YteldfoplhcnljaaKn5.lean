import Derived.Test.YteldfoplhcnljaaKn4
import Derived.Laws.EntriesVeiled
/- The ring. -/
namespace Go.Proofs.Yteldfoplhcnljaa.Knot
open Go.ChangeShapes Go.WideShapes Go.ChangeAt Go.RowKit Go.IntWalk Go.Proofs.Mem Go.Proofs.Each Srt Go.Proofs.Ring
set_option linter.unusedVariables false
set_option linter.unusedSimpArgs false
def insI (x : Int) : List Int → List Int
  | [] => [x]
  | y :: l => if x ≤ y then x :: y :: l else y :: insI x l
theorem insI_mem (x z : Int) : ∀ l, z ∈ insI x l ↔ z = x ∨ z ∈ l
  | [] => by simp [insI]
  | y :: l => by
    unfold insI
    split
    · simp
    · rw [List.mem_cons, insI_mem x z l, List.mem_cons]
      constructor
      · rintro (h | h | h)
        · exact .inr (.inl h)
        · exact .inl h
        · exact .inr (.inr h)
      · rintro (h | h | h)
        · exact .inr (.inl h)
        · exact .inl h
        · exact .inr (.inr h)
theorem insI_sorted (x : Int) : ∀ l : List Int, l.Pairwise (· ≤ ·) → (insI x l).Pairwise (· ≤ ·)
  | [], _ => by simp [insI]
  | y :: l, h => by
    have h' := List.pairwise_cons.1 h
    unfold insI
    split
    · rw [List.pairwise_cons]
      refine ⟨fun z hz => ?_, h⟩
      rcases List.mem_cons.1 hz with e | e
      · omega
      · have := h'.1 z e; omega
    · rw [List.pairwise_cons]
      refine ⟨fun z hz => ?_, insI_sorted x l h'.2⟩
      rcases (insI_mem x z l).1 hz with e | e
      · omega
      · exact h'.1 z e
/-- whom x waits for, rising -/
def srt (l : List Ed) (x : Int) : List Int := (tos l x).foldr insI []
theorem srt_sorted (l : List Ed) (x : Int) : (srt l x).Pairwise (· ≤ ·) := by
  unfold srt
  induction tos l x with
  | nil => exact List.Pairwise.nil
  | cons a m ih => exact insI_sorted a _ ih
theorem srt_mem (l : List Ed) (x n : Int) : n ∈ srt l x ↔ n ∈ tos l x := by
  unfold srt
  induction tos l x with
  | nil => exact Iff.rfl
  | cons a m ih => rw [List.foldr_cons, insI_mem, ih, List.mem_cons]
def us (l : List Ed) : List Int := l.map (·.b)
theorem tos_us {l : List Ed} {x n : Int} (h : n ∈ tos l x) : n ∈ us l := by
  unfold tos at h
  obtain ⟨e, he, rfl⟩ := List.mem_map.1 h
  exact List.mem_map.2 ⟨e, (List.mem_filter.1 he).1, rfl⟩
/-- the ring that is told -/
def cyc (l : List Ed) (fr : Int) : List Int := ring (srt l) fr (l.length + 1)
theorem cyc_of {l : List Ed} {G : Int → List Int} (fr : Int) (h : ∀ x, (G x).Perm (tos l x) ∧ (G x).Pairwise (· ≤ ·)) : ring G fr (l.length + 1) = cyc l fr :=
  ring_same (fun x => (h x).2) (srt_sorted l) fun x n => by rw [srt_mem]; exact (h x).1.mem_iff
theorem us_len (l : List Ed) : (us l).length = l.length := by simp [us]
theorem left_le (us : List Int) : Ring.left us (fun _ => false) ≤ us.length := by
  unfold Ring.left; exact List.length_filter_le _ _
theorem sf_none : (sf fun _ => false) = fun _ => none := by
  funext x; simp [sf]
/-- what stands ahead of the search -/
structure CP (w : World) (B nb rb fb sb m base n : Nat) (f : Int → Option (Option (Nat × Nat × Nat))) (G : Int → List Int) (fr : Int) (sm : Nat) (rv : Value) (ring : List Int) (s : Seen) : Prop where
  nbx : Box w nb #[.map (some m)] 37
  rbx : Box w rb #[rv] 24
  fbx : Box w fb #[.int .u32 fr] 23
  sbx : Box w sb #[.map (some sm)] 39
  grp : Grp w m base n f G
  seen : FM KU unEE w sm 0 (sf s)
  row : w.ownsRow B 23 1 rv ring.length (ring.map (.int .u32))
  far : ∀ b, rv.ownBlock = some b → b ≠ fb ∧ ∀ x, (vOf f x).ownBlock ≠ some b
  apart : m ≠ sm
  low : B ≤ rb ∧ B ≤ sm ∧ B ≤ w.heap.size
theorem CP.cs {w W : World} {B nb rb fb sb cb m base n : Nat} {f : Int → Option (Option (Nat × Nat × Nat))} {G : Int → List Int} {fr : Int} {sm : Nat} {rv : Value} {ring : List Int} {s : Seen} (h : CP w B nb rb fb sb m base n f G fr sm rv ring s) {cv : Value} (hb : Below w.heap.size w W) (hc : Box W cb #[cv] 40) :
    CS W B nb rb fb sb cb m base n f G fr cv sm 0 rv ring s :=
  ⟨h.nbx.later hb, h.rbx.later hb, h.fbx.later hb, h.sbx.later hb, hc, h.grp.later hb, h.seen.later hb, own_below h.row hb, h.far, h.apart, h.low.1, h.low.2.1, Nat.le_trans h.low.2.2 hb.size⟩
theorem below_store {w : World} (a b : Value) (t : TypeId) : Below w.heap.size w ((w.alloc (.cells #[a] t)).setCell ⟨w.heap.size, 0, none⟩ b) := by
  have h := new_ (Below.refl w.heap.size w) (.cells #[a] t)
  exact ⟨h.os, h.tape, h.output, by simp [World.setCell], fun k hk => (Below.heap_setCell _ _ b k (by show k ≠ w.heap.size; omega)).trans (h.block k hk)⟩
theorem cs_pre {w2 : World} {B m base n fb : Nat} {f : Int → Option (Option (Nat × Nat × Nat))} {G : Int → List Int} {fr : Int} (h : Grp w2 m base n f G) (hf : Box w2 fb #[.int .u32 fr] 23) (hB : B ≤ m) (hm : m < w2.heap.size) :
    CP (((((w2.alloc (.cells #[.map (some m)] 37)).alloc (.cells #[.int .u32 fr] 23)).alloc (.cells #[.slice (some ⟨w2.heap.size + 1, 0, none⟩) 1 1] 24)).alloc (.map #[] 0)).alloc (.cells #[.map (some (w2.heap.size + 1 + 1 + 1))] 39))
      B w2.heap.size (w2.heap.size + 1 + 1) fb (w2.heap.size + 1 + 1 + 1 + 1) m base n f G fr (w2.heap.size + 1 + 1 + 1) (.slice (some ⟨w2.heap.size + 1, 0, none⟩) 1 1) [fr] (fun _ => false) := by
  obtain ⟨z, hz⟩ : ∃ z, z = w2.heap.size := ⟨_, rfl⟩
  rw [← hz]
  have e1 : ∀ (W : World) (o : Obj), (W.alloc o).heap.size = W.heap.size + 1 := fun W o => by simp
  obtain ⟨a1, ha1⟩ : ∃ a, a = w2.alloc (.cells #[.map (some m)] 37) := ⟨_, rfl⟩
  obtain ⟨a2, ha2⟩ : ∃ a, a = a1.alloc (.cells #[.int .u32 fr] 23) := ⟨_, rfl⟩
  obtain ⟨a3, ha3⟩ : ∃ a, a = a2.alloc (.cells #[.slice (some ⟨z + 1, 0, none⟩) 1 1] 24) := ⟨_, rfl⟩
  obtain ⟨a4, ha4⟩ : ∃ a, a = a3.alloc (.map #[] 0) := ⟨_, rfl⟩
  obtain ⟨a5, ha5⟩ : ∃ a, a = a4.alloc (.cells #[.map (some (z + 1 + 1 + 1))] 39) := ⟨_, rfl⟩
  have s1 : a1.heap.size = z + 1 := by rw [ha1, e1, hz]
  have s2 : a2.heap.size = z + 1 + 1 := by rw [ha2, e1, s1]
  have s3 : a3.heap.size = z + 1 + 1 + 1 := by rw [ha3, e1, s2]
  have s4 : a4.heap.size = z + 1 + 1 + 1 + 1 := by rw [ha4, e1, s3]
  have s5 : a5.heap.size = z + 1 + 1 + 1 + 1 + 1 := by rw [ha5, e1, s4]
  have b1 : Below w2.heap.size w2 a1 := by rw [ha1]; exact new_ (Below.refl _ _) _
  have b2 : Below a1.heap.size a1 a2 := by rw [ha2]; exact new_ (Below.refl _ _) _
  have b3 : Below a2.heap.size a2 a3 := by rw [ha3]; exact new_ (Below.refl _ _) _
  have b4 : Below a3.heap.size a3 a4 := by rw [ha4]; exact new_ (Below.refl _ _) _
  have b5 : Below a4.heap.size a4 a5 := by rw [ha5]; exact new_ (Below.refl _ _) _
  have b25 : Below a1.heap.size a1 a5 := step_ (step_ (step_ b2 b3) b4) b5
  have b15 : Below w2.heap.size w2 a5 := step_ b1 b25
  rw [← ha1, ← ha2, ← ha3, ← ha4, ← ha5]
  have n1 : Box a1 z #[.map (some m)] 37 := by rw [ha1, hz]; exact Box.new _ _ _
  have n2 : Box a2 (z + 1) #[.int .u32 fr] 23 := by rw [ha2, ← s1]; exact Box.new _ _ _
  have n3 : Box a3 (z + 1 + 1) #[.slice (some ⟨z + 1, 0, none⟩) 1 1] 24 := by rw [ha3, ← s2]; exact Box.new _ _ _
  have n5 : Box a5 (z + 1 + 1 + 1 + 1) #[.map (some (z + 1 + 1 + 1))] 39 := by rw [ha5, ← s4]; exact Box.new _ _ _
  have n4 : FM KU unEE a4 (z + 1 + 1 + 1) 0 (sf fun _ => false) := by rw [ha4, ← s3, sf_none]; exact FM.made _ _ _
  refine ⟨n1.later b25, n3.later (step_ b4 b5), hf.later b15, n5, h.later b15, n4.later b5, ⟨rfl, .inr ⟨z + 1, 1, #[.int .u32 fr], rfl, by omega, (n2.later (step_ (step_ b3 b4) b5)), Nat.le_refl _, by decide, rfl, rfl⟩⟩, fun b hb => ?_, by omega, by omega, by omega, by omega⟩
  have hb' : z + 1 = b := by injection hb
  refine ⟨fun e => ?_, fun x hx => ?_⟩
  · have := hf.lt; omega
  · have := ((h.row x).lt _ hx).2; omega
set_option maxRecDepth 100000 in
set_option maxHeartbeats 8000000 in
theorem cycle_any (w : World) (v : Value) (xs : List Ed) (fr : Int) (hv : SS cEd 2 w w.heap.size v xs) (hok : ∀ e ∈ xs, e.Ok) (hlen : xs.length ≤ 500) (hfr : U32 fr) :
    Calls Try.prog 9 #[v, .int .u32 fr] w fun e w' => (∃ u, e = .returned u ∧ IR w' w'.heap.size .u32 u (cyc xs fr)) ∧ Below w.heap.size w w' := by
  have hmm := @run_makeMap Try.prog
  obtain ⟨A, c, rfl, hc1, hc2⟩ := hv.form
  obtain ⟨N, hN⟩ : ∃ N, N = xs.length := ⟨_, rfl⟩
  rw [← hN]
  have hb1 := new_ (Below.refl w.heap.size w) (.cells #[.int .u32 fr] 23)
  have hv1 : SS cEd 2 (w.alloc (.cells #[.int .u32 fr] 23)) (w.alloc (.cells #[.int .u32 fr] 23)).heap.size (.slice A N c) xs := by rw [hN]; exact (hv.below hb1).more hb1.size
  have CW := Lib.hid (ways_any _ _ xs hv1 hok (by omega))
  have FB := Lib.hid (Box.new w #[.int .u32 fr] 23)
  have HB1 := Lib.hid hb1
  have f0 := FB.out.cell 0
  simp only [List.getElem?_toArray, List.getElem?_cons_zero] at f0
  have HK := Lib.hid (⟨hok, hlen, hfr, hN⟩ : (∀ e ∈ xs, e.Ok) ∧ xs.length ≤ 500 ∧ U32 fr ∧ N = xs.length)
  clear hv hv1 hb1 hok hlen hfr hN hc1
  obtain ⟨w1, hw1⟩ : ∃ w1, w1 = w.alloc (.cells #[.int .u32 fr] 23) := ⟨_, rfl⟩
  rw [← hw1] at CW FB HB1 f0
  obtain ⟨fb, hfb⟩ : ∃ fb, fb = w.heap.size := ⟨_, rfl⟩
  have hfb2 := hfb.symm
  rw [hfb2] at f0 FB
  have HFB := Lib.hid hfb
  have hw2 := hw1.symm
  clear hfb hw1
  go_enter Try.func9, Try.ntmps9
  go_wp2_with fail
  clear hw2
  (with_reducible refine CW.out.mono ?_)
  rintro e w2 ⟨rfl, ⟨n, f, G, hg, hG⟩, hb2⟩
  have HG := Lib.hid hg
  have HGG := Lib.hid hG
  have HB2 := Lib.hid hb2
  have fb2 := FB.out.later hb2
  have FB2 := Lib.hid fb2
  have f2 := fb2.cell 0
  simp only [List.getElem?_toArray, List.getElem?_cons_zero] at f2
  have f3 : (w2.alloc (.cells #[.map (some w1.heap.size)] 37)).cell? ⟨fb, 0, none⟩ = some (.int .u32 fr) := by
    have h := (FB2.out.alloc (.cells #[.map (some w1.heap.size)] 37)).cell 0
    simpa using h
  have hne : fb < w2.heap.size := FB2.out.lt
  clear hg hG hb2 f0 FB fb2 CW f2
  go_upto_region 4 with fail
  have HZ := Lib.hid (rfl : w2.heap.size = w2.heap.size)
  obtain ⟨m, hm⟩ : ∃ m, m = w1.heap.size := ⟨_, rfl⟩
  rw [← hm] at HG HB2 f3 ⊢
  have HBW := Lib.hid HB1.out.size
  have h5 := cs_pre HG.out FB2.out (by rw [hm]; exact HB1.out.size) HG.out.fm.lt
  obtain ⟨sb, hsb⟩ : ∃ x, x = w2.heap.size + 1 + 1 + 1 + 1 := ⟨_, rfl⟩
  obtain ⟨sm, hsm⟩ : ∃ x, x = w2.heap.size + 1 + 1 + 1 := ⟨_, rfl⟩
  obtain ⟨rb, hrb⟩ : ∃ x, x = w2.heap.size + 1 + 1 := ⟨_, rfl⟩
  obtain ⟨g0, hg0⟩ : ∃ x, x = w2.heap.size + 1 := ⟨_, rfl⟩
  obtain ⟨nb, hnb⟩ : ∃ x, x = w2.heap.size := ⟨_, rfl⟩
  rw [← hsb, ← hsm, ← hrb, ← hg0, ← hnb] at h5 ⊢
  have HP := Lib.hid h5
  have hbel : Below w.heap.size w (((((w2.alloc (.cells #[.map (some m)] 37)).alloc (.cells #[.int .u32 fr] 23)).alloc (.cells #[.slice (some ⟨g0, 0, none⟩) 1 1] 24)).alloc (.map #[] 0)).alloc (.cells #[.map (some sm)] 39)) := by
    have h1 : Below w.heap.size w w2 := HB1.out.trans ((by rw [hm] at HB2; exact HB2.out : Below w1.heap.size w1 w2).mono HB1.out.size)
    exact new_ (new_ (new_ (new_ (new_ h1 _) _) _) _) _
  have HB5 := Lib.hid hbel
  have HM := Lib.hid (show w.heap.size ≤ m by rw [hm]; exact HB1.out.size)
  clear h5 hbel HZ hsb hsm hrb hg0 hnb HG HB2 FB2 f3 hne HBW
  generalize World.alloc _ _ = w5 at *
  have hst := new_ (Below.refl w5.heap.size w5) (.cells #[(.func (.func 17) #[] #[.pointer (some ⟨nb, 0, none⟩), .pointer (some ⟨rb, 0, none⟩), .pointer (some ⟨fb, 0, none⟩), .pointer (some ⟨sb, 0, none⟩), .pointer (some ⟨w5.heap.size, 0, none⟩)])] 40)
  have hbx := Box.new w5 #[(.func (.func 17) #[] #[.pointer (some ⟨nb, 0, none⟩), .pointer (some ⟨rb, 0, none⟩), .pointer (some ⟨fb, 0, none⟩), .pointer (some ⟨sb, 0, none⟩), .pointer (some ⟨w5.heap.size, 0, none⟩)])] 40
  have k6 := (Box.new w5 #[.nilFunc] 40).cell 0
  have z6 := (Box.new w5 #[.nilFunc] 40).frozen 0
  simp only [List.getElem?_toArray, List.getElem?_cons_zero] at k6
  have HC := Lib.hid (HP.out.cs hst hbx)
  have HB6 := Lib.hid (HB5.out.trans (hst.mono HB5.out.size))
  have HL := Lib.hid (left_le (us xs))
  have CI := Lib.hid (search_any (us xs) w.heap.size nb rb fb sb w5.heap.size m (m + 1) n f G fr (fun x y hy => tos_us ((HGG.out x).1.mem_iff.1 hy)) (fun x hx => by obtain ⟨e, he, rfl⟩ := List.mem_map.1 hx; exact (HK.out.1 e he).2) (fun x => (HGG.out x).2) (by rw [us, List.length_map]; have := HK.out; omega) (fun x => by rw [(HGG.out x).1.length_eq]; have := tos_len xs x; have := HK.out; omega) (N + 1) _ 262144 0 sm _ [] fr (fun _ => false) HC.out (by have := HL.out; have := us_len xs; have := HK.out; omega) (by have := HK.out; omega) (Nat.le_refl _) (by have := HL.out; have := us_len xs; have := HK.out; simp only [List.length_nil]; omega) (Nat.zero_le _) HK.out.2.2.1)
  rw [show ((262144 : Nat) : Int) = 262144 from rfl] at CI
  have HLN := Lib.hid (dfs_len G fr (N + 1) [] fr (fun _ => false))
  have HCY := Lib.hid (show cyc xs fr = if (dfs G fr (N + 1) [] fr fun _ => false).1 then (dfs G fr (N + 1) [] fr fun _ => false).2.1 else [] by
    rw [← cyc_of fr HGG.out, ← HK.out.2.2.2]; rfl)
  have HDD := Lib.hid (dfs_dead G fr (N + 1) [] fr (fun _ => false))
  have HNE := Lib.hid (show (dfs G fr (N + 1) [] fr fun _ => false).1 = true → (dfs G fr (N + 1) [] fr fun _ => false).2.1 ≠ [] from fun h => by
    obtain ⟨_, r, h2⟩ := dfs_ring G fr (N + 1) [] fr (fun _ => false) trivial (by simp) (fun x hx => .inl (by simpa using hx)) h
    rw [h2]; simp)
  have r6 := HC.out.rbx.cell 0
  have c6 := HC.out.cbx.cell 0
  simp only [List.getElem?_toArray, List.getElem?_cons_zero] at r6 c6
  generalize dfs G fr (N + 1) [] fr (fun _ => false) = R at *
  obtain ⟨r1, r2, r3⟩ := R
  clear hst hbx HP HB5
  cases r1 with
  | true =>
    rw [show fnd ((true, r2, r3) : Res).1 = 2 from rfl] at CI
    go_wp2
    refine wp_loop_rounds 1 ?_
    rw [rounds_succ]
    go_wp2_with fail
    (with_reducible refine CI.out.mono ?_)
    rintro e w8 ⟨rfl, h8, hb8⟩
    obtain ⟨ns8, rv8, k8, hn8⟩ := h8.out
    have HC8 := Lib.hid k8
    have HB8 := Lib.hid (HB6.out.trans hb8.out)
    clear h8 hb8 k8 hn8 r6 c6
    have hrow := HC8.out.row
    have hlen := HLN.out
    have r8 := HC8.out.rbx.cell 0
    simp only [List.getElem?_toArray, List.getElem?_cons_zero] at r8
    by_cases h0 : r2 = []
    · exact absurd h0 (HNE.out (by trivial))
    · have CC := Lib.hid (clone_any rv8 r2 w8 w8.heap.size (IR.of_own hrow) (Nat.le_refl _) (by have := HK.out; simp only [List.length_nil] at hlen; omega) (by cases r2 with | nil => exact absurd rfl h0 | cons a b => simp))
      clear hrow hlen
      go_wp2_with fail
      (with_reducible refine CC.out.mono ?_)
      rintro e w9 ⟨u, rfl, h9, hb9⟩
      have H9 := Lib.hid h9
      have HB9 := Lib.hid (HB8.out.trans (hb9.mono HB8.out.size))
      clear h9 hb9
      go_wp2
      go_ret
      exact ⟨⟨u, rfl, by rw [HCY.out]; exact IR.of_own H9.out⟩, HB9.out⟩
  | false =>
    rw [show fnd ((false, r2, r3) : Res).1 = 0 from rfl] at CI
    obtain rfl : r2 = [] := HDD.out rfl
    go_wp2
    refine wp_loop_rounds 2 ?_
    rw [rounds_succ]
    go_wp2_with fail
    (with_reducible refine CI.out.mono ?_)
    rintro e w8 ⟨rfl, h8, hb8⟩
    obtain ⟨ns8, rv8, k8, hn8⟩ := h8.out
    have HC8 := Lib.hid k8
    have HB8 := Lib.hid (HB6.out.trans hb8.out)
    clear h8 hb8 k8 hn8 r6 c6
    have hrow := HC8.out.row
    have r8 := HC8.out.rbx.cell 0
    simp only [List.getElem?_toArray, List.getElem?_cons_zero] at r8
    obtain ⟨A8, c8, e8⟩ : ∃ A c, rv8 = .slice A 0 c := by
      rcases hrow.2 with ⟨e, _⟩ | ⟨g, cap, cur, e, _⟩
      · exact ⟨_, _, e⟩
      · exact ⟨_, _, e⟩
    subst e8
    clear hrow
    go_wp2
    rw [rounds_succ]
    go_wp2
    go_ret
    exact ⟨⟨_, rfl, by rw [HCY.out]; exact IR.nil _ _ _⟩, HB8.out⟩
end Go.Proofs.Yteldfoplhcnljaa.Knot
