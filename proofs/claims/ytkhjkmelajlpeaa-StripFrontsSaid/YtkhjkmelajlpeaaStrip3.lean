import Derived.Test.YtkhjkmelajlpeaaStripM
/- Lay. -/
namespace Go.Proofs.Ytkhjkmelajlpeaa.Strip
open Go.ChangeShapes Go.WideShapes Go.ChangeAt Go.RowKit Go.IntWalk Go.Shelf Go.Proofs.Mem Blk
set_option linter.unusedVariables false
attribute [local go_sem] Oper.semAt_some
theorem u8_size : (Try.prog.info? 5).map (·.size) = some 1 := by kernel_rfl
theorem count_len (L : Nat) (hn : L ≤ 100000000) (w : World) : Calls Try.prog 13 #[.int .i64 L] w fun e w' => e = .returned (.int .i64 (cnt L)) ∧ w = w' := by
  have := count_any L (by omega) w
  rw [countS_nat] at this
  exact this.mono fun _ _ ⟨h1, h2⟩ => ⟨h1, h2.symm⟩
theorem count_ref_len (L : Nat) (hn : L ≤ 100000000) (w : World) : Calls Try.prog 14 #[.int .i64 L] w fun e w' => e = .returned (.int .i64 (cnt L)) ∧ w = w' := by
  have := count_ref L (by omega) w
  rw [countS_nat] at this
  exact this.mono fun _ _ ⟨h1, h2⟩ => ⟨h1, h2.symm⟩
theorem row_made (w : World) (AC : Array Value) (n : Nat) (h : AC = madeCells (Value.int .u8 0).cells (n * 1)) (hn : n ≤ 1000000) :
    RowAt 5 (w.alloc (.cells AC 5)) w.heap.size w.heap.size (.slice (some ⟨w.heap.size, 0, none⟩) n n) (List.replicate n 0) := by
  refine ⟨⟨n, by simp⟩, by simp, .inr ⟨w.heap.size, n, AC, by simp, Nat.le_refl _, heap_alloc_new w _, by simp, by unfold maxLen; omega, by rw [h, size_madeCells], ?_⟩⟩
  rw [h, madeZero]; simp
theorem piece_ir {W : World} {B c L : Nat} {A : Option Addr} {xs : List Int} (h : IR W B .u8 (.slice A L c) xs) {b off : Nat} (hA : A = some ⟨b, off, none⟩) (k : Nat) (hk : 127 * k < L) : IR W B .u8 (piece b off c L k) (part7 xs k) := by
  subst hA
  obtain ⟨A, c', e, h2, h3, h4, h5⟩ := h
  injection e with e1 e2 e3
  subst e1 e2 e3
  refine ⟨_, _, by unfold piece; rw [part_len], by rw [part_len]; unfold size_; omega, by omega, (fun hh => by cases hh), fun i hi => ?_⟩
  rw [part_len] at hi
  unfold size_ at hi
  obtain ⟨b', off', e, hb, hc⟩ := h5 (127 * k + i) (by omega)
  injection e with e
  injection e with e1 e2
  subst e1 e2
  refine ⟨_, _, rfl, hb, ?_⟩
  rw [Nat.add_assoc, hc]
  congr 2
  unfold part7
  simp only [List.getD_eq_getElem?_getD, List.getElem?_take, List.getElem?_drop]
  rw [if_pos (by omega)]
/-- a list of rows stands where no row of it is written -/
theorem tab_else {Tu Ts : TypeId} {A : World} {base top : Nat} {v : Value} {l : List Rw} (h : Tab Tu Ts A base top v l) {p : Addr} (x : Value) (hv : ∀ g, v.ownBlock = some g → g ≠ p.block) (hl : ∀ q ∈ l, q.1 ≠ p.block) : Tab Tu Ts (A.setCell p x) base top v l := by
  have hg := grownBy_set A p x
  refine ⟨h.outer.kept hg ?_, fun q hq => ⟨(h.rows q hq).1.far hg (fun e => ?_), (h.rows q hq).2⟩, h.apart, h.vtop⟩
  · cases e : v.ownBlock with
    | none => exact .inl rfl
    | some k => exact .inr (fun e2 => by injection e2 with e2; exact hv k e e2)
  · injection e with e
    exact hl q hq e.symm
/-- what a round leaves: g the list's own block, b3 the variable, D where rows begin -/
def LayI (g b3 D : Nat) (w : World) (xs : List Int) (pre : List (Pc xs.length)) (W : World) : Prop :=
  (∃ ls, Box W b3 #[.slice (some ⟨g, 0, none⟩) pre.length (cnt xs.length)] 26 ∧ Tab 5 22 W g W.heap.size (.slice (some ⟨g, 0, none⟩) pre.length (cnt xs.length)) ls ∧ ls.length = pre.length ∧ (∀ p ∈ ls, D ≤ p.1) ∧ ls.map (·.2.2) = pre.map (fun k => sec7 xs k.1) ∧ D ≤ W.heap.size) ∧ Fr (fun k => g ≤ k) w W
theorem layI_own (g b3 D : Nat) (w : World) (xs : List Int) (hD : g ≤ D) : OwnFrom D (LayI g b3 D w xs) :=
  OwnFrom.and (ownFrom_scz fun s A B h sc hz => by
    obtain ⟨ls, h1, h2, h3, h4, h5, h6⟩ := h
    exact ⟨ls, h1.sc sc, (h2.sc sc).more hz, h3, h4, h5, Nat.le_trans h6 hz⟩) (ownFrom_fr fun k hk => by omega)
theorem layI_open {g b3 D Bs : Nat} {w : World} {xs : List Int} (h1 : g < Bs) (h2 : Bs < D) (h3 : b3 ≠ Bs) (r : Loop) : Open_ Bs (fun pre W => LayI g b3 D w xs pre W ∧ Stand D r W) := by
  rintro s W u ⟨⟨⟨ls, q1, q2, q3, q4, q5, qz⟩, q6⟩, q7, q8⟩
  refine ⟨⟨⟨ls, q1.far h3 u, ?_, q3, q4, q5, by simpa [World.setCell] using qz⟩, q6.setCell (.inl (show g ≤ Bs by omega)) _⟩, ?_, ?_⟩
  · have := tab_else q2 (p := ⟨Bs, 0, none⟩) u (fun g' e => by simp [Value.ownBlock] at e; show g' ≠ Bs; omega) (fun q hq => by have := q4 q hq; show q.1 ≠ Bs; omega)
    exact this.more (by simp [World.setCell])
  · exact (Below.heap_setCell W _ _ _ (by show D + 1 ≠ Bs; omega)).trans q7
  · exact (Below.heap_setCell W _ _ _ (by show D ≠ Bs; omega)).trans q8
/-- what Lay tells -/
def LayP (w : World) (L : List (List Int)) (e : Ending) (w' : World) : Prop :=
  ∃ v ls, e = .returned v ∧ Tab 5 22 w' w.heap.size w'.heap.size v ls ∧ ls.map (·.2.2) = L ∧ Below w.heap.size w w'
set_option maxRecDepth 100000 in
set_option maxHeartbeats 8000000 in
theorem lay_any (w : World) (B : Nat) (v : Value) (xs : List Int) (hv : IR w B .u8 v xs) (hB : B ≤ w.heap.size) (hl : xs.length ≤ 100000) :
    Calls Try.prog 11 #[v] w (LayP w (lay7 xs)) := by
  obtain ⟨i0, hi0, hz0, hz1, hz2⟩ := info_parts u8_info
  obtain ⟨j0, hj0, hy0, hy1, hy2⟩ := info_parts row_info
  obtain ⟨A, c, rfl, hlc, hcm⟩ := hv.form
  unfold maxLen at hcm
  obtain ⟨b, off, hA⟩ : ∃ b off, 0 < xs.length → A = some ⟨b, off, none⟩ := by
    by_cases h : 0 < xs.length
    · obtain ⟨b, off, e, _⟩ := hv.index 0 h
      exact ⟨b, off, fun _ => e⟩
    · exact ⟨0, 0, fun h' => absurd h' h⟩
  have hcn : cnt xs.length ≤ 1000 := by unfold cnt; omega
  obtain ⟨AC, hAC0, hACs, hmk⟩ := made_run (P := Try.prog) Try.underlying22 hi0 hz0 hz1 128 128 (by decide) (by rw [hz2]; decide) (by decide)
  rw [show ((128 : Nat) : Int) = 128 from rfl] at hmk
  obtain ⟨AS, hAS0, hASs, hms⟩ := made_run (P := Try.prog) Try.underlying26 hj0 hy0 hy1 0 (cnt xs.length) (by omega) (by rw [hy2]; omega) (by omega)
  rw [show ((0 : Nat) : Int) = 0 from rfl] at hms
  have ROW0 := Lib.hid (fun W => row_made W AC 128 hAC0 (by decide))
  have OUT0 := Lib.hid (fun (W : World) => World.ownsRow_made (base := W.heap.size) (size := 1) (e := 22) W AS (cnt xs.length) (Nat.le_refl _) (by unfold maxLen; omega) hASs)
  have HV := Lib.hid hv
  have HA := Lib.hid hA
  have HL := Lib.hid hl
  have CN := Lib.hid (fun W => count_len xs.length (by omega) W)
  have HCN := Lib.hid hcn
  have HB := Lib.hid hB
  clear hv hA hAC0 hACs hAS0 hASs hl hcn hB
  refine (callsIn_wide (n := 3)).1 ?_
  refine callsIn_of_wp_marks Try.func11 rfl trivial ?_ rfl
  simp only [Try.ntmps11, List.size_toArray, List.length_cons, List.length_nil, Nat.reduceAdd, Nat.reduceSub, Array.replicate_succ, Array.replicate_zero, List.push_toArray, List.append_toArray, List.nil_append, List.cons_append]
  gi_wp2_with (first
    | (refine ⟨trivial, ?_⟩; gi_at_call 13; refine (callsIn_wide.2 (CN.out _)).mono ?_; rintro e w1 ⟨rfl, rfl⟩)
    | (refine ⟨trivial, ?_⟩; gi_at_call 19; refine (pieces_in Fence.wide _ trivial rfl _ _ _ _).mono ?_; rintro e w' ⟨rfl, rfl⟩))
  obtain ⟨w0, hw0⟩ : ∃ w0, ((w.alloc (.cells AS 22)).alloc (.cells #[.slice (some ⟨w.heap.size, 0, none⟩) 0 (cnt xs.length)] 26)).alloc (.cells #[.slice A xs.length c] 22) = w0 := ⟨_, rfl⟩
  have z3 : Box w0 (w.heap.size + 1) #[.slice (some ⟨w.heap.size, 0, none⟩) 0 (cnt xs.length)] 26 := by
    rw [← hw0]; have := (Box.new (w.alloc (.cells AS 22)) #[.slice (some ⟨w.heap.size, 0, none⟩) 0 (cnt xs.length)] 26).alloc (.cells #[.slice A xs.length c] 22); rwa [World.size_alloc] at this
  have z7 : Box w0 (w.heap.size + 1 + 1) #[.slice A xs.length c] 22 := by
    rw [← hw0]; have := Box.new ((w.alloc (.cells AS 22)).alloc (.cells #[.slice (some ⟨w.heap.size, 0, none⟩) 0 (cnt xs.length)] 26)) #[.slice A xs.length c] 22; rwa [World.size_alloc, World.size_alloc] at this
  have hs0 : w0.heap.size = w.heap.size + 1 + 1 + 1 := by rw [← hw0]; simp
  have hbw0 : Below w.heap.size w w0 := by rw [← hw0]; exact new_ (new_ (new_ (Below.refl _ _) _) _) _
  have out0 : w0.ownsRow w.heap.size 22 1 (.slice (some ⟨w.heap.size, 0, none⟩) 0 (cnt xs.length)) 0 [] := by
    rw [← hw0]; exact own_sc (OUT0.out w) (Sc.of_below (new_ (new_ (Below.refl _ _) _) _))
  rw [hw0]
  have Z3 := Lib.hid z3
  have HS0 := Lib.hid hs0
  have HBW0 := Lib.hid hbw0
  have OUT1 := Lib.hid out0
  have Z7 := Lib.hid z7
  clear hw0 hs0 hbw0 z3 out0
  refine wpIn_rangeFunc_on 4 rfl (by omega) (gf := 21) (lb := #[.pointer (some ⟨w.heap.size + 1 + 1, 0, none⟩)]) rfl trivial (enters_of Try.func21 (by kernel_rfl) rfl)
    (pieces_seq (w.heap.size + 1 + 1) (fun k => k = w.heap.size ∨ k = w.heap.size + 1 ∨ w0.heap.size ≤ k) A b off c xs.length HA.out (by have := HS0.out; omega) hlc (by omega) w0 z7) frK_t (frK_b (fun k hk => .inr (.inr hk))) (Below.refl _ _)
    (LayI w.heap.size (w.heap.size + 1) w0.heap.size w xs) (layI_own _ _ _ _ _ (by have := HS0.out; omega)) (layI_open (by omega) (by have := HS0.out; omega) (by omega))
    ⟨⟨[], Z3.out, ⟨OUT1.out, (fun p hp => by cases hp), List.Pairwise.nil, (fun g hg => by simp [Value.ownBlock] at hg; have := HS0.out; omega)⟩, rfl, (fun p hp => by cases hp), rfl, Nat.le_refl _⟩, Fr.of_below HBW0.out⟩
    ?assign ?body ?done
  case assign =>
    intro l x W K hK
    gi_wp2
    exact hK
  case body =>
    rintro l pre ⟨x, hx⟩ W ⟨⟨ls, hbx, htab, hlen, hrows, hls, hdw⟩, hfr⟩ hlt
    have hpl : pre.length < cnt xs.length := hlt
    have hz0' : w.heap.size + 1 + 1 + 1 ≤ W.heap.size ∧ w0.heap.size ≤ W.heap.size := by have := HS0.out; omega
    have piw := piece_ir (HV.out.keep (fun p hp => hfr.cell (by have := HB.out; omega) (by have := HB.out; show ¬ w.heap.size ≤ p.block; omega))) (HA.out (by omega)) x hx
    obtain ⟨n, hn⟩ : ∃ n, size_ xs.length x = n := ⟨_, rfl⟩
    have hn127 : n ≤ 127 := by rw [← hn]; exact size_le _ _
    obtain ⟨cp, hcp⟩ : ∃ cp, c - 127 * x = cp := ⟨_, rfl⟩
    have hpc : piece b off c xs.length x = .slice (some ⟨b, off + 127 * x, none⟩) n cp := by unfold piece; rw [hn, hcp]
    rw [hpc] at piw
    simp only [hpc]
    have HN := Lib.hid hn
    have PW := Lib.hid piw
    have PL := Lib.hid (show (part7 xs x).length = n by rw [part_len, hn])
    have BX := Lib.hid hbx
    have TAB := Lib.hid htab
    have LEN := Lib.hid hlen
    have ROWS := Lib.hid hrows
    have LS := Lib.hid hls
    have FR := Lib.hid hfr
    have HPL := Lib.hid hpl
    have Z := Lib.hid hz0'
    have SEC := Lib.hid (sec_made xs x)
    have R0 := Lib.hid (ROW0.out W)
    have B0 := Lib.hid (show Below W.heap.size W (W.alloc (.cells AC 5)) from new_ (Below.refl _ _) _)
    clear hlt hpl hz0' hdw piw hn hcp hpc hbx htab hlen hrows hls hfr
    obtain ⟨w3, hrun3, row3, hg3⟩ := copy_runs (P := Try.prog) 22 22 3 5 Try.underlying22 u8_size (xs := List.replicate 128 0) R0.out B ⟨b, off + 127 * x, none⟩ cp (part7 xs x) (by rw [PL.out]; exact PW.out.below (B0.out.mono (by have := HB.out; have := Z.out; omega))) (by rw [PL.out, List.length_replicate]; omega)
    rw [PL.out, List.length_replicate] at hrun3
    rw [List.length_replicate] at row3
    have HRUN := Lib.hid (show (Builtin.copy_ #[22, 22] 3 #[.slice (some ⟨W.heap.size, 0, none⟩) 128 128, .slice (some ⟨b, off + 127 * x, none⟩) n cp]).run Try.prog (W.alloc (.cells AC 5)) = .ok (.int .i64 n) w3 from hrun3)
    have hrun4 := HRUN.out
    have y3 := row_cell row3 127 (by simp [PL.out]; omega)
    have f3 := row_frozen row3 127
    obtain ⟨y, hy⟩ : ∃ y, (part7 xs x ++ (List.replicate 128 (0 : Int)).drop (part7 xs x).length).getD 127 0 = y := ⟨_, rfl⟩
    rw [hy] at y3
    have ROW3 := Lib.hid row3
    have B3 := Lib.hid (show Below W.heap.size W w3 from B0.out.trans ((Below.refl _ _).grown hg3 (by simp) (fun g e => by injection e with e; omega)))
    have KO3 := Lib.hid ((KeepsOthers.alloc W (.cells AC 5)).trans (keeps_grown R0.out.own hg3))
    have c3 : w3.cell? ⟨w.heap.size + 1, 0, none⟩ = some (.slice (some ⟨w.heap.size, 0, none⟩) pre.length (cnt xs.length)) := (BX.out.below B3.out (by have := Z.out; omega)).cell 0
    have hzW : w.heap.size + 1 < W.heap.size := by have := Z.out; omega
    clear hrun3 hy row3 hg3
    obtain ⟨W4, hW4⟩ : ∃ W4, w3.setCell ⟨W.heap.size, 127, none⟩ (.int .u8 n) = W4 := ⟨_, rfl⟩
    have z43 : W4.heap.size = w3.heap.size := by rw [← hW4]; simp [World.setCell]
    have B4 := Lib.hid (show Below W.heap.size W W4 by rw [← hW4]; exact B3.out.setCell (p := ⟨W.heap.size, 127, none⟩) (Nat.le_refl _) _)
    have ROW4 := Lib.hid (show RowAt 5 W4 W.heap.size W.heap.size (.slice (some ⟨W.heap.size, 0, none⟩) 128 128) (sec7 xs x) by rw [← hW4, ← SEC.out, HN.out]; exact ROW3.out.put 127 n)
    obtain ⟨W5, hW5⟩ : ∃ W5, W4.alloc (.cells #[.slice (some ⟨W.heap.size, 0, none⟩) 128 128] 22) = W5 := ⟨_, rfl⟩
    have z54 : W5.heap.size = w3.heap.size + 1 := by rw [← hW5]; simp [z43]
    have news : ∀ (j : Nat) (u : Value), [Value.slice (some ⟨W.heap.size, 0, none⟩) 128 128][j]? = some u → W5.cell? ((⟨w3.heap.size, 0, none⟩ : Addr).add j) = some u := by
      rw [← z43, ← hW5]; exact cell_one_new _ _ _
    have b45 : Below W4.heap.size W4 W5 := by rw [← hW5]; exact new_ (Below.refl _ _) _
    have B5 := Lib.hid (B4.out.trans (b45.mono B4.out.size))
    have ROW5 := Lib.hid (ROW4.out.sc (Sc.of_below b45))
    have T5 := Lib.hid (TAB.out.below B5.out)
    have OWN5 := Lib.hid (show W5.ownsRow w.heap.size 22 1 (.slice (some ⟨w.heap.size, 0, none⟩) pre.length (cnt xs.length)) pre.length (ls.map (·.2.1)) by have := T5.out.outer; rwa [LEN.out] at this)
    have BX5 := Lib.hid (BX.out.below B5.out (by have := Z.out; omega))
    have KO5 := Lib.hid (show KeepsOthers W W5 by
      rw [← hW5, ← hW4]; exact (KO3.out.trans (KeepsOthers.setCell w3 ⟨W.heap.size, 127, none⟩ (.int .u8 n))).trans (KeepsOthers.alloc _ _))
    have NEWS := Lib.hid news
    have Z5 := Lib.hid (show w3.heap.size < W5.heap.size ∧ W.heap.size < W5.heap.size by have := B3.out.size; have := ROW4.out.own.lt W.heap.size rfl; omega)
    have HW5 := Lib.hid (show (w3.setCell ⟨W.heap.size, 127, none⟩ (.int .u8 n)).alloc (.cells #[.slice (some ⟨W.heap.size, 0, none⟩) 128 128] 22) = W5 by rw [hW4, hW5])
    clear hW4 hW5 z43 z54 news b45
    gi_wp2_with (first
      | (gi_at_builtin; rw [HW5.out]; refine wpListIn_append_fits _ rfl _ _ _ rfl w.heap.size 22 j0 1 Try.underlying26 hj0 hy1 w.heap.size pre.length (cnt xs.length) (ls.map (·.2.1)) rfl OWN5.out ⟨w3.heap.size, 0, none⟩ 1 1 [_] rfl rfl NEWS.out (by simp [Value.oneCell']) HPL.out ?_
         intro w6 hown6 hg6
         have OWN6 := Lib.hid hown6
         have HG6 := Lib.hid hg6
         have BX6 := Lib.hid (BX5.out.grown hg6 (by simp))
         have x7 : w6.cell? ⟨w.heap.size + 1, 0, none⟩ = some (.slice (some ⟨w.heap.size, 0, none⟩) pre.length (cnt xs.length)) := BX6.out.cell 0
         have x8 : w6.frozen? ⟨w.heap.size + 1, 0, none⟩ = false := BX6.out.frozen 0
         clear hown6 hg6)
      | fail)
    have KO := (KO5.out.trans (keeps_grown OWN5.out HG6.out)).trans (KeepsOthers.setCell w6 ⟨w.heap.size + 1, 0, none⟩ (.slice (some ⟨w.heap.size, 0, none⟩) (pre.length + 1) (cnt xs.length)))
    have F1 : Fr (fun k => k = w.heap.size ∨ k = w.heap.size + 1 ∨ w0.heap.size ≤ k) W (w6.setCell ⟨w.heap.size + 1, 0, none⟩ (.slice (some ⟨w.heap.size, 0, none⟩) (pre.length + 1) (cnt xs.length))) :=
      ((Fr.of_below B5.out).grown HG6.out (fun g e => by injection e with e; exact .inl (.inl e.symm))).setCell (p := ⟨w.heap.size + 1, 0, none⟩) (.inl (.inr (.inl rfl))) _
    have hz6 : W5.heap.size ≤ w6.heap.size := HG6.out.size
    have e6 : (w6.setCell ⟨w.heap.size + 1, 0, none⟩ (.slice (some ⟨w.heap.size, 0, none⟩) (pre.length + 1) (cnt xs.length))).heap.size = w6.heap.size := by simp [World.setCell]
    refine ⟨KO, F1, ⟨ls ++ [(W.heap.size, .slice (some ⟨W.heap.size, 0, none⟩) 128 128, sec7 xs x)], ?_, ?_, ?_, ?_, ?_, ?_⟩, FR.out.trans (F1.mono (fun k hk h => by have := HS0.out; show w.heap.size ≤ k; omega))⟩
    · rw [List.length_append]; exact BX6.out.set_ 0 _
    · rw [List.length_append, e6]
      have T6 := Tab.push T5.out (by decide) (ROW5.out) (show w.heap.size ≤ W.heap.size by have := Z.out; omega) (show W.heap.size < w6.heap.size by have := Z5.out; omega) (by rw [LEN.out]; exact OWN6.out) HG6.out (by have := Z5.out; omega)
      exact tab_else T6 (p := ⟨w.heap.size + 1, 0, none⟩) _ (fun g e => by simp [Value.ownBlock] at e; show g ≠ w.heap.size + 1; omega) (fun q hq => by
        have := HS0.out; have := Z.out
        rcases List.mem_append.1 hq with hq | hq
        · have := ROWS.out q hq; show q.1 ≠ w.heap.size + 1; omega
        · rw [List.mem_singleton.1 hq]; show W.heap.size ≠ w.heap.size + 1; omega)
    · rw [List.length_append, List.length_append, LEN.out]; rfl
    · intro q hq
      rcases List.mem_append.1 hq with hq | hq
      · exact ROWS.out q hq
      · rw [List.mem_singleton.1 hq]; exact Z.out.2
    · rw [List.map_append, List.map_append, LS.out]; rfl
    · rw [e6]; have := Z5.out; have := Z.out; omega
  case done =>
    rintro D ys W hD rfl ⟨⟨ls, hbx, htab, hlen, hrows, hls, hdw⟩, hfr⟩ hK
    have c3 := hbx.cell 0
    have TB := Lib.hid (htab.sc (sc_put (.deferred none) hK rfl))
    have LS := Lib.hid (hls.trans (upto_lay xs))
    have BW := Lib.hid (hfr.to_below (fun k hk => hk) (Nat.le_refl _))
    clear hbx htab hlen hrows hls hfr hdw
    generalize (upto xs.length (cnt xs.length)).length = m at *
    gi_wp2
    refine ⟨by simp, .inl ⟨_, _, rfl, run_takeDeferred hK, ?_⟩⟩
    refine ⟨_, results_tmp rfl _ _ _, _, ls, rfl, ?_, ?_, ?_⟩
    · exact TB.out.more (by simp)
    · exact LS.out
    · exact BW.out.trans (belowK_b (w := w) (Nat.le_refl _) W D _ _ (by have := HS0.out; omega) hK rfl rfl)
end Go.Proofs.Ytkhjkmelajlpeaa.Strip
