import Derived.Test.YthbbnebanmpcjaaPg6
/- A page: gather. -/
namespace Go.Proofs.Ythbbnebanmpcjaa.Pg
open Go.ChangeShapes Go.WideShapes Go.ChangeAt Go.RowKit Go.IntWalk Go.Proofs.Mem Go.Proofs.Each
set_option linter.unusedVariables false
set_option linter.unusedSimpArgs false
/-- a page's copy -/
theorem pg_copy (w : World) (xs : List Int) (hl : xs.length = 448) (hb : Bytes xs) (PZ : Array Value) (hz : PZ = pgC z448) :
    ∃ w3, (storeCells ⟨w.heap.size, 0, none⟩ (pgC xs).toList).run Try.prog (w.alloc (.cells PZ 64)) = .ok () w3 ∧ PgAt w3 w.heap.size xs ∧ Below w.heap.size w w3 := by
  have hs1 : (pgC xs).toList.length = 448 := by unfold pgC; simp [hl]
  have hs2 : (pgC z448).size = 448 := by unfold pgC z448; rw [List.size_toArray, List.length_map, List.length_replicate]
  have h0 : (w.alloc (.cells PZ 64)).heap[w.heap.size]? = some (.cells (pgC z448) 64 (0, 0)) := by rw [hz]; exact heap_alloc_new w _
  have hr := run_storeCells_at Try.prog w.heap.size 0 64 (pgC xs).toList 0 (pgC z448) _ h0 (by rw [hs1, hs2]; decide) (fun v hv => by
    unfold pgC at hv
    simp at hv
    obtain ⟨z, _, rfl⟩ := hv
    rfl)
  have e : ((pgC z448).toList.take (0 + 0) ++ (pgC xs).toList ++ (pgC z448).toList.drop (0 + 0 + (pgC xs).toList.length)).toArray = pgC xs := by
    rw [hs1, List.drop_eq_nil_of_le (by rw [Array.length_toList, hs2]; decide)]
    simp
  rw [e] at hr
  refine ⟨_, hr, ⟨setRow_heap _ _ _ _ _ _ h0, hl, hb⟩, ?_⟩
  exact ⟨rfl, rfl, rfl, by simp [World.setRow], fun k hk => by
    rw [setRow_other _ _ _ _ (by omega)]
    exact Below.heap_alloc w _ k hk⟩
/-- the first n slots of old are laid again -/
def gatherTo (old ys : List Int) : Nat → List Int
  | 0 => ys
  | n + 1 => if len old n = 0 then gatherTo old ys n else layP (gatherTo old ys n) n (dat old n)
def gatherP (xs : List Int) : List Int := gatherTo xs (setN (splice xs (16 + 4 * cnt xs) (List.replicate (448 - (16 + 4 * cnt xs)) 0)) 14 2 448) (cnt xs)
theorem wp_clear_pg (w : World) {o : Oper} {ac : Act} {K : Act → World → Prop} {Q : Exit → Act → World → Prop} (s : Operand)
    (ho : o.op = .call { callee := .builtin .clear, args := #[s], argTypes := #[31] }) (b a n c : Nat) (xs : List Int) (hp : PgAt w b xs) (hs : ac.eval s = .slice (some ⟨b, a, none⟩) n c) (hn : 0 < n) (hl : a + n ≤ 448)
    (h : ∀ w', PgAt w' b (splice xs a (List.replicate n 0)) → Fr (fun x => x = b) w w' → K (ac.put o.dst (.tuple #[])) w') : o.wp Try.prog ac w K Q := by
  obtain ⟨w', hrun, r1, r2⟩ := run_clear_pg (c := c) hp hn hl o.type
  unfold Oper.wp
  simp [execOp, ho, resolve, invoke, builtin, hs, hrun, Result.andThen]
  exact h w' r1 r2
set_option maxRecDepth 100000 in
set_option maxHeartbeats 4000000 in
theorem gather_any (w : World) (b : Nat) (xs : List Int) (h : PgAt w b xs) (hc : cnt xs ≤ 40) (hw : ∀ s, s < cnt xs → off xs s + len xs s ≤ 448)
    (hfit : ∀ n, n < cnt xs → len xs n ≠ 0 → len xs n ≤ low (gatherTo xs (setN (splice xs (16 + 4 * cnt xs) (List.replicate (448 - (16 + 4 * cnt xs)) 0)) 14 2 448) n) ∧ low (gatherTo xs (setN (splice xs (16 + 4 * cnt xs) (List.replicate (448 - (16 + 4 * cnt xs)) 0)) 14 2 448) n) ≤ 448) :
    Calls Try.prog 50 #[.pointer (some ⟨b, 0, none⟩)] w fun e w' => e = .returned (.tuple #[]) ∧ PgAt w' b (gatherP xs) ∧ Fr (fun x => x = b) w w' := by
  have HP := Lib.hid h
  obtain ⟨PZ, hPZ⟩ : ∃ PZ, PZ = pgC z448 := ⟨_, rfl⟩
  have hz : ∀ W : World, (zeroValue 64).run Try.prog W = .ok (.agg PZ) W := fun W => by rw [hPZ]; exact zeroPg W
  obtain ⟨w3, hst, pg3, hb3⟩ := pg_copy w xs h.len h.byt PZ hPZ
  have hs448 : (pgC xs).size = 448 := by unfold pgC; simp [h.len]
  have PC := Lib.hid pg3
  have HB3 := Lib.hid hb3
  have HSZ := Lib.hid (show (Try.prog.info? 64).map (·.size) = some (pgC xs).size by
    rw [show (pgC xs).size = 448 by unfold pgC; simp [h.len]]
    kernel_rfl)
  have PB3 := Lib.hid (h.later hb3)
  have CA := Lib.hid (count_any w3 b xs PB3.out)
  have HW := Lib.hid hw
  have HF := Lib.hid hfit
  have HG := Lib.hid (show gatherP xs = gatherTo xs (setN (splice xs (16 + 4 * cnt xs) (List.replicate (448 - (16 + 4 * cnt xs)) 0)) 14 2 448) (cnt xs) from rfl)
  rw [HG.out]
  obtain ⟨C, hC⟩ : ∃ C, C = cnt xs := ⟨_, rfl⟩
  rw [← hC] at CA hc HW HF ⊢
  have LEA := Lib.hid (fun W => listEnd_any W C (by omega) (C : Int) rfl)
  obtain ⟨e0, he0⟩ : ∃ e0, e0 = 16 + 4 * C := ⟨_, rfl⟩
  rw [← he0] at LEA HF ⊢
  obtain ⟨E, hE⟩ : ∃ E : Int, E = (e0 : Int) := ⟨_, rfl⟩
  rw [← hE] at LEA
  have HE := Lib.hid hE
  have c0 : (e0 : Int) = E := hE.symm
  have c1 : (0 : Int) ≤ E := by omega
  have c3 : E ≤ 448 := by omega
  have e1 : ((448 : Int) - E) = ((448 - e0 : Nat) : Int) := by omega
  have c4 : ¬ 448 - e0 = 0 := by omega
  have c5 : e0 < 448 := by omega
  have c6 : ¬ 448 ≤ e0 := by omega
  have c7 : ¬ 448 = e0 := by omega
  have c8 : E.toNat = e0 := by omega
  obtain ⟨ys0, hys0⟩ : ∃ ys0, ys0 = splice xs e0 (List.replicate (448 - e0) 0) := ⟨_, rfl⟩
  have HYS := Lib.hid hys0
  rw [← hys0] at HF ⊢
  have PU := Lib.hid (fun W (hp : PgAt W b ys0) => put_at W b ys0 hp 14 2 448 14 2 rfl rfl (by decide) (by decide) (by decide) (by decide))
  have HBW := Lib.hid (show b < w.heap.size from h.box.lt)
  obtain ⟨zs0, hzs0⟩ : ∃ zs0, zs0 = setN ys0 14 2 448 := ⟨_, rfl⟩
  rw [← hzs0] at HF ⊢
  have HZS := Lib.hid hzs0
  clear hPZ pg3 hb3 h hw hfit hC he0 hE hys0 hzs0
  go_enter Try.func50, Try.ntmps50
  go_upto_region 1 with fail
  refine wp_load_row 64 _ rfl b rfl 64 (pgC xs) (0, 0) _ HP.out.box Try.underlying64 rfl HSZ.out ?_
  go_wp2_with fail
  (with_reducible refine CA.out.mono ?_)
  rintro e wx ⟨rfl, rfl⟩
  clear hz hst hs448
  go_upto_region 2 with fail
  refine wp_region_end (by kernel_rfl) (by kernel_rfl) 6 (fun W W1 => Fr (fun x => x = b) W W1) (fun W => Fr (fun x => x = b) w3 W ∧ PgAt W b (splice xs e0 (List.replicate (448 - e0) 0))) [(fun v _ => v = .pointer (some ⟨b, 0, none⟩)), (fun v _ => v = .pointer (some ⟨b, 0, none⟩)), (fun v _ => v = .pointer (some ⟨b, 0, none⟩)), (fun v _ => v = .int .i64 C), (fun v _ => v = .int .i64 E), (fun v _ => v = .slice (some ⟨b, e0, none⟩) (448 - e0) (448 - e0)), (fun v _ => v = undef)] (fun W W' hb h => ⟨h.1.below hb, h.2.later hb⟩) ?_ (fun vals => ?_) (fun vals W hfin hall => ?_) (by decide)
  · intro j v W W' hj hr h
    match j, hj, h with
    | 0, _, h => exact h
    | 1, _, h => exact h
    | 2, _, h => exact h
    | 3, _, h => exact h
    | 4, _, h => exact h
    | 5, _, h => exact h
    | 6, hj, _ => exact absurd rfl hj
    | _ + 7, _, _ => trivial
  · simp only [ObL, Act.put, List.setIfInBounds_toArray, List.set_cons_succ, List.set_cons_zero]
    refine ⟨?_, ?_, ?_, ?_, ?_, ?_, ?_, trivial⟩
    · intro L W hL hk hC hw
      clear hw
      clear hL hC hk
      refine step_plain rfl ?_
      go_simp
      first | exact ⟨Re.same (by decide), Fe.val (by decide) rfl rfl⟩ | exact ⟨_, rfl, Re.same (by decide), Fe.val (by decide) rfl rfl⟩
    · intro L W hL hk hC hw
      have f0 : vals 0 = .pointer (some ⟨b, 0, none⟩) := Fe.get (hw ⟨0, .data⟩ (by simp) rfl) (by decide)
      clear hw
      clear hL hC hk
      refine step_plain rfl ?_
      go_simp
      first | exact ⟨Re.same (by decide), Fe.val (by decide) rfl rfl⟩ | exact ⟨_, rfl, Re.same (by decide), Fe.val (by decide) rfl rfl⟩
    · intro L W hL hk hC hw
      have f1 : vals 1 = .pointer (some ⟨b, 0, none⟩) := Fe.get (hw ⟨1, .data⟩ (by simp) rfl) (by decide)
      clear hw
      clear hL hC hk
      refine step_plain rfl ?_
      go_simp
      first | exact ⟨Re.same (by decide), Fe.val (by decide) rfl rfl⟩ | exact ⟨_, rfl, Re.same (by decide), Fe.val (by decide) rfl rfl⟩
    · intro L W hL hk hC hw
      clear hw
      clear hL hC hk
      refine step_plain rfl ?_
      go_simp
      first | exact ⟨Re.same (by decide), Fe.val (by decide) rfl rfl⟩ | exact ⟨_, rfl, Re.same (by decide), Fe.val (by decide) rfl rfl⟩
    · intro L W hL hk hC hw
      have f3 : vals 3 = .int .i64 C := Fe.get (hw ⟨3, .data⟩ (by simp) rfl) (by decide)
      clear hw
      have hb := hC (hL.not_yet hk 6 8 (by decide +kernel))
      have LE := Lib.hid (LEA.out W)
      clear hL hC hk hb
      refine step_plain rfl ?_
      go_simp
      (with_reducible refine LE.out.mono ?_)
      rintro e w8 ⟨rfl, rfl⟩
      first | exact ⟨Re.same (by decide), Fe.val (by decide) rfl rfl⟩ | exact ⟨_, rfl, Re.same (by decide), Fe.val (by decide) rfl rfl⟩
    · intro L W hL hk hC hw
      have f2 : vals 2 = .pointer (some ⟨b, 0, none⟩) := Fe.get (hw ⟨2, .data⟩ (by simp) rfl) (by decide)
      have f4 : vals 4 = .int .i64 E := Fe.get (hw ⟨4, .data⟩ (by simp) rfl) (by decide)
      clear hw
      clear hL hC hk
      refine step_plain rfl ?_
      go_simp
      first | exact ⟨Re.same (by decide), Fe.val (by decide) rfl rfl⟩ | exact ⟨_, rfl, Re.same (by decide), Fe.val (by decide) rfl rfl⟩
    · intro L W hL hk hC hw
      have f5 : vals 5 = .slice (some ⟨b, e0, none⟩) (448 - e0) (448 - e0) := Fe.get (hw ⟨5, .data⟩ (by simp) rfl) (by decide)
      clear hw
      have hb := hC hk
      have pg := PB3.out.later hb
      have hn0 : 0 < 448 - e0 := by omega
      have hn1 : e0 + (448 - e0) ≤ 448 := by omega
      clear hL hC hk
      refine step_plain rfl ?_
      refine wp_clear_pg W _ rfl b e0 (448 - e0) (448 - e0) xs pg f5 hn0 hn1 ?_
      intro w9 r9 g9
      first | exact ⟨_, rfl, Re.last g9, Fe.last ⟨(Fr.of_below hb).trans g9, r9⟩⟩ | exact ⟨Re.last g9, Fe.last ⟨(Fr.of_below hb).trans g9, r9⟩⟩ | exact ⟨Re.last g9, undef, Fe.last ⟨(Fr.of_below hb).trans g9, r9⟩⟩ | exact ⟨Re.last g9, _, Fe.last ⟨(Fr.of_below hb).trans g9, r9⟩⟩
  · simp only [TL, Act.put, List.setIfInBounds_toArray, List.set_cons_succ, List.set_cons_zero]
    obtain ⟨hf, hp⟩ := hfin
    rw [← HYS.out] at hp
    have F4 := Lib.hid hf
    have PP := Lib.hid (PU.out _ hp)
    have PC4 := Lib.hid (show PgAt W w.heap.size xs from ⟨PC.out.box.fr hf (fun e => by have := HBW.out; omega), PC.out.len, PC.out.byt⟩)
    clear hf hp hall
    go_wp2_with fail
    (with_reducible refine PP.out.mono ?_)
    rintro e w5 ⟨rfl, p5, f5⟩
    have P5 := Lib.hid p5
    have F5 := Lib.hid (F4.out.trans f5)
    have PC5 := Lib.hid (show PgAt w5 w.heap.size xs from ⟨PC4.out.box.fr f5 (fun e => by have := HBW.out; omega), PC4.out.len, PC4.out.byt⟩)
    clear p5 f5
    have P5' := Lib.hid (show PgAt w5 b zs0 by rw [HZS.out]; exact P5.out)
    clear P5
    go_wp2
    go_loopw [19] (fun x wr => ∃ n : Nat, n ≤ C ∧ x = .int .i64 n ∧ Hid (PgAt wr b (gatherTo xs zs0 n)) ∧ Hid (PgAt wr w.heap.size xs) ∧ Hid (Fr (fun x => x = b) w3 wr)) (fun x _ => C - (intOf x).toNat)
    case atStart => exact ⟨0, Nat.zero_le _, rfl, P5', PC5, F5⟩
    case round =>
      obtain ⟨n, hn, rfl, HB, HO, HFR⟩ := hrel
      by_cases hlt : n < C
      · have dn : decide ((n : Int) < (C : Int)) = true := by simp; omega
        have LS := Lib.hid (length_any wr w.heap.size xs HO.out n (by omega) (n : Int) rfl)
        have DA := Lib.hid (data_any wr w.heap.size xs HO.out n (by omega) (HW.out n hlt) (n : Int) rfl)
        have HFN := Lib.hid (HF.out n hlt)
        have HU := Lib.hid (show gatherTo xs zs0 (n + 1) = if len xs n = 0 then gatherTo xs zs0 n else layP (gatherTo xs zs0 n) n (dat xs n) from rfl)
        have HWN := Lib.hid (HW.out n hlt)
        obtain ⟨L, hL⟩ : ∃ L, L = len xs n := ⟨_, rfl⟩
        rw [← hL] at LS DA HFN HU HWN
        have HLL := Lib.hid hL
        have HLT := Lib.hid hlt
        clear hL hlt
        by_cases h0 : L = 0
        · subst h0
          have HB2 := Lib.hid (show PgAt wr b (gatherTo xs zs0 (n + 1)) by rw [HU.out, if_pos rfl]; exact HB.out)
          go_wp2_with fail
          (with_reducible refine LS.out.mono ?_)
          rintro e wx ⟨rfl, rfl⟩
          go_wp2
          go_roundw
          case rel => exact ⟨n + 1, HLT.out, by go_num, HB2, HO, HFR⟩
          case measure => have := HLT.out; simp [intOf]; omega
        · have b0 : ((L : Int) != 0) = true := by simp; omega
          rw [if_neg h0] at DA
          obtain ⟨O, hO⟩ : ∃ O, O = off xs n := ⟨_, rfl⟩
          rw [← hO] at DA HWN
          have HDL := Lib.hid (show (dat xs n).length = L by unfold dat; rw [List.length_take, List.length_drop, HO.out.len, ← hO, ← HLL.out]; have := HWN.out; omega)
          have LY := Lib.hid (fun d : Nat => lay_any (wr.drewN d) b (gatherTo xs zs0 n) (HB.out.later (below_drewN (Below.refl _ _) d)) n (by omega) (n : Int) rfl ⟨w.heap.size, O, none⟩ (448 - O) L (dat xs n) HDL.out (by omega) (bytes_seg HO.out.byt _ _) (wr.drewN d).heap.size (by
            have h9 := (HO.out.later (below_drewN (Below.refl wr.heap.size wr) d)).ir O L HWN.out
            rw [show (xs.drop O).take L = dat xs n by unfold dat; rw [← hO, ← HLL.out]] at h9
            exact h9) (by rw [HDL.out]; exact (HFN.out h0).1) (HFN.out h0).2)
          have HU2 := Lib.hid (show gatherTo xs zs0 (n + 1) = layP (gatherTo xs zs0 n) n (dat xs n) by rw [HU.out, if_neg h0])
          clear hO
          go_wp2_with fail
          (with_reducible refine LS.out.mono ?_)
          rintro e wx ⟨rfl, rfl⟩
          go_wp2_with fail
          (with_reducible refine DA.out.mono ?_)
          rintro e wx ⟨rfl, d, rfl⟩
          go_wp2_with fail
          (with_reducible refine (LY.out d).mono ?_)
          rintro e w6 ⟨rfl, p6, f6⟩
          have f6' : Fr (fun x => x = b) wr w6 := ((Fr.refl (fun x => x = b) wr).drewN d).trans f6
          have HB6 := Lib.hid (show PgAt w6 b (gatherTo xs zs0 (n + 1)) by rw [HU2.out]; exact p6)
          have HO6 := Lib.hid (show PgAt w6 w.heap.size xs from ⟨HO.out.box.fr f6' (fun e => by have := HBW.out; omega), HO.out.len, HO.out.byt⟩)
          have HF6 := Lib.hid (HFR.out.trans f6')
          clear p6 f6 f6'
          go_wp2
          go_roundw
          case rel => exact ⟨n + 1, HLT.out, by go_num, HB6, HO6, HF6⟩
          case measure => have := HLT.out; simp [intOf]; omega
      · have en : n = C := by omega
        have dn : decide ((n : Int) < (C : Int)) = false := by simp; omega
        have HBE := Lib.hid (show PgAt wr b (gatherTo xs zs0 C) by rw [← en]; exact HB.out)
        clear en hn
        go_wp2
        go_end0
        exact ⟨rfl, HBE.out, (Fr.of_below HB3.out).trans HFR.out⟩
end Go.Proofs.Ythbbnebanmpcjaa.Pg
